import PyProof.Rows.All
import Wide.All
import OpenK.AllK
import Wide.FinOn
import Lean
import PyProof.EqAt
import PyProof.EqKinds
import PyProof.TupleCall
import PySem.Challenge.RW_spinfloor_k63_deeds_done
open Array renaming length_toList → ME, toList_inj → NF, all_toList → NG
open Bool renaming false_ne_true → Lo, eq_iff_iff → Mp, and_eq_true → MC, false_and → Nq, false_eq_true → NA, or_false → NU
open Int renaming toNat_natCast → Ls, emod_lt_of_pos → LU, emod_nonneg → Mb, zero_add → Mq, toNat_of_nonneg → MV
open List renaming getElem?_eq_getElem → KR, getElem?_eq_some_iff → KS, length_append → KU, getElem?_append_right → KY, getElem?_append_left → KZ, mem_cons → K0, mem_of_getElem? → K1, length_map → K2, length_singleton → K4, mem_cons_of_mem → K6, mem_append → La, getElem?_map → Lb, getD_eq_getElem?_getD → Lc, mem_cons_self → Lg, nodup_cons → Li, mem_append_right → Lj, size_toArray → Lk, nodup_append → Lp, mem_map → Lq, map_cons → Lr, length_cons → Lw, map_append → Lz, length_set → LA, mem_append_left → LC, take_add_one → LD, length_range → LF, flatten_cons → LG, take_length → LJ, range → LK, getElem_mem → LM, getElem?_set → LN, mem_iff_getElem? → LO, mem_flatten → LP, mem_singleton → LR, length_take → LS, not_mem_nil → LW, flatten_append → LY, map_map → LZ, getElem?_set_self → L9, getElem?_set_ne → Mc, getElem?_range → Mf, length_drop → Mi, any_cons → Mm, getElem?_replicate → Ms, all_eq_true → Mt, replicate → Mu, mem_range → Mv, take_of_length_le → Mx, range_succ → MK, find?_cons → MM, length_pos_of_mem → MN, lookup → MP, take_append_drop → MT, getElem?_drop → MX, append_of_mem → MY, nodup_nil → M0, mem_or_eq_of_mem_set → M1, idxOf_lt_length_iff → M8, append_assoc → M9, length_eq_zero_iff → Nc, all_cons → Nd, cons_ne_nil → Nf, mem_filter → Nk, eq_nil_or_concat → Nl, concat_eq_append → Nm, append_nil → Nn, getElem_of_mem → Nt, filterMap_cons → Nu, map_take → Nx, map_drop → Ny, getElem?_take → Nz, lookup_cons → NC, cons_append → ND, of_mem_zip → NK, length_nil → NL, idxOf_lt_length_of_mem → NM, exists_cons_of_ne_nil → NO, getElem?_cons_succ → NT
open List.cons renaming inj → MU
open Nat renaming le_refl → K3, sub_self → Ln, lt_of_lt_of_le → Lx, ne_of_lt → Ly, le_trans → LH, lt_irrefl → LQ, zero_le → L8, le_of_lt → Md, mod_eq_of_lt → Mh, toDigits_of_lt_base → Mr, lt_succ_self → MB, not_lt_zero → MI, min_eq_left → MJ, le_succ → MO, toDigits → MQ, ne_of_gt → MR, lt_succ_of_lt → M7, add_sub_cancel_left → Nb, mod_self → Nj, lt_of_le_of_lt → Nw, testBit → NJ, testBit_or → NP
open Option renaming map_eq_some_iff → LI, isSome → MA, isSome_iff_exists → M6, map_some → Ni
open Option.some renaming inj → Lm
open PySem renaming Spec → Lh, mem_of_lookup → LX
open PySem.F renaming plainAttrs_list → Ld, type_list_append → Lu, slot_list_append → Lv, plainAttrs_str → LV, slot_str_join → Ml, slot_str_split → Mw, type_str_join → My, type_list_index → MG, slot_list_index → MH, type_list_insert → M3, slot_list_insert → M4, args_str_split_2 → M5, entry_str_split → Na, type_list_pop → Ng, slot_list_pop → Nh, slot_str_partition → NN, type_list_extend → NQ, slot_list_extend → NR
open PySem.NumText renaming digitsVal → NS
open PySem.Txt renaming split → Me
open PySem.W renaming Frag → KW, keepIn → K5, nsIn → K7, codeIn → K9, fnOf → Le, mg_of → Lf, findIn → Ll, mg_none_of → LB, kia_one → L0, emptyDict → Ma, plainGet → Mg, isFn → Mj, instObj → Mn, hasDictIn → Mo, plainOver → Mz, makesIn → MF, kitOne → MZ, lookIn → Np, plainGet_of → Nr, callWith_K → Nv, methodObj → NB, takerIn → NH, OpenLaw → NI
set_option Elab.async false
set_option linter.all false
set_option maxRecDepth 100000
local macro_rules | `(tactic| omega) => `(tactic| first | assumption | lia | omega +splitDisjunctions)
namespace L2
open PySem PySem.Spec PyProof.Rows
abbrev Key:=Sum Int Str
def Dq:Key->Value->Bool
 |.inl k,v=>Value.isInt k v
 |.inr x,v=>Value.isStrOf x v
def keyH(w:World):Key->Int
 |.inl k=>hashInt k
 |.inr x=>hashStr w x
theorem bu:∀{k:Key}{v:Value},Dq k v=true->(∃ i t,k=Sum.inl i/\v=Value.int i t)∨(∃ x t,k=Sum.inr x/\v=Value.str x t)
 |.inl i,v,h=>by
  obtain⟨t,e⟩:=Value.isInt_shape (k:=i) (v:=v) h
  exact .inl ⟨i,t,rfl,e⟩
 |.inr x,v,h=>by
  obtain⟨t,e⟩:=Value.isStrOf_shape (x:=x) (v:=v) h
  exact .inr ⟨x,t,rfl,e⟩
theorem FL(i:Int)(t:Tok):Dq (.inl i) (.int i t)=true:=by simp[Dq,Value.isInt]
theorem FK(x:Str)(t:Tok):Dq (.inr x) (.str x t)=true:=by simp[Dq,Value.isStrOf]
theorem key_ll(a b:Int):decide ((Sum.inl a:Key)=Sum.inl b)=(a == b):=by
 by_cases e:a=b
 ·subst e;simp
 ·have h:¬ (Sum.inl a:Key)=Sum.inl b:=fun q=>e (Sum.inl.inj q)
  rw[decide_eq_false h]
  exact(beq_eq_false_iff_ne.mpr e).symm
theorem key_rr(a b:Str):decide ((Sum.inr a:Key)=Sum.inr b)=decide (a=b):=by
 by_cases e:a=b
 ·subst e;simp
 ·have h:¬ (Sum.inr a:Key)=Sum.inr b:=fun q=>e (Sum.inr.inj q)
  rw[decide_eq_false h,decide_eq_false e]
theorem key_lr(a:Int)(b:Str):decide ((Sum.inl a:Key)=Sum.inr b)=false:=decide_eq_false (fun q=>nomatch q)
theorem key_rl(a:Str)(b:Int):decide ((Sum.inr a:Key)=Sum.inl b)=false:=decide_eq_false (fun q=>nomatch q)
def cV(prog:Program)(w:World):PySem.KeyKind prog w Key where
 is:=Dq
 hash:=keyH w
 inj:=fun v a b ha hb=>by
  rcases bu ha with⟨i,t,rfl,rfl⟩ | ⟨x,t,rfl,rfl⟩
  ·rcases bu hb with⟨j,u,rfl,e⟩ | ⟨y,u,rfl,e⟩
   ·injection e with e1 _;rw[e1]
   ·exact nomatch e
  ·rcases bu hb with⟨j,u,rfl,e⟩ | ⟨y,u,rfl,e⟩
   ·exact nomatch e
   ·injection e with e1 _;rw[e1]
 byValue:=fun k v h=>by
  rcases bu h with⟨i,t,rfl,rfl⟩ | ⟨x,t,rfl,rfl⟩<;>rfl
 pyHash:=fun hv h=>by
  rcases bu hv with⟨i,t,rfl,rfl⟩ | ⟨x,t,rfl,rfl⟩
  ·exact wpAny_pyHash_int h
  ·exact wpAny_pyHash_str h
 eqBool:=fun hu hv h=>by
  rcases bu hu with⟨i,t,rfl,rfl⟩ | ⟨x,t,rfl,rfl⟩
  ·rcases bu hv with⟨j,u,rfl,rfl⟩ | ⟨y,u,rfl,rfl⟩
   ·rw[key_ll]at h;exact wpAny_eqBool_int h
   ·rw[key_lr]at h;exact SeqAt.EqAt.int_str i t y u _ _ _ _ h
  ·rcases bu hv with⟨j,u,rfl,rfl⟩ | ⟨y,u,rfl,rfl⟩
   ·rw[key_rl]at h;exact SeqAt.EqAt.str_int x t j u _ _ _ _ h
   ·rw[key_rr]at h;exact wpAny_eqBool_str h
 «strs»:=fun k x t v h=>by
  rcases bu h with⟨i,u,rfl,e⟩ | ⟨y,u,rfl,e⟩
  ·exact nomatch e
  ·injection e with e1 _
   subst e1
   cases v<;>rfl
theorem zW(prog:Program)(w:World)(i:Int)(t:Tok):(cV prog w).is (.inl i) (.int i t)=true:=FL i t
theorem zV(prog:Program)(w:World)(x:Str)(t:Tok):(cV prog w).is (.inr x) (.str x t)=true:=FK x t
end L2
namespace L2
open PySem PySem.Spec PyProof.Rows
inductive V where
 |non | bl (b:Bool) | int (i:Int) | str (x:Str) | byt (b:Array UInt8) | flt (b:UInt64) | ref (a:Addr) | ty (n:String)
 deriving DecidableEq
def RelV:V->Value->Prop
 |.non,u=>u=Value.none
 |.bl b,u=>u=Value.bool b
 |.int i,u=>∃ t,u=Value.int i t
 |.str x,u=>∃ t,u=Value.str x t
 |.byt b,u=>∃ t,u=Value.bytes b t
 |.flt b,u=>∃ t,u=Value.float b t
 |.ref a,u=>u=Value.ref a
 |.ty n,u=>u=Value.type n
abbrev Vals:List V->List Value->Prop:=Paired RelV
theorem Vals.length{xs:List V}{us:List Value}(r:Vals xs us):xs.length=us.length:=Paired.length r
theorem Vals.get:∀{xs:List V}{us:List Value}{i:Nat}{x:V},Vals xs us->xs[i]?=some x->∃ u,us[i]?=some u/\RelV x u
 |_,_,_,_,.nil,e=>by simp at e
 |_,_,0,_,.cons r _,e=>by simp at e;subst e;exact⟨_,rfl,r⟩
 |_,_,i+1,x,.cons _ t,e=>by
  obtain⟨u,h1,h2⟩:=Vals.get (i:=i) (x:=x) t (by simpa using e)
  exact⟨u,by simpa using h1,h2⟩
theorem Vals.set{x:V}{u:Value}(r:RelV x u):∀{xs:List V}{us:List Value}(i:Nat),Vals xs us->Vals (xs.set i x) (us.set i u)
 |_,_,_,.nil=>.nil
 |_,_,0,.cons _ t=>.cons r t
 |_,_,i+1,.cons q t=>.cons q (Vals.set r i t)
theorem Vals.append:∀{xs ys:List V}{us ws:List Value},Vals xs us->Vals ys ws->Vals (xs++ys) (us++ws)
 |_,_,_,_,.nil,s=>s
 |_,_,_,_,.cons r t,s=>.cons r (Vals.append t s)
theorem Vals.take:∀{xs:List V}{us:List Value}(n:Nat),Vals xs us->Vals (xs.take n) (us.take n)
 |_,_,0,_=>.nil
 |_,_,_+1,.nil=>.nil
 |_,_,n+1,.cons r t=>.cons r (Vals.take n t)
theorem Vals.drop:∀{xs:List V}{us:List Value}(n:Nat),Vals xs us->Vals (xs.drop n) (us.drop n)
 |_,_,0,r=>r
 |_,_,_+1,.nil=>.nil
 |_,_,n+1,.cons _ t=>Vals.drop n t
def RelO:Option V->Option Value->Prop
 |some v,some u=>RelV v u
 |none,none=>True
 |_,_=>False
def KV{κ:Type}:List (κ×V)->List (κ×Value)->Prop:=Paired fun(p:κ×V) (q:κ×Value)=>p.1=q.1/\RelV p.2 q.2
def kV:Key->V
 |.inl i=>.int i
 |.inr x=>.str x
inductive HO where
  |lst (xs:List V)
  |tup (xs:List V)
  |dK (kvs:List (Key×V)) | dT (kvs:List (List Key×V))
  |set (S:Int->Bool) (n:Nat)
  |ins (C dx:Addr) (fs:List (Str×V))
  |own (x:Addr)
  |xd (fs:List (Str×V))
  |met (f x:Addr)
  |rng (lo hi:Int)
  |frz (o:Obj) (u:HO)
  |tbl (ps:Array Value)
  |ext (φ:Heap->Prop)
abbrev Hp:=Addr->Option HO
def upd(H:Hp)(a:Addr)(o:HO):Hp:=fun b=>if b=a then some o else H b
theorem ae{H:Hp}{a:Addr}{o:HO}:upd H a o a=some o:=by unfold upd;rw[if_pos rfl]
theorem aq{H:Hp}{a b:Addr}{o:HO}(h:b≠a):upd H a o b=H b:=by unfold upd;rw[if_neg h]
theorem ne_of{H:Hp}{a b:Addr}{o u:HO}(h:H a=some o)(h':H b=some u)(d:o≠u):a≠b:=by
 intro e;subst e;rw[h]at h';exact d (Lm h')
theorem ar{H:Hp}{a b:Addr}{o:HO}(h:H a=some o)(h':H b=none):a≠b:=by
 intro e;subst e;rw[h]at h';cases h'
section
variable(P:Program)(w:World)
def bV(H:Hp)(h:Heap)(a:Addr):HO->Prop
 |.lst xs=>xs.length<=sizeLine/\∃(its:List Value)(n:Nat),Vals xs its/\h.get? a=some { cls:=.type "list",data:=.seq its.toArray n }
 |.tup xs=>xs.length<=sizeLine/\∃ its:List Value,Vals xs its/\IsTup h a its.toArray
 |.dK kvs=>kvs.length<=sizeLine/\(a == sysModules)=false/\∃ vs,KV kvs vs/\h.DictOf (cV P w) a vs
 |.dT kvs=>kvs.length<=sizeLine/\(a == sysModules)=false/\∃ xs:List (List Key×Addr×Value),
   Paired (fun(p:List Key×V) (q:List Key×Addr×Value)=>p.1=q.1/\H q.2.1=some (.tup (p.1.map kV))/\RelV p.2 q.2.2) kvs xs /\
   ∃ o es ep,h.get? a=some o/\o.ExactDict/\o.data=.dict es ep/\es.toList=xs.map (entryOfKey (tupleKind (cV P w)))/\(xs.map (·.1)).Nodup
 |.set S n=>h.SetOf (intKind P w) a S n
 |.ins C dx fs=>H dx=some (.own a)/\fs.length<=1000/\dx≠a/\h.get? a=some (Mn C dx) /\
   ∃ mA,h.Ns1 dx mA/\(∀ f,RelO (fs.lookup f) (mA f))/\PySem.Within mA (fs.map (·.1))
 |.own _=>∃ o,h.get? a=some o
 |.xd fs=>∃ mA,h.Ns1 a mA/\∀ f,RelO (fs.lookup f) (mA f)
 |.rng lo hi=>∃ t u v,h.get? a=some { cls:=.type "range",data:=.fields #[.int lo t,.int hi u,.int 1 v] }
 |.frz o u=>h.get? a=some o/\bV H h a u
 |.tbl ps=>h.get? a=some { cls:=.none,data:=.fields ps }
 |.met f x=>h.get? a=some (NB (.ref f) (.ref x))
 |.ext φ=>φ h/\(∃ o,h.get? a=some o)/\∀ h1 h2:Heap,φ h1->(∀ o,h1.get? a=some o->h2.get? a=some o)->φ h2
def HOk(H:Hp)(h:Heap):Prop:=∀ a o,H a=some o->bV P w H h a o
end
section
variable{P:Program}{w:World}{H H':Hp}{h h':Heap}{a:Addr}{o:HO}
theorem bV.lt(x:bV P w H h a o):a<h.objs.size:=by
 cases o with
 |lst xs=>obtain⟨_,_,_,_,e⟩:=x;exact Heap.lt_size e
 |tup xs=>obtain⟨_,_,_,p⟩:=x;exact p.lt
 |dK kvs=>obtain⟨_,_,_,_,o,_,_,e,_⟩:=x;exact Heap.lt_size e
 |dT kvs=>obtain⟨_,_,_,_,o,_,_,e,_⟩:=x;exact Heap.lt_size e
 |set S n=>obtain⟨o,_,_,_,e,_⟩:=x;exact Heap.lt_size e
 |ins C dx fs=>obtain⟨_,_,_,e,_⟩:=x;exact Heap.lt_size e
 |own y=>obtain⟨_,e⟩:=x;exact Heap.lt_size e
 |xd fs=>obtain⟨_,⟨_,_,_,e,_⟩,_⟩:=x;exact Heap.lt_size e
 |rng lo hi=>obtain⟨_,_,_,e⟩:=x;exact Heap.lt_size e
 |frz ob u=>obtain⟨e,_⟩:=x;exact Heap.lt_size e
 |tbl ps=>exact Heap.lt_size (show h.get? a=some _ from x)
 |met f y=>exact Heap.lt_size (show h.get? a=some _ from x)
 |ext φ=>obtain⟨_,⟨_,e⟩,_⟩:=x;exact Heap.lt_size e
theorem Paired.mapP{α β:Type}{F G:α->β->Prop}:∀{l₁:List α}{l₂:List β},Paired F l₁ l₂->(∀ a b,F a b->G a b)->Paired G l₁ l₂
 |_,_,.nil,_=>.nil
 |_,_,.cons r t,f=>.cons (f _ _ r) (Paired.mapP t f)
theorem bV.stay(x:bV P w H h a o)(k:∀ b u,(b=a∨H b=some (.own a))->h.get? b=some u->h'.get? b=some u)
  (ho:∀ b,H b=some (.own a)->H' b=some (.own a)) (ht:∀ b xs,H b=some (.tup xs)->H' b=some (.tup xs)):bV P w H' h' a o:=by
 induction o with
 |lst xs=>obtain⟨z,its,n,r,e⟩:=x;exact⟨z,its,n,r,k _ _ (.inl rfl) e⟩
 |tup xs=>obtain⟨z,its,r,ob,e,c⟩:=x;exact⟨z,its,r,ob,k _ _ (.inl rfl) e,c⟩
 |dK kvs=>obtain⟨z,y,vs,r,ob,es,ep,e,c⟩:=x;exact⟨z,y,vs,r,ob,es,ep,k _ _ (.inl rfl) e,c⟩
 |dT kvs =>
  obtain⟨z,y,xs,r,ob,es,ep,e,c⟩:=x
  exact⟨z,y,xs,Paired.mapP r fun p q z=>⟨z.1,ht _ _ z.2.1,z.2.2⟩,ob,es,ep,k _ _ (.inl rfl) e,c⟩
 |set S n=>obtain⟨ob,es,ep,t,e,c⟩:=x;exact⟨ob,es,ep,t,k _ _ (.inl rfl) e,c⟩
 |ins C dx fs =>
  obtain⟨d,z,ne,e,mA,⟨od,es,ep,e2,c⟩,r⟩:=x
  exact⟨ho _ d,z,ne,k _ _ (.inl rfl) e,mA,⟨od,es,ep,k _ _ (.inr d) e2,c⟩,r⟩
 |own y=>obtain⟨ob,e⟩:=x;exact⟨ob,k _ _ (.inl rfl) e⟩
 |xd fs=>obtain⟨mA,⟨od,es,ep,e,c⟩,r⟩:=x;exact⟨mA,⟨od,es,ep,k _ _ (.inl rfl) e,c⟩,r⟩
 |rng lo hi=>obtain⟨t,u,v,e⟩:=x;exact⟨t,u,v,k _ _ (.inl rfl) e⟩
 |frz ob u ih=>obtain⟨e,q⟩:=x;exact⟨k _ _ (.inl rfl) e,ih q⟩
 |tbl ps =>
  have e:h.get? a=some { cls:=.none,data:=.fields ps }:=x
  show h'.get? a=some { cls:=.none,data:=.fields ps }
  exact k a _ (.inl rfl) e
 |met f y =>
  have e:h.get? a=some (NB (.ref f) (.ref y)):=x
  show h'.get? a=some (NB (.ref f) (.ref y))
  exact k a _ (.inl rfl) e
 |ext φ=>obtain⟨p,⟨o,e⟩,st⟩:=x;exact⟨st _ _ p fun o q=>k _ _ (.inl rfl) q,⟨o,k _ _ (.inl rfl) e⟩,st⟩
theorem HOk.lt(x:HOk P w H h)(e:H a=some o):a<h.objs.size:=(x a o e).lt
theorem HOk.fresh(x:HOk P w H h)(e:h.objs.size<=a):H a=none:=by
 cases q:H a with
 |none=>rfl
 |some u=>exact absurd (Lx (x.lt q) e) (LQ _)
theorem HOk.kept(x:HOk P w H h)(k:∀ b u,h.get? b=some u->h'.get? b=some u):HOk P w H h':=fun a o e =>
 (x a o e).stay (fun b u _ q=>k b u q) (fun _ q=>q) fun _ _ q=>q
theorem HOk.laid(x:HOk P w H h)(k:∀ b u,h.get? b=some u->h'.get? b=some u)(hp:h.objs.size<=a)(new:bV P w (upd H a o) h' a o):HOk P w (upd H a o) h':=fun b u e=>by
 have hn:=x.fresh hp
 by_cases hb:b=a
 ·subst hb;rw[ae]at e;cases e;exact new
 ·rw[aq hb]at e
  exact(x b u e).stay (fun c v _ q=>k c v q) (fun c q=>by rw[aq (ar q hn)];exact q) fun c xs q=>by rw[aq (ar q hn)];exact q
end
def Rd(H:Hp)(a:Addr)(u:HO):Prop:=H a=some u∨∃ o,H a=some (.frz o u)
theorem Rd.ok{P:Program}{w:World}{H:Hp}{h:Heap}{a:Addr}{u:HO}(r:Rd H a u)(x:HOk P w H h):bV P w H h a u:=by
 rcases r with r | ⟨o,r⟩
 ·exact x a u r
 ·obtain⟨_,q⟩:=x a _ r
  exact q
def Mut:Option HO->Prop
 |some (.lst _)=>True
 |some (.dK _)=>True
 |some (.dT _)=>True
 |some (.set _ _)=>True
 |some (.ins _ _ _)=>True
 |some (.ext _)=>True
 |_=>False
section
variable{P:Program}{w:World}{H:Hp}{h h':Heap}{x e:Addr}{o':HO}
theorem HOk.write(ok:HOk P w H h)(mu:Mut (H x))(he:e=x∨H e=some (.own x))(k:∀ b u,b≠e->h.get? b=some u->h'.get? b=some u)(heo:∃ u,h'.get? e=some u)
  (new:bV P w (upd H x o') h' x o'):HOk P w (upd H x o') h':=fun b u q=>by
 have nown:∀ c y,H c=some (.own y)->c≠x:=fun c y r z=>by subst z;rw[r]at mu;exact mu
 have ntup:∀ c xs,H c=some (.tup xs)->c≠x:=fun c xs r z=>by subst z;rw[r]at mu;exact mu
 by_cases hb:b=x
 ·subst hb;rw[ae]at q;cases q;exact new
 ·rw[aq hb]at q
  by_cases hbe:b=e
  ·have q':H b=some (.own x):=by
    rcases he with z | z
    ·exact absurd (hbe.trans z) hb
    ·rw[hbe];exact z
   rw[q]at q';cases q'
   obtain⟨v,hv⟩:=heo
   exact⟨v,by rw[hbe];exact hv⟩
  ·refine(ok b u q).stay (fun c v hc r=>k c v ?_ r) (fun c r=>by rw[aq (nown c b r)];exact r) fun c xs r=>by rw[aq (ntup c xs r)];exact r
   rcases hc with rfl | hc
   ·exact hbe
   ·rintro rfl
    rcases he with z | z
    ·exact nown c b hc z
    ·rw[hc]at z;cases z;exact hb rfl
end
structure Un(fs ex:List Addr)(H H':Hp)(h h':Heap):Prop where
 keep:∀ b o,h.get? b=some o->H b=none->b∉fs->b∉ex->h'.get? b=some o
 slot:∀ b o,h.get? b=some o->H b=none->b∈fs->b∉ex->∃ sl,h'.get? b=some { o with slots:=sl }
 free:∀ b o,h.get? b=some o->H b=none->b∉ex->H' b=none
 there:∀ b o,h.get? b=some o->b∉ex->∃ o',h'.get? b=some o'
 tups:∀ b xs,H b=some (.tup xs)->H' b=some (.tup xs)
 frzs:∀ b o u,H b=some (.frz o u)->H' b=some (.frz o u)
 tbls:∀ b ps,H b=some (.tbl ps)->∃ more,H' b=some (.tbl (ps++more))
section
variable{fs fs' ex ex':List Addr}{H H1 H2:Hp}{h h1 h2 h':Heap}{a x e:Addr}{o:HO}
theorem Un.any(u:Un fs ex H H1 h h1){b:Addr}{ob:Obj}(q:h.get? b=some ob)(n:H b=none)(hx:b∉ex):∃ sl,h1.get? b=some { ob with slots:=sl }:=by
 by_cases hb:b∈fs
 ·exact u.slot b ob q n hb hx
 ·exact⟨ob.slots,u.keep b ob q n hb hx⟩
theorem Un.kept(k:∀ b u,h.get? b=some u->h'.get? b=some u):Un fs ex H H h h' :=
 ⟨fun b ob q _ _ _=>k b ob q,fun b ob q _ _ _=>⟨ob.slots,k b ob q⟩,fun _ _ _ n _=>n,fun b ob q _=>⟨ob,k b ob q⟩,fun _ _ q=>q,fun _ _ _ q=>q,fun _ ps q=>⟨#[],by rw[q];simp⟩⟩
theorem Un.refl:Un fs ex H H h h:=Un.kept fun _ _ q=>q
theorem Un.laid(k:∀ b u,h.get? b=some u->h'.get? b=some u)(hp:h.objs.size<=a)(hn:H a=none):Un fs ex H (upd H a o) h h' where
 keep:=fun b u q _ _ _=>k b u q
 slot:=fun b u q _ _ _=>⟨u.slots,k b u q⟩
 free:=fun b u q n _=>by rw[aq (Ly (Lx (Heap.lt_size q) hp))];exact n
 there:=fun b u q _=>⟨u,k b u q⟩
 tups:=fun b xs q=>by rw[aq (ar q hn)];exact q
 frzs:=fun b u xs q=>by rw[aq (ar q hn)];exact q
 tbls:=fun b ps q=>⟨#[],by rw[aq (ar q hn),q];simp⟩
theorem Un.write(mu:Mut (H x))(he:e=x∨H e=some (.own x))(k:∀ b u,b≠e->h.get? b=some u->h'.get? b=some u)(heo:∃ u,h'.get? e=some u):Un fs ex H (upd H x o) h h':=by
 have hx:∀ b,H b=none->b≠x:=fun b n z=>by subst z;rw[n]at mu;exact mu
 have hb:∀ b,H b=none->b≠e:=fun b n z=>by
  subst z
  rcases he with r | r
  ·exact hx b n r
  ·rw[n]at r;cases r
 have hm:∀ b u,H b=some u->¬ Mut (some u)->b≠x:=fun b u q nm z=>by subst z;rw[q]at mu;exact nm mu
 refine⟨fun b u q n _ _=>k b u (hb b n) q,fun b u q n _ _=>⟨u.slots,k b u (hb b n) q⟩,fun b u q n _=>by rw[aq (hx b n)];exact n,fun b u q _=>?_,
  fun b xs q=>by rw[aq (hm b _ q fun z=>z)];exact q,fun b u xs q=>by rw[aq (hm b _ q fun z=>z)];exact q,fun b ps q=>⟨#[],by rw[aq (hm b _ q fun z=>z),q];simp⟩⟩
 by_cases hbe:b=e
 ·subst hbe;exact heo
 ·exact⟨u,k b u hbe q⟩
end
def trk(h:Heap)(H:Hp):List Addr:=(LK h.objs.size).filter fun a=>(H a).isSome
def hidT(h:Heap)(H:Hp):Heap:=PySem.W.hideAll h (trk h H)
theorem F3(h:Heap)(H:Hp):(hidT h H).objs.size=h.objs.size:=PySem.W.hideAll_size _ _
theorem Ic{h:Heap}{H:Hp}{b:Addr}{o:Obj}(e:h.get? b=some o)(n:H b=none):(hidT h H).get? b=some o :=
 PySem.W.hideAll_get _ e fun hm=>by
  have q:(H b).isSome=true:=(Nk.mp hm).2
  rw[n]at q;simp at q
theorem JS{h:Heap}{H:Hp}{b:Addr}{o:Obj}(e:(hidT h H).get? b=some o):h.get? b=some o/\H b=none:=by
 have e':h.get? b=some o:=PySem.W.of_hideAll (trk h H) e
 refine⟨e',?_⟩
 cases q:H b with
 |none=>rfl
 |some x =>
  have hm:b∈trk h H:=Nk.mpr ⟨Mv.mpr (Heap.lt_size e'),by simp[q]⟩
  have z:(hidT h H).get? b=none:=PySem.W.hideAll_none (trk h H) hm
  rw[z]at e;cases e
end L2
namespace L2
open PySem PySem.Spec PyProof.Rows
structure Mod(K:KW)(mg:Str->Option Value)(base:Heap):Prop where
 kin:K.In base
 glob:base.Ns mainGlobals mg
 blt:∃ mb,base.Ns builtinsNs mb/\∀ x:Str,x≠"__name__"->mb x=bootBuiltins x
 nolimit:base.NoLimit
structure Cx where
 prog:Program
 w:World
 K:KW
 mg:Str->Option Value
 base:Heap
 A:Around
 N:List Str
 s₀:Shared
 H₀:Hp
 env:Env
 outer:List Env
 stack:List Env
 ex:List Addr
 fn:Str->Bool
 calm:Bool
 pn:List (Addr×Obj)
 xe:Value->Shared->Prop
def frs(l:List Env):List Addr:=l.filterMap (·.frame)
abbrev Cx.fs(X:Cx):List Addr:=frs X.outer
def Vis(sc:Scope)(x:Str):Prop:=sc.names.lookup x=some .local∨sc.names.lookup x=some .cell∨sc.names.lookup x=some .free
def Loc(sc:Scope)(x:Str):Prop:=sc.names.lookup x=some .local∨sc.names.lookup x=some .cell
def Look(env:Env)(h:Heap)(m:Str->Option Value)(x:Str)(u:Value):Prop :=
 (env.kindOf x=some .local/\m x=some u)∨((env.kindOf x=some .cell∨env.kindOf x=some .free)/\∃ c,env.cells.lookup x=some c/\h.IsCell c (some u))
structure Cx.Ok(X:Cx):Prop where
 mod:Mod X.K X.mg X.base
 kind:X.env.scope.kind=.function
 glob:X.env.globals=mainGlobals
 blt:X.env.builtins=builtinsNs
 above:X.s₀.heap.objs.size<=X.env.locals
 inj:∀ x y c,X.env.cells.lookup x=some c->X.env.cells.lookup y=some c->x=y
 has:∀ x,(X.env.kindOf x=some .cell∨X.env.kindOf x=some .free)->∃ c,X.env.cells.lookup x=some c
 cab:∀ x c,X.fn x=true->X.env.cells.lookup x=some c->X.s₀.heap.objs.size<=c
 hd:X.calm=true->X.A.handled=none
 frames:X.A.frames=some X.stack
 stk:X.stack=X.outer∨(X.stack=X.env::X.outer/\X.env.frame=some X.env.locals)
 exf:∀ b∈X.ex,b≠X.env.locals/\∀ x c,X.env.cells.lookup x=some c->c≠b
 bs:∀ b o,X.base.get? b=some o->X.s₀.heap.get? b=some o/\X.H₀ b=none
 bsz:X.base.objs.size<=X.s₀.heap.objs.size
 noex:∀ b o,X.base.get? b=some o->b∉X.ex
 exfs:∀ b∈X.ex,b∉X.fs
 funs:X.s₀.heap.FunFrames X.base X.outer
 frf:∀ b∈X.fs,X.H₀ b=none
structure Inv(X:Cx)(pins:List (Addr×Obj))(σ:List (Option V))(H:Hp)(s:Shared):Prop where
 ok:X.Ok
 os:s.os=X.s₀.os
 bare:AllBare s.gens
 base:Un X.fs X.ex X.H₀ H X.s₀.heap s.heap
 loc:∃ m,s.heap.Ns X.env.locals m/\∀(i:Nat)(x:Str)(v:V),X.N[i]?=some x->σ[i]?=some (some v)->Vis X.env.scope x->∃ u,RelV v u/\Look X.env s.heap m x u
 cell:∀ x c,X.env.cells.lookup x=some c->∃ v,s.heap.IsCell c v
 free:H X.env.locals=none
 freeC:∀ x c,X.env.cells.lookup x=some c->H c=none
 pin:∀ p∈X.pn++pins,s.heap.get? p.1=some p.2/\H p.1=none/\p.1≠X.env.locals/\p.1∉X.fs/\∀ v,p.2.data≠.cell v
 hok:HOk X.prog X.w H s.heap
 len:σ.length=X.N.length
section
variable{X:Cx}{pins:List (Addr×Obj)}{σ:List (Option V)}{H H':Hp}{s:Shared}{h':Heap}
theorem Cx.Ok.nofr(ok:X.Ok){b:Addr}{o:Obj}(e:X.base.get? b=some o):b∉X.fs:=fun hb=>by
 have:=(ok.funs.mem hb).1
 rw[e]at this;cases this
theorem Inv.bs(I:Inv X pins σ H s):∀ b o,X.base.get? b=some o->s.heap.get? b=some o/\H b=none:=fun b o e =>
 ⟨I.base.keep b o (I.ok.bs b o e).1 (I.ok.bs b o e).2 (I.ok.nofr e) (I.ok.noex b o e),I.base.free b o (I.ok.bs b o e).1 (I.ok.bs b o e).2 (I.ok.noex b o e)⟩
theorem Inv.bk(I:Inv X pins σ H s):∀ b o,X.base.get? b=some o->s.heap.get? b=some o:=fun b o e=>(I.bs b o e).1
theorem Inv.mod(I:Inv X pins σ H s):Mod X.K X.mg X.base:=I.ok.mod
theorem Inv.kIn(I:Inv X pins σ H s):X.K.In s.heap:=I.ok.mod.kin.keeps I.bk
theorem Inv.lt(I:Inv X pins σ H s):X.env.locals<s.heap.objs.size:=let ⟨_,hn,_⟩:=I.loc;hn.lt
theorem Inv.sz(I:Inv X pins σ H s):X.s₀.heap.objs.size<=s.heap.objs.size:=LH I.ok.above (Md I.lt)
theorem Inv.nofs(I:Inv X pins σ H s){a:Addr}(h:s.heap.objs.size<=a):a∉X.fs:=fun hb=>by
 obtain⟨_,o,ho,_⟩:=I.ok.funs.mem hb
 exact absurd (Lx (Heap.lt_size ho) (LH I.sz h)) (LQ _)
theorem Inv.cne(I:Inv X pins σ H s):∀ x c,X.env.cells.lookup x=some c->c≠X.env.locals:=fun x c e z=>by
 obtain⟨v,o,ho,hd⟩:=I.cell x c e
 obtain⟨m,⟨o',es,ep,ho',hd',_⟩,_⟩:=I.loc
 rw[z,ho']at ho;cases ho;rw[hd']at hd;cases hd
theorem Inv.funs(I:Inv X pins σ H s):s.heap.FunFrames X.base X.outer:=by
 have all:∀(l:List Env),(∀ b∈frs l,b∈X.fs)->X.s₀.heap.FunFrames X.base l->s.heap.FunFrames X.base l:=by
  intro l
  induction l with
  |nil=>intro _ _;trivial
  |cons env r ih =>
   intro hs hl
   obtain⟨hk,⟨L,o,hf,hn,ho,hd⟩,hr⟩:=hl
   have hL:L∈X.fs:=hs L (by unfold frs;rw[Nu,hf];exact Lg)
   obtain⟨sl,e⟩:=I.base.slot L o ho (I.ok.frf L hL) hL fun z=>I.ok.exfs L z hL
   exact⟨hk,⟨L,_,hf,hn,e,hd⟩,ih (fun b hb=>hs b (by unfold frs;rw[Nu,hf];exact K6 _ hb)) hr⟩
 exact all X.outer (fun _ hb=>hb) I.ok.funs
theorem Inv.stack(I:Inv X pins σ H s):s.heap.FunFrames X.base X.stack:=by
 rcases I.ok.stk with e | ⟨e,hf⟩
 ·rw[e];exact I.funs
 ·rw[e]
  obtain⟨m,hn,_⟩:=I.loc
  refine .cons (by rw[I.ok.kind];decide) hf hn ?_ I.funs
  exact Heap.get?_none_of_le (LH I.ok.bsz I.ok.above)
theorem Inv.stkSub(I:Inv X pins σ H s):∀ b∈frs X.stack,b∈X.env.locals::X.fs:=fun b hb=>by
 rcases I.ok.stk with e | ⟨e,hf⟩
 ·rw[e]at hb;exact K6 _ hb
 ·rw[e]at hb
  unfold frs at hb
  rw[Nu,hf]at hb
  exact hb
theorem Inv.stkFree(I:Inv X pins σ H s):∀ b∈frs X.stack,H b=none:=fun b hb=>by
 rcases K0.mp (I.stkSub b hb)with e | hb
 ·rw[e];exact I.free
 ·obtain⟨_,o,ho,_⟩:=I.ok.funs.mem hb
  exact I.base.free b o ho (I.ok.frf b hb) fun z=>I.ok.exfs b z hb
theorem Inv.step{g':Array GenState}{t':Nat}{d':Drawn}{ch:List Addr}(I:Inv X pins σ H s)
  (hch:∀ b∈ch,(b∈X.ex∨X.s₀.heap.objs.size<=b)/\b≠X.env.locals/\(∀ x c,X.env.cells.lookup x=some c->c≠b)/\∀ p∈X.pn++pins,p.1≠b)
  (keep:∀ b o,b≠X.env.locals->b∉X.fs->b∉ch->s.heap.get? b=some o->H b=none->h'.get? b=some o)
  (slot:∀ b o,b≠X.env.locals->b∈X.fs->b∉ch->s.heap.get? b=some o->H b=none->∃ sl,h'.get? b=some { o with slots:=sl }) (free:∀ b o,b∉ch->s.heap.get? b=some o->H b=none->H' b=none)
  (there:∀ b o,b∉ch->s.heap.get? b=some o->∃ o',h'.get? b=some o')
  (tups:∀ b xs,H b=some (.tup xs)->H' b=some (.tup xs)) (frzs:∀ b o u,H b=some (.frz o u)->H' b=some (.frz o u)) (tbls:∀ b ps,H b=some (.tbl ps)->∃ more,H' b=some (.tbl (ps++more)))
  (ns:∀ m,s.heap.Ns X.env.locals m->h'.Ns X.env.locals m) (hok:HOk X.prog X.w H' h') (hg:AllBare g') :
  Inv X pins σ H' { s with heap:=h',gens:=g',drawn:=d',toks:=t' }:=by
 have neL:∀ b o,X.s₀.heap.get? b=some o->b≠X.env.locals:=fun b o e=>Ly (Lx (Heap.lt_size e) I.ok.above)
 have neC:∀ b o,X.s₀.heap.get? b=some o->b∉X.ex->b∉ch:=fun b o e hx hb=>by
  rcases(hch b hb).1 with z | z
  ·exact hx z
  ·exact absurd (Lx (Heap.lt_size e) z) (LQ _)
 have cellK:∀ x c,X.env.cells.lookup x=some c->∀ v,s.heap.IsCell c v->h'.IsCell c v:=fun x c e v ⟨o,ho,hd⟩=>by
  have nch:c∉ch:=fun z=>(hch c z).2.2.1 x c e rfl
  by_cases hc:c∈X.fs
  ·obtain⟨sl,q⟩:=slot c o (I.cne x c e) hc nch ho (I.freeC x c e)
   exact⟨_,q,hd⟩
  ·exact⟨o,keep c o (I.cne x c e) hc nch ho (I.freeC x c e),hd⟩
 refine⟨I.ok,I.os,hg,⟨fun b o e n hb hx=>?_,fun b o e n hb hx=>?_,fun b o e n hx=>?_,fun b o e hx=>?_,fun b xs e=>tups b xs (I.base.tups b xs e),fun b o xs e=>frzs b o xs (I.base.frzs b o xs e),fun b ps e=>?_⟩,?_,fun x c e=>?_,?_,fun x c e=>?_,fun p hp=>?_,hok,I.len⟩
 ·exact keep b o (neL b o e) hb (neC b o e hx) (I.base.keep b o e n hb hx) (I.base.free b o e n hx)
 ·obtain⟨sl,e1⟩:=I.base.slot b o e n hb hx
  obtain⟨sl',e2⟩:=slot b _ (neL b o e) hb (neC b o e hx) e1 (I.base.free b o e n hx)
  exact⟨sl',e2⟩
 ·obtain⟨o',e1⟩:=I.base.there b o e hx
  exact free b o' (neC b o e hx) e1 (I.base.free b o e n hx)
 ·obtain⟨o',e1⟩:=I.base.there b o e hx
  exact there b o' (neC b o e hx) e1
 ·obtain⟨m1,e1⟩:=I.base.tbls b ps e
  obtain⟨m2,e2⟩:=tbls b _ e1
  exact⟨m1++m2,by rw[e2,Array.append_assoc]⟩
 ·obtain⟨m,hn,hl⟩:=I.loc
  refine⟨m,ns m hn,fun i x v e1 e2 e3=>?_⟩
  obtain⟨u,r,l⟩:=hl i x v e1 e2 e3
  refine⟨u,r,?_⟩
  rcases l with l | ⟨k,c,e,z⟩
  ·exact .inl l
  ·exact .inr ⟨k,c,e,cellK x c e _ z⟩
 ·obtain⟨v,z⟩:=I.cell x c e
  exact⟨v,cellK x c e v z⟩
 ·obtain⟨m,⟨o,_,_,ho,_⟩,_⟩:=I.loc
  exact free _ o (fun z=>(hch _ z).2.1 rfl) ho I.free
 ·obtain⟨v,o,ho,hd⟩:=I.cell x c e
  exact free c o (fun z=>(hch c z).2.2.1 x c e rfl) ho (I.freeC x c e)
 ·obtain⟨e,n,ne,nf,d⟩:=I.pin p hp
  have nch:p.1∉ch:=fun z=>(hch p.1 z).2.2.2 p hp rfl
  exact⟨keep p.1 p.2 ne nf nch e n,free p.1 p.2 nch e n,ne,nf,d⟩
theorem Inv.un{t':Nat}(I:Inv X pins σ H s)(u:Un X.fs [] H H' s.heap h')(hok:HOk X.prog X.w H' h'):Inv X pins σ H' { s with heap:=h',toks:=t' }:=by
 obtain⟨m,⟨o,es,ep,ho,r⟩,_⟩:=id I.loc
 obtain⟨sl,hL⟩:=u.any ho I.free (by simp)
 exact I.step (g':=s.gens) (d':=s.drawn) (ch:=[]) (fun _ z=>nomatch z) (fun b o _ hb _ e n=>u.keep b o e n hb (by simp)) (fun b o _ hb _ e n=>u.slot b o e n hb (by simp)) (fun b o _ e n=>u.free b o e n (by simp)) (fun b o _ e=>u.there b o e (by simp)) u.tups u.frzs u.tbls (fun m' hm=>by
  obtain⟨o',es',ep',ho',r'⟩:=hm
  rw[ho]at ho';cases ho'
  exact⟨_,es',ep',hL,r'⟩) hok I.bare
theorem Inv.call{g':Array GenState}{t':Nat}{d':Drawn}{ch:List Addr}(I:Inv X pins σ H s)(u:Un (frs X.stack) ch H H' s.heap h')(hok:HOk X.prog X.w H' h')(hg:AllBare g')
  (hch:∀ b∈ch,(b∈X.ex∨X.s₀.heap.objs.size<=b)/\b≠X.env.locals/\(∀ x c,X.env.cells.lookup x=some c->c≠b)/\∀ p∈X.pn++pins,p.1≠b) :
  Inv X pins σ H' { s with heap:=h',gens:=g',drawn:=d',toks:=t' }:=by
 obtain⟨m,⟨o,es,ep,ho,r⟩,_⟩:=id I.loc
 obtain⟨sl,hL⟩:=u.any ho I.free fun z=>(hch _ z).2.1 rfl
 exact I.step (ch:=ch) hch (fun b o hL hb hc e n=>u.keep b o e n (fun z=>(K0.mp (I.stkSub b z)).elim hL hb) hc) (fun b o _ _ hc e n=>u.any e n hc) (fun b o hc e n=>u.free b o e n hc) (fun b o hc e=>u.there b o e hc) u.tups u.frzs u.tbls (fun m' hm=>by
  obtain⟨o',es',ep',ho',r'⟩:=hm
  rw[ho]at ho';cases ho'
  exact⟨_,es',ep',hL,r'⟩) hok hg
theorem Inv.turned{t':Nat}{it:Addr}(I:Inv X pins σ H s)(k:∀ b o,b≠it->s.heap.get? b=some o->h'.get? b=some o)(hn:H it=none)(hL:it≠X.env.locals)
  (h1:it∈X.ex∨X.s₀.heap.objs.size<=it) (h2:∀ x c,X.env.cells.lookup x=some c->c≠it) (h3:∀ p∈X.pn++pins,p.1≠it):Inv X pins σ H { s with heap:=h',toks:=t' }:=by
 have nit:∀ b u,H b=some u->b≠it:=fun b u e z=>by rw[z,hn]at e;cases e
 refine I.step (g':=s.gens) (d':=s.drawn) (ch:=[it]) (fun b hb=>?_) (fun b o _ _ hc e _=>k b o (fun z=>hc (by simp[z])) e) (fun b o _ _ hc e _=>⟨o.slots,k b o (fun z=>hc (by simp[z])) e⟩) (fun _ _ _ _ n=>n)
  (fun b o hc e=>⟨o,k b o (fun z=>hc (by simp[z])) e⟩) (fun _ _ e=>e) (fun _ _ _ e=>e) (fun b ps e=>⟨#[],by rw[e];simp⟩) (fun m hm=>?_) (fun b u e=>?_) I.bare
 ·have e:b=it:=by simpa using hb
  subst e
  exact⟨h1,hL,h2,h3⟩
 ·obtain⟨o,es,ep,ho,r⟩:=hm
  exact⟨o,es,ep,k _ o (Ne.symm hL) ho,r⟩
 ·refine(I.hok b u e).stay (fun c v hc q=>k c v ?_ q) (fun _ q=>q) fun _ _ q=>q
  rcases hc with z | z
  ·rw[z];exact nit b u e
  ·exact nit c _ z
theorem Inv.tok(I:Inv X pins σ H s)(t:Nat):Inv X pins σ H { s with toks:=t }:=I.un (h':=s.heap) (t':=t) Un.refl I.hok
theorem Inv.kept{t':Nat}(I:Inv X pins σ H s)(k:∀ b u,s.heap.get? b=some u->h'.get? b=some u):Inv X pins σ H { s with heap:=h',toks:=t' }:=I.un (Un.kept k) (I.hok.kept k)
theorem Inv.laid{a:Addr}{o:HO}{t':Nat}(I:Inv X pins σ H s)(k:∀ b u,s.heap.get? b=some u->h'.get? b=some u)(hp:s.heap.objs.size<=a)(new:bV X.prog X.w (upd H a o) h' a o) :
  Inv X pins σ (upd H a o) { s with heap:=h',toks:=t' }:=I.un (Un.laid k hp (I.hok.fresh hp)) (I.hok.laid k hp new)
theorem Inv.write{x e:Addr}{o:HO}{t':Nat}(I:Inv X pins σ H s)(mu:Mut (H x))(he:e=x∨H e=some (.own x))(k:∀ b u,b≠e->s.heap.get? b=some u->h'.get? b=some u)(heo:∃ u,h'.get? e=some u)
  (new:bV X.prog X.w (upd H x o) h' x o):Inv X pins σ (upd H x o) { s with heap:=h',toks:=t' }:=I.un (Un.write mu he k heo) (I.hok.write mu he k heo new)
theorem Inv.weak{σ':List (Option V)}(I:Inv X pins σ H s)(hl:σ'.length=σ.length)(w:∀ (i:Nat) v,σ'[i]?=some (some v)->σ[i]?=some (some v)):Inv X pins σ' H s :=
 ⟨I.ok,I.os,I.bare,I.base,let ⟨m,hn,hl'⟩:=I.loc;⟨m,hn,fun i x v e1 e2 e3=>hl' i x v e1 (w i v e2) e3⟩,I.cell,I.free,I.freeC,I.pin,I.hok,hl.trans I.len⟩
theorem Inv.pins_of{pins':List (Addr×Obj)}(I:Inv X pins σ H s)(h:∀ p∈pins',s.heap.get? p.1=some p.2/\H p.1=none/\p.1≠X.env.locals/\p.1∉X.fs/\∀ v,p.2.data≠.cell v):Inv X pins' σ H s :=
 ⟨I.ok,I.os,I.bare,I.base,I.loc,I.cell,I.free,I.freeC,fun p hp=>(La.mp hp).elim (fun z=>I.pin p (LC _ z)) (h p),I.hok,I.len⟩
theorem BO{N:List Str}(hN:N.Nodup){i j:Nat}{x:Str}(a:N[i]?=some x)(b:N[j]?=some x):i=j:=by
 obtain⟨h1,e1⟩:=KS.mp a
 obtain⟨h2,e2⟩:=KS.mp b
 exact(List.getElem_inj hN).mp (e1.trans e2.symm)
theorem Ep{M:Model}{A:Around}{E:Value->Shared->Prop}{i:Nat}{x:Str}{v:V}{u:Value}{Q:Unit->Shared->Prop}(I:Inv X pins σ H s)(hN:X.N.Nodup)(hi:X.N[i]?=some x)(hx:Loc X.env.scope x)(r:RelV v u)
  (h:∀ s',Inv X pins (σ.set i (some v)) H s'->(∃ a,Heap.SameBut a s.heap s'.heap/\(a=X.env.locals∨X.env.cells.lookup x=some a))->Q () s') (hf:X.fn x=true∨X.env.scope.names.lookup x=some .local:=by first | exact .inl rfl | exact .inr rfl | assumption):wpAny M A (storeName X.env x u) Q E s:=by
 obtain⟨m,hn,hl⟩:=id I.loc
 have hcls:(X.env.scope.kind == .class||(X.env.scope.kind == .module&&X.env.locals != X.env.globals))=false:=by rw[I.ok.kind];rfl
 have hiσ:i<σ.length:=by rw[I.len];exact(KS.mp hi).1
 have cne:=I.cne
 have tracked:∀{a:Addr}{h':Heap},(∃ o,s.heap.get? a=some o/\H a=none)->Heap.SameBut a s.heap h'->HOk X.prog X.w H h':=fun{a h'} ha hs b ob e=>by
  obtain⟨_,_,hfree⟩:=ha
  refine(I.hok b ob e).stay (fun c w' hc q=>(hs.2 c ?_).trans q) (fun _ q=>q) fun _ _ q=>q
  rintro rfl
  rcases hc with rfl | hc
  ·rw[hfree]at e;cases e
  ·rw[hfree]at hc;cases hc
 rcases hx with hk | hk
 ·refine wpAny_storeName_local hk hn (fun h' hn' hs=>?_) hcls
  obtain⟨oL,_,_,hoL,_⟩:=id hn
  refine h _ ⟨I.ok,I.os,I.bare,⟨fun b o e n hb hx=>?_,fun b o e n hb hx=>?_,I.base.free,fun b o e hx=>?_,I.base.tups,I.base.frzs,I.base.tbls⟩,⟨_,hn',fun j y v' e1 e2 e3=>?_⟩,fun y c e=>?_,I.free,I.freeC,fun p hp=>?_,tracked ⟨oL,hoL,I.free⟩ hs,by simpa using I.len⟩ ⟨_,hs,.inl rfl⟩
  ·exact(hs.2 b (Ly (Lx (Heap.lt_size e) I.ok.above))).trans (I.base.keep b o e n hb hx)
  ·obtain⟨sl,e1⟩:=I.base.slot b o e n hb hx
   exact⟨sl,(hs.2 b (Ly (Lx (Heap.lt_size e) I.ok.above))).trans e1⟩
  ·obtain⟨o',e1⟩:=I.base.there b o e hx
   exact⟨o',(hs.2 b (Ly (Lx (Heap.lt_size e) I.ok.above))).trans e1⟩
  ·by_cases hj:j=i
   ·subst hj
    rw[hi]at e1;cases e1
    rw[L9 hiσ]at e2
    cases e2
    exact⟨u,r,.inl ⟨hk,by simp⟩⟩
   ·rw[Mc (Ne.symm hj)]at e2
    obtain⟨u',r',q⟩:=hl j y v' e1 e2 e3
    refine⟨u',r',?_⟩
    rcases q with⟨k,e⟩ | ⟨k,c,e,z⟩
    ·refine .inl ⟨k,?_⟩
     have:y≠x:=fun e=>hj (BO hN e1 (e▸hi))
     simp[this,e]
    ·exact .inr ⟨k,c,e,z.sameBut hs (cne y c e)⟩
  ·obtain⟨w',z⟩:=I.cell y c e
   exact⟨w',z.sameBut hs (cne y c e)⟩
  ·obtain⟨e,n,ne,nf,d⟩:=I.pin p hp
   exact⟨(hs.2 p.1 ne).trans e,n,ne,nf,d⟩
 ·have hfn:X.fn x=true:=by
   rcases hf with z | z
   ·exact z
   ·rw[z]at hk;cases hk
  obtain⟨c,hc⟩:=I.ok.has x (.inl hk)
  obtain⟨w',z⟩:=I.cell x c hc
  refine wpAny_storeName_cell I.ok.kind hk hc z (fun h' hc' hs=>?_)
  obtain⟨oc,hoc,hocd⟩:=id z
  refine h { s with heap:=h' } ⟨I.ok,I.os,I.bare,⟨fun b o e n hb hx=>?_,fun b o e n hb hx=>?_,I.base.free,fun b o e hx=>?_,I.base.tups,I.base.frzs,I.base.tbls⟩,⟨m,hn.sameBut hs (Ne.symm (cne x c hc)),fun j y v' e1 e2 e3=>?_⟩,fun y c' e=>?_,I.free,I.freeC,fun p hp=>?_,tracked ⟨oc,hoc,I.freeC x c hc⟩ hs,by simpa using I.len⟩ ⟨c,hs,.inr hc⟩
  ·exact(hs.2 b (Ly (Lx (Heap.lt_size e) (I.ok.cab x c hfn hc)))).trans (I.base.keep b o e n hb hx)
  ·obtain⟨sl,e1⟩:=I.base.slot b o e n hb hx
   exact⟨sl,(hs.2 b (Ly (Lx (Heap.lt_size e) (I.ok.cab x c hfn hc)))).trans e1⟩
  ·obtain⟨o',e1⟩:=I.base.there b o e hx
   exact⟨o',(hs.2 b (Ly (Lx (Heap.lt_size e) (I.ok.cab x c hfn hc)))).trans e1⟩
  ·by_cases hj:j=i
   ·subst hj
    rw[hi]at e1;cases e1
    rw[L9 hiσ]at e2
    cases e2
    exact⟨u,r,.inr ⟨.inl hk,c,hc,hc'⟩⟩
   ·rw[Mc (Ne.symm hj)]at e2
    obtain⟨u',r',q⟩:=hl j y v' e1 e2 e3
    refine⟨u',r',?_⟩
    rcases q with q | ⟨k,c',e,z'⟩
    ·exact .inl q
    ·refine .inr ⟨k,c',e,z'.sameBut hs ?_⟩
     rintro rfl
     exact hj (BO hN e1 (I.ok.inj _ _ _ e hc▸hi))
  ·by_cases hcc:c'=c
   ·subst hcc;exact⟨_,hc'⟩
   ·obtain⟨w2,z2⟩:=I.cell y c' e
    exact⟨w2,z2.sameBut hs hcc⟩
  ·obtain⟨e,n,ne,nf,d⟩:=I.pin p hp
   refine⟨(hs.2 p.1 ?_).trans e,n,ne,nf,d⟩
   intro q
   rw[q,hoc]at e
   have q':oc=p.2:=Lm e
   exact d w' (by rw[← q'];exact hocd)
theorem sv{M:Model}{A:Around}{E:Value->Shared->Prop}{i:Nat}{x:Str}{v:V}{u:Value}{Q:Unit->Shared->Prop}(I:Inv X pins σ H s)(hN:X.N.Nodup)(hi:X.N[i]?=some x)(hx:Loc X.env.scope x)(r:RelV v u)
  (h:∀ s',Inv X pins (σ.set i (some v)) H s'->Q () s') (hf:X.fn x=true∨X.env.scope.names.lookup x=some .local:=by first | exact .inl rfl | exact .inr rfl | assumption):wpAny M A (storeName X.env x u) Q E s :=
 Ep I hN hi hx r (fun s' I' _=>h s' I') hf
theorem Inv.call'{s':Shared}{ch:List Addr}(I:Inv X pins σ H s)(ho:s'.os=s.os)(u:Un (frs X.stack) ch H H' s.heap s'.heap)(hok:HOk X.prog X.w H' s'.heap)(hg:AllBare s'.gens)
  (hch:∀ b∈ch,(b∈X.ex∨X.s₀.heap.objs.size<=b)/\b≠X.env.locals/\(∀ x c,X.env.cells.lookup x=some c->c≠b)/\∀ p∈X.pn++pins,p.1≠b):Inv X pins σ H' s':=by
 obtain⟨h',g',d',t',o'⟩:=s'
 have e:o'=s.os:=ho
 subst e
 exact I.call (g':=g') (t':=t') (d':=d') u hok hg hch
end
abbrev XK:=Value->Option Addr->Hp->Prop
abbrev St:=List (Option V)
abbrev VK:=V->Hp->Prop
abbrev TE:=St->Hp->VK->Prop
abbrev TT:=St->Hp->(Bool->Hp->Prop)->Prop
abbrev TA:=St->Hp->(List V->Hp->Prop)->Prop
structure Ends where
 nx:St->Hp->Prop
 rt:VK
 bk:St->Hp->Prop:=fun _ _=>False
 ct:St->Hp->Prop:=fun _ _=>False
abbrev TS:=Ends->St->Hp->Prop
def EP(X:Cx)(pins:List (Addr×Obj))(σ:St)(Q:VK)(u:Value)(s':Shared):Prop:=∃ v H',Inv X pins σ H' s'/\RelV v u/\Q v H'
def TP(X:Cx)(pins:List (Addr×Obj))(σ:St)(Q:Bool->Hp->Prop)(b:Bool)(s':Shared):Prop:=∃ H',Inv X pins σ H' s'/\Q b H'
def AP(X:Cx)(pins:List (Addr×Obj))(σ:St)(Q:List V->Hp->Prop)(us:List Value)(s':Shared):Prop:=∃ vs H',Inv X pins σ H' s'/\Vals vs us/\Q vs H'
def SP(X:Cx)(pins:List (Addr×Obj))(D:Ends)(f:Flow)(s':Shared):Prop :=
 match f with
 |.next=>∃ σ' H',Inv X pins σ' H' s'/\D.nx σ' H'
 |.brk=>∃ σ' H',Inv X pins σ' H' s'/\D.bk σ' H'
 |.cont=>∃ σ' H',Inv X pins σ' H' s'/\D.ct σ' H'
 |.ret u=>∃ v σ' H',Inv X pins σ' H' s'/\RelV v u/\D.rt v H'
def PE(X:Cx)(e:Expr)(t:TE):Prop :=
 ∀(pins:List (Addr×Obj))(s:Shared)(σ:St)(H:Hp)(Q:VK),Inv X pins σ H s->t σ H Q->wpAny (model X.prog X.w) X.A (eval e X.env) (EP X pins σ Q) X.xe s
def PT(X:Cx)(e:Expr)(t:TT):Prop :=
 ∀(pins:List (Addr×Obj))(s:Shared)(σ:St)(H:Hp)(Q:Bool->Hp->Prop),Inv X pins σ H s->t σ H Q->wpAny (model X.prog X.w) X.A (isTrue e X.env (eval e X.env)) (TP X pins σ Q) X.xe s
def PW(X:Cx)(e:Expr)(t:TT):Prop :=
 ∀(whole:Sem Value)(pins:List (Addr×Obj))(s:Shared)(σ:St)(H:Hp)(Q:Bool->Hp->Prop),Inv X pins σ H s->t σ H Q->wpAny (model X.prog X.w) X.A (isTrue e X.env whole) (TP X pins σ Q) X.xe s
theorem PW.pt{X:Cx}{e:Expr}{t:TT}(h:PW X e t):PT X e t:=h _
def PA(X:Cx)(es:List Expr)(t:TA):Prop :=
 ∀(pos:Pos)(pins:List (Addr×Obj))(s:Shared)(σ:St)(H:Hp)(Q:List V->Hp->Prop),Inv X pins σ H s->t σ H Q->wpAny (model X.prog X.w) X.A (spliced (backTo pos (starEach es X.env))) (AP X pins σ Q) X.xe s
def PS(X:Cx)(st:Stmt)(t:TS):Prop :=
 ∀(pins:List (Addr×Obj))(s:Shared)(σ:St)(H:Hp)(D:Ends),Inv X pins σ H s->t D σ H->wpAny (model X.prog X.w) X.A (exec st X.env) (SP X pins D) X.xe s
def PSs(X:Cx)(st:List Stmt)(t:TS):Prop :=
 ∀(pins:List (Addr×Obj))(s:Shared)(σ:St)(H:Hp)(D:Ends),Inv X pins σ H s->t D σ H->wpAny (model X.prog X.w) X.A (execs st X.env) (SP X pins D) X.xe s
theorem thn{α:Type}{t:Sem α}{Q Q':α->Shared->Prop}{M:Model}{A:Around}{E:Value->Shared->Prop}{s:Shared}(h:wpAny M A t Q E s)(hQ:∀ a s,Q a s->Q' a s):wpAny M A t Q' E s:=wpAny_mono h hQ fun _ _ x=>x
end L2
namespace L2
open PySem PySem.Spec PyProof.Rows
section
variable{X:Cx}
def tVar(i:Nat):TE:=fun σ H Q=>∃ v,σ[i]?=some (some v)/\Q v H
def tC(v:V):TE:=fun _ H Q=>Q v H
theorem pe_var{i:Nat}{x:Str}{pos:Pos}(hN:X.N[i]?=some x)(hv:Vis X.env.scope x) (hd:(x == ("__debug__" : Str))=false:=by decide) (hcd:(x == ("__classdict__" : Str))=false:=by decide):PE X (.Name x pos) (tVar i):=by
 intro pins s σ H Q I h
 obtain⟨v,e,h⟩:=h
 obtain⟨m,hn,hl⟩:=I.loc
 obtain⟨u,r,l⟩:=hl i x v hN e hv
 have fin:EP X pins σ Q u s:=⟨v,H,I,r,h⟩
 rcases l with⟨hk,hm⟩ | ⟨hk,c,hc,hcell⟩
 ·exact wpAny_Name (wpAny_loadName_local I.ok.kind hk hn hm fin) hd
 ·rcases hk with hk | hk
  ·exact wpAny_Name (wpAny_loadName_cell I.ok.kind hk hc hcell fin) hd
  ·exact wpAny_Name (wpAny_loadName_free I.ok.kind hk hc hcell fin hcd) hd
theorem ai{i j pos}:PE X (.Constant (.int i) j pos) (tC (.int i)):=fun _ _ _ H _ I h=>wpAny_Constant_int ⟨.int i,H,I.tok _,⟨_,rfl⟩,h⟩
theorem E7{b j pos}:PE X (.Constant (.bool b) j pos) (tC (.bl b)):=fun _ _ _ H _ I h=>Constant_bool ⟨.bl b,H,I,rfl,h⟩
theorem fz{j pos}:PE X (.Constant .none j pos) (tC .non):=fun _ _ _ H _ I h=>Constant_none ⟨.non,H,I,rfl,h⟩
theorem aS{x j pos}:PE X (.Constant (.str x) j pos) (tC (.str x)):=fun _ _ _ H _ I h=>Calls.Constant_str ⟨.str x,H,I.tok _,⟨_,rfl⟩,h⟩
def Gl(X:Cx)(x:Str):Prop:=X.env.kindOf x=some .globalImplicit
theorem Ac{E:Value->Shared->Prop}{pins:List (Addr×Obj)}{s:Shared}{σ:St}{H:Hp}{x:Str}{u:Value}{pos:Pos}{Q:Value->Shared->Prop}(I:Inv X pins σ H s)(hg:Gl X x)(hm:X.mg x=some u)(h:Q u s)
  (hd:(x == ("__debug__" : Str))=false:=by decide):wpAny (model X.prog X.w) X.A (eval (.Name x pos) X.env) Q E s :=
 Calls.Name_function_global I.ok.kind hg (Calls.loadGlobal_global (by rw[I.ok.glob];exact I.mod.glob.keeps I.bk) hm h) hd
theorem rN{E:Value->Shared->Prop}{pins:List (Addr×Obj)}{s:Shared}{σ:St}{H:Hp}{x:Str}{u:Value}{pos:Pos}{Q:Value->Shared->Prop}(I:Inv X pins σ H s)(hg:Gl X x)(hm:X.mg x=none)(hv:bootBuiltins x=some u)(h:Q u s)
  (hn:x≠"__name__":=by decide) (hd:(x == ("__debug__" : Str))=false:=by decide):wpAny (model X.prog X.w) X.A (eval (.Name x pos) X.env) Q E s:=by
 obtain⟨mb,h1,h2⟩:=I.mod.blt
 exact Calls.Name_function_global I.ok.kind hg (Calls.loadGlobal_builtin (by rw[I.ok.glob];exact I.mod.glob.keeps I.bk) hm (by rw[I.ok.blt];exact h1.keeps I.bk) ((h2 x hn).trans hv) h) hd
theorem JG{x:Str}{v:V}{u:Value}{pos:Pos}(hg:Gl X x)(hm:X.mg x=some u)(r:RelV v u) (hd:(x == ("__debug__" : Str))=false:=by decide):PE X (.Name x pos) (tC v) :=
 fun _ _ _ H _ I h=>Ac I hg hm ⟨v,H,I,r,h⟩ hd
theorem zz{x:Str}{v:V}{u:Value}{pos:Pos}(hg:Gl X x)(hm:X.mg x=none)(hv:bootBuiltins x=some u)(r:RelV v u) (hn:x≠"__name__":=by decide) (hd:(x == ("__debug__" : Str))=false:=by decide):PE X (.Name x pos) (tC v) :=
 fun _ _ _ H _ I h=>rN I hg hm hv ⟨v,H,I,r,h⟩ hn hd
variable{a b:Expr}{ta tb:TE}{pos:Pos}
def PC(X:Cx)(op:CmpOp)(a b:Expr)(t:TE):Prop :=
 ∀(pins:List (Addr×Obj))(s:Shared)(σ:St)(H:Hp)(Q:VK),Inv X pins σ H s->t σ H Q ->
  wpAny (model X.prog X.w) X.A (eval a X.env) (fun v s₁=>wpAny (model X.prog X.w) X.A (eval b X.env) (fun u s₂=>wpAny (model X.prog X.w) X.A (compareOp op v u) (EP X pins σ Q) X.xe s₂) X.xe s₁) X.xe s
def tB(t:TE):TT:=fun σ H Q=>t σ H fun x H1=>∃ c,x=.bl c/\Q c H1
theorem pt_cmp{op:CmpOp}{t:TE}(h:PC X op a b t)(h1:behindInMarks op b=false:=by first | exact nobehind _ (by decide) (by decide) | rfl):PT X (.Compare a [op] [b] pos) (tB t):=by
 intro pins s σ H Q I hw
 refine wpAny_isTrue_Compare1 (thn (h pins s σ H _ I hw) fun v s1 h1=>thn h1 fun u s2 h2=>thn h2 fun c s3 ⟨x,H1,I1,r1,q1⟩=>?_) h1
 obtain⟨d,rfl,q⟩:=q1
 cases r1
 exact wpAny_truthy_bool ⟨H1,I1,q⟩
theorem vJ{e:Expr}{t:TE}(h:PE X e t)(he:∀ whole,isTrue e X.env whole=(do let v ← whole;standAt e.pos;holding [v] (truthy v)):=by intro _;rfl):PT X e (tB t):=by
 intro pins s σ H Q I hw
 refine isTrue_plain (thn (h pins s σ H _ I hw) fun v s1 ⟨x,H1,I1,r1,q1⟩=>?_) (he _)
 obtain⟨d,rfl,q⟩:=q1
 cases r1
 exact wpAny_truthy_bool ⟨H1,I1,q⟩
variable{tA tB':TT}{rest:List Expr}
def tAnd(t u:TT):TT:=fun σ H Q=>t σ H fun c H1=>if c=true then u σ H1 Q else Q false H1
def tOr(t u:TT):TT:=fun σ H Q=>t σ H fun c H1=>if c=true then Q true H1 else u σ H1 Q
def tNot(t:TT):TT:=fun σ H Q=>t σ H fun c H1=>Q (!c) H1
theorem zd(ha:PT X a tA):PW X (.BoolOp .And [a] pos) tA:=by
 intro wh pins s σ H Q I h
 refine isTrue_and (thn (ha pins s σ H Q I h) fun c s1 e=>?_)
 cases c with
 |true=>exact isTrue_and_nil e
 |false=>exact e
theorem fu(ha:PT X a tA):PW X (.BoolOp .Or [a] pos) tA:=by
 intro wh pins s σ H Q I h
 refine isTrue_or (thn (ha pins s σ H Q I h) fun c s1 e=>?_)
 cases c with
 |false=>exact isTrue_or_nil e
 |true=>exact e
theorem EL(ha:PT X a tA)(hb:PW X (.BoolOp .And (b::rest) pos) tB'):PW X (.BoolOp .And (a::b::rest) pos) (tAnd tA tB'):=by
 intro wh pins s σ H Q I h
 refine isTrue_and (thn (ha pins s σ H _ I h) fun c s1 ⟨H1,I1,q1⟩=>?_)
 cases c with
 |true=>exact hb wh pins s1 σ H1 Q I1 q1
 |false=>exact⟨H1,I1,q1⟩
theorem gU(ha:PT X a tA)(hb:PW X (.BoolOp .Or (b::rest) pos) tB'):PW X (.BoolOp .Or (a::b::rest) pos) (tOr tA tB'):=by
 intro wh pins s σ H Q I h
 refine isTrue_or (thn (ha pins s σ H _ I h) fun c s1 ⟨H1,I1,q1⟩=>?_)
 cases c with
 |true=>exact⟨H1,I1,q1⟩
 |false=>exact hb wh pins s1 σ H1 Q I1 q1
theorem vK(ha:PT X a tA):PT X (.UnaryOp .Not a pos) (tNot tA):=by
 intro pins s σ H Q I h
 exact isTrue_not (ha pins s σ H (fun c H1=>Q (!c) H1) I h)
def tAndV(ta tb:TE):TE:=fun σ H Q=>ta σ H fun x H1=>∃ c,x=.bl c/\if c=true then tb σ H1 Q else Q (.bl false) H1
def tNotV(ta:TE):TE:=fun σ H Q=>ta σ H fun x H1=>∃ c,x=.bl c/\Q (.bl (!c)) H1
theorem IF{op}{t:TE}(h:PE X a t):PE X (.BoolOp op [a] pos) t:=fun pins s σ H Q I hw=>BoolOp_one (h pins s σ H Q I hw)
theorem IG(ha:PE X a ta)(hb:PE X (.BoolOp .And (b::rest) pos) tb):PE X (.BoolOp .And (a::b::rest) pos) (tAndV ta tb):=by
 intro pins s σ H Q I h
 refine BoolOp_and (thn (ha pins s σ H _ I h) fun v s1 ⟨x,H1,I1,r1,q1⟩=>?_)
 obtain⟨c,rfl,q1⟩:=q1
 cases r1
 refine wpAny_truthy_bool ?_
 cases c with
 |true=>exact hb pins s1 σ H1 Q I1 q1
 |false=>exact⟨.bl false,H1,I1,rfl,q1⟩
theorem pe_not(ha:PE X a ta):PE X (.UnaryOp .Not a pos) (tNotV ta):=by
 intro pins s σ H Q I h
 refine UnaryOp_ (thn (ha pins s σ H _ I h) fun v s1 ⟨x,H1,I1,r1,q1⟩=>?_)
 obtain⟨c,rfl,q1⟩:=q1
 cases r1
 exact not_of (wpAny_truthy_bool ⟨.bl (!c),H1,I1,rfl,q1⟩)
def tIf(t:TT)(ta tb:TE):TE:=fun σ H Q=>t σ H fun c H1=>if c=true then ta σ H1 Q else tb σ H1 Q
theorem kI{c:Expr}(hc:PT X c tA)(ha:PE X a ta)(hb:PE X b tb):PE X (.IfExp c a b pos) (tIf tA ta tb):=by
 intro pins s σ H Q I h
 refine wpAny_IfExp (thn (hc pins s σ H _ I h) fun d s1 ⟨H1,I1,q1⟩=>?_)
 cases d with
 |true=>exact ha pins s1 σ H1 Q I1 q1
 |false=>exact hb pins s1 σ H1 Q I1 q1
end
end L2
namespace L2
open PySem PySem.Spec PyProof.Rows
def SqL(K:KW)(H:Hp)(a:Addr)(xs:List V):Prop :=
 Rd H a (.lst xs) ∨
  ∃(o:Obj)(its:Array Value)(n:Nat),K.lookup a=some o/\o.cls=.type "list"/\o.dict=none/\o.data=.seq its n/\its.size<=sizeLine/\Vals xs its.toList
def SqT(K:KW)(H:Hp)(a:Addr)(xs:List V):Prop :=
 Rd H a (.tup xs) ∨
  ∃(o:Obj)(its:Array Value)(n:Nat),K.lookup a=some o/\o.cls=.type "tuple"/\o.data=.seq its n/\its.size<=sizeLine/\Vals xs its.toList
def absV:Value->Option V
 |.none=>some .non
 |.bool b=>some (.bl b)
 |.int i _=>some (.int i)
 |.str x _=>some (.str x)
 |.bytes b _=>some (.byt b)
 |.float b _=>some (.flt b)
 |.ref a=>some (.ref a)
 |.type n=>some (.ty n)
 |_=>none
theorem RelV.abs{x:V}{u:Value}(r:RelV x u):absV u=some x:=by
 cases x with
 |non=>cases r;rfl
 |bl _=>cases r;rfl
 |int _=>obtain⟨t,rfl⟩:=r;rfl
 |str _=>obtain⟨t,rfl⟩:=r;rfl
 |byt _=>obtain⟨t,rfl⟩:=r;rfl
 |flt _=>obtain⟨t,rfl⟩:=r;rfl
 |ref _=>cases r;rfl
 |ty _=>cases r;rfl
theorem RelV.inj{x y:V}{u:Value}(r:RelV x u)(q:RelV y u):x=y:=Lm (r.abs.symm.trans q.abs)
theorem Vals.inj:∀{xs ys:List V}{us:List Value},Vals xs us->Vals ys us->xs=ys
 |_,_,_,.nil,.nil=>rfl
 |_,_,_,.cons r t,.cons r' t'=>by rw[r.inj r',Vals.inj t t']
section
variable{X:Cx}{pins:List (Addr×Obj)}{σ:St}{H:Hp}{s:Shared}{a:Addr}{xs ys:List V}
theorem SqL.of{K:KW}(h:H a=some (.lst xs)):SqL K H a xs:=.inl (.inl h)
theorem SqT.of{K:KW}(h:H a=some (.tup xs)):SqT K H a xs:=.inl (.inl h)
theorem Inv.list(I:Inv X pins σ H s)(h:SqL X.K H a xs):∃ its:List Value,Vals xs its/\PlainL s.heap a its.toArray/\xs.length<=sizeLine:=by
 rcases h with h | ⟨o,its,n,hk,hc,hd,hs,hz,r⟩
 ·obtain⟨z,its,n,r,e⟩:=h.ok I.hok
  exact⟨its,r,⟨_,n,e,rfl,rfl,rfl⟩,z⟩
 ·refine⟨its.toList,r,⟨o,n,I.kIn a o hk,hc,hd,by simpa using hs⟩,?_⟩
  have e:=r.length
  simp only[ME]at e
  omega
theorem Inv.tuple(I:Inv X pins σ H s)(h:SqT X.K H a xs):∃ its:List Value,Vals xs its/\IsTup s.heap a its.toArray/\xs.length<=sizeLine:=by
 rcases h with h | ⟨o,its,n,hk,hc,hs,hz,r⟩
 ·obtain⟨z,its,r,p⟩:=h.ok I.hok
  exact⟨its,r,p,z⟩
 ·refine⟨its.toList,r,⟨o,I.kIn a o hk,hc,n,by simpa using hs⟩,?_⟩
  have e:=r.length
  simp only[ME]at e
  omega
theorem Inv.list_inj(I:Inv X pins σ H s)(h:SqL X.K H a xs)(h':SqL X.K H a ys):xs=ys:=by
 obtain⟨its,r,⟨o,n,e,_,_,d⟩,_⟩:=I.list h
 obtain⟨its',r',⟨o',n',e',_,_,d'⟩,_⟩:=I.list h'
 rw[e]at e';cases e'
 rw[d]at d'
 injection d' with d1 _
 have:its=its':=by simpa using congrArg Array.toList d1
 subst this
 exact r.inj r'
end
abbrev Cx.wish(X:Cx)(E:Value->Shared->Prop):Cx:={ X with xe:=E }
abbrev Cx.nox(X:Cx):Cx:=X.wish fun _ _=>False
theorem Cx.Ok.wish{X:Cx}(ok:X.Ok)(E:Value->Shared->Prop):(X.wish E).Ok :=
 ⟨ok.mod,ok.kind,ok.glob,ok.blt,ok.above,ok.inj,ok.has,ok.cab,ok.hd,ok.frames,ok.stk,ok.exf,ok.bs,ok.bsz,ok.noex,ok.exfs,ok.funs,ok.frf⟩
theorem Cx.Ok.unwish{X:Cx}{E:Value->Shared->Prop}(ok:(X.wish E).Ok):X.Ok :=
 ⟨ok.mod,ok.kind,ok.glob,ok.blt,ok.above,ok.inj,ok.has,ok.cab,ok.hd,ok.frames,ok.stk,ok.exf,ok.bs,ok.bsz,ok.noex,ok.exfs,ok.funs,ok.frf⟩
section
variable{X:Cx}{pins:List (Addr×Obj)}{σ:St}{H:Hp}{s:Shared}{E:Value->Shared->Prop}
theorem Inv.wish(I:Inv X pins σ H s)(E:Value->Shared->Prop):Inv (X.wish E) pins σ H s:=⟨I.ok.wish E,I.os,I.bare,I.base,I.loc,I.cell,I.free,I.freeC,I.pin,I.hok,I.len⟩
theorem Inv.unwish(I:Inv (X.wish E) pins σ H s):Inv X pins σ H s:=⟨I.ok.unwish,I.os,I.bare,I.base,I.loc,I.cell,I.free,I.freeC,I.pin,I.hok,I.len⟩
theorem SP.unwish{D:Ends}{f:Flow}{s':Shared}(h:SP (X.wish E) pins D f s'):SP X pins D f s':=by
 cases f with
 |next=>obtain⟨σ',H',I,q⟩:=h;exact⟨σ',H',I.unwish,q⟩
 |brk=>obtain⟨σ',H',I,q⟩:=h;exact⟨σ',H',I.unwish,q⟩
 |cont=>obtain⟨σ',H',I,q⟩:=h;exact⟨σ',H',I.unwish,q⟩
 |ret u=>obtain⟨v,σ',H',I,r,q⟩:=h;exact⟨v,σ',H',I.unwish,r,q⟩
theorem PSs.nox{st:List Stmt}{t:TS}(h:PSs X.nox st t):PSs X st t:=fun pins s σ H D I hw =>
 wpAny_mono (h pins s σ H D (I.wish _) hw) (fun _ _ q=>q.unwish) fun _ _ z=>False.elim z
end
section
variable{X:Cx}{st:Stmt}{rest:List Stmt}{t u:TS}{e:Expr}{te:TE}{pos:Pos}
def tNext:TS:=fun D σ H=>D.nx σ H
def tSeq(t u:TS):TS:=fun D σ H=>t { D with nx:=u D } σ H
theorem aQ:PSs X [] tNext:=fun _ _ σ H _ I h=>wpAny_execs_nil ⟨σ,H,I,h⟩
theorem ab(h1:PS X st t)(h2:PSs X rest u):PSs X (st::rest) (tSeq t u):=by
 intro pins s σ H D I h
 refine wpAny_execs_cons (thn (h1 pins s σ H { D with nx:=u D } I h) fun f s1 q=>?_)
 cases f with
 |next =>
  obtain⟨σ',H',I',q⟩:=q
  exact h2 pins s1 σ' H' D I' q
 |ret v=>exact q
 |brk=>exact q
 |cont=>exact q
theorem ak(h1:PS X st t):PSs X [st] t:=by
 intro pins s σ H D I h
 refine wpAny_execs_cons (thn (h1 pins s σ H D I h) fun f s1 q=>?_)
 cases f with
 |next=>exact wpAny_execs_nil q
 |ret v=>exact q
 |brk=>exact q
 |cont=>exact q
theorem Inv.quiet{pins:List (Addr×Obj)}{σ:St}{H:Hp}{s:Shared}(I:Inv X pins σ H s):interactive X.env=false:=by simp[interactive,I.ok.kind]
def tDrop(te:TE):TS:=fun D σ H=>te σ H fun _ H1=>D.nx σ H1
theorem aY(he:PE X e te)(hs:swapsWith e none pos.line X.env=pure false:=by rfl):PS X (.Expr e pos) (tDrop te):=by
 intro pins s σ H D I h
 exact wpAny_Expr_any (thn (he pins s σ H _ I h) fun v s1 ⟨x,H1,I1,r1,q1⟩=>⟨σ,H1,I1,q1⟩) I.quiet hs
def tRet(te:TE):TS:=fun D σ H=>te σ H D.rt
theorem aJ(he:PE X e te):PS X (.Return (some e) pos) (tRet te):=by
 intro pins s σ H D I h
 exact wpAny_Return_some (thn (he pins s σ H _ I h) fun v s1 ⟨x,H1,I1,r1,q1⟩=>⟨x,σ,H1,I1,r1,q1⟩)
def tIfS(c:TT)(t u:TS):TS:=fun D σ H=>c σ H fun b H1=>if b=true then t D σ H1 else u D σ H1
theorem bw{c:Expr}{a b:List Stmt}{tc:TT}(hc:PT X c tc)(ha:PSs X a t)(hb:PSs X b u):PS X (.If c a b pos) (tIfS tc t u):=by
 intro pins s σ H D I h
 refine wpAny_If (thn (hc pins s σ H _ I h) fun d s1 ⟨H1,I1,q1⟩=>?_)
 cases d with
 |true=>exact ha pins s1 σ H1 D I1 q1
 |false=>exact hb pins s1 σ H1 D I1 q1
def tNever:TS:=fun _ _ _=>False
theorem bh:PS X st tNever:=fun _ _ _ _ _ _ h=>h.elim
end
abbrev TG:=V->St->Hp->(St->Hp->Prop)->Prop
abbrev TGs:=List V->St->Hp->(St->Hp->Prop)->Prop
def PG(X:Cx)(target:Expr)(t:TG):Prop :=
 ∀(pins:List (Addr×Obj))(s:Shared)(σ:St)(H:Hp)(v:V)(u:Value)(Q:St->Hp->Prop),Inv X pins σ H s->RelV v u->t v σ H Q ->
  wpAny (model X.prog X.w) X.A (assign target X.env u) (fun _ s'=>∃ σ' H',Inv X pins σ' H' s'/\Q σ' H') X.xe s
def PGs(X:Cx)(ts:List Expr)(t:TGs):Prop :=
 ∀(pins:List (Addr×Obj))(s:Shared)(σ:St)(H:Hp)(vs:List V)(us:List Value)(Q:St->Hp->Prop),Inv X pins σ H s->Vals vs us->t vs σ H Q ->
  wpAny (model X.prog X.w) X.A (assignInOrder ((assignEach ts X.env).map (·.2)) us) (fun _ s'=>∃ σ' H',Inv X pins σ' H' s'/\Q σ' H') X.xe s
abbrev TSet:=V->V->V->Hp->(Hp->Prop)->Prop
def PSet(X:Cx)(t:TSet):Prop :=
 ∀(pins:List (Addr×Obj))(s:Shared)(σ:St)(H:Hp)(o i v:V)(ov iv u:Value)(Q:Hp->Prop),Inv X pins σ H s->RelV o ov->RelV i iv->RelV v u->t o i v H Q ->
  wpAny (model X.prog X.w) X.A (setItem ov iv u) (fun _ s'=>∃ H',Inv X pins σ H' s'/\Q H') X.xe s
section
variable{X:Cx}{pos:Pos}
def Kp(i:Nat):TG:=fun v σ H Q=>Q (σ.set i (some v)) H
theorem aW{i:Nat}{x:Str}(hN:X.N.Nodup)(hi:X.N[i]?=some x)(hx:Loc X.env.scope x)(hf:X.fn x=true∨X.env.scope.names.lookup x=some .local:=by first | exact .inl rfl | exact .inr rfl | assumption):PG X (.Name x pos) (Kp i):=by
 intro pins s σ H v u Q I r h
 exact wpAny_assign_Name (sv I hN hi hx r (fun s' I'=>⟨_,H,I',h⟩) hf)
def gNil:TGs:=fun vs σ H Q=>vs = []/\Q σ H
def gCons(t:TG)(u:TGs):TGs:=fun vs σ H Q=>∃ v r,vs=v::r/\t v σ H fun σ' H'=>u r σ' H' Q
theorem oM:PGs X [] gNil:=by
 intro pins s σ H vs us Q I r h
 obtain⟨e,h⟩:=h
 subst e
 cases r
 exact assignInOrder_nil ⟨σ,H,I,h⟩
theorem bX{e:Expr}{es:List Expr}{t:TG}{u:TGs}(h1:PG X e t)(h2:PGs X es u)
  (hs:(assignEach (e::es) X.env).map (·.2)=assign e X.env::(assignEach es X.env).map (·.2):=by rfl):PGs X (e::es) (gCons t u):=by
 intro pins s σ H vs us Q I r h
 obtain⟨v,vr,e1,h⟩:=h
 subst e1
 cases r with
 |cons r rr =>
  rw[hs]
  refine assignInOrder_cons (thn (h1 pins s σ H _ _ _ I r h) fun _ s1 ⟨σ1,H1,I1,q1⟩=>?_)
  exact h2 pins s1 σ1 H1 _ _ Q I1 rr q1
def gTup(K:KW)(n:Nat)(t:TGs):TG:=fun v σ H Q=>∃ a xs,v=.ref a/\SqT K H a xs/\xs.length=n/\t xs σ H Q
theorem BH{es:List Expr}{k:Nat}{t:TGs}{n:Nat}(hc:X.calm=true)(h:PGs X es t)
  (hn:(assignEach es X.env).length=n:=by rfl) (hst:(assignEach es X.env).findIdx? (·.1)=none:=by rfl):PG X (.Tuple es k pos) (gTup X.K n t):=by
 intro pins s σ H v u Q I r hw
 obtain⟨a,xs,e1,hq,hl,hw⟩:=hw
 subst e1
 cases r
 obtain⟨its,rv,ht,hz⟩:=I.tuple hq
 refine assign_Tuple_tuple (I.ok.hd hc) ht (by simp[hn,← hl,rv.length]) hst fun h' hx=>?_
 have I1:Inv X pins σ H { s with heap:=h' }:=I.kept (t':=s.toks) fun b o e=>hx b o (Ly (Heap.lt_size e)) e
 exact h pins _ σ H xs _ Q I1 (by simpa using rv) hw
def gSub(to ti:TE)(t:TSet):TG:=fun v σ H Q=>to σ H fun o H1=>ti σ H1 fun i H2=>t o i v H2 fun H3=>Q σ H3
theorem oN{o i:Expr}{to ti:TE}{t:TSet}(ho:PE X o to)(hi:PE X i ti)(hs:PSet X t)
  (ha:∀ v,assign (.Subscript o i pos) X.env v=(do
   let ov ← holding [v] (eval o X.env)
   let iv ← holding [v,ov] (eval i X.env)
   standAt pos
   holding [v,ov,iv] (setItem ov iv v)
   release [v,ov,iv] []):=by intro _;rfl):PG X (.Subscript o i pos) (gSub to ti t):=by
 intro pins s σ H v u Q I r h
 rw[ha]
 refine wpAny_bind (wpAny_holding (thn (ho pins s σ H _ I h) fun ov s1 ⟨x,H1,I1,r1,q1⟩=>?_))
 refine wpAny_bind (wpAny_holding (thn (hi pins s1 σ H1 _ I1 q1) fun iv s2 ⟨y,H2,I2,r2,q2⟩=>?_))
 refine wpAny_bind (wpAny_standAt (wpAny_bind (wpAny_holding (thn (hs pins s2 σ H2 x y v ov iv u _ I2 r1 r2 r q2) fun _ s3 ⟨H3,I3,q3⟩=>?_))))
 exact wpAny_release ⟨σ,H3,I3,q3⟩
def tAsg(te:TE)(g:TG):TS:=fun D σ H=>te σ H fun x H1=>g x σ H1 D.nx
theorem oG{tg e:Expr}{te:TE}{g:TG}(he:PE X e te)(hg:PG X tg g)(hs:swapsWithSole [tg] e pos.line X.env=pure false:=by rfl)(hw:swappedStores [tg] e X.env=pure none:=by rfl)
  (h1:(assignEach [tg] X.env).map (·.2) = [assign tg X.env]:=by rfl):PS X (.Assign [tg] e pos) (tAsg te g):=by
 intro pins s σ H D I h
 refine wpAny_Assign_stores (thn (he pins s σ H _ I h) fun v s1 ⟨x,H1,I1,r1,q1⟩=>?_) hs hw
 rw[h1]
 exact thn (hg pins s1 σ H1 x v _ I1 r1 q1) fun _ s2 q=>q
theorem av{i:Nat}{x:Str}{e:Expr}{te:TE}{pos':Pos}(hN:X.N.Nodup)(hi:X.N[i]?=some x)(hx:Loc X.env.scope x)(he:PE X e te)(hs:swapsWith e (some (.Name x pos')) pos.line X.env=pure false:=by rfl)(hf:X.fn x=true∨X.env.scope.names.lookup x=some .local:=by first | exact .inl rfl | exact .inr rfl | assumption) :
  PS X (.Assign [.Name x pos'] e pos) (tAsg te (Kp i)):=by
 intro pins s σ H D I h
 refine wpAny_Assign_Name (thn (he pins s σ H _ I h) fun v s1 ⟨y,H1,I1,r1,q1⟩=>?_) hs
 exact sv I1 hN hi hx r1 (fun s2 I2=>⟨_,H1,I2,q1⟩) hf
end
section
variable{X:Cx}{pos:Pos}
def IC(c:TT)(tb:TS):TS:=fun D σ H=>∃ W:Nat->St->Hp->Prop,(∃ m,W m σ H)/\∀ m σ H,W m σ H ->
 c σ H fun b H1=>if b=true then ∃ N:St->Hp->Prop,(∀ σ' H',N σ' H'->∃ m',m'<m/\W m' σ' H')/\tb { D with nx:=N,ct:=N,bk:=D.nx } σ H1 else D.nx σ H1
theorem nT{c:Expr}{body:List Stmt}{tc:TT}{tb:TS}(hp:PassesOwn (model X.prog X.w) X.A X.env X.xe)(hc:PT X c tc)(hb:PSs X body tb):PS X (.While c body [] pos) (IC tc tb):=by
 intro pins s σ H D I h
 obtain⟨W,⟨m0,w0⟩,turn⟩:=h
 refine wpAny_While (codeAny_whileLoop (fun n s'=>∃ σ' H',Inv X pins σ' H' s'/\W n σ' H') ?_ m0 ⟨σ,H,I,w0⟩)
 rintro n s1 ⟨σ1,H1,I1,w1⟩
 refine wpAny_passesOwn hp (thn (hc pins s1 σ1 H1 _ I1 (turn n σ1 H1 w1)) fun b s2 ⟨H2,I2,q2⟩=>?_)
 cases b with
 |true =>
  obtain⟨N,hN,q2⟩:=q2
  rw[if_pos rfl]
  refine wpAny_passesOwn hp (thn (hb pins s2 σ1 H2 _ I2 q2) fun f s3 q3=>?_)
  cases f with
  |next =>
   obtain⟨σ3,H3,I3,n3⟩:=q3
   obtain⟨m',hm,w3⟩:=hN σ3 H3 n3
   exact⟨m',hm,σ3,H3,I3,w3⟩
  |cont =>
   obtain⟨σ3,H3,I3,n3⟩:=q3
   obtain⟨m',hm,w3⟩:=hN σ3 H3 n3
   exact⟨m',hm,σ3,H3,I3,w3⟩
  |brk=>exact q3
  |ret v=>exact q3
 |false =>
  rw[if_neg Lo]
  exact wpAny_execs_nil ⟨σ1,H2,I2,q2⟩
end
structure It where
 go:Nat->Hp->Prop
 yld:Nat->Hp->V->Hp->Prop
 stop:Nat->Hp->Prop
def FpOk(X:Cx)(pins:List (Addr×Obj))(H:Hp)(b:Addr):Prop :=
 H b=none/\b≠X.env.locals/\b∉X.fs/\(b∈X.ex∨X.s₀.heap.objs.size<=b)/\(∀ x c,X.env.cells.lookup x=some c->c≠b)/\∀ p∈X.pn++pins,p.1≠b
theorem Inv.fpOk{X:Cx}{pins:List (Addr×Obj)}{σ:St}{H H':Hp}{s:Shared}{b:Addr}(I:Inv X pins σ H s)(hb:s.heap.objs.size<=b)(hn:H' b=none):FpOk X pins H' b:=by
 refine⟨hn,MR (Lx I.lt hb),I.nofs hb,.inr (LH I.sz hb),fun x c e z=>?_,fun p hp z=>?_⟩
 ·obtain⟨v,q⟩:=I.cell x c e
  exact absurd (Lx q.lt (by rw[z];exact hb)) (LQ _)
 ·exact absurd (Lx (Heap.lt_size (I.pin p hp).1) (by rw[z];exact hb)) (LQ _)
structure Turn(P:Program)(w:World)(K:KW)(tg:Expr)(J:It)(fp:List Addr)(it:Addr)(tn:Nat->Heap->Prop):Prop where
 mem:it∈fp
 obj:∀ i h,tn i h->∀ b∈fp,∃ o,h.get? b=some o/\∀ v,o.data≠.cell v
 keep:∀ i h h',tn i h->(∀ b∈fp,∀ o,h.get? b=some o->h'.get? b=some o)->tn i h'
 item:∀(X:Cx),X.prog=P->X.w=w->X.K=K->X.calm=true->∀(i:Nat)(pins:List (Addr×Obj))(s:Shared)(σ:St)(H:Hp)(E:Value->Shared->Prop),Inv X pins σ H s->(∀ b∈fp,FpOk X pins H b)->tn i s.heap->J.go i H ->
  wpAny (model P w) X.A (pyNext (.ref it)) (fun r s1=>∃ u,r=some u /\
   wpAny (model P w) X.A (letOwnedTupleGo tg (.ref it) u) (fun _ s2=>∃ x H',Inv X pins σ H' s2/\RelV x u/\J.yld i H x H'/\tn (i+1) s2.heap/\∀ b∈fp,H' b=none) E s1) E s
 done:∀(X:Cx),X.prog=P->X.w=w->X.K=K->X.calm=true->∀(i:Nat)(pins:List (Addr×Obj))(s:Shared)(σ:St)(H:Hp)(E:Value->Shared->Prop),Inv X pins σ H s->(∀ b∈fp,FpOk X pins H b)->tn i s.heap->J.stop i H ->
  wpAny (model P w) X.A (pyNext (.ref it)) (fun r s1=>r=none/\Inv X pins σ H s1) E s
 self:∀(A:Around)(i:Nat)(s:Shared)(Q:Value->Shared->Prop)(E:Value->Shared->Prop),tn i s.heap->Q (.ref it) s->wpAny (model P w) A (pyIter (.ref it)) Q E s
abbrev TI:=St->Hp->(It->Hp->Prop)->Prop
def PIE(X:Cx)(pins:List (Addr×Obj))(σ:St)(tg:Expr)(R:It->Hp->Prop)(itv:Value)(s2:Shared):Prop :=
 ∃(it:Addr)(fp:List Addr)(tn:Nat->Heap->Prop)(J:It)(H':Hp),itv=.ref it/\Inv X pins σ H' s2/\Turn X.prog X.w X.K tg J fp it tn/\tn 0 s2.heap/\(∀ b∈fp,FpOk X pins H' b)/\R J H'
def PI(X:Cx)(tg iter:Expr)(wi:TI):Prop :=
 ∀(pins:List (Addr×Obj))(s:Shared)(σ:St)(H:Hp)(R:It->Hp->Prop),Inv X pins σ H s->wi σ H R ->
  wpAny (model X.prog X.w) X.A (eval iter X.env) (fun v s1=>wpAny (model X.prog X.w) X.A (pyIter v) (PIE X pins σ tg R) X.xe s1) X.xe s
theorem Ie{M:Model}{A:Around}{E:Value->Shared->Prop}{s:Shared}{tg:Expr}{it:Addr}{u:Value}{o:Obj}{n:String}{vs:Array Value}{Q:Unit->Shared->Prop}(ho:s.heap.get? it=some o)(hc:o.cls=.type n)(hd:o.data=.fields vs)
  (hn : ["enumerate","zip","dict_itemiterator","dict_reverseitemiterator","odict_iterator","itertools.zip_longest","itertools.pairwise"].contains n=false) (hQ:Q () s):wpAny M A (letOwnedTupleGo tg (.ref it) u) Q E s:=by
 unfold letOwnedTupleGo
 cases tg<;>first
  |exact wpAny_pure hQ
  | (cases u<;>first
    |exact wpAny_pure hQ
    | (refine wpAny_bind (wpAny_load ho ?_)
       rw[hc,hd]
       show wpAny M A (if(["enumerate","zip","dict_itemiterator","dict_reverseitemiterator","odict_iterator","itertools.zip_longest","itertools.pairwise"].contains n&&vs[0]? == some (rawInt _))=true then _ else _) Q E s
       rw[if_neg (by intro h;rw[hn,Nq]at h;cases h)]
       exact wpAny_pure hQ))
def Itl(K:KW)(a:Addr):It :=
 ⟨fun i H=>∃ xs x,SqL K H a xs/\xs[i]?=some x,fun i H x H'=>H'=H/\∀ xs,SqL K H a xs->xs[i]?=some x,fun i H=>∃ xs,SqL K H a xs/\xs.length<=i⟩
def Itr(lo:Int)(n:Nat):It:=⟨fun i _=>i<n,fun i H x H'=>H'=H/\x=.int (lo+i),fun i _=>n<=i⟩
theorem El{P:Program}{w:World}{K:KW}{tg:Expr}(a it:Addr):Turn P w K tg (Itl K a) [it] it (fun i h=>h.IsListIter it a i) where
 mem:=by simp
 obj:=fun i h st b hb=>by
  have e:b=it:=by simpa using hb
  subst e
  obtain⟨o,e,c,d⟩:=st
  exact⟨o,e,fun v z=>by rw[d]at z;cases z⟩
 keep:=fun i h h' st k=>st.at fun o e=>k it (by simp) o e
 item:=by
  intro X hP hw hK hc i pins s σ H E I hf st hg
  subst hP hw hK
  obtain⟨xs,x,hq,hx⟩:=hg
  obtain⟨its,rv,p,hz⟩:=I.list hq
  obtain⟨u,hu,ru⟩:=rv.get hx
  obtain⟨f0,f1,f2,f3,f4,f5⟩:=hf it (by simp)
  refine wpAny_pyNext_list_item st p.isList (x:=u) (by simpa using hu) fun h' st' sb=>?_
  have I1:Inv X pins σ H { s with heap:=h' }:=I.turned (t':=s.toks) (fun b o hb e=>(sb.2 b hb).trans e) f0 f1 f3 f4 f5
  obtain⟨o,e,c,d⟩:=id st'
  exact⟨u,rfl,Ie (s:={ s with heap:=h' }) e c d (by decide) ⟨x,H,I1,ru,⟨rfl,fun ys hy=>by rw[I.list_inj hy hq];exact hx⟩,st',fun b hb=>(hf b hb).1⟩⟩
 done:=by
  intro X hP hw hK hc i pins s σ H E I hf st hg
  subst hP hw hK
  obtain⟨xs,hq,hx⟩:=hg
  obtain⟨its,rv,p,hz⟩:=I.list hq
  obtain⟨f0,f1,f2,f3,f4,f5⟩:=hf it (by simp)
  have hl:=rv.length
  exact wpAny_pyNext_list_end (I.ok.hd hc) st p.isList (by simp;omega) fun h' eb=>⟨rfl,I.turned (t':=s.toks) (fun b o hb e=>eb b o hb e) f0 f1 f3 f4 f5⟩
 self:=fun _ _ _ _ _ st h=>wpAny_pyIter_listiter st h
theorem Cj{P:Program}{w:World}{K:KW}{tg:Expr}(it:Addr)(lo:Int)(n:Nat):Turn P w K tg (Itr lo n) [it] it (fun i h=>IsRangeIter h it (lo+(i:Nat)*1) ((n:Int)-(i:Nat)) 1) where
 mem:=by simp
 obj:=fun i h st b hb=>by
  have e:b=it:=by simpa using hb
  subst e
  exact⟨_,st,fun v z=>by
   have z':Data.fields _=Data.cell v:=z
   cases z'⟩
 keep:=fun i h h' st k=>k it (by simp) _ st
 item:=by
  intro X hP hw hK hc i pins s σ H E I hf st hg
  subst hP hw hK
  obtain⟨f0,f1,f2,f3,f4,f5⟩:=hf it (by simp)
  have W:=Walks.range (prog:=X.prog) (w:=X.w) (I.ok.hd hc) it lo 1 n
  refine W.item i s _ _ hg st fun v h' tk hv st' kk=>?_
  obtain⟨t,rfl⟩:=hv
  have I1:Inv X pins σ H { s with heap:=h',toks:=tk }:=I.turned (fun b o hb e=>kk b o (by simpa using hb) e) f0 f1 f3 f4 f5
  refine⟨_,rfl,Ie (s:={ s with heap:=h',toks:=tk }) (n:="range_iterator") st' rfl rfl (by decide) ⟨.int (lo+i),H,I1,⟨t,?_⟩,⟨rfl,rfl⟩,st',fun b hb=>(hf b hb).1⟩⟩
  rw[Int.mul_one]
 done:=by
  intro X hP hw hK hc i pins s σ H E I hf st hg
  subst hP hw hK
  obtain⟨f0,f1,f2,f3,f4,f5⟩:=hf it (by simp)
  exact wpAny_pyNext_range_end (I.ok.hd hc) st (by have:n<=i:=hg;omega) fun h' eb=>⟨rfl,I.turned (t':=s.toks) (fun b o hb e=>eb b o hb e) f0 f1 f3 f4 f5⟩
 self:=fun _ _ _ _ _ st h=>wpAny_pyIter_rangeiter st h
end L2
namespace L2
open PySem PySem.Spec PyProof.Rows
section
variable{X:Cx}{tg:Expr}
def iList(K:KW)(tl:TE):TI:=fun σ H R=>tl σ H fun x H1=>∃ a,x=.ref a/\(∃ xs,SqL K H1 a xs)/\R (Itl K a) H1
theorem b7{l:Expr}{tl:TE}(hl:PE X l tl):PI X tg l (iList X.K tl):=by
 intro pins s σ H R I h
 refine thn (hl pins s σ H _ I h) fun v s1 ⟨x,H1,I1,r1,q1⟩=>?_
 obtain⟨a,e,⟨xs,hq⟩,q⟩:=q1
 subst e
 cases r1
 obtain⟨its,rv,p,hz⟩:=I1.list hq
 refine wpAny_pyIter_list p.isList ?_
 refine⟨s1.heap.objs.size,[s1.heap.objs.size],_,_,H1,rfl,I1.kept (t':=s1.toks) fun b o e=>Heap.get?_push_of_some _ e,El a _,⟨_,Heap.get?_push_size _ rfl,rfl,rfl⟩,fun b hb=>?_,q⟩
 have e:b=s1.heap.objs.size:=by simpa using hb
 subst e
 exact I1.fpOk (K3 _) (I1.hok.fresh (K3 _))
theorem Hu{pins:List (Addr×Obj)}{σ:St}{H:Hp}{s:Shared}{R:It->Hp->Prop}{E:Value->Shared->Prop}{lo hi:Int}{t u v:Tok}{tk:Nat}(I:Inv X pins σ H s)(h1 : -(2^62)<=lo)(h2:lo<2^62)(h3 : -(2^62)<=hi)(h4:hi<2^62)
  (q:R (Itr lo (hi-lo).toNat) H):wpAny (model X.prog X.w) X.A (pyIter (.ref s.heap.objs.size)) (PIE X pins σ tg R) E { s with heap:=s.heap.push { cls:=.type "range",data:=.fields #[.int lo t,.int hi u,.int 1 v] },toks:=tk }:=by
 refine wpAny_pyIter_range (IsRange.new ..) (small_one h1 h2 h3 h4) ?_
 have I1:Inv X pins σ H { s with heap:=s.heap.push { cls:=.type "range",data:=.fields #[.int lo t,.int hi u,.int 1 v] },toks:=tk }:=I.kept fun b o e=>Heap.get?_push_of_some _ e
 refine⟨(s.heap.push { cls:=.type "range",data:=.fields #[.int lo t,.int hi u,.int 1 v] }).objs.size,[(s.heap.push { cls:=.type "range",data:=.fields #[.int lo t,.int hi u,.int 1 v] }).objs.size],_,_,H,rfl,
  I1.kept (t':=tk) fun b o e=>Heap.get?_push_of_some _ e,Cj _ lo (hi-lo).toNat,?_,fun b hb=>?_,q⟩
 ·have e1:lo+((0:Nat):Int)*1=lo:=by simp
  have e2:(((hi-lo).toNat:Nat):Int)-((0:Nat):Int)=Builtin.Range.rangeSize lo hi 1:=by rw[rangeSize_one];split<;>omega +splitDisjunctions
  show IsRangeIter _ _ (lo+((0:Nat):Int)*1) ((((hi-lo).toNat:Nat):Int)-((0:Nat):Int)) 1
  rw[e1,e2]
  exact Heap.get?_push_size _ rfl
 ·have e:b=(s.heap.push { cls:=.type "range",data:=.fields #[.int lo t,.int hi u,.int 1 v] }).objs.size:=by simpa using hb
  subst e
  exact I1.fpOk (K3 _) (I1.hok.fresh (K3 _))
def iRng1(ta:TA):TI:=fun σ H R=>ta σ H fun vs H1=>∃ j:Int,vs = [.int j]/\-(2^62)<=j/\j<2^62/\R (Itr 0 j.toNat) H1
theorem bH{a:Expr}{ta:TA}{p pos:Pos} (hg:Gl X "range") (hm:X.mg "range" = none) (ha:PA X [a] ta) (hs:starEach [a] X.env = [(false,eval a X.env)]:=by rfl):PI X tg (.Call (.Name "range" p) [a] [] pos) (iRng1 ta):=by
 intro pins s σ H R I h
 refine Call_ (rN I hg hm boot_range (PyProof.Rows.callWith_type1 (thn (ha pos pins s σ H _ I h) fun us s1 ⟨vs,H1,I1,r1,q1⟩=>?_) hs rfl))
 obtain⟨j,e,q1,q2,q⟩:=q1
 subst e
 cases r1 with
 |cons r rr =>
  cases rr
  obtain⟨t,rfl⟩:=r
  exact call_range_1 (Hu I1 (by omega) (by omega) q1 q2 (by simpa using q))
def tFor(wi:TI)(g:TG)(tb:TS):TS:=fun D σ H=>wi σ H fun J H1=>∃ W:Nat->Nat->St->Hp->Prop,(∃ m,W 0 m σ H1)/\∀ i m σ H,W i m σ H ->
 (J.stop i H/\D.nx σ H)∨(J.go i H/\∃ N:St->Hp->Prop,(∀ σ' H',N σ' H'->∃ m',m'<m/\W (i+1) m' σ' H')/\∀ x H',J.yld i H x H'->g x σ H' fun σ2 H2=>tb { D with nx:=N,ct:=N,bk:=D.nx } σ2 H2)
def vX(fp:List Addr)(h:Heap):List (Addr×Obj):=fp.filterMap fun b=>(h.get? b).map fun o=>(b,o)
theorem fB{fp:List Addr}{h:Heap}{b:Addr}{o:Obj}(hb:b∈fp)(e:h.get? b=some o):(b,o)∈vX fp h:=List.mem_filterMap.mpr ⟨b,hb,by rw[e];rfl⟩
theorem Fm{fp:List Addr}{h:Heap}{p:Addr×Obj}(hp:p∈vX fp h):p.1∈fp/\h.get? p.1=some p.2:=by
 obtain⟨b,hb,e⟩:=List.mem_filterMap.mp hp
 cases q:h.get? b with
 |none=>rw[q]at e;cases e
 |some o =>
  rw[q]at e
  have e':(b,o)=p:=Lm e
  subst e'
  exact⟨hb,q⟩
theorem Inv.pinned{pins:List (Addr×Obj)}{σ:St}{H:Hp}{s:Shared}{fp:List Addr}(I:Inv X pins σ H s)(hf:∀ b∈fp,FpOk X pins H b)(ho:∀ b∈fp,∃ o,s.heap.get? b=some o/\∀ v,o.data≠.cell v):Inv X (pins++vX fp s.heap) σ H s :=
 I.pins_of fun p hp=>(La.mp hp).elim (fun z=>I.pin p (Lj _ z)) fun z=>by
  obtain⟨hb,e⟩:=Fm z
  obtain⟨f0,f1,f2,_⟩:=hf p.1 hb
  obtain⟨o,e',d⟩:=ho p.1 hb
  rw[e]at e';cases e'
  exact⟨e,f0,f1,f2,d⟩
theorem Inv.unpinned{pins pl:List (Addr×Obj)}{σ:St}{H:Hp}{s:Shared}(I:Inv X (pins++pl) σ H s):Inv X pins σ H s:=I.pins_of fun p hp=>I.pin p (Lj _ (LC _ hp))
theorem cG{iter:Expr}{body:List Stmt}{wi:TI}{g:TG}{tb:TS}{pos:Pos}(hp:PassesOwn (model X.prog X.w) X.A X.env X.xe)(hc:X.calm=true)(hi:PI X tg iter wi)(hg:PG X tg g)(hb:PSs X body tb)
  (hs:∀ x,foldedSetIterable iter X.env x=pure x:=by intro _;rfl):PS X (.For tg iter body [] pos) (tFor wi g tb):=by
 intro pins s σ H D I h
 refine wpAny_For (thn (hi pins s σ H _ I h) fun v s1 h1=>thn h1 fun itv s2 h2=>?_) hs
 obtain⟨it,fp,tn,J,H2,e,I2,T,st2,f2,W,⟨m0,w0⟩,turn⟩:=h2
 subst e
 have stat:∀{H':Hp},(∀ b∈fp,H' b=none)->∀ b∈fp,FpOk X pins H' b:=fun hn b hb=>⟨hn b hb,(f2 b hb).2⟩
 refine codeAny_forLoop_any (fun n s'=>∃ i σ' H',Inv X pins σ' H' s'/\tn i s'.heap/\(∀ b∈fp,H' b=none)/\W i n σ' H') ?_ m0 ⟨0,σ,H2,I2,st2,fun b hb=>(f2 b hb).1,w0⟩
 rintro n s3 ⟨i,σ3,H3,I3,st3,fr3,w3⟩
 rcases turn i n σ3 H3 w3 with⟨stop,qn⟩ | ⟨go,N,hN,step⟩
 ·refine wpAny_passesOwn hp (thn (T.done X rfl rfl rfl hc i pins s3 σ3 H3 X.xe I3 (stat fr3) st3 stop) fun r s4 ⟨hr,I4⟩=>?_)
  subst hr
  exact wpAny_execs_nil ⟨σ3,H3,I4,qn⟩
 ·refine wpAny_passesOwn hp (thn (T.item X rfl rfl rfl hc i pins s3 σ3 H3 X.xe I3 (stat fr3) st3 go) fun r s4 ⟨u,hr,h4⟩=>?_)
  subst hr
  refine wpAny_passesOwn hp (thn h4 fun _ s5 ⟨x,H5,I5,r5,y5,st5,fr5⟩=>?_)
  have I5':=I5.pinned (stat fr5) (T.obj _ _ st5)
  refine wpAny_passesOwn hp (thn (hg _ s5 σ3 H5 x u _ I5' r5 (step x H5 y5)) fun _ s6 ⟨σ6,H6,I6,q6⟩=>?_)
  refine wpAny_passesOwn hp (thn (hb _ s6 σ6 H6 _ I6 q6) fun f s7 q7=>?_)
  have again:∀{σ7:St}{H7:Hp},Inv X (pins++vX fp s5.heap) σ7 H7 s7->N σ7 H7->∃ m,m<n/\∃ i σ' H',Inv X pins σ' H' s7/\tn i s7.heap/\(∀ b∈fp,H' b=none)/\W i m σ' H':=fun{σ7 H7} I7 n7=>by
   obtain⟨m',hm,w7⟩:=hN σ7 H7 n7
   refine⟨m',hm,i+1,σ7,H7,I7.unpinned,T.keep _ _ _ st5 fun b hb o e=>(I7.pin (b,o) (Lj _ (Lj _ (fB hb e)))).1,fun b hb=>?_,w7⟩
   obtain⟨o,e,d⟩:=T.obj _ _ st5 b hb
   exact(I7.pin (b,o) (Lj _ (Lj _ (fB hb e)))).2.1
  cases f with
  |next=>obtain⟨σ7,H7,I7,n7⟩:=q7;exact again I7 n7
  |cont=>obtain⟨σ7,H7,I7,n7⟩:=q7;exact again I7 n7
  |brk=>obtain⟨σ7,H7,I7,q7⟩:=q7;exact⟨σ7,H7,I7.unpinned,q7⟩
  |ret v=>obtain⟨x7,σ7,H7,I7,r7,q7⟩:=q7;exact⟨x7,σ7,H7,I7.unpinned,r7,q7⟩
end
theorem i8{K:KW}{a:Addr}{xs:List V}{g:TG}{tb:TS}{D:Ends}{σ:St}{H:Hp}(Pv:Nat->St->Hp->Prop)(h0:Pv 0 σ H)(hl:∀ i σ H,i<=xs.length->Pv i σ H->SqL K H a xs)
  (hs:∀ i x σ H,xs[i]?=some x->Pv i σ H->g x σ H fun σ2 H2=>tb { D with nx:=Pv (i+1),ct:=Pv (i+1),bk:=D.nx } σ2 H2) (hd:∀ σ H,Pv xs.length σ H->D.nx σ H) :
  ∃ W:Nat->Nat->St->Hp->Prop,(∃ m,W 0 m σ H)/\∀ i m σ H,W i m σ H ->
   ((Itl K a).stop i H/\D.nx σ H)∨((Itl K a).go i H/\∃ N:St->Hp->Prop,(∀ σ' H',N σ' H'->∃ m',m'<m/\W (i+1) m' σ' H')/\∀ x H',(Itl K a).yld i H x H'->g x σ H' fun σ2 H2=>tb { D with nx:=N,ct:=N,bk:=D.nx } σ2 H2):=by
 refine⟨fun i m σ H=>m=xs.length-i/\i<=xs.length/\Pv i σ H,⟨xs.length,by simp,L8 _,h0⟩,?_⟩
 rintro i m σ H ⟨rfl,hi,p⟩
 have q:=hl i σ H hi p
 by_cases hlt:i<xs.length
 ·refine .inr ⟨⟨xs,xs[i],q,by simp[hlt]⟩,Pv (i+1),fun σ' H' p'=>⟨xs.length-(i+1),by omega,rfl,hlt,p'⟩,fun x H' y=>?_⟩
  obtain⟨e,y⟩:=y
  subst e
  exact hs i x σ _ (y xs q) p
 ·have e:i=xs.length:=by omega
  subst e
  exact .inl ⟨⟨xs,q,K3 _⟩,hd σ H p⟩
theorem cD{lo:Int}{n:Nat}{g:TG}{tb:TS}{D:Ends}{σ:St}{H:Hp}(Pv:Nat->St->Hp->Prop)(h0:Pv 0 σ H)
  (hs:∀ i σ H,i<n->Pv i σ H->g (.int (lo+i)) σ H fun σ2 H2=>tb { D with nx:=Pv (i+1),ct:=Pv (i+1),bk:=D.nx } σ2 H2) (hd:∀ σ H,Pv n σ H->D.nx σ H) :
  ∃ W:Nat->Nat->St->Hp->Prop,(∃ m,W 0 m σ H)/\∀ i m σ H,W i m σ H ->
   ((Itr lo n).stop i H/\D.nx σ H)∨((Itr lo n).go i H/\∃ N:St->Hp->Prop,(∀ σ' H',N σ' H'->∃ m',m'<m/\W (i+1) m' σ' H')/\∀ x H',(Itr lo n).yld i H x H'->g x σ H' fun σ2 H2=>tb { D with nx:=N,ct:=N,bk:=D.nx } σ2 H2):=by
 refine⟨fun i m σ H=>m=n-i/\i<=n/\Pv i σ H,⟨n,by simp,L8 _,h0⟩,?_⟩
 rintro i m σ H ⟨rfl,hi,p⟩
 by_cases hlt:i<n
 ·refine .inr ⟨hlt,Pv (i+1),fun σ' H' p'=>⟨n-(i+1),by omega,rfl,hlt,p'⟩,fun x H' y=>?_⟩
  obtain⟨e,y⟩:=y
  subst e y
  exact hs i σ _ hlt p
 ·have e:i=n:=by omega
  subst e
  exact .inl ⟨K3 _,hd σ H p⟩
theorem so{c:TT}{tb:TS}{D:Ends}{σ:St}{H:Hp}(Pv:St->Hp->Prop)(μ:St->Hp->Nat)(h0:Pv σ H)
  (hs:∀ σ H,Pv σ H->c σ H fun b H1=>if b=true then tb { D with nx:=fun σ' H'=>Pv σ' H'/\μ σ' H'<μ σ H,ct:=fun σ' H'=>Pv σ' H'/\μ σ' H'<μ σ H,bk:=D.nx } σ H1 else D.nx σ H1)
  (mono:∀ σ H Q Q',(∀ b H1,Q b H1->Q' b H1)->c σ H Q->c σ H Q'):IC c tb D σ H:=by
 refine⟨fun m σ H=>m=μ σ H/\Pv σ H,⟨_,rfl,h0⟩,?_⟩
 rintro m σ H ⟨rfl,p⟩
 refine mono σ H _ _ (fun b H1 q=>?_) (hs σ H p)
 cases b with
 |true=>exact⟨_,fun σ' H' ⟨p',l⟩=>⟨_,l,rfl,p'⟩,q⟩
 |false=>exact q
end L2
namespace L2
open PySem PySem.Spec PyProof.Rows
abbrev R2:=V->V->Hp->VK->Prop
def OpR(X:Cx)(f:Value->Value->Sem Value)(r:R2):Prop :=
 ∀(pins:List (Addr×Obj))(s:Shared)(σ:St)(H:Hp)(x y:V)(v u:Value)(Q:VK),Inv X pins σ H s->RelV x v->RelV y u->r x y H Q ->
  wpAny (model X.prog X.w) X.A (f v u) (EP X pins σ Q) X.xe s
def UnR(X:Cx)(f:Value->Sem Value)(r:V->Hp->VK->Prop):Prop :=
 ∀(pins:List (Addr×Obj))(s:Shared)(σ:St)(H:Hp)(x:V)(v:Value)(Q:VK),Inv X pins σ H s->RelV x v->r x H Q ->
  wpAny (model X.prog X.w) X.A (f v) (EP X pins σ Q) X.xe s
def kC(X:Cx)(f:Value)(r:List V->Hp->VK->Prop):Prop :=
 ∀(pins:List (Addr×Obj))(s:Shared)(σ:St)(H:Hp)(xs:List V)(us:List Value)(Q:VK),Inv X pins σ H s->Vals xs us->r xs H Q ->
  wpAny (model X.prog X.w) X.A (call f us) (EP X pins σ Q) X.xe s
def tOp(r:R2)(ta tb:TE):TE:=fun σ H Q=>ta σ H fun x H1=>tb σ H1 fun y H2=>r x y H2 Q
def tUn(r:V->Hp->VK->Prop)(ta:TE):TE:=fun σ H Q=>ta σ H fun x H1=>r x H1 Q
def rI(C:Int->Int->Prop)(g:Int->Int->V):R2:=fun x y H Q=>∃ i j,x=.int i/\y=.int j/\C i j/\Q (g i j) H
def rI0(g:Int->Int->V):R2:=fun x y H Q=>∃ i j,x=.int i/\y=.int j/\Q (g i j) H
def rU(g:Int->V):V->Hp->VK->Prop:=fun x H Q=>∃ i,x=.int i/\Q (g i) H
section
variable{X:Cx}{a b c:Expr}{ta tb tc:TE}{pos:Pos}
theorem binT(ha:PE X a ta)(hb:PE X b tb){pins:List (Addr×Obj)}{s:Shared}{σ:St}{H:Hp}{R:V->V->Hp->Prop}(I:Inv X pins σ H s)
  (h:ta σ H fun x H1=>tb σ H1 fun y H2=>R x y H2) {Q:Value->Shared->Prop} {f:Value->Value->Sem Value}
  (hf:∀ v u s2 x y H2,Inv X pins σ H2 s2->RelV x v->RelV y u->R x y H2->wpAny (model X.prog X.w) X.A (f v u) Q X.xe s2) :
  wpAny (model X.prog X.w) X.A (eval a X.env) (fun v s₁=>wpAny (model X.prog X.w) X.A (eval b X.env) (fun u s₂=>wpAny (model X.prog X.w) X.A (f v u) Q X.xe s₂) X.xe s₁) X.xe s:=by
 refine thn (ha pins s σ H _ I h) fun v s1 ⟨x,H1,I1,r1,q1⟩=>?_
 refine thn (hb pins s1 σ H1 _ I1 q1) fun u s2 ⟨y,H2,I2,r2,q2⟩=>?_
 exact hf v u s2 x y H2 I2 r1 r2 q2
theorem aG{op:Operator}{r:R2}(ho:OpR X (binaryOp op) r)(ha:PE X a ta)(hb:PE X b tb):PE X (.BinOp a op b pos) (tOp r ta tb):=by
 intro pins s σ H Q I h
 exact wpAny_BinOp (binT ha hb I h fun v u s2 x y H2 I2 rx ry q=>ho pins s2 σ H2 x y v u Q I2 rx ry q)
theorem JE{op:UnaryOp}{r:V->Hp->VK->Prop}(ho:UnR X (unaryOp op) r)(ha:PE X a ta):PE X (.UnaryOp op a pos) (tUn r ta):=by
 intro pins s σ H Q I h
 exact UnaryOp_ (thn (ha pins s σ H _ I h) fun v s1 ⟨x,H1,I1,r1,q1⟩=>ho pins s1 σ H1 x v Q I1 r1 q1)
theorem opI{f:Value->Value->Sem Value}{C:Int->Int->Prop}{g:Int->Int->Int}
  (rule:∀(i j:Int)(t u:Tok)(s:Shared)(Q:Value->Shared->Prop)(E:Value->Shared->Prop),C i j->Q (.int (g i j) s.toks) { s with toks:=s.toks+1 }->wpAny (model X.prog X.w) X.A (f (.int i t) (.int j u)) Q E s) :
  OpR X f (rI C fun i j=>.int (g i j)):=by
 intro pins s σ H x y v u Q I rx ry h
 obtain⟨i,j,rfl,rfl,hc,q⟩:=h
 obtain⟨t,rfl⟩:=rx
 obtain⟨t',rfl⟩:=ry
 exact rule i j t t' s _ _ hc ⟨.int (g i j),H,I.tok _,⟨_,rfl⟩,q⟩
theorem opI0{f:Value->Value->Sem Value}{g:Int->Int->Int}
  (rule:∀(i j:Int)(t u:Tok)(s:Shared)(Q:Value->Shared->Prop)(E:Value->Shared->Prop),Q (.int (g i j) s.toks) { s with toks:=s.toks+1 }->wpAny (model X.prog X.w) X.A (f (.int i t) (.int j u)) Q E s) :
  OpR X f (rI0 fun i j=>.int (g i j)):=by
 intro pins s σ H x y v u Q I rx ry h
 obtain⟨i,j,rfl,rfl,q⟩:=h
 obtain⟨t,rfl⟩:=rx
 obtain⟨t',rfl⟩:=ry
 exact rule i j t t' s _ _ ⟨.int (g i j),H,I.tok _,⟨_,rfl⟩,q⟩
theorem opB0{f:Value->Value->Sem Value}{g:Int->Int->Bool}
  (rule:∀(i j:Int)(t u:Tok)(s:Shared)(Q:Value->Shared->Prop)(E:Value->Shared->Prop),Q (.bool (g i j)) s->wpAny (model X.prog X.w) X.A (f (.int i t) (.int j u)) Q E s) :
  OpR X f (rI0 fun i j=>.bl (g i j)):=by
 intro pins s σ H x y v u Q I rx ry h
 obtain⟨i,j,rfl,rfl,q⟩:=h
 obtain⟨t,rfl⟩:=rx
 obtain⟨t',rfl⟩:=ry
 exact rule i j t t' s _ _ ⟨.bl (g i j),H,I,rfl,q⟩
def CDiv(i j:Int):Prop:=0<j/\j<1073741824
def CPow(i j:Int):Prop:=0<=j/\j<=1000000/\i.natAbs<2^64
def CMul(i j:Int):Prop:=(-(2^64)<i/\i<2^64)∨(-(2^64)<j/\j<2^64)
theorem CMul.ok{i j:Int}(h:CMul i j):IntMulOk i j:=by
 rcases h with⟨h1,h2⟩ | ⟨h1,h2⟩
 ·exact .of_left (intBits_le_64 h1 h2)
 ·exact .of_right (intBits_le_64 h1 h2)
theorem bI:OpR X (binaryOp .Add) (rI0 fun i j=>.int (i+j)):=opI0 fun _ _ _ _ _ _ _ q=>add_int q
theorem mR:OpR X (binaryOp .Sub) (rI0 fun i j=>.int (i-j)):=opI0 fun _ _ _ _ _ _ _ q=>sub_int q
theorem fA:OpR X (binaryOp .Mult) (rI CMul fun i j=>.int (i*j)):=opI fun _ _ _ _ _ _ _ hc q=>mul_int q hc.ok
theorem eJ:OpR X (binaryOp .FloorDiv) (rI CDiv fun i j=>.int (i/j)):=opI fun i j _ _ _ _ _ hc q=>by
 have h1:(0:Int)<j:=hc.1
 have h2:j<1073741824:=hc.2
 exact floordiv_int (by omega) (by rw[Int.fdiv_eq_ediv_of_nonneg i (by omega)];exact q) (.inl (PyProof.noPylong_small (by omega)))
theorem bQ:OpR X (binaryOp .Mod) (rI (fun _ j=>0<j) fun i j=>.int (i%j)):=opI fun i j _ _ _ _ _ hc q=>by
 have h1:(0:Int)<j:=hc
 exact mod_int' (by omega) (by rw[Int.fmod_eq_emod_of_nonneg i (by omega)];exact q)
theorem BN:OpR X (binaryOp .Pow) (rI CPow fun i j=>.int (i^j.toNat)):=opI fun _ _ _ _ _ _ _ hc q=>pow_int_small hc.1 hc.2.1 hc.2.2 q
theorem BM:OpR X (binaryOp .LShift) (rI CPow fun i j=>.int (i*2^j.toNat)):=opI fun _ _ _ _ _ _ _ hc q=>lshift_int_small hc.1 hc.2.1 hc.2.2 q
theorem op_and:OpR X (binaryOp .BitAnd) (rI0 fun i j=>.int (Builtin.bitAnd i j)):=opI0 fun _ _ _ _ _ _ _ q=>and_int q
theorem op_or:OpR X (binaryOp .BitOr) (rI0 fun i j=>.int (Builtin.bitOr i j)):=opI0 fun _ _ _ _ _ _ _ q=>or_int q
theorem unI{f:Value->Sem Value}{g:Int->Int}
  (rule:∀(i:Int)(t:Tok)(s:Shared)(Q:Value->Shared->Prop)(E:Value->Shared->Prop),Q (.int (g i) s.toks) { s with toks:=s.toks+1 }->wpAny (model X.prog X.w) X.A (f (.int i t)) Q E s) :
  UnR X f (rU fun i=>.int (g i)):=by
 intro pins s σ H x v Q I rx h
 obtain⟨i,rfl,q⟩:=h
 obtain⟨t,rfl⟩:=rx
 exact rule i t s _ _ ⟨.int (g i),H,I.tok _,⟨_,rfl⟩,q⟩
theorem Ei:UnR X (unaryOp .USub) (rU fun i=>.int (-i)):=unI fun _ _ _ _ _ q=>neg_int q
end
def scal:V->V->Bool
 |.non,.non=>true | .non,.int _=>true | .int _,.non=>true | .non,.bl _=>true | .bl _,.non=>true | .non,.str _=>true | .str _,.non=>true
 |.int _,.int _=>true | .bl _,.bl _=>true | .str _,.str _=>true | .byt _,.byt _=>true
 |.int _,.str _=>true | .str _,.int _=>true | .bl _,.str _=>true | .str _,.bl _=>true
 |_,_=>false
def rEq:R2:=fun x y H Q=>scal x y=true/\Q (.bl (decide (x=y))) H
def rNe:R2:=fun x y H Q=>scal x y=true/\Q (.bl (!decide (x=y))) H
theorem Gj{i j:Int}:decide (V.int i=V.int j)=(i == j):=by
 rw[Mp]
 simp
theorem IV{i j:Bool}:decide (V.bl i=V.bl j)=(i == j):=by
 rw[Mp]
 simp
theorem Gi{i j:Str}:decide (V.str i=V.str j)=(i == j):=by
 rw[Mp]
 simp
theorem Gk{i j:Array UInt8}:decide (V.byt i=V.byt j)=(i.toList == j.toList):=by
 rw[Mp]
 cases i
 cases j
 simp
section
variable{X:Cx}{a b c:Expr}{ta tb tc:TE}{pos:Pos}
theorem a8{pins:List (Addr×Obj)}{σ:St}{H:Hp}{s:Shared}{Q:VK}{k k':Bool}(I:Inv X pins σ H s)(q:Q (.bl k) H)(e:k=k'):EP X pins σ Q (.bool k') s:=by
 subst e
 exact⟨.bl k,H,I,rfl,q⟩
theorem jD:OpR X (compareOp .Eq) rEq:=by
 intro pins s σ H x y v u Q I rx ry h
 obtain⟨hs,q⟩:=h
 cases x with
 |non =>
  cases rx
  cases y with
  |non=>cases ry;exact PySem.EqNone.eq_none_none (a8 I q (by simp))
  |bl j=>cases ry;exact PySem.EqNone.eq_none_bool (a8 I q (by simp))
  |int j=>obtain⟨t',rfl⟩:=ry;exact PySem.EqNone.eq_none_int (a8 I q (by simp))
  |str j=>obtain⟨t',rfl⟩:=ry;exact PySem.EqNone.eq_none_str (a8 I q (by simp))
  |_=>exact absurd (show false=true from hs) Lo
 |bl i =>
  cases rx
  cases y with
  |non=>cases ry;exact PySem.EqNone.eq_bool_none (a8 I q (by simp))
  |bl j=>cases ry;exact eq_bool (a8 I q IV)
  |str j=>obtain⟨t',rfl⟩:=ry;exact PySem.EqMixed.eq_bool_str (a8 I q (by simp))
  |_=>exact absurd (show false=true from hs) Lo
 |int i =>
  obtain⟨t,rfl⟩:=rx
  cases y with
  |non=>cases ry;exact PySem.EqNone.eq_int_none (a8 I q (by simp))
  |int j=>obtain⟨t',rfl⟩:=ry;exact eq_int (a8 I q Gj)
  |str j=>obtain⟨t',rfl⟩:=ry;exact PySem.EqMixed.eq_int_str (a8 I q (by simp))
  |_=>exact absurd (show false=true from hs) Lo
 |str i =>
  obtain⟨t,rfl⟩:=rx
  cases y with
  |non=>cases ry;exact PySem.EqNone.eq_str_none (a8 I q (by simp))
  |bl j=>cases ry;exact PySem.EqMixed.eq_str_bool (a8 I q (by simp))
  |int j=>obtain⟨t',rfl⟩:=ry;exact PySem.EqMixed.eq_str_int (a8 I q (by simp))
  |str j=>obtain⟨t',rfl⟩:=ry;exact eq_str (a8 I q Gi)
  |_=>exact absurd (show false=true from hs) Lo
 |byt i =>
  obtain⟨t,rfl⟩:=rx
  cases y with
  |byt j=>obtain⟨t',rfl⟩:=ry;exact PySem.W.eq_bytes (a8 I q Gk)
  |_=>exact absurd (show false=true from hs) Lo
 |_=>cases y<;>exact absurd (show false=true from hs) Lo
theorem jg:OpR X (compareOp .NotEq) rNe:=by
 intro pins s σ H x y v u Q I rx ry h
 obtain⟨hs,q⟩:=h
 cases x with
 |non =>
  cases rx
  cases y with
  |non=>cases ry;exact PySem.EqNone.ne_none_none (a8 I q (by simp))
  |bl j=>cases ry;exact PySem.EqNone.ne_none_bool (a8 I q (by simp))
  |int j=>obtain⟨t',rfl⟩:=ry;exact PySem.EqNone.ne_none_int (a8 I q (by simp))
  |str j=>obtain⟨t',rfl⟩:=ry;exact PySem.EqNone.ne_none_str (a8 I q (by simp))
  |_=>exact absurd (show false=true from hs) Lo
 |bl i =>
  cases rx
  cases y with
  |non=>cases ry;exact PySem.EqNone.ne_bool_none (a8 I q (by simp))
  |bl j=>cases ry;exact ne_bool (a8 I q (congrArg not IV))
  |str j=>obtain⟨t',rfl⟩:=ry;exact PySem.EqMixed.ne_bool_str (a8 I q (by simp))
  |_=>exact absurd (show false=true from hs) Lo
 |int i =>
  obtain⟨t,rfl⟩:=rx
  cases y with
  |non=>cases ry;exact PySem.EqNone.ne_int_none (a8 I q (by simp))
  |int j=>obtain⟨t',rfl⟩:=ry;exact ne_int (a8 I q (congrArg not Gj))
  |str j=>obtain⟨t',rfl⟩:=ry;exact PySem.EqMixed.ne_int_str (a8 I q (by simp))
  |_=>exact absurd (show false=true from hs) Lo
 |str i =>
  obtain⟨t,rfl⟩:=rx
  cases y with
  |non=>cases ry;exact PySem.EqNone.ne_str_none (a8 I q (by simp))
  |bl j=>cases ry;exact PySem.EqMixed.ne_str_bool (a8 I q (by simp))
  |int j=>obtain⟨t',rfl⟩:=ry;exact PySem.EqMixed.ne_str_int (a8 I q (by simp))
  |str j=>obtain⟨t',rfl⟩:=ry;exact ne_str (a8 I q (congrArg not Gi))
  |_=>exact absurd (show false=true from hs) Lo
 |byt i =>
  obtain⟨t,rfl⟩:=rx
  cases y with
  |byt j=>obtain⟨t',rfl⟩:=ry;exact PySem.W.ne_bytes (a8 I q (congrArg not Gk))
  |_=>exact absurd (show false=true from hs) Lo
 |_=>cases y<;>exact absurd (show false=true from hs) Lo
theorem wa:OpR X (compareOp .Lt) (rI0 fun i j=>.bl (decide (i<j))):=opB0 fun _ _ _ _ _ _ _ q=>lt_int q
theorem we:OpR X (compareOp .Gt) (rI0 fun i j=>.bl (decide (j<i))):=opB0 fun _ _ _ _ _ _ _ q=>gt_int q
theorem Fb:OpR X (compareOp .GtE) (rI0 fun i j=>.bl (decide (j<=i))):=opB0 fun _ _ _ _ _ _ _ q=>ge_int q
theorem E9:OpR X (compareOp .In) (fun x y H Q=>∃ i j,x=.str i/\y=.str j/\Q (.bl (!(Builtin.Str.occurrences j i 0 j.length 1).isEmpty)) H):=by
 intro pins s σ H x y v u Q I rx ry h
 obtain⟨i,j,rfl,rfl,q⟩:=h
 obtain⟨t,rfl⟩:=rx
 obtain⟨t',rfl⟩:=ry
 exact in_str (a8 I q rfl)
theorem wd:OpR X (compareOp .Is) (fun x y H Q=>y=.non/\Q (.bl (decide (x=.non))) H):=by
 intro pins s σ H x y v u Q I rx ry h
 obtain⟨rfl,q⟩:=h
 cases ry
 refine is_none_gen (a8 I q ?_)
 cases x<;>first
  | (cases rx;rfl)
  | (obtain⟨t,rfl⟩:=rx;rfl)
theorem JH:OpR X (compareOp .IsNot) (fun x y H Q=>y=.non/\Q (.bl (!decide (x=.non))) H):=by
 intro pins s σ H x y v u Q I rx ry h
 obtain⟨rfl,q⟩:=h
 cases ry
 refine isnot_none_gen (a8 I q ?_)
 cases x<;>first
  | (cases rx;rfl)
  | (obtain⟨t,rfl⟩:=rx;rfl)
theorem aI(b:Expr){op:CmpOp}(h:op≠.In:=by decide)(h2:op≠.NotIn:=by decide):behindInMarks op b=false:=by
 have e1:(op == CmpOp.In)=false:=by cases op<;>first | rfl | exact absurd rfl h
 have e2:(op == CmpOp.NotIn)=false:=by cases op<;>first | rfl | exact absurd rfl h2
 cases b<;>simp[behindInMarks,e1,e2]
theorem zy{op:CmpOp}{r:R2}(ho:OpR X (compareOp op) r)(ha:PE X a ta)(hb:PE X b tb)(hm:behindInMarks op b=false):PE X (.Compare a [op] [b] pos) (tOp r ta tb):=by
 intro pins s σ H Q I h
 exact wpAny_Compare1 (binT ha hb I h fun v u s2 x y H2 I2 rx ry q=>ho pins s2 σ H2 x y v u Q I2 rx ry q) hm
def tTest(t:TE):TT:=fun σ H Q=>t σ H fun x H'=>∃ k,x=.bl k/\Q k H'
theorem ax{op:CmpOp}{r:R2}(ho:OpR X (compareOp op) r)(ha:PE X a ta)(hb:PE X b tb)(hm:behindInMarks op b=false):PT X (.Compare a [op] [b] pos) (tTest (tOp r ta tb)):=by
 intro pins s σ H Q I h
 refine wpAny_isTrue_Compare1 (thn (ha pins s σ H _ I h) fun v s1 ⟨x,H1,I1,r1,q1⟩=>thn (hb pins s1 σ H1 _ I1 q1) fun u s2 ⟨y,H2,I2,r2,q2⟩ =>
  thn (ho pins s2 σ H2 x y v u _ I2 r1 r2 q2) fun c s3 ⟨z,H3,I3,r3,k,e,q3⟩=>?_) hm
 subst e
 cases r3
 exact wpAny_truthy_bool ⟨H3,I3,q3⟩
theorem oZ:(sizeLine:Nat)<2^63:=by rw[sizeLine_eq];decide
theorem bC:OpR X (binaryOp .Add) (fun x y H Q=>∃ i j,x=.str i/\y=.str j/\i.length+j.length<=sizeLine/\Q (.str (i++j)) H):=by
 intro pins s σ H x y v u Q I rx ry h
 obtain⟨i,j,rfl,rfl,hz,q⟩:=h
 obtain⟨t,rfl⟩:=rx
 obtain⟨t',rfl⟩:=ry
 exact add_str (fun t' tk=>⟨.str (i++j),H,I.tok _,⟨_,rfl⟩,q⟩) hz
theorem nA{x:V}{us:List Value}(r:Vals [x] us):∃ u,us = [u]/\RelV x u:=by
 cases r with
 |cons r1 r2=>cases r2;exact⟨_,rfl,r1⟩
theorem vals2{x y:V}{us:List Value}(r:Vals [x,y] us):∃ u w',us = [u,w']/\RelV x u/\RelV y w':=by
 cases r with
 |cons r1 r2 =>
  cases r2 with
  |cons r3 r4=>cases r4;exact⟨_,_,rfl,r1,r3⟩
theorem x5(hc:X.calm=true):kC X (.builtin "min") (fun xs H Q=>∃ i j,xs = [.int i,.int j]/\Q (.int (if j<i then j else i)) H):=by
 intro pins s σ H xs us Q I r h
 obtain⟨i,j,rfl,q⟩:=h
 obtain⟨u,w',rfl,⟨t,rfl⟩,⟨t',rfl⟩⟩:=vals2 r
 refine min_two_ints (I.ok.hd hc) fun h' tk k=>⟨_,H,I.kept k,?_,q⟩
 by_cases hj:j<i
 ·rw[if_pos hj,if_pos hj];exact⟨_,rfl⟩
 ·rw[if_neg hj,if_neg hj];exact⟨_,rfl⟩
theorem GL:kC X (.type "int") (fun xs H Q=>(∃ i,xs = [.int i]/\Q (.int i) H)∨∃ k,xs = [.bl k]/\Q (.int (if k then 1 else 0)) H):=by
 intro pins s σ H xs us Q I r h
 rcases h with⟨i,rfl,q⟩ | ⟨k,rfl,q⟩
 ·obtain⟨u,rfl,t,rfl⟩:=nA r
  exact call_int_int ⟨.int i,H,I,⟨_,rfl⟩,q⟩
 ·obtain⟨u,rfl,r1⟩:=nA r
  cases r1
  exact call_int_bool ⟨.int (if k then 1 else 0),H,I.tok _,⟨_,rfl⟩,q⟩
theorem aX:kC X (.type "str") (fun xs H Q=>∃ i,xs = [.int i]/\i.natAbs.log2<1920/\Q (.str (toString i)) H):=by
 intro pins s σ H xs us Q I r h
 obtain⟨i,rfl,hz,q⟩:=h
 obtain⟨u,rfl,t,rfl⟩:=nA r
 exact PySem.P.str_of_int hz ⟨.str _,H,I.tok _,⟨_,rfl⟩,q⟩
end
end L2
namespace L2
open PySem PySem.Spec PyProof.Rows
structure ObjM(h:Heap)(x dx C:Addr)(mA:Str->Option Value):Prop where
 obj:h.get? x=some (Mn C dx)
 ns:h.Ns1 dx mA
 ne:dx≠x
theorem FE{h:Heap}{dx:Addr}{mA:Str->Option Value}(n:h.Ns1 dx mA):∃ od,h.get? dx=some od/\∀ name,Np name od=some (mA name):=by
 obtain⟨o,es,ep,ho,hd,hk,_,hm⟩:=n
 refine⟨o,ho,fun name=>?_⟩
 have e:=hm name
 unfold nsFind findBy at e
 rw[← Array.find?_toList]at e
 unfold Np
 rw[hd]
 dsimp only
 split
 ·rename_i y q
  rw[q]at e
  exact congrArg some e
 ·rename_i q
  rw[q]at e
  have a:es.toList.any (·.refKey)=false:=by
   rw[List.any_eq_false]
   intro y hy
   obtain⟨z,t,hkey⟩:=hk y (Array.mem_toList_iff.mp hy)
   simp[DictEntry.refKey,hkey]
  have a':¬ es.toList.any (·.refKey)=true:=by rw[a];exact Lo
  rw[if_neg a']
  exact congrArg some e
theorem ObjM.look{h:Heap}{x dx C:Addr}{mA:Str->Option Value}(I:ObjM h x dx C mA):∃ od,PySem.W.InstAt h x (Mn C dx) C (some od)/\∀ name,Np name od=some (mA name) :=
 let ⟨od,ho,hl⟩:=FE I.ns
 ⟨od,⟨I.obj,rfl,rfl,ho⟩,hl⟩
section
variable{prog:Program}{w:World}{A:Around}{E:Value->Shared->Prop}{s:Shared}{K:KW}{x dx C f:Addr}{mA:Str->Option Value}{name:Str}{v:Value}
theorem Ko{expr:Bool}{Q:Value->Shared->Prop}(X:K.In s.heap)(I:ObjM s.heap x dx C mA)(hg:Mg K C name=true)(hh:Mo K C=true)
  (ha:Ll K (.ref C) name=some none) (hv:mA name=some v) (hv':PySem.W.handedIn v=true) (h:Q v { s with toks:=s.toks+1 }) :
  wpAny (model prog w) A (getAttr (.ref x) name expr) Q E s:=by
 obtain⟨od,J,hl⟩:=I.look
 exact PySem.W.get_value X J (Nr hg).1 (PySem.W.findObj_own hh ha rfl (by rw[hl,hv])) hv' h
theorem Ig{pl:Sem Bool}{Q:Value×List Value->Shared->Prop}(X:K.In s.heap)(I:ObjM s.heap x dx C mA)(hg:Mg K C name=true)
  (hf:Ll K (.ref C) name=some (some (.ref f))) (ht:Mj K (.ref f)=true) (hv:mA name=none) (h:Q (.ref f,[.ref x]) s) :
  wpAny (model prog w) A (getMethod (.ref x) name pl) Q E s:=by
 obtain⟨od,J,hl⟩:=I.look
 exact PySem.W.method_fn X J (Nr hg).1 (Nr hg).2 hf (beq_iff_eq.mp ht) (by show(Np name od).map (·.isSome)=some false;rw[hl,hv];rfl) h
theorem Ju{ns:List Str}{Q:Unit->Shared->Prop}(X:K.In s.heap)(I:ObjM s.heap x dx C mA)
  (hs:Ll K (.ref C) "__setattr__" = some (some (.builtin "object.__setattr__"))) (hp:Mz K C=true) (ht:NH K C name=some none) (hh:Mo K C=true)
  (hw:PySem.Within mA ns) (hsz:ns.length<=sizeLine)
  (h:∀ h',ObjM h' x dx C (fun y=>if y=name then some v else mA y)->Heap.SameBut dx s.heap h'->Q () { s with heap:=h',toks:=s.toks+2 }) :
  wpAny (model prog w) A (setAttr (.ref x) name v) Q E s:=by
 obtain⟨od,J,hl⟩:=I.look
 refine PySem.W.set_plain X J hs (PySem.W.osa_open (s:={ s with toks:=s.toks+1 }) (r:=none) X J hp ht fun b=>?_)
 obtain⟨cd,hc,hd'⟩:=PySem.W.any_some hh
 have hx:s.heap.get? x=some ⟨.ref C,some dx,.plain,#[]⟩:=I.obj
 refine wpAny_bind (wpAny_pure (wpAny_bind (wpAny_bind (wpAny_loadPart hx (wpAny_bind (PySem.W.Looks.here (s:={ s with toks:=s.toks+1 }) (PySem.W.looks_clsIn X hc) ?_))))))
 rw[hd']
 refine wpAny_pure (a:=some dx) (wpAny_bind (wpAny_pure (wpAny_bind ?_)))
 refine wpAny_nsSet1 (s:={ s with toks:=s.toks+1 }) I.ns fun h' hn2 hs2=>?_
 obtain⟨oD,esD,epD,hoD,hdD,hcD⟩:=hn2.count (PySem.Within.cons name v hw)
 refine wpAny_bind (wpAny_lookBehind hoD (by rw[hdD];exact pastItsLine_dict (LH hcD (by rw[Lw];omega))) ?_)
 exact wpAny_pure (h _ ⟨(hs2.2 _ (Ne.symm I.ne)).trans I.obj,hn2,I.ne⟩ hs2)
theorem HQ{R:Result->Shared->Prop}{vs:List Value}{kw:List (Str×Value)}(X:K.In s.heap)(hm:MF K C=true)
  (hi:Ll K (.ref C) "__init__" = some (some (.ref f))) (hf:PySem.W.typeIn K (.ref f)=some (.type "function"))
  (h:codeAny (model prog w) (A.under (.builtin "type.__call__" ⟨.ref C::vs,kw⟩)) (.call (.ref f) ⟨.ref (s.heap.objs.size+1)::vs,kw⟩) (PySem.W.InitBack (s.heap.objs.size+1) R)
   { s with heap:=(s.heap.push Ma).push (Mn C s.heap.objs.size) }) :
  codeAny (model prog w) A (.call (.ref C) ⟨vs,kw⟩) R s:=by
 obtain⟨hh,g,d,t,os⟩:=s
 exact PySem.W.make_core (PySem.W.makes_of X hm) (PySem.W.looks_findIn X hi) (fun self=>PySem.W.bind_fn X self hf) (.inl rfl) h
end
def putF(f:Str)(v:V):List (Str×V)->List (Str×V)
 |[]=>[(f,v)]
 | (g,x)::r=>if g=f then(g,v)::r else(g,x)::putF f v r
theorem aE(f g:Str)(v:V):∀ fs:List (Str×V),(putF f v fs).lookup g=if g=f then some v else fs.lookup g
 |[]=>by
  show MP g [(f,v)]=_
  by_cases h:g=f
  ·have hb:(g == f)=true:=beq_iff_eq.mpr h
   simp only[MP,hb,if_pos h]
  ·have hb:(g == f)=false:=beq_eq_false_iff_ne.mpr h
   simp only[MP,hb,if_neg h]
 | (k,x)::r=>by
  have ih:=aE f g v r
  rw[show putF f v ((k,x)::r)=(if k=f then(k,v)::r else(k,x)::putF f v r) from rfl]
  by_cases hk:k=f
  ·rw[if_pos hk]
   by_cases h:g=k
   ·have hb:(g == k)=true:=beq_iff_eq.mpr h
    simp only[MP,hb,if_pos (h.trans hk)]
   ·have hb:(g == k)=false:=beq_eq_false_iff_ne.mpr h
    simp only[MP,hb,if_neg (fun e:g=f=>h (e.trans hk.symm))]
  ·rw[if_neg hk]
   by_cases h:g=k
   ·have hb:(g == k)=true:=beq_iff_eq.mpr h
    simp only[MP,hb,if_neg (fun e:g=f=>hk (h.symm.trans e))]
   ·have hb:(g == k)=false:=beq_eq_false_iff_ne.mpr h
    simp only[MP,hb]
    exact ih
theorem ph(f:Str)(v:V):∀ fs:List (Str×V),f∈(putF f v fs).map (·.1)/\∀ g,g∈fs.map (·.1)->g∈(putF f v fs).map (·.1)
 |[]=>⟨by simp[putF],fun g h=>by simp at h⟩
 | (k,x)::r=>by
  obtain⟨i1,i2⟩:=ph f v r
  rw[show putF f v ((k,x)::r)=(if k=f then(k,v)::r else(k,x)::putF f v r) from rfl]
  by_cases hk:k=f
  ·rw[if_pos hk]
   subst hk
   exact⟨by simp,fun g h=>by simpa using h⟩
  ·rw[if_neg hk]
   refine⟨?_,fun g h=>?_⟩
   ·rw[Lr]
    exact K6 _ i1
   ·rw[Lr]at h ⊢
    rcases K0.mp h with e | e
    ·exact K0.mpr (.inl e)
    ·exact K6 _ (i2 g e)
theorem o3(f:Str)(v:V):∀ fs:List (Str×V),(putF f v fs).length<=fs.length+1
 |[]=>by simp[putF]
 | (k,x)::r=>by
  have ih:=o3 f v r
  rw[show putF f v ((k,x)::r)=(if k=f then(k,v)::r else(k,x)::putF f v r) from rfl]
  by_cases hk:k=f
  ·rw[if_pos hk,Lw,Lw];omega
  ·rw[if_neg hk,Lw,Lw];omega
theorem RelO.some_of{v:V}{o:Option Value}(r:RelO (some v) o):∃ u,o=some u/\RelV v u:=by
 cases o with
 |none=>exact(show False from r).elim
 |some u=>exact⟨u,rfl,r⟩
theorem RelO.none_of{o:Option Value}(r:RelO none o):o=none:=by
 cases o with
 |none=>rfl
 |some u=>exact(show False from r).elim
theorem F5{v:V}{u:Value}(r:RelV v u):PySem.W.handedIn u=true:=by
 cases v with
 |non=>cases (show u=Value.none from r);rfl
 |bl b=>cases (show u=Value.bool b from r);rfl
 |int i=>obtain⟨t,e⟩:=(show ∃ t,u=Value.int i t from r);cases e;rfl
 |str x=>obtain⟨t,e⟩:=(show ∃ t,u=Value.str x t from r);cases e;rfl
 |byt b=>obtain⟨t,e⟩:=(show ∃ t,u=Value.bytes b t from r);cases e;rfl
 |flt b=>obtain⟨t,e⟩:=(show ∃ t,u=Value.float b t from r);cases e;rfl
 |ref a=>cases (show u=Value.ref a from r);rfl
 |ty n=>cases (show u=Value.type n from r);rfl
section
variable{P:Program}{w:World}{H H':Hp}{h h':Heap}{a C dx:Addr}{fs fs':List (Str×V)}
theorem ux(hok:HOk P w H h)(e:H a=some (.ins C dx fs)):∃ mA,ObjM h a dx C mA/\(∀ f,RelO (fs.lookup f) (mA f))/\PySem.Within mA (fs.map (·.1))/\fs.length<=1000/\H dx=some (.own a):=by
 obtain⟨d,z,ne,ob,mA,n,r,q⟩:=(show bV P w H h a (.ins C dx fs) from hok a _ e)
 exact⟨mA,⟨ob,n,ne⟩,r,q,z,d⟩
end
structure Cls(K:KW)(C:Addr):Prop where
 pg:Mg K C Str.empty=true
 hd:Mo K C=true
 po:Mz K C=true
 sa:Ll K (.ref C) "__setattr__" = some (some (.builtin "object.__setattr__"))
theorem Cls.get{K:KW}{C:Addr}(c:Cls K C)(f:Str):Mg K C f=true:=c.pg
def dZ(K:KW)(C:Addr)(f:Str):Prop:=Ll K (.ref C) f=some none
theorem dZ.taker{K:KW}{C:Addr}{f:Str}(n:dZ K C f):NH K C f=some none:=by
 unfold NH
 rw[show Ll K (.ref C) f=some none from n]
 rfl
structure Meth(K:KW)(C:Addr)(m:Str)(f:Addr):Prop where
 at_:Ll K (.ref C) m=some (some (.ref f))
 fn:Mj K (.ref f)=true
 kp:K5 K (.ref f)=true
section
variable{X:Cx}{pins:List (Addr×Obj)}{σ:St}{H:Hp}{s:Shared}{a C dx:Addr}{fs:List (Str×V)}{f:Str}{v:V}{A:Around}{E:Value->Shared->Prop}
theorem Dy{b:Bool}{Q:Value->Shared->Prop}(I:Inv X pins σ H s)(e:H a=some (.ins C dx fs))(c:Cls X.K C)(n:dZ X.K C f)(l:fs.lookup f=some v)
  (h:∀ u s',Inv X pins σ H s'->RelV v u->Q u s'):wpAny (model X.prog X.w) A (getAttr (.ref a) f b) Q E s:=by
 obtain⟨mA,O,r,_,_,_⟩:=ux I.hok e
 obtain⟨u,hu,ru⟩:=RelO.some_of (v:=v) (o:=mA f) (by rw[← l];exact r f)
 exact Ko I.kIn O (c.get f) c.hd n hu (F5 ru) (h u _ (I.tok _) ru)
theorem rP{m:Str}{g:Addr}{pl:Sem Bool}{Q:Value×List Value->Shared->Prop}(I:Inv X pins σ H s)(e:H a=some (.ins C dx fs))(c:Cls X.K C)(k:Meth X.K C m g)(l:fs.lookup m=none)
  (h:Q (.ref g,[.ref a]) s):wpAny (model X.prog X.w) A (getMethod (.ref a) m pl) Q E s:=by
 obtain⟨mA,O,r,_,_,_⟩:=ux I.hok e
 have hn:mA m=none:=RelO.none_of (by rw[← l];exact r m)
 exact Ig I.kIn O (c.get m) k.at_ k.fn hn h
theorem Ct{y:V}{u:Value}{Q:Unit->Shared->Prop}(I:Inv X pins σ H s)(e:H a=some (.ins C dx fs))(c:Cls X.K C)(n:dZ X.K C f)(hl:fs.length<1000)(ry:RelV y u)
  (h:∀ s',Inv X pins σ (upd H a (.ins C dx (putF f y fs))) s'->Q () s'):wpAny (model X.prog X.w) A (setAttr (.ref a) f u) Q E s:=by
 obtain⟨mA,O,r,wi,_,ho⟩:=ux I.hok e
 have hz:(fs.map (·.1)).length<=sizeLine:=by rw[K2,sizeLine_eq];omega
 refine Ju I.kIn O c.sa c.po n.taker c.hd wi hz fun h' O' sb=>h _ ?_
 have hd:∃ o,h'.get? dx=some o:=let ⟨o,_,_,e',_⟩:=O'.ns;⟨o,e'⟩
 refine I.write (x:=a) (e:=dx) (by rw[e];exact True.intro) (.inr ho) (fun b q hb z=>(sb.2 b hb).trans z) hd ?_
 refine⟨by rw[aq O.ne];exact ho,?_,O.ne,O'.obj,_,O'.ns,fun g=>?_,fun g hg=>?_⟩
 ·have:=o3 f y fs;omega
 ·show RelO ((putF f y fs).lookup g) (if g=f then some u else mA g)
  rw[aE]
  by_cases q:g=f
  ·rw[if_pos q,if_pos q];exact ry
  ·rw[if_neg q,if_neg q];exact r g
 ·by_cases q:g=f
  ·rw[q];exact(ph f y fs).1
  ·refine(ph f y fs).2 g (wi g fun z=>hg ?_)
   show(if g=f then some u else mA g)=none
   rw[if_neg q];exact z
theorem Inv.made(I:Inv X pins σ H s):Inv X pins σ (upd (upd H s.heap.objs.size (.own (s.heap.objs.size+1))) (s.heap.objs.size+1) (.ins C s.heap.objs.size []))
  { s with heap:=(s.heap.push Ma).push (Mn C s.heap.objs.size) }:=by
 have e1:(s.heap.push Ma).get? s.heap.objs.size=some Ma:=Heap.get?_push_size s.heap rfl
 have e2:((s.heap.push Ma).push (Mn C s.heap.objs.size)).get? (s.heap.objs.size+1)=some (Mn C s.heap.objs.size):=by
  have:=Heap.get?_push_size (s.heap.push Ma) (o:=Mn C s.heap.objs.size) rfl
  rwa[Heap.size_push]at this
 have e3:(s.heap.push Ma).Ns s.heap.objs.size (fun _=>none):=⟨Ma,#[],_,e1,rfl,(fun e he=>absurd he (by simp)),fun _=>rfl⟩
 have I1:=I.laid (a:=s.heap.objs.size) (o:=.own (s.heap.objs.size+1)) (h':=s.heap.push Ma) (t':=s.toks) (fun b u q=>Heap.get?_push_of_some _ q) (K3 _) ⟨_,e1⟩
 refine I1.laid (a:=s.heap.objs.size+1) (o:=.ins C s.heap.objs.size []) (t':=s.toks) (fun b u q=>Heap.get?_push_of_some _ q) (Nat.le_of_eq (Heap.size_push _ _)) ?_
 have ne:s.heap.objs.size≠s.heap.objs.size+1:=Ly (MB _)
 refine⟨by rw[aq ne,ae],L8 _,ne,e2,fun _=>none,(Heap.Ns1.of_empty e3).at fun o q=>Heap.get?_push_of_some _ q,fun _=>True.intro,fun y hy=>absurd rfl hy⟩
theorem KJ{prog:Program}{w:World}{env:Env}{e:Expr}{f:Str}{pos:Pos}{s:Shared}{Q:Value->Shared->Prop}(hb:attributeBase e f env (eval e env)=eval e env)
  (h:wpAny (model prog w) A (eval e env) (fun o s₁=>wpAny (model prog w) A (getAttr o f true) Q E s₁) E s):wpAny (model prog w) A (eval (.Attribute e f pos) env) Q E s :=
 Attribute_any_ h (by rw[arm_eval_Attribute,hb])
end
def tFld(K:KW)(ta:TE)(f:Str):TE:=fun σ H Q=>ta σ H fun x H1=>∃ a C dx fs v,x=.ref a/\H1 a=some (.ins C dx fs)/\Cls K C/\dZ K C f/\fs.lookup f=some v/\Q v H1
def sFld(K:KW)(ta tv:TE)(f:Str):TS:=fun D σ H=>tv σ H fun y H1=>ta σ H1 fun x H2=>∃ a C dx fs,x=.ref a/\H2 a=some (.ins C dx fs)/\Cls K C/\dZ K C f/\fs.length<1000 /\
 D.nx σ (upd H2 a (.ins C dx (putF f y fs)))
section
variable{X:Cx}{o e value:Expr}{f:Str}{pos pos' tpos:Pos}{ta tv:TE}
theorem aZ(he:PE X e ta)(hb:attributeBase e f X.env (eval e X.env)=eval e X.env):PE X (.Attribute e f pos) (tFld X.K ta f):=by
 intro pins s σ H Q I h
 refine KJ hb (thn (he pins s σ H _ I h) fun u s1 ⟨x,H1,I1,rx,a,C,dx,fs,v,ex,ea,c,n,l,q⟩=>?_)
 subst ex
 obtain rfl:u=Value.ref a:=rx
 exact Dy I1 ea c n l fun u' s2 I2 ru=>⟨v,H1,I2,ru,q⟩
theorem kH(ha:PE X o ta)(hv:PE X value tv)(hs:swapsWith value (some (.Attribute o f pos')) pos.line X.env=pure false):PS X (.Assign [.Attribute o f pos'] value pos) (sFld X.K ta tv f):=by
 intro pins s σ H D I h
 refine plainObj_wpAny_Assign_Attribute (thn (hv pins s σ H _ I h) fun u s1 ⟨y,H1,I1,ry,q⟩=>thn (ha pins s1 σ H1 _ I1 q) fun ov s2 ⟨x,H2,I2,rx,a,C,dx,fs,ex,ea,c,n,l,q2⟩=>?_) hs
 subst ex
 obtain rfl:ov=Value.ref a:=rx
 exact Ct I2 ea c n l ry fun s3 I3=>⟨σ,_,I3,q2⟩
end
section
variable{X:Cx}{pins:List (Addr×Obj)}{σ:St}{H:Hp}{s:Shared}{A:Around}{E:Value->Shared->Prop}{Q:Value->Shared->Prop}{c:Value}{b:Bool}
inductive TyOf(K:KW)(H:Hp):V->Value->Prop where
 |non:TyOf K H .non (.type "NoneType")
 |bl (x:Bool):TyOf K H (.bl x) (.type "bool")
 |int (i:Int):TyOf K H (.int i) (.type "int")
 |str (x:Str):TyOf K H (.str x) (.type "str")
 |flt (x:UInt64):TyOf K H (.flt x) (.type "float")
 |lst {a:Addr} {xs:List V} (e:H a=some (.lst xs)):TyOf K H (.ref a) (.type "list")
 |frz {a:Addr} {o:Obj} {xs:List V} (e:H a=some (.frz o (.lst xs))):TyOf K H (.ref a) (.type "list")
 |tup {a:Addr} {xs:List V} (e:H a=some (.tup xs)):TyOf K H (.ref a) (.type "tuple")
 |dK {a:Addr} {kvs:List (Key×V)} (e:H a=some (.dK kvs)):TyOf K H (.ref a) (.type "dict")
 |dT {a:Addr} {kvs:List (List Key×V)} (e:H a=some (.dT kvs)):TyOf K H (.ref a) (.type "dict")
 |ins {a C dx:Addr} {fs:List (Str×V)} (e:H a=some (.ins C dx fs)) (cl:Cls K C) (ha:Ll K (.ref C) "__class__" = some (some (.builtin "object.__class__")))
   (hn:PySem.W.specialIn K (.builtin "object.__class__") "__get__" = some (some (.builtin "getset_descriptor.__get__"))) (htk:PySem.W.takesIn K (.builtin "object.__class__")=some true)
   (hm:PySem.W.mroIn K C (.type "object")=some true):TyOf K H (.ref a) (.ref C)
theorem FV{x:V}{u t:Value}(I:Inv X pins σ H s)(rx:RelV x u)(ty:TyOf X.K H x t)(e:MZ X.K t c=some b)(h:∀ tk,Q (.bool b) { s with toks:=tk }) :
  wpAny (model X.prog X.w) A (call (.builtin "isinstance") [u,c]) Q E s:=by
 cases ty with
 |non=>cases (show u=Value.none from rx);exact L0 PySem.W.kitx_none I.kIn True.intro e (fun z=>nomatch z) h
 |bl y=>cases (show u=Value.bool y from rx);exact L0 PySem.W.kitx_bool I.kIn True.intro e (fun z=>nomatch z) h
 |int i=>obtain⟨t,q⟩:=(show ∃ t,u=Value.int i t from rx);cases q;exact L0 PySem.W.kitx_int I.kIn True.intro e (fun z=>nomatch z) h
 |str y=>obtain⟨t,q⟩:=(show ∃ t,u=Value.str y t from rx);cases q;exact L0 PySem.W.kitx_str I.kIn True.intro e (fun z=>nomatch z) h
 |flt y=>obtain⟨t,q⟩:=(show ∃ t,u=Value.float y t from rx);cases q;exact L0 PySem.W.kitx_float I.kIn True.intro e (fun z=>nomatch z) h
 | @lst a xs ea =>
  cases (show u=Value.ref a from rx)
  obtain⟨_,_,n,_,h1⟩:=(show bV X.prog X.w H s.heap a (.lst xs) from I.hok a _ ea)
  exact L0 PySem.W.kitx_list I.kIn ⟨_,h1,rfl⟩ e (fun z=>nomatch z) h
 | @frz a ob xs ea =>
  cases (show u=Value.ref a from rx)
  obtain⟨_,_,_,n,_,h1⟩:=(show bV X.prog X.w H s.heap a (.frz ob (.lst xs)) from I.hok a _ ea)
  exact L0 PySem.W.kitx_list I.kIn ⟨_,h1,rfl⟩ e (fun z=>nomatch z) h
 | @tup a xs ea =>
  cases (show u=Value.ref a from rx)
  obtain⟨_,_,_,p⟩:=(show bV X.prog X.w H s.heap a (.tup xs) from I.hok a _ ea)
  obtain⟨o,h1,h2,_⟩:=p
  exact L0 PySem.W.kitx_tuple I.kIn ⟨o,h1,h2⟩ e (fun z=>nomatch z) h
 | @dK a kvs ea =>
  cases (show u=Value.ref a from rx)
  obtain⟨_,_,vs,_,p⟩:=(show bV X.prog X.w H s.heap a (.dK kvs) from I.hok a _ ea)
  obtain⟨o,es,ep,h1,h2,_⟩:=p
  exact L0 PySem.W.kitx_dict I.kIn ⟨o,h1,h2.1⟩ e (fun z=>nomatch z) h
 | @dT a kvs ea =>
  cases (show u=Value.ref a from rx)
  obtain⟨_,_,xs,_,o,es,ep,h1,h2,_⟩:=(show bV X.prog X.w H s.heap a (.dT kvs) from I.hok a _ ea)
  exact L0 PySem.W.kitx_dict I.kIn ⟨o,h1,h2.1⟩ e (fun z=>nomatch z) h
 | @ins a C dx fs ea cl ha hn htk hm =>
  cases (show u=Value.ref a from rx)
  obtain⟨mA,O,_⟩:=ux I.hok ea
  obtain⟨od,J,_⟩:=O.look
  exact L0 (PySem.W.kitx_own (cl.get _) cl.hd ha hn htk hm) I.kIn J e (fun z=>nomatch z) h
end
end L2
namespace L2
open PySem PySem.Spec PyProof.Rows
structure Room(k:Nat)(A:Around):Prop where
 hd:A.handled=none
 dp:A.depth+3*k+5<recursionLimit
 un:A.units+16*k+200<cLine
theorem Room.mono{j k:Nat}{A:Around}(r:Room k A)(h:j<=k):Room j A:=⟨r.hd,by have:=r.dp;omega,by have:=r.un;omega⟩
theorem Room.deeper{k:Nat}{A:Around}(r:Room (k+1) A)(env:Env):Room k (A.deeper env) :=
 ⟨r.hd,by have:=r.dp;show A.depth+1+3*k+5<_;omega,by have:=r.un;show A.units+3+16*k+200<_;omega⟩
theorem Df{A:Around}{C:Addr}{us:List Value}{kw:List (Str×Value)}:(A.under (.builtin "type.__call__" ⟨.ref C::us,kw⟩)).depth=A.depth+1:=by
 first | rfl | simp[Around.under,Code.weight,Code.isCreation,Code.isGuard,Code.isCaller,Code.frames,Code.isFrame,guardIds]
theorem De{A:Around}{C:Addr}{us:List Value}{kw:List (Str×Value)}:(A.under (.builtin "type.__call__" ⟨.ref C::us,kw⟩)).units=A.units+1:=by
 first | rfl | simp[Around.under,Code.cUnits,Code.frames,Code.isFrame]
theorem Room.make{k:Nat}{A:Around}(r:Room (k+1) A)(C:Addr)(us:List Value)(kw:List (Str×Value)):Room k (A.under (.builtin "type.__call__" ⟨.ref C::us,kw⟩)) :=
 ⟨r.hd,by have:=r.dp;rw[Df];omega,by have:=r.un;rw[De];omega⟩
theorem Room.depth{k:Nat}{A:Around}(r:Room k A):A.depth<recursionLimit:=by have:=r.dp;omega
theorem Room.units{k:Nat}{A:Around}(r:Room k A):A.units+64<cLine:=by have:=r.un;omega
def tNil:TA:=fun _ H Q=>Q [] H
def qI(ta:TE)(tr:TA):TA:=fun σ H Q=>ta σ H fun x H1=>tr σ H1 fun xs H2=>Q (x::xs) H2
section
variable{X:Cx}{e:Expr}{es:List Expr}{te:TE}{t:TA}{pos:Pos}
theorem af:PA X [] tNil:=fun _ _ _ _ H Q I h=>Calls.spliced_nil ⟨[],H,I,.nil,h⟩
theorem aa(ha:PE X e te)(hr:PA X es t)(hs:starEach (e::es) X.env=(false,eval e X.env)::starEach es X.env:=by rfl):PA X (e::es) (qI te t):=by
 intro pos pins s σ H Q I h
 rw[hs]
 show wpAny _ _ (spliced ((false,eval e X.env)::backTo pos (starEach es X.env))) _ _ s
 refine Calls.spliced_cons (thn (ha pins s σ H _ I h) fun u s1 ⟨x,H1,I1,r1,q1⟩=>?_)
 exact thn (hr pos pins s1 σ H1 _ I1 q1) fun us s2 ⟨xs,H2,I2,r2,q2⟩=>⟨x::xs,H2,I2,.cons r1 r2,q2⟩
def tTup(t:TA):TE:=fun σ H Q=>t σ H fun xs H1=>xs.length<=sizeLine/\∀ p,H1 p=none->Q (.ref p) (upd H1 p (.tup xs))
def tLst(t:TA):TE:=fun σ H Q=>t σ H fun xs H1=>xs.length<=sizeLine/\∀ p,H1 p=none->Q (.ref p) (upd H1 p (.lst xs))
theorem bS{x1}(h:PA X es t):PE X (.Tuple es x1 pos) (tTup t):=by
 intro pins s σ H Q I hq
 refine wpAny_Tuple_spliced (thn (h pos pins s σ H _ I hq) fun us s1 ⟨xs,H1,I1,r,z,q⟩=>⟨by rw[← r.length];exact z,?_⟩)
 have hf:H1 s1.heap.objs.size=none:=I1.hok.fresh (K3 _)
 refine⟨.ref s1.heap.objs.size,upd H1 s1.heap.objs.size (.tup xs),I1.laid (t':=s1.toks) (fun b u e=>Heap.get?_push_of_some _ e) (K3 _) ?_,rfl,q _ hf⟩
 exact⟨z,us,r,⟨_,Heap.get?_push_size _ rfl,rfl,_,rfl⟩⟩
theorem bE(h:PA X es t):PE X (.List es pos) (tLst t):=by
 intro pins s σ H Q I hq
 refine wpAny_List_spliced (thn (h pos pins s σ H _ I hq) fun us s1 ⟨xs,H1,I1,r,z,q⟩=>⟨by rw[← r.length];exact z,?_⟩)
 have hf:H1 s1.heap.objs.size=none:=I1.hok.fresh (K3 _)
 refine⟨.ref s1.heap.objs.size,upd H1 s1.heap.objs.size (.lst xs),I1.laid (t':=s1.toks) (fun b u e=>Heap.get?_push_of_some _ e) (K3 _) ?_,rfl,q _ hf⟩
 exact⟨z,us,0,r,Heap.get?_push_size _ rfl⟩
end
abbrev Sp:=List V->Hp->VK->XK->Prop
abbrev CXT:=List Env->Hp->Shared->XK->Value->Shared->Prop
structure Env0(P:Program)(w:World)(K:KW)(mg:Str->Option Value)(base:Heap)(A:Around)(outer:List Env)(s:Shared)(H:Hp):Prop where
 frames:A.frames=some outer
 mod:Mod K mg base
 bs:∀ b o,base.get? b=some o->s.heap.get? b=some o/\H b=none
 bsz:base.objs.size<=s.heap.objs.size
 funs:s.heap.FunFrames base outer
 frf:∀ b∈frs outer,H b=none
 hok:HOk P w H s.heap
 bare:AllBare s.gens
def CE(outer:List Env)(P:Program)(w:World)(H:Hp)(s:Shared)(Q:VK)(u:Value)(s':Shared):Prop :=
 ∃ v H',s'.os=s.os/\AllBare s'.gens/\Un (frs outer) [] H H' s.heap s'.heap/\HOk P w H' s'.heap/\RelV v u/\Q v H'
def CR(CX:CXT)(outer:List Env)(P:Program)(w:World)(H:Hp)(s:Shared)(Q:VK)(E:XK)(r:Result)(s':Shared):Prop :=
 match r with
 |.ok (.ret u)=>CE outer P w H s Q u s'
 |.ok _=>False
 |.error e=>CX outer H s E e s'
structure FnOk(P:Program)(w:World)(K:KW)(mg:Str->Option Value)(base:Heap)(CX:CXT)(k:Nat)(f:Addr)(fd:FuncData)(ps:List Str)(sp:Sp):Prop where
 len:∀ vs H Q E,sp vs H Q E->vs.length=ps.length
 run:∀(A:Around)(outer:List Env)(s:Shared)(H:Hp)(args:Args)(us:List Value)(vs:List V)(Q:VK)(E:XK),Room k A->Env0 P w K mg base A outer s H->BindsTo s fd args (ps.zip us)->Vals vs us->sp vs H Q E ->
  codeAny (model P w) A (.call (.ref f) args) (CR CX outer P w H s Q E) s
theorem Env0.make{P:Program}{w:World}{K:KW}{mg:Str->Option Value}{base:Heap}{A:Around}{outer:List Env}{s:Shared}{H:Hp}(e:Env0 P w K mg base A outer s H)(C:Addr)(us:List Value)(kw:List (Str×Value)) :
  Env0 P w K mg base (A.under (.builtin "type.__call__" ⟨.ref C::us,kw⟩)) outer s H:=⟨by first | exact e.frames | (simpa[Around.under,Code.envs,Code.isFrame,pushEnvs] using e.frames),e.mod,e.bs,e.bsz,e.funs,e.frf,e.hok,e.bare⟩
section
variable{X:Cx}{pins:List (Addr×Obj)}{σ:St}{H:Hp}{s s':Shared}
theorem Inv.env0(I:Inv X pins σ H s):Env0 X.prog X.w X.K X.mg X.base X.A X.stack s H :=
 ⟨I.ok.frames,I.ok.mod,I.bs,LH I.ok.bsz I.sz,I.stack,I.stkFree,I.hok,I.bare⟩
theorem Inv.after{Q:VK}{u:Value}(I:Inv X pins σ H s)(h:CE X.stack X.prog X.w H s Q u s'):EP X pins σ Q u s':=by
 obtain⟨v,H',os,bare,un,hok,r,q⟩:=h
 obtain⟨hh,g,d,t,os'⟩:=s'
 obtain rfl:os'=s.os:=os
 exact⟨v,H',I.call (h':=hh) (g':=g) (d':=d) (t':=t) (ch:=[]) un hok bare (fun b z=>absurd z (by simp)),r,q⟩
end
def tCall(sp:Sp)(dvs:List V)(E:XK)(t:TA):TE:=fun σ H Q=>t σ H fun vs H1=>sp (vs++dvs) H1 Q E
def tMeth(C:Addr)(m:Str)(sp:Sp)(dvs:List V)(E:XK)(ta:TE)(t:TA):TE:=fun σ H Q=>ta σ H fun x H1=>∃ a dx fs,x=.ref a/\H1 a=some (.ins C dx fs)/\fs.lookup m=none /\
 t σ H1 fun vs H2=>sp (x::(vs++dvs)) H2 Q E
def tMake(C:Addr)(sp:Sp)(dvs:List V)(E:XK)(t:TA):TE:=fun σ H Q=>t σ H fun vs H1=>∀ x dx,H1 x=none->H1 dx=none->dx≠x ->
 sp (.ref x::(vs++dvs)) (upd (upd H1 dx (.own x)) x (.ins C dx [])) (fun v H2=>v=.non/\Q (.ref x) H2) E
def nR(K:KW)(fd:FuncData)(ps:List Str)(ds:List Value):Prop :=
 ∀(s:Shared)(us:List Value),K.In s.heap->(us++ds).length=ps.length->BindsTo s fd ⟨us,[]⟩ (ps.zip (us++ds))
theorem nR.all{K:KW}{fd:FuncData}{ps:List Str}(h:∀ us:List Value,us.length=ps.length->bindArgs fd ⟨us,[]⟩=pure (ps.zip us)):nR K fd ps []:=fun s us _ hl=>by
 rw[Nn]at hl ⊢
 exact .of_eq (h us hl)
def qv(CX:CXT)(X:Cx)(E:XK):Prop:=∀(pins:List (Addr×Obj))(σ:St)(H:Hp)(s:Shared)(e:Value)(s':Shared),Inv X pins σ H s->CX X.stack H s E e s'->X.xe e s'
section
variable{X:Cx}{CX:CXT}{k:Nat}{f C:Addr}{fd:FuncData}{ps:List Str}{sp:Sp}{dvs:List V}{ds:List Value}{E:XK}{x m:Str}{p pos apos:Pos}{e o:Expr}{es:List Expr}{ta:TE}{t:TA}
theorem EI{pins:List (Addr×Obj)}{σ:St}{H:Hp}{s:Shared}{Q:VK}{us:List Value}{vs:List V}(F:FnOk X.prog X.w X.K X.mg X.base CX k f fd ps sp)(hr:Room k X.A)(hb:nR X.K fd ps ds)(hd:Vals dvs ds)(hx:qv CX X E)
  (I:Inv X pins σ H s) (r:Vals vs us) (h:sp (vs++dvs) H Q E):wpAny (model X.prog X.w) X.A (call (.ref f) us) (EP X pins σ Q) X.xe s:=by
 have r2:Vals (vs++dvs) (us++ds):=r.append hd
 have hl:(us++ds).length=ps.length:=by rw[← r2.length];exact F.len _ _ _ _ h
 refine wpAny_call (codeAny_mono (F.run X.A X.stack s H ⟨us,[]⟩ (us++ds) (vs++dvs) Q E hr I.env0 (hb s us I.kIn hl) r2 h) fun r s' hq=>?_)
 cases r with
 |error e=>exact hx pins σ H s e s' I hq
 |ok fl =>
  cases fl with
  |ret u=>exact I.after hq
  |next=>exact False.elim hq
  |brk=>exact False.elim hq
  |cont=>exact False.elim hq
theorem au(F:FnOk X.prog X.w X.K X.mg X.base CX k f fd ps sp)(hr:Room k X.A)(hg:Gl X x)(hm:X.mg x=some (.ref f))(hk:K5 X.K (.ref f)=true)(hb:nR X.K fd ps ds)(hd:Vals dvs ds)(hx:qv CX X E)
  (ha:PA X (e::es) t) (hdb:(x == ("__debug__" : Str))=false:=by decide) (he:starEach (e::es) X.env=(false,eval e X.env)::starEach es X.env:=by rfl) (hpl:(backTo pos (starEach es X.env)).any (·.1)=false:=by rfl) :
  PE X (.Call (.Name x p) (e::es) [] pos) (tCall sp dvs E t):=by
 intro pins s σ H Q I h
 refine wpAny_Call_Name_kw (Ac I hg hm ?_ hdb)
 refine Nv (h₀:=X.base) I.ok.mod.kin hk (thn (ha pos pins s σ H _ I h) fun us s1 ⟨vs,H1,I1,r,q⟩=>⟨I1.kIn,?_⟩) he hpl
 exact EI F hr hb hd hx I1 r q
theorem JF{pl:Sem Bool}(he:PE X o ta)(c:Cls X.K C)(hm:Meth X.K C m f)(F:FnOk X.prog X.w X.K X.mg X.base CX k f fd ps sp)(hr:Room k X.A)(hb:nR X.K fd ps ds)(hd:Vals dvs ds)(hx:qv CX X E)(ha:PA X (e::es) t)
  (hst:starEach (e::es) X.env=(false,eval e X.env)::starEach es X.env:=by rfl) (hpl:(backTo pos (starEach es X.env)).any (·.1)=false:=by rfl)
  (ht:eval (.Call (.Attribute o m apos) (e::es) [] pos) X.env=(do
   let ov ← eval o X.env
   standAt apos.atName
   let (f,first) ← holding [ov] (getMethod ov m pl)
   callWith pos f first (backTo pos (starEach (e::es) X.env)) (backToKw pos (keywordEach [] X.env))):=by rfl) :
  PE X (.Call (.Attribute o m apos) (e::es) [] pos) (tMeth C m sp dvs E ta t):=by
 intro pins s σ H Q I h
 refine PySem.W.methodCall_KW (pl:=pl) (thn (he pins s σ H _ I h) fun u s1 ⟨x,H1,I1,rx,a,dx,fs,ex,ea,l,q⟩=>?_) ht
 subst ex
 obtain rfl:u=Value.ref a:=rx
 refine rP I1 ea c hm l ?_
 refine Nv (first:=[.ref a]) (h₀:=X.base) I.ok.mod.kin hm.kp (thn (ha pos pins s1 σ H1 _ I1 q) fun us s2 ⟨vs,H2,I2,r,q2⟩=>⟨I2.kIn,?_⟩) hst hpl
 exact EI (us:=.ref a::us) (vs:=.ref a::vs) F hr hb hd hx I2 (.cons rfl r) q2
theorem d9{pl:Sem Bool}(he:PE X o ta)(c:Cls X.K C)(hm:Meth X.K C m f)(F:FnOk X.prog X.w X.K X.mg X.base CX k f fd ps sp)(hr:Room k X.A)(hb:nR X.K fd ps ds)(hd:Vals dvs ds)(hx:qv CX X E)
  (ht:eval (.Call (.Attribute o m apos) [] [] pos) X.env=(do
   let ov ← eval o X.env
   standAt apos.atName
   let (f,first) ← holding [ov] (getMethod ov m pl)
   callWith pos f first (backTo pos (starEach [] X.env)) (backToKw pos (keywordEach [] X.env))):=by rfl) :
  PE X (.Call (.Attribute o m apos) [] [] pos) (tMeth C m sp dvs E ta tNil):=by
 intro pins s σ H Q I h
 refine PySem.W.methodCall_KW (pl:=pl) (thn (he pins s σ H _ I h) fun u s1 ⟨x,H1,I1,rx,a,dx,fs,ex,ea,l,q⟩=>?_) ht
 subst ex
 obtain rfl:u=Value.ref a:=rx
 refine rP I1 ea c hm l ?_
 exact PySem.W.callWith_K0 (first:=[.ref a]) I1.kIn hm.kp (EI (us:=[.ref a]) (vs:=[.ref a]) F hr hb hd hx I1 (.cons rfl .nil) q)
structure Mk(K:KW)(C f:Addr):Prop where
 makes:MF K C=true
 init:Ll K (.ref C) "__init__" = some (some (.ref f))
 fn:Mj K (.ref f)=true
 kp:K5 K (.ref C)=true
theorem Hs{pins:List (Addr×Obj)}{σ:St}{H:Hp}{s:Shared}{Q:VK}{us:List Value}{vs:List V}(M:Mk X.K C f)(F:FnOk X.prog X.w X.K X.mg X.base CX k f fd ps sp)(hr:Room (k+1) X.A)(hb:nR X.K fd ps ds)(hd:Vals dvs ds)
  (hx:qv CX X E) (I:Inv X pins σ H s) (r:Vals vs us)
  (h:∀ x dx,H x=none->H dx=none->dx≠x->sp (.ref x::(vs++dvs)) (upd (upd H dx (.own x)) x (.ins C dx [])) (fun v H2=>v=.non/\Q (.ref x) H2) E) :
  wpAny (model X.prog X.w) X.A (call (.ref C) us) (EP X pins σ Q) X.xe s:=by
 have hq:=h (s.heap.objs.size+1) s.heap.objs.size (I.hok.fresh (MO _)) (I.hok.fresh (K3 _)) (Ly (MB _))
 have I2:=Inv.made (C:=C) I
 have r2:Vals (V.ref (s.heap.objs.size+1)::(vs++dvs)) (Value.ref (s.heap.objs.size+1)::(us++ds)):=.cons rfl (r.append hd)
 have hl:(Value.ref (s.heap.objs.size+1)::us++ds).length=ps.length:=by
  have e:=r2.length
  rw[F.len _ _ _ _ hq]at e
  exact e.symm
 refine wpAny_call (HQ (f:=f) I.kIn M.makes M.init (beq_iff_eq.mp M.fn) (codeAny_mono (F.run _ X.stack _ _ ⟨Value.ref (s.heap.objs.size+1)::us,[]⟩ (Value.ref (s.heap.objs.size+1)::(us++ds)) _ _ E (hr.make C us [])
  (I2.env0.make C us []) (hb _ (Value.ref (s.heap.objs.size+1)::us) I2.kIn hl) r2 hq) fun r s' hq'=>?_))
 cases r with
 |error e=>exact hx pins σ _ _ e s' I2 hq'
 |ok fl =>
  cases fl with
  |ret u =>
   obtain⟨v,H',I3,rv,ev,q3⟩:=I2.after hq'
   subst ev
   exact⟨rv,⟨V.ref (s.heap.objs.size+1),H',I3,rfl,q3⟩⟩
  |next=>exact False.elim hq'
  |brk=>exact False.elim hq'
  |cont=>exact False.elim hq'
theorem gY(M:Mk X.K C f)(F:FnOk X.prog X.w X.K X.mg X.base CX k f fd ps sp)(hr:Room (k+1) X.A)(hg:Gl X x)(hm:X.mg x=some (.ref C))(hb:nR X.K fd ps ds)(hd:Vals dvs ds)(hx:qv CX X E)
  (ha:PA X (e::es) t) (hdb:(x == ("__debug__" : Str))=false:=by decide) (he:starEach (e::es) X.env=(false,eval e X.env)::starEach es X.env:=by rfl) (hpl:(backTo pos (starEach es X.env)).any (·.1)=false:=by rfl) :
  PE X (.Call (.Name x p) (e::es) [] pos) (tMake C sp dvs E t):=by
 intro pins s σ H Q I h
 refine wpAny_Call_Name_kw (Ac I hg hm ?_ hdb)
 refine Nv (h₀:=X.base) I.ok.mod.kin M.kp (thn (ha pos pins s σ H _ I h) fun us s1 ⟨vs,H1,I1,r,q⟩=>⟨I1.kIn,?_⟩) he hpl
 exact Hs M F hr hb hd hx I1 r q
end
section
variable{X:Cx}{CX:CXT}{k:Nat}{f C:Addr}{fd:FuncData}{ps ks:List Str}{sp:Sp}{E:XK}{x m:Str}{p pos apos kpos:Pos}{e o:Expr}{es:List Expr}{kws:List Keyword}{te ta:TE}{t tk:TA}{nm:Option Str}
variable{g:List Value->List Value->List Value}{gV:List V->List V->List V}
end
structure aD(N P:List Str)(sc:Scope):Prop where
 kind:sc.kind=.function
 co:sc.isCoroutine=false
 gen:sc.isGenerator=false
 nd:N.Nodup
 pre:N.take P.length=P
 par:∀ x∈P,sc.names.lookup x=some .local∨sc.names.lookup x=some .cell
 nofree:∀ y∈sc.names,y.2≠.free
theorem yb{kindOf:Str->Option NameKind}{x:Str}:∀{binds:List (Str×Value)}{m:Str->Option Value},(∀ v,(x,v)∉binds)->bindL kindOf binds m x=m x
 |[],_,_=>rfl
 | (n,v)::r,m,h=>by
  unfold bindL
  rw[yb fun w hw=>h w (K6 _ hw)]
  split
  ·have:x≠n:=by rintro rfl;exact h v Lg
   simp[this]
  ·rfl
theorem yd{kindOf:Str->Option NameKind}{x:Str}:∀{binds:List (Str×Value)}{m:Str->Option Value},(∀ v,(x,v)∉binds)->bindC kindOf binds m x=m x
 |[],_,_=>rfl
 | (n,v)::r,m,h=>by
  unfold bindC
  rw[yd fun w hw=>h w (K6 _ hw)]
  split
  ·rfl
  ·have:x≠n:=by rintro rfl;exact h v Lg
   simp[this]
theorem yc{kindOf:Str->Option NameKind}{x:Str}{v:Value}:∀{P:List Str}{vs:List Value}{i:Nat}{m:Str->Option Value},P.Nodup->P[i]?=some x->vs[i]?=some v->kindOf x=some .local ->
  bindL kindOf (P.zip vs) m x=some v
 |[],_,_,_,_,h,_,_=>by simp at h
 |_::_,[],_,_,_,_,h,_=>by simp at h
 |p::P,w::vs,0,m,nd,h1,h2,hk=>by
  simp at h1 h2;subst h1;subst h2
  show bindL kindOf ((p,w)::P.zip vs) m p=_
  unfold bindL
  rw[yb fun v hv=>(Li.mp nd).1 (NK hv).1,if_pos hk]
  simp
 |p::P,w::vs,i+1,m,nd,h1,h2,hk=>by
  show bindL kindOf ((p,w)::P.zip vs) m x=_
  unfold bindL
  exact yc (i:=i) (Li.mp nd).2 (by simpa using h1) (by simpa using h2) hk
theorem ye{kindOf:Str->Option NameKind}{x:Str}{v:Value}:∀{P:List Str}{vs:List Value}{i:Nat}{m:Str->Option Value},P.Nodup->P[i]?=some x->vs[i]?=some v->kindOf x≠some .local ->
  bindC kindOf (P.zip vs) m x=some v
 |[],_,_,_,_,h,_,_=>by simp at h
 |_::_,[],_,_,_,_,h,_=>by simp at h
 |p::P,w::vs,0,m,nd,h1,h2,hk=>by
  simp at h1 h2;subst h1;subst h2
  show bindC kindOf ((p,w)::P.zip vs) m p=_
  unfold bindC
  rw[yd fun v hv=>(Li.mp nd).1 (NK hv).1,if_neg hk]
  simp
 |p::P,w::vs,i+1,m,nd,h1,h2,hk=>by
  show bindC kindOf ((p,w)::P.zip vs) m x=_
  unfold bindC
  exact ye (i:=i) (Li.mp nd).2 (by simpa using h1) (by simpa using h2) hk
def start(N:List Str)(vs:List V):St:=vs.map some++Mu (N.length-vs.length) none
def cxOf(CX:CXT)(P:Program)(w:World)(K:KW)(mg:Str->Option Value)(base:Heap)(N:List Str)(qual:Str)(scope:Scope)(f:Addr)(cd:Value)(A:Around)(outer:List Env)(s:Shared)(H:Hp)(E:XK):Cx where
 prog:=P
 w:=w
 K:=K
 mg:=mg
 base:=base
 A:=A.deeper (envOfC qual scope s.heap.objs.size f cd)
 N:=N
 s₀:=s
 H₀:=H
 env:=envOfC qual scope s.heap.objs.size f cd
 outer:=outer
 stack:=envOfC qual scope s.heap.objs.size f cd::outer
 ex:=[]
 calm:=true
 fn:=fun _=>true
 pn:=[]
 xe:=fun e s'=>wpAny (model P w) (A.deeper (envOfC qual scope s.heap.objs.size f cd)) (leaving (envOfC qual scope s.heap.objs.size f cd) e) (fun _ s''=>CX outer H s E e s'') (fun e' s''=>CX outer H s E e' s'') s'
theorem Cb{sc:Scope}{n:Nat}{x:Str}(h:sc.names.lookup x=some .cell):∃ c,(cellsFrom n sc.names []).lookup x=some c:=by
 have q:=PySem.W.cellsFrom_some sc.names n [] (.inl h)
 exact M6.mp q
theorem FW{CX:CXT}{P:Program}{w:World}{K:KW}{mg:Str->Option Value}{base:Heap}{N ps:List Str}{qual:Str}{scope:Scope}{f:Addr}{cd:Value}{A:Around}{outer:List Env}{s s1:Shared}{H:Hp}{E:XK}{us:List Value}{vs:List V}
  (S:aD N ps scope) (hd:A.handled=none) (e0:Env0 P w K mg base A outer s H) (hl:vs.length=ps.length) (r:Vals vs us)
  (x:InCallC s s.heap.objs.size (bindL (envOfC qual scope s.heap.objs.size f cd).kindOf (ps.zip us) fun _=>none) (cellsFrom (s.heap.objs.size+1) scope.names []) (bindC (envOfC qual scope s.heap.objs.size f cd).kindOf (ps.zip us) fun _=>none) s1) :
  Inv (cxOf CX P w K mg base N qual scope f cd A outer s H E) [] (start N vs) H s1:=by
 have hpl:ps.length<=N.length:=by have:=congrArg List.length S.pre;rw[LS]at this;omega
 obtain⟨h1,tk,rfl,hk⟩:=x.done
 have noA:∀ b:Addr,b∉(cxOf CX P w K mg base N qual scope f cd A outer s H E).ex:=fun b z=>absurd (show b∈([]:List Addr) from z) (by simp)
 refine⟨⟨e0.mod,S.kind,rfl,rfl,K3 _,fun y z c h1 h2=>?_,fun y hy=>?_,fun y c _ h=>?_,fun _=>hd,Around.frames_deeper e0.frames,.inr ⟨rfl,rfl⟩,fun b z=>absurd z (noA b),e0.bs,e0.bsz,fun b _ _=>noA b,fun b z=>absurd z (noA b),e0.funs,e0.frf⟩,
  rfl,e0.bare,Un.kept hk,⟨_,x.toInCall.ns,fun i y v h1 h2 h3=>?_⟩,fun y c h=>⟨_,x.cell y c h⟩,e0.hok.fresh (K3 _),fun y c h=>?_,fun p hp=>absurd (show p∈([]:List (Addr×Obj)) from hp) (by simp),e0.hok.kept hk,?_⟩
 ·exact name_of_addr x.apart (LX h1) (LX h2)
 ·have hy:scope.names.lookup y=some .cell∨scope.names.lookup y=some .free:=hy
  rcases hy with hy | hy
  ·exact Cb hy
  ·exact absurd rfl (S.nofree _ (LX hy))
 ·exact Md (x.above y c (LX h))
 ·have hi:i<vs.length:=by
   unfold start at h2
   by_cases hi:i<vs.length
   ·exact hi
   ·rw[KY (by simpa using hi)]at h2
    rw[Ms]at h2
    split at h2<;>cases h2
  have ha:vs[i]?=some v:=by
   unfold start at h2
   rw[KZ (by simpa using hi),Lb]at h2
   cases e:vs[i]? with
   |none=>rw[e]at h2;cases h2
   |some a=>rw[e]at h2;cases h2;rfl
  obtain⟨u,hu,rv⟩:=r.get ha
  have hp:ps[i]?=some y:=by
   rw[← S.pre,List.getElem?_take_of_lt (by omega)];exact h1
  have ndP:ps.Nodup:=by rw[← S.pre];exact S.nd.sublist (List.take_sublist _ _)
  refine⟨u,rv,?_⟩
  rcases S.par y (K1 hp)with k | k
  ·exact .inl ⟨k,yc ndP hp hu k⟩
  ·obtain⟨c,e⟩:=Cb (n:=s.heap.objs.size+1) k
   refine .inr ⟨.inl k,c,e,?_⟩
   have q:=x.cell y c e
   rw[ye ndP hp hu (by show scope.names.lookup y≠_;rw[k];decide)]at q
   exact q
 ·exact e0.hok.fresh (Md (x.above y c (LX h)))
 ·unfold start
  show _=N.length
  rw[KU,K2,List.length_replicate]
  omega
theorem fn_of{CX:CXT}{P:Program}{w:World}{K:KW}{mg:Str->Option Value}{base:Heap}{k:Nat}{f:Addr}{name qual:Str}{params:Arguments}{body:List Stmt}{scope:Scope}{dV kV doc pm cdv ct oc:Value}{an od:Option Addr}
  {osl:Array (Option Value)} {N ps:List Str} {sp:Sp} (lk:K.lookup f=some ⟨oc,od,.func (Le name qual params body scope dV kV doc pm an cdv ct),osl⟩) (hcd:K9 K cdv qual=true) (S:aD N ps scope)
  (len:∀ vs H Q E,sp vs H Q E->vs.length=ps.length)
  (hbody:∀(A:Around)(outer:List Env)(s:Shared)(H:Hp)(vs:List V)(Q:VK)(E:XK),Room k (A.deeper (envOfC qual scope s.heap.objs.size f cdv))->sp vs H Q E ->
   ∃ t,PSs (cxOf CX P w K mg base N qual scope f cdv A outer s H E) body t/\t { nx:=fun _ H'=>Q .non H',rt:=Q } (start N vs) H) :
  FnOk P w K mg base CX (k+1) f (Le name qual params body scope dV kV doc pm an cdv ct) ps sp:=by
 refine⟨len,fun A outer s H args us vs Q E hr e0 hb r hsp=>?_⟩
 have hl:=len _ _ _ _ hsp
 have KX:K.In s.heap:=e0.mod.kin.keeps fun b o e=>(e0.bs b o e).1
 have lim:s.heap.NoLimit:=e0.mod.nolimit.keeps fun b o e=>(e0.bs b o e).1
 have hkind:∀ y∈ps.zip us,scope.names.lookup y.1=some .local∨(scope.names.lookup y.1=some .cell/\((cellsFrom (s.heap.objs.size+1) scope.names []).lookup y.1).isSome=true):=fun⟨n,v⟩ hy=>by
  rcases S.par n (NK hy).1 with q | q
  ·exact .inl q
  ·exact .inr ⟨q,PySem.W.cellsFrom_some _ _ _ (.inl q)⟩
 refine codeAny_call_function hr.depth (KX _ _ lk) rfl S.co S.gen rfl (PySem.W.codeRec_of KX hcd) (hb _ _ _ _ ?_)
 refine wpAny_newFunctionEnv_cells S.kind hkind fun env he s1 x=>?_
 subst he
 refine⟨lim.keeps x.toInCall.keep,codeAny_func ?_⟩
 obtain⟨t,ht,hq⟩:=hbody A outer s H vs Q E (hr.deeper _) hsp
 have I:Inv (cxOf CX P w K mg base N qual scope f cdv A outer s H E) [] (start N vs) H s1:=FW S hr.hd e0 hl r x
 refine wpAny_mono (ht [] s1 (start N vs) H _ I hq) (fun fl s' hs=>?_) fun e s' hs=>hs
 have fin:∀{σ':St}{H':Hp}{v:V}{u:Value},Inv (cxOf CX P w K mg base N qual scope f cdv A outer s H E) [] σ' H' s'->RelV v u->Q v H'->CE outer P w H s Q u s' :=
  fun{σ' H' v u} J rv q=>⟨v,H',J.os,J.bare,J.base,J.hok,rv,q⟩
 cases fl with
 |ret u =>
  obtain⟨v,σ',H',J,rv,q⟩:=hs
  exact fin J rv q
 |next =>
  obtain⟨σ',H',J,q⟩:=hs
  exact fin (v:=V.non) (u:=Value.none) J rfl q
 |brk =>
  obtain⟨_,_,_,q⟩:=hs
  exact False.elim q
 |cont =>
  obtain⟨_,_,_,q⟩:=hs
  exact False.elim q
end L2
namespace L2
open PySem PySem.Spec PyProof.Rows
section
variable{X:Cx}{x:Str}{p pos:Pos}{e:Expr}{es:List Expr}{t:TA}{id T:String}{r:List V->Hp->VK->Prop}
def tCB(r:List V->Hp->VK->Prop)(t:TA):TE:=fun σ H Q=>t σ H fun vs H1=>r vs H1 Q
theorem aB(hc:kC X (.builtin id) r)(hg:Gl X x)(hm:X.mg x=none)(hv:bootBuiltins x=some (.builtin id))(ha:PA X (e::es) t) (hn:x≠"__name__":=by decide) (hdb:(x == ("__debug__" : Str))=false:=by decide)
  (he:starEach (e::es) X.env=(false,eval e X.env)::starEach es X.env:=by rfl) (hpl:(backTo pos (starEach es X.env)).any (·.1)=false:=by rfl):PE X (.Call (.Name x p) (e::es) [] pos) (tCB r t):=by
 intro pins s σ H Q I h
 refine wpAny_Call_Name_kw (rN I hg hm hv ?_ hn hdb)
 exact PyProof.Rows.callWith_builtin1 (thn (ha pos pins s σ H _ I h) fun us s1 ⟨vs,H1,I1,r1,q1⟩=>hc pins s1 σ H1 vs us Q I1 r1 q1) he hpl
theorem aR(hc:kC X (.type T) r)(hg:Gl X x)(hm:X.mg x=none)(hv:bootBuiltins x=some (.type T))(ha:PA X (e::es) t) (hn:x≠"__name__":=by decide) (hdb:(x == ("__debug__" : Str))=false:=by decide)
  (he:starEach (e::es) X.env=(false,eval e X.env)::starEach es X.env:=by rfl) (hpl:(backTo pos (starEach es X.env)).any (·.1)=false:=by rfl):PE X (.Call (.Name x p) (e::es) [] pos) (tCB r t):=by
 intro pins s σ H Q I h
 refine wpAny_Call_Name_kw (rN I hg hm hv ?_ hn hdb)
 exact PyProof.Rows.callWith_type1 (thn (ha pos pins s σ H _ I h) fun us s1 ⟨vs,H1,I1,r1,q1⟩=>hc pins s1 σ H1 vs us Q I1 r1 q1) he hpl
end
end L2
namespace HT
open PySem PyProof.Rows
section
open PySem.SeqAt
open PySem.AutoSeq1 (wpAny_loadPart')
open PySem.MeetsSeq PySem.MeetsSeq2 PySem.MeetsSeq3
end
section
variable{prog:Program}{w:World}{A:Around}{E:Value->Shared->Prop}{s:Shared}
def sIx(n d:Nat):Option Int->Nat
 |none=>d
 |some v=>if v<0 then(v+(n:Int)).toNat else min v.toNat n
theorem sIx_none(n d:Nat):sIx n d none=d:=rfl
theorem sIx_nat(n d k:Nat):sIx n d (some (k:Int))=min k n:=by
 show(if(k:Int)<0 then((k:Int)+(n:Int)).toNat else min (k:Int).toNat n)=min k n
 rw[if_neg (by omega),Ls]
end
end HT
namespace L2
open PySem PySem.Spec PyProof.Rows
abbrev TO:=St->Hp->(Option Int->Hp->Prop)->Prop
def PO(X:Cx)(e:Option Expr)(t:TO):Prop :=
 ∀(pins:List (Addr×Obj))(s:Shared)(σ:St)(H:Hp)(Q:Option Int->Hp->Prop),Inv X pins σ H s->t σ H Q ->
  wpAny (model X.prog X.w) X.A (evalPart e X.env) (fun u s'=>∃ o H',Inv X pins σ H' s'/\IsPart u o/\Q o H') X.xe s
def Jl:TO:=fun _ H Q=>Q none H
def tPart(t:TE):TO:=fun σ H Q=>t σ H fun x H1=>∃ i,x=.int i/\Q (some i) H1
section
variable{X:Cx}{e:Expr}{te:TE}{lo hi:Option Expr}{tl th:TO}{pos p2:Pos}
theorem oH:PO X none Jl:=by
 intro pins s σ H Q I h
 rw[evalPart_none]
 exact wpAny_pure ⟨none,H,I,.none,h⟩
theorem jC(h:PE X e te):PO X (some e) (tPart te):=by
 intro pins s σ H Q I hw
 rw[evalPart_some]
 refine thn (h pins s σ H _ I hw) fun u s1 ⟨x,H1,I1,r1,q1⟩=>?_
 obtain⟨i,rfl,q⟩:=q1
 obtain⟨t,rfl⟩:=r1
 exact⟨some i,H1,I1,.int i t,q⟩
def SlR(X:Cx)(r:V->Option Int->Option Int->Hp->VK->Prop):Prop :=
 ∀(pins:List (Addr×Obj))(s:Shared)(σ:St)(H:Hp)(x:V)(v vl vu:Value)(lo hi:Option Int)(sl:Addr)(Q:VK),Inv X pins σ H s->RelV x v->s.heap.IsSliceOf sl vl vu .none->IsPart vl lo->IsPart vu hi->r x lo hi H Q ->
  ∃ T id,typeLookup (.type T) "__getitem__" = pure (some (.builtin id))/\s.TypeIs v T/\wpAny (model X.prog X.w) X.A (getItem v (.ref sl)) (EP X pins σ Q) X.xe s
def tSl(r:V->Option Int->Option Int->Hp->VK->Prop)(te:TE)(tl th:TO):TE:=fun σ H Q=>te σ H fun x H1=>tl σ H1 fun l H2=>th σ H2 fun u H3=>r x l u H3 Q
theorem iW{r:V->Option Int->Option Int->Hp->VK->Prop}(hr:SlR X r)(he:PE X e te)(hl:PO X lo tl)(hu:PO X hi th):PE X (.Subscript e (.Slice lo hi none p2) pos) (tSl r te tl th):=by
 intro pins s σ H Q I h
 refine Subscript_ (thn (he pins s σ H _ I h) fun v s1 ⟨x,H1,I1,r1,q1⟩=>?_)
 refine wpAny_Slice (thn (hl pins s1 σ H1 _ I1 q1) fun vl s2 ⟨l,H2,I2,pl,q2⟩=>thn (hu pins s2 σ H2 _ I2 q2) fun vu s3 ⟨u,H3,I3,pu,q3⟩=>?_)
 rw[evalPart_none]
 refine wpAny_pure ?_
 have I4:Inv X pins σ H3 { s3 with heap:=s3.heap.push { cls:=.type "slice",data:=.fields #[vl,vu,.none] } }:=I3.kept (t':=s3.toks) fun b ob q=>Heap.get?_push_of_some _ q
 obtain⟨T,id,hT,ht,hg⟩:=hr pins { s3 with heap:=s3.heap.push { cls:=.type "slice",data:=.fields #[vl,vu,.none] } } σ H3 x v vl vu l u s3.heap.objs.size Q I4 r1 (Heap.IsSliceOf.new ..) pl pu q3
 show wpAny (model X.prog X.w) X.A (subscriptTail e (.Slice lo hi none p2) v (.ref s3.heap.objs.size)) (EP X pins σ Q) X.xe { s3 with heap:=s3.heap.push { cls:=.type "slice",data:=.fields #[vl,vu,.none] } }
 exact tail_any (ops:=[.ref s3.heap.objs.size,v]) ht hT hg (by with_unfolding_all rfl)
def cutV(xs:List V)(lo hi:Option Int):List V:=(xs.drop (HT.sIx xs.length 0 lo)).take (HT.sIx xs.length xs.length hi-HT.sIx xs.length 0 lo)
theorem AL(xs:List V)(lo hi:Option Int):(cutV xs lo hi).length<=xs.length:=by
 unfold cutV
 rw[LS,Mi]
 omega
end
end L2
namespace L2
open PySem PySem.Spec PyProof.Rows
def ixN(n:Nat)(i:Int):Option Nat:=if 0<=i then(if i<n then some i.toNat else none) else if -(n:Int)<=i then some (i+n).toNat else none
def atI{α:Type}(xs:List α)(i:Int):Option α:=(ixN xs.length i).bind fun j=>xs[j]?
theorem FU{n:Nat}{i:Int}{j:Nat}(h:ixN n i=some j):seqIndex? i n=some j/\j<n/\-(n:Int)<=i/\i<n:=by
 unfold ixN at h
 by_cases h0:0<=i
 ·rw[if_pos h0]at h
  by_cases h1:i<n
  ·rw[if_pos h1]at h
   have e:i.toNat=j:=Lm h
   exact⟨by rw[seqIndex_of h0 h1,e],by omega,by omega,h1⟩
  ·rw[if_neg h1]at h;cases h
 ·rw[if_neg h0]at h
  by_cases h1 : -(n:Int)<=i
  ·rw[if_pos h1]at h
   have e:(i+n).toNat=j:=Lm h
   exact⟨by rw[seqIndex_neg (by omega) h1,e],by omega,h1,by omega⟩
  ·rw[if_neg h1]at h;cases h
theorem Bm{α:Type}{xs:List α}{i:Int}{v:α}(h:atI xs i=some v):∃ j,seqIndex? i xs.length=some j/\xs[j]?=some v/\j<xs.length/\-(xs.length:Int)<=i/\i<xs.length:=by
 unfold atI at h
 cases e:ixN xs.length i with
 |none=>rw[e]at h;cases h
 |some j =>
  rw[e]at h
  obtain⟨h1,h2,h3,h4⟩:=FU e
  exact⟨j,h1,h,h2,h3,h4⟩
theorem aM{α:Type}{xs:List α}{j:Nat}{v:α}(h:xs[j]?=some v):atI xs (j:Int)=some v:=by
 have hj:j<xs.length:=(KS.mp h).1
 have e:ixN xs.length (j:Int)=some j:=by
  unfold ixN
  rw[if_pos (by omega),if_pos (by omega)];simp
 unfold atI;rw[e];exact h
theorem u4{α:Type}(xs:List α)(v:α):atI (xs++[v]) (-1)=some v:=by
 have hl:(xs++[v]).length=xs.length+1:=by simp
 have e:ixN (xs++[v]).length (-1)=some xs.length:=by
  unfold ixN
  rw[hl,if_neg (by decide),if_pos (by omega)]
  congr 1
  omega
 unfold atI
 rw[e]
 show(xs++[v])[xs.length]?=some v
 simp
def KP(b:Expr):Prop:=∀ o i,subscripted b false o i=operate [o,i] (getItem o i)
def IxR(X:Cx)(r:R2):Prop :=
 ∀(value slice:Expr)(pins:List (Addr×Obj))(s:Shared)(σ:St)(H:Hp)(x y:V)(v u:Value)(Q:VK),Inv X pins σ H s->RelV x v->RelV y u->r x y H Q ->
  subscripted slice false v u=operate [v,u] (getItem v u)->wpAny (model X.prog X.w) X.A (subscriptTail value slice v u) (EP X pins σ Q) X.xe s
def MtR(X:Cx)(id:String)(r:V->List V->Hp->VK->Prop):Prop :=
 ∀(pins:List (Addr×Obj))(s:Shared)(σ:St)(H:Hp)(x:V)(xs:List V)(v:Value)(us:List Value)(Q:VK),Inv X pins σ H s->RelV x v->Vals xs us->r x xs H Q ->
  wpAny (model X.prog X.w) X.A (call (.builtin id) (v::us)) (EP X pins σ Q) X.xe s
section
variable{X:Cx}{a b:Expr}{ta tb:TE}{pos:Pos}
theorem aF{r:R2}(hr:IxR X r)(ha:PE X a ta)(hb:PE X b tb)(hs:KP b):PE X (.Subscript a b pos) (tOp r ta tb):=by
 intro pins s σ H Q I h
 exact Subscript_ (binT ha hb I h fun v u s2 x y H2 I2 rx ry q=>hr a b pins s2 σ H2 x y v u Q I2 rx ry q (hs _ _))
def rIxL(K:KW):R2:=fun x y H Q=>∃ p xs i v,x=.ref p/\y=.int i/\SqL K H p xs/\atI xs i=some v/\Q v H
def rIxT(K:KW):R2:=fun x y H Q=>∃ p xs i v,x=.ref p/\y=.int i/\SqT K H p xs/\atI xs i=some v/\Q v H
def rIxS:R2:=fun x y H Q=>∃ z i c,x=.str z/\y=.int i/\z.length<=sizeLine/\atI z.cps.toList i=some c/\Q (.str ⟨#[c]⟩) H
theorem ay:IxR X (rIxL X.K):=by
 intro value slice pins s σ H x y v u Q I rx ry h hs
 obtain⟨p,xs,i,z,rfl,rfl,hq,he,q⟩:=h
 cases rx
 obtain⟨t,rfl⟩:=ry
 obtain⟨its,r,pl,hz⟩:=I.list hq
 obtain⟨j,h1,h2,h3,h4,h5⟩:=Bm he
 obtain⟨w,ew,rw'⟩:=r.get h2
 have hl:=r.length
 have hn:=oZ
 have fin:EP X pins σ Q w s:=⟨z,H,I,rw',q⟩
 by_cases h0:0<=i
 ·have hj:i.toNat=j:=by
   rw[seqIndex_of h0 h5]at h1
   exact Lm h1
  exact item_listR pl.isList h0 (by omega) (by rw[hj];simpa using ew) fin hs
 ·have hj:(i+(its.toArray.size:Int)).toNat=j:=by
   rw[seqIndex_neg (by omega) h4]at h1
   rw[Lk,← hl]
   exact Lm h1
  exact subscriptTail_builtinR (x:=w) pl.isList.typeIs slot_list_getitem.lookup
   (wpAny_getItem_list_neg (Q:=fun r s'=>r=w/\EP X pins σ Q r s') pl.isList (by omega) (by rw[Lk]<;>omega) (by omega) (by rw[hj];simpa using ew) ⟨rfl,fin⟩) hs
theorem aT:IxR X (rIxT X.K):=by
 intro value slice pins s σ H x y v u Q I rx ry h hs
 obtain⟨p,xs,i,z,rfl,rfl,hq,he,q⟩:=h
 cases rx
 obtain⟨t,rfl⟩:=ry
 obtain⟨its,r,pl,hz⟩:=I.tuple hq
 obtain⟨j,h1,h2,h3,h4,h5⟩:=Bm he
 obtain⟨w,ew,rw'⟩:=r.get h2
 have hl:=r.length
 have hn:=oZ
 have fin:EP X pins σ Q w s:=⟨z,H,I,rw',q⟩
 exact subscriptTail_builtinR (x:=w) pl.typeIs slot_tuple_getitem.lookup
  (getItem_tuple (j:=j) (Q:=fun r s'=>r=w/\EP X pins σ Q r s') pl (by omega) (by omega) (by rw[Lk,← hl];exact h1) (by simpa using ew) ⟨rfl,fin⟩) hs
theorem ix_str:IxR X rIxS:=by
 intro value slice pins s σ H x y v u Q I rx ry h hs
 obtain⟨z,i,c,rfl,rfl,hz,he,q⟩:=h
 obtain⟨t,rfl⟩:=rx
 obtain⟨t',rfl⟩:=ry
 obtain⟨j,h1,h2,h3,h4,h5⟩:=Bm he
 have hl:z.cps.toList.length=z.length:=by simp[Str.length]
 rw[hl]at h1 h4 h5
 have hn:=oZ
 exact tail_any (typeIs_str s z t) slot_str_getitem.lookup (getItem_str (c:=c) (by
  have e1:decide (i < -(2^63:Int))=false:=decide_eq_false (by omega)
  have e2:decide (i ≥ 2^63)=false:=decide_eq_false (by omega)
  rw[e1,e2,NU]) (by rw[h1];simpa using h2) ⟨.str ⟨#[c]⟩,H,I.tok _,⟨_,rfl⟩,q⟩) hs
theorem Dc(its:List Value)(n j:Nat)(u:Value):Obj.mapSeq (·.setIfInBounds j u) { cls:=.type "list",data:=.seq its.toArray n }={ cls:=.type "list",data:=.seq (its.set j u).toArray n }:=by
 simp[Obj.mapSeq]
theorem Inv.lst{pins:List (Addr×Obj)}{σ:St}{H:Hp}{s:Shared}{p:Addr}{xs:List V}(I:Inv X pins σ H s)(h:H p=some (.lst xs)) :
  ∃(its:List Value)(n:Nat),Vals xs its/\s.heap.get? p=some { cls:=.type "list",data:=.seq its.toArray n }/\xs.length<=sizeLine:=by
 obtain⟨z,its,n,r,e⟩:=I.hok p _ h
 exact⟨its,n,r,e,z⟩
theorem Inv.lstUpd{pins:List (Addr×Obj)}{σ:St}{H:Hp}{s:Shared}{p:Addr}{xs ys:List V}{its its':List Value}{n n':Nat}{f:Obj->Obj}(I:Inv X pins σ H s)(h:H p=some (.lst xs))
  (ho:s.heap.get? p=some { cls:=.type "list",data:=.seq its.toArray n }) (hf:f { cls:=.type "list",data:=.seq its.toArray n }={ cls:=.type "list",data:=.seq its'.toArray n' }) (r:Vals ys its') (hz:ys.length<=sizeLine) (t:Nat) :
  Inv X pins σ (upd H p (.lst ys)) { s with heap:=s.heap.update p f,toks:=t }:=by
 have e:(s.heap.update p f).get? p=some { cls:=.type "list",data:=.seq its'.toArray n' }:=by
  rw[Heap.get?_update_self f ho (by rw[hf]<;>rfl),hf]
 refine I.write (x:=p) (e:=p) (by rw[h];trivial) (.inl rfl) (fun b u hb q=>(Heap.get?_update_other _ _ (Ne.symm hb)).trans q) ⟨_,e⟩ ?_
 exact⟨hz,its',n',r,e⟩
def rSetL:V->V->V->Hp->(Hp->Prop)->Prop:=fun o i v H Q=>∃ p xs k j,o=.ref p/\i=.int k/\H p=some (.lst xs)/\ixN xs.length k=some j/\Q (upd H p (.lst (xs.set j v)))
theorem fM:PSet X rSetL:=by
 intro pins s σ H o i v ov iv u Q I ro ri rv h
 obtain⟨p,xs,k,j,rfl,rfl,hp,hj,q⟩:=h
 cases ro
 obtain⟨t,rfl⟩:=ri
 obtain⟨its,n,r,ho,hz⟩:=I.lst hp
 obtain⟨h1,h2,h3,h4⟩:=FU hj
 have hl:=r.length
 have hn:=oZ
 have I':Inv X pins σ (upd H p (.lst (xs.set j v))) { s with heap:=s.heap.update p (Obj.mapSeq (·.setIfInBounds j u)) } :=
  I.lstUpd hp ho (Dc its n j u) (r.set rv j) (by rw[LA];exact hz) s.toks
 by_cases h0:0<=k
 ·have hk:k.toNat=j:=by
   rw[seqIndex_of h0 h4]at h1
   exact Lm h1
  exact PySem.W.ki_setAt ho h0 (by omega) (by rw[Lk,← hl];exact h4) (by rw[hk];exact⟨_,I',q⟩)
 ·have hk:(k+(its.toArray.size:Int)).toNat=j:=by
   rw[seqIndex_neg (by omega) h3]at h1
   rw[Lk,← hl]
   exact Lm h1
  exact PySem.W.ki_setBack ho (by omega) (by rw[Lk,← hl];exact h3) (by omega) (by rw[hk];exact⟨_,I',q⟩)
theorem vn(lo hi:Option Int)(n:Nat):(sliceBounds lo hi none n).1=((HT.sIx n 0 lo:Nat):Int)/\(sliceBounds lo hi none n).2.1=((HT.sIx n n hi:Nat):Int)/\(sliceBounds lo hi none n).2.2=1:=by
 refine⟨?_,?_,rfl⟩
 ·cases lo with
  |none=>simp[sliceBounds,HT.sIx]
  |some i =>
   simp only[sliceBounds,HT.sIx,Option.getD_none,show(1:Int) > 0 by decide,if_true]
   by_cases h:i<0
   ·simp only[h,if_true]<;>omega
   ·simp only[h,if_false]<;>omega
 ·cases hi with
  |none=>simp[sliceBounds,HT.sIx]
  |some i =>
   simp only[sliceBounds,HT.sIx,Option.getD_none,show(1:Int) > 0 by decide,if_true]
   by_cases h:i<0
   ·simp only[h,if_true]<;>omega
   ·simp only[h,if_false]<;>omega
theorem sX(its:List Value)(lo hi:Option Int):slicePick its.toArray lo hi none=((its.drop (HT.sIx its.length 0 lo)).take (HT.sIx its.length its.length hi-HT.sIx its.length 0 lo)).toArray:=by
 obtain⟨h1,h2,h3⟩:=vn lo hi its.toArray.size
 unfold slicePick
 rw[h1,h2,h3]
 simp only[sliceRange_one,pick_run,Lk]<;>rfl
def rSlL(K:KW):V->Option Int->Option Int->Hp->VK->Prop:=fun x lo hi H Q=>∃ a xs,x=.ref a/\SqL K H a xs/\∀ p,H p=none->Q (.ref p) (upd H p (.lst (cutV xs lo hi)))
theorem lD:SlR X (rSlL X.K):=by
 intro pins s σ H x v vl vu lo hi sl Q I rx hs pl pu h
 obtain⟨a,xs,rfl,hx,q⟩:=h
 cases rx
 obtain⟨its,r,ht,hz⟩:=I.list hx
 have hlen:=r.length
 refine⟨"list",_,slot_list_getitem.lookup,ht.isList.typeIs,?_⟩
 refine wpAny_getItem_list_slice ht.isList hs pl pu .none (by simp) ?_ (by rw[Lk]<;>omega)
 rw[sX,← hlen]
 refine⟨.ref s.heap.objs.size,_,I.laid (t':=s.toks) (o:=.lst (cutV xs lo hi)) (fun b ob q=>Heap.get?_push_of_some _ q) (K3 _) ?_,rfl,q _ (I.hok.fresh (K3 _))⟩
 exact⟨LH (AL xs lo hi) hz,_,0,(r.drop (HT.sIx xs.length 0 lo)).take (HT.sIx xs.length xs.length hi-HT.sIx xs.length 0 lo),Heap.get?_push_size _ rfl⟩
def uA:V->Bool
 |.non=>true
 |.bl _=>true
 |.int _=>true
 |.str _=>true
 |_=>false
def eqV:V->V->Bool
 |.non,.non=>true
 |.bl a,.bl b=>a == b
 |.bl a,.int b=>(if a then 1 else 0) == b
 |.int a,.bl b=>a == (if b then 1 else 0)
 |.int a,.int b=>a == b
 |.str a,.str b=>a == b
 |_,_=>false
theorem eqAt_V{A:Around}{s:Shared}{y x:V}{u v:Value}(ry:RelV y u)(rx:RelV x v)(fy:uA y=true)(fx:uA x=true):SeqAt.EqAt A s u v (eqV y x):=by
 cases y with
 |non =>
  cases ry
  cases x with
  |non=>cases rx;exact SeqAt.EqAt.same _
  |bl b=>cases rx;exact SeqAt.EqAt.none_bool b
  |int b=>obtain⟨t,rfl⟩:=rx;exact SeqAt.EqAt.none_int b t
  |str b=>obtain⟨t,rfl⟩:=rx;exact SeqAt.EqAt.none_str b t
  |_=>exact absurd (show false=true from fx) Lo
 |bl a =>
  cases ry
  cases x with
  |non=>cases rx;exact SeqAt.EqAt.bool_none a
  |bl b=>cases rx;exact SeqAt.EqAt.bool_bool a b
  |int b=>obtain⟨t,rfl⟩:=rx;exact SeqAt.EqAt.bool_int a b t
  |str b=>obtain⟨t,rfl⟩:=rx;exact SeqAt.EqAt.bool_str a b t
  |_=>exact absurd (show false=true from fx) Lo
 |int a =>
  obtain⟨t',rfl⟩:=ry
  cases x with
  |non=>cases rx;exact SeqAt.EqAt.int_none a t'
  |bl b=>cases rx;exact SeqAt.EqAt.int_bool a t' b
  |int b=>obtain⟨t,rfl⟩:=rx;exact SeqAt.EqAt.int_int a t' b t
  |str b=>obtain⟨t,rfl⟩:=rx;exact SeqAt.EqAt.int_str a t' b t
  |_=>exact absurd (show false=true from fx) Lo
 |str a =>
  obtain⟨t',rfl⟩:=ry
  cases x with
  |non=>cases rx;exact SeqAt.EqAt.str_none a t'
  |bl b=>cases rx;exact SeqAt.EqAt.str_bool a t' b
  |int b=>obtain⟨t,rfl⟩:=rx;exact SeqAt.EqAt.str_int a t' b t
  |str b=>obtain⟨t,rfl⟩:=rx;exact SeqAt.EqAt.str_str a t' b t
  |_=>exact absurd (show false=true from fx) Lo
 |_=>exact absurd (show false=true from fy) Lo
def eqU(x:V)(u:Value):Bool:=match u with
 |.none=>eqV .non x
 |.bool b=>eqV (.bl b) x
 |.int i _=>eqV (.int i) x
 |.str z _=>eqV (.str z) x
 |_=>false
theorem IU{x y:V}{u:Value}(r:RelV y u)(f:uA y=true):eqU x u=eqV y x:=by
 cases y with
 |non=>cases r;rfl
 |bl b=>cases r;rfl
 |int i=>obtain⟨t,rfl⟩:=r;rfl
 |str z=>obtain⟨t,rfl⟩:=r;rfl
 |_=>exact absurd (show false=true from f) Lo
theorem Bn{x:V}:∀{xs:List V}{us:List Value},Vals xs us->xs.all uA=true->us.any (eqU x)=xs.any fun y=>eqV y x
 |_,_,.nil,_=>rfl
 |y::xs,u::us,.cons r t,f=>by
  rw[Nd,MC]at f
  rw[Mm,Mm,IU r f.1,Bn t f.2]
theorem uc{A:Around}{s:Shared}{x:V}{v:Value}(rx:RelV x v)(fx:uA x=true):∀{xs:List V}{us:List Value},Vals xs us->xs.all uA=true->∀ u∈us,SeqAt.EqAt A s u v (eqU x u)
 |_,_,.nil,_=>fun u hu=>by cases hu
 |y::xs,u::us,.cons r t,f=>fun u' hu=>by
  rw[Nd,MC]at f
  rcases K0.mp hu with rfl | hu
  ·rw[IU r f.1];exact eqAt_V r rx f.1 fx
  ·exact uc rx fx t f.2 u' hu
def inV(x:V)(xs:List V):Bool:=xs.any fun y=>eqV y x
def rIn(K:KW)(neg:Bool):R2:=fun x y H Q=>∃ p xs,y=.ref p/\(SqL K H p xs∨SqT K H p xs)/\uA x=true/\xs.all uA=true/\Q (.bl (if neg then !inV x xs else inV x xs)) H
theorem kK:OpR X (compareOp .In) (rIn X.K false):=by
 intro pins s σ H x y v u Q I rx ry h
 obtain⟨p,xs,rfl,hq,fx,fs,q⟩:=h
 cases ry
 rcases hq with hq | hq
 ·obtain⟨its,r,pl,hz⟩:=I.list hq
  refine SeqAt.in_listAt (eqU x) pl.isList (fun w hw=>uc rx fx r fs w (by simpa using hw)) ⟨.bl _,H,I,rfl,?_⟩
  rw[show its.toArray.any (eqU x)=its.any (eqU x) by simp,Bn r fs]
  exact q
 ·obtain⟨its,r,pl,hz⟩:=I.tuple hq
  refine SeqAt.in_tupleAt (eqU x) pl (fun w hw=>uc rx fx r fs w (by simpa using hw)) ⟨.bl _,H,I,rfl,?_⟩
  rw[show its.toArray.any (eqU x)=its.any (eqU x) by simp,Bn r fs]
  exact q
theorem ao:kC X (.builtin "len") (fun xs H Q=>∃ p ys,xs = [.ref p]/\(SqL X.K H p ys∨SqT X.K H p ys)/\Q (.int ys.length) H):=by
 intro pins s σ H xs us Q I r h
 obtain⟨p,ys,rfl,hq,q⟩:=h
 obtain⟨u,rfl,rx⟩:=nA r
 cases rx
 have hn:=oZ
 rcases hq with hq | hq
 ·obtain⟨its,r',pl,hz⟩:=I.list hq
  have hlen:=r'.length
  exact Calls.call_len_list pl.isList (by simp only[Lk]<;>omega) ⟨.int ys.length,H,I.tok _,⟨s.toks+1,by rw[Lk,hlen]⟩,q⟩
 ·obtain⟨its,r',pl,hz⟩:=I.tuple hq
  have hlen:=r'.length
  exact len_tuple pl (by simp only[Lk]<;>omega) ⟨.int ys.length,H,I.tok _,⟨s.toks+1,by rw[Lk,hlen]⟩,q⟩
theorem x8:kC X (.builtin "len") (fun xs H Q=>∃ z,xs = [.str z]/\z.length<=sizeLine/\Q (.int z.length) H):=by
 intro pins s σ H xs us Q I r h
 obtain⟨z,rfl,hz,q⟩:=h
 obtain⟨u,rfl,t,rfl⟩:=nA r
 have hn:=oZ
 exact len_str (by omega) ⟨.int z.length,H,I.tok _,⟨_,rfl⟩,q⟩
theorem bK:kC X (.type "list") (fun xs H Q=>∃ p ys,xs = [.ref p]/\(SqL X.K H p ys∨SqT X.K H p ys)/\∀ l,H l=none->Q (.ref l) (upd H l (.lst ys))):=by
 intro pins s σ H xs us Q I r h
 obtain⟨p,ys,rfl,hq,q⟩:=h
 obtain⟨u,rfl,rx⟩:=nA r
 cases rx
 have fin:∀(its:List Value),Vals ys its->ys.length<=sizeLine->∀(h':Heap)(c':Nat),(∀ b o',s.heap.get? b=some o'->h'.get? b=some o') ->
   h'.get? s.heap.objs.size=some { cls:=.type "list",dict:=none,data:=.seq its.toArray c',slots:=#[] }->EP X pins σ Q (.ref s.heap.objs.size) { s with heap:=h' }:=fun its r' hz h' c' kp e =>
  ⟨.ref s.heap.objs.size,_,I.laid (t':=s.toks) kp (K3 _) (show bV X.prog X.w _ h' _ (.lst ys) from⟨hz,its,c',r',e⟩),rfl,q _ (I.hok.fresh (K3 _))⟩
 rcases hq with hq | hq
 ·obtain⟨its,r',pl,hz⟩:=I.list hq
  have hlen:=r'.length
  obtain⟨o,ho,hc,n,hd⟩:=pl.isList
  exact call_list_seq p (.inl rfl) ho hc hd (fun h' c' kp e=>fin its r' hz h' c' kp e) (by simp only[Lk]<;>omega)
 ·obtain⟨its,r',pl,hz⟩:=I.tuple hq
  have hlen:=r'.length
  obtain⟨o,ho,hc,n,hd⟩:=pl
  exact call_list_seq p (.inr rfl) ho hc hd (fun h' c' kp e=>fin its r' hz h' c' kp e) (by simp only[Lk]<;>omega)
def tyV(K:KW)(T:String)(x:V)(H:Hp):Prop:=match x with
 |.str _=>T = "str"
 |.int _=>T = "int"
 |.ref p=>(T = "list"/\∃ xs,SqL K H p xs)∨(T = "tuple"/\∃ o,K.lookup p=some o/\o.cls=.type "tuple"/\o.dict=none) ∨
   (T = "dict"/\((∃ kvs,H p=some (.dK kvs))∨∃ kvs,H p=some (.dT kvs)))∨(T = "set"/\∃ S n,H p=some (.set S n))
 |_=>False
theorem IA{pins:List (Addr×Obj)}{σ:St}{H:Hp}{s:Shared}{T:String}{x:V}{v:Value}(I:Inv X pins σ H s)(r:RelV x v)(ty:tyV X.K T x H) :
  s.TypeIs v T/\∀ a,v=.ref a->∃ ob,s.heap.get? a=some ob/\ob.dict=none:=by
 cases x with
 |str z =>
  obtain⟨t,rfl⟩:=r
  cases (show T = "str" from ty)
  exact⟨typeIs_str s z t,fun _ e=>nomatch e⟩
 |int i =>
  obtain⟨t,rfl⟩:=r
  cases (show T = "int" from ty)
  exact⟨typeIs_int s i t,fun _ e=>nomatch e⟩
 |ref p =>
  cases r
  rcases ty with⟨rfl,xs,hq⟩ | ⟨rfl,o,hk,hc,hd⟩ | ⟨rfl,hk⟩ | ⟨rfl,S,n,hk⟩
  ·obtain⟨its,_,pl,_⟩:=I.list hq
   refine⟨pl.isList.typeIs,fun a e=>?_⟩
   cases e
   obtain⟨o,n,e,c,hd,_⟩:=pl
   exact⟨o,e,hd⟩
  ·refine⟨⟨o,I.kIn p o hk,hc⟩,fun a e=>?_⟩
   cases e
   exact⟨o,I.kIn _ o hk,hd⟩
  ·have z:∃ o,s.heap.get? p=some o/\o.ExactDict:=by
    rcases hk with⟨kvs,hk⟩ | ⟨kvs,hk⟩
    ·obtain⟨_,_,_,_,o,_,_,e,ex,_⟩:=I.hok p _ hk
     exact⟨o,e,ex⟩
    ·obtain⟨_,_,_,_,o,_,_,e,ex,_⟩:=I.hok p _ hk
     exact⟨o,e,ex⟩
   obtain⟨o,e,ex⟩:=z
   refine⟨⟨o,e,ex.1⟩,fun a e2=>?_⟩
   cases e2
   exact⟨o,e,ex.2.1⟩
  ·obtain⟨o,_,_,_,e,ex,_⟩:=I.hok p _ hk
   refine⟨⟨o,e,ex.1⟩,fun a e2=>?_⟩
   cases e2
   exact⟨o,e,ex.2.1⟩
 |_=>exact False.elim ty
def tBM0(K:KW)(T:String)(r:V->List V->Hp->VK->Prop)(to:TE):TE:=fun σ H Q=>to σ H fun x H1=>tyV K T x H1/\r x [] H1 Q
def tBM(K:KW)(T:String)(r:V->List V->Hp->VK->Prop)(to:TE)(t:TA):TE:=fun σ H Q=>to σ H fun x H1=>tyV K T x H1/\t σ H1 fun xs H2=>r x xs H2 Q
variable{o e:Expr}{es:List Expr}{to:TE}{t:TA}{name:Str}{apos cpos:Pos}{T id:String}{r:V->List V->Hp->VK->Prop}
theorem EZ(pa:PlainAttrs T)(slot:Slot T name id) (hty:typeOf (.builtin id)=pure (.type "method_descriptor")) (hm:MtR X id r) (ho:PE X o to)
  (hbase:attributeBase o name X.env (eval o X.env)=eval o X.env:=by rfl) (hline:(apos.endLine == cpos.line)=true:=by rfl):PE X (.Call (.Attribute o name apos) [] [] cpos) (tBM0 X.K T r to):=by
 intro pins s σ H Q I h
 refine wpAny_Call_method0_late hbase hline (thn (ho pins s σ H _ I h) fun v s1 ⟨x,H1,I1,r1,ty,q1⟩=>?_)
 obtain⟨h1,h2⟩:=IA I1 r1 ty
 exact⟨T,id,pa,slot,hty,h1,h2,Calls.callWith_builtin rfl (PySem.evalArgs_none (hm pins s1 σ H1 x [] v [] Q I1 r1 .nil q1))⟩
theorem bT(pa:PlainAttrs T)(slot:Slot T name id) (hty:typeOf (.builtin id)=pure (.type "method_descriptor")) (hm:MtR X id r) (ho:PE X o to) (ha:PA X (e::es) t)
  (hbase:attributeBase o name X.env (eval o X.env)=eval o X.env:=by rfl)
  (hfew:((backTo cpos (starEach (e::es) X.env)).all (fun x=>!x.1)&&(backToKw cpos (keywordEach [] X.env)).all (fun x=>x.1.isSome)
   && decide ((e::es).length+([]:List Keyword).length+(if([]:List Keyword).isEmpty then 0 else 1)<30))=true:=by rfl)
  (hline:(apos.endLine == cpos.line)=true:=by rfl) (hs:starEach (e::es) X.env=(false,eval e X.env)::starEach es X.env:=by rfl) (hplain:(backTo cpos (starEach es X.env)).any (·.1)=false:=by rfl) :
  PE X (.Call (.Attribute o name apos) (e::es) [] cpos) (tBM X.K T r to t):=by
 intro pins s σ H Q I h
 refine wpAny_Call_method_late hbase hfew hline rfl (thn (ho pins s σ H _ I h) fun v s1 ⟨x,H1,I1,r1,ty,q1⟩=>?_)
 obtain⟨h1,h2⟩:=IA I1 r1 ty
 refine⟨T,id,pa,slot,hty,h1,h2,?_⟩
 have hA:=ha cpos pins s1 σ H1 _ I1 q1
 rw[hs]at hA ⊢
 refine Calls.callWith_builtin (by show(false||(backTo cpos (starEach es X.env)).any (·.1))=false;rw[hplain]<;>rfl) (Calls.evalArgs_plain ?_)
 exact thn hA fun us s2 ⟨vs,H2,I2,r2,q2⟩=>hm pins s2 σ H2 x vs v us Q I2 r1 r2 q2
end
end L2
namespace L2
open PySem PySem.Spec PyProof.Rows
def MtM(X:Cx)(id:String)(r:V->List V->Hp->VK->Prop):Prop :=
 ∀(pins:List (Addr×Obj))(s:Shared)(σ:St)(H:Hp)(x:V)(xs:List V)(v:Value)(us:List Value)(Q:VK),Inv X pins σ H s->RelV x v->Vals xs us->r x xs H Q ->
  wpAny (model X.prog X.w) X.A (call (.builtin id) (v::us)) (EP X pins σ Q) X.xe s
theorem Vals.one:∀{x:V}{us:List Value},Vals [x] us->∃ u,us = [u]/\RelV x u
 |_,_,.cons r .nil=>⟨_,rfl,r⟩
theorem Vals.two:∀{x y:V}{us:List Value},Vals [x,y] us->∃ u v,us = [u,v]/\RelV x u/\RelV y v
 |_,_,_,.cons r (.cons q .nil)=>⟨_,_,rfl,r,q⟩
theorem Vals.zero:∀{us:List Value},Vals [] us->us = []
 |_,.nil=>rfl
theorem Vals.dropLast{xs:List V}{us:List Value}(h:Vals xs us):Vals xs.dropLast us.dropLast:=by
 induction h with
 |nil=>exact .nil
 |cons r t ih =>
  cases t with
  |nil=>exact .nil
  |cons q t'=>exact .cons r ih
theorem DA{α:Type}(l:List α):l.eraseIdx (l.length-1)=l.dropLast:=by
 induction l with
 |nil=>rfl
 |cons a r ih =>
  cases r with
  |nil=>rfl
  |cons b r =>
   have e:(a::b::r).length-1=((b::r).length-1)+1:=by
    have h1:(a::b::r).length=r.length+2:=rfl
    have h2:(b::r).length=r.length+1:=rfl
    omega
   rw[e,List.eraseIdx_cons_succ,ih]
   all_goals rfl
section
variable{X:Cx}{pins:List (Addr×Obj)}{σ:St}{H:Hp}{s:Shared}{l b:Addr}{xs ys zs:List V}
theorem Inv.lset{its its':List Value}{n:Nat}{f:Array Value->Array Value}{t':Nat}(I:Inv X pins σ H s)(hH:H l=some (.lst xs))
  (e:s.heap.get? l=some { cls:=.type "list",data:=.seq its.toArray n }) (hf:f its.toArray=its'.toArray) (hv:Vals ys its') (hz:ys.length<=sizeLine) :
  Inv X pins σ (upd H l (.lst ys)) { s with heap:=s.heap.update l (Obj.mapSeq f),toks:=t' }:=by
 have q:=PySem.IsL.update e f
 rw[hf]at q
 refine I.write (x:=l) (e:=l) (by rw[hH];exact trivial) (.inl rfl) (fun b' u hb hu=>(Heap.get?_update_other s.heap (Obj.mapSeq f) (Ne.symm hb)).trans hu) ⟨_,q⟩ ?_
 exact⟨hz,its',_,hv,q⟩
theorem Inv.lnew{its:List Value}{t':Nat}(I:Inv X pins σ H s)(hv:Vals ys its)(hz:ys.length<=sizeLine) :
  Inv X pins σ (upd H s.heap.objs.size (.lst ys)) { s with heap:=s.heap.push { cls:=.type "list",data:=.seq its.toArray },toks:=t' } :=
 I.laid (fun _ _ q=>Heap.get?_push_of_some _ q) (K3 _) ⟨hz,its,0,hv,Heap.get?_push_size _ rfl⟩
theorem Inv.fresh(I:Inv X pins σ H s):H s.heap.objs.size=none:=I.hok.fresh (K3 _)
theorem Inv.lstM(I:Inv X pins σ H s)(hH:H l=some (.lst xs)):xs.length<=sizeLine/\∃(its:List Value)(n:Nat),Vals xs its/\xs.length=its.length/\s.heap.get? l=some { cls:=.type "list",data:=.seq its.toArray n }:=by
 obtain⟨z,its,n,r,e⟩:=I.hok l _ hH
 exact⟨z,its,n,r,r.length,e⟩
theorem HN{n:Nat}(h:n<=sizeLine):Builtin.List.listTooLong n=false:=by
 unfold Builtin.List.listTooLong
 exact decide_eq_false (by omega)
end
section
variable{X:Cx}
def Jz:V->List V->Hp->VK->Prop:=fun x vs H Q=>∃ l xs y,x=.ref l/\vs = [y]/\H l=some (.lst xs)/\xs.length<sizeLine/\Q .non (upd H l (.lst (xs++[y])))
theorem ba:MtM X "list.append" Jz:=by
 intro pins s σ H x vs v us Q I rx rv h
 obtain⟨l,xs,y,rfl,rfl,hH,hz,q⟩:=h
 cases rx
 obtain⟨u,rfl,ru⟩:=rv.one
 obtain⟨z,its,n,r,hl,e⟩:=I.lstM hH
 refine call_meets F.slot_list_append ⟨_,e,rfl⟩ F.entry_list_append (F.args_list_append_2 _ _) (PySem.list_append l its.toArray n u (by rw[Lk];omega)) ⟨e,?_⟩
 refine⟨.non,_,I.lset (its':=its++[u]) hH e (by simp) (r.append (.cons ru .nil)) ?_,rfl,q⟩
 rw[KU,K4]
 omega
def Jy:V->List V->Hp->VK->Prop:=fun x vs H Q=>∃ l b xs zs,x=.ref l/\vs = [.ref b]/\H l=some (.lst xs)/\H b=some (.lst zs)/\xs.length+zs.length<=sizeLine/\Q .non (upd H l (.lst (xs++zs)))
theorem wU:MtM X "list.extend" Jy:=by
 intro pins s σ H x vs v us Q I rx rv h
 obtain⟨l,b,xs,zs,rfl,rfl,hH,hB,hz,q⟩:=h
 cases rx
 obtain⟨u,rfl,ru⟩:=rv.one
 cases ru
 obtain⟨z,its,n,r,hl,e⟩:=I.lstM hH
 obtain⟨z2,its2,n2,r2,hl2,e2⟩:=I.lstM hB
 have hsz:its.toArray.size+its2.toArray.size<=sizeLine:=by rw[Lk,Lk];omega
 have hlong:¬ (!its.toArray.isEmpty&&Builtin.List.listTooLong (its.toArray.size+its2.toArray.size))=true:=by
  rw[HN hsz,Bool.and_false]
  exact Lo
 refine call_meets F.slot_list_extend ⟨_,e,rfl⟩ F.entry_list_extend (F.args_list_extend_2 _ _)
  (AutoSeq1.list_extend_list_list_0 l its.toArray n b its2.toArray n2 hlong (by rw[Lk];omega) (by omega)) ⟨e,e2,?_⟩
 refine⟨.non,_,I.lset (its':=its++its2) hH e (by simp) (r.append r2) ?_,rfl,q⟩
 rw[KU]
 omega
def rPop:V->List V->Hp->VK->Prop:=fun x vs H Q=>∃ l xs y,x=.ref l/\vs = []/\H l=some (.lst xs)/\xs[xs.length-1]?=some y/\Q y (upd H l (.lst xs.dropLast))
theorem Fv:MtM X "list.pop" rPop:=by
 intro pins s σ H x vs v us Q I rx rv h
 obtain⟨l,xs,y,rfl,rfl,hH,hy,q⟩:=h
 cases rx
 have hus:=rv.zero
 subst hus
 obtain⟨z,its,n,r,hl,e⟩:=I.lstM hH
 obtain⟨u,hu,ru⟩:=r.get hy
 have hy':its.toArray[its.toArray.size-1]?=some u:=by
  show its.toArray[its.length-1]?=some u
  rw[← Array.getElem?_toList,← hl]
  exact hu
 refine call_meets F.slot_list_pop ⟨_,e,rfl⟩ F.entry_list_pop (F.args_list_pop_1 _) (MeetsSeq.list_pop_last l its.toArray n u hy' (by rw[Lk];omega)) ⟨e,?_⟩
 refine⟨y,_,I.lset (its':=its.dropLast) hH e ?_ r.dropLast ?_,ru,q⟩
 ·show its.toArray.eraseIdxIfInBounds (its.toArray.size-1)=its.dropLast.toArray
  rw[Lk,List.eraseIdxIfInBounds_toArray,DA]
 ·rw[List.length_dropLast]
  omega
def rCat:R2:=fun x y H Q=>∃ l b xs zs,x=.ref l/\y=.ref b/\H l=some (.lst xs)/\H b=some (.lst zs)/\xs.length+zs.length<=sizeLine/\∀ p,H p=none->Q (.ref p) (upd H p (.lst (xs++zs)))
theorem op_cat:OpR X (binaryOp .Add) rCat:=by
 intro pins s σ H x y v u Q I rx ry h
 obtain⟨l,b,xs,zs,rfl,rfl,hH,hB,hz,q⟩:=h
 cases rx
 cases ry
 obtain⟨z,its,n,r,hl,e⟩:=I.lstM hH
 obtain⟨z2,its2,n2,r2,hl2,e2⟩:=I.lstM hB
 refine PySem.P.add_list e e2 ?_ (by rw[Lk,Lk];omega)
 have ea:its.toArray++its2.toArray=(its++its2).toArray:=by simp
 rw[ea]
 exact⟨.ref _,_,I.lnew (t':=s.toks) (r.append r2) (by rw[KU];omega),rfl,q _ I.fresh⟩
end
section
variable{prog:Program}{w:World}{A:Around}{E:Value->Shared->Prop}{s:Shared}
end
section
variable{X:Cx}
end
end L2
namespace Att
open PySem PySem.W PySem.Calls PyProof.Rows
theorem pD{P:Params}{h:Heap}:∀(ns:List Int)(vs:List Value),WellAll P h vs (ns.map WData.int)->IntsAre vs ns:=by
 intro ns
 induction ns with
 |nil =>
  intro vs w
  rw[List.map_nil]at w
  cases w
  exact .nil
 |cons n ns ih =>
  intro vs w
  rw[Lr]at w
  cases w with
  |cons a b =>
   cases a
   exact .cons _ _ (ih _ b)
theorem EC{l:OpenLaw}{n:Nat}(hn:l.most=some n){P:Params}{h:Heap}{args:List WData}{vals:List Value}
  (hpre:l.row.toRowW.claim.pre args=true) (hwl:WellAll P h vals args) :
  ∃ a vs ns,vals = [Value.ref a]/\args = [WData.list (ns.map WData.int)]/\h.get? a=some { cls:=.type "list",data:=.seq vs.toArray }/\IntsAre vs ns/\ns.length<=n:=by
 have hsh:WShape.hasAll [] args [.list .int]=true:=(pre_splitW hpre).1
 have hc:l.pre.holds [] { args:=args }=true:=(pre_splitW hpre).2
 obtain⟨d,r,rfl,h1,h2⟩:=hasAllW_cons hsh
 obtain rfl:=hasAllW_nil h2
 obtain⟨xs,rfl,h3⟩:=hasW_list h1
 obtain⟨ns,rfl⟩:=items_int h3
 have hlen:ns.length<=n:=by
  unfold OpenLaw.pre at hc
  have h4:(WTm.not (.lt (.lit (.int (n:Int))) (.len (.arg 0)))).holds [] { args:=[.list (ns.map .int)] }=true:=by
   have h4:=(holds_andW hc).1
   rw[hn]at h4
   exact h4
  have h5:=condW_of h4 (w_not (w_lt w_lit (w_len_list (w_arg rfl))))
  rw[K2]at h5
  refine Nat.le_of_not_lt fun q=>?_
  have q':(n:Int)<((ns.length:Nat):Int):=by omega
  first
   | (rw[decide_eq_true q']at h5;exact absurd h5 (by decide))
   | (simp at h5;omega)
 cases hwl with
 |cons w1 w2 =>
  cases w2
  cases w1 with
  |list ho hall=>exact⟨_,_,ns,rfl,rfl,ho,pD ns _ hall,hlen⟩
theorem EO(l:OpenLaw)(args:List WData):l.row.toRowW.claim.post args (.bool true) args=true :=
 postW_of (r:=l.row.toRowW) (X:=(true == true))
  (show WShape.has [] (.bool true) .bool=true by first | rfl | decide | simp[WShape.has,WShape.arms,WShape.armsAll])
  (show(WTm.eq .res (.lit (.bool true))).value [] { args:=args,res:=some (.bool true),after:=args }=some (.bool (true == true)) from w_eq_bool (w_res rfl) w_lit) rfl
theorem attach_call{l:OpenLaw}{n:Nat}{q:Program}{loose:List Str}{XP:(Str->Option Value)->Heap->Prop}{YP:World->Heap->Prop}{d:DefRec}
  (hn:l.most=some n) (hdf:d.params.defaults = [])
  (call:∀(w:World)(s₀ s₁:Shared)(mg mb:Str->Option Value)(fa:Addr)(o:Obj)(pm cd doc:Value)(a:Addr)(vs:List Value)(ns:List Int),
   Ground q loose [] XP w s₀ mg mb s₁.heap->YP w s₁.heap ->
   s₁.heap.get? fa=some o->o.data=.func (docDef d.name d.params d.body d.scope pm cd doc)->s₁.heap.CodeRec cd d.name->mg d.name=some (.ref fa) ->
   s₁.heap.get? a=some { cls:=.type "list",data:=.seq vs.toArray }->IntsAre vs ns->ns.length<=n->s₁.gens=#[] ->
   codeAny (model l.prog w) callerA (.call (.ref fa) ⟨[.ref a],[]⟩) (fun r s'=>r=.ok (.ret (.bool true))/\OldK s₁.heap s'.heap/\s'.os=s₁.os/\AllBare s'.gens) s₁) :
  WalkO q loose XP YP l.row.toRowW d [] (fun f vs=>PySem.call f vs):=by
 intro w s₀ s₁ mg mb G Y fa o pm cd doc dV kV ho hd hcd hD hmg hg args vals as hpre hlay hrd hwl hlo
 obtain rfl:dV=.none:=Dflts.none hD hdf
 obtain rfl:kV=.none:=Dflts.noKw hD
 obtain⟨a,vs,ns,rfl,rfl,hobj,hints,hlen⟩:=EC hn hpre hwl
 refine enter_call (codeAny_mono (call w s₀ s₁ mg mb fa o pm cd doc a vs ns G Y ho (fd_plain hd) hcd hmg hobj hints hlen hg) fun r s' hq=>?_)
 obtain⟨rfl,h2,h3,h4⟩:=hq
 exact⟨.inl ⟨.bool true,.bool true,[],rfl,fun _=>rfl,.bool true,EO l _,fun _=>⟨List.Pairwise.nil,fun _ hm=>(nomatch hm)⟩⟩,h2,h3,h4⟩
section
variable{prog:Program}{w:World}{A:Around}{E:Value->Shared->Prop}{s:Shared}{K:Frag}
end
end Att
namespace L2
open PySem PySem.Spec PyProof.Rows
theorem vj:∀{vs:List Value}{ns:List Int},IntsAre vs ns->Vals (ns.map V.int) vs
 |_,_,.nil=>.nil
 |_,_,.cons n t h=>.cons ⟨t,rfl⟩ (vj h)
def Only(H:Hp):Prop:=∀ b,H b=none∨∃ o xs,H b=some (.frz o (.lst xs))
theorem HW{P:Program}{w:World}{K:KW}{mg mb:Str->Option Value}{CX:CXT}{k:Nat}{fa a:Addr}{fd:FuncData}{x:Str}{sp:Sp}{s₁:Shared}{vs:List Value}{ns:List Int}
  (KX:K.In s₁.heap) (hns:s₁.heap.Ns mainGlobals mg) (hb:s₁.heap.Ns builtinsNs mb) (hbb:∀ x:Str,x≠"__name__"->mb x=bootBuiltins x) (hlim:s₁.heap.NoLimit) (hg:s₁.gens=#[])
  (ha:s₁.heap.get? a=some { cls:=.type "list",data:=.seq vs.toArray }) (hi:IntsAre vs ns) (hl:ns.length<=sizeLine) (hr:Room k callerA)
  (F:∀ base:Heap,K.In base->base.Ns mainGlobals mg->FnOk P w K mg base CX k fa fd [x] sp) (hbind:∀(s:Shared)(u:Value),BindsTo s fd ⟨[u],[]⟩ [(x,u)])
  (hsp:∀ H:Hp,Only H->SqL K H a (ns.map V.int)->sp [.ref a] H (fun v _=>v=.bl true) fun _ _ _=>False)
  (hCX:∀ H e s',CX [] H s₁ (fun _ _ _=>False) e s'->False) :
  codeAny (model P w) callerA (.call (.ref fa) ⟨[.ref a],[]⟩) (fun r s'=>r=.ok (.ret (.bool true))/\OldK s₁.heap s'.heap/\s'.os=s₁.os/\AllBare s'.gens) s₁:=by
 have rv:=vj hi
 have lenV:=hi.length
 have core:∀ H:Hp,Only H->SqL K H a (ns.map V.int)->HOk P w H s₁.heap->(∀ b,H b≠none->b=a)->(H a≠none->K.lookup a=none) ->
   codeAny (model P w) callerA (.call (.ref fa) ⟨[.ref a],[]⟩) (fun r s'=>r=.ok (.ret (.bool true))/\OldK s₁.heap s'.heap/\s'.os=s₁.os/\AllBare s'.gens) s₁:=by
  intro H hO hS hok hA hK
  have base_of:∀{b:Addr}{o:Obj},s₁.heap.get? b=some o->H b=none->(hidT s₁.heap H).get? b=some o:=fun e n=>Ic e n
  have noA:∀{b:Addr}{o:Obj}{es:Array DictEntry}{ep:Nat},s₁.heap.get? b=some o->o.data=.dict es ep->H b=none:=fun{b o es ep} e d=>by
   cases q:H b with
   |none=>rfl
   |some u =>
    have e':b=a:=hA b (by rw[q];simp)
    subst e'
    rw[ha]at e;cases e
    have d':Data.seq vs.toArray _=Data.dict es ep:=d
    cases d'
  have nsK:∀{b:Addr}{m:Str->Option Value},s₁.heap.Ns b m->(hidT s₁.heap H).Ns b m:=fun{b m} ⟨o,es,ep,e,d,r⟩=>⟨o,es,ep,base_of e (noA e d),d,r⟩
  have hKb:K.In (hidT s₁.heap H):=fun b o e=>base_of (KX b o e) (by
   cases q:H b with
   |none=>rfl
   |some u =>
    have e':b=a:=hA b (by rw[q];simp)
    subst e'
    rw[hK (by rw[q];simp)]at e;cases e)
  have hM:Mod K mg (hidT s₁.heap H):=⟨hKb,nsK hns,⟨mb,nsK hb,hbb⟩,let ⟨mc,h1,h2⟩:=hlim;⟨mc,nsK h1,h2⟩⟩
  have e0:Env0 P w K mg (hidT s₁.heap H) callerA [] s₁ H:=⟨rfl,hM,fun b o e=>JS e,Nat.le_of_eq (F3 _ _),trivial,fun b hb=>absurd (show b∈([]:List Addr) from hb) (by simp),hok,.of_eq hg⟩
  refine codeAny_mono ((F _ hKb (nsK hns)).run callerA [] s₁ H ⟨[.ref a],[]⟩ [.ref a] [.ref a] _ _ hr e0 (hbind s₁ (.ref a)) (.cons rfl .nil) (hsp H hO hS)) fun r s' h=>?_
  cases r with
  |error e=>exact(hCX H e s' h).elim
  |ok fl =>
   cases fl with
   |next=>exact False.elim h
   |brk=>exact False.elim h
   |cont=>exact False.elim h
   |ret u =>
    obtain⟨v,H',os,bare,un,hok',r',q⟩:=h
    have q':v=.bl true:=q
    subst q'
    obtain rfl:u=Value.bool true:=r'
    refine⟨rfl,OldK.of_keep fun b o e=>?_,os,bare⟩
    cases q:H b with
    |none=>exact un.keep b o e q (by intro z;exact absurd (show b∈([]:List Addr) from z) (by simp)) (by simp)
    |some u =>
     rcases hO b with z | ⟨ob,xs,z⟩
     ·rw[q]at z;cases z
     ·have z2:=un.frzs b ob _ z
      obtain⟨e1,_⟩:=hok b _ z
      obtain⟨e2,_⟩:=hok' b _ z2
      rw[e]at e1;cases e1
      exact e2
 cases hk:K.lookup a with
 |some o =>
  have e:=KX a o hk
  rw[ha]at e
  cases e
  refine core (fun _=>none) (fun _=>.inl rfl) (.inr ⟨_,vs.toArray,_,hk,rfl,rfl,rfl,by rw[Lk,lenV];exact hl,by simpa using rv⟩) (fun b u z=>by have z':(none:Option HO)=some u:=z;cases z') (fun b z=>absurd rfl z) fun z=>absurd rfl z
 |none =>
  refine core (fun b=>if b=a then some (.frz { cls:=.type "list",data:=.seq vs.toArray } (.lst (ns.map V.int))) else none) (fun b=>?_) (.inl (.inr ⟨{ cls:=.type "list",data:=.seq vs.toArray },if_pos rfl⟩)) (fun b u z=>?_) (fun b z=>?_) fun _=>hk
  ·by_cases hb:b=a
   ·exact .inr ⟨_,_,if_pos hb⟩
   ·exact .inl (if_neg hb)
  ·by_cases hb:b=a
   ·have z':=(if_pos hb).symm.trans z
    cases z'
    subst hb
    exact⟨ha,by rw[K2];exact hl,vs,_,rv,ha⟩
   ·have z':=(if_neg hb).symm.trans z
    cases z'
  ·by_cases hb:b=a
   ·exact hb
   ·exact absurd (if_neg hb) z
end L2
namespace L2
open PySem PySem.Spec PyProof.Rows
theorem walk_of{l:NI}{n k:Nat}{q:Program}{loose:List Str}{XP:(Str->Option Value)->Heap->Prop}{YP:World->Heap->Prop}{d:DefRec}{K:Params->KW}{CX:World->CXT}{sp:World->Sp}{x:Str}
  (hn:l.most=some n) (hn2:n<=sizeLine) (hdf:d.params.defaults = []) (hr:Room k callerA)
  (hY:∀(w:World)(h:Heap),YP w h->(K w.params).In h)
  (F:∀(w:World)(mg:Str->Option Value)(fa:Addr)(h:Heap),(K w.params).In h->h.Ns mainGlobals mg->mg d.name=some (.ref fa) ->
   ∃ fd:FuncData,(∀(s:Shared)(u:Value),BindsTo s fd ⟨[u],[]⟩ [(x,u)]) /\
    ∀ base:Heap,(K w.params).In base->base.Ns mainGlobals mg->FnOk l.prog w (K w.params) mg base (CX w) k fa fd [x] (sp w))
  (hsp:∀(w:World)(H:Hp)(a:Addr)(ns:List Int),ns.length<=n->Only H->SqL (K w.params) H a (ns.map V.int)->sp w [.ref a] H (fun v _=>v=.bl true) fun _ _ _=>False)
  (hCX:∀(w:World)(H:Hp)(s:Shared)(e:Value)(s':Shared),CX w [] H s (fun _ _ _=>False) e s'->False) :
  PySem.W.WalkO q loose XP YP l.row.toRowW d [] (fun f vs=>PySem.call f vs):=by
 refine Att.attach_call hn hdf fun w s₀ s₁ mg mb fa o pm cd doc a vs ns G Y ho hd hcd hmg hobj hints hlen hg=>?_
 have KX:=hY w _ Y
 obtain⟨fd,hb,hF⟩:=F w mg fa _ KX G.T.g hmg
 exact HW KX G.T.g G.T.b G.T.builtins G.T.nolimit hg hobj hints (LH hlen hn2) hr hF hb (fun H hO hS=>hsp w H a ns hlen hO hS) fun H e s'=>hCX w H s₁ e s'
end L2
namespace L2
open PySem PySem.Spec PyProof.Rows
def iu(s:Stmt)(j:Nat):Stmt:=match s with
 |.ClassDef _ _ _ body _ _ _ _ _ _ _=>body.getD j (.Pass ⟨0,0,0,0⟩)
 |_=>.Pass ⟨0,0,0,0⟩
def aC(s:Stmt):Arguments:=match s with
 |.FunctionDef _ a _ _ _ _ _ _ _ _=>a
 |_=>{ posonlyargs:=[],args:=[],vararg:=none,kwonlyargs:=[],kw_defaults:=[],kwarg:=none,defaults:=[] }
def aA(s:Stmt):List Stmt:=match s with
 |.FunctionDef _ _ b _ _ _ _ _ _ _=>b
 |_=>[]
def ag(s:Stmt):Scope:=match s with
 |.FunctionDef _ _ _ _ _ _ sc _ _ _=>sc
 |_=>{ kind:=.function,names:=[],isGenerator:=false,isCoroutine:=false }
abbrev CX0:CXT:=fun _ _ _ _ _ _=>False
abbrev E0:XK:=fun _ _ _=>False
theorem aK{X:Cx}:qv CX0 X E0:=fun _ _ _ _ _ _ _ h=>h.elim
structure Fun(K:KW)(x qual:Str)(st:Stmt)(f:Addr)(fd:FuncData):Prop where
 ex:∃(oc:Value)(od:Option Addr)(kV doc pm:Value)(an:Option Addr)(cdv ct:Value)(osl:Array (Option Value)),
  fd=Le x qual (aC st) (aA st) (ag st) .none kV doc pm an cdv ct/\K.lookup f=some ⟨oc,od,.func fd,osl⟩/\K9 K cdv qual=true
 kp:K5 K (.ref f)=true
section
variable{P:Program}{w:World}{K:KW}{mg:Str->Option Value}{base:Heap}
theorem Fun.ok{x qual:Str}{st:Stmt}{f:Addr}{fd:FuncData}{N ps:List Str}{k:Nat}{sp:Sp}(F:Fun K x qual st f fd)(S:aD N ps (ag st))(len:∀ vs H Q E,sp vs H Q E->vs.length=ps.length)
  (hbody:∀(cdv:Value)(A:Around)(outer:List Env)(s:Shared)(H:Hp)(vs:List V)(Q:VK)(E:XK),Room k (A.deeper (envOfC qual (ag st) s.heap.objs.size f cdv))->sp vs H Q E ->
   ∃ t,PSs (cxOf CX0 P w K mg base N qual (ag st) f cdv A outer s H E).nox (aA st) t/\t { nx:=fun _ H'=>Q .non H',rt:=Q } (start N vs) H):FnOk P w K mg base CX0 (k+1) f fd ps sp:=by
 obtain⟨oc,od,kV,doc,pm,an,cdv,ct,osl,rfl,lk,hcd⟩:=F.ex
 refine fn_of lk hcd S len fun A outer s H vs Q E hr hsp=>?_
 obtain⟨t,h,q⟩:=hbody cdv A outer s H vs Q E hr hsp
 exact⟨t,h.nox,q⟩
theorem Fun.binds{x qual:Str}{st:Stmt}{f:Addr}{fd:FuncData}{ps:List Str}(F:Fun K x qual st f fd)
  (h:∀(kV doc pm:Value)(an:Option Addr)(cdv ct:Value)(us:List Value),us.length=ps.length->bindArgs (Le x qual (aC st) (aA st) (ag st) .none kV doc pm an cdv ct) ⟨us,[]⟩=pure (ps.zip us)):nR K fd ps []:=by
 obtain⟨oc,od,kV,doc,pm,an,cdv,ct,osl,rfl,lk,hcd⟩:=F.ex
 exact .all (h kV doc pm an cdv ct)
theorem aN{x qual:Str}{st:Stmt}{f:Addr}{oc:Value}{od an:Option Addr}{osl:Array (Option Value)}{kV doc pm cdv ct:Value}(l:K.lookup f=some ⟨oc,od,.func (Le x qual (aC st) (aA st) (ag st) .none kV doc pm an cdv ct),osl⟩)
  (c:K9 K cdv qual=true) (k:K5 K (.ref f)=true):Fun K x qual st f (Le x qual (aC st) (aA st) (ag st) .none kV doc pm an cdv ct):=⟨⟨oc,od,kV,doc,pm,an,cdv,ct,osl,rfl,l,c⟩,k⟩
end
theorem hu_of{A:Around}{k:Nat}(hr:Room k A):A.units+1<cLine:=Nw (Nat.add_le_add_left (by decide:1<=64) _) hr.units
theorem aH{n:Nat}(h:n<=1000):n<sizeLine:=Nw h (by decide)
section
variable{X:Cx}
theorem pv(i:Nat){x:Str}{pos:Pos}(hN:X.N[i]?=some x:=by rfl)(hv:Vis X.env.scope x:=by first | exact Or.inl rfl | exact Or.inr (Or.inl rfl) | exact Or.inr (Or.inr rfl)) (hd:(x == ("__debug__" : Str))=false:=by decide)
  (hcd:(x == ("__classdict__" : Str))=false:=by decide):PE X (.Name x pos) (tVar i):=pe_var hN hv hd hcd
end
theorem iteF{A B:Prop}(h:B):if false=true then A else B:=by
 rw[if_neg Lo]
 exact h
theorem iteT{A B:Prop}(h:A):if true=true then A else B:=by
 rw[if_pos rfl]
 exact h
theorem ite2{c A B:Prop} [Decidable c] (h1:c->A) (h2:¬ c->B):if c then A else B:=by
 by_cases h:c
 ·rw[if_pos h]
  exact h1 h
 ·rw[if_neg h]
  exact h2 h
theorem iteNS{c A B:Prop} [Decidable c] (hc:c) (h:B):if(!decide c)=true then A else B:=by
 rw[decide_eq_true hc]
 exact iteF h
def Same(H H':Hp):Prop:=∀ b o,H b=some o->H' b=some o
theorem Same.trans{H H1 H2:Hp}(a:Same H H1)(b:Same H1 H2):Same H H2:=fun c o h=>b c o (a c o h)
theorem Same.seq{K:KW}{H H':Hp}{a:Addr}{xs:List V}(e:Same H H')(h:SqL K H a xs):SqL K H' a xs:=by
 rcases h with(h | ⟨o,h⟩) | h
 ·exact .inl (.inl (e _ _ h))
 ·exact .inl (.inr ⟨o,e _ _ h⟩)
 ·exact .inr h
end L2
set_option maxRecDepth 100000
set_option maxHeartbeats 4000000
namespace L2
open PySem PySem.Spec PyProof.Rows
end L2
namespace L2
open PySem PySem.Spec PyProof.Rows
section
variable(P:Program)(w:World)
end
section
variable{P:Program}{w:World}{H H':Hp}{h h':Heap}{a:Addr}{o:HO}
end
section
variable{P:Program}{w:World}{H:Hp}{h h':Heap}{x e:Addr}{o':HO}
end
section
variable{fs fs' ex ex':List Addr}{H H1 H2:Hp}{h h1 h2 h':Heap}{a x e:Addr}{o:HO}
end
end L2
namespace L2
open PySem PySem.Spec PyProof.Rows
section
variable{X:Cx}{pins:List (Addr×Obj)}{σ:List (Option V)}{H H':Hp}{s:Shared}{h':Heap}
end
end L2
namespace L2
open PySem PySem.Spec PyProof.Rows
section
variable{X:Cx}
variable{a b:Expr}{ta tb:TE}{pos:Pos}
variable{tA tB':TT}{rest:List Expr}
end
end L2
namespace L2
open PySem PySem.Spec PyProof.Rows
section
variable{X:Cx}{pins:List (Addr×Obj)}{σ:St}{H:Hp}{s:Shared}{a:Addr}{xs ys:List V}
end
section
variable{X:Cx}{pins:List (Addr×Obj)}{σ:St}{H:Hp}{s:Shared}{E:Value->Shared->Prop}
end
section
variable{X:Cx}{st:Stmt}{rest:List Stmt}{t u:TS}{e:Expr}{te:TE}{pos:Pos}
end
section
variable{X:Cx}{pos:Pos}
end
section
variable{X:Cx}{pos:Pos}
end
end L2
namespace L2
open PySem PySem.Spec PyProof.Rows
section
variable{X:Cx}{tg:Expr}
end
end L2
namespace L2
open PySem PySem.Spec PyProof.Rows
section
variable{X:Cx}{a b c:Expr}{ta tb tc:TE}{pos:Pos}
end
section
variable{X:Cx}{a b c:Expr}{ta tb tc:TE}{pos:Pos}
end
end L2
namespace L2
open PySem PySem.Spec PyProof.Rows
section
variable{prog:Program}{w:World}{A:Around}{E:Value->Shared->Prop}{s:Shared}{K:KW}{x dx C f:Addr}{mA:Str->Option Value}{name:Str}{v:Value}
end
section
variable{P:Program}{w:World}{H H':Hp}{h h':Heap}{a C dx:Addr}{fs fs':List (Str×V)}
end
section
variable{X:Cx}{pins:List (Addr×Obj)}{σ:St}{H:Hp}{s:Shared}{a C dx:Addr}{fs:List (Str×V)}{f:Str}{v:V}{A:Around}{E:Value->Shared->Prop}
end
section
variable{X:Cx}{o e value:Expr}{f:Str}{pos pos' tpos:Pos}{ta tv:TE}
end
section
variable{X:Cx}{pins:List (Addr×Obj)}{σ:St}{H:Hp}{s:Shared}{A:Around}{E:Value->Shared->Prop}{Q:Value->Shared->Prop}{c:Value}{b:Bool}
end
end L2
namespace L2
open PySem PySem.Spec PyProof.Rows
section
variable{X:Cx}{e:Expr}{es:List Expr}{te:TE}{t:TA}{pos:Pos}
end
section
variable{X:Cx}{pins:List (Addr×Obj)}{σ:St}{H:Hp}{s s':Shared}
end
section
variable{X:Cx}{CX:CXT}{k:Nat}{f C:Addr}{fd:FuncData}{ps:List Str}{sp:Sp}{dvs:List V}{ds:List Value}{E:XK}{x m:Str}{p pos apos:Pos}{e o:Expr}{es:List Expr}{ta:TE}{t:TA}
end
section
variable{X:Cx}{CX:CXT}{k:Nat}{f C:Addr}{fd:FuncData}{ps ks:List Str}{sp:Sp}{E:XK}{x m:Str}{p pos apos kpos:Pos}{e o:Expr}{es:List Expr}{kws:List Keyword}{te ta:TE}{t tk:TA}{nm:Option Str}
variable{g:List Value->List Value->List Value}{gV:List V->List V->List V}
end
end L2
namespace L2
open PySem PySem.Spec PyProof.Rows
section
variable{X:Cx}{x:Str}{p pos:Pos}{e:Expr}{es:List Expr}{t:TA}{id T:String}{r:List V->Hp->VK->Prop}
end
end L2
namespace L2
open PySem PySem.Spec PyProof.Rows
section
variable{κ:Type} [DecidableEq κ]
def valV(kvs:List (κ×V))(k:κ):Option V:=(kvs.find? fun kv=>decide (kv.1=k)).map (·.2)
def putK(kvs:List (κ×V))(k:κ)(v:V):List (κ×V) :=
 if(kvs.any fun kv=>decide (kv.1=k))=true then kvs.map (fun kv=>if kv.1=k then(kv.1,v) else kv) else kvs++[(k,v)]
theorem cz{p:κ×V}{r:List (κ×V)}{k:κ}(e:p.1=k):valV (p::r) k=some p.2:=by simp[valV,MM,e]
theorem cA{p:κ×V}{r:List (κ×V)}{k:κ}(e:¬ p.1=k):valV (p::r) k=valV r k:=by simp[valV,MM,e]
theorem nS(k:κ):∀ kvs:List (κ×V),(kvs.any fun kv=>decide (kv.1=k))=(valV kvs k).isSome
 |[]=>rfl
 |p::r=>by
  rw[Mm]
  by_cases e:p.1=k
  ·simp only[cz e,decide_eq_true e,Bool.true_or,Option.isSome_some]
  ·rw[cA e,decide_eq_false e,Bool.false_or];exact nS k r
theorem BD(k j:κ)(y:V):∀ kvs:List (κ×V),valV (kvs.map fun kv=>if kv.1=k then(kv.1,y) else kv) j=(valV kvs j).map fun x=>if j=k then y else x
 |[]=>rfl
 |p::r=>by
  have ih:=BD k j y r
  rw[Lr]
  by_cases h:p.1=k
  ·rw[if_pos h]
   by_cases e:p.1=j
   ·rw[cz (p:=(p.1,y)) e,cz e,Ni,if_pos (e.symm.trans h)]
   ·rw[cA (p:=(p.1,y)) e,cA e,ih]
  ·rw[if_neg h]
   by_cases e:p.1=j
   ·rw[cz (p:=p) e,cz e,Ni,if_neg (fun z=>h (e.trans z))]
   ·rw[cA (p:=p) e,cA e,ih]
theorem vk(k j:κ)(y:V):∀ kvs:List (κ×V),valV kvs k=none->valV (kvs++[(k,y)]) j=if j=k then some y else valV kvs j
 |[],_=>by
  by_cases e:k=j
  ·rw[if_pos e.symm];exact cz (p:=(k,y)) e
  ·rw[if_neg (fun z=>e z.symm)];exact cA (p:=(k,y)) e
 |p::r,hn=>by
  rw[ND]
  have hk:¬ p.1=k:=fun z=>by rw[cz z]at hn;cases hn
  rw[cA hk]at hn
  have ih:=vk k j y r hn
  by_cases e:p.1=j
  ·rw[cz e,cz e,if_neg (fun z=>hk (e.trans z))]
  ·rw[cA e,cA e,ih]
theorem sq(kvs:List (κ×V))(k j:κ)(y:V):valV (putK kvs k y) j=if j=k then some y else valV kvs j:=by
 unfold putK
 by_cases a:(kvs.any fun kv=>decide (kv.1=k))=true
 ·rw[if_pos a,BD]
  rw[nS]at a
  by_cases e:j=k
  ·obtain⟨x,hx⟩:=M6.mp a
   rw[if_pos e,e,hx,Ni,if_pos rfl]
  ·rw[if_neg e]
   cases valV kvs j with
   |none=>rfl
   |some x=>rw[Ni,if_neg e]
 ·rw[if_neg a]
  refine vk k j y kvs ?_
  rw[nS]at a
  cases q:valV kvs k with
  |none=>rfl
  |some x=>rw[q]at a;exact(a rfl).elim
theorem fR(kvs:List (κ×V))(k:κ)(v:V):(putK kvs k v).length<=kvs.length+1:=by
 unfold putK
 split
 ·rw[K2];omega
 ·rw[KU,Lw,NL];omega
theorem RelO.isSome_eq{o:Option V}{u:Option Value}(r:RelO o u):o.isSome=u.isSome:=by
 cases o with
 |none=>cases u with
  |none=>rfl
  |some _=>exact(show False from r).elim
 |some _=>cases u with
  |none=>exact(show False from r).elim
  |some _=>rfl
theorem KV.val{kvs:List (κ×V)}{vs:List (κ×Value)}(r:KV kvs vs)(k:κ):RelO (valV kvs k) (valueAt vs k):=by
 unfold KV at r
 induction r with
 |nil=>exact True.intro
 | @cons p q ps qs h t ih =>
  obtain⟨h1,h2⟩:=h
  by_cases e:p.1=k
  ·have e':q.1=k:=h1.symm.trans e
   have b:valueAt (q::qs) k=some q.2:=by simp[valueAt,MM,e']
   rw[cz e,b];exact h2
  ·have e':¬ q.1=k:=fun z=>e (h1.trans z)
   have b:valueAt (q::qs) k=valueAt qs k:=by simp[valueAt,MM,e']
   rw[cA e,b];exact ih
theorem KV.any{kvs:List (κ×V)}{vs:List (κ×Value)}(r:KV kvs vs)(k:κ):(kvs.any fun kv=>decide (kv.1=k))=vs.any fun kv=>decide (kv.1=k):=by
 unfold KV at r
 induction r with
 |nil=>rfl
 |cons h t ih=>rw[Mm,Mm,ih,h.1]
theorem KV.repl{kvs:List (κ×V)}{vs:List (κ×Value)}(r:KV kvs vs)(k:κ){y:V}{u:Value}(ry:RelV y u) :
  KV (kvs.map fun kv=>if kv.1=k then(kv.1,y) else kv) (vs.map fun kv=>if kv.1=k then(kv.1,u) else kv):=by
 unfold KV at r ⊢
 induction r with
 |nil=>exact .nil
 | @cons p q ps qs h t ih =>
  rw[Lr,Lr]
  refine .cons ?_ ih
  obtain⟨h1,h2⟩:=h
  by_cases e:p.1=k
  ·rw[if_pos e,if_pos (h1.symm.trans e)];exact⟨h1,ry⟩
  ·rw[if_neg e,if_neg (fun z=>e (h1.trans z))];exact⟨h1,h2⟩
theorem KV.put{kvs:List (κ×V)}{vs:List (κ×Value)}(r:KV kvs vs)(k:κ){y:V}{u:Value}(ry:RelV y u):KV (putK kvs k y) (stored vs k u):=by
 unfold putK stored
 rw[r.any k]
 by_cases e:(vs.any fun kv=>decide (kv.1=k))=true
 ·rw[if_pos e,if_pos e];exact r.repl k ry
 ·rw[if_neg e,if_neg e];exact Paired.snoc r ⟨rfl,ry⟩
theorem KV.length{kvs:List (κ×V)}{vs:List (κ×Value)}(r:KV kvs vs):kvs.length=vs.length:=Paired.length r
end
theorem HZ{P:Program}{w:World}{k:Key}{u:Value}(r:RelV (kV k) u):(cV P w).is k u=true:=by
 cases k with
 |inl i=>obtain⟨t,e⟩:=(show ∃ t,u=Value.int i t from r);subst e;exact zW P w i t
 |inr x=>obtain⟨t,e⟩:=(show ∃ t,u=Value.str x t from r);subst e;exact zV P w x t
theorem xq{P:Program}{w:World}:∀{ks:List Key}{us:List Value},Vals (ks.map kV) us->ItemsAre (cV P w) ks us
 |[],_,r=>by rw[List.map_nil]at r;cases r;exact .nil
 |k::ks,_,r=>by
  rw[Lr]at r
  cases r with
  |cons h t=>exact .cons (HZ h) (xq t)
abbrev KT(H:Hp):List (List Key×V)->List (List Key×Addr×Value)->Prop:=Paired fun p q=>p.1=q.1/\H q.2.1=some (.tup (p.1.map kV))/\RelV p.2 q.2.2
theorem KT.val{H:Hp}{kvs:List (List Key×V)}{xs:List (List Key×Addr×Value)}(r:KT H kvs xs)(k:List Key):RelO (valV kvs k) ((atKey xs k).map (·.2)):=by
 induction r with
 |nil=>exact True.intro
 | @cons p q ps qs h t ih =>
  obtain⟨h1,_,h2⟩:=h
  by_cases e:p.1=k
  ·have e':q.1=k:=h1.symm.trans e
   have b:atKey (q::qs) k=some q.2:=by simp[atKey,MM,e']
   rw[cz e,b];exact h2
  ·have e':¬ q.1=k:=fun z=>e (h1.trans z)
   have b:atKey (q::qs) k=atKey qs k:=by simp[atKey,MM,e']
   rw[cA e,b];exact ih
theorem KT.repl{H:Hp}{kvs:List (List Key×V)}{xs:List (List Key×Addr×Value)}(r:KT H kvs xs)(k:List Key){y:V}{u:Value}(ry:RelV y u) :
  KT H (kvs.map fun kv=>if kv.1=k then(kv.1,y) else kv) (xs.map (putAt k u)):=by
 induction r with
 |nil=>exact .nil
 | @cons p q ps qs h t ih =>
  rw[Lr,Lr]
  refine .cons ?_ ih
  obtain⟨h1,h2,h3⟩:=h
  unfold putAt
  by_cases e:p.1=k
  ·rw[if_pos e,if_pos (h1.symm.trans e)];exact⟨h1,h2,ry⟩
  ·rw[if_neg e,if_neg (fun z=>e (h1.trans z))];exact⟨h1,h2,h3⟩
theorem KT.put{H:Hp}{kvs:List (List Key×V)}{xs:List (List Key×Addr×Value)}(r:KT H kvs xs)(k:List Key){b:Addr}{y:V}{u:Value}(hb:H b=some (.tup (k.map kV)))(ry:RelV y u) :
  KT H (putK kvs k y) (storedH xs k b u):=by
 have e:(kvs.any fun kv=>decide (kv.1=k))=(atKey xs k).isSome:=by
  rw[nS,(r.val k).isSome_eq,Option.isSome_map]
 unfold putK storedH
 rw[e]
 by_cases q:(atKey xs k).isSome=true
 ·rw[if_pos q,if_pos q];exact r.repl k ry
 ·rw[if_neg q,if_neg q];exact Paired.snoc r ⟨rfl,hb,ry⟩
theorem KT.keeps{H H':Hp}{kvs:List (List Key×V)}{xs:List (List Key×Addr×Value)}(r:KT H kvs xs)(ht:∀ b ys,H b=some (.tup ys)->H' b=some (.tup ys)):KT H' kvs xs :=
 Paired.mapP r fun _ _ z=>⟨z.1,ht _ _ z.2.1,z.2.2⟩
section
variable{P:Program}{w:World}{H:Hp}{h:Heap}{a:Addr}
theorem rd_of{u:HO}(ok:HOk P w H h)(e:Rd H a u):bV P w H h a u:=e.ok ok
theorem Ij{kvs:List (Key×V)}(ok:HOk P w H h)(e:Rd H a (.dK kvs)):kvs.length<=sizeLine/\(a == sysModules)=false/\∃ vs,KV kvs vs/\h.DictOf (cV P w) a vs :=
 show bV P w H h a (.dK kvs) from rd_of ok e
theorem dk_of{kvs:List (Key×V)}(ok:HOk P w H h)(e:H a=some (.dK kvs)):kvs.length<=sizeLine/\(a == sysModules)=false/\∃ vs,KV kvs vs/\h.DictOf (cV P w) a vs:=Ij ok (.inl e)
theorem BS{ks:List Key}(ok:HOk P w H h)(e:H a=some (.tup (ks.map kV))):(tupleKind (cV P w)).is h ks a:=by
 obtain⟨_,its,r,o,h1,h2,n,h3⟩:=(show bV P w H h a (.tup (ks.map kV)) from ok a _ e)
 exact⟨o,its.toArray,n,h1,h2,h3,by simpa using xq r⟩
theorem Ii{kvs:List (List Key×V)}(ok:HOk P w H h)(e:Rd H a (.dT kvs)):kvs.length<=sizeLine/\(a == sysModules)=false /\
  ∃ xs,KT H kvs xs/\h.DictOfH (tupleKind (cV P w)) a xs:=by
 obtain⟨z,y,xs,r,o,es,ep,h1,h2,h3,h4,h5⟩:=(show bV P w H h a (.dT kvs) from rd_of ok e)
 refine⟨z,y,xs,r,o,es,ep,h1,h2,h3,h4,fun x hx=>?_,h5⟩
 have all:∀{l:List (List Key×V)}{m:List (List Key×Addr×Value)},KT H l m->∀ x∈m,(tupleKind (cV P w)).is h x.1 x.2.1:=by
  intro l m q
  induction q with
  |nil=>intro x hx;exact nomatch hx
  | @cons p q ps qs hq t ih =>
   intro x hx
   rcases K0.mp hx with e | hx
   ·subst e
    exact BS ok (by rw[← hq.1];exact hq.2.1)
   ·exact ih x hx
 exact all r x hx
theorem dt_of{kvs:List (List Key×V)}(ok:HOk P w H h)(e:H a=some (.dT kvs)):kvs.length<=sizeLine/\(a == sysModules)=false /\
  ∃ xs,KT H kvs xs/\h.DictOfH (tupleKind (cV P w)) a xs:=Ii ok (.inl e)
end
def DGet(H:Hp)(a:Addr)(y:V)(r:Option V):Prop :=
 (∃ kvs k,Rd H a (.dK kvs)/\y=kV k/\r=valV kvs k)∨∃ kvs k b,Rd H a (.dT kvs)/\y=.ref b/\H b=some (.tup (k.map kV))/\r=valV kvs k
def DPut(H:Hp)(a:Addr)(y v:V)(H':Hp):Prop :=
 (∃ kvs k,H a=some (.dK kvs)/\y=kV k/\kvs.length<sizeLine/\H'=upd H a (.dK (putK kvs k v))) ∨
 ∃ kvs k b,H a=some (.dT kvs)/\y=.ref b/\H b=some (.tup (k.map kV))/\kvs.length<sizeLine/\H'=upd H a (.dT (putK kvs k v))
theorem DGet.k{H:Hp}{a:Addr}{kvs:List (Key×V)}{k:Key}(e:H a=some (.dK kvs)):DGet H a (kV k) (valV kvs k):=.inl ⟨kvs,k,.inl e,rfl,rfl⟩
theorem DPut.k{H:Hp}{a:Addr}{kvs:List (Key×V)}{k:Key}{v:V}(e:H a=some (.dK kvs))(hl:kvs.length<sizeLine):DPut H a (kV k) v (upd H a (.dK (putK kvs k v))):=.inl ⟨kvs,k,e,rfl,hl,rfl⟩
section
variable{X:Cx}{pins:List (Addr×Obj)}{σ:St}{H:Hp}{s:Shared}{a:Addr}{y v:V}{u r:Value}{o:Option V}{A:Around}{E:Value->Shared->Prop}
theorem Inv.big(I:Inv X pins σ H s):sysModules<s.heap.objs.size:=by
 have h:mainGlobals<s.heap.objs.size:=(I.mod.glob.keeps I.bk).lt
 exact Nat.lt_trans (by decide) h
theorem Gv{Q:Value->Shared->Prop}(hu:A.units+1<cLine)(I:Inv X pins σ H s)(g:DGet H a y (some v))(ry:RelV y u)(h:∀ w' s',Inv X pins σ H s'->RelV v w'->Q w' s') :
  wpAny (model X.prog X.w) A (getItem (.ref a) u) Q E s:=by
 rcases g with⟨kvs,k,e,ey,l⟩ | ⟨kvs,k,b,e,ey,eb,l⟩
 ·subst ey
  obtain⟨z,hd,vs,rel,dd⟩:=Ij I.hok e
  obtain⟨w',hw,rw'⟩:=RelO.some_of (v:=v) (o:=valueAt vs k) (by rw[l];exact rel.val k)
  exact wpAny_getItem_of (HZ ry) dd.mapOf hw (h w' _ (I.tok _) rw')
 ·subst ey
  cases (show u=Value.ref b from ry)
  obtain⟨z,hd,xs,rel,dd⟩:=Ii I.hok e
  obtain⟨w',hw,rw'⟩:=RelO.some_of (v:=v) (o:=(atKey xs k).map (·.2)) (by rw[l];exact rel.val k)
  obtain⟨p,hp,hp2⟩:=LI.mp hw
  refine wpAny_getItem_heap (tupleKind_room_in1 hu) (BS I.hok eb) dd hp ?_
  rw[hp2]
  exact h w' _ (I.tok _) rw'
theorem Ky{Q:Value->Shared->Prop}(hu:A.units+1<cLine)(I:Inv X pins σ H s)(g:DGet H a y o)(ry:RelV y u)(h:∀ s',Inv X pins σ H s'->Q (.bool (!o.isSome)) s') :
  wpAny (model X.prog X.w) A (compareOp .NotIn u (.ref a)) Q E s:=by
 rcases g with⟨kvs,k,e,ey,l⟩ | ⟨kvs,k,b,e,ey,eb,l⟩
 ·subst ey
  obtain⟨z,hd,vs,rel,dd⟩:=Ij I.hok e
  refine wpAny_notIn_of (HZ ry) hd dd.mapOf ?_
  rw[← (rel.val k).isSome_eq,← l]
  exact h _ (I.tok _)
 ·subst ey
  cases (show u=Value.ref b from ry)
  obtain⟨z,hd,xs,rel,dd⟩:=Ii I.hok e
  refine wpAny_notIn_heap (tupleKind_room_in1 hu) (BS I.hok eb) hd dd ?_
  have q:=(rel.val k).isSome_eq
  rw[Option.isSome_map]at q
  rw[← q,← l]
  exact h _ (I.tok _)
theorem Gs{h':Heap}{t':Nat}{ob:HO}(I:Inv X pins σ H s)(mu:Mut (H a))(hs:Heap.SameBut a s.heap h')(he:∃ q,h'.get? a=some q)(new:bV X.prog X.w (upd H a ob) h' a ob) :
  Inv X pins σ (upd H a ob) { s with heap:=h',toks:=t' } :=
 I.write (x:=a) (e:=a) mu (.inl rfl) (fun b q hb z=>(hs.2 b hb).trans z) he new
theorem dk_new{P:Program}{w:World}{H':Hp}{h':Heap}{kvs:List (Key×V)}{vs:List (Key×Value)}(z:kvs.length<=sizeLine)(hd:(a == sysModules)=false)(rel:KV kvs vs)(dd:h'.DictOf (cV P w) a vs) :
  bV P w H' h' a (.dK kvs):=⟨z,hd,vs,rel,dd⟩
theorem Gu{H':Hp}{Q:Unit->Shared->Prop}(hu:A.units+1<cLine)(I:Inv X pins σ H s)(g:DPut H a y v H')(ry:RelV y u)(rv:RelV v r)(h:∀ s',Inv X pins σ H' s'->Q () s') :
  wpAny (model X.prog X.w) A (setItem (.ref a) u r) Q E s:=by
 rcases g with⟨kvs,k,e,ey,l,eH⟩ | ⟨kvs,k,b,e,ey,eb,l,eH⟩
 ·subst ey eH
  obtain⟨z,hd,vs,rel,dd⟩:=dk_of I.hok e
  have hz:vs.length<=sizeLine:=by rw[← rel.length];exact z
  have hl:(putK kvs k v).length<=sizeLine:=by have:=fR kvs k v;omega
  refine wpAny_setItem_pairs (hsz:=hz) (HZ ry) dd fun h' dd' hs=>h _ ?_
  have he:∃ q,h'.get? a=some q:=let ⟨q,_,_,hq,_⟩:=dd';⟨q,hq⟩
  exact Gs I (by rw[e];exact True.intro) hs he (dk_new hl hd (rel.put k rv) dd')
 ·subst ey eH
  cases (show u=Value.ref b from ry)
  obtain⟨z,hd,xs,rel,dd⟩:=dt_of I.hok e
  have hz:xs.length<=sizeLine:=by rw[← Paired.length rel];exact z
  have hl:(putK kvs k v).length<=sizeLine:=by have:=fR kvs k v;omega
  refine wpAny_setItem_heap (hsz:=hz) (tupleKind_room_in1 hu) (BS I.hok eb) dd fun h' dd' hs=>h _ ?_
  obtain⟨q,es,ep,hq,h2,h3,h4,_,h5⟩:=dd'
  refine Gs I (by rw[e];exact True.intro) hs ⟨q,hq⟩ ⟨hl,hd,_,(rel.put k eb rv).keeps fun c ys ec=>?_,q,es,ep,hq,h2,h3,h4,h5⟩
  rw[aq (ne_of ec e (fun z=>nomatch z))]
  exact ec
end
section
variable{X:Cx}{pins:List (Addr×Obj)}{σ:St}{H:Hp}{s:Shared}{a:Addr}{kvs:List (Key×V)}{k:Key}{u:Value}{A:Around}{E:Value->Shared->Prop}
end
def NoSl(i:Expr):Prop:=∀ ov iv,subscripted i false ov iv=operate [ov,iv] (getItem ov iv)
theorem Jn{prog:Program}{w:World}{A:Around}{E:Value->Shared->Prop}{s:Shared}{env:Env}{value slice:Expr}{pos:Pos}{T id:String}{Q:Value->Shared->Prop}
  (hl:typeLookup (.type T) "__getitem__" = pure (some (.builtin id))) (hs:NoSl slice)
  (h:wpAny (model prog w) A (eval value env) (fun o s₁=>wpAny (model prog w) A (eval slice env) (fun i s₂=>s₂.TypeIs o T/\wpAny (model prog w) A (getItem o i) Q E s₂) E s₁) E s) :
  wpAny (model prog w) A (eval (.Subscript value slice pos) env) Q E s:=by
 refine Subscript_ (wpAny_mono h (fun o s₁ h₁=>wpAny_mono h₁ (fun i s₂ h₂=>?_) fun _ _ x=>x) fun _ _ x=>x)
 obtain⟨hT,h₂⟩:=h₂
 unfold subscriptTail
 refine wpAny_bind ?_
 rw[getitemInPython_of_ne hT.not_modules]
 refine wpAny_bind (wpAny_specialOf hT hl ?_)
 have fin:wpAny (model prog w) A (subscripted slice false o i) (fun r s₃=>wpAny (model prog w) A (letTemporaryGo value o r >>= fun _=>pure r) Q E s₃) E s₂:=by
  rw[hs o i]
  exact wpAny_operating (wpAny_mono h₂ (fun r s₃ h₃=>wpAny_bind (wpAny_letTemporaryGo (wpAny_pure h₃))) fun _ _ x=>x)
 first
  |exact wpAny_pure (wpAny_bind fin)
  |exact wpAny_bind (wpAny_pure (wpAny_bind fin))
  |exact wpAny_bind fin
theorem AB{X:Cx}{pins:List (Addr×Obj)}{σ:St}{H:Hp}{s:Shared}{a:Addr}{y:V}{o:Option V}(I:Inv X pins σ H s)(g:DGet H a y o):s.TypeIs (.ref a) "dict":=by
 rcases g with⟨kvs,k,e,_,_⟩ | ⟨kvs,k,b,e,_,_,_⟩
 ·obtain⟨_,_,vs,_,dd⟩:=Ij I.hok e
  exact dd.typeIs
 ·obtain⟨_,_,xs,_,dd⟩:=Ii I.hok e
  exact dd.typeIs
def tDGet(td ty:TE):TE:=fun σ H Q=>td σ H fun x H1=>ty σ H1 fun y H2=>∃ a v,x=.ref a/\DGet H2 a y (some v)/\Q v H2
def Jm(ty td:TE):TE:=fun σ H Q=>ty σ H fun y H1=>td σ H1 fun x H2=>∃ a o,x=.ref a/\DGet H2 a y o/\Q (.bl (!o.isSome)) H2
def sDPut(td ty tv:TE):TS:=fun D σ H=>tv σ H fun v H1=>td σ H1 fun x H2=>ty σ H2 fun y H3=>∃ a H4,x=.ref a/\DPut H3 a y v H4/\D.nx σ H4
section
variable{X:Cx}{o i e value:Expr}{pos pos' tpos:Pos}{td ty tv:TE}
theorem EY(hu:X.A.units+1<cLine)(ho:PE X o td)(hi:PE X i ty)(hs:NoSl i):PE X (.Subscript o i pos) (tDGet td ty):=by
 intro pins s σ H Q I h
 refine Jn PySem.F.slot_dict_getitem.lookup hs (thn (ho pins s σ H _ I h) fun u s1 ⟨x,H1,I1,rx,q1⟩=>thn (hi pins s1 σ H1 _ I1 q1) fun iv s2 ⟨y,H2,I2,ry,a,v,ex,g,q2⟩=>?_)
 subst ex
 obtain rfl:u=Value.ref a:=rx
 exact⟨AB I2 g,Gv hu I2 g ry fun w' s3 I3 rw'=>⟨v,H2,I3,rw',q2⟩⟩
theorem E8(hu:X.A.units+1<cLine)(hi:PE X i ty)(ho:PE X o td):PC X .NotIn i o (Jm ty td):=by
 intro pins s σ H Q I h
 refine thn (hi pins s σ H _ I h) fun iv s1 ⟨y,H1,I1,ry,q1⟩=>thn (ho pins s1 σ H1 _ I1 q1) fun u s2 ⟨x,H2,I2,rx,a,ov,ex,g,q2⟩=>?_
 subst ex
 obtain rfl:u=Value.ref a:=rx
 exact Ky hu I2 g ry fun s3 I3=>⟨.bl (!ov.isSome),H2,I3,rfl,q2⟩
theorem EN(hu:X.A.units+1<cLine)(ho:PE X o td)(hi:PE X i ty)(hv:PE X value tv)(hs:swapsWith value (some (.Subscript o i pos')) pos.line X.env=pure false) :
  PS X (.Assign [.Subscript o i pos'] value pos) (sDPut td ty tv):=by
 intro pins s σ H D I h
 refine wpAny_Assign_Subscript (thn (hv pins s σ H _ I h) fun r s1 ⟨v,H1,I1,rv,q1⟩=>thn (ho pins s1 σ H1 _ I1 q1) fun u s2 ⟨x,H2,I2,rx,q2⟩=>thn (hi pins s2 σ H2 _ I2 q2) fun iv s3 ⟨y,H3,I3,ry,a,H4,ex,g,q3⟩=>?_) hs
 subst ex
 obtain rfl:u=Value.ref a:=rx
 exact Gu hu I3 g ry rv fun s4 I4=>⟨σ,H4,I4,q3⟩
end
theorem Ik{P:Program}{w:World}{H:Hp}(h:Heap)(hb:sysModules<h.objs.size):bV P w H (h.push { cls:=.type "dict",data:=.dict #[] }) h.objs.size (.dK []) :=
 ⟨L8 _,beq_eq_false_iff_ne.mpr (Ne.symm (Ly hb)),[],.nil,Heap.DictOf.new h⟩
def tDNewK:TE:=fun _ H Q=>∀ p,H p=none->Q (.ref p) (upd H p (.dK []))
section
variable{X:Cx}{pos:Pos}
theorem BI:PE X (.Dict [] [] pos) tDNewK:=fun pins s σ H Q I h =>
 wpAny_Dict_empty ⟨.ref s.heap.objs.size,_,I.laid (a:=s.heap.objs.size) (o:=.dK []) (t':=s.toks) (fun _ _ q=>Heap.get?_push_of_some _ q) (K3 _) (Ik s.heap I.big),rfl,h _ (I.hok.fresh (K3 _))⟩
end
section
variable{X:Cx}{pins:List (Addr×Obj)}{σ:St}{H:Hp}{s:Shared}{a:Addr}{y d:V}{u r:Value}{o:Option V}{A:Around}{E:Value->Shared->Prop}
end
section
variable{X:Cx}{o e f:Expr}{apos cpos:Pos}{td ty tx:TE}
end
section
variable{X:Cx}{pins:List (Addr×Obj)}{σ:St}{H:Hp}{s:Shared}{a:Addr}{kvs:List (Key×V)}{A:Around}{E:Value->Shared->Prop}
end
section
variable{X:Cx}{pins:List (Addr×Obj)}{σ:St}{H:Hp}{s:Shared}{a:Addr}{y:V}{u:Value}{A:Around}{E:Value->Shared->Prop}
end
end L2
namespace Att
open PySem PySem.W PySem.Calls PyProof.Rows
section
variable{prog:Program}{w:World}{A:Around}{E:Value->Shared->Prop}{s:Shared}{K:Frag}
end
end Att
namespace L2
open PySem PySem.Spec PyProof.Rows
end L2
namespace L2
open PySem PySem.Spec PyProof.Rows
end L2
namespace L2
open PySem PySem.Spec PyProof.Rows
section
variable{P:Program}{w:World}{K:KW}{mg:Str->Option Value}{base:Heap}
end
section
variable{X:Cx}
end
section
variable{κ:Type} [DecidableEq κ]
end
end L2
namespace L2
open PySem PySem.Spec PyProof.Rows
def clOf(env:Env)(fr:List (Str×Nat)):List (Str×Addr):=fr.map fun p=>(p.1,(env.cells.lookup p.1).getD 0)
def frOf(fr:List (Str×Nat))(σ:St):St:=fr.map fun p=>(σ[p.2]?).join
def dk(X:Cx)(scope:Scope)(fr:List (Str×Nat))(x:Str)(C:Addr)(ex:List Addr)(s:Shared)(H:Hp):Cx where
 prog:=X.prog
 w:=X.w
 K:=X.K
 mg:=X.mg
 base:=X.base
 A:=X.A
 N:=x::fr.map (·.1)
 s₀:=s
 H₀:=H
 env:=compEnvC scope (clOf X.env fr) C X.env
 outer:=X.stack
 stack:=X.stack
 ex:=ex
 fn:=fun _=>false
 calm:=X.calm
 pn:=[]
 xe:=fun _ _=>False
structure bR(X:Cx)(scope:Scope)(fr:List (Str×Nat))(x:Str):Prop where
 clos:closureFor scope X.env=pure (clOf X.env fr)
 cell:∀ y∈scope.names,y.2≠.cell
 kind:scope.kind=.function
 names:∀ y∈scope.names,y.2=.local->scope.names.lookup y.1=some .local
 xl:scope.names.lookup x=some .local
 nd:(x::fr.map (·.1)).Nodup
 slot:∀ p∈fr,X.N[p.2]?=some p.1/\X.env.kindOf p.1=some .cell
 has:∀ y∈(relabel scope X.env).names,(y.2=.cell∨y.2=.free)->y.1∈fr.map (·.1)
 frk:∀ p∈fr,(relabel scope X.env).names.lookup p.1=some .cell
theorem bR.plain{X:Cx}{scope:Scope}{x:Str}(clos:closureFor scope X.env=pure [])(cell:∀ y∈scope.names,y.2≠.cell)(kind:scope.kind=.function)(names:∀ y∈scope.names,y.2=.local->scope.names.lookup y.1=some .local)
  (hx:scope.names.lookup x=some .local) (nf:∀ y∈scope.names,y.2≠.free):bR X scope [] x where
 clos:=clos
 cell:=cell
 kind:=kind
 names:=names
 xl:=hx
 nd:=by simp
 slot:=fun p hp=>nomatch hp
 has:=fun y hy hk=>by
  obtain⟨⟨n,k⟩,hz,e⟩:=Lq.mp (show y∈scope.names.map _ from hy)
  have h1:=nf _ hz
  have h2:=cell _ hz
  dsimp only at e h1 h2
  have hf:(k == NameKind.free)=false:=by simpa using h1
  rw[hf]at e
  simp only[Nq,NA,if_false]at e
  subst e
  exact(hk.elim h2 h1).elim
 frk:=fun p hp=>nomatch hp
theorem bR.one{X:Cx}{scope:Scope}{x y:Str}{j:Nat}(clos:closureFor scope X.env=pure (clOf X.env [(y,j)]))(cell:∀ y∈scope.names,y.2≠.cell)(kind:scope.kind=.function)(names:∀ y∈scope.names,y.2=.local->scope.names.lookup y.1=some .local)
  (hx:scope.names.lookup x=some .local) (nd:([x,y]:List Str).Nodup) (hN:X.N[j]?=some y) (hk:X.env.kindOf y=some .cell) (nf:∀ z∈scope.names,z.2=.free->z.1=y) (hr:(relabel scope X.env).names.lookup y=some .cell):bR X scope [(y,j)] x where
 clos:=clos
 cell:=cell
 kind:=kind
 names:=names
 xl:=hx
 nd:=nd
 slot:=fun p hp=>by
  have e:p=(y,j):=by simpa using hp
  subst e
  exact⟨hN,hk⟩
 has:=fun z hz hk=>by
  obtain⟨⟨n,k⟩,hm,e⟩:=Lq.mp (show z∈scope.names.map _ from hz)
  have h2:=cell _ hm
  dsimp only at e h2
  have hn:z.1=n:=by rw[← e];split<;>rfl
  have hf:k=.free:=by
   by_cases q:k=.free
   ·exact q
   ·have hb:(k == NameKind.free)=false:=by simpa using q
    rw[hb]at e
    simp only[Nq,NA,if_false]at e
    subst e
    exact(hk.elim h2 q).elim
  have:=nf _ hm hf
  rw[hn]
  simp[← this]
 frk:=fun p hp=>by
  have e:p=(y,j):=by simpa using hp
  subst e
  exact hr
theorem eK{env:Env}:∀{fr:List (Str×Nat)}{y:Str}{c:Addr},(clOf env fr).lookup y=some c->y∈fr.map (·.1)/\c=(env.cells.lookup y).getD 0
 |[],_,_,h=>by cases h
 |p::r,y,c,h=>by
  unfold clOf at h
  rw[Lr,NC]at h
  cases e:y == p.1 with
  |true =>
   rw[e]at h
   have ey:y=p.1:=eq_of_beq e
   cases h
   exact⟨by rw[ey];exact Lg,by rw[ey]⟩
  |false =>
   rw[e]at h
   obtain⟨a,b⟩:=eK (env:=env) (fr:=r) h
   exact⟨K6 _ a,b⟩
theorem bJ{env:Env}:∀{fr:List (Str×Nat)}{y:Str},y∈fr.map (·.1)->(clOf env fr).lookup y=some ((env.cells.lookup y).getD 0)
 |[],_,h=>by cases h
 |p::r,y,h=>by
  unfold clOf
  rw[Lr,NC]
  cases e:y == p.1 with
  |true =>
   have ey:y=p.1:=eq_of_beq e
   rw[ey]
  |false =>
   have ny:y≠p.1:=fun z=>by rw[z]at e;simp at e
   rcases K0.mp h with z | z
   ·exact absurd z ny
   ·exact bJ (env:=env) (fr:=r) z
section
variable{X:Cx}{pins:List (Addr×Obj)}{σ:St}{H:Hp}{s:Shared}{scope:Scope}{fr:List (Str×Nat)}{x:Str}
theorem bR.cells(O:bR X scope fr x)(I:Inv X pins σ H s){y:Str}{c:Addr}(h:(clOf X.env fr).lookup y=some c):X.env.cells.lookup y=some c:=by
 obtain⟨hm,e⟩:=eK h
 obtain⟨p,hp,ep⟩:=Lq.mp hm
 have k:=(O.slot p hp).2
 rw[ep]at k
 obtain⟨c',e'⟩:=I.ok.has y (.inl k)
 rw[e']at e
 rw[e',e]
 rfl
theorem Ia{fp:List Addr}(O:bR X scope fr x)(I:Inv X pins σ H s)(hf:∀ b∈fp,FpOk X pins H b)(hfs:∀ b∈fp,b<s.heap.objs.size){g h':Heap}{tk:Nat}(hg:g=s.heap.push (LCg.lst []))
  (hk:∀ b o,g.get? b=some o->h'.get? b=some o) (hC:h'.Ns g.objs.size fun _=>none) :
  Inv (dk X scope fr x g.objs.size (s.heap.objs.size::fp) { s with heap:=g } H) (X.pn++pins++[(s.heap.objs.size,LCg.lst [])]) (none::frOf fr σ) H { s with heap:=h',toks:=tk }:=by
 have hsz:g.objs.size=s.heap.objs.size+1:=by rw[hg,Heap.size_push]
 have kp:∀ b o,s.heap.get? b=some o->g.get? b=some o:=fun b o e=>by rw[hg];exact Heap.get?_push_of_some _ e
 have hk0:∀ b o,s.heap.get? b=some o->h'.get? b=some o:=fun b o e=>hk b o (kp b o e)
 have hDo:h'.get? s.heap.objs.size=some (LCg.lst []):=hk _ _ (by rw[hg];exact Heap.get?_push_size _ rfl)
 have neC:∀ b,b<s.heap.objs.size->b≠g.objs.size:=fun b e=>by rw[hsz];exact Ly (M7 e)
 have hDC:s.heap.objs.size≠g.objs.size:=by rw[hsz];exact Ly (MB _)
 have hfr:H g.objs.size=none:=I.hok.fresh (by rw[hsz];exact MO _)
 have hfD:H s.heap.objs.size=none:=I.hok.fresh (K3 _)
 have cne:∀ y c,X.env.cells.lookup y=some c->c<s.heap.objs.size:=fun y c e=>by
  obtain⟨v,q⟩:=I.cell y c e
  exact q.lt
 have nst:∀ b,b≠X.env.locals->b∉X.fs->b∉frs X.stack:=fun b h1 h2 z=>(K0.mp (I.stkSub b z)).elim h1 h2
 have nstD:s.heap.objs.size∉frs X.stack:=nst _ (MR I.lt) (I.nofs (K3 _))
 refine⟨⟨I.ok.mod,O.kind,I.ok.glob,I.ok.blt,K3 _,?_,?_,fun _ _ z _=>(by cases z),I.ok.hd,I.ok.frames,.inl rfl,?_,?_,?_,?_,?_,?_,I.stkFree⟩,rfl,I.bare,Un.kept hk,?_,?_,hfr,?_,?_,I.hok.kept hk0,?_⟩
 ·intro y z c h1 h2
  exact I.ok.inj y z c (O.cells I h1) (O.cells I h2)
 ·intro y hy
  have hm:y∈fr.map (·.1):=by
   rcases hy with hy | hy
   ·exact O.has (y,_) (LX hy) (.inl rfl)
   ·exact O.has (y,_) (LX hy) (.inr rfl)
  exact⟨_,bJ hm⟩
 ·intro b hb
  rcases K0.mp hb with rfl | hb
  ·exact⟨hDC,fun y c e=>Ly (cne y c (O.cells I e))⟩
  ·exact⟨neC b (hfs b hb),fun y c e=>(hf b hb).2.2.2.2.1 y c (O.cells I e)⟩
 ·intro b o e
  exact⟨kp b o (I.bs b o e).1,(I.bs b o e).2⟩
 ·show X.base.objs.size<=g.objs.size
  rw[hsz]
  exact Nat.le_succ_of_le (LH I.ok.bsz I.sz)
 ·intro b o e hb
  rcases K0.mp hb with z | hb
  ·have:=Heap.lt_size (I.bs b o e).1
   rw[z]at this
   exact LQ _ this
  ·rcases(hf b hb).2.2.2.1 with z | z
   ·exact I.ok.noex b o e z
   ·exact absurd (Lx (Heap.lt_size (I.ok.bs b o e).1) z) (LQ _)
 ·intro b hb
  rcases K0.mp hb with z | hb
  ·rw[z];exact nstD
  ·exact nst b (hf b hb).2.1 (hf b hb).2.2.1
 ·exact(I.kept (h':=g) (t':=s.toks) kp).stack
 ·refine⟨_,hC,fun i y v e1 e2 e3=>?_⟩
  cases i with
  |zero=>cases e2
  |succ k =>
   have e1':(fr.map (·.1))[k]?=some y:=e1
   have e2':(frOf fr σ)[k]?=some (some v):=e2
   unfold frOf at e2'
   rw[Lb]at e1' e2'
   cases q:fr[k]? with
   |none=>rw[q]at e1';cases e1'
   |some p =>
    rw[q]at e1' e2'
    have ey:p.1=y:=Lm e1'
    have ev:(σ[p.2]?).join=some v:=Lm e2'
    have hp:p∈fr:=K1 q
    obtain⟨hN,hK⟩:=O.slot p hp
    have hkk:=O.frk p hp
    rw[ey]at hN hK hkk
    have ev':σ[p.2]?=some (some v):=by
     cases q2:σ[p.2]? with
     |none=>rw[q2]at ev;cases ev
     |some w=>rw[q2]at ev;exact congrArg some ev
    obtain⟨m,hn,hl⟩:=I.loc
    obtain⟨u,r,l⟩:=hl p.2 y v hN ev' (.inr (.inl hK))
    refine⟨u,r,?_⟩
    rcases l with⟨k1,_⟩ | ⟨_,c,ec,z⟩
    ·rw[hK]at k1;cases k1
    ·have hm:y∈fr.map (·.1):=by rw[← ey];exact Lq.mpr ⟨p,hp,rfl⟩
     have el:=bJ (env:=X.env) hm
     rw[ec]at el
     exact .inr ⟨.inl hkk,c,el,by obtain⟨o,ho,hd⟩:=z;exact⟨o,hk0 _ _ ho,hd⟩⟩
 ·intro y c e
  obtain⟨v,o,ho,hd⟩:=I.cell y c (O.cells I e)
  exact⟨v,o,hk0 _ _ ho,hd⟩
 ·intro y c e
  exact I.freeC y c (O.cells I e)
 ·intro p hp
  rcases La.mp hp with hp | hp
  ·cases hp
  ·rcases La.mp hp with hp | hp
   ·obtain⟨e,n,ne,nf,d⟩:=I.pin p hp
    exact⟨hk0 _ _ e,n,neC _ (Heap.lt_size e),nst _ ne nf,d⟩
   ·have ep:p=(s.heap.objs.size,LCg.lst []):=by simpa using hp
    subst ep
    exact⟨hDo,hfD,hDC,nstD,fun v z=>by cases z⟩
 ·show(none::frOf fr σ).length=(x::fr.map (·.1)).length
  unfold frOf
  simp
theorem xr{fp:List Addr}{g:Heap}{s':Shared}{H':Hp}{σ':St}{ys:List V}{us:List Value}(I:Inv X pins σ H s)(hf:∀ b∈fp,FpOk X pins H b)(hg:g=s.heap.push (LCg.lst []))
  (J:Inv (dk X scope fr x g.objs.size (s.heap.objs.size::fp) { s with heap:=g } H) (X.pn++pins++[(s.heap.objs.size,LCg.lst us)]) σ' H' s') (hv:Vals ys us) (hl:ys.length<=sizeLine) :
  Inv X pins σ (upd H' s.heap.objs.size (.lst ys)) s'/\H' s.heap.objs.size=none/\FpOk X pins (upd H' s.heap.objs.size (.lst ys)) g.objs.size/\∃ m,s'.heap.Ns g.objs.size m:=by
 have hsz:g.objs.size=s.heap.objs.size+1:=by rw[hg,Heap.size_push]
 have kp:∀ b o,s.heap.get? b=some o->g.get? b=some o:=fun b o e=>by rw[hg];exact Heap.get?_push_of_some _ e
 obtain⟨eD,nD,_,_,_⟩:=J.pin (s.heap.objs.size,LCg.lst us) (by simp)
 have hDC:g.objs.size≠s.heap.objs.size:=by rw[hsz];exact MR (MB _)
 have nD':∀ b u,H' b=some u->b≠s.heap.objs.size:=fun b u e z=>by rw[z]at e;rw[e]at nD;cases nD
 have hx:∀ b o,s.heap.get? b=some o->b∉fp->b∉s.heap.objs.size::fp:=fun b o e hb z=>by
  rcases K0.mp z with z | z
  ·have:=Heap.lt_size e
   rw[z]at this
   exact LQ _ this
  ·exact hb z
 have bU:Un (frs X.stack) (s.heap.objs.size::fp) H H' g s'.heap:=J.base
 have ltD:∀ b o,s.heap.get? b=some o->b≠s.heap.objs.size:=fun b o e=>Ly (Heap.lt_size e)
 have un:Un (frs X.stack) fp H (upd H' s.heap.objs.size (.lst ys)) s.heap s'.heap:=by
  refine⟨fun b o e n hb he=>bU.keep b o (kp b o e) n hb (hx b o e he),fun b o e n hb he=>bU.slot b o (kp b o e) n hb (hx b o e he),fun b o e n he=>?_,fun b o e he=>bU.there b o (kp b o e) (hx b o e he),fun b xs e=>?_,fun b o u e=>?_,fun b ps e=>?_⟩
  ·rw[aq (ltD b o e)];exact bU.free b o (kp b o e) n (hx b o e he)
  ·have q:=bU.tups b xs e
   rw[aq (nD' b _ q)];exact q
  ·have q:=bU.frzs b o u e
   rw[aq (nD' b _ q)];exact q
  ·obtain⟨more,q⟩:=bU.tbls b ps e
   exact⟨more,by rw[aq (nD' b _ q)];exact q⟩
 have hok:HOk X.prog X.w (upd H' s.heap.objs.size (.lst ys)) s'.heap:=fun b u e=>by
  by_cases hb:b=s.heap.objs.size
  ·rw[hb,ae]at e
   cases e
   rw[hb]
   exact⟨hl,us,us.length,hv,eD⟩
  ·rw[aq hb]at e
   exact(J.hok b u e).stay (fun c v _ q=>q) (fun c q=>by rw[aq (nD' c _ q)];exact q) fun c xs q=>by rw[aq (nD' c _ q)];exact q
 have os:s'.os=s.os:=J.os
 refine⟨I.call' os un hok J.bare fun b hb=>⟨(hf b hb).2.2.2.1,(hf b hb).2.1,(hf b hb).2.2.2.2⟩,nD,?_,?_⟩
 ·refine I.fpOk (H':=upd H' s.heap.objs.size (.lst ys)) (b:=g.objs.size) (by rw[hsz];exact MO _) ?_
  rw[aq hDC]
  exact J.free
 ·obtain⟨m,hn,_⟩:=J.loc
  exact⟨m,hn⟩
end
def oi(te:TE)(fv:St)(J:It)(H1:Hp)(QQ:List V->Hp->Prop):Prop :=
 ∃ W:Nat->Nat->List V->Hp->Prop,(∃ m,W 0 m [] H1)/\∀ i m ys H,W i m ys H->ys.length<=sizeLine /\
  ((J.stop i H/\QQ ys H)∨(J.go i H/\∃ N:V->Hp->Prop,(∀ y H2,N y H2->∃ m',m'<m/\W (i+1) m' (ys++[y]) H2)/\∀ x H',J.yld i H x H'->te (some x::fv) H' N))
section
variable{X:Cx}{scope:Scope}{fr:List (Str×Nat)}{x:Str}{elt iter:Expr}{px pos:Pos}{te:TE}{wi:TI}
theorem xW{pins:List (Addr×Obj)}{σ:St}{H:Hp}{s:Shared}{E:Value->Shared->Prop}{it:Addr}{fp:List Addr}{tn:Nat->Heap->Prop}{J:It}{RR:Value->Addr->Result->Shared->Prop}{QQ:List V->Hp->Prop}(hc:X.calm=true)(O:bR X scope fr x)
  (he:∀ C ex s H,PE (dk X scope fr x C ex s H) elt te) (I:Inv X pins σ H s) (T:Turn X.prog X.w X.K (.Name x px) J fp it tn) (st:tn 0 s.heap) (hf:∀ b∈fp,FpOk X pins H b) (hq:oi te (frOf fr σ) J H QQ)
  (fin:∀ D C H4 ys s4 m,Inv X pins σ (upd H4 D (.lst ys)) s4->H4 D=none->FpOk X pins (upd H4 D (.lst ys)) C->s4.heap.Ns C m->QQ ys H4->RR (.ref D) C (.ok .next) s4) :
  wpAny (model X.prog X.w) X.A (newList []) (fun acc s₃=>wpAny (model X.prog X.w) X.A (newFunctionEnv scope X.env.globals (clOf X.env fr) [] X.env.qual none .none (some X.env)) (fun cenv s₄ =>
   codeAny (model X.prog X.w) X.A (.compStart (.ListComp elt [⟨.Name x px,iter,[],0⟩] scope pos) 0 (.ref it) acc { cenv with scope:=relabel scope X.env }) (RR acc cenv.locals) s₄) E s₃) E s:=by
 obtain⟨W,⟨m0,w0⟩,turn⟩:=hq
 have hfs:∀ b∈fp,b<s.heap.objs.size:=fun b hb=>by
  obtain⟨o,e,_⟩:=T.obj 0 s.heap st b hb
  exact Heap.lt_size e
 refine wpAny_newObj_type (wpAny_newFunctionEnv O.cell (by intro y hy;simp at hy) (fun h₁ hns₁ hsb₁=>?_) O.kind)
 dsimp only at hns₁ hsb₁ ⊢
 generalize hH2:s.heap.push { cls:=.type "list",dict:=none,data:=.seq ([]:List Value).toArray }=g at hns₁ hsb₁ ⊢
 have hg:g=s.heap.push (LCg.lst []):=hH2.symm
 have hsz:g.objs.size=s.heap.objs.size+1:=by rw[hg,Heap.size_push]
 have hk:∀ b o,g.get? b=some o->h₁.get? b=some o:=fun b o e=>hsb₁.extBut b o (Ly (Heap.lt_size e)) (Heap.get?_push_of_some _ e)
 have kp:∀ b o,s.heap.get? b=some o->h₁.get? b=some o:=fun b o e=>hk b o (by rw[hg];exact Heap.get?_push_of_some _ e)
 have J0:=Ia (h':=h₁) (tk:=s.toks+([]:List (Str×Value)).length) O I hf hfs hg hk hns₁
 have stat:∀{H':Hp}{us:List Value},(∀ b∈fp,H' b=none)->∀ b∈fp,FpOk (dk X scope fr x g.objs.size (s.heap.objs.size::fp) { s with heap:=g } H) (X.pn++pins++[(s.heap.objs.size,LCg.lst us)]) H' b:=fun{H' us} hn b hb=>by
  obtain⟨_,f1,f2,f3,f4,f5⟩:=hf b hb
  refine⟨hn b hb,?_,fun z=>(K0.mp (I.stkSub b z)).elim f1 f2,.inl (K6 _ hb),fun y c e=>f4 y c (O.cells I e),fun p hp=>?_⟩
  ·show b≠g.objs.size
   rw[hsz];exact Ly (M7 (hfs b hb))
  ·rcases La.mp hp with hp | hp
   ·cases hp
   ·rcases La.mp hp with hp | hp
    ·exact f5 p hp
    ·have ep:p=(s.heap.objs.size,LCg.lst us):=by simpa using hp
     rw[ep]
     exact MR (hfs b hb)
 have loop:codeAny (model X.prog X.w) X.A (.compLoop (.ListComp elt [⟨.Name x px,iter,[],0⟩] scope pos) 0 (.ref it) (.ref s.heap.objs.size) (compEnvC scope (clOf X.env fr) g.objs.size X.env))
   (RR (.ref s.heap.objs.size) g.objs.size) { s with heap:=h₁,toks:=s.toks+([]:List (Str×Value)).length }:=by
  refine codeAny_compLoop_tests (fun n s'=>∃ i ys us H',Inv (dk X scope fr x g.objs.size (s.heap.objs.size::fp) { s with heap:=g } H) (X.pn++pins++[(s.heap.objs.size,LCg.lst us)]) (none::frOf fr σ) H' s'/\Vals ys us/\tn i s'.heap/\(∀ b∈fp,H' b=none)/\W i n ys H') ?_ m0
   ⟨0,[],[],H,J0,.nil,T.keep 0 s.heap h₁ st fun b _ o e=>kp b o e,fun b hb=>(hf b hb).1,w0⟩
  rintro n s3 ⟨i,ys,us,H3,J3,hv,st3,fr3,w3⟩
  obtain⟨hlen,hh⟩:=turn i n ys H3 w3
  have none_err:∀{α:Type}{t:Sem α}{Q:α->Shared->Prop}{E':Value->Shared->Prop}{s:Shared},wpAny (model X.prog X.w) X.A t Q (fun _ _=>False) s->wpAny (model X.prog X.w) X.A t Q E' s:=fun h=>wpAny_mono h (fun _ _ q=>q) fun _ _ z=>z.elim
  rcases hh with⟨stop,qn⟩ | ⟨go,N,hN,step⟩
  ·refine none_err (thn (T.done (dk X scope fr x g.objs.size (s.heap.objs.size::fp) { s with heap:=g } H) rfl rfl rfl hc i _ s3 _ H3 _ J3 (stat fr3) st3 stop) fun r s4 ⟨hr,J4⟩=>?_)
   subst hr
   obtain⟨I4,nD,fC,m,hn⟩:=xr I hf hg J4 hv hlen
   exact fin _ _ H3 ys s4 m I4 nD fC hn qn
  ·refine none_err (thn (T.item (dk X scope fr x g.objs.size (s.heap.objs.size::fp) { s with heap:=g } H) rfl rfl rfl hc i _ s3 _ H3 _ J3 (stat fr3) st3 go) fun r s4 ⟨u,hr,h4⟩=>?_)
   subst hr
   have h4':=wpAny_bind (f:=fun _=>assign (.Name x px) (compEnvC scope (clOf X.env fr) g.objs.size X.env) u) (thn h4 (Q':=fun _ s5=>wpAny (model X.prog X.w) X.A (assign (.Name x px) (compEnvC scope (clOf X.env fr) g.objs.size X.env) u) (fun _ s6=>∃(σ6:St)(H6:Hp)(v:V)(s5':Shared)(H5:Hp),Inv (dk X scope fr x g.objs.size (s.heap.objs.size::fp) { s with heap:=g } H) (X.pn++pins++[(s.heap.objs.size,LCg.lst us)]++vX fp s5'.heap) σ6 H6 s6/\σ6=some v::frOf fr σ/\H6=H5/\J.yld i H3 v H5/\tn (i+1) s5'.heap) (fun _ _=>False) s5) fun _ s5 ⟨v,H5,J5,r5,y5,st5,fr5⟩=>by
    have J5':=J5.pinned (stat fr5) (T.obj _ _ st5)
    have hNd:(dk X scope fr x g.objs.size (s.heap.objs.size::fp) { s with heap:=g } H).N.Nodup:=O.nd
    have hxl:(dk X scope fr x g.objs.size (s.heap.objs.size::fp) { s with heap:=g } H).env.scope.names.lookup x=some .local:=lookup_relabel_local O.xl
    exact thn (aW (X:=dk X scope fr x g.objs.size (s.heap.objs.size::fp) { s with heap:=g } H) (i:=0) hNd rfl (.inl hxl) (.inr hxl) _ s5 _ H5 v u (fun σ6 H6=>σ6=some v::frOf fr σ/\H6=H5) J5' r5 ⟨rfl,rfl⟩) fun _ s6 ⟨σ6,H6,J6,e6,e7⟩=>⟨σ6,H6,v,s5,H5,J6,e6,e7,y5,st5⟩)
   refine none_err (thn h4' fun _ s6 ⟨σ6,H6,v,s5,H5,J6,e6,e7,y5,st5⟩=>?_)
   subst e6 e7
   refine wpAny_tests_nil ?_
   rw[if_pos rfl]
   refine none_err (thn (he _ _ _ _ _ s6 _ H6 _ J6 (step v H6 y5)) fun u7 s7 ⟨v7,H7,J7,r7,q7⟩=>?_)
   obtain⟨m',hm,w7⟩:=hN v7 H7 q7
   obtain⟨eD,nD,dC,dF,dd⟩:=J7.pin (s.heap.objs.size,LCg.lst us) (Lj _ (LC _ (Lj _ (by simp))))
   have hvl:=hv.length
   refine append_at (hsz:=by show us.toArray.size<=sizeLine;rw[Lk,← hvl];exact hlen) eD fun h8 hs8 hD8=>?_
   have pinD:∀ p∈X.pn++pins,p.1≠s.heap.objs.size:=fun p hp z=>by
    have:=Heap.lt_size (I.pin p hp).1
    rw[z]at this
    exact LQ _ this
   have J7a:Inv (dk X scope fr x g.objs.size (s.heap.objs.size::fp) { s with heap:=g } H) (X.pn++pins) _ H7 s7:=J7.pins_of fun p hp=>J7.pin p (Lj _ (LC _ (LC _ hp)))
   have J8:Inv (dk X scope fr x g.objs.size (s.heap.objs.size::fp) { s with heap:=g } H) (X.pn++pins) _ H7 { s7 with heap:=h8 }:=J7a.turned (t':=s7.toks) (fun b o hb e=>(hs8.2 b hb).trans e) nD dC (.inl Lg) (fun y c e z=>by
    obtain⟨w',q⟩:=I.cell y c (O.cells I e)
    have:=q.lt
    rw[z]at this
    exact LQ _ this) (fun p hp=>(La.mp hp).elim (fun z=>by cases z) (pinD p))
   have J9:Inv (dk X scope fr x g.objs.size (s.heap.objs.size::fp) { s with heap:=g } H) (X.pn++pins++[(s.heap.objs.size,LCg.lst (us++[u7]))]) _ H7 { s7 with heap:=h8 }:=J8.pins_of fun p hp=>by
    rcases La.mp hp with hp | hp
    ·exact J8.pin p (Lj _ hp)
    ·have ep:p=(s.heap.objs.size,LCg.lst (us++[u7])):=by simpa using hp
     subst ep
     exact⟨hD8.trans (congrArg some (LCg.lst_snoc us u7)),nD,dC,dF,fun v z=>by cases z⟩
   have J10:=J9.weak (σ':=none::frOf fr σ) rfl fun i v e=>by
    cases i with
    |zero=>cases e
    |succ k=>exact e
   have pinF:∀ b∈fp,∀ o,s5.heap.get? b=some o->s7.heap.get? b=some o/\H7 b=none:=fun b hb o e=>by
    obtain⟨q1,q2,_⟩:=J7.pin (b,o) (Lj _ (Lj _ (fB hb e)))
    exact⟨q1,q2⟩
   refine⟨m',hm,i+1,ys++[v7],us++[u7],H7,J10,hv.append (.cons r7 .nil),T.keep _ _ _ st5 fun b hb o e=>(hs8.2 b (Ly (hfs b hb))).trans (pinF b hb o e).1,fun b hb=>?_,w7⟩
   obtain⟨o,e,_⟩:=T.obj _ _ st5 b hb
   exact(pinF b hb o e).2
 exact codeAny_compStart_list loop (T.self X.A 0 _ _ _ (T.keep 0 s.heap h₁ st fun b _ o e=>kp b o e) loop)
def tComp(wi:TI)(te:TE)(fr:List (Str×Nat)):TE:=fun σ H Q=>wi σ H fun J H1=>oi te (frOf fr σ) J H1 fun ys H2=>∀ D,H2 D=none->Q (.ref D) (upd H2 D (.lst ys))
theorem gZ(hc:X.calm=true)(O:bR X scope fr x)(hi:PI X (.Name x px) iter wi)(he:∀ C ex s H,PE (dk X scope fr x C ex s H) elt te)(hs:∀ x,foldedSetIterable iter X.env x=pure x:=by intro _;rfl) :
  PE X (.ListComp elt [⟨.Name x px,iter,[],0⟩] scope pos) (tComp wi te fr):=by
 intro pins s σ H Q I h
 rw[eval_ListComp]
 refine wpAny_comprehension_free (use:=none) rfl hs O.clos O.kind O.names (thn (hi pins s σ H _ I h) fun xv s1 h1=>thn h1 fun itv s2 h2=>?_)
 obtain⟨it,fp,tn,J,H2,e,I2,T,st2,f2,q2⟩:=h2
 subst e
 refine xW (RR:=fun acc C=>compPost (model X.prog X.w) X.A X.xe none (EP X pins σ Q) acc C) hc O he I2 T st2 f2 q2 ?_
 intro D C H4 ys s4 m I4 nD fC hn q4
 refine⟨m,hn,fun h' hs'=>?_⟩
 obtain⟨g0,g1,g2,g3,g4,g5⟩:=fC
 exact⟨.ref D,_,I4.turned (t':=s4.toks) (fun b o hb e=>(hs'.2 b hb).trans e) g0 g1 g3 g4 g5,rfl,q4 D nD⟩
def Hm(i:Nat)(wi:TI)(te:TE)(fr:List (Str×Nat)):TS:=fun D σ H=>wi σ H fun J H1=>oi te (frOf fr σ) J H1 fun ys H2=>∀ a,H2 a=none->D.nx (σ.set i (some (.ref a))) (upd H2 a (.lst ys))
theorem iU{i:Nat}{y:Str}{py spos:Pos}(hc:X.calm=true)(hN:X.N.Nodup)(hi':X.N[i]?=some y)(hy:X.env.scope.names.lookup y=some .local)(O:bR X scope fr x)(hi:PI X (.Name x px) iter wi)(he:∀ C ex s H,PE (dk X scope fr x C ex s H) elt te)
  (hsw:swapsWith (.ListComp elt [⟨.Name x px,iter,[],0⟩] scope pos) (some (.Name y py)) spos.line X.env=pure true:=by rfl) (hs:∀ x,foldedSetIterable iter X.env x=pure x:=by intro _;rfl) :
  PS X (.Assign [.Name y py] (.ListComp elt [⟨.Name x px,iter,[],0⟩] scope pos) spos) (Hm i wi te fr):=by
 intro pins s σ H D I h
 rw[exec_Assign_Name_used _ _ _ _ hsw]
 refine wpAny_bind (wpAny_standAt (wpAny_bind ?_))
 show wpAny _ X.A (do let _ ← comprehension (.ListComp elt [⟨.Name x px,iter,[],0⟩] scope pos) scope X.env _ (newList []) false (eval iter X.env) (some (assign (.Name y py) X.env))) _ _ s
 refine wpAny_bind (thn (wpAny_comprehension_free (use:=some (assign (.Name y py) X.env)) (Q:=fun _ s'=>SP X pins D .next s') rfl hs O.clos O.kind O.names (thn (hi pins s σ H _ I h) fun xv s1 h1=>thn h1 fun itv s2 h2=>?_)) fun _ s' hq=>wpAny_pure (wpAny_pure hq))
 obtain⟨it,fp,tn,J,H2,e,I2,T,st2,f2,q2⟩:=h2
 subst e
 refine xW (RR:=fun acc C=>compPost (model X.prog X.w) X.A X.xe (some (assign (.Name y py) X.env)) (fun _ s'=>SP X pins D .next s') acc C) hc O he I2 T st2 f2 q2 ?_
 intro a C H4 ys s4 m I4 nD fC hn q4
 obtain⟨g0,g1,g2,g3,g4,g5⟩:=fC
 obtain⟨oC,eC,hoC⟩:=LCg.ns_obj hn
 have I5:Inv X (pins++[(C,oC)]) σ (upd H4 a (.lst ys)) s4:=I4.pins_of fun p hp=>by
  rcases La.mp hp with hp | hp
  ·exact I4.pin p (Lj _ hp)
  ·have ep:p=(C,oC):=by simpa using hp
   subst ep
   obtain⟨es,epp,hd,_⟩:=hoC
   exact⟨eC,g0,g1,g2,fun v z=>by rw[hd]at z;cases z⟩
 show wpAny _ X.A (assign (.Name y py) X.env (.ref a)) _ _ _
 refine wpAny_assign_Name (sv I5 hN hi' (.inl hy) (v:=.ref a) rfl (fun s6 I6=>?_) (.inr hy))
 obtain⟨e6,_⟩:=I6.pin (C,oC) (Lj _ (Lj _ (by simp)))
 refine⟨m,hoC.ns e6,fun h' hs'=>?_⟩
 exact⟨_,_,I6.unpinned.turned (t':=s6.toks) (fun b o hb e=>(hs'.2 b hb).trans e) g0 g1 g3 g4 g5,q4 a nD⟩
end
theorem c8{K:KW}{a:Addr}{xs:List V}{te:TE}{fv:St}{H1:Hp}{QQ:List V->Hp->Prop}(Pv:Nat->List V->Hp->Prop)(hz:xs.length<=sizeLine)(h0:Pv 0 [] H1)(hl:∀ i ys H,i<=xs.length->Pv i ys H->SqL K H a xs)
  (hs:∀ i x ys H,xs[i]?=some x->Pv i ys H->te (some x::fv) H fun y H2=>Pv (i+1) (ys++[y]) H2) (hd:∀ ys H,ys.length=xs.length->Pv xs.length ys H->QQ ys H)
  : oi te fv (Itl K a) H1 QQ:=by
 refine⟨fun i m ys H=>m=xs.length-i/\i<=xs.length/\ys.length=i/\Pv i ys H,⟨xs.length,by simp,L8 _,rfl,h0⟩,?_⟩
 rintro i m ys H ⟨rfl,hi,hy,p⟩
 have q:=hl i ys H hi p
 refine⟨by omega,?_⟩
 by_cases hlt:i<xs.length
 ·refine .inr ⟨⟨xs,xs[i],q,by simp[hlt]⟩,fun y H2=>Pv (i+1) (ys++[y]) H2,fun y H2 p2=>⟨xs.length-(i+1),by omega,rfl,hlt,by rw[KU,hy];rfl,p2⟩,fun x H' y=>?_⟩
  obtain⟨e,y⟩:=y
  subst e
  exact hs i x ys _ (y xs q) p
 ·have e:i=xs.length:=by omega
  subst e
  exact .inl ⟨⟨xs,q,K3 _⟩,hd ys H hy p⟩
theorem rQ{lo:Int}{n:Nat}{te:TE}{fv:St}{H1:Hp}{QQ:List V->Hp->Prop}(Pv:Nat->List V->Hp->Prop)(hz:n<=sizeLine)(h0:Pv 0 [] H1)
  (hs:∀ i ys H,i<n->Pv i ys H->te (some (.int (lo+i))::fv) H fun y H2=>Pv (i+1) (ys++[y]) H2) (hd:∀ ys H,ys.length=n->Pv n ys H->QQ ys H)
  : oi te fv (Itr lo n) H1 QQ:=by
 refine⟨fun i m ys H=>m=n-i/\i<=n/\ys.length=i/\Pv i ys H,⟨n,by simp,L8 _,rfl,h0⟩,?_⟩
 rintro i m ys H ⟨rfl,hi,hy,p⟩
 refine⟨by omega,?_⟩
 by_cases hlt:i<n
 ·refine .inr ⟨hlt,fun y H2=>Pv (i+1) (ys++[y]) H2,fun y H2 p2=>⟨n-(i+1),by omega,rfl,hlt,by rw[KU,hy];rfl,p2⟩,fun x H' y=>?_⟩
  obtain⟨e,y⟩:=y
  subst e y
  exact hs i ys _ hlt p
 ·have e:i=n:=by omega
  subst e
  exact .inl ⟨K3 _,hd ys H hy p⟩
end L2
namespace L2
open PySem PySem.Spec PyProof.Rows
theorem GV:bootBuiltins "int" = some (.type "int"):=by decide +kernel
theorem KG:bootBuiltins "bool" = some (.type "bool"):=by decide +kernel
theorem ki:bootBuiltins "list" = some (.type "list"):=by decide +kernel
theorem aV:bootBuiltins "len" = some (.builtin "len"):=by decide +kernel
theorem Iq:bootBuiltins "range" = some (.type "range"):=by decide +kernel
theorem gK:bootBuiltins "isinstance" = some (.builtin "isinstance"):=by decide +kernel
theorem GU:bootBuiltins "sorted" = some (.builtin "sorted"):=by decide +kernel
theorem ya:bootBuiltins "enumerate" = some (.type "enumerate"):=by decide +kernel
structure Cal(P:Program)(w:World)(K:KW)(mg:Str->Option Value)(base:Heap)(k:Nat)(x:Str)(ps:List Str)(sp:Sp)(f:Addr)(fd:FuncData):Prop where
 ok:FnOk P w K mg base CX0 k f fd ps sp
 bn:nR K fd ps []
 mg:mg x=some (.ref f)
 kp:K5 K (.ref f)=true
structure Mak(P:Program)(w:World)(K:KW)(mg:Str->Option Value)(base:Heap)(k:Nat)(x:Str)(ps:List Str)(sp:Sp)(C f:Addr)(fd:FuncData):Prop where
 mkc:Mk K C f
 ok:FnOk P w K mg base CX0 k f fd ps sp
 bn:nR K fd ps []
 mg:mg x=some (.ref C)
structure Met(P:Program)(w:World)(K:KW)(mg:Str->Option Value)(base:Heap)(k:Nat)(C:Addr)(m:Str)(ps:List Str)(sp:Sp)(f:Addr)(fd:FuncData):Prop where
 me:Meth K C m f
 ok:FnOk P w K mg base CX0 k f fd ps sp
 bn:nR K fd ps []
section
variable{X:Cx}
def rIsi(K:KW):List V->Hp->VK->Prop:=fun xs H Q=>∃ x c t b u,xs = [x,c]/\TyOf K H x t/\((∃ n,c=.ty n/\u=Value.type n)∨∃ a,c=.ref a/\u=Value.ref a)/\MZ K t u=some b/\Q (.bl b) H
theorem uR:kC X (.builtin "isinstance") (rIsi X.K):=by
 intro pins s σ H xs us Q I r h
 obtain⟨x,c,t,b,u,rfl,ty,hu,e,q⟩:=h
 obtain⟨v1,v2,rfl,r1,r2⟩:=vals2 r
 have e2:v2=u:=by
  rcases hu with⟨n,rfl,rfl⟩ | ⟨a,rfl,rfl⟩
  ·exact r2
  ·exact r2
 subst e2
 exact FV I r1 ty e fun tk=>⟨.bl b,H,I.tok tk,rfl,q⟩
theorem kit_ii(K:KW):MZ K (.type "int") (.type "int")=some true:=by with_unfolding_all rfl
theorem kit_ib(K:KW):MZ K (.type "int") (.type "bool")=some false:=by with_unfolding_all rfl
end
inductive RdD(K:KW)(H:Hp):V->PyData->Prop where
 |non:RdD K H .non .none
 |bl (b:Bool):RdD K H (.bl b) (.bool b)
 |int (i:Int):RdD K H (.int i) (.int i)
 |lst {a:Addr} {xs:List V} {ds:List PyData} (h:SqL K H a xs) (hl:xs.length=ds.length) (r:∀(i:Nat)(x:V)(d:PyData),xs[i]?=some x->ds[i]?=some d->RdD K H x d):RdD K H (.ref a) (.list ds)
 |tup {a:Addr} {xs:List V} {ds:List PyData} (h:SqT K H a xs) (hl:xs.length=ds.length) (r:∀(i:Nat)(x:V)(d:PyData),xs[i]?=some x->ds[i]?=some d->RdD K H x d):RdD K H (.ref a) (.tuple ds)
theorem jB{h:Heap}:∀{xs:List V}{us:List Value}{ds:List PyData},Vals xs us->xs.length=ds.length->(∀(i:Nat) x d,xs[i]?=some x->ds[i]?=some d->∀ u,RelV x u->∃ as,Reads h u d as)->∃ as,ReadsAll h us ds as
 |_,_,[],.nil,_,_=>⟨_,.nil⟩
 |_,_,_::_,.nil,e,_=>by cases e
 |_,_,[],.cons _ _,e,_=>by cases e
 |_,_,d::ds,.cons r rr,e,k=>by
  obtain⟨a1,q1⟩:=k 0 _ d rfl rfl _ r
  obtain⟨a2,q2⟩:=jB rr (Nat.succ.inj e) fun i x d' e1 e2=>k (i+1) x d' e1 e2
  exact⟨_,.cons q1 q2⟩
section
variable{X:Cx}
theorem RdD.reads{pins:List (Addr×Obj)}{σ:St}{H:Hp}{s:Shared}(I:Inv X pins σ H s){x:V}{d:PyData}(r:RdD X.K H x d):∀ u,RelV x u->∃ as,Reads s.heap u d as:=by
 induction r with
 |non=>intro u hu;cases hu;exact⟨_,.none⟩
 |bl b=>intro u hu;cases hu;exact⟨_,.bool b⟩
 |int i=>intro u hu;obtain⟨t,rfl⟩:=hu;exact⟨_,.int i t⟩
 |lst h hl r ih =>
  intro u hu
  cases hu
  obtain⟨its,rv,p,_⟩:=I.list h
  obtain⟨as,q⟩:=jB (h:=s.heap) rv hl ih
  obtain⟨o,n,e,c,_,d⟩:=p
  exact⟨_,.list e c d (by simpa using q)⟩
 |tup h hl r ih =>
  intro u hu
  cases hu
  obtain⟨its,rv,p,_⟩:=I.tuple h
  obtain⟨as,q⟩:=jB (h:=s.heap) rv hl ih
  obtain⟨o,e,c,n,d⟩:=p
  exact⟨_,.tuple e c d (by simpa using q)⟩
def rSame(b:Bool)(K:KW):R2:=fun x y H Q=>∃ d,RdD K H x d/\RdD K H y d/\SeqAt.shaped d=true/\Q (.bl b) H
theorem op_neD(hu:X.A.units+64<cLine):OpR X (compareOp .NotEq) (rSame false X.K):=by
 intro pins s σ H x y v u Q I rx ry h
 obtain⟨d,r1,r2,hs,q⟩:=h
 obtain⟨as,q1⟩:=r1.reads I v rx
 obtain⟨bs,q2⟩:=r2.reads I u ry
 refine ne_dataH q1 q2 hs hs hu ?_
 rw[SeqAt.eqv_refl d (SeqAt.canLay_of_shaped hs)]
 exact⟨.bl false,H,I,rfl,q⟩
end
def Itr3(lo c:Int)(n:Nat):It:=⟨fun i _=>i<n,fun i H x H'=>H'=H/\x=.int (lo+i*c),fun i _=>n<=i⟩
theorem yJ{P:Program}{w:World}{K:KW}{tg:Expr}(it:Addr)(lo c:Int)(n:Nat):Turn P w K tg (Itr3 lo c n) [it] it (fun i h=>IsRangeIter h it (lo+(i:Nat)*c) ((n:Int)-(i:Nat)) c) where
 mem:=by simp
 obj:=fun i h st b hb=>by
  have e:b=it:=by simpa using hb
  subst e
  exact⟨_,st,fun v z=>by
   have z':Data.fields _=Data.cell v:=z
   cases z'⟩
 keep:=fun i h h' st k=>k it (by simp) _ st
 item:=by
  intro X hP hw hK hc i pins s σ H E I hf st hg
  subst hP hw hK
  obtain⟨f0,f1,f2,f3,f4,f5⟩:=hf it (by simp)
  have W:=Walks.range (prog:=X.prog) (w:=X.w) (I.ok.hd hc) it lo c n
  refine W.item i s _ _ hg st fun v h' tk hv st' kk=>?_
  obtain⟨t,rfl⟩:=hv
  have I1:Inv X pins σ H { s with heap:=h',toks:=tk }:=I.turned (fun b o hb e=>kk b o (by simpa using hb) e) f0 f1 f3 f4 f5
  exact⟨_,rfl,Ie (s:={ s with heap:=h',toks:=tk }) (n:="range_iterator") st' rfl rfl (by decide) ⟨.int (lo+i*c),H,I1,⟨t,rfl⟩,⟨rfl,rfl⟩,st',fun b hb=>(hf b hb).1⟩⟩
 done:=by
  intro X hP hw hK hc i pins s σ H E I hf st hg
  subst hP hw hK
  obtain⟨f0,f1,f2,f3,f4,f5⟩:=hf it (by simp)
  exact wpAny_pyNext_range_end (I.ok.hd hc) st (by have:n<=i:=hg;omega) fun h' eb=>⟨rfl,I.turned (t':=s.toks) (fun b o hb e=>eb b o hb e) f0 f1 f3 f4 f5⟩
 self:=fun _ _ _ _ _ st h=>wpAny_pyIter_rangeiter st h
section
variable{X:Cx}{tg:Expr}
end
theorem Dz{lo c:Int}{n:Nat}{g:TG}{tb:TS}{D:Ends}{σ:St}{H:Hp}(Pv:Nat->St->Hp->Prop)(h0:Pv 0 σ H)
  (hs:∀ i σ H,i<n->Pv i σ H->g (.int (lo+i*c)) σ H fun σ2 H2=>tb { D with nx:=Pv (i+1),ct:=Pv (i+1),bk:=D.nx } σ2 H2) (hd:∀ σ H,Pv n σ H->D.nx σ H) :
  ∃ W:Nat->Nat->St->Hp->Prop,(∃ m,W 0 m σ H)/\∀ i m σ H,W i m σ H ->
   ((Itr3 lo c n).stop i H/\D.nx σ H)∨((Itr3 lo c n).go i H/\∃ N:St->Hp->Prop,(∀ σ' H',N σ' H'->∃ m',m'<m/\W (i+1) m' σ' H')/\∀ x H',(Itr3 lo c n).yld i H x H'->g x σ H' fun σ2 H2=>tb { D with nx:=N,ct:=N,bk:=D.nx } σ2 H2):=by
 refine⟨fun i m σ H=>m=n-i/\i<=n/\Pv i σ H,⟨n,by simp,L8 _,h0⟩,?_⟩
 rintro i m σ H ⟨rfl,hi,p⟩
 by_cases hlt:i<n
 ·refine .inr ⟨hlt,Pv (i+1),fun σ' H' p'=>⟨n-(i+1),by omega,rfl,hlt,p'⟩,fun x H' y=>?_⟩
  obtain⟨e,y⟩:=y
  subst e y
  exact hs i σ _ hlt p
 ·have e:i=n:=by omega
  subst e
  exact .inl ⟨K3 _,hd σ H p⟩
end L2
namespace L2
open PySem PySem.Spec PyProof.Rows
section
variable{P:Program}{w:World}{H:Hp}{h:Heap}{a:Addr}{o:HO}
end
section
variable{X:Cx}{pins:List (Addr×Obj)}{σ:St}{H H':Hp}{s s':Shared}{b:Addr}
end
section
variable{X:Cx}{pins:List (Addr×Obj)}{σ:St}{H:Hp}{s:Shared}{x:Addr}{C:Value}{E:Value->Shared->Prop}
end
section
variable{X:Cx}{k:Nat}{f C:Addr}{fd:FuncData}{ps:List Str}{sp:Sp}{dvs:List V}{ds:List Value}{W:WK}{x m:Str}{p pos apos:Pos}{e o:Expr}{es:List Expr}{ta:TE}{t:TA}
end
end L2
namespace L2
open PySem PySem.Spec PyProof.Rows
section
variable{X:Cx}{pins:List (Addr×Obj)}{σ:St}{H:Hp}{s:Shared}{x:Addr}{C:Value}
end
section
variable{M:Model}{A:Around}{E:Value->Shared->Prop}{h:Heap}{g:Array GenState}{d:Drawn}{t:Nat}{os:OsState}
end
section
variable{X:Cx}{pins pins':List (Addr×Obj)}{σ:St}{H:Hp}{s:Shared}{E:Value->Shared->Prop}{b:Addr}
end
section
variable{X:Cx}{k:Nat}{f:Addr}{fd:FuncData}{ps:List Str}{sp:Sp}{dvs:List V}{ds:List Value}{W:WK}{x:Str}{p pos:Pos}{e:Expr}{es:List Expr}{t:TA}
end
end L2
namespace L2
open PySem PySem.Spec PyProof.Rows
end L2
namespace L2
open PySem PySem.Spec PyProof.Rows
section
variable{prog:Program}{w:World}{A:Around}{E:Value->Shared->Prop}{s:Shared}
end
end L2
namespace L2
open PySem PySem.Spec PyProof.Rows
section
variable{prog:Program}{w:World}{A:Around}{E:Value->Shared->Prop}{s:Shared}
end
section
variable{X:Cx}
end
end L2
namespace L2
open PySem PySem.Spec PyProof.Rows
section
variable{X:Cx}
end
end L2
namespace L2
open PySem PySem.Spec PyProof.Rows
theorem Inv.turnedL{X:Cx}{pins:List (Addr×Obj)}{σ:St}{H:Hp}{s:Shared}{h':Heap}{t':Nat}{fp:List Addr}(I:Inv X pins σ H s)(k:∀ b o,b∉fp->s.heap.get? b=some o->h'.get? b=some o)(hf:∀ b∈fp,FpOk X pins H b):Inv X pins σ H { s with heap:=h',toks:=t' }:=by
 have nit:∀ b u,H b=some u->b∉fp:=fun b u e z=>by rw[(hf b z).1]at e;cases e
 refine I.step (g':=s.gens) (d':=s.drawn) (ch:=fp) (fun b hb=>?_) (fun b o _ _ hc e _=>k b o hc e) (fun b o _ _ hc e _=>⟨o.slots,k b o hc e⟩) (fun _ _ _ _ n=>n)
  (fun b o hc e=>⟨o,k b o hc e⟩) (fun _ _ e=>e) (fun _ _ _ e=>e) (fun b ps e=>⟨#[],by rw[e];simp⟩) (fun m hm=>?_) (fun b u e=>?_) I.bare
 ·obtain⟨f0,f1,f2,f3,f4,f5⟩:=hf b hb
  exact⟨f3,f1,f4,f5⟩
 ·obtain⟨o,es,ep,ho,r⟩:=hm
  exact⟨o,es,ep,k _ o (fun z=>(hf _ z).2.1 rfl) ho,r⟩
 ·refine(I.hok b u e).stay (fun c v hc q=>k c v ?_ q) (fun _ q=>q) fun _ _ q=>q
  rcases hc with z | z
  ·rw[z];exact nit b u e
  ·exact nit c _ z
def Ite(K:KW)(a:Addr):It :=
 ⟨fun i H=>∃ xs x,SqL K H a xs/\xs[i]?=some x,fun i H v H'=>∃ T x,H T=none/\v=.ref T/\H'=upd H T (.tup [.int (i:Int),x])/\∀ xs,SqL K H a xs->xs[i]?=some x,fun i H=>∃ xs,SqL K H a xs/\xs.length<=i⟩
theorem Em{P:Program}{w:World}{K:KW}{es:List Expr}{k:Nat}{pos:Pos}(a e it:Addr)(hei:e≠it):Turn P w K (.Tuple es k pos) (Ite K a) [e,it] e (fun i h=>(∃ old,IsEnum h e it ((i:Nat):Int) old)/\h.IsListIter it a i) where
 mem:=by simp
 obj:=fun i h st b hb=>by
  obtain⟨⟨old,he⟩,o,e2,c,d⟩:=st
  rcases K0.mp hb with rfl | hb
  ·exact⟨_,he,fun v z=>by
    have z':Data.fields _=Data.cell v:=z
    cases z'⟩
  ·have e3:b=it:=by simpa using hb
   subst e3
   exact⟨o,e2,fun v z=>by rw[d]at z;cases z⟩
 keep:=fun i h h' st kk=>by
  obtain⟨⟨old,he⟩,hit⟩:=st
  exact⟨⟨old,kk e (by simp) _ he⟩,hit.at fun o q=>kk it (by simp) o q⟩
 item:=by
  intro X hP hw hK hc i pins s σ H E I hf st hg
  subst hP hw hK
  obtain⟨xs,x,hq,hx⟩:=hg
  obtain⟨its,rv,p,hz⟩:=I.list hq
  obtain⟨u,hu,ru⟩:=rv.get hx
  obtain⟨⟨old,he⟩,hit⟩:=st
  refine wpAny_pyNext_enum_item he hit p.isList (x:=u) (by simpa using hu) hei fun h' ho hit' hT hsz hk=>?_
  refine⟨_,rfl,?_⟩
  refine wpAny_letOwnedTupleGo_enum ho fun h2 he2 hs2=>?_
  have hs2':Heap.SameBut e h' h2:=hs2
  have hel:e<s.heap.objs.size:=Heap.lt_size he
  have hil:it<s.heap.objs.size:=by obtain⟨_,q,_⟩:=hit;exact Heap.lt_size q
  have hfr:H s.heap.objs.size=none:=I.hok.fresh (K3 _)
  have I0:Inv X pins σ (upd H s.heap.objs.size (.tup [.int (i:Int),x])) { s with heap:=s.heap.push { cls:=.type "tuple",data:=.seq #[.int (i:Int) s.toks,u] },toks:=s.toks+1 } :=
   I.laid (t':=s.toks+1) (fun b u e=>Heap.get?_push_of_some _ e) (K3 _) ⟨by show 2<=sizeLine;decide,[.int (i:Int) s.toks,u],.cons ⟨_,rfl⟩ (.cons ru .nil),⟨_,Heap.get?_push_size _ rfl,rfl,_,rfl⟩⟩
  have hfb:∀ b∈[e,it],b<s.heap.objs.size:=fun b hb=>by
   rcases K0.mp hb with rfl | hb
   ·exact hel
   ·have e3:b=it:=by simpa using hb
    rw[e3];exact hil
  have hn:∀ b∈[e,it],upd H s.heap.objs.size (.tup [.int (i:Int),x]) b=none:=fun b hb=>by
   rw[aq (Ly (hfb b hb))]
   exact(hf b hb).1
  have I2:Inv X pins σ (upd H s.heap.objs.size (.tup [.int (i:Int),x])) { s with heap:=h2,toks:=s.toks+1 }:=Inv.turnedL (s:={ s with heap:=s.heap.push { cls:=.type "tuple",data:=.seq #[.int (i:Int) s.toks,u] },toks:=s.toks+1 }) (h':=h2) I0 (t':=s.toks+1) (fp:=[e,it]) (fun b o hb q=>by
   have nb:b≠e:=fun z=>hb (by simp[z])
   have nb2:b≠it:=fun z=>hb (by simp[z])
   refine(hs2'.2 b nb).trans ?_
   rcases Heap.get?_push_cases q with⟨z1,z2⟩ | q
   ·rw[z1,z2];exact hT
   ·exact hk b o nb nb2 q) fun b hb=>⟨hn b hb,(hf b hb).2⟩
  refine⟨.ref s.heap.objs.size,_,I2,rfl,⟨s.heap.objs.size,x,hfr,rfl,rfl,fun ys hy=>by rw[I.list_inj hy hq];exact hx⟩,?_,hn⟩
  refine⟨⟨u,?_⟩,hit'.at fun o q=>(hs2'.2 it (Ne.symm hei)).trans q⟩
  have e4:(((i+1:Nat):Nat):Int)=(i:Int)+1:=by omega
  rw[e4]
  exact he2
 done:=by
  intro X hP hw hK hc i pins s σ H E I hf st hg
  subst hP hw hK
  obtain⟨xs,hq,hx⟩:=hg
  obtain⟨its,rv,p,hz⟩:=I.list hq
  obtain⟨⟨old,he⟩,hit⟩:=st
  have hl:=rv.length
  obtain⟨f0,f1,f2,f3,f4,f5⟩:=hf it (by simp)
  exact wpAny_pyNext_enum_end (I.ok.hd hc) he hit p.isList (by simp;omega) fun h' eb=>⟨rfl,I.turned (t':=s.toks) (fun b o hb e=>eb b o hb e) f0 f1 f3 f4 f5⟩
 self:=fun _ _ _ _ _ st h=>by
  obtain⟨⟨old,he⟩,_⟩:=st
  exact wpAny_pyIter_enum he h
section
variable{X:Cx}
def iEnum(K:KW)(ta:TA):TI:=fun σ H R=>ta σ H fun vs H1=>∃ a,vs = [.ref a]/\(∃ xs,SqL K H1 a xs)/\R (Ite K a) H1
theorem zu{l:Expr}{ta:TA}{es:List Expr}{k:Nat}{tp p pos:Pos} (hg:Gl X "enumerate") (hm:X.mg "enumerate" = none) (ha:PA X [l] ta) (hs:starEach [l] X.env = [(false,eval l X.env)]:=by rfl) :
  PI X (.Tuple es k tp) (.Call (.Name "enumerate" p) [l] [] pos) (iEnum X.K ta):=by
 intro pins s σ H R I h
 refine Call_ (rN I hg hm ya (PyProof.Rows.callWith_type1 (thn (ha pos pins s σ H _ I h) fun us s1 ⟨vs,H1,I1,r1,q1⟩=>?_) hs rfl))
 obtain⟨a,e,⟨xs,hq⟩,q⟩:=q1
 subst e
 obtain⟨u,rfl,ru⟩:=nA r1
 cases ru
 obtain⟨its,rv,p,hz⟩:=I1.list hq
 refine call_enumerate_list p.isList fun h' he hit hsz hk=>?_
 refine wpAny_pyIter_enum he ?_
 refine⟨s1.heap.objs.size+1,[s1.heap.objs.size+1,s1.heap.objs.size],_,_,H1,rfl,I1.kept (t':=s1.toks) hk,Em a _ _ (Nat.succ_ne_self _),⟨⟨_,he⟩,hit⟩,fun b hb=>?_,q⟩
 have hb':s1.heap.objs.size<=b:=by
  rcases K0.mp hb with rfl | hb
  ·exact MO _
  ·have e3:b=s1.heap.objs.size:=by simpa using hb
   rw[e3];exact K3 _
 exact I1.fpOk hb' (I1.hok.fresh hb')
end
theorem BX{K:KW}{a:Addr}{xs:List V}{g:TG}{tb:TS}{D:Ends}{σ:St}{H:Hp}(Pv:Nat->St->Hp->Prop)(h0:Pv 0 σ H)(hl:∀ i σ H,i<=xs.length->Pv i σ H->SqL K H a xs)
  (hs:∀ i x σ H T,xs[i]?=some x->Pv i σ H->H T=none->g (.ref T) σ (upd H T (.tup [.int (i:Int),x])) fun σ2 H2=>tb { D with nx:=Pv (i+1),ct:=Pv (i+1),bk:=D.nx } σ2 H2) (hd:∀ σ H,Pv xs.length σ H->D.nx σ H) :
  ∃ W:Nat->Nat->St->Hp->Prop,(∃ m,W 0 m σ H)/\∀ i m σ H,W i m σ H ->
   ((Ite K a).stop i H/\D.nx σ H)∨((Ite K a).go i H/\∃ N:St->Hp->Prop,(∀ σ' H',N σ' H'->∃ m',m'<m/\W (i+1) m' σ' H')/\∀ x H',(Ite K a).yld i H x H'->g x σ H' fun σ2 H2=>tb { D with nx:=N,ct:=N,bk:=D.nx } σ2 H2):=by
 refine⟨fun i m σ H=>m=xs.length-i/\i<=xs.length/\Pv i σ H,⟨xs.length,by simp,L8 _,h0⟩,?_⟩
 rintro i m σ H ⟨rfl,hi,p⟩
 have q:=hl i σ H hi p
 by_cases hlt:i<xs.length
 ·refine .inr ⟨⟨xs,xs[i],q,by simp[hlt]⟩,Pv (i+1),fun σ' H' p'=>⟨xs.length-(i+1),by omega,rfl,hlt,p'⟩,fun v H' y=>?_⟩
  obtain⟨T,x,hT,rfl,rfl,y⟩:=y
  exact hs i x σ _ T (y xs q) p hT
 ·have e:i=xs.length:=by omega
  subst e
  exact .inl ⟨⟨xs,q,K3 _⟩,hd σ H p⟩
end L2
namespace L2
open PySem PySem.Spec PyProof.Rows
section
variable{X:Cx}
end
theorem jX{n j:Nat}(h:j<n):ixN n (j:Int)=some j:=by
 unfold ixN
 rw[if_pos (by omega),if_pos (by omega)]
 rfl
end L2
namespace L2
open PySem PySem.Spec PyProof.Rows
theorem iC:∀{ds:List PyData},(∀ d∈ds,d.canLay0=true)->PyData.canLayAll0 ds=true
 |[],_=>by simp[PyData.canLayAll0]
 |d::ds,h=>by
  rw[PyData.canLayAll0,h d (by simp),iC fun x hx=>h x (by simp[hx])]
  rfl
theorem j3{n:Nat}:∀{ds:List PyData},(∀ d∈ds,d.depth<=n)->PyData.depthAll ds<=n
 |[],_=>by simp[PyData.depthAll]
 |d::ds,h=>by
  have h1:=h d (by simp)
  have h2:=j3 (ds:=ds) fun x hx=>h x (K6 _ hx)
  rw[PyData.depthAll]
  omega
theorem oE{ds:List PyData}(h:∀ d∈ds,d.canLay0=true/\d.depth<=10):SeqAt.shaped (.list ds)=true:=by
 have h1:=iC fun d hd=>(h d hd).1
 have h2:=j3 fun d hd=>(h d hd).2
 have h3:PyData.depth (.list ds)<=64:=by simp only[PyData.depth];omega
 show(PyData.canLay0 (.list ds)&&decide (PyData.depth (.list ds)<=64))=true
 rw[MC]
 exact⟨by simp only[PyData.canLay0];exact h1,decide_eq_true h3⟩
end L2
namespace L2
open PySem PySem.Spec PyProof.Rows
def cxG(X:Cx)(scope:Scope)(fr:List (Str×Nat))(xs:List Str)(C:Addr)(ex:List Addr)(s:Shared)(H:Hp):Cx where
 prog:=X.prog
 w:=X.w
 K:=X.K
 mg:=X.mg
 base:=X.base
 A:=X.A
 N:=xs++fr.map (·.1)
 s₀:=s
 H₀:=H
 env:=compEnvC scope (clOf X.env fr) C X.env
 outer:=X.stack
 stack:=X.stack
 ex:=ex
 fn:=fun _=>false
 calm:=X.calm
 pn:=[]
 xe:=fun _ _=>False
structure vh(X:Cx)(scope:Scope)(fr:List (Str×Nat))(xs:List Str):Prop where
 clos:closureFor scope X.env=pure (clOf X.env fr)
 cell:∀ y∈scope.names,y.2≠.cell
 kind:scope.kind=.function
 names:∀ y∈scope.names,y.2=.local->scope.names.lookup y.1=some .local
 slot:∀ p∈fr,X.N[p.2]?=some p.1/\X.env.kindOf p.1=some .cell
 has:∀ y∈(relabel scope X.env).names,(y.2=.cell∨y.2=.free)->y.1∈fr.map (·.1)
 frk:∀ p∈fr,(relabel scope X.env).names.lookup p.1=some .cell
theorem vh.of{X:Cx}{scope:Scope}{fr:List (Str×Nat)}{xs:List Str}(clos:closureFor scope X.env=pure (clOf X.env fr))(cell:∀ y∈scope.names,y.2≠.cell)(kind:scope.kind=.function)(names:∀ y∈scope.names,y.2=.local->scope.names.lookup y.1=some .local)
  (slot:∀ p∈fr,X.N[p.2]?=some p.1/\X.env.kindOf p.1=some .cell) (nf:∀ z∈scope.names,z.2=.free->z.1∈fr.map (·.1)) (frk:∀ p∈fr,(relabel scope X.env).names.lookup p.1=some .cell):vh X scope fr xs where
 clos:=clos
 cell:=cell
 kind:=kind
 names:=names
 slot:=slot
 has:=fun z hz hk=>by
  obtain⟨⟨n,k⟩,hm,e⟩:=Lq.mp (show z∈scope.names.map _ from hz)
  have h2:=cell _ hm
  dsimp only at e h2
  have hn:z.1=n:=by rw[← e];split<;>rfl
  have hf:k=.free:=by
   by_cases q:k=.free
   ·exact q
   ·have hb:(k == NameKind.free)=false:=by simpa using q
    rw[hb]at e
    simp only[Nq,NA,if_false]at e
    subst e
    exact(hk.elim h2 q).elim
  have:=nf _ hm hf
  rw[hn]
  exact this
 frk:=frk
abbrev nons(xs:List Str):St:=Mu xs.length none
section
variable{X:Cx}{pins:List (Addr×Obj)}{σ:St}{H:Hp}{s:Shared}{scope:Scope}{fr:List (Str×Nat)}{xs:List Str}
theorem vh.cells(O:vh X scope fr xs)(I:Inv X pins σ H s){y:Str}{c:Addr}(h:(clOf X.env fr).lookup y=some c):X.env.cells.lookup y=some c:=by
 obtain⟨hm,e⟩:=eK h
 obtain⟨p,hp,ep⟩:=Lq.mp hm
 have k:=(O.slot p hp).2
 rw[ep]at k
 obtain⟨c',e'⟩:=I.ok.has y (.inl k)
 rw[e']at e
 rw[e',e]
 rfl
theorem FX{fp:List Addr}(O:vh X scope fr xs)(I:Inv X pins σ H s)(hf:∀ b∈fp,FpOk X pins H b)(hfs:∀ b∈fp,b<s.heap.objs.size){g h':Heap}{tk:Nat}(hg:g=s.heap.push (LCg.lst []))
  (hk:∀ b o,g.get? b=some o->h'.get? b=some o) (hC:h'.Ns g.objs.size fun _=>none) :
  Inv (cxG X scope fr xs g.objs.size (s.heap.objs.size::fp) { s with heap:=g } H) (X.pn++pins++[(s.heap.objs.size,LCg.lst [])]) (nons xs++frOf fr σ) H { s with heap:=h',toks:=tk }:=by
 have hsz:g.objs.size=s.heap.objs.size+1:=by rw[hg,Heap.size_push]
 have kp:∀ b o,s.heap.get? b=some o->g.get? b=some o:=fun b o e=>by rw[hg];exact Heap.get?_push_of_some _ e
 have hk0:∀ b o,s.heap.get? b=some o->h'.get? b=some o:=fun b o e=>hk b o (kp b o e)
 have hDo:h'.get? s.heap.objs.size=some (LCg.lst []):=hk _ _ (by rw[hg];exact Heap.get?_push_size _ rfl)
 have neC:∀ b,b<s.heap.objs.size->b≠g.objs.size:=fun b e=>by rw[hsz];exact Ly (M7 e)
 have hDC:s.heap.objs.size≠g.objs.size:=by rw[hsz];exact Ly (MB _)
 have hfr:H g.objs.size=none:=I.hok.fresh (by rw[hsz];exact MO _)
 have hfD:H s.heap.objs.size=none:=I.hok.fresh (K3 _)
 have cne:∀ y c,X.env.cells.lookup y=some c->c<s.heap.objs.size:=fun y c e=>by
  obtain⟨v,q⟩:=I.cell y c e
  exact q.lt
 have nst:∀ b,b≠X.env.locals->b∉X.fs->b∉frs X.stack:=fun b h1 h2 z=>(K0.mp (I.stkSub b z)).elim h1 h2
 have nstD:s.heap.objs.size∉frs X.stack:=nst _ (MR I.lt) (I.nofs (K3 _))
 refine⟨⟨I.ok.mod,O.kind,I.ok.glob,I.ok.blt,K3 _,?_,?_,fun _ _ z _=>(by cases z),I.ok.hd,I.ok.frames,.inl rfl,?_,?_,?_,?_,?_,?_,I.stkFree⟩,rfl,I.bare,Un.kept hk,?_,?_,hfr,?_,?_,I.hok.kept hk0,?_⟩
 ·intro y z c h1 h2
  exact I.ok.inj y z c (O.cells I h1) (O.cells I h2)
 ·intro y hy
  have hm:y∈fr.map (·.1):=by
   rcases hy with hy | hy
   ·exact O.has (y,_) (LX hy) (.inl rfl)
   ·exact O.has (y,_) (LX hy) (.inr rfl)
  exact⟨_,bJ hm⟩
 ·intro b hb
  rcases K0.mp hb with rfl | hb
  ·exact⟨hDC,fun y c e=>Ly (cne y c (O.cells I e))⟩
  ·exact⟨neC b (hfs b hb),fun y c e=>(hf b hb).2.2.2.2.1 y c (O.cells I e)⟩
 ·intro b o e
  exact⟨kp b o (I.bs b o e).1,(I.bs b o e).2⟩
 ·show X.base.objs.size<=g.objs.size
  rw[hsz]
  exact Nat.le_succ_of_le (LH I.ok.bsz I.sz)
 ·intro b o e hb
  rcases K0.mp hb with z | hb
  ·have:=Heap.lt_size (I.bs b o e).1
   rw[z]at this
   exact LQ _ this
  ·rcases(hf b hb).2.2.2.1 with z | z
   ·exact I.ok.noex b o e z
   ·exact absurd (Lx (Heap.lt_size (I.ok.bs b o e).1) z) (LQ _)
 ·intro b hb
  rcases K0.mp hb with z | hb
  ·rw[z];exact nstD
  ·exact nst b (hf b hb).2.1 (hf b hb).2.2.1
 ·exact(I.kept (h':=g) (t':=s.toks) kp).stack
 ·refine⟨_,hC,fun i y v e1 e2 e3=>?_⟩
  have e1a:(xs++fr.map (·.1))[i]?=some y:=e1
  by_cases hi:i<xs.length
  ·rw[KZ (by simpa using hi)]at e2
   rw[Ms,if_pos hi]at e2
   cases e2
  ·have e1':(fr.map (·.1))[i-xs.length]?=some y:=by
    rw[KY (by omega)]at e1a
    exact e1a
   have e2':(frOf fr σ)[i-xs.length]?=some (some v):=by
    rw[KY (by simp;omega)]at e2
    simpa using e2
   generalize i-xs.length=k at e1' e2'
   unfold frOf at e2'
   rw[Lb]at e1' e2'
   cases q:fr[k]? with
   |none=>rw[q]at e1';cases e1'
   |some p =>
    rw[q]at e1' e2'
    have ey:p.1=y:=Lm e1'
    have ev:(σ[p.2]?).join=some v:=Lm e2'
    have hp:p∈fr:=K1 q
    obtain⟨hN,hK⟩:=O.slot p hp
    have hkk:=O.frk p hp
    rw[ey]at hN hK hkk
    have ev':σ[p.2]?=some (some v):=by
     cases q2:σ[p.2]? with
     |none=>rw[q2]at ev;cases ev
     |some w=>rw[q2]at ev;exact congrArg some ev
    obtain⟨m,hn,hl⟩:=I.loc
    obtain⟨u,r,l⟩:=hl p.2 y v hN ev' (.inr (.inl hK))
    refine⟨u,r,?_⟩
    rcases l with⟨k1,_⟩ | ⟨_,c,ec,z⟩
    ·rw[hK]at k1;cases k1
    ·have hm:y∈fr.map (·.1):=by rw[← ey];exact Lq.mpr ⟨p,hp,rfl⟩
     have el:=bJ (env:=X.env) hm
     rw[ec]at el
     exact .inr ⟨.inl hkk,c,el,by obtain⟨o,ho,hd⟩:=z;exact⟨o,hk0 _ _ ho,hd⟩⟩
 ·intro y c e
  obtain⟨v,o,ho,hd⟩:=I.cell y c (O.cells I e)
  exact⟨v,o,hk0 _ _ ho,hd⟩
 ·intro y c e
  exact I.freeC y c (O.cells I e)
 ·intro p hp
  rcases La.mp hp with hp | hp
  ·cases hp
  ·rcases La.mp hp with hp | hp
   ·obtain⟨e,n,ne,nf,d⟩:=I.pin p hp
    exact⟨hk0 _ _ e,n,neC _ (Heap.lt_size e),nst _ ne nf,d⟩
   ·have ep:p=(s.heap.objs.size,LCg.lst []):=by simpa using hp
    subst ep
    exact⟨hDo,hfD,hDC,nstD,fun v z=>by cases z⟩
 ·show(nons xs++frOf fr σ).length=(xs++fr.map (·.1)).length
  unfold frOf
  simp
theorem uv{fp:List Addr}{g:Heap}{s':Shared}{H':Hp}{σ':St}{ys:List V}{us:List Value}(I:Inv X pins σ H s)(hf:∀ b∈fp,FpOk X pins H b)(hg:g=s.heap.push (LCg.lst []))
  (J:Inv (cxG X scope fr xs g.objs.size (s.heap.objs.size::fp) { s with heap:=g } H) (X.pn++pins++[(s.heap.objs.size,LCg.lst us)]) σ' H' s') (hv:Vals ys us) (hl:ys.length<=sizeLine) :
  Inv X pins σ (upd H' s.heap.objs.size (.lst ys)) s'/\H' s.heap.objs.size=none/\FpOk X pins (upd H' s.heap.objs.size (.lst ys)) g.objs.size/\∃ m,s'.heap.Ns g.objs.size m:=by
 have hsz:g.objs.size=s.heap.objs.size+1:=by rw[hg,Heap.size_push]
 have kp:∀ b o,s.heap.get? b=some o->g.get? b=some o:=fun b o e=>by rw[hg];exact Heap.get?_push_of_some _ e
 obtain⟨eD,nD,_,_,_⟩:=J.pin (s.heap.objs.size,LCg.lst us) (by simp)
 have hDC:g.objs.size≠s.heap.objs.size:=by rw[hsz];exact MR (MB _)
 have nD':∀ b u,H' b=some u->b≠s.heap.objs.size:=fun b u e z=>by rw[z]at e;rw[e]at nD;cases nD
 have hx:∀ b o,s.heap.get? b=some o->b∉fp->b∉s.heap.objs.size::fp:=fun b o e hb z=>by
  rcases K0.mp z with z | z
  ·have:=Heap.lt_size e
   rw[z]at this
   exact LQ _ this
  ·exact hb z
 have bU:Un (frs X.stack) (s.heap.objs.size::fp) H H' g s'.heap:=J.base
 have ltD:∀ b o,s.heap.get? b=some o->b≠s.heap.objs.size:=fun b o e=>Ly (Heap.lt_size e)
 have un:Un (frs X.stack) fp H (upd H' s.heap.objs.size (.lst ys)) s.heap s'.heap:=by
  refine⟨fun b o e n hb he=>bU.keep b o (kp b o e) n hb (hx b o e he),fun b o e n hb he=>bU.slot b o (kp b o e) n hb (hx b o e he),fun b o e n he=>?_,fun b o e he=>bU.there b o (kp b o e) (hx b o e he),fun b xs e=>?_,fun b o u e=>?_,fun b ps e=>?_⟩
  ·rw[aq (ltD b o e)];exact bU.free b o (kp b o e) n (hx b o e he)
  ·have q:=bU.tups b xs e
   rw[aq (nD' b _ q)];exact q
  ·have q:=bU.frzs b o u e
   rw[aq (nD' b _ q)];exact q
  ·obtain⟨more,q⟩:=bU.tbls b ps e
   exact⟨more,by rw[aq (nD' b _ q)];exact q⟩
 have hok:HOk X.prog X.w (upd H' s.heap.objs.size (.lst ys)) s'.heap:=fun b u e=>by
  by_cases hb:b=s.heap.objs.size
  ·rw[hb,ae]at e
   cases e
   rw[hb]
   exact⟨hl,us,us.length,hv,eD⟩
  ·rw[aq hb]at e
   exact(J.hok b u e).stay (fun c v _ q=>q) (fun c q=>by rw[aq (nD' c _ q)];exact q) fun c xs q=>by rw[aq (nD' c _ q)];exact q
 have os:s'.os=s.os:=J.os
 refine⟨I.call' os un hok J.bare fun b hb=>⟨(hf b hb).2.2.2.1,(hf b hb).2.1,(hf b hb).2.2.2.2⟩,nD,?_,?_⟩
 ·refine I.fpOk (H':=upd H' s.heap.objs.size (.lst ys)) (b:=g.objs.size) (by rw[hsz];exact MO _) ?_
  rw[aq hDC]
  exact J.free
 ·obtain⟨m,hn,_⟩:=J.loc
  exact⟨m,hn⟩
end
def PTs(X:Cx)(ifs:List Expr)(t:TT):Prop :=
 ∀(pins:List (Addr×Obj))(s:Shared)(σ:St)(H:Hp)(Q:Bool->Hp->Prop),Inv X pins σ H s->t σ H Q ->
  wpAny (model X.prog X.w) X.A (forIn ifs true fun c r=>if r=true then do let ok ← isTrue c X.env (eval c X.env);pure (ForInStep.yield ok) else pure (ForInStep.yield r)) (fun b s'=>∃ H',Inv X pins σ H' s'/\Q b H') X.xe s
def tYes:TT:=fun _ H Q=>Q true H
theorem EM{X:Cx}:PTs X [] tYes:=fun _ _ _ H _ I h=>wpAny_tests_nil ⟨H,I,h⟩
section
variable{prog:Program}{w:World}{A:Around}{s:Shared}
theorem GB{elt target iter:Expr}{ifs:List Expr}{scope:Scope}{pos:Pos}{it acc:Value}{env:Env}{R:Result->Shared->Prop}(I:Nat->Shared->Prop)
  (turn:∀ n s,I n s->wpAny (model prog w) A (pyNext it) (fun r s₁=>match r with
   |none=>R (.ok .next) s₁
   |some v=>wpAny (model prog w) A (letOwnedTupleGo target it v) (fun _ s₀=>wpAny (model prog w) A (assign target env v) (fun _ s₂ =>
     wpAny (model prog w) A (forIn ifs true fun c r=>if r=true then do let ok ← isTrue c env (eval c env);pure (ForInStep.yield ok) else pure (ForInStep.yield r)) (fun ok s₃=>if ok=true then wpAny (model prog w) A (eval elt env) (fun x s₄ =>
      wpAny (model prog w) A (call (.builtin "list.append") [acc,x]) (fun _ s₅=>∃ m,m<n/\I m s₅) (notedBy (model prog w) A env fun e s'=>R (.error e) s') s₄) (notedBy (model prog w) A env fun e s'=>R (.error e) s') s₃
      else ∃ m,m<n/\I m s₃) (notedBy (model prog w) A env fun e s'=>R (.error e) s') s₂)
     (notedBy (model prog w) A env fun e s'=>R (.error e) s') s₀) (notedBy (model prog w) A env fun e s'=>R (.error e) s') s₁) (notedBy (model prog w) A env fun e s'=>R (.error e) s') s)
  (n:Nat) (h:I n s):codeAny (model prog w) A (.compLoop (.ListComp elt [⟨target,iter,ifs,0⟩] scope pos) 0 it acc env) R s:=by
 refine codeAny_loop rfl I (fun n s hI=>?_) n h
 show wpAny _ A ((compTurn (.ListComp elt [⟨target,iter,ifs,0⟩] scope pos) 0 it acc env).onRaise (fun x=>do noteFrame x env;theTreesLotGoes x)) _ _ s
 refine wpAny_noted ?_
 rw[compTurn_list]
 refine wpAny_bind (wpAny_standAt (wpAny_bind (wpAny_mono (turn n s hI) (fun r s₁ h₁=>?_) fun _ _ h'=>h')))
 cases r with
 |none=>exact wpAny_pure h₁
 |some v =>
  refine wpAny_bind (wpAny_mono h₁ (fun _ s₀ h₀'=>?_) fun _ _ h'=>h')
  refine wpAny_bind (wpAny_mono h₀' (fun _ s₂ h₂=>?_) fun _ _ h'=>h')
  refine wpAny_bind (wpAny_mono h₂ (fun okb s₃ h₃=>?_) fun _ _ h'=>h')
  cases okb with
  |false=>exact wpAny_pure ⟨rfl,h₃⟩
  |true=>exact wpAny_bind (wpAny_bind (wpAny_mono h₃ (fun x s₄ h₄=>wpAny_bind (wpAny_mono h₄ (fun _ s₅ h₅=>wpAny_pure (wpAny_pure ⟨rfl,h₅⟩)) fun _ _ h'=>h')) fun _ _ h'=>h'))
end
def BE(g:TG)(tt:TT)(te:TE)(n:Nat)(fv:St)(J:It)(H1:Hp)(QQ:List V->Hp->Prop):Prop :=
 ∃ W:Nat->Nat->List V->Hp->Prop,(∃ m,W 0 m [] H1)/\∀ i m ys H,W i m ys H->ys.length<=sizeLine /\
  ((J.stop i H/\QQ ys H)∨(J.go i H/\∃ N:List V->Hp->Prop,(∀ zs H2,N zs H2->∃ m',m'<m/\W (i+1) m' zs H2) /\
   ∀ x H',J.yld i H x H'->g x (Mu n none++fv) H' fun σ2 H2=>σ2.drop n=fv/\tt σ2 H2 fun b H3=>if b=true then te σ2 H3 (fun y H4=>N (ys++[y]) H4) else N ys H3))
section
variable{X:Cx}{scope:Scope}{fr:List (Str×Nat)}{xs:List Str}{elt iter tg:Expr}{ifs:List Expr}{pos:Pos}{te:TE}{tt:TT}{tgt:TG}{wi:TI}
theorem DQ{pins:List (Addr×Obj)}{σ:St}{H:Hp}{s:Shared}{E:Value->Shared->Prop}{it:Addr}{fp:List Addr}{tn:Nat->Heap->Prop}{J:It}{RR:Value->Addr->Result->Shared->Prop}{QQ:List V->Hp->Prop}(hc:X.calm=true)(O:vh X scope fr xs)
  (hg0:∀ C ex s H,PG (cxG X scope fr xs C ex s H) tg tgt) (ht:∀ C ex s H,PTs (cxG X scope fr xs C ex s H) ifs tt) (he:∀ C ex s H,PE (cxG X scope fr xs C ex s H) elt te) (I:Inv X pins σ H s) (T:Turn X.prog X.w X.K tg J fp it tn) (st:tn 0 s.heap) (hf:∀ b∈fp,FpOk X pins H b) (hq:BE tgt tt te xs.length (frOf fr σ) J H QQ)
  (fin:∀ D C H4 ys s4 m,Inv X pins σ (upd H4 D (.lst ys)) s4->H4 D=none->FpOk X pins (upd H4 D (.lst ys)) C->s4.heap.Ns C m->QQ ys H4->RR (.ref D) C (.ok .next) s4) :
  wpAny (model X.prog X.w) X.A (newList []) (fun acc s₃=>wpAny (model X.prog X.w) X.A (newFunctionEnv scope X.env.globals (clOf X.env fr) [] X.env.qual none .none (some X.env)) (fun cenv s₄ =>
   codeAny (model X.prog X.w) X.A (.compStart (.ListComp elt [⟨tg,iter,ifs,0⟩] scope pos) 0 (.ref it) acc { cenv with scope:=relabel scope X.env }) (RR acc cenv.locals) s₄) E s₃) E s:=by
 obtain⟨W,⟨m0,w0⟩,turn⟩:=hq
 have hfs:∀ b∈fp,b<s.heap.objs.size:=fun b hb=>by
  obtain⟨o,e,_⟩:=T.obj 0 s.heap st b hb
  exact Heap.lt_size e
 refine wpAny_newObj_type (wpAny_newFunctionEnv O.cell (by intro y hy;simp at hy) (fun h₁ hns₁ hsb₁=>?_) O.kind)
 dsimp only at hns₁ hsb₁ ⊢
 generalize hH2:s.heap.push { cls:=.type "list",dict:=none,data:=.seq ([]:List Value).toArray }=g at hns₁ hsb₁ ⊢
 have hg:g=s.heap.push (LCg.lst []):=hH2.symm
 have hsz:g.objs.size=s.heap.objs.size+1:=by rw[hg,Heap.size_push]
 have hk:∀ b o,g.get? b=some o->h₁.get? b=some o:=fun b o e=>hsb₁.extBut b o (Ly (Heap.lt_size e)) (Heap.get?_push_of_some _ e)
 have kp:∀ b o,s.heap.get? b=some o->h₁.get? b=some o:=fun b o e=>hk b o (by rw[hg];exact Heap.get?_push_of_some _ e)
 have J0:=FX (h':=h₁) (tk:=s.toks+([]:List (Str×Value)).length) O I hf hfs hg hk hns₁
 have stat:∀{H':Hp}{us:List Value},(∀ b∈fp,H' b=none)->∀ b∈fp,FpOk (cxG X scope fr xs g.objs.size (s.heap.objs.size::fp) { s with heap:=g } H) (X.pn++pins++[(s.heap.objs.size,LCg.lst us)]) H' b:=fun{H' us} hn b hb=>by
  obtain⟨_,f1,f2,f3,f4,f5⟩:=hf b hb
  refine⟨hn b hb,?_,fun z=>(K0.mp (I.stkSub b z)).elim f1 f2,.inl (K6 _ hb),fun y c e=>f4 y c (O.cells I e),fun p hp=>?_⟩
  ·show b≠g.objs.size
   rw[hsz];exact Ly (M7 (hfs b hb))
  ·rcases La.mp hp with hp | hp
   ·cases hp
   ·rcases La.mp hp with hp | hp
    ·exact f5 p hp
    ·have ep:p=(s.heap.objs.size,LCg.lst us):=by simpa using hp
     rw[ep]
     exact MR (hfs b hb)
 have loop:codeAny (model X.prog X.w) X.A (.compLoop (.ListComp elt [⟨tg,iter,ifs,0⟩] scope pos) 0 (.ref it) (.ref s.heap.objs.size) (compEnvC scope (clOf X.env fr) g.objs.size X.env))
   (RR (.ref s.heap.objs.size) g.objs.size) { s with heap:=h₁,toks:=s.toks+([]:List (Str×Value)).length }:=by
  refine GB (fun n s'=>∃ i ys us H',Inv (cxG X scope fr xs g.objs.size (s.heap.objs.size::fp) { s with heap:=g } H) (X.pn++pins++[(s.heap.objs.size,LCg.lst us)]) (nons xs++frOf fr σ) H' s'/\Vals ys us/\tn i s'.heap/\(∀ b∈fp,H' b=none)/\W i n ys H') ?_ m0
   ⟨0,[],[],H,J0,.nil,T.keep 0 s.heap h₁ st fun b _ o e=>kp b o e,fun b hb=>(hf b hb).1,w0⟩
  rintro n s3 ⟨i,ys,us,H3,J3,hv,st3,fr3,w3⟩
  obtain⟨hlen,hh⟩:=turn i n ys H3 w3
  have none_err:∀{α:Type}{t:Sem α}{Q:α->Shared->Prop}{E':Value->Shared->Prop}{s:Shared},wpAny (model X.prog X.w) X.A t Q (fun _ _=>False) s->wpAny (model X.prog X.w) X.A t Q E' s:=fun h=>wpAny_mono h (fun _ _ q=>q) fun _ _ z=>z.elim
  have weakN:∀{σ6:St},σ6.length=(nons xs++frOf fr σ).length->σ6.drop xs.length=frOf fr σ->∀(i:Nat) v,(nons xs++frOf fr σ)[i]?=some (some v)->σ6[i]?=some (some v):=fun{σ6} hl6 e6 i v e=>by
   by_cases hi:i<xs.length
   ·rw[KZ (by simpa using hi),Ms,if_pos hi]at e
    cases e
   ·rw[KY (by simp;omega),← e6,MX]at e
    have:xs.length+(i-(nons xs).length)=i:=by simp;omega
    rw[this]at e
    exact e
  rcases hh with⟨stop,qn⟩ | ⟨go,N,hN,step⟩
  ·refine none_err (thn (T.done (cxG X scope fr xs g.objs.size (s.heap.objs.size::fp) { s with heap:=g } H) rfl rfl rfl hc i _ s3 _ H3 _ J3 (stat fr3) st3 stop) fun r s4 ⟨hr,J4⟩=>?_)
   subst hr
   obtain⟨I4,nD,fC,m,hn⟩:=uv I hf hg J4 hv hlen
   exact fin _ _ H3 ys s4 m I4 nD fC hn qn
  ·refine none_err (thn (T.item (cxG X scope fr xs g.objs.size (s.heap.objs.size::fp) { s with heap:=g } H) rfl rfl rfl hc i _ s3 _ H3 _ J3 (stat fr3) st3 go) fun r s4 ⟨u,hr,h4⟩=>?_)
   subst hr
   refine none_err (thn h4 fun _ s5 ⟨v,H5,J5,r5,y5,st5,fr5⟩=>?_)
   have J5':=J5.pinned (stat fr5) (T.obj _ _ st5)
   refine none_err (thn (hg0 _ _ _ _ _ s5 _ H5 v u _ J5' r5 (step v H5 y5)) fun _ s6 ⟨σ6,H6,J6,e6,q6⟩=>?_)
   refine none_err (thn (ht _ _ _ _ _ s6 σ6 H6 _ J6 q6) fun b s6' ⟨H6',J6',q6'⟩=>?_)
   have hl6:σ6.length=(nons xs++frOf fr σ).length:=J6.len.trans J3.len.symm
   cases b with
   |false =>
    rw[if_neg Lo]at q6' ⊢
    obtain⟨m',hm,w7⟩:=hN ys H6' q6'
    have pinF:∀ b∈fp,∀ o,s5.heap.get? b=some o->s6'.heap.get? b=some o/\H6' b=none:=fun b hb o e=>by
     obtain⟨q1,q2,_⟩:=J6'.pin (b,o) (Lj _ (Lj _ (fB hb e)))
     exact⟨q1,q2⟩
    refine⟨m',hm,i+1,ys,us,H6',J6'.unpinned.weak (σ':=nons xs++frOf fr σ) hl6.symm (weakN hl6 e6),hv,T.keep _ _ _ st5 fun b hb o e=>(pinF b hb o e).1,fun b hb=>?_,w7⟩
    obtain⟨o,e,_⟩:=T.obj _ _ st5 b hb
    exact(pinF b hb o e).2
   |true =>
    rw[if_pos rfl]at q6' ⊢
    refine none_err (thn (he _ _ _ _ _ s6' _ H6' _ J6' q6') fun u7 s7 ⟨v7,H7,J7,r7,q7⟩=>?_)
    obtain⟨m',hm,w7⟩:=hN _ H7 q7
    obtain⟨eD,nD,dC,dF,dd⟩:=J7.pin (s.heap.objs.size,LCg.lst us) (Lj _ (LC _ (Lj _ (by simp))))
    have hvl:=hv.length
    refine append_at (hsz:=by show us.toArray.size<=sizeLine;rw[Lk,← hvl];exact hlen) eD fun h8 hs8 hD8=>?_
    have pinD:∀ p∈X.pn++pins,p.1≠s.heap.objs.size:=fun p hp z=>by
     have:=Heap.lt_size (I.pin p hp).1
     rw[z]at this
     exact LQ _ this
    have J7a:Inv (cxG X scope fr xs g.objs.size (s.heap.objs.size::fp) { s with heap:=g } H) (X.pn++pins) _ H7 s7:=J7.pins_of fun p hp=>J7.pin p (Lj _ (LC _ (LC _ hp)))
    have J8:Inv (cxG X scope fr xs g.objs.size (s.heap.objs.size::fp) { s with heap:=g } H) (X.pn++pins) _ H7 { s7 with heap:=h8 }:=J7a.turned (t':=s7.toks) (fun b o hb e=>(hs8.2 b hb).trans e) nD dC (.inl Lg) (fun y c e z=>by
     obtain⟨w',q⟩:=I.cell y c (O.cells I e)
     have:=q.lt
     rw[z]at this
     exact LQ _ this) (fun p hp=>(La.mp hp).elim (fun z=>by cases z) (pinD p))
    have J9:Inv (cxG X scope fr xs g.objs.size (s.heap.objs.size::fp) { s with heap:=g } H) (X.pn++pins++[(s.heap.objs.size,LCg.lst (us++[u7]))]) _ H7 { s7 with heap:=h8 }:=J8.pins_of fun p hp=>by
     rcases La.mp hp with hp | hp
     ·exact J8.pin p (Lj _ hp)
     ·have ep:p=(s.heap.objs.size,LCg.lst (us++[u7])):=by simpa using hp
      subst ep
      exact⟨hD8.trans (congrArg some (LCg.lst_snoc us u7)),nD,dC,dF,fun v z=>by cases z⟩
    have J10:=J9.weak (σ':=nons xs++frOf fr σ) hl6.symm (weakN hl6 e6)
    have pinF:∀ b∈fp,∀ o,s5.heap.get? b=some o->s7.heap.get? b=some o/\H7 b=none:=fun b hb o e=>by
     obtain⟨q1,q2,_⟩:=J7.pin (b,o) (Lj _ (Lj _ (fB hb e)))
     exact⟨q1,q2⟩
    refine⟨m',hm,i+1,ys++[v7],us++[u7],H7,J10,hv.append (.cons r7 .nil),T.keep _ _ _ st5 fun b hb o e=>(hs8.2 b (Ly (hfs b hb))).trans (pinF b hb o e).1,fun b hb=>?_,w7⟩
    obtain⟨o,e,_⟩:=T.obj _ _ st5 b hb
    exact(pinF b hb o e).2
 exact codeAny_compStart_list loop (T.self X.A 0 _ _ _ (T.keep 0 s.heap h₁ st fun b _ o e=>kp b o e) loop)
def tCompE(wi:TI)(g:TG)(tt:TT)(te:TE)(n:Nat)(fr:List (Str×Nat)):TE:=fun σ H Q=>wi σ H fun J H1=>BE g tt te n (frOf fr σ) J H1 fun ys H2=>∀ D,H2 D=none->Q (.ref D) (upd H2 D (.lst ys))
theorem BJ(hc:X.calm=true)(O:vh X scope fr xs)(hi:PI X tg iter wi)(hg0:∀ C ex s H,PG (cxG X scope fr xs C ex s H) tg tgt)(ht:∀ C ex s H,PTs (cxG X scope fr xs C ex s H) ifs tt)(he:∀ C ex s H,PE (cxG X scope fr xs C ex s H) elt te)(hs:∀ x,foldedSetIterable iter X.env x=pure x:=by intro _;rfl) :
  PE X (.ListComp elt [⟨tg,iter,ifs,0⟩] scope pos) (tCompE wi tgt tt te xs.length fr):=by
 intro pins s σ H Q I h
 rw[eval_ListComp]
 refine wpAny_comprehension_free (use:=none) rfl hs O.clos O.kind O.names (thn (hi pins s σ H _ I h) fun xv s1 h1=>thn h1 fun itv s2 h2=>?_)
 obtain⟨it,fp,tn,J,H2,e,I2,T,st2,f2,q2⟩:=h2
 subst e
 refine DQ (RR:=fun acc C=>compPost (model X.prog X.w) X.A X.xe none (EP X pins σ Q) acc C) hc O hg0 ht he I2 T st2 f2 q2 ?_
 intro D C H4 ys s4 m I4 nD fC hn q4
 refine⟨m,hn,fun h' hs'=>?_⟩
 obtain⟨g0,g1,g2,g3,g4,g5⟩:=fC
 exact⟨.ref D,_,I4.turned (t':=s4.toks) (fun b o hb e=>(hs'.2 b hb).trans e) g0 g1 g3 g4 g5,rfl,q4 D nD⟩
end
theorem DR{K:KW}{a:Addr}{xs:List V}{g:TG}{tt:TT}{te:TE}{n:Nat}{fv:St}{H1:Hp}{QQ:List V->Hp->Prop}(Pv:Nat->List V->Hp->Prop)(hz:xs.length<=sizeLine)(h0:Pv 0 [] H1)(hl:∀ i ys H,i<=xs.length->Pv i ys H->SqL K H a xs)
  (hs:∀ i x ys H,xs[i]?=some x->Pv i ys H->g x (Mu n none++fv) H fun σ2 H2=>σ2.drop n=fv/\tt σ2 H2 fun b H3=>if b=true then te σ2 H3 (fun y H4=>Pv (i+1) (ys++[y]) H4) else Pv (i+1) ys H3) (hd:∀ ys H,Pv xs.length ys H->QQ ys H) (hy:∀ i ys H,Pv i ys H->ys.length<=i)
  : BE g tt te n fv (Itl K a) H1 QQ:=by
 refine⟨fun i m ys H=>m=xs.length-i/\i<=xs.length/\Pv i ys H,⟨xs.length,by simp,L8 _,h0⟩,?_⟩
 rintro i m ys H ⟨rfl,hi,p⟩
 have q:=hl i ys H hi p
 have hyl:=hy i ys H p
 refine⟨by omega,?_⟩
 by_cases hlt:i<xs.length
 ·refine .inr ⟨⟨xs,xs[i],q,by simp[hlt]⟩,fun zs H2=>Pv (i+1) zs H2,fun zs H2 p2=>⟨xs.length-(i+1),by omega,rfl,hlt,p2⟩,fun x H' y=>?_⟩
  obtain⟨e,y⟩:=y
  subst e
  exact hs i x ys _ (y xs q) p
 ·have e:i=xs.length:=by omega
  subst e
  exact .inl ⟨⟨xs,q,K3 _⟩,hd ys H p⟩
theorem DS{K:KW}{a:Addr}{xs:List V}{g:TG}{tt:TT}{te:TE}{n:Nat}{fv:St}{H1:Hp}{QQ:List V->Hp->Prop}(Pv:Nat->List V->Hp->Prop)(hz:xs.length<=sizeLine)(h0:Pv 0 [] H1)(hl:∀ i ys H,i<=xs.length->Pv i ys H->SqL K H a xs)
  (hs:∀ i x ys H T,xs[i]?=some x->Pv i ys H->H T=none->g (.ref T) (Mu n none++fv) (upd H T (.tup [.int (i:Int),x])) fun σ2 H2=>σ2.drop n=fv/\tt σ2 H2 fun b H3=>if b=true then te σ2 H3 (fun y H4=>Pv (i+1) (ys++[y]) H4) else Pv (i+1) ys H3) (hd:∀ ys H,Pv xs.length ys H->QQ ys H) (hy:∀ i ys H,Pv i ys H->ys.length<=i)
  : BE g tt te n fv (Ite K a) H1 QQ:=by
 refine⟨fun i m ys H=>m=xs.length-i/\i<=xs.length/\Pv i ys H,⟨xs.length,by simp,L8 _,h0⟩,?_⟩
 rintro i m ys H ⟨rfl,hi,p⟩
 have q:=hl i ys H hi p
 have hyl:=hy i ys H p
 refine⟨by omega,?_⟩
 by_cases hlt:i<xs.length
 ·refine .inr ⟨⟨xs,xs[i],q,by simp[hlt]⟩,fun zs H2=>Pv (i+1) zs H2,fun zs H2 p2=>⟨xs.length-(i+1),by omega,rfl,hlt,p2⟩,fun v H' y=>?_⟩
  obtain⟨T,x,hT,rfl,rfl,y⟩:=y
  exact hs i x ys _ T (y xs q) p hT
 ·have e:i=xs.length:=by omega
  subst e
  exact .inl ⟨⟨xs,q,K3 _⟩,hd ys H p⟩
end L2
namespace L2
open PySem PySem.Spec PyProof.Rows
section
variable{X:Cx}{K:KW}{pos:Pos}
theorem BW(h:X.K=K):IxR X (rIxL K):=h▸ay
theorem EW{es:List Expr}{k:Nat}{t:TGs}{n:Nat}(hK:X.K=K)(hc:X.calm=true)(h:PGs X es t)(hn:(assignEach es X.env).length=n:=by rfl)(hst:(assignEach es X.env).findIdx? (·.1)=none:=by rfl):PG X (.Tuple es k pos) (gTup K n t):=hK▸BH hc h hn hst
theorem DT(h:X.K=K):kC X (.type "list") (fun xs H Q=>∃ p ys,xs = [.ref p]/\(SqL K H p ys∨SqT K H p ys)/\∀ l,H l=none->Q (.ref l) (upd H l (.lst ys))):=h▸bK
theorem EX{e:Expr}{f:Str}{ta:TE}(h:X.K=K)(he:PE X e ta)(hb:attributeBase e f X.env (eval e X.env)=eval e X.env):PE X (.Attribute e f pos) (tFld K ta f):=h▸aZ he hb
end
end L2
namespace L2
open PySem PySem.Spec PyProof.Rows
section
variable{X:Cx}
def Jx:V->List V->Hp->VK->Prop:=fun x vs H Q=>∃ l xs k y,x=.ref l/\vs = [.int k,y]/\H l=some (.lst xs)/\0<=k/\k<=xs.length/\xs.length<sizeLine/\Q .non (upd H l (.lst (xs.take k.toNat++y::xs.drop k.toNat)))
theorem oW:MtM X "list.insert" Jx:=by
 intro pins s σ H x vs v us Q I rx rv h
 obtain⟨l,xs,k,y,rfl,rfl,hH,h0,hk,hz,q⟩:=h
 cases rx
 obtain⟨u1,u2,rfl,r1,r2⟩:=rv.two
 obtain⟨t,rfl⟩:=r1
 obtain⟨z,its,n,r,hl,e⟩:=I.lstM hH
 have hn:=oZ
 have hfit:¬ (!Builtin.List.listFitsIndex k)=true:=by
  rw[fitsIndex_both (by omega) (by omega)]
  exact Lo
 refine call_meets F.slot_list_insert ⟨_,e,rfl⟩ F.entry_list_insert (F.args_list_insert_3 _ _ _) (AutoListH.list_insert_list_int_val_1 l its.toArray n k t u2 hfit (by rw[Lk];omega)) ⟨e,?_⟩
 refine⟨.non,_,I.lset (its':=its.take k.toNat++u2::its.drop k.toNat) hH e ?_ ((r.take _).append (.cons r2 (r.drop _))) ?_,rfl,q⟩
 ·dsimp only
  rw[if_neg (by omega),Lk,MJ (by omega)]
  simp
  exact Mx (by rw[Mi];omega)
 ·rw[KU,Lw,LS,Mi]
  omega
theorem uw:∀{ns:List Int}{us:List Value},Vals (ns.map V.int) us->IntsAre us ns
 |[],_,.nil=>.nil
 |n::ns,_,.cons r rr=>by
  obtain⟨t,rfl⟩:=r
  exact .cons n t (uw rr)
end
end L2
namespace L2
open PySem PySem.Spec PyProof.Rows
theorem og:∀{ps:List Nat},(∀ p∈ps,p<1000)->PyData.weightAll ((ps.map fun(p:Nat)=>((p:Nat):Int)).map PyData.int)<=12*ps.length
 |[],_=>by simp[PyData.weightAll]
 |p::ps,h=>by
  have ih:=og (ps:=ps) fun x hx=>h x (K6 _ hx)
  have hp:=h p (by simp)
  have hw:PyData.weight (.int (p:Int))<=11:=by
   rw[PyData.weight]
   split
   ·exact L8 _
   ·rename_i z
    have z':p≠0:=fun e=>z (by rw[e];rfl)
    have e:((p:Int)).natAbs=p:=rfl
    rw[e]
    have:=(Nat.log2_lt z').mpr (show p<2^10 by omega)
    omega
  rw[Lr,Lr,PyData.weightAll,Lw]
  omega
theorem HV{ps:List Nat}(h:∀ p∈ps,p<1000)(hl:ps.length<=1000):PyData.layable0 (.list ((ps.map fun(p:Nat)=>((p:Nat):Int)).map PyData.int))=true:=by
 have h1:=PySem.W.shaped_ints (ps.map fun(p:Nat)=>((p:Nat):Int))
 have h2:=og h
 have h3:PyData.weight (.list ((ps.map fun(p:Nat)=>((p:Nat):Int)).map PyData.int))<=2^20:=by
  rw[PyData.weight];omega +splitDisjunctions
 unfold PyData.layable0
 unfold SeqAt.shaped at h1
 rw[h1,decide_eq_true h3]
 rfl
section
variable{X:Cx}
def rIndex(K:KW):V->List V->Hp->VK->Prop:=fun x vs H Q=>∃(l:Addr)(ps:List Nat)(k:Nat),x=.ref l/\vs = [.int (k:Int)]/\SqL K H l (ps.map fun(p:Nat)=>V.int (p:Int))/\(∀ p∈ps,p<1000)/\ps.length<=1000/\k∈ps/\Q (.int ((ps.idxOf k:Nat):Int)) H
theorem Ib{ps:List Nat}{k:Nat}:(ps.map fun(p:Nat)=>((p:Nat):Int)).idxOf (k:Int)=ps.idxOf k:=by
 induction ps with
 |nil=>rfl
 |cons p ps ih =>
  rw[Lr,List.idxOf_cons,List.idxOf_cons,ih]
  have e:(((p:Nat):Int) == (k:Int))=(p == k):=by
   by_cases h:p=k
   ·subst h;simp
   ·have h2:¬ (p:Int)=(k:Int):=fun z=>h (by omega)
    rw[beq_eq_false_iff_ne.mpr h,beq_eq_false_iff_ne.mpr h2]
  rw[e]
theorem nU:MtM X "list.index" (rIndex X.K):=by
 intro pins s σ H x vs v us Q I rx rv h
 obtain⟨l,ps,k,rfl,rfl,hq,hs,hl,hk,q⟩:=h
 cases rx
 obtain⟨u,rfl,ru⟩:=rv.one
 obtain⟨t,rfl⟩:=ru
 have e:(ps.map fun(p:Nat)=>V.int (p:Int))=(ps.map fun(p:Nat)=>((p:Nat):Int)).map V.int:=by rw[LZ];rfl
 rw[e]at hq
 obtain⟨its,r,pl,hz⟩:=I.list hq
 refine index_list_ints pl.isList (uw r) (HV hs hl) (Lq.mpr ⟨k,hk,rfl⟩) ?_
 rw[Ib]
 exact⟨.int _,H,I.tok _,⟨_,rfl⟩,q⟩
theorem op_eqG(hu:X.A.units+64<cLine):OpR X (compareOp .Eq) (fun x y H Q=>∃ d1 d2,RdD X.K H x d1/\RdD X.K H y d2/\SeqAt.shaped d1=true/\SeqAt.shaped d2=true/\Q (.bl (PyData.eqv d1 d2)) H):=by
 intro pins s σ H x y v u Q I rx ry h
 obtain⟨d1,d2,r1,r2,h1,h2,q⟩:=h
 obtain⟨as,q1⟩:=r1.reads I v rx
 obtain⟨bs,q2⟩:=r2.reads I u ry
 exact eq_dataH q1 q2 h1 h2 hu ⟨.bl _,H,I,rfl,q⟩
end
end L2
namespace L2
open PySem PySem.Spec PyProof.Rows
theorem Eh:∀{us:List Value}{ns:List Int},IntsAre us ns->Vals (ns.map V.int) us
 |_,_,.nil=>.nil
 |_,_,.cons _ t r=>.cons ⟨t,rfl⟩ (Eh r)
section
variable{X:Cx}
def EK(K:KW):List V->Hp->VK->Prop:=fun xs H Q=>∃(p:Addr)(ns:List Int),xs = [.ref p]/\SqL K H p (ns.map V.int)/\ns.length<64/\∀(l:Addr)(out:List Int),H l=none->out.Perm ns->out.Pairwise (·<=·)->Q (.ref l) (upd H l (.lst (out.map V.int)))
theorem AX:kC X (.builtin "sorted") (EK X.K):=by
 intro pins s σ H xs us Q I r h
 obtain⟨p,ns,rfl,hq,h64,q⟩:=h
 obtain⟨u,rfl,ru⟩:=nA r
 cases ru
 obtain⟨its,rv,pl,hz⟩:=I.list hq
 have hi:=uw rv
 have hl:=rv.length
 rw[K2]at hl
 refine sorted_ints pl.isList hi (by omega) fun out ns' a1 a2 a3=>?_
 obtain⟨e,he⟩:=sortedAll_at s.heap its out
 refine⟨.ref (s.heap.objs.size+1),_,I.laid (t':=s.toks) (fun _ _=>sortedAll_old) (MO _) (show bV X.prog X.w _ _ _ (.lst (ns'.map V.int)) from⟨?_,out.toList,e,Eh a1,?_⟩),rfl,q _ ns' (I.hok.fresh (MO _)) a2 a3⟩
 ·rw[K2,a2.length_eq]
  exact Md (aH (by omega))
 ·exact he
theorem x9{K:KW}(h:X.K=K):kC X (.builtin "sorted") (EK K):=h▸AX
end
theorem AW{lo c:Int}{n:Nat}{te:TE}{fv:St}{H1:Hp}{QQ:List V->Hp->Prop}(Pv:Nat->List V->Hp->Prop)(hz:n<=sizeLine)(h0:Pv 0 [] H1)
  (hs:∀ i ys H,i<n->Pv i ys H->te (some (.int (lo+i*c))::fv) H fun y H2=>Pv (i+1) (ys++[y]) H2) (hd:∀ ys H,ys.length=n->Pv n ys H->QQ ys H)
  : oi te fv (Itr3 lo c n) H1 QQ:=by
 refine⟨fun i m ys H=>m=n-i/\i<=n/\ys.length=i/\Pv i ys H,⟨n,by simp,L8 _,rfl,h0⟩,?_⟩
 rintro i m ys H ⟨rfl,hi,hy,p⟩
 refine⟨by omega,?_⟩
 by_cases hlt:i<n
 ·refine .inr ⟨hlt,fun y H2=>Pv (i+1) (ys++[y]) H2,fun y H2 p2=>⟨n-(i+1),by omega,rfl,hlt,by rw[KU,hy];rfl,p2⟩,fun x H' y=>?_⟩
  obtain⟨e,y⟩:=y
  subst e y
  exact hs i ys _ hlt p
 ·have e:i=n:=by omega
  subst e
  exact .inl ⟨K3 _,hd ys H hy p⟩
end L2
namespace L2
open PySem PySem.Spec PyProof.Rows
section
variable{X:Cx}{tg:Expr}
def iRngL(ta:TA):TI:=fun σ H R=>ta σ H fun vs H1=>∃(lo m c:Int)(n:Nat),vs = [.int lo,.int m,.int c]/\0<=lo/\lo<1000/\-1000<m/\m<2^61/\(0<c/\c<1000)/\Builtin.Range.rangeSize lo m c=(n:Int)/\R (Itr3 lo c n) H1
theorem Ho{lo m c:Int}(h0:0<=lo)(h00:lo<1000)(h1 : -1000<m)(h2:m<2^61)(h3:0<c/\c<1000):Builtin.Range.small lo m c=true:=by
 obtain⟨h3,h4⟩:=h3
 have hs:0<=Builtin.Range.rangeSize lo m c/\Builtin.Range.rangeSize lo m c<=2^61:=by
  unfold Builtin.Range.rangeSize
  rw[if_pos h3]
  by_cases h:lo<m
  ·rw[if_pos h]
   have q1:0<=(m-lo-1)/c:=Int.ediv_nonneg (by omega) (by omega)
   have q2:(m-lo-1)/c<=(m-lo-1):=Int.ediv_le_self _ (by omega)
   omega
  ·rw[if_neg h];omega
 unfold Builtin.Range.small Builtin.Range.rangeFitsLong
 simp only[gt_iff_lt,h3,if_true]
 simp
 omega
theorem vY{a b c:Expr}{ta:TA}{p pos:Pos} (hg:Gl X "range") (hm:X.mg "range" = none) (ha:PA X [a,b,c] ta) (hs:starEach [a,b,c] X.env=(false,eval a X.env)::starEach [b,c] X.env:=by rfl) (hs2:(backTo pos (starEach [b,c] X.env)).any (·.1)=false:=by rfl) :
  PI X tg (.Call (.Name "range" p) [a,b,c] [] pos) (iRngL ta):=by
 intro pins s σ H R I h
 refine Call_ (rN I hg hm Iq (PyProof.Rows.callWith_type1 (thn (ha pos pins s σ H _ I h) fun us s1 ⟨vs,H1,I1,r1,q1⟩=>?_) hs hs2))
 obtain⟨lo,m,c,n,e,h0,h00,h1,h2,h3,hn,q⟩:=q1
 subst e
 cases r1 with
 |cons r rr =>
  cases rr with
  |cons r' rr =>
   cases rr with
   |cons r'' rr =>
    cases rr
    obtain⟨t,rfl⟩:=r
    obtain⟨t',rfl⟩:=r'
    obtain⟨t'',rfl⟩:=r''
    refine call_range_3 (by have:=h3.1;omega) ?_ (Or.inl (PyProof.noPylong_small (by have:=h3.1;have:=h3.2;omega)))
    refine wpAny_pyIter_range (IsRange.new ..) (Ho h0 h00 h1 h2 h3) ?_
    have I2:Inv X pins σ H1 { s1 with heap:=s1.heap.push { cls:=.type "range",data:=.fields #[.int lo t,.int m t',.int c t''] },toks:=s1.toks }:=I1.kept fun b o e=>Heap.get?_push_of_some _ e
    refine⟨(s1.heap.push { cls:=.type "range",data:=.fields #[.int lo t,.int m t',.int c t''] }).objs.size,[(s1.heap.push { cls:=.type "range",data:=.fields #[.int lo t,.int m t',.int c t''] }).objs.size],_,_,H1,rfl,
     I2.kept (t':=s1.toks) fun b o e=>Heap.get?_push_of_some _ e,yJ _ lo c n,?_,fun b hb=>?_,q⟩
    ·have e1:lo+((0:Nat):Int)*c=lo:=by simp
     have e2:((n:Nat):Int)-((0:Nat):Int)=Builtin.Range.rangeSize lo m c:=by rw[hn];simp
     show IsRangeIter _ _ (lo+((0:Nat):Int)*c) ((n:Int)-((0:Nat):Int)) c
     rw[e1,e2]
     exact Heap.get?_push_size _ rfl
    ·have e:b=(s1.heap.push { cls:=.type "range",data:=.fields #[.int lo t,.int m t',.int c t''] }).objs.size:=by simpa using hb
     subst e
     exact I2.fpOk (K3 _) (I2.hok.fresh (K3 _))
end
end L2
namespace L2
open PySem PySem.Spec PyProof.Rows
theorem bt_min:bootBuiltins "min" = some (.builtin "min"):=by decide +kernel
section
variable{X:Cx}
def rCatS(K:KW):R2:=fun x y H Q=>∃ l b xs zs,x=.ref l/\y=.ref b/\SqL K H l xs/\SqL K H b zs/\xs.length+zs.length<=sizeLine/\∀ p,H p=none->Q (.ref p) (upd H p (.lst (xs++zs)))
theorem Fc:OpR X (binaryOp .Add) (rCatS X.K):=by
 intro pins s σ H x y v u Q I rx ry h
 obtain⟨l,b,xs,zs,rfl,rfl,hH,hB,hz,q⟩:=h
 cases rx
 cases ry
 obtain⟨its,r,pl,_⟩:=I.list hH
 obtain⟨its2,r2,pl2,_⟩:=I.list hB
 obtain⟨⟨cls,dd,data,sl⟩,ho,hc,n,hd⟩:=pl.isList
 obtain⟨⟨cls2,dd2,data2,sl2⟩,ho2,hc2,n2,hd2⟩:=pl2.isList
 simp only at hc hd hc2 hd2
 subst hc hd hc2 hd2
 have ea:its.toArray++its2.toArray=(its++its2).toArray:=by simp
 have e1:=r.length
 have e2:=r2.length
 refine concat_meets ⟨_,ho,rfl⟩ ⟨_,ho2,rfl⟩ noFill_list_add seq_list_add PySem.F.slot_list_add PySem.F.entry_list_add (PySem.F.args_list_add_2 _ _) (list_addW l b its.toArray its2.toArray n n2 dd dd2 sl sl2 (by rw[Lk,Lk];omega)) ⟨ho,ho2,?_⟩
 rw[ea]
 exact⟨.ref _,_,I.lnew (t':=s.toks) (r.append r2) (by rw[KU];omega),rfl,q _ I.fresh⟩
end
end L2
namespace L2
open PySem PySem.Spec PyProof.Rows
theorem yesT{σ:St}{H:Hp}{A B:Hp->Prop}(h:A H):tYes σ H fun b H3=>if b=true then A H3 else B H3 :=
 show(if true=true then A H else B H) from iteT (B:=B H) h
section
variable{X:Cx}
end
section
variable{X:Cx}
end
end L2
namespace L2
open PySem PySem.Spec PyProof.Rows
end L2
namespace L2
open PySem PySem.Spec PyProof.Rows
section
variable{X:Cx}
theorem pG:∀(a b:List Int),PyData.eqvAll (a.map PyData.int) (b.map PyData.int)=decide (a=b)
 |[],[]=>by simp[PyData.eqvAll]
 |[],y::b=>by simp[PyData.eqvAll]
 |x::a,[]=>by simp[PyData.eqvAll]
 |x::a,y::b=>by
  rw[Lr,Lr]
  simp only[PyData.eqvAll,PyData.eqv,pG a b]
  by_cases h:x=y
  ·by_cases h2:a=b
   ·simp[h,h2]
   ·simp[h,h2]
  ·simp[h]
theorem Ih(a b:List Int):PyData.eqv (.list (a.map PyData.int)) (.list (b.map PyData.int))=decide (a=b):=by
 rw[← pG]
 simp only[PyData.eqv]
end
section
variable{X:Cx}{tg:Expr}
end
section
variable{P:Program}{w:World}{K:KW}{mg:Str->Option Value}{base:Heap}
end
end L2
namespace PyProof.Rows
open PySem
local macro_rules | `(tactic| walk_at "gallop") => do
 let n:=Lean.mkIdent (Lean.mkPrivateNameCore `PySem.Builtin.List.W1All `PySem.Builtin.gallop)
 `(tactic| delta $n)
local macro_rules | `(tactic| walk_at "st") => `(tactic| try dsimp -zeta -zetaHave only)
local macro_rules | `(tactic| walk_at "l4") => `(tactic| (extract_lets -underBinder +onlyGivenNames a b; subst a b))
variable{prog:Program}{w:World}{A:Around}{E:Value->Shared->Prop}{s:Shared}
end PyProof.Rows
namespace PyProof.Rows
open PySem
local macro_rules | `(tactic| walk_at "setG") => do
 let n:=Lean.mkIdent (Lean.mkPrivateNameCore `PySem.Builtin.List.W1All `PySem.Builtin.setMinGallop)
 `(tactic| delta $n)
local macro_rules | `(tactic| walk_at "mergeLo") => do
 let n:=Lean.mkIdent (Lean.mkPrivateNameCore `PySem.Builtin.List.W1All `PySem.Builtin.mergeLo)
 `(tactic| delta $n)
local macro_rules | `(tactic| walk_at "st") => `(tactic| try dsimp -zeta -zetaHave only)
local macro_rules | `(tactic| walk_at "l3") => `(tactic| (extract_lets -underBinder +onlyGivenNames a b c; subst a b c))
local macro_rules | `(tactic| walk_at "l11") => `(tactic| (extract_lets -underBinder +onlyGivenNames a b c d e f g h i j k; subst a b c d e f g h i j k; dsimp -zeta -zetaHave only))
variable{prog:Program}{w:World}{A:Around}{E:Value->Shared->Prop}{s:Shared}
end PyProof.Rows
namespace PyProof.Rows
open PySem
local macro_rules | `(tactic| walk_at "mergeHi") => do
 let n:=Lean.mkIdent (Lean.mkPrivateNameCore `PySem.Builtin.List.W1All `PySem.Builtin.mergeHi)
 `(tactic| delta $n)
local macro_rules | `(tactic| walk_at "st") => `(tactic| try dsimp -zeta -zetaHave only)
local macro_rules | `(tactic| walk_at "l3") => `(tactic| (extract_lets -underBinder +onlyGivenNames a b c; subst a b c))
local macro_rules | `(tactic| walk_at "l11") => `(tactic| (extract_lets -underBinder +onlyGivenNames a b c d e f g h i j k; subst a b c d e f g h i j k; dsimp -zeta -zetaHave only))
variable{prog:Program}{w:World}{A:Around}{E:Value->Shared->Prop}{s:Shared}
end PyProof.Rows
namespace PyProof.Rows
open PySem
local macro_rules | `(tactic| walk_at "countRun") => do
 let n:=Lean.mkIdent (Lean.mkPrivateNameCore `PySem.Builtin.List.W1All `PySem.Builtin.countRun)
 `(tactic| delta $n)
local macro_rules | `(tactic| walk_at "binarySort") => do
 let n:=Lean.mkIdent (Lean.mkPrivateNameCore `PySem.Builtin.List.W1All `PySem.Builtin.binarySort)
 `(tactic| delta $n)
local macro_rules | `(tactic| walk_at "st") => `(tactic| try dsimp -zeta -zetaHave only)
local macro_rules | `(tactic| walk_at "l3") => `(tactic| (extract_lets -underBinder +onlyGivenNames a b c; subst a b c))
local macro_rules | `(tactic| walk_at "l11") => `(tactic| (extract_lets -underBinder +onlyGivenNames a b c d e f g h i j k; subst a b c d e f g h i j k; dsimp -zeta -zetaHave only))
local macro_rules | `(tactic| walk_at "l1") => `(tactic| (extract_lets -underBinder +onlyGivenNames a; subst a; try dsimp -zeta -zetaHave only))
local macro_rules | `(tactic| walk_at "l2") => `(tactic| (extract_lets -underBinder +onlyGivenNames a b; subst a b; try dsimp -zeta -zetaHave only))
local macro_rules | `(tactic| walk_at "l4") => `(tactic| (extract_lets -underBinder +onlyGivenNames a b c d; subst a b c d; try dsimp -zeta -zetaHave only))
variable{prog:Program}{w:World}{A:Around}{E:Value->Shared->Prop}{s:Shared}
end PyProof.Rows
namespace PyProof.Rows
open PySem
local macro_rules | `(tactic| walk_at "mergeAt") => do
 let n:=Lean.mkIdent (Lean.mkPrivateNameCore `PySem.Builtin.List.W1All `PySem.Builtin.mergeAt)
 `(tactic| delta $n)
local macro_rules | `(tactic| walk_at "st") => `(tactic| try dsimp -zeta -zetaHave only)
local macro_rules | `(tactic| walk_at "l3") => `(tactic| (extract_lets -underBinder +onlyGivenNames a b c; subst a b c))
local macro_rules | `(tactic| walk_at "l11") => `(tactic| (extract_lets -underBinder +onlyGivenNames a b c d e f g h i j k; subst a b c d e f g h i j k; dsimp -zeta -zetaHave only))
local macro_rules | `(tactic| walk_at "l1") => `(tactic| (extract_lets -underBinder +onlyGivenNames a; subst a; try dsimp -zeta -zetaHave only))
local macro_rules | `(tactic| walk_at "l2") => `(tactic| (extract_lets -underBinder +onlyGivenNames a b; subst a b; try dsimp -zeta -zetaHave only))
local macro_rules | `(tactic| walk_at "l4") => `(tactic| (extract_lets -underBinder +onlyGivenNames a b c d; subst a b c d; try dsimp -zeta -zetaHave only))
variable{prog:Program}{w:World}{A:Around}{E:Value->Shared->Prop}{s:Shared}
end PyProof.Rows
namespace PyProof.Rows
open PySem
local macro_rules | `(tactic| walk_at "sortRuns") => do
 let n:=Lean.mkIdent (Lean.mkPrivateNameCore `PySem.Builtin.List.W1All `PySem.Builtin.sortRuns)
 `(tactic| delta $n)
local macro_rules | `(tactic| walk_at "st") => `(tactic| try dsimp -zeta -zetaHave only)
local macro_rules | `(tactic| walk_at "l3") => `(tactic| (extract_lets -underBinder +onlyGivenNames a b c; subst a b c))
local macro_rules | `(tactic| walk_at "l11") => `(tactic| (extract_lets -underBinder +onlyGivenNames a b c d e f g h i j k; subst a b c d e f g h i j k; dsimp -zeta -zetaHave only))
local macro_rules | `(tactic| walk_at "l1") => `(tactic| (extract_lets -underBinder +onlyGivenNames a; subst a; try dsimp -zeta -zetaHave only))
local macro_rules | `(tactic| walk_at "l2") => `(tactic| (extract_lets -underBinder +onlyGivenNames a b; subst a b; try dsimp -zeta -zetaHave only))
local macro_rules | `(tactic| walk_at "l4") => `(tactic| (extract_lets -underBinder +onlyGivenNames a b c d; subst a b c d; try dsimp -zeta -zetaHave only))
variable{prog:Program}{w:World}{A:Around}{E:Value->Shared->Prop}{s:Shared}
end PyProof.Rows
namespace PyProof.Rows
open PySem
variable{prog:Program}{w:World}{A:Around}{E:Value->Shared->Prop}{s:Shared}
end PyProof.Rows
namespace L2
open PySem PySem.Spec PyProof.Rows
section
variable{X:Cx}
end
end L2
namespace L2
open PySem PySem.Spec PyProof.Rows
section
variable{X:Cx}
end
end L2
namespace L2
open PySem PySem.Spec PyProof.Rows
section
variable{prog:Program}{w:World}{A:Around}{E:Value->Shared->Prop}{s:Shared}{z TI TO i1 i2 l1 l2:Addr}{f0:Value}{f1:Bool}
end
section
variable{X:Cx}
end
end L2
namespace L2
open PySem PySem.Spec PyProof.Rows
section
variable{X:Cx}
theorem bt_all:bootBuiltins "all" = some (.builtin "all"):=by decide +kernel
end
end L2
namespace L2
open PySem PySem.Spec PyProof.Rows
section
variable{prog:Program}{w:World}{A:Around}{E:Value->Shared->Prop}{s:Shared}{d:Addr}
end
section
variable{X:Cx}{pins:List (Addr×Obj)}{σ:St}{H:Hp}{s:Shared}{d:Addr}{u:HO}{o:Obj}
end
section
variable{X:Cx}
end
end L2
namespace L2
open PySem PySem.Spec PyProof.Rows
section
open PySem.W
end
section
open PySem.W
variable{prog:Program}{w:World}{A:Around}{E:Value->Shared->Prop}{s:Shared}
end
section
variable{X:Cx}
end
section
variable{X:Cx}
def rAllB(K:KW):List V->Hp->VK->Prop:=fun xs H Q=>∃(p:Addr)(bs:List Bool),xs = [.ref p]/\SqL K H p (bs.map V.bl)/\Q (.bl (bs.all id)) H
theorem GN(hc:X.calm=true):kC X (.builtin "all") (rAllB X.K):=by
 intro pins s σ H xs us Q I r h
 obtain⟨p,bs,rfl,hq,q⟩:=h
 obtain⟨u,rfl,ru⟩:=nA r
 cases ru
 obtain⟨its,rv,pl,hz⟩:=I.list hq
 have hln:=rv.length
 rw[K2]at hln
 have hlt:p<s.heap.objs.size:=by obtain⟨_,_,q,_⟩:=pl;exact Heap.lt_size q
 refine call_all_walk (wpAny_pyIter_list pl.isList ?_)
 refine⟨s.heap.objs.size,[s.heap.objs.size,p],[s.heap.objs.size],its.toArray.size,_,_,fun i=>bs.getD i true,rfl,Walks.list (A:=X.A.in1) (I.ok.hd hc) _ p (Ly hlt) its.toArray,⟨⟨_,Heap.get?_push_size _ rfl,rfl,rfl⟩,pl.isList.push _⟩,fun i v s' Q' E' hP hQ=>?_,fun h' tk hk=>?_⟩
 ·have hv:its[i]?=some v:=by simpa using hP
  have hi:i<bs.length:=by have:=(KS.mp hv).1;omega
  obtain⟨w,hw,rw'⟩:=rv.get (i:=i) (x:=.bl bs[i]) (by rw[Lb,KR hi];rfl)
  rw[hv]at hw
  cases hw
  cases rw'
  replace hQ:Q' (bs.getD i true) s':=hQ
  rw[show bs.getD i true=bs[i] by rw[Lc,KR hi];rfl]at hQ
  exact wpAny_truthy_bool hQ
 ·have ea:((LK its.toArray.size).all fun i=>bs.getD i true)=bs.all id:=by
   rw[Lk,← hln,Mp,Mt,Mt]
   constructor
   ·intro h b hb
    obtain⟨i,hi,rfl⟩:=Nt hb
    have:=h i (Mv.mpr hi)
    rw[Lc,KR hi]at this
    exact this
   ·intro h i hi
    have hi':=Mv.mp hi
    rw[Lc,KR hi']
    exact h _ (LM hi')
  rw[ea]
  refine⟨.bl _,H,I.kept (t':=tk) (fun b o e=>hk b o (fun hm=>?_) (Heap.get?_push_of_some _ e)),rfl,q⟩
  rw[LR.mp hm]at e
  exact LQ _ (Heap.lt_size e)
end
end L2
namespace L2
open PySem PySem.Spec PyProof.Rows
section
variable{prog:Program}{w:World}{K:Type} [DecidableEq K] {knd:KeyKind prog w K} {A:Around} {E:Value->Shared->Prop} {s:Shared}
end
section
variable{X:Cx}{o e f:Expr}{apos cpos:Pos}{td ty tx:TE}
end
section
variable{X:Cx}
end
section
variable{prog:Program}{w:World}{A:Around}{E:Value->Shared->Prop}{s:Shared}{T:String}{r d:Addr}{n:Nat}{P:Nat->Value->Prop}{OK:Heap->Prop}
end
section
variable{X:Cx}
end
section
variable{prog:Program}{w:World}{A:Around}{E:Value->Shared->Prop}{s:Shared}
end
section
variable{X:Cx}
end
end L2
namespace L2
open PySem PySem.Spec PyProof.Rows
section
variable{prog:Program}{w:World}{A:Around}{E:Value->Shared->Prop}{s:Shared}
end
section
variable{X:Cx}{pins:List (Addr×Obj)}{σ:St}{H:Hp}{s:Shared}{h':Heap}{T:Addr}{ps more:Array Value}{t':Nat}
end
end L2
namespace L2
open PySem PySem.Spec PyProof.Rows
section
variable{X:Cx}
theorem GJ:kC X (.type "str") (fun xs H Q=>(∃ i:Int,xs = [.int i]/\i.natAbs.log2<1920/\Q (.str (toString i)) H)∨∃ z:Str,xs = [.str z]/\Q (.str z) H):=by
 intro pins s σ H xs us Q I r h
 rcases h with⟨i,rfl,hl,q⟩ | ⟨z,rfl,q⟩
 ·obtain⟨u,rfl,ru⟩:=nA r
  obtain⟨t,rfl⟩:=ru
  exact P.str_of_int hl ⟨.str _,H,I.tok _,⟨_,rfl⟩,q⟩
 ·obtain⟨u,rfl,ru⟩:=nA r
  obtain⟨t,rfl⟩:=ru
  exact P.str_of_str ⟨.str _,H,I,⟨_,rfl⟩,q⟩
theorem Eo:∀{ws:List Str}{us:List Value},Vals (ws.map V.str) us->∃ l:List (Str×Tok),us=strValues l/\l.map (·.1)=ws
 |[],_,.nil=>⟨[],rfl,rfl⟩
 |w::ws,_,.cons r rr=>by
  obtain⟨t,rfl⟩:=(show ∃ t,_=Value.str w t from r)
  obtain⟨l,rfl,e⟩:=Eo rr
  exact⟨(w,t)::l,rfl,by rw[Lr,e]⟩
def rJoin(K:KW):V->List V->Hp->VK->Prop:=fun x xs H Q=>∃(sep:Str)(a:Addr)(ws:List Str),x=.str sep/\xs = [.ref a]/\SqL K H a (ws.map V.str)/\(ws.map (·.length)).sum+ws.length*sep.length<=1000000/\Q (.str (Str.join sep ws)) H
theorem oU:MtM X "str.join" (rJoin X.K):=by
 intro pins s σ H x vs v us Q I rx rv h
 obtain⟨sep,a,ws,rfl,rfl,hq,hl,q⟩:=h
 obtain⟨t,rfl⟩:=rx
 obtain⟨u,rfl,ru⟩:=rv.one
 cases ru
 obtain⟨its,r,pl,hz⟩:=I.list hq
 obtain⟨l,rfl,e⟩:=Eo r
 have tl:Builtin.Str.tooLong ((l.map (·.1)).toArray.foldl (·+·.length+sep.length) 0)=false:=by
  rw[e,StrLaws.joinTotal]
  unfold Builtin.Str.tooLong
  have:(1000000:Nat)<=sizeLine:=by decide
  exact decide_eq_false (by omega)
 refine call_meets Ml (typeIs_str _ _ _) PySem.F.entry_str_join (PySem.F.args_str_join_2 _ _) (meets_str_join_list sep t a l tl) ⟨pl.isList,?_⟩
 have fin:(Made.str (Builtin.Str.glued sep (l.map (·.1)))).post (fun v s'=>EP X pins σ Q v s') s:=⟨joinFit_length tl,.str (Builtin.Str.glued sep (l.map (·.1))),H,I.tok _,⟨_,rfl⟩,by rw[StrLaws.glued_eq_join,e];exact q⟩
 match l,fin,e with
 |[],fin,_=>exact fin
 |[p],_,e=>exact⟨.str p.1,H,I,⟨_,rfl⟩,by subst e;exact q⟩
 |_::_::_,fin,_=>exact fin
def rSplit:V->List V->Hp->VK->Prop:=fun x xs H Q=>∃(z y:Str),x=.str z/\xs = [.str y]/\y.length=1/\z.length<=1000000/\∀ l:Addr,H l=none->Q (.ref l) (upd H l (.lst ((Txt.split z y).map V.str)))
theorem kD:∀(ws:List Str)(n:Nat),Vals (ws.map V.str) (strsFrom n ws)
 |[],_=>.nil
 |w::ws,n=>.cons ⟨_,rfl⟩ (kD ws (n+1))
theorem BR:MtM X "str.split" rSplit:=by
 intro pins s σ H x vs v us Q I rx rv h
 obtain⟨z,y,rfl,rfl,y1,zl,q⟩:=h
 obtain⟨t,rfl⟩:=rx
 obtain⟨u,rfl,ru⟩:=rv.one
 obtain⟨t',rfl⟩:=ru
 have hn:=split_le z y
 have zs:z.length<=sizeLine:=LH zl (by decide)
 have ps:∀ ws:List Str,ws.length<=z.length+2->(ws.map V.str).length<=sizeLine:=fun ws h=>by rw[K2];exact LH h (LH (Nat.add_le_add_right zl 2) (by decide))
 by_cases c1:(decide (z.length<y.length)||decide (Builtin.Str.strKind z<Builtin.Str.strKind y))=true
 ·have e:Txt.split z y = [z]:=by unfold Txt.split;rw[if_pos c1]
  rw[e]at q
  refine call_meets Mw (typeIs_str _ _ _) Na (M5 _ _) (meets_str_split_cannot_occur z y t t' c1) ?_
  exact⟨.ref _,_,I.laid (t':=s.toks) (fun b o e=>Heap.get?_push_of_some _ e) (K3 _) (show bV X.prog X.w _ _ _ (.lst [V.str z]) from⟨by show 1<=sizeLine;decide,[Value.str z t],0,.cons ⟨t,rfl⟩ .nil,Heap.get?_push_size _ rfl⟩),rfl,q _ (I.hok.fresh (K3 _))⟩
 ·have c1':(decide (z.length<y.length)||decide (Builtin.Str.strKind z<Builtin.Str.strKind y))=false:=by simpa using c1
  have y0:(y.length == 0)=false:=by rw[y1];rfl
  by_cases c2:(Builtin.Str.occurrences z y 0 z.length (z.length+1)).isEmpty=true
  ·have e:Txt.split z y = [z]:=by unfold Txt.split;rw[if_neg c1,if_pos c2]
   rw[e]at q
   refine call_meets Mw (typeIs_str _ _ _) Na (M5 _ _) (meets_str_split_not_found z y t t' c1' y0 c2) ?_
   exact⟨.ref _,_,I.laid (t':=s.toks) (fun b o e=>Heap.get?_push_of_some _ e) (K3 _) (show bV X.prog X.w _ _ _ (.lst [V.str z]) from⟨by show 1<=sizeLine;decide,[Value.str z t],0,.cons ⟨t,rfl⟩ .nil,Heap.get?_push_size _ rfl⟩),rfl,q _ (I.hok.fresh (K3 _))⟩
  ·have c2':(Builtin.Str.occurrences z y 0 z.length (z.length+1)).isEmpty=false:=by simpa using c2
   have e:Txt.split z y=Builtin.Str.partsBetween z (Builtin.Str.occurrences z y 0 z.length (z.length+1)) y.length:=by unfold Txt.split;rw[if_neg c1,if_neg c2]
   rw[e]at q hn
   refine call_meets Mw (typeIs_str _ _ _) Na (M5 _ _) (meets_str_split_sep z y t t' c1' y0 c2' zs (LH hn (LH (Nat.add_le_add_right zl 2) (by decide)))) ?_
   exact⟨.ref _,_,I.laid (fun b o e=>Heap.get?_push_of_some _ e) (K3 _) (show bV X.prog X.w _ _ _ (.lst ((Builtin.Str.partsBetween z (Builtin.Str.occurrences z y 0 z.length (z.length+1)) y.length).map V.str)) from⟨ps _ hn,_,0,kD _ _,Heap.get?_push_size _ rfl⟩),rfl,q _ (I.hok.fresh (K3 _))⟩
theorem GK:kC X (.type "int") (fun xs H Q=>∃(z:Str)(n:Int),xs = [.str z]/\PySem.intText? z=some n/\z.length<=640/\Q (.int n) H):=by
 intro pins s σ H xs us Q I r h
 obtain⟨z,n,rfl,hn,hl,q⟩:=h
 obtain⟨u,rfl,ru⟩:=nA r
 obtain⟨t,rfl⟩:=ru
 exact PySem.W.KIN.call_text hn hl ⟨.int n,H,I.tok _,⟨_,rfl⟩,q⟩
def Its(x:Str):It:=⟨fun i _=>i<x.cps.size,fun i H v H'=>H'=H/\∃ c,x.cps[i]?=some c/\v=.str ⟨#[c]⟩,fun i _=>x.cps.size<=i⟩
theorem Hj{P:Program}{w:World}{K:KW}{tg:Expr}(it:Addr)(x:Str)(t:Tok):Turn P w K tg (Its x) [it] it (fun i h=>h.IsStrIter it "str_ascii_iterator" x t i) where
 mem:=by simp
 obj:=fun i h st b hb=>by
  have e:b=it:=by simpa using hb
  subst e
  obtain⟨o,e,c,d⟩:=st
  exact⟨o,e,fun v z=>by rw[d]at z;cases z⟩
 keep:=fun i h h' st k=>let ⟨o,e,r⟩:=st;⟨o,k it (by simp) o e,r⟩
 item:=by
  intro X hP hw hK hc i pins s σ H E I hf st hg
  subst hP hw hK
  obtain⟨f0,f1,f2,f3,f4,f5⟩:=hf it (by simp)
  have hi:i<x.cps.size:=hg
  refine wpAny_pyNext_ascii_item st (c:=x.cps[i]) (by simp[hi]) fun h' st' sb=>?_
  have I1:Inv X pins σ H { s with heap:=h',toks:=s.toks+1 }:=I.turned (fun b o hb e=>(sb.2 b hb).trans e) f0 f1 f3 f4 f5
  obtain⟨o,e,c,d⟩:=id st'
  exact⟨_,rfl,Ie (s:={ s with heap:=h',toks:=s.toks+1 }) e c d (by decide) ⟨.str ⟨#[x.cps[i]]⟩,H,I1,⟨_,rfl⟩,⟨rfl,_,by simp[hi],rfl⟩,st',fun b hb=>(hf b hb).1⟩⟩
 done:=by
  intro X hP hw hK hc i pins s σ H E I hf st hg
  subst hP hw hK
  obtain⟨f0,f1,f2,f3,f4,f5⟩:=hf it (by simp)
  exact wpAny_pyNext_ascii_end (I.ok.hd hc) st (by have:x.cps.size<=i:=hg;simp;omega) fun h' eb=>⟨rfl,I.turned (t':=s.toks) (fun b o hb e=>eb b o hb e) f0 f1 f3 f4 f5⟩
 self:=fun _ _ _ _ _ st h=>wpAny_pyIter_striter_ascii st h
def iStr(tl:TE):TI:=fun σ H R=>tl σ H fun v H1=>∃ x:Str,v=.str x/\x.cps.all (· < 128)=true/\R (Its x) H1
theorem pi_str{tg l:Expr}{tl:TE}(hl:PE X l tl):PI X tg l (iStr tl):=by
 intro pins s σ H R I h
 refine thn (hl pins s σ H _ I h) fun v s1 ⟨x,H1,I1,r1,q1⟩=>?_
 obtain⟨z,rfl,ha,q⟩:=q1
 obtain⟨t,rfl⟩:=r1
 refine wpAny_pyIter_ascii ha ?_
 refine⟨s1.heap.objs.size,[s1.heap.objs.size],_,_,H1,rfl,I1.kept (t':=s1.toks) fun b o e=>Heap.get?_push_of_some _ e,Hj _ z t,⟨_,Heap.get?_push_size _ rfl,rfl,rfl⟩,fun b hb=>?_,q⟩
 have e:b=s1.heap.objs.size:=by simpa using hb
 subst e
 exact I1.fpOk (K3 _) (I1.hok.fresh (K3 _))
theorem Ip{x:Str}{te:TE}{fv:St}{H1:Hp}{QQ:List V->Hp->Prop}(Pv:Nat->List V->Hp->Prop)(hz:x.cps.size<=sizeLine)(h0:Pv 0 [] H1)
  (hs:∀ i c ys H,x.cps[i]?=some c->Pv i ys H->te (some (.str ⟨#[c]⟩)::fv) H fun y H2=>Pv (i+1) (ys++[y]) H2) (hd:∀ ys H,ys.length=x.cps.size->Pv x.cps.size ys H->QQ ys H)
  : oi te fv (Its x) H1 QQ:=by
 refine⟨fun i m ys H=>m=x.cps.size-i/\i<=x.cps.size/\ys.length=i/\Pv i ys H,⟨x.cps.size,by simp,L8 _,rfl,h0⟩,?_⟩
 rintro i m ys H ⟨rfl,hi,hy,p⟩
 refine⟨by omega,?_⟩
 by_cases hlt:i<x.cps.size
 ·refine .inr ⟨hlt,fun y H2=>Pv (i+1) (ys++[y]) H2,fun y H2 p2=>⟨x.cps.size-(i+1),by omega,rfl,hlt,by rw[KU,hy];rfl,p2⟩,fun v H' y=>?_⟩
  obtain⟨rfl,c,hc,rfl⟩:=y
  exact hs i c ys _ hc p
 ·have e:i=x.cps.size:=by omega
  subst e
  exact .inl ⟨K3 _,hd ys H hy p⟩
end
end L2
namespace L2
open PySem PySem.Spec PyProof.Rows
section
variable{prog:Program}{w:World}{A:Around}{E:Value->Shared->Prop}{s:Shared}
end
section
variable{X:Cx}
end
end L2
namespace L2
open PySem PySem.Spec PyProof.Rows
section
variable{X:Cx}
end
end L2
namespace L2
open PySem PySem.Spec PyProof.Rows
section
variable{X:Cx}
def rPart:V->List V->Hp->VK->Prop:=fun x xs H Q=>∃(z y:Str),x=.str z/\xs = [.str y]/\y.length=1/\z.length<=1000000/\∀ l:Addr,H l=none->Q (.ref l) (upd H l (.tup [.str (Txt.partition z y).1,.str (Txt.partition z y).2.1,.str (Txt.partition z y).2.2]))
theorem wR:MtM X "str.partition" rPart:=by
 intro pins s σ H x vs v us Q I rx rv h
 obtain⟨z,y,rfl,rfl,y1,zl,q⟩:=h
 obtain⟨t,rfl⟩:=rx
 obtain⟨u,rfl,ru⟩:=rv.one
 obtain⟨t',rfl⟩:=ru
 have y0:(y.length == 0)=false:=by rw[y1];rfl
 have zs:z.length<=sizeLine:=LH zl (by decide)
 refine call_meets NN (typeIs_str _ _ _) PySem.F.entry_str_partition (PySem.F.args_str_partition_2 _ _) (meets_str_partition z y t t' y0 zs) ?_
 unfold Txt.partition at q
 revert q
 cases Builtin.Str.occurrences z y 0 z.length 1 with
 |nil =>
  intro q
  have o:bV X.prog X.w (upd H s.heap.objs.size (.tup [V.str z,V.str Str.empty,V.str Str.empty])) (s.heap.push { cls:=.type "tuple",data:=.seq [Value.str z t,Value.str Str.empty s.toks,Value.str Str.empty s.toks].toArray }) s.heap.objs.size (.tup [V.str z,V.str Str.empty,V.str Str.empty]):=⟨by show 3<=sizeLine;decide,_,.cons ⟨_,rfl⟩ (.cons ⟨_,rfl⟩ (.cons ⟨_,rfl⟩ .nil)),_,Heap.get?_push_size _ rfl,rfl,0,rfl⟩
  exact⟨.ref _,_,I.laid (fun b o e=>Heap.get?_push_of_some _ e) (K3 _) o,rfl,q _ (I.hok.fresh (K3 _))⟩
 |cons i r =>
  intro q
  have o:bV X.prog X.w (upd H s.heap.objs.size (.tup [V.str (Builtin.Str.strSub z 0 i),V.str y,V.str (Builtin.Str.strSub z (i+y.length) z.length)])) (s.heap.push { cls:=.type "tuple",data:=.seq [Value.str (Builtin.Str.strSub z 0 i) s.toks,Value.str y t',Value.str (Builtin.Str.strSub z (i+y.length) z.length) (s.toks+1)].toArray }) s.heap.objs.size (.tup [V.str (Builtin.Str.strSub z 0 i),V.str y,V.str (Builtin.Str.strSub z (i+y.length) z.length)]):=⟨by show 3<=sizeLine;decide,_,.cons ⟨_,rfl⟩ (.cons ⟨_,rfl⟩ (.cons ⟨_,rfl⟩ .nil)),_,Heap.get?_push_size _ rfl,rfl,0,rfl⟩
  exact⟨.ref _,_,I.laid (fun b o e=>Heap.get?_push_of_some _ e) (K3 _) o,rfl,q _ (I.hok.fresh (K3 _))⟩
end
theorem G7{x:Str}{c i:Nat}:StrLaws.At x ⟨#[c]⟩ x.length i↔x.cps.toList[i]?=some c:=by
 have e:(x.cps.extract i (i+1)).toList=x.cps.toList[i]?.toList:=by
  rw[Array.toList_extract]
  show(x.cps.toList.drop i).take (i+1-i)=_
  rw[Nb,List.take_one,List.head?_drop]
 have k:StrLaws.At x ⟨#[c]⟩ x.length i↔i+1<=x.cps.size/\(x.cps.extract i (i+1) == #[c])=true:=Iff.rfl
 rw[k,beq_iff_eq,← NF,e]
 cases h:x.cps.toList[i]? with
 |none=>simp
 |some d =>
  have:=(KS.mp h).1
  rw[ME]at this
  simp
  omega
theorem Hw{c:Nat}{a r:List Nat}{x:Str}(hc:c∉a)(hx:x.cps.toList=a++c::r):(Txt.partition x ⟨#[c]⟩).1=⟨a.toArray⟩:=by
 have ha:StrLaws.At x ⟨#[c]⟩ x.length a.length:=G7.mpr (by rw[hx,KY (K3 _),Ln];rfl)
 unfold Txt.partition
 rcases StrLaws.occ_head x ⟨#[c]⟩ 1 (K3 _) with⟨_,n⟩ | ⟨i,r',e,h1,h2⟩
 ·exact absurd ha (n _)
 ·rw[e]
  have ei:i=a.length:=by
   rcases Nat.lt_trichotomy i a.length with z | z | z
   ·have q:=G7.mp h1
    rw[hx,KZ z]at q
    exact absurd (K1 q) hc
   ·exact z
   ·exact absurd ha (h2 _ z)
  subst ei
  show Builtin.Str.strSub x 0 a.length=_
  refine Str.ext' (NF.mp ?_)
  show(x.cps.extract 0 a.length).toList=a.toArray.toList
  rw[Array.toList_extract]
  show(x.cps.toList.drop 0).take (a.length-0)=_
  rw[hx]
  simp
theorem BL{c:Nat}{x:Str}(hc:c∉x.cps.toList):(Txt.partition x ⟨#[c]⟩).1=x:=by
 unfold Txt.partition
 rcases StrLaws.occ_head x ⟨#[c]⟩ 1 (K3 _) with⟨e,_⟩ | ⟨i,r',e,h1,_⟩
 ·rw[e]
 ·exact absurd (K1 (G7.mp h1)) hc
end L2
namespace L2
theorem len_0{α:Type}{l:List α}(h:l.length=0):l = []:=Nc.mp h
theorem Dp{α:Type}{l:List α}{n:Nat}(h:l.length=n+1):∃ x r,l=x::r/\r.length=n:=by
 cases l with
 |nil=>cases h
 |cons x r=>exact⟨x,r,rfl,Nat.succ.inj h⟩
theorem ib{α:Type}{l:List α}(h:l.length=1):∃ a,l = [a]:=by
 obtain⟨a,r,rfl,e⟩:=Dp h
 exact⟨a,by rw[len_0 e]⟩
theorem fS{α:Type}{l:List α}(h:l.length=2):∃ a b,l = [a,b]:=by
 obtain⟨a,r,rfl,e⟩:=Dp h
 obtain⟨b,rfl⟩:=ib e
 exact⟨a,b,rfl⟩
theorem lQ{α:Type}{l:List α}(h:l.length=3):∃ a b c,l = [a,b,c]:=by
 obtain⟨a,r,rfl,e⟩:=Dp h
 obtain⟨b,c,rfl⟩:=fS e
 exact⟨a,b,c,rfl⟩
theorem FF{α:Type}{l:List α}(h:l.length=4):∃ a b c d,l = [a,b,c,d]:=by
 obtain⟨a,r,rfl,e⟩:=Dp h
 obtain⟨b,c,d,rfl⟩:=lQ e
 exact⟨a,b,c,d,rfl⟩
theorem len_5{α:Type}{l:List α}(h:l.length=5):∃ a b c d e,l = [a,b,c,d,e]:=by
 obtain⟨a,r,rfl,z⟩:=Dp h
 obtain⟨b,c,d,e,rfl⟩:=FF z
 exact⟨a,b,c,d,e,rfl⟩
theorem len_6{α:Type}{l:List α}(h:l.length=6):∃ a b c d e f,l = [a,b,c,d,e,f]:=by
 obtain⟨a,r,rfl,z⟩:=Dp h
 obtain⟨b,c,d,e,f,rfl⟩:=len_5 z
 exact⟨a,b,c,d,e,f,rfl⟩
end L2
namespace K8
theorem ID:∀{a b:List Nat},a.Nodup->(∀ x∈a,x∈b)->a.length<=b.length
 |[],_,_,_=>L8 _
 |x::a,b,nd,h=>by
  obtain⟨n1,n2⟩:=Li.mp nd
  have hx:=h x (by simp)
  have ih:=ID (a:=a) (b:=b.erase x) n2 fun y hy=>(List.mem_erase_of_ne (fun e:y=x=>n1 (e▸hy))).mpr (h y (K6 _ hy))
  rw[List.length_erase_of_mem hx]at ih
  have:0<b.length:=MN hx
  rw[Lw]
  omega
theorem gO{a:List Nat}{N:Nat}(nd:a.Nodup)(h:∀ x∈a,x<N):a.length<=N:=by
 have:=ID (b:=LK N) nd fun x hx=>Mv.mpr (h x hx)
 rwa[LF]at this
theorem BQ{l:List Nat}(nd:l.Nodup){i j x:Nat}(hi:l[i]?=some x)(hj:l[j]?=some x):i=j:=by
 have p:=List.pairwise_iff_getElem.mp nd
 obtain⟨h1,e1⟩:=KS.mp hi
 obtain⟨h2,e2⟩:=KS.mp hj
 rcases Nat.lt_trichotomy i j with z | z | z
 ·exact absurd (e1.trans e2.symm) (p i j h1 h2 z)
 ·exact z
 ·exact absurd (e2.trans e1.symm) (p j i h2 h1 z)
abbrev En:=List (Nat×Nat)
structure bD(m:Nat)(es:En)(ts:List (List Nat)):Prop where
 len:ts.length=m
 ends:∀ e∈es,e.1<m/\e.2<m/\e.1≠e.2
 nd:∀(p:Nat)(l:List Nat),ts[p]?=some l->l.Nodup
 mem:∀(p:Nat)(l:List Nat),ts[p]?=some l->∀ t,t∈l↔∃ e,es[t]?=some e/\(e.1=p∨e.2=p)
theorem Hk(m:Nat):bD m [] (Mu m []) where
 len:=by simp
 ends:=fun e h=>by cases h
 nd:=fun p l h=>by
  rw[Ms]at h
  split at h
  ·cases h;exact M0
  ·cases h
 mem:=fun p l h t=>by
  rw[Ms]at h
  split at h
  ·cases h;simp
  ·cases h
def ins(l:List Nat)(k x:Nat):List Nat:=l.take k++x::l.drop k
theorem Ar{l:List Nat}{k x y:Nat}:y∈ins l k x↔y=x∨y∈l:=by
 unfold ins
 rw[La,K0]
 have:=MT k l
 constructor
 ·rintro(h | h | h)
  ·exact .inr (List.mem_of_mem_take h)
  ·exact .inl h
  ·exact .inr (List.mem_of_mem_drop h)
 ·rintro(h | h)
  ·exact .inr (.inl h)
  ·rw[← this]at h
   rcases La.mp h with z | z
   ·exact .inl z
   ·exact .inr (.inr z)
theorem F0{l:List Nat}{k x:Nat}(nd:l.Nodup)(h:x∉l):(ins l k x).Nodup:=by
 unfold ins
 have e:=MT k l
 rw[← e]at nd
 obtain⟨a,b,c⟩:=Lp.mp nd
 refine Lp.mpr ⟨a,Li.mpr ⟨fun z=>h (List.mem_of_mem_drop z),b⟩,fun y hy z hz=>?_⟩
 rcases K0.mp hz with q | q
 ·intro w
  exact h (by rw[← q,← w];exact List.mem_of_mem_take hy)
 ·exact c y hy z q
theorem bD.put{m:Nat}{es:En}{ts:List (List Nat)}{one two k j:Nat}{l l':List Nat}(w:bD m es ts)(h1:one<m)(h2:two<m)(hn:one≠two)(e1:ts[one]?=some l)(e2:ts[two]?=some l') :
  bD m (es++[(one,two)]) ((ts.set one (ins l k es.length)).set two (ins l' j es.length)):=by
 have old:∀{p l},ts[p]?=some l->es.length∉l:=fun{p l} e z=>by
  obtain⟨x,hx,_⟩:=(w.mem p l e es.length).mp z
  have:=(KS.mp hx).1
  omega
 have get:∀ p q,((ts.set one (ins l k es.length)).set two (ins l' j es.length))[p]?=some q->(p=two/\q=ins l' j es.length)∨(p=one/\p≠two/\q=ins l k es.length)∨(p≠one/\p≠two/\ts[p]?=some q):=fun p q e=>by
  have L:two<(ts.set one (ins l k es.length)).length:=by rw[LA,w.len];exact h2
  have L1:one<ts.length:=by rw[w.len];exact h1
  rw[LN]at e
  by_cases z:two=p
  ·rw[if_pos z,if_pos L]at e
   exact .inl ⟨z.symm,(Lm e).symm⟩
  ·rw[if_neg z,LN]at e
   by_cases y:one=p
   ·rw[if_pos y,if_pos L1]at e
    exact .inr (.inl ⟨y.symm,Ne.symm z,(Lm e).symm⟩)
   ·rw[if_neg y]at e
    exact .inr (.inr ⟨Ne.symm y,Ne.symm z,e⟩)
 have esg:∀ t x,(es++[(one,two)])[t]?=some x↔(es[t]?=some x)∨(t=es.length/\x=(one,two)):=fun t x=>by
  by_cases z:t<es.length
  ·rw[KZ z]
   constructor
   ·exact .inl
   ·rintro(y | y)
    ·exact y
    ·omega
  ·rw[KY (by omega)]
   constructor
   ·intro y
    have hl:=(KS.mp y).1
    rw[K4]at hl
    have ht:t=es.length:=by omega
    subst ht
    rw[Ln]at y
    cases y
    exact .inr ⟨rfl,rfl⟩
   ·rintro(y | ⟨y,rfl⟩)
    ·have:=(KS.mp y).1;omega
    ·rw[y,Ln];rfl
 refine⟨by rw[LA,LA];exact w.len,fun e he=>?_,fun p q e=>?_,fun p q e t=>?_⟩
 ·rcases La.mp he with z | z
  ·exact w.ends e z
  ·have:e=(one,two):=by simpa using z
   subst this
   exact⟨h1,h2,hn⟩
 ·rcases get p q e with⟨_,rfl⟩ | ⟨_,_,rfl⟩ | ⟨_,_,y⟩
  ·exact F0 (w.nd two l' e2) (old e2)
  ·exact F0 (w.nd one l e1) (old e1)
  ·exact w.nd p q y
 ·rcases get p q e with⟨rfl,rfl⟩ | ⟨rfl,np,rfl⟩ | ⟨n1,n2,y⟩
  ·rw[Ar,w.mem p l' e2 t]
   constructor
   ·rintro(z | ⟨x,hx,hp⟩)
    ·exact⟨(one,p),(esg _ _).mpr (.inr ⟨z,rfl⟩),.inr rfl⟩
    ·exact⟨x,(esg _ _).mpr (.inl hx),hp⟩
   ·rintro⟨x,hx,hp⟩
    rcases(esg _ _).mp hx with z | ⟨z,_⟩
    ·exact .inr ⟨x,z,hp⟩
    ·exact .inl z
  ·rw[Ar,w.mem p l e1 t]
   constructor
   ·rintro(z | ⟨x,hx,hp⟩)
    ·exact⟨(p,two),(esg _ _).mpr (.inr ⟨z,rfl⟩),.inl rfl⟩
    ·exact⟨x,(esg _ _).mpr (.inl hx),hp⟩
   ·rintro⟨x,hx,hp⟩
    rcases(esg _ _).mp hx with z | ⟨z,_⟩
    ·exact .inr ⟨x,z,hp⟩
    ·exact .inl z
  ·rw[w.mem p q y t]
   constructor
   ·rintro⟨x,hx,hp⟩
    exact⟨x,(esg _ _).mpr (.inl hx),hp⟩
   ·rintro⟨x,hx,hp⟩
    rcases(esg _ _).mp hx with z | ⟨z,rfl⟩
    ·exact⟨x,z,hp⟩
    ·rcases hp with hp | hp
     ·exact absurd hp.symm n1
     ·exact absurd hp.symm n2
def hd(es:En)(d:Nat):Nat:=match es[d/2]? with | some e=>if d%2=0 then e.2 else e.1 | none=>0
def tl(es:En)(d:Nat):Nat:=match es[d/2]? with | some e=>if d%2=0 then e.1 else e.2 | none=>0
def q0(es:En)(t p:Nat):Nat:=match es[t]? with | some e=>if e.1=p then 2*t else 2*t+1 | none=>0
def nxt(l:List Nat)(t:Nat):Nat:=(l[(l.idxOf t+1)%l.length]?).getD 0
def fol(es:En)(ts:List (List Nat))(d:Nat):Nat:=q0 es (nxt ((ts[hd es d]?).getD []) (d/2)) (hd es d)
section
variable{m:Nat}{es:En}{ts:List (List Nat)}
theorem As{l:List Nat}{t:Nat}(h:t∈l):l[l.idxOf t]?=some t:=by
 have hl:=M8.mpr h
 rw[KR hl,List.getElem_idxOf]
theorem g7{l:List Nat}{t:Nat}(h:t∈l):l[(l.idxOf t+1)%l.length]?=some (nxt l t):=by
 have hl:0<l.length:=MN h
 have:=Nat.mod_lt (l.idxOf t+1) hl
 unfold nxt
 rw[KR this]
 rfl
theorem bD.at(w:bD m es ts){d:Nat}(h:d<2*es.length):∃ e l,es[d/2]?=some e/\hd es d=(if d%2=0 then e.2 else e.1)/\tl es d=(if d%2=0 then e.1 else e.2)/\hd es d<m/\ts[hd es d]?=some l/\d/2∈l:=by
 have hl:d/2<es.length:=by omega
 have e1:es[d/2]?=some es[d/2]:=KR hl
 have q:=w.ends _ (K1 e1)
 generalize es[d/2]=e at e1 q
 have h1:hd es d=(if d%2=0 then e.2 else e.1):=by unfold hd;rw[e1]
 have h2:tl es d=(if d%2=0 then e.1 else e.2):=by unfold tl;rw[e1]
 have h3:hd es d<m:=by rw[h1];split<;>omega
 have h4:ts[hd es d]?=some (ts[hd es d]'(by rw[w.len];exact h3)):=KR _
 refine⟨e,_,e1,h1,h2,h3,h4,(w.mem _ _ h4 _).mpr ⟨e,e1,?_⟩⟩
 rw[h1]
 split
 ·exact .inr rfl
 ·exact .inl rfl
theorem bD.foll(w:bD m es ts){d:Nat}(h:d<2*es.length):∃ l e,ts[hd es d]?=some l/\d/2∈l/\es[nxt l (d/2)]?=some e/\(e.1=hd es d∨e.2=hd es d)/\e.1≠e.2/\fol es ts d=(if e.1=hd es d then 2*nxt l (d/2) else 2*nxt l (d/2)+1)/\fol es ts d<2*es.length/\fol es ts d/2=nxt l (d/2)/\tl es (fol es ts d)=hd es d:=by
 obtain⟨e0,l,h1,h2,h3,h4,h5,h6⟩:=w.at h
 have hn:=g7 h6
 obtain⟨e,he,hp⟩:=(w.mem _ _ h5 _).mp (K1 hn)
 have hlt:=(KS.mp he).1
 have hne:=(w.ends e (K1 he)).2.2
 have hf:fol es ts d=(if e.1=hd es d then 2*nxt l (d/2) else 2*nxt l (d/2)+1):=by
  unfold fol
  rw[h5]
  show q0 es (nxt l (d/2)) (hd es d)=_
  unfold q0
  rw[he]
 refine⟨l,e,h5,h6,he,hp,hne,hf,?_,?_,?_⟩
 ·rw[hf];split<;>omega
 ·rw[hf];split<;>omega
 ·rw[hf]
  by_cases z:e.1=hd es d
  ·have a1:2*nxt l (d/2)/2=nxt l (d/2):=by omega
   have a2:2*nxt l (d/2)%2=0:=by omega
   rw[if_pos z]
   unfold tl
   rw[a1,he]
   show(if 2*nxt l (d/2)%2=0 then e.1 else e.2)=_
   rw[if_pos a2,z]
  ·have a1:(2*nxt l (d/2)+1)/2=nxt l (d/2):=by omega
   have a2:¬ (2*nxt l (d/2)+1)%2=0:=by omega
   rw[if_neg z]
   unfold tl
   rw[a1,he]
   show(if(2*nxt l (d/2)+1)%2=0 then e.1 else e.2)=_
   rw[if_neg a2]
   exact hp.elim (fun y=>absurd y z) id
theorem bD.inj(w:bD m es ts){a b:Nat}(ha:a<2*es.length)(hb:b<2*es.length)(h:fol es ts a=fol es ts b):a=b:=by
 obtain⟨l,e,p1,p2,_,_,_,_,_,p3,p4⟩:=w.foll ha
 obtain⟨l',e',q1,q2,_,_,_,_,_,q3,q4⟩:=w.foll hb
 have hh:hd es a=hd es b:=by rw[← p4,← q4,h]
 rw[hh,q1]at p1
 cases p1
 have hx:nxt l (a/2)=nxt l (b/2):=by rw[← p3,← q3,h]
 have g1:=g7 p2
 have g2:=g7 q2
 rw[hx]at g1
 have ii:=BQ (w.nd _ _ q1) g1 g2
 have i1:=M8.mpr p2
 have i2:=M8.mpr q2
 have ix:l.idxOf (a/2)=l.idxOf (b/2):=by
  generalize l.idxOf (a/2)=x at *
  generalize l.idxOf (b/2)=y at *
  by_cases z1:x+1=l.length
  ·by_cases z2:y+1=l.length
   ·omega
   ·rw[z1,Nj,Mh (by omega)]at ii;omega
  ·by_cases z2:y+1=l.length
   ·rw[z2,Nj,Mh (by omega)]at ii;omega
   ·rw[Mh (by omega),Mh (by omega)]at ii;omega
 have ht:a/2=b/2:=by
  have g3:=As p2
  have g4:=As q2
  rw[ix,g4]at g3
  exact(Lm g3).symm
 obtain⟨e1,_,r1,r2,_,_,_,_⟩:=w.at ha
 obtain⟨e2,_,s1,s2,_,_,_,_⟩:=w.at hb
 rw[ht,s1]at r1
 have ee:e2=e1:=Lm r1
 rw[ee]at s1 s2
 have hne:=(w.ends e1 (K1 s1)).2.2
 rw[r2,s2]at hh
 have:a%2=b%2:=by
  by_cases z1:a%2=0<;>by_cases z2:b%2=0
  ·omega
  ·rw[if_pos z1,if_neg z2]at hh;exact absurd hh.symm hne
  ·rw[if_neg z1,if_pos z2]at hh;exact absurd hh hne
  ·omega
 omega
end
structure Hg(f:Nat->Nat)(N:Nat):Prop where
 lt:∀ d,d<N->f d<N
 inj:∀ a b,a<N->b<N->f a=f b->a=b
structure Path(f:Nat->Nat)(N first:Nat)(r:List Nat):Prop where
 hd:r[0]?=some first
 lt:∀ d∈r,d<N
 nd:r.Nodup
 nx:∀ i x y,r[i]?=some x->r[i+1]?=some y->y=f x
theorem BK{f:Nat->Nat}{N d:Nat}(h:d<N):Path f N d [d] where
 hd:=rfl
 lt:=fun x hx=>by have:x=d:=by simpa using hx
                  rw[this];exact h
 nd:=by simp
 nx:=fun i x y h1 h2=>by
  have:=(KS.mp h2).1
  rw[K4]at this
  omega
theorem Path.snoc{f:Nat->Nat}{N d x:Nat}{r:List Nat}(p:Hg f N)(h:Path f N d (r++[x]))(hn:f x≠d):Path f N d (r++[x]++[f x]) where
 hd:=by rw[KZ (by rw[KU,K4];omega)];exact h.hd
 lt:=fun y hy=>by
  rcases La.mp hy with z | z
  ·exact h.lt y z
  ·have:y=f x:=by simpa using z
   rw[this];exact p.lt x (h.lt x (by simp))
 nd:=by
  refine Lp.mpr ⟨h.nd,by simp,fun a ha b hb e=>?_⟩
  have eb:b=f x:=by simpa using hb
  subst eb
  obtain⟨i,hi⟩:=LO.mp ha
  rw[e]at hi
  have hil:=(KS.mp hi).1
  rw[KU,K4]at hil
  cases i with
  |zero =>
   rw[h.hd]at hi
   exact hn (Lm hi).symm
  |succ i =>
   have gi:(r++[x])[i]?=some ((r++[x])[i]'(by rw[KU,K4];omega)):=KR _
   have:=h.nx i _ _ gi hi
   have mi:=h.lt _ (K1 gi)
   have mx:=h.lt x (by simp)
   have e2:=p.inj _ _ mx mi this
   rw[← e2]at gi
   have gx:(r++[x])[r.length]?=some x:=by rw[KY (K3 _),Ln];rfl
   have:=BQ h.nd gi gx
   omega
 nx:=fun i a b h1 h2=>by
  have h2l:=(KS.mp h2).1
  rw[KU,KU,K4,K4]at h2l
  rw[KZ (by rw[KU,K4];omega)]at h1
  by_cases z:i+1<(r++[x]).length
  ·rw[KZ z]at h2
   exact h.nx i a b h1 h2
  ·rw[KU,K4]at z
   have ei:i=r.length:=by omega
   subst ei
   rw[KY (by rw[KU,K4];omega)]at h2
   have:r.length+1-(r++[x]).length=0:=by rw[KU,K4];omega
   rw[this]at h2
   rw[KY (K3 _),Ln]at h1
   have e1:x=a:=Lm h1
   have e2:f x=b:=Lm h2
   rw[← e2,e1]
structure Ring(f:Nat->Nat)(N:Nat)(r:List Nat):Prop where
 lt:∀ d∈r,d<N
 nd:r.Nodup
 ne:0<r.length
 nx:∀ i x,r[i]?=some x->r[(i+1)%r.length]?=some (f x)
theorem Path.ring{f:Nat->Nat}{N d x:Nat}{r:List Nat}(p:Hg f N)(h:Path f N d (r++[x]))(he:f x=d):Ring f N (r++[x]) where
 lt:=h.lt
 nd:=h.nd
 ne:=by rw[KU,K4];omega
 nx:=fun i y hy=>by
  have hl:=(KS.mp hy).1
  by_cases z:i+1=(r++[x]).length
  ·rw[z,Nj]
   have:i=r.length:=by rw[KU,K4]at z;omega
   subst this
   rw[KY (K3 _),Ln]at hy
   have:x=y:=Lm hy
   subst this
   rw[he];exact h.hd
  ·have l2:i+1<(r++[x]).length:=by omega
   rw[Mh l2]
   have g:=KR l2
   rw[g,h.nx i _ _ hy g]
theorem Ring.back{f:Nat->Nat}{N a:Nat}{r:List Nat}(p:Hg f N)(h:Ring f N r)(ha:a<N)(hf:f a∈r):a∈r:=by
 obtain⟨i,hi⟩:=LO.mp hf
 have hl:=(KS.mp hi).1
 have key:∃ j,j<r.length/\(j+1)%r.length=i:=by
  cases i with
  |zero=>exact⟨r.length-1,by have:=h.ne;omega,by have:=h.ne;rw[show r.length-1+1=r.length by omega,Nj]⟩
  |succ i=>exact⟨i,by omega,Mh hl⟩
 obtain⟨j,hj,ej⟩:=key
 have g:=KR hj
 have q:=h.nx j _ g
 rw[ej,hi]at q
 have mj:=h.lt _ (K1 g)
 have:=p.inj _ _ ha mj (Lm q)
 rw[this]
 exact K1 g
structure dY(f:Nat->Nat)(N i:Nat)(rs:List (List Nat)):Prop where
 ring:∀ r∈rs,Ring f N r
 hdl:∀ r∈rs,∀ h,r[0]?=some h->h<i/\∀ d∈r,h<=d
 asc:∀(a b:Nat)(r r':List Nat)(h h':Nat),a<b->rs[a]?=some r->rs[b]?=some r'->r[0]?=some h->r'[0]?=some h'->h<h'
 nd:rs.flatten.Nodup
 all:∀ d,d<i->d∈rs.flatten
theorem Cw(f:Nat->Nat)(N:Nat):dY f N 0 [] where
 ring:=fun r h=>by cases h
 hdl:=fun r h=>by cases h
 asc:=fun a b r r' h h' _ e=>by cases e
 nd:=by simp
 all:=fun d h=>by omega
theorem dY.skip{f:Nat->Nat}{N i:Nat}{rs:List (List Nat)}(w:dY f N i rs)(h:i∈rs.flatten):dY f N (i+1) rs where
 ring:=w.ring
 hdl:=fun r hr x hx=>⟨by have:=(w.hdl r hr x hx).1;omega,(w.hdl r hr x hx).2⟩
 asc:=w.asc
 nd:=w.nd
 all:=fun d hd=>by
  by_cases z:d=i
  ·rw[z];exact h
  ·exact w.all d (by omega)
theorem dY.put{f:Nat->Nat}{N i:Nat}{rs:List (List Nat)}{r:List Nat}(p:Hg f N)(w:dY f N i rs)(h:i∉rs.flatten)(hi:i<N)(hr:Ring f N r)(pa:Path f N i r):dY f N (i+1) (rs++[r]):=by
 have apart:∀(k x:Nat),r[k]?=some x->x∉rs.flatten:=fun k=>by
  induction k with
  |zero =>
   intro x hx
   rw[pa.hd]at hx
   cases hx
   exact h
  |succ k ih =>
   intro x hx z
   have hl:=(KS.mp hx).1
   have g:=KR (show k<r.length by omega)
   have e:=pa.nx k _ _ g hx
   obtain⟨q,hq,zq⟩:=LP.mp z
   rw[e]at zq
   exact ih _ g (LP.mpr ⟨q,hq,(w.ring q hq).back p (hr.lt _ (K1 g)) zq⟩)
 have least:∀ d∈r,i<=d:=fun d hd=>by
  obtain⟨k,hk⟩:=LO.mp hd
  by_cases z:i<=d
  ·exact z
  ·exact absurd (w.all d (by omega)) (apart k d hk)
 refine⟨fun q hq=>?_,fun q hq x hx=>?_,fun a b q q' x x' hab ha hb hx hx'=>?_,?_,fun d hd=>?_⟩
 ·rcases La.mp hq with z | z
  ·exact w.ring q z
  ·have:q=r:=by simpa using z
   rw[this];exact hr
 ·rcases La.mp hq with z | z
  ·have:=w.hdl q z x hx
   exact⟨by omega,this.2⟩
  ·have e:q=r:=by simpa using z
   subst e
   rw[pa.hd]at hx
   cases hx
   exact⟨by omega,least⟩
 ·have bl:=(KS.mp hb).1
  rw[KU,K4]at bl
  rw[KZ (by omega)]at ha
  by_cases z:b<rs.length
  ·rw[KZ z]at hb
   exact w.asc a b q q' x x' hab ha hb hx hx'
  ·have eb:b=rs.length:=by omega
   subst eb
   rw[KY (K3 _),Ln]at hb
   have e:r=q':=Lm hb
   subst e
   rw[pa.hd]at hx'
   cases hx'
   exact(w.hdl q (K1 ha) x hx).1
 ·rw[LY]
  have e : [r].flatten=r:=by simp
  rw[e]
  refine Lp.mpr ⟨w.nd,hr.nd,fun a ha b hb e=>?_⟩
  obtain⟨k,hk⟩:=LO.mp hb
  exact apart k b hk (e▸ha)
 ·rw[LY,La]
  by_cases z:d=i
  ·right
   rw[z]
   simp
   exact K1 pa.hd
  ·exact .inl (w.all d (by omega))
theorem Kq{rs:List (List Nat)}(nd:rs.flatten.Nodup){a b:Nat}{r r':List Nat}{d:Nat}(ha:rs[a]?=some r)(hb:rs[b]?=some r')(h1:d∈r)(h2:d∈r'):a=b:=by
 induction rs generalizing a b with
 |nil=>cases ha
 |cons q rs ih =>
  rw[LG]at nd
  obtain⟨_,n2,n3⟩:=Lp.mp nd
  cases a with
  |zero =>
   cases b with
   |zero=>rfl
   |succ b =>
    have e:q=r:=Lm ha
    subst e
    exact absurd rfl (n3 d h1 d (LP.mpr ⟨r',K1 hb,h2⟩))
  |succ a =>
   cases b with
   |zero =>
    have e:q=r':=Lm hb
    subst e
    exact absurd rfl (n3 d h2 d (LP.mpr ⟨r,K1 ha,h1⟩))
   |succ b=>exact congrArg Nat.succ (ih n2 ha hb)
end K8
namespace K8
def ji(f:Nat->Nat):Nat->List Nat->Nat->Prop
 |x,[],z=>f x=z
 |x,y::l,z=>f x=y/\ji f y l z
theorem gG{f:Nat->Nat}:∀{x:Nat}{l:List Nat}{y:Nat}{k:List Nat}{z:Nat},ji f x (l++y::k) z↔ji f x l y/\ji f y k z
 |x,[],y,k,z=>Iff.rfl
 |x,a::l,y,k,z=>by
  show(f x=a/\ji f a (l++y::k) z)↔(f x=a/\ji f a l y)/\ji f y k z
  rw[gG,and_assoc]
theorem la{f g:Nat->Nat}:∀{x y:Nat}{l:List Nat}{z:Nat},ji f x l z->g y=f x->(∀ t∈l,g t=f t)->ji g y l z
 |x,y,[],z,h,e,_=>e.trans h
 |x,y,a::l,z,h,e,k=>⟨e.trans h.1,la h.2 (k a (Lg ..)) fun t ht=>k t (K6 _ ht)⟩
theorem xX{f g F:Nat->Nat}:∀{x:Nat}{l:List Nat}{z:Nat},ji f x l z->(∀ t∈x::l,g (F t)=F (f t))->ji g (F x) (l.map F) (F z)
 |x,[],z,h,k=>by
  show g (F x)=F z
  rw[k x (Lg ..),show f x=z from h]
 |x,a::l,z,h,k=>⟨by rw[k x (Lg ..),h.1],xX h.2 fun t ht=>k t (K6 _ ht)⟩
theorem pO{f:Nat->Nat}{S:Nat->Prop}:∀{x:Nat}{l:List Nat}{z:Nat},ji f x l z->(∀ t∈x::l,S t->S (f t))->S x->S z/\∀ t∈l,S t
 |x,[],z,h,k,s=>⟨by have:=k x (Lg ..) s;rwa[show f x=z from h]at this,fun t ht=>nomatch ht⟩
 |x,a::l,z,h,k,s=>by
  have s1:S a:=by have:=k x (Lg ..) s;rwa[h.1]at this
  obtain⟨h1,h2⟩:=pO h.2 (fun t ht=>k t (K6 _ ht)) s1
  refine⟨h1,fun t ht=>?_⟩
  rcases K0.mp ht with y | y
  ·rw[y];exact s1
  ·exact h2 t y
structure CR(f:Nat->Nat)(N:Nat)(r:List Nat):Prop where
 ch:∃ x l,r=x::l/\ji f x l x
 lt:∀ d∈r,d<N
 nd:r.Nodup
theorem CR.closed{f:Nat->Nat}{N:Nat}{r:List Nat}(h:CR f N r):∀ d∈r,f d∈r:=by
 obtain⟨x,l,rfl,c⟩:=h.ch
 intro d hd
 rcases K0.mp hd with y | y
 ·subst y
  cases l with
  |nil=>rw[show f d=d from c];exact Lg ..
  |cons a l=>rw[c.1];simp
 ·obtain⟨A,B,rfl⟩:=MY y
  have c2:=(gG.mp c).2
  cases B with
  |nil=>rw[show f d=x from c2];exact Lg ..
  |cons a B=>rw[c2.1];simp
theorem CR.sub{f:Nat->Nat}{N:Nat}{r:List Nat}{S:Nat->Prop}(h:CR f N r)(k:∀ t∈r,S t->S (f t)){d:Nat}(hd:d∈r)(s:S d):∀ t∈r,S t:=by
 obtain⟨x,l,rfl,c⟩:=h.ch
 have fromx:S x->∀ t∈x::l,S t:=fun sx t ht=>by
  rcases K0.mp ht with y | y
  ·rw[y];exact sx
  ·exact(pO c k sx).2 t y
 rcases K0.mp hd with y | y
 ·exact fromx (y▸s)
 ·obtain⟨A,B,rfl⟩:=MY y
  have c2:=(gG.mp c).2
  exact fromx (pO c2 (fun t ht=>k t (by simp only[K0,La]at ht ⊢;rcases ht with z | z<;>simp[z])) s).1
theorem CR.same{f:Nat->Nat}{N:Nat}{r r':List Nat}(h:CR f N r)(h':CR f N r'){d:Nat}(h1:d∈r)(h2:d∈r'):∀ t∈r,t∈r':=h.sub (S:=fun t=>t∈r') (fun t _=>h'.closed t) h1 h2
theorem CR.ne{f:Nat->Nat}{N:Nat}{r:List Nat}(h:CR f N r):∃ d,d∈r:=by
 obtain⟨x,l,rfl,_⟩:=h.ch
 exact⟨x,Lg ..⟩
structure Part(f:Nat->Nat)(N:Nat)(rs:List (List Nat)):Prop where
 cr:∀ r∈rs,CR f N r
 nd:rs.flatten.Nodup
 all:∀ d,d<N->d∈rs.flatten
theorem Part.pick{f:Nat->Nat}{N:Nat}{rs:List (List Nat)}(p:Part f N rs){r:List Nat}(h:CR f N r):∃ rest,Part f N (r::rest)/\rest.length+1=rs.length:=by
 obtain⟨d,hd⟩:=h.ne
 obtain⟨r0,m1,m2⟩:=LP.mp (p.all d (h.lt d hd))
 have c0:=p.cr r0 m1
 have s1:=h.same c0 hd m2
 have s2:=c0.same h m2 hd
 obtain⟨A,B,rfl⟩:=MY m1
 have nd:=p.nd
 rw[LY,LG]at nd
 obtain⟨n1,n2,n3⟩:=Lp.mp nd
 obtain⟨n4,n5,n6⟩:=Lp.mp n2
 refine⟨A++B,⟨fun q hq=>?_,?_,fun y hy=>?_⟩,by simp;omega⟩
 ·rcases K0.mp hq with z | z
  ·rw[z];exact h
  ·refine p.cr q ?_
   rcases La.mp z with z | z
   ·simp[z]
   ·simp[z]
 ·rw[LG,LY]
  refine Lp.mpr ⟨h.nd,Lp.mpr ⟨n1,n5,fun a ha b hb=>n3 a ha b (by simp[hb])⟩,fun a ha b hb=>?_⟩
  rcases La.mp hb with z | z
  ·exact fun e=>n3 b z a (LC _ (s1 a ha)) e.symm
  ·exact n6 a (s1 a ha) b z
 ·have:=p.all y hy
  rw[LY,LG]at this
  rw[LG,LY]
  simp only[La]at this ⊢
  rcases this with z | z | z
  ·exact .inr (.inl z)
  ·exact .inl (s2 y z)
  ·exact .inr (.inr z)
theorem Part.same:∀{rs qs:List (List Nat)}{f:Nat->Nat}{N:Nat},Part f N rs->Part f N qs->rs.length=qs.length:=by
 have le:∀(k:Nat){rs qs:List (List Nat)}{f:Nat->Nat}{N:Nat},Part f N rs->Part f N qs->rs.length<=qs.length:=by
  intro _ rs qs f N p q
  have g:∀ r∈rs,∃ i,i<qs.length/\∃ r',qs[i]?=some r'/\∀ t∈r',t∈r:=fun r hr=>by
   have c:=p.cr r hr
   obtain⟨d,hd⟩:=c.ne
   obtain⟨r',m1,m2⟩:=LP.mp (q.all d (c.lt d hd))
   obtain⟨i,hi⟩:=LO.mp m1
   exact⟨i,(KS.mp hi).1,r',hi,(q.cr r' m1).same c m2 hd⟩
  have:∀(l:List (List Nat)),(∀ r∈l,r∈rs)->l.flatten.Nodup->∃ is:List Nat,is.length=l.length/\is.Nodup/\∀ i∈is,i<qs.length/\∃ r∈l,∃ r',qs[i]?=some r'/\∀ t∈r',t∈r:=fun l=>by
   induction l with
   |nil=>intro _ _;exact⟨[],rfl,M0,fun i hi=>nomatch hi⟩
   |cons r l ih =>
    intro h nd
    rw[LG]at nd
    obtain⟨n1,n2,n3⟩:=Lp.mp nd
    obtain⟨is,e1,e2,e3⟩:=ih (fun r hr=>h r (K6 _ hr)) n2
    obtain⟨i,h1,r',h2,h3⟩:=g r (h r (Lg ..))
    refine⟨i::is,by simp[e1],Li.mpr ⟨fun z=>?_,e2⟩,fun j hj=>?_⟩
    ·obtain⟨_,r2,m2,r3,m3,m4⟩:=e3 i z
     rw[h2]at m3
     cases m3
     obtain⟨d,hd⟩:=(q.cr r' (K1 h2)).ne
     exact n3 d (h3 d hd) d (LP.mpr ⟨r2,m2,m4 d hd⟩) rfl
    ·rcases K0.mp hj with z | z
     ·subst z;exact⟨h1,r,Lg ..,r',h2,h3⟩
     ·obtain⟨k1,r2,k2,k3⟩:=e3 j z
      exact⟨k1,r2,K6 _ k2,k3⟩
  obtain⟨is,e1,e2,e3⟩:=this rs (fun _ h=>h) p.nd
  rw[← e1]
  exact gO e2 fun i hi=>(e3 i hi).1
 intro rs qs f N p q
 exact Nat.le_antisymm (le 0 p q) (le 0 q p)
theorem Ring.cr{f:Nat->Nat}{N:Nat}{r:List Nat}(h:Ring f N r):CR f N r:=by
 refine⟨?_,h.lt,h.nd⟩
 have ne:=h.ne
 match r,h,ne with
 |x::l,h,_ =>
  refine⟨x,l,rfl,?_⟩
  have key:∀(k i:Nat)(y:Nat),i+k+1=(x::l).length->(x::l)[i]?=some y->ji f y ((x::l).drop (i+1)) x:=fun k=>by
   induction k with
   |zero =>
    intro i y hi hy
    have e:=h.nx i y hy
    rw[show(i+1)%(x::l).length=0 by rw[← hi];simp]at e
    rw[List.drop_of_length_le (by omega)]
    exact(Lm e).symm
   |succ k ih =>
    intro i y hi hy
    have e:=h.nx i y hy
    rw[Mh (by omega)]at e
    obtain⟨hl,e2⟩:=KS.mp e
    rw[List.drop_eq_getElem_cons hl,e2]
    exact⟨rfl,ih (i+1) (f y) (by omega) e⟩
  exact key l.length 0 x (by simp) rfl
theorem dY.part{f:Nat->Nat}{N:Nat}{rs:List (List Nat)}(w:dY f N N rs):Part f N rs:=⟨fun r hr=>(w.ring r hr).cr,w.nd,w.all⟩
end K8
namespace K8
theorem xt{A B:List Nat}{t:Nat}(h:t∉A):(A++t::B).idxOf t=A.length:=by
 rw[List.idxOf_append,if_neg h,List.idxOf_cons_self,Nat.zero_add]
theorem a9{A B:List Nat}{t:Nat}(h:t∉A):nxt (A++t::B) t=((B++(A++t::B)).head?).getD 0:=by
 unfold nxt
 rw[xt h]
 cases B with
 |nil =>
  have e:(A.length+1)%(A++[t]).length=0:=by rw[KU,K4,Nj]
  rw[e,List.nil_append,List.head?_eq_getElem?]
 |cons b B =>
  have e:(A.length+1)%(A++t::b::B).length=A.length+1:=Mh (by simp)
  rw[e,KY (by omega)]
  rw[show A.length+1-A.length=1 by omega]
  rfl
theorem FZ{A B:List Nat}{u n:Nat}(h:u∉A):ins (A++u::B) ((A++u::B).idxOf u+1) n=A++u::n::B:=by
 rw[xt h]
 unfold ins
 have e1:(A++u::B).take (A.length+1)=A++[u]:=by
  rw[List.take_append,Mx (by omega),show A.length+1-A.length=1 by omega]
  rfl
 have e2:(A++u::B).drop (A.length+1)=B:=by simp
 rw[e1,e2]
 simp
theorem fL{l:List Nat}{u:Nat}(h:u∈l):∃ A B,l=A++u::B/\u∉A:=by
 induction l with
 |nil=>exact nomatch h
 |cons a l ih =>
  by_cases z:a=u
  ·subst z;exact⟨[],l,rfl,LW⟩
  ·rcases K0.mp h with y | y
   ·exact absurd y.symm z
   ·obtain⟨A,B,rfl,k⟩:=ih y
    exact⟨a::A,B,rfl,fun w=>by rcases K0.mp w with w | w;exact z w.symm;exact k w⟩
theorem J2{l:List Nat}{u n:Nat}(hu:u∈l)(hn:n∉l) :
  nxt (ins l (l.idxOf u+1) n) u=n/\nxt (ins l (l.idxOf u+1) n) n=nxt l u/\∀ t∈l,t≠u->nxt (ins l (l.idxOf u+1) n) t=nxt l t:=by
 obtain⟨A,B,rfl,k⟩:=fL hu
 rw[FZ k]
 have hnA:n∉A:=fun z=>hn (by simp[z])
 have hnu:n≠u:=fun z=>hn (by simp[z])
 refine⟨?_,?_,fun t ht htu=>?_⟩
 ·rw[a9 k];rfl
 ·have e:A++u::n::B=(A++[u])++n::B:=by simp
  rw[e,a9 (fun z=>by rcases La.mp z with z | z;exact hnA z;exact hnu (by simpa using z)),a9 k]
  cases B<;>cases A<;>rfl
 ·rcases La.mp ht with z | z
  ·obtain⟨A1,A2,rfl,k2⟩:=fL z
   have e1:(A1++t::A2)++u::n::B=A1++t::(A2++u::n::B):=by simp
   have e2:(A1++t::A2)++u::B=A1++t::(A2++u::B):=by simp
   rw[e1,e2,a9 k2,a9 k2]
   cases A2<;>rfl
  ·have z':t∈B:=by
    rcases K0.mp z with z | z
    ·exact absurd z htu
    ·exact z
   by_cases tA:t∈A
   ·obtain⟨A1,A2,rfl,k2⟩:=fL tA
    have e1:(A1++t::A2)++u::n::B=A1++t::(A2++u::n::B):=by simp
    have e2:(A1++t::A2)++u::B=A1++t::(A2++u::B):=by simp
    rw[e1,e2,a9 k2,a9 k2]
    cases A2<;>rfl
   ·obtain⟨B1,B2,rfl,k2⟩:=fL z'
    have tn:t≠n:=fun y=>hn (by rw[← y];simp)
    have e1:A++u::n::(B1++t::B2)=(A++u::n::B1)++t::B2:=by simp
    have e2:A++u::(B1++t::B2)=(A++u::B1)++t::B2:=by simp
    rw[e1,e2,a9 (by simp[tA,htu,tn,k2]),a9 (by simp[tA,htu,k2])]
    cases B2<;>cases A<;>rfl
theorem o4{es:En}{e:Nat×Nat}{t p:Nat}(h:t<es.length):q0 (es++[e]) t p=q0 es t p:=by
 unfold q0
 rw[KZ h]
theorem w6{es:En}{e:Nat×Nat}{p:Nat}:q0 (es++[e]) es.length p=if e.1=p then 2*es.length else 2*es.length+1:=by
 unfold q0
 rw[KY (K3 _),Ln]
 rfl
theorem rO{es:En}{e:Nat×Nat}{d:Nat}(h:d<2*es.length):hd (es++[e]) d=hd es d:=by
 unfold hd
 rw[KZ (by omega)]
theorem hd_new{es:En}{e:Nat×Nat}:hd (es++[e]) (2*es.length)=e.2/\hd (es++[e]) (2*es.length+1)=e.1:=by
 have e1:2*es.length/2=es.length:=by omega
 have e2:(2*es.length+1)/2=es.length:=by omega
 constructor
 ·unfold hd
  rw[e1,KY (K3 _),Ln]
  show(if 2*es.length%2=0 then e.2 else e.1)=_
  rw[if_pos (by omega)]
 ·unfold hd
  rw[e2,KY (K3 _),Ln]
  show(if(2*es.length+1)%2=0 then e.2 else e.1)=_
  rw[if_neg (by omega)]
theorem hd_inj{m:Nat}{es:En}{ts:List (List Nat)}(w:bD m es ts){a b:Nat}(ha:a<2*es.length)(hb:b<2*es.length)(h:hd es a=hd es b)(h2:a/2=b/2):a=b:=by
 obtain⟨e1,_,r1,r2,_⟩:=w.at ha
 obtain⟨e2,_,s1,s2,_⟩:=w.at hb
 rw[h2,s1]at r1
 cases r1
 have hne:=(w.ends e1 (K1 s1)).2.2
 rw[r2,s2]at h
 by_cases z1:a%2=0<;>by_cases z2:b%2=0
 ·omega
 ·rw[if_pos z1,if_neg z2]at h;exact absurd h.symm hne
 ·rw[if_neg z1,if_pos z2]at h;exact absurd h hne
 ·omega
def jh(n:Nat)(e:Nat×Nat)(p:Nat):Nat:=if e.1=p then 2*n else 2*n+1
theorem eQ{es:En}{ts:List (List Nat)}{d:Nat}{l:List Nat}(h:ts[hd es d]?=some l):fol es ts d=q0 es (nxt l (d/2)) (hd es d):=by
 unfold fol
 rw[h]
 rfl
end K8
namespace K8
theorem bD.flip{m:Nat}{es:En}{ts:List (List Nat)}{a b:Nat}(w:bD m (es++[(a,b)]) ts):bD m (es++[(b,a)]) ts:=by
 have key:∀(x y:Nat)(t p:Nat),(∃ e,(es++[(x,y)])[t]?=some e/\(e.1=p∨e.2=p))->∃ e,(es++[(y,x)])[t]?=some e/\(e.1=p∨e.2=p):=fun x y t p=>by
  rintro⟨e,h1,h2⟩
  by_cases z:t<es.length
  ·rw[KZ z]at h1
   exact⟨e,by rw[KZ z];exact h1,h2⟩
  ·have hl:=(KS.mp h1).1
   rw[KU,K4]at hl
   have z':t=es.length:=by omega
   subst z'
   rw[KY (K3 _),Ln]at h1
   cases h1
   exact⟨(y,x),by rw[KY (K3 _),Ln];rfl,h2.symm⟩
 refine⟨w.len,fun e he=>?_,w.nd,fun p l h t=>⟨fun z=>key a b t p ((w.mem p l h t).mp z),fun z=>(w.mem p l h t).mpr (key b a t p z)⟩⟩
 rcases La.mp he with z | z
 ·exact w.ends e (LC _ z)
 ·have:e=(b,a):=by simpa using z
  subst this
  obtain⟨h1,h2,h3⟩:=w.ends (a,b) (by simp)
  exact⟨h2,h1,fun y=>h3 y.symm⟩
theorem bD.room{m:Nat}{es:En}{ts:List (List Nat)}(w:bD m es ts):bD (m+1) es (ts++[[]]):=by
 refine⟨by rw[KU,w.len];rfl,fun e he=>?_,fun p l h=>?_,fun p l h t=>?_⟩
 ·obtain⟨h1,h2,h3⟩:=w.ends e he
  exact⟨by omega,by omega,h3⟩
 all_goals by_cases z:p<ts.length
 ·rw[KZ z]at h
  exact w.nd p l h
 ·have hl:=(KS.mp h).1
  rw[KU,K4]at hl
  have z':p=ts.length:=by omega
  subst z'
  rw[KY (K3 _),Ln]at h
  cases h
  exact M0
 ·rw[KZ z]at h
  exact w.mem p l h t
 ·have hl:=(KS.mp h).1
  rw[KU,K4]at hl
  have z':p=ts.length:=by omega
  subst z'
  rw[KY (K3 _),Ln]at h
  cases h
  refine⟨(fun y=>nomatch y),?_⟩
  rintro⟨e,h1,h2⟩
  obtain⟨k1,k2,_⟩:=w.ends e (K1 h1)
  have:=w.len
  omega
theorem Ks{m:Nat}{es:En}{ts:List (List Nat)}(w:bD m es ts){p:Nat}{l:List Nat}(h:ts[p]?=some l):es.length∉l:=fun z=>by
 obtain⟨x,hx,_⟩:=(w.mem p l h es.length).mp z
 have:=(KS.mp hx).1
 omega
theorem AA{m:Nat}{es:En}{ts ts':List (List Nat)}{e:Nat×Nat}{p u:Nat}{l:List Nat}(w:bD m es ts)(hl:ts[p]?=some l)(hu:u<2*es.length)(hp:hd es u=p)(hl':ts'[p]?=some (ins l (l.idxOf (u/2)+1) es.length)) :
  fol (es++[e]) ts' u=jh es.length e p/\(∀ b,b/2=es.length->hd (es++[e]) b=p->fol (es++[e]) ts' b=fol es ts u)/\∀ d,d<2*es.length->d≠u->hd es d=p->fol (es++[e]) ts' d=fol es ts d:=by
 obtain⟨_,l0,_,_,_,_,g5,g6⟩:=w.at hu
 rw[hp,hl]at g5
 cases g5
 have nn:=Ks w hl
 obtain⟨n1,n2,n3⟩:=J2 g6 nn
 have lt:∀ t∈l,nxt l t<es.length:=fun t ht=>by
  obtain⟨x,hx,_⟩:=(w.mem p l hl (nxt l t)).mp (K1 (g7 ht))
  exact(KS.mp hx).1
 refine⟨?_,fun b hb hpb=>?_,fun d hd' hne hpd=>?_⟩
 ·rw[eQ (l:=ins l (l.idxOf (u/2)+1) es.length) (by rw[rO hu,hp];exact hl'),n1,rO hu,hp,w6]
  rfl
 ·rw[eQ (l:=ins l (l.idxOf (u/2)+1) es.length) (by rw[hpb];exact hl'),hb,n2,hpb,o4 (lt _ g6),eQ (l:=l) (by rw[hp];exact hl),hp]
 ·obtain⟨_,l0,_,_,_,_,k5,k6⟩:=w.at hd'
  rw[hpd,hl]at k5
  cases k5
  have tne:d/2≠u/2:=fun z=>hne (hd_inj w hd' hu (hpd.trans hp.symm) z)
  rw[eQ (l:=ins l (l.idxOf (u/2)+1) es.length) (by rw[rO hd',hpd];exact hl'),n3 _ k6 tne,rO hd',hpd,o4 (lt _ k6),eQ (l:=l) (by rw[hpd];exact hl),hpd]
theorem BY{m:Nat}{es:En}{ts ts':List (List Nat)}{e:Nat×Nat}(w:bD m es ts){d:Nat}(hd':d<2*es.length)(h:ts'[hd es d]?=ts[hd es d]?):fol (es++[e]) ts' d=fol es ts d:=by
 obtain⟨_,l,_,_,_,_,k5,k6⟩:=w.at hd'
 have lt:nxt l (d/2)<es.length:=by
  obtain⟨x,hx,_⟩:=(w.mem _ l k5 (nxt l (d/2))).mp (K1 (g7 k6))
  exact(KS.mp hx).1
 rw[eQ (l:=l) (by rw[rO hd',h];exact k5),rO hd',o4 lt,eQ k5]
theorem cx(n:Nat)(e:Nat×Nat)(p:Nat):jh n e p/2=n:=by
 unfold jh
 split<;>omega
theorem B9{es:En}{one two:Nat}{e:Nat×Nat}(hne:one≠two)(he:e=(one,two)∨e=(two,one)):hd (es++[e]) (jh es.length e one)=two/\hd (es++[e]) (jh es.length e two)=one/\jh es.length e one≠jh es.length e two/\∀ d,d<2*(es.length+1)->d<2*es.length∨d=jh es.length e one∨d=jh es.length e two:=by
 obtain⟨h1,h2⟩:=hd_new (es:=es) (e:=e)
 unfold jh
 rcases he with he | he
 ·have c1:e.1=one:=by rw[he]
  have c2:¬ e.1=two:=by rw[he];exact hne
  have c3:e.2=two:=by rw[he]
  rw[if_pos c1,if_neg c2,h1,h2]
  exact⟨c3,c1,by omega,fun d hd=>by omega⟩
 ·have c1:e.1=two:=by rw[he]
  have c2:¬ e.1=one:=by rw[he];exact fun z=>hne z.symm
  have c3:e.2=one:=by rw[he]
  rw[if_pos c1,if_neg c2,h1,h2]
  exact⟨c1,c3,by omega,fun d hd=>by omega⟩
structure Gr(m:Nat)(es:En)(ts:List (List Nat)):Prop where
 w:bD m es ts
 part:∃ rs,Part (fol es ts) (2*es.length) rs/\m+rs.length=es.length+2
 conn:∀ S:Nat->Prop,(∀ e∈es,S e.1↔S e.2)->∀ p q,p<m->q<m->S p->S q
theorem CR.mono{f g:Nat->Nat}{N M:Nat}{r:List Nat}(h:CR f N r)(hN:N<=M)(k:∀ t∈r,g t=f t):CR g M r:=by
 obtain⟨x,l,rfl,c⟩:=h.ch
 exact⟨⟨x,l,rfl,la c (k x (Lg ..)) fun t ht=>k t (K6 _ ht)⟩,fun d hd=>Lx (h.lt d hd) hN,h.nd⟩
theorem Io{m:Nat}{es:En}{e:Nat×Nat}(c:∀ S:Nat->Prop,(∀ e∈es,S e.1↔S e.2)->∀ p q,p<m->q<m->S p->S q):∀ S:Nat->Prop,(∀ x∈es++[e],S x.1↔S x.2)->∀ p q,p<m->q<m->S p->S q :=
 fun S h=>c S fun x hx=>h x (LC _ hx)
theorem Gr.join{m:Nat}{es:En}{ts:List (List Nat)}(g:Gr m es ts){left right one two:Nat}{e:Nat×Nat}{l l' tail:List Nat}(hl:left<2*es.length)(hr:CR (fol es ts) (2*es.length) (left::tail))(hch:ji (fol es ts) left tail left)(hm:right∈left::tail)
  (h1:hd es left=one) (h2:hd es right=two) (hne:one≠two) (he:e=(one,two)∨e=(two,one)) (e1:ts[one]?=some l) (e2:ts[two]?=some l') :
  Gr m (es++[e]) ((ts.set one (ins l (l.idxOf (left/2)+1) es.length)).set two (ins l' (l'.idxOf (right/2)+1) es.length)):=by
 have w:=g.w
 have hrt:right<2*es.length:=hr.lt right hm
 have hlen:=w.len
 have o1:one<m:=by rw[← hlen];exact(KS.mp e1).1
 have o2:two<m:=by rw[← hlen];exact(KS.mp e2).1
 have W:bD m (es++[e]) ((ts.set one (ins l (l.idxOf (left/2)+1) es.length)).set two (ins l' (l'.idxOf (right/2)+1) es.length)):=by
  rcases he with rfl | rfl
  ·exact w.put o1 o2 hne e1 e2
  ·exact(w.put o1 o2 hne e1 e2).flip
 have r1:((ts.set one (ins l (l.idxOf (left/2)+1) es.length)).set two (ins l' (l'.idxOf (right/2)+1) es.length))[one]?=some (ins l (l.idxOf (left/2)+1) es.length):=by
  rw[LN,if_neg (fun z=>hne z.symm),LN,if_pos rfl,if_pos (by rw[hlen];exact o1)]
 have r2:((ts.set one (ins l (l.idxOf (left/2)+1) es.length)).set two (ins l' (l'.idxOf (right/2)+1) es.length))[two]?=some (ins l' (l'.idxOf (right/2)+1) es.length):=by
  rw[LN,if_pos rfl,if_pos (by rw[LA,hlen];exact o2)]
 have r3:∀ p,p≠one->p≠two->((ts.set one (ins l (l.idxOf (left/2)+1) es.length)).set two (ins l' (l'.idxOf (right/2)+1) es.length))[p]?=ts[p]?:=fun p n1 n2=>by
  rw[LN,if_neg (fun z=>n2 z.symm),LN,if_neg (fun z=>n1 z.symm)]
 generalize (ts.set one (ins l (l.idxOf (left/2)+1) es.length)).set two (ins l' (l'.idxOf (right/2)+1) es.length)=ts' at W r1 r2 r3
 obtain⟨a1,a2,a3⟩:=AA (e:=e) w e1 hl h1 r1
 obtain⟨b1,b2,b3⟩:=AA (e:=e) w e2 hrt h2 r2
 obtain⟨d1,d2,d3,d4⟩:=B9 (es:=es) hne he
 have fa:=b2 _ (cx _ _ _) d1
 have fb:=a2 _ (cx _ _ _) d2
 have els:∀ d,d<2*es.length->d≠left->d≠right->fol (es++[e]) ts' d=fol es ts d:=fun d hd' n1 n2=>by
  by_cases z1:hd es d=one
  ·exact a3 d hd' n1 z1
  ·by_cases z2:hd es d=two
   ·exact b3 d hd' n2 z2
   ·exact BY w hd' (r3 _ z1 z2)
 generalize ha:jh es.length e one=α at *
 generalize hb:jh es.length e two=β at *
 have hα:α/2=es.length:=by rw[← ha];exact cx _ _ _
 have hβ:β/2=es.length:=by rw[← hb];exact cx _ _ _
 have hlr:right≠left:=fun z=>hne (by rw[← h1,← h2,z])
 have hm':right∈tail:=by
  rcases K0.mp hm with z | z
  ·exact absurd z hlr
  ·exact z
 obtain⟨xs,ys,rfl⟩:=MY hm'
 obtain⟨c1,c2⟩:=gG.mp hch
 have nd:=hr.nd
 have ltx:∀ t∈xs,t<2*es.length/\t≠left/\t≠right:=fun t ht=>by
  refine⟨hr.lt t (by simp[ht]),fun z=>?_,fun z=>?_⟩
  ·subst z;exact(Li.mp nd).1 (by simp[ht])
  ·subst z
   have:=(Lp.mp (Li.mp nd).2).2.2 t ht t (by simp)
   exact this rfl
 have lty:∀ t∈ys,t<2*es.length/\t≠left/\t≠right:=fun t ht=>by
  refine⟨hr.lt t (by simp[ht]),fun z=>?_,fun z=>?_⟩
  ·subst z;exact(Li.mp nd).1 (by simp[ht])
  ·subst z
   exact(Li.mp (Lp.mp (Li.mp nd).2).2.1).1 ht
 obtain⟨rs,p,cnt⟩:=g.part
 obtain⟨rest,pr,cnt2⟩:=p.pick hr
 have ndr:=pr.nd
 rw[LG]at ndr
 obtain⟨_,nd2,nd3⟩:=Lp.mp ndr
 have ltr:∀ t∈rest.flatten,t<2*es.length/\t≠left/\t≠right:=fun t ht=>by
  obtain⟨q,q1,q2⟩:=LP.mp ht
  exact⟨(pr.cr q (K6 _ q1)).lt t q2,fun z=>nd3 left (by simp) t ht z.symm,fun z=>nd3 right (by simp) t ht z.symm⟩
 have hlen2:(es++[e]).length=es.length+1:=by rw[KU];rfl
 refine⟨W,⟨(left::α::ys)::(right::β::xs)::rest,⟨fun q hq=>?_,?_,fun d hd'=>?_⟩,by rw[hlen2];simp only[Lw]at cnt2 ⊢;omega⟩,Io g.conn⟩
 ·rcases K0.mp hq with z | z
  ·subst z
   refine⟨⟨left,α::ys,rfl,a1,la c2 fa fun t ht=>els t (lty t ht).1 (lty t ht).2.1 (lty t ht).2.2⟩,fun d hd'=>?_,?_⟩
   ·rw[hlen2]
    simp only[K0]at hd'
    rcases hd' with y | y | y
    ·omega
    ·omega
    ·have:=(lty d y).1;omega
   ·refine Li.mpr ⟨fun y=>?_,Li.mpr ⟨fun y=>?_,?_⟩⟩
    ·rcases K0.mp y with y | y
     ·omega
     ·exact(lty _ y).2.1 rfl
    ·have:=(lty _ y).1;omega
    ·exact(Li.mp (Lp.mp (Li.mp nd).2).2.1).2
  ·rcases K0.mp z with z | z
   ·subst z
    refine⟨⟨right,β::xs,rfl,b1,la c1 fb fun t ht=>els t (ltx t ht).1 (ltx t ht).2.1 (ltx t ht).2.2⟩,fun d hd'=>?_,?_⟩
    ·rw[hlen2]
     simp only[K0]at hd'
     rcases hd' with y | y | y
     ·omega
     ·omega
     ·have:=(ltx d y).1;omega
    ·refine Li.mpr ⟨fun y=>?_,Li.mpr ⟨fun y=>?_,?_⟩⟩
     ·rcases K0.mp y with y | y
      ·omega
      ·exact(ltx _ y).2.2 rfl
     ·have:=(ltx _ y).1;omega
     ·exact(Lp.mp (Li.mp nd).2).1
   ·refine(pr.cr q (K6 _ z)).mono (by rw[hlen2];omega) fun t ht=>?_
    obtain⟨k1,k2,k3⟩:=ltr t (LP.mpr ⟨q,z,ht⟩)
    exact els t k1 k2 k3
 ·have dis:∀ x∈xs,∀ y∈ys,x≠y:=fun x hx y hy=>(Lp.mp (Li.mp nd).2).2.2 x hx y (by simp[hy])
  rw[LG,LG]
  refine Lp.mpr ⟨?_,Lp.mpr ⟨?_,nd2,fun a ha b hb=>?_⟩,fun a ha b hb=>?_⟩
  ·refine Li.mpr ⟨fun y=>?_,Li.mpr ⟨fun y=>?_,(Li.mp (Lp.mp (Li.mp nd).2).2.1).2⟩⟩
   ·rcases K0.mp y with y | y
    ·omega
    ·exact(lty _ y).2.1 rfl
   ·have:=(lty _ y).1;omega
  ·refine Li.mpr ⟨fun y=>?_,Li.mpr ⟨fun y=>?_,(Lp.mp (Li.mp nd).2).1⟩⟩
   ·rcases K0.mp y with y | y
    ·omega
    ·exact(ltx _ y).2.2 rfl
   ·have:=(ltx _ y).1;omega
  ·obtain⟨k1,k2,k3⟩:=ltr b hb
   simp only[K0]at ha
   rcases ha with y | y | y
   ·exact fun z=>k3 (z▸y)
   ·omega
   ·exact nd3 a (by simp[y]) b hb
  ·simp only[K0,La]at ha hb
   rcases hb with(y | y | y) | y
   ·rcases ha with z | z | z
    ·exact fun u=>hlr (by rw[← y,← u,z])
    ·have:=hrt;omega
    ·exact fun u=>(lty a z).2.2 (u.trans y)
   ·rcases ha with z | z | z
    ·omega
    ·omega
    ·have:=(lty a z).1;omega
   ·rcases ha with z | z | z
    ·exact fun u=>(ltx b y).2.1 (u▸z)
    ·have:=(ltx b y).1;omega
    ·exact fun u=>dis b y a z u.symm
   ·obtain⟨k1,k2,k3⟩:=ltr b y
    rcases ha with z | z | z
    ·exact fun u=>k2 (u▸z)
    ·omega
    ·exact nd3 a (by simp[z]) b y
 ·rw[hlen2]at hd'
  simp only[LG,La,K0]
  rcases d4 d hd' with y | y | y
  ·have:=pr.all d y
   simp only[LG,La,K0]at this
   rcases this with(z | z | z | z) | z
   ·exact .inl (.inl z)
   ·exact .inr (.inl (.inr (.inr z)))
   ·exact .inr (.inl (.inl z))
   ·exact .inl (.inr (.inr z))
   ·exact .inr (.inr z)
  ·exact .inl (.inr (.inl y))
  ·exact .inr (.inl (.inr (.inl y)))
end K8
namespace K8
theorem Gr.leaf{m:Nat}{es:En}{ts:List (List Nat)}(g:Gr m es ts){left one:Nat}{e:Nat×Nat}{l tail:List Nat}(hl:left<2*es.length)(hr:CR (fol es ts) (2*es.length) (left::tail))(hch:ji (fol es ts) left tail left)
  (h1:hd es left=one) (he:e=(one,m)∨e=(m,one)) (e1:ts[one]?=some l) :
  Gr (m+1) (es++[e]) (ts.set one (ins l (l.idxOf (left/2)+1) es.length)++[[es.length]]):=by
 have w:=g.w
 have hlen:=w.len
 have o1:one<m:=by rw[← hlen];exact(KS.mp e1).1
 have hne:one≠m:=by omega
 have W:bD (m+1) (es++[e]) (ts.set one (ins l (l.idxOf (left/2)+1) es.length)++[[es.length]]):=by
  have q:=w.room.put (one:=one) (two:=m) (k:=l.idxOf (left/2)+1) (j:=0) (l:=l) (l':=[]) (by omega) (by omega) hne (by rw[KZ (by omega)];exact e1) (by rw[KY (by omega),hlen,Ln];rfl)
  have q2:((ts++[[]]).set one (ins l (l.idxOf (left/2)+1) es.length)).set m (ins [] 0 es.length)=ts.set one (ins l (l.idxOf (left/2)+1) es.length)++[[es.length]]:=by
   rw[List.set_append_left _ _ (by omega),List.set_append_right _ _ (by rw[LA];omega),LA,hlen,Ln]
   rfl
  rw[q2]at q
  rcases he with rfl | rfl
  ·exact q
  ·exact q.flip
 have r1:(ts.set one (ins l (l.idxOf (left/2)+1) es.length)++[[es.length]])[one]?=some (ins l (l.idxOf (left/2)+1) es.length):=by
  rw[KZ (by rw[LA];omega),LN,if_pos rfl,if_pos (by omega)]
 have r2:(ts.set one (ins l (l.idxOf (left/2)+1) es.length)++[[es.length]])[m]?=some [es.length]:=by
  rw[KY (by rw[LA];omega),LA,hlen,Ln]
  rfl
 have r3:∀ p,p≠one->p<m->(ts.set one (ins l (l.idxOf (left/2)+1) es.length)++[[es.length]])[p]?=ts[p]?:=fun p n1 n2=>by
  rw[KZ (by rw[LA];omega),LN,if_neg (fun z=>n1 z.symm)]
 generalize ts.set one (ins l (l.idxOf (left/2)+1) es.length)++[[es.length]]=ts' at W r1 r2 r3
 obtain⟨a1,a2,a3⟩:=AA (e:=e) w e1 hl h1 r1
 obtain⟨d1,d2,d3,d4⟩:=B9 (es:=es) hne he
 have fb:=a2 _ (cx _ _ _) d2
 have fa:fol (es++[e]) ts' (jh es.length e one)=jh es.length e m:=by
  rw[eQ (l:=[es.length]) (by rw[d1];exact r2),cx,d1]
  have:nxt [es.length] es.length=es.length:=by
   unfold nxt
   rw[List.idxOf_cons_self]
   simp
  rw[this,w6]
  rfl
 have els:∀ d,d<2*es.length->d≠left->fol (es++[e]) ts' d=fol es ts d:=fun d hd' n1=>by
  by_cases z1:hd es d=one
  ·exact a3 d hd' n1 z1
  ·obtain⟨_,_,_,_,_,k4,_⟩:=w.at hd'
   exact BY w hd' (r3 _ z1 k4)
 generalize ha:jh es.length e one=α at *
 generalize hb:jh es.length e m=β at *
 have hα:α/2=es.length:=by rw[← ha];exact cx _ _ _
 have hβ:β/2=es.length:=by rw[← hb];exact cx _ _ _
 have nd:=hr.nd
 have ltt:∀ t∈tail,t<2*es.length/\t≠left:=fun t ht=>⟨hr.lt t (by simp[ht]),fun z=>(Li.mp nd).1 (z▸ht)⟩
 obtain⟨rs,p,cnt⟩:=g.part
 obtain⟨rest,pr,cnt2⟩:=p.pick hr
 have ndr:=pr.nd
 rw[LG]at ndr
 obtain⟨_,nd2,nd3⟩:=Lp.mp ndr
 have ltr:∀ t∈rest.flatten,t<2*es.length/\t≠left:=fun t ht=>by
  obtain⟨q,q1,q2⟩:=LP.mp ht
  exact⟨(pr.cr q (K6 _ q1)).lt t q2,fun z=>nd3 left (by simp) t ht z.symm⟩
 have hlen2:(es++[e]).length=es.length+1:=by rw[KU];rfl
 have nd4:(left::α::β::tail).Nodup:=by
  refine Li.mpr ⟨fun y=>?_,Li.mpr ⟨fun y=>?_,Li.mpr ⟨fun y=>?_,(Li.mp nd).2⟩⟩⟩
  ·simp only[K0]at y
   rcases y with y | y | y
   ·omega
   ·omega
   ·exact(ltt _ y).2 rfl
  ·simp only[K0]at y
   rcases y with y | y
   ·exact d3 y
   ·have:=(ltt _ y).1;omega
  ·have:=(ltt _ y).1;omega
 refine⟨W,⟨(left::α::β::tail)::rest,⟨fun q hq=>?_,?_,fun d hd'=>?_⟩,by rw[hlen2];simp only[Lw]at cnt2 ⊢;omega⟩,fun S hS x y hx hy sx=>?_⟩
 ·rcases K0.mp hq with z | z
  ·subst z
   refine⟨⟨left,α::β::tail,rfl,a1,fa,la hch fb fun t ht=>els t (ltt t ht).1 (ltt t ht).2⟩,fun d hd'=>?_,nd4⟩
   rw[hlen2]
   simp only[K0]at hd'
   rcases hd' with y | y | y | y
   ·omega
   ·omega
   ·omega
   ·have:=(ltt d y).1;omega
  ·refine(pr.cr q (K6 _ z)).mono (by rw[hlen2];omega) fun t ht=>?_
   obtain⟨k1,k2⟩:=ltr t (LP.mpr ⟨q,z,ht⟩)
   exact els t k1 k2
 ·rw[LG]
  refine Lp.mpr ⟨nd4,nd2,fun a ha b hb=>?_⟩
  obtain⟨k1,k2⟩:=ltr b hb
  simp only[K0]at ha
  rcases ha with y | y | y | y
  ·exact fun u=>k2 (u▸y)
  ·omega
  ·omega
  ·exact nd3 a (by simp[y]) b hb
 ·rw[hlen2]at hd'
  simp only[LG,La,K0]
  rcases d4 d hd' with y | y | y
  ·have:=pr.all d y
   simp only[LG,La,K0]at this
   rcases this with(z | z) | z
   ·exact .inl (.inl z)
   ·exact .inl (.inr (.inr (.inr z)))
   ·exact .inr z
  ·exact .inl (.inr (.inl y))
  ·exact .inl (.inr (.inr (.inl y)))
 ·-- in one piece
  have hSe:S one↔S m:=by
   have:=hS e (by simp)
   rcases he with rfl | rfl
   ·exact this
   ·exact this.symm
  have old:=g.conn S fun x hx=>hS x (LC _ hx)
  have toOne:S one:=by
   by_cases z:x<m
   ·exact old x one z o1 sx
   ·have:x=m:=by omega
    subst this
    exact hSe.mpr sx
  by_cases z:y<m
  ·exact old one y o1 z toOne
  ·have:y=m:=by omega
   subst this
   exact hSe.mp toOne
theorem gr_two:Gr 2 [(0,1)] [[0],[0]]:=by
 have W:bD 2 [(0,1)] [[0],[0]]:=by
  refine⟨rfl,fun e he=>?_,fun p l h=>?_,fun p l h t=>?_⟩
  ·have:e=(0,1):=by simpa using he
   subst this
   exact⟨by decide,by decide,by decide⟩
  ·match p,h with
   |0,h=>cases h;decide
   |1,h=>cases h;decide
   |p+2,h=>cases h
  ·have key:(∃ e,([(0,1)]:En)[t]?=some e/\(e.1=p∨e.2=p))↔t=0/\(p=0∨p=1):=by
    constructor
    ·rintro⟨e,h1,h2⟩
     match t,h1 with
     |0,h1=>cases h1;exact⟨rfl,h2.imp Eq.symm Eq.symm⟩
     |t+1,h1=>cases h1
    ·rintro⟨rfl,h2⟩
     exact⟨(0,1),rfl,h2.imp Eq.symm Eq.symm⟩
   rw[key]
   match p,h with
   |0,h=>cases h;simp
   |1,h=>cases h;simp
   |p+2,h=>cases h
 refine⟨W,⟨[[0,1]],⟨fun r hr=>?_,by decide,fun d hd=>?_⟩,rfl⟩,fun S hS p q hp hq sp=>?_⟩
 ·have:r = [0,1]:=by simpa using hr
  subst this
  exact⟨⟨0,[1],rfl,by decide,(by show fol [(0,1)] [[0],[0]] 1=0;decide)⟩,fun d hd=>by simp at hd ⊢;omega,by decide⟩
 ·have hd2:d<2:=hd
  simp
  omega
 ·have:=hS (0,1) (by simp)
  have h01:S 0↔S 1:=this
  have hp':p=0∨p=1:=by omega
  have hq':q=0∨q=1:=by omega
  rcases hp' with rfl | rfl<;>rcases hq' with rfl | rfl
  ·exact sp
  ·exact h01.mp sp
  ·exact h01.mpr sp
  ·exact sp
end K8
namespace K8
structure Bij(F:Nat->Nat)(n:Nat):Prop where
 lt:∀ k,k<n->F k<n
 inj:∀ a b,a<n->b<n->F a=F b->a=b
 sur:∀ y,y<n->∃ k,k<n/\F k=y
def ofL(o:List Nat)(k:Nat):Nat:=(o[k]?).getD 0
theorem Ce{o:List Nat}{n:Nat}(hl:o.length=n)(nd:o.Nodup)(h:∀ x∈o,x<n):Bij (ofL o) n:=by
 have get:∀ k,k<n->o[k]?=some (ofL o k):=fun k hk=>by
  unfold ofL
  rw[KR (by omega)]
  rfl
 refine⟨fun k hk=>h _ (K1 (get k hk)),fun a b ha hb e=>BQ nd (get a ha) (by rw[get b hb,e]),fun y hy=>?_⟩
 have hm:y∈o:=by
  by_cases z:y∈o
  ·exact z
  ·have:=gO (a:=y::o) (N:=n) (Li.mpr ⟨z,nd⟩) fun x hx=>by
    rcases K0.mp hx with u | u
    ·omega
    ·exact h x u
   rw[Lw]at this
   omega
 obtain⟨k,hk⟩:=LO.mp hm
 have hkl:=(KS.mp hk).1
 refine⟨k,by omega,?_⟩
 have:=get k (by omega)
 rw[hk]at this
 exact(Lm this).symm
theorem BP{F:Nat->Nat}:∀{l:List Nat},l.Nodup->(∀ x∈l,∀ y∈l,F x=F y->x=y)->(l.map F).Nodup
 |[],_,_=>M0
 |a::l,nd,h=>by
  obtain⟨n1,n2⟩:=Li.mp nd
  refine Li.mpr ⟨fun z=>?_,BP n2 fun x hx y hy=>h x (K6 _ hx) y (K6 _ hy)⟩
  obtain⟨x,hx,e⟩:=Lq.mp z
  have:=h x (K6 _ hx) a (Lg ..) e
  exact n1 (this▸hx)
theorem J1{F:Nat->Nat}{l:List Nat}{t:Nat}(ht:t∈l)(h:∀ x∈l,F x=F t->x=t):nxt (l.map F) (F t)=F (nxt l t):=by
 obtain⟨A,B,rfl,k⟩:=fL ht
 have k2:F t∉A.map F:=fun z=>by
  obtain⟨x,hx,e⟩:=Lq.mp z
  exact k (h x (by simp[hx]) e▸hx)
 rw[Lz,Lr,a9 k2,a9 k]
 cases B<;>cases A<;>rfl
theorem JZ{X Y:List Nat}{t:Nat}(nd:(X++Y).Nodup)(ht:t∈X++Y):nxt (Y++X) t=nxt (X++Y) t:=by
 obtain⟨n1,n2,n3⟩:=Lp.mp nd
 rcases La.mp ht with z | z
 ·have tY:t∉Y:=fun y=>n3 t z t y rfl
  obtain⟨A,B,rfl,k⟩:=fL z
  have e1:Y++(A++t::B)=(Y++A)++t::B:=by simp
  have e2:(A++t::B)++Y=A++t::(B++Y):=by simp
  rw[e1,e2,a9 (by simp[tY,k]),a9 k]
  cases B<;>cases Y<;>cases A<;>rfl
 ·have tX:t∉X:=fun y=>n3 t y t z rfl
  obtain⟨A,B,rfl,k⟩:=fL z
  have e1:(A++t::B)++X=A++t::(B++X):=by simp
  have e2:X++(A++t::B)=(X++A)++t::B:=by simp
  rw[e1,e2,a9 k,a9 (by simp[tX,k])]
  cases B<;>cases X<;>cases A<;>rfl
structure Ren(m:Nat)(es es2:En)(ts ts2:List (List Nat))(π σ:Nat->Nat):Prop where
 pi:Bij π m
 si:Bij σ es.length
 l1:es2.length=es.length
 l2:ts2.length=m
 es:∀(k:Nat)(e:Nat×Nat),es[k]?=some e->es2[σ k]?=some (π e.1,π e.2)
 ts:∀(p:Nat)(l:List Nat),ts[p]?=some l->∃ X Y,l=X++Y/\ts2[π p]?=some ((Y++X).map σ)
section
variable{m:Nat}{es es2:En}{ts ts2:List (List Nat)}{π σ:Nat->Nat}
theorem Ren.es'(R:Ren m es es2 ts ts2 π σ){j:Nat}{x:Nat×Nat}(h:es2[j]?=some x):∃ k e,σ k=j/\es[k]?=some e/\x=(π e.1,π e.2):=by
 have hj:=(KS.mp h).1
 rw[R.l1]at hj
 obtain⟨k,hk,rfl⟩:=R.si.sur j hj
 have e1:es[k]?=some es[k]:=KR hk
 have:=R.es k _ e1
 rw[h]at this
 exact⟨k,_,rfl,e1,Lm this⟩
theorem Ren.ts'(R:Ren m es es2 ts ts2 π σ)(w:bD m es ts){j:Nat}{L:List Nat}(h:ts2[j]?=some L):∃ p l X Y,p<m/\π p=j/\ts[p]?=some l/\l=X++Y/\L=(Y++X).map σ:=by
 have hj:=(KS.mp h).1
 rw[R.l2]at hj
 obtain⟨p,hp,rfl⟩:=R.pi.sur j hj
 have e1:ts[p]?=some (ts[p]'(by rw[w.len];exact hp)):=KR _
 obtain⟨X,Y,h1,h2⟩:=R.ts p _ e1
 rw[h]at h2
 exact⟨p,_,X,Y,hp,rfl,e1,h1,Lm h2⟩
theorem mS(w:bD m es ts){p:Nat}{l:List Nat}(h:ts[p]?=some l){t:Nat}(ht:t∈l):t<es.length:=by
 obtain⟨x,hx,_⟩:=(w.mem p l h t).mp ht
 exact(KS.mp hx).1
theorem Ren.turn(R:Ren m es es2 ts ts2 π σ)(w:bD m es ts):bD m es2 ts2:=by
 refine⟨R.l2,fun x hx=>?_,fun j L h=>?_,fun j L h t=>?_⟩
 ·obtain⟨j,hj⟩:=LO.mp hx
  obtain⟨k,e,_,h1,rfl⟩:=R.es' hj
  obtain⟨a1,a2,a3⟩:=w.ends e (K1 h1)
  exact⟨R.pi.lt _ a1,R.pi.lt _ a2,fun z=>a3 (R.pi.inj _ _ a1 a2 z)⟩
 ·obtain⟨p,l,X,Y,hp,rfl,h1,rfl,rfl⟩:=R.ts' w h
  have nd:=w.nd p _ h1
  obtain⟨n1,n2,n3⟩:=Lp.mp nd
  refine BP (Lp.mpr ⟨n2,n1,fun a ha b hb z=>n3 b hb a ha z.symm⟩) fun x hx y hy=>R.si.inj x y (mS w h1 ?_) (mS w h1 ?_)
  ·simp only[La]at hx ⊢;exact hx.symm
  ·simp only[La]at hy ⊢;exact hy.symm
 ·obtain⟨p,l,X,Y,hp,rfl,h1,rfl,rfl⟩:=R.ts' w h
  constructor
  ·intro z
   obtain⟨k,hk,rfl⟩:=Lq.mp z
   obtain⟨e,h2,h3⟩:=(w.mem p _ h1 k).mp (by simp only[La]at hk ⊢;exact hk.symm)
   exact⟨_,R.es k e h2,h3.imp (congrArg π) (congrArg π)⟩
  ·rintro⟨x,h2,h3⟩
   obtain⟨k,e,rfl,h4,rfl⟩:=R.es' h2
   obtain⟨a1,a2,a3⟩:=w.ends e (K1 h4)
   have hk:=(w.mem p _ h1 k).mpr ⟨e,h4,h3.imp (R.pi.inj _ _ a1 hp) (R.pi.inj _ _ a2 hp)⟩
   exact Lq.mpr ⟨k,by simp only[La]at hk ⊢;exact hk.symm,rfl⟩
def Phi(σ:Nat->Nat)(d:Nat):Nat:=2*σ (d/2)+d%2
theorem oe(d:Nat):Phi σ d/2=σ (d/2):=by unfold Phi;omega
theorem Ren.hd(R:Ren m es es2 ts ts2 π σ){d:Nat}(hd':d<2*es.length):hd es2 (Phi σ d)=π (hd es d):=by
 have e1:es[d/2]?=some (es[d/2]'(by omega)):=KR _
 have e2:=R.es _ _ e1
 unfold K8.hd
 rw[oe,e1,e2]
 have hm:Phi σ d%2=d%2:=by unfold Phi;omega
 show(if Phi σ d%2=0 then π es[d/2].2 else π es[d/2].1)=π (if d%2=0 then es[d/2].2 else es[d/2].1)
 rw[hm]
 split<;>rfl
theorem Ren.fol(R:Ren m es es2 ts ts2 π σ)(w:bD m es ts){d:Nat}(hd':d<2*es.length):fol es2 ts2 (Phi σ d)=Phi σ (fol es ts d):=by
 obtain⟨_,l,_,_,_,k4,k5,k6⟩:=w.at hd'
 obtain⟨X,Y,rfl,h2⟩:=R.ts _ _ k5
 have nd:=w.nd _ _ k5
 rw[eQ (l:=(Y++X).map σ) (by rw[R.hd hd'];exact h2),eQ k5,oe,R.hd hd']
 have k7:d/2∈Y++X:=by simp only[La]at k6 ⊢;exact k6.symm
 rw[J1 k7 fun x hx=>R.si.inj x _ (mS w k5 (by simp only[La]at hx ⊢;exact hx.symm)) (mS w k5 k6),JZ nd k6]
 have hn:=K1 (g7 k6)
 have hlt:=mS w k5 hn
 generalize nxt (X++Y) (d/2)=t at hlt
 have e1:es[t]?=some es[t]:=KR hlt
 have a1:=(w.ends _ (K1 e1)).1
 unfold q0
 rw[R.es _ _ e1,e1]
 show(if π es[t].1=π (K8.hd es d) then 2*σ t else 2*σ t+1)=Phi σ (if es[t].1=K8.hd es d then 2*t else 2*t+1)
 by_cases z:es[t].1=K8.hd es d
 ·rw[if_pos z,if_pos (congrArg π z)]
  unfold Phi
  rw[show 2*t/2=t by omega]
  omega
 ·rw[if_neg z,if_neg (fun y=>z (R.pi.inj _ _ a1 k4 y))]
  unfold Phi
  rw[show(2*t+1)/2=t by omega]
  omega
theorem Hf(b:Bij σ es.length){x y:Nat}(hx:x<2*es.length)(hy:y<2*es.length)(e:Phi σ x=Phi σ y):x=y:=by
 have e1:σ (x/2)=σ (y/2):=by
  have h1:=oe (σ:=σ) x
  have h2:=oe (σ:=σ) y
  rw[e]at h1
  exact h1.symm.trans h2
 have:=b.inj _ _ (by omega) (by omega) e1
 unfold Phi at e
 omega
theorem Ren.gr(R:Ren m es es2 ts ts2 π σ)(g:Gr m es ts):Gr m es2 ts2:=by
 obtain⟨rs,p,cnt⟩:=g.part
 have flt:∀ d∈rs.flatten,d<2*es.length:=fun d hd=>by
  obtain⟨r,h1,h2⟩:=LP.mp hd
  exact(p.cr r h1).lt d h2
 have hfl:(rs.map (List.map (Phi σ))).flatten=rs.flatten.map (Phi σ):=List.map_flatten.symm
 refine⟨R.turn g.w,⟨rs.map (List.map (Phi σ)),⟨fun q hq=>?_,?_,fun d hd=>?_⟩,by rw[K2,R.l1];exact cnt⟩,fun S hS x y hx hy sx=>?_⟩
 ·obtain⟨r,hr,rfl⟩:=Lq.mp hq
  have c:=p.cr r hr
  obtain⟨x,l,rfl,ch⟩:=c.ch
  refine⟨⟨Phi σ x,l.map (Phi σ),rfl,xX ch fun t ht=>R.fol g.w (c.lt t ht)⟩,fun d hd=>?_,BP c.nd fun a ha b hb=>Hf R.si (c.lt a ha) (c.lt b hb)⟩
  obtain⟨t,ht,rfl⟩:=Lq.mp hd
  have h1:=c.lt t ht
  have h2:=R.si.lt (t/2) (by omega)
  rw[R.l1]
  unfold Phi
  omega
 ·rw[hfl]
  exact BP p.nd fun a ha b hb=>Hf R.si (flt a ha) (flt b hb)
 ·rw[R.l1]at hd
  obtain⟨k,hk,e⟩:=R.si.sur (d/2) (by omega)
  rw[hfl]
  refine Lq.mpr ⟨2*k+d%2,p.all _ (by omega),?_⟩
  unfold Phi
  rw[show(2*k+d%2)/2=k by omega,e]
  omega
 ·obtain⟨x',hx',rfl⟩:=R.pi.sur x hx
  obtain⟨y',hy',rfl⟩:=R.pi.sur y hy
  refine g.conn (fun p=>S (π p)) (fun e he=>?_) x' y' hx' hy' sx
  obtain⟨k,hk⟩:=LO.mp he
  exact hS (π e.1,π e.2) (K1 (R.es k e hk))
end
end K8
namespace K8
open PySem L2
local macro_rules | `(tactic| walk_at "cc") => `(tactic| first | exact ⟨by decide, by decide⟩ | (show (0 : Int) < _; decide) | (show (0 : Int) < _; omega) | (show (0 : Int) ≤ _; omega) | exact ⟨by decide, by decide, by decide⟩ | exact ⟨by omega, by omega, by decide⟩ | exact Or.inl ⟨by decide, by decide⟩ | exact Or.inl ⟨by omega, by omega⟩)
local macro_rules | `(tactic| walk_at "rd") => `(tactic| repeat (first | refine ⟨_, rfl, ?_⟩ | refine ⟨_, _, rfl, rfl, ?_⟩ | refine ⟨rfl, ?_⟩ | (refine ⟨?cc, ?_⟩; (case cc => walk_at "cc"))))
def top(i:Nat):Stmt:=PySem.Challenge.pw_spinfloor_k63_deeds_done.main.body.getD i (.Pass ⟨0,0,0,0⟩)
abbrev fi:Stmt:=top 10
abbrev cu:Stmt:=iu (top 12) 0
abbrev dM:Stmt:=iu (top 12) 1
abbrev cS:Stmt:=iu (top 14) 0
abbrev rM:Stmt:=top 16
abbrev fj:Stmt:=top 17
abbrev dJ:Stmt:=top 18
abbrev cj:Stmt:=top 19
abbrev cL:Stmt:=top 20
abbrev dE:Stmt:=top 21
abbrev bM:Stmt:=top 23
abbrev bz:Stmt:=top 24
abbrev bj:Stmt:=top 25
abbrev cp:Stmt:=iu (top 26) 0
abbrev iR:Stmt:=top 30
abbrev e9:Stmt:=top 31
abbrev e8:Stmt:=top 32
abbrev cM:Stmt:=top 33
abbrev cn:Stmt:=top 34
abbrev bb:Stmt:=top 35
abbrev bN:Stmt:=top 36
abbrev dB:Stmt:=top 37
abbrev cJ:Stmt:=top 38
abbrev lH:Stmt:=top 39
abbrev iS:Stmt:=top 40
abbrev cK:Stmt:=top 41
abbrev cg:Stmt:=top 42
abbrev rL:Stmt:=top 43
abbrev rK:Stmt:=top 44
abbrev bA:Stmt:=top 47
abbrev dA:Stmt:=top 48
abbrev iQ:Stmt:=top 49
abbrev fm:Stmt:=top 50
abbrev fq:Stmt:=top 51
abbrev bO:Stmt:=iu (top 52) 0
abbrev ft:Stmt:=iu (top 52) 1
abbrev cU:Stmt:=iu (top 52) 2
abbrev cT:Stmt:=iu (top 52) 3
abbrev dI:Stmt:=top 54
abbrev dG:Stmt:=top 55
abbrev cm:Stmt:=top 56
abbrev cO:Stmt:=top 57
abbrev cQ:Stmt:=top 58
abbrev cP:Stmt:=top 59
abbrev bc:Stmt:=top 60
abbrev cR:Stmt:=top 61
abbrev cN:Stmt:=top 62
abbrev bB:Stmt:=top 63
abbrev dH:Stmt:=top 64
abbrev ck:Stmt:=top 65
abbrev tH:Stmt:=top 66
def tf(a b s:Int):List (Str×V):=putF "strength" (.int s) (putF "two" (.int b) (putF "one" (.int a) []))
theorem jj(a b s:Int):(tf a b s).lookup ("one" : Str)=some (.int a):=by
 unfold tf
 rw[aE,if_neg (by decide +kernel),aE,if_neg (by decide +kernel),aE,if_pos rfl]
theorem oh(a b s:Int):(tf a b s).lookup ("two" : Str)=some (.int b):=by
 unfold tf
 rw[aE,if_neg (by decide +kernel),aE,if_pos rfl]
theorem IB(a b s:Int):(tf a b s).lookup ("strength" : Str)=some (.int s):=by
 unfold tf
 rw[aE,if_pos rfl]
theorem Hl(a b s:Int){m:Str} (h1:¬ m = "strength") (h2:¬ m = "two") (h3:¬ m = "one"):(tf a b s).lookup m=none:=by
 unfold tf
 rw[aE,if_neg h1,aE,if_neg h2,aE,if_neg h3]
 all_goals rfl
theorem f1_len(a:Int):(putF "one" (.int a) []).length<1000:=by show 1<1000;decide
theorem f2_len(a b:Int):(putF "two" (.int b) (putF "one" (.int a) [])).length<1000:=by
 have e:(putF "two" (.int b) (putF "one" (.int a) []):List (Str×V))=([("one",.int a),("two",.int b)]:List (Str×V)):=by
  show(if("one" : Str) = "two" then[(("one" : Str),V.int b)] else(("one" : Str),V.int a)::putF "two" (V.int b) [])=_
  rw[if_neg (by decide +kernel)]
  all_goals rfl
 rw[e]
 show 2<1000
 decide
structure CT(K:KW)(C:Addr):Prop where
 cl:Cls K C
 n1:dZ K C "one"
 n2:dZ K C "two"
 n3:dZ K C "strength"
def rF(K:KW):Sp:=fun vs H Q _=>∃(p C dx:Addr)(a b s:Int),vs = [.ref p,.int a,.int b,.int s]/\H p=some (.ins C dx [])/\CT K C/\a≠b/\0<=a/\0<=b/\0<=s /\
 ∀ H',H' p=some (.ins C dx (tf a b s))->(∀ q o,H q=some o->q≠p->H' q=some o)->Q .non H'
theorem aj{H:Hp}{p:Addr}(h:H p=none)(o:HO):Same H (upd H p o):=fun b u q=>by rw[aq (ar q h)];exact q
theorem aL{H H2:Hp}{l:Addr}(h:Same H H2)(hl:H l=none)(o:HO):Same H (upd H2 l o):=fun b u q=>by rw[aq (ar q hl)];exact h b u q
def iV(p:Nat):V:=.int (p:Int)
theorem Km{hs:List Nat}{k x:Nat}(h:hs[k]?=some x):atI (hs.map iV) (k:Int)=some (iV x):=aM (by rw[Lb,h];rfl)
def cy(H:Hp)(ys:List V)(es:En):Prop:=ys.length=es.length/\∀(i:Nat)(e:Nat×Nat),es[i]?=some e->∃ p,ys[i]?=some (.ref p)/\H p=some (.tup [iV e.1,iV e.2])
theorem cy.mono{H H':Hp}{ys:List V}{es:En}(h:cy H ys es)(s:Same H H'):cy H' ys es:=⟨h.1,fun i e q=>by
 obtain⟨p,a,b⟩:=h.2 i e q
 exact⟨p,a,s _ _ b⟩⟩
def dm(K:KW)(H:Hp)(xs:List V)(es:En):Prop:=xs.length=es.length/\∀(i:Nat)(e:Nat×Nat),es[i]?=some e->∃ p C dx s,xs[i]?=some (.ref p)/\H p=some (.ins C dx (tf (e.1:Int) (e.2:Int) s))/\CT K C
theorem dm.mono{K:KW}{H H':Hp}{xs:List V}{es:En}(t:dm K H xs es)(h:Same H H'):dm K H' xs es:=⟨t.1,fun i e q=>by
 obtain⟨p,C,dx,s,a,b,d⟩:=t.2 i e q
 exact⟨p,C,dx,s,a,h _ _ b,d⟩⟩
def bF(H:Hp)(xs:List V)(ts:List (List Nat)):Prop:=xs.length=ts.length/\∀(i:Nat)(l:List Nat),ts[i]?=some l->∃ p,xs[i]?=some (.ref p)/\H p=some (.lst (l.map iV))
theorem bF.mono{H H':Hp}{xs:List V}{ts:List (List Nat)}(h:bF H xs ts)(s:Same H H'):bF H' xs ts:=⟨h.1,fun i e q=>by
 obtain⟨p,a,b⟩:=h.2 i e q
 exact⟨p,a,s _ _ b⟩⟩
theorem bF.snoc{H:Hp}{xs:List V}{ts:List (List Nat)}{q:Addr}{l:List Nat}(h:bF H xs ts)(e:H q=some (.lst (l.map iV))):bF H (xs++[.ref q]) (ts++[l]):=by
 refine⟨by rw[KU,KU,h.1];rfl,fun j k ej=>?_⟩
 by_cases hj:j<ts.length
 ·rw[KZ hj]at ej
  obtain⟨p,a1,a2⟩:=h.2 j k ej
  exact⟨p,by rw[KZ (by rw[h.1];exact hj)];exact a1,a2⟩
 ·rw[KY (by omega)]at ej
  have hj2:j=ts.length:=by
   have:=(KS.mp ej).1
   rw[K4]at this
   omega
  subst hj2
  rw[Ln]at ej
  cases ej
  exact⟨q,by rw[← h.1,KY (K3 _),Ln];rfl,e⟩
def cF(S:Addr->Prop)(H:Hp)(xs:List V)(ts:List (List Nat)):Prop:=xs.length=ts.length/\∀(i:Nat)(l:List Nat),ts[i]?=some l->∃ p,xs[i]?=some (.ref p)/\¬ S p/\H p=some (.lst (l.map iV))
theorem cF.mono{S:Addr->Prop}{H H':Hp}{xs:List V}{ts:List (List Nat)}(h:cF S H xs ts)(s:∀ b u,¬ S b->H b=some u->H' b=some u):cF S H' xs ts:=⟨h.1,fun i e q=>by
 obtain⟨p,a,n,b⟩:=h.2 i e q
 exact⟨p,a,n,s _ _ n b⟩⟩
theorem cF.off{S:Addr->Prop}{H:Hp}{xs:List V}{ts:List (List Nat)}(h:cF S H xs ts):bF H xs ts:=⟨h.1,fun i e q=>by
 obtain⟨p,a,n,b⟩:=h.2 i e q
 exact⟨p,a,b⟩⟩
theorem cF.snoc{S:Addr->Prop}{H:Hp}{xs:List V}{ts:List (List Nat)}{q:Addr}{l:List Nat}(h:cF S H xs ts)(n:¬ S q)(e:H q=some (.lst (l.map iV))):cF S H (xs++[.ref q]) (ts++[l]):=by
 refine⟨by rw[KU,KU,h.1];rfl,fun j k ej=>?_⟩
 by_cases hj:j<ts.length
 ·rw[KZ hj]at ej
  obtain⟨p,a1,a2⟩:=h.2 j k ej
  exact⟨p,by rw[KZ (by rw[h.1];exact hj)];exact a1,a2⟩
 ·rw[KY (by omega)]at ej
  have hj2:j=ts.length:=by
   have:=(KS.mp ej).1
   rw[K4]at this
   omega
  subst hj2
  rw[Ln]at ej
  cases ej
  exact⟨q,by rw[← h.1,KY (K3 _),Ln];rfl,n,e⟩
theorem uz{f:Nat->Nat}{N i:Nat}{rs:List (List Nat)}(w:dY f N i rs):rs.flatten.length<=N:=gO w.nd fun x hx=>by
 obtain⟨r,h1,h2⟩:=LP.mp hx
 exact(w.ring r h1).lt x h2
theorem Ht{f:Nat->Nat}{N i:Nat}{rs:List (List Nat)}(w:dY f N i rs):rs.length<=N:=by
 have h:∀(l:List (List Nat)),(∀ r∈l,0<r.length)->l.length<=l.flatten.length:=fun l=>by
  induction l with
  |nil=>intro _;exact K3 _
  |cons a l ih =>
   intro h
   rw[LG,KU,Lw]
   have h1:=h a (Lg ..)
   have h2:=ih fun r hr=>h r (K6 _ hr)
   omega
 exact LH (h rs fun r hr=>(w.ring r hr).ne) (uz w)
structure TT(K:KW)(H:Hp)(a b:Addr)(m:Nat)(es:En)(ts:List (List Nat)):Prop where
 xs:∃ xs,SqL K H a xs/\dm K H xs es
 ys:∃ ys,SqL K H b ys/\bF H ys ts
 w:bD m es ts
 few:es.length<=62
theorem TT.mono{K:KW}{H H':Hp}{a b:Addr}{m:Nat}{es:En}{ts:List (List Nat)}(t:TT K H a b m es ts)(s:Same H H'):TT K H' a b m es ts:=by
 obtain⟨⟨xs,h1,h2⟩,⟨ys,h3,h4⟩,w,f⟩:=t
 exact⟨⟨xs,s.seq h1,h2.mono s⟩,⟨ys,s.seq h3,h4.mono s⟩,w,f⟩
theorem e5{m:Nat}{es:En}{ts:List (List Nat)}(w:bD m es ts)(f:es.length<=62){p:Nat}{l:List Nat}(h:ts[p]?=some l):(∀ t∈l,t<62)/\l.length<=62:=by
 have a:∀ t∈l,t<es.length:=fun t ht=>by
  obtain⟨e,he,_⟩:=(w.mem p l h t).mp ht
  exact(KS.mp he).1
 exact⟨fun t ht=>by have:=a t ht;omega,LH (gO (w.nd p l h) a) f⟩
theorem perm{m:Nat}{es:En}{ts:List (List Nat)}(w:bD m es ts):Hg (fol es ts) (2*es.length):=⟨fun d h=>by
 obtain⟨_,_,_,_,_,_,_,_,z,_⟩:=w.foll h
 exact z,fun a b ha hb h=>w.inj ha hb h⟩
def Eu(K:KW):Sp:=fun vs H Q _=>∃(a:Addr)(xs:List V)(es:En)(d:Nat),vs = [.ref a,.int (d:Int)]/\SqL K H a xs/\dm K H xs es/\d<2*es.length/\Q (iV (hd es d)) H
def Et(K:KW):Sp:=fun vs H Q _=>∃(a:Addr)(xs:List V)(es:En)(t p:Nat)(e:Nat×Nat),vs = [.ref a,.int (t:Int),.int (p:Int)]/\SqL K H a xs/\dm K H xs es/\es[t]?=some e/\Q (iV (if e.1=p then 2*t else 2*t+1)) H
def Jp(K:KW):Sp:=fun vs H Q _=>∃(a b:Addr)(m:Nat)(es:En)(ts:List (List Nat))(d:Nat),vs = [.ref a,.ref b,.int (d:Int)]/\TT K H a b m es ts/\d<2*es.length/\Q (iV (fol es ts d)) H
def Ew(K:KW):Sp:=fun vs H Q _=>∃(a b:Addr)(m:Nat)(es:En)(ts:List (List Nat))(d:Nat),vs = [.ref a,.ref b,.int (d:Int)]/\TT K H a b m es ts/\d<2*es.length /\
 ∀ q r H',Same H H'->H q=none->H' q=some (.lst (r.map iV))->Path (fol es ts) (2*es.length) d r->Ring (fol es ts) (2*es.length) r->Q (.ref q) H'
def sJ(K:KW):Sp:=fun vs H Q _=>∃(a b:Addr)(m:Nat)(es:En)(ts:List (List Nat)),vs = [.ref a,.ref b]/\TT K H a b m es ts /\
 ∀ q ys rs H',Same H H'->H' q=some (.lst ys)->bF H' ys rs->dY (fol es ts) (2*es.length) (2*es.length) rs->Q (.ref q) H'
def BB(H:Hp)(ys:List V)(n:Nat)(rs:List (List Nat)):Prop:=ys.length=n/\∀ i,i<n->∃ p a b r r',ys[i]?=some (.ref p)/\H p=some (.tup [iV a,iV b])/\rs[a]?=some r/\2*i∈r/\rs[b]?=some r'/\2*i+1∈r'
def yL(K:KW):Sp:=fun vs H Q _=>∃(a b:Addr)(xs ys:List V)(es:En)(f:Nat->Nat)(rs:List (List Nat)),vs = [.ref a,.ref b]/\SqL K H a xs/\dm K H xs es/\es.length<=62/\SqL K H b ys/\bF H ys rs/\dY f (2*es.length) (2*es.length) rs /\
 ∀ q zs H',Same H H'->H' q=some (.lst zs)->BB H' zs es.length rs->Q (.ref q) H'
def mv(ns:List Int)(k:Nat):Int:=ns.getD k 0
def Ey(K:KW):Sp:=fun vs H Q _=>∃(a:Addr)(k:Nat)(ns:List Int),vs = [.ref a,.int (k:Int)]/\SqL K H a (ns.map V.int)/\Q (.int (mv ns k)) H
def sW(K:KW):Sp:=fun vs H Q _=>∃(a b:Addr)(ys xs:List V)(m:Nat)(es:En)(ts:List (List Nat))(d:Nat),vs = [.ref a,.ref b,.int (d:Int)]/\SqL K H a ys/\cy H ys es/\SqL K H b xs/\bF H xs ts/\bD m es ts/\es.length<=62/\d<2*es.length/\Q (iV (fol es ts d)) H
structure Txt(mg:Str->Option Value):Prop where
 n_max:mg "max" = none
 n_all:mg "all" = none
 n_zip:mg "zip" = none
 n_any:mg "any" = none
 n_len:mg "len" = none
 n_int:mg "int" = none
 n_bool:mg "bool" = none
 n_list:mg "list" = none
 n_tuple:mg "tuple" = none
 n_range:mg "range" = none
 n_enumerate:mg "enumerate" = none
 n_isinstance:mg "isinstance" = none
 n_min:mg "min" = none
 n_sum:mg "sum" = none
 n_sorted:mg "sorted" = none
section
variable{P:Program}{w:World}{K:KW}{mg:Str->Option Value}{base:Heap}
theorem EG:aD ["ties","dart","tie"] ["ties","dart"] (ag rM):=⟨rfl,rfl,rfl,by decide +kernel,rfl,by decide +kernel,by decide +kernel⟩
theorem JO{f:Addr}{fd:FuncData} (F:Fun K "head" "head" rM f fd):FnOk P w K mg base CX0 1 f fd ["ties","dart"] (Eu K):=by
 refine F.ok EG (fun vs H Q E h=>?_) (fun cdv A outer s H vs Q E hr h=>?_)
 ·obtain⟨a,xs,es,d,rfl,_⟩:=h
  rfl
 obtain⟨a,xs,es,d,rfl,hS,hT,hdl,k⟩:=h
 have hl:d/2<es.length:=by omega
 have e1:es[d/2]?=some es[d/2]:=KR hl
 obtain⟨p,C,dx,s',x1,x2,x3⟩:=hT.2 _ _ e1
 have hh:hd es d=if d%2=0 then es[d/2].2 else es[d/2].1:=by unfold hd;rw[e1]
 have ed:(d:Int)/2=((d/2:Nat):Int):=by omega
 refine⟨_,(ab (av (i:=2) EG.nd rfl (Or.inl rfl) (aF ay (pv 0) (aG eJ (pv 1) ai) (fun _ _=>rfl)))
   (ak (aJ (kI (ax jD (aG bQ (pv 1) ai) ai (aI _)) (aZ (pv 2) rfl) (aZ (pv 2) rfl))))),?_⟩
 refine⟨_,rfl,_,rfl,_,_,rfl,rfl,⟨by decide,by decide⟩,a,xs,_,_,rfl,rfl,hS,(by rw[ed];exact aM x1),?_⟩
 refine⟨_,rfl,_,_,rfl,rfl,(by show(0:Int)<2;decide),rfl,_,rfl,?_⟩
 refine ite2 (fun q=>?_) (fun q=>?_)
 ·have q':(d:Int)%2=0:=V.int.inj (of_decide_eq_true q)
  refine⟨_,rfl,p,C,dx,_,_,rfl,x2,x3.cl,x3.n2,oh _ _ _,?_⟩
  rw[hh,if_pos (by omega)]at k
  exact k
 ·have q':¬ (d:Int)%2=0:=fun z=>q (decide_eq_true (congrArg V.int z))
  refine⟨_,rfl,p,C,dx,_,_,rfl,x2,x3.cl,x3.n1,jj _ _ _,?_⟩
  rw[hh,if_neg (by omega)]at k
  exact k
theorem Cu:aD ["ties","number","place"] ["ties","number","place"] (ag fj):=⟨rfl,rfl,rfl,by decide +kernel,rfl,by decide +kernel,by decide +kernel⟩
theorem CO{f:Addr}{fd:FuncData} (F:Fun K "leaving" "leaving" fj f fd):FnOk P w K mg base CX0 1 f fd ["ties","number","place"] (Et K):=by
 refine F.ok Cu (fun vs H Q E h=>?_) (fun cdv A outer s H vs Q E hr h=>?_)
 ·obtain⟨a,xs,es,t,p,e,rfl,_⟩:=h
  rfl
 obtain⟨a,xs,es,t,pl,e,rfl,hS,hT,he,k⟩:=h
 obtain⟨p,C,dx,s',x1,x2,x3⟩:=hT.2 _ _ he
 have m2:CMul 2 (t:Int):=.inl ⟨by decide,by decide⟩
 refine⟨_,(ak (aJ (kI (ax jD (aZ (aF ay (pv 0) (pv 1) (fun _ _=>rfl)) rfl) (pv 2) (aI _)) (aG fA ai (pv 1)) (aG bI (aG fA ai (pv 1)) ai)))),?_⟩
 refine⟨_,rfl,_,rfl,a,xs,_,_,rfl,rfl,hS,aM x1,p,C,dx,_,_,rfl,x2,x3.cl,x3.n1,jj _ _ _,_,rfl,rfl,_,rfl,?_⟩
 refine ite2 (fun q=>?_) (fun q=>?_)
 ·have q':(e.1:Int)=(pl:Int):=V.int.inj (of_decide_eq_true q)
  refine⟨_,rfl,_,_,rfl,rfl,m2,?_⟩
  rw[if_pos (by omega)]at k
  exact k
 ·have q':¬ (e.1:Int)=(pl:Int):=fun z=>q (decide_eq_true (congrArg V.int z))
  refine⟨_,rfl,_,_,rfl,rfl,m2,_,_,rfl,rfl,?_⟩
  rw[if_neg (by omega)]at k
  exact k
theorem fP:aD ["ties","turns","dart","place","about","behind"] ["ties","turns","dart"] (ag dJ):=⟨rfl,rfl,rfl,by decide +kernel,rfl,by decide +kernel,by decide +kernel⟩
theorem zB{f fh fl:Addr}{fd fdh fdl:FuncData} (F:Fun K "follower" "follower" dJ f fd) (T:Txt mg) (G_head:Cal P w K mg base 1 "head" ["ties","dart"] (Eu K) fh fdh) (G_leaving:Cal P w K mg base 1 "leaving" ["ties","number","place"] (Et K) fl fdl):FnOk P w K mg base CX0 2 f fd ["ties","turns","dart"] (Jp K):=by
 refine F.ok fP (fun vs H Q E h=>?_) (fun cdv A outer s H vs Q E hr h=>?_)
 ·obtain⟨a,b,m,es,ts,d,rfl,_⟩:=h
  rfl
 obtain⟨a,b,m,es,ts,d,rfl,tt,hdl,k⟩:=h
 obtain⟨⟨xs,h1,h2⟩,⟨ys,h3,h4⟩,w',few⟩:=tt
 obtain⟨l,e,p1,p2,p3,p4,p5,p6,p7,p8,p9⟩:=w'.foll hdl
 obtain⟨small,len⟩:=e5 w' few p1
 obtain⟨q,y1,y2⟩:=h4.2 _ _ p1
 have ed:(d:Int)/2=((d/2:Nat):Int):=by omega
 refine⟨_,(ab (av (i:=3) fP.nd rfl (Or.inl rfl) (au G_head.ok (hr.mono (by decide)) rfl G_head.mg G_head.kp G_head.bn .nil aK (aa (pv 0) (aa (pv 2) af))))
   (ab (av (i:=4) fP.nd rfl (Or.inl rfl) (aF ay (pv 1) (pv 3) (fun _ _=>rfl)))
   (ab (av (i:=5) fP.nd rfl (Or.inl rfl) (aG bQ (aG bI (bT Ld MH MG nU (pv 4) (aa (aG eJ (pv 2) ai) af)) ai) (aB ao (by rfl) T.n_len aV (aa (pv 4) af))))
   (ak (aJ (au G_leaving.ok (hr.mono (by decide)) rfl G_leaving.mg G_leaving.kp G_leaving.bn .nil aK (aa (pv 0) (aa (aF ay (pv 4) (pv 5) (fun _ _=>rfl)) (aa (pv 3) af))))))))),?_⟩
 refine⟨_,rfl,_,rfl,a,xs,es,d,rfl,h1,h2,hdl,?_⟩
 refine⟨_,rfl,_,rfl,b,ys,_,_,rfl,rfl,h3,aM y1,?_⟩
 have hlen:(l.map iV).length=l.length:=K2 _
 have hl0:0<l.length:=MN p2
 have hmod:(((l.idxOf (d/2):Nat):Int)+1)%((l.map iV).length:Int)=(((l.idxOf (d/2)+1)%l.length:Nat):Int):=by rw[hlen];rfl
 refine⟨_,rfl,.inl ⟨rfl,_,SqL.of y2⟩,_,rfl,_,_,rfl,rfl,⟨by decide,by decide⟩,q,l,d/2,rfl,congrArg (fun z=>[V.int z]) ed,SqL.of y2,fun p hp=>by have:=small p hp;omega,by omega,p2,_,_,rfl,rfl,_,rfl,q,_,rfl,.inl (SqL.of y2),_,_,rfl,rfl,(by show(0:Int)<((l.map iV).length:Int);rw[hlen];omega),?_⟩
 refine⟨_,rfl,_,rfl,_,rfl,q,_,_,_,rfl,rfl,SqL.of y2,(by rw[hmod];exact Km (g7 p2)),_,rfl,a,xs,es,nxt l (d/2),hd es d,e,rfl,h1,h2,p3,?_⟩
 rw[p6]at k
 exact k
theorem dr:aD ["ties","turns","first","row","dart"] ["ties","turns","first"] (ag cj):=⟨rfl,rfl,rfl,by decide +kernel,rfl,by decide +kernel,by decide +kernel⟩
theorem JP{f ff:Addr}{fd fdf:FuncData} (F:Fun K "round_from" "round_from" cj f fd) (G_follower:Cal P w K mg base 2 "follower" ["ties","turns","dart"] (Jp K) ff fdf):FnOk P w K mg base CX0 3 f fd ["ties","turns","first"] (Ew K):=by
 refine F.ok dr (fun vs H Q E h=>?_) (fun cdv A outer s H vs Q E hr h=>?_)
 ·obtain⟨a,b,m,es,ts,d,rfl,_⟩:=h
  rfl
 obtain⟨a,b,m,es,ts,d,rfl,tt,hdl,k⟩:=h
 have pm:=perm tt.w
 refine⟨_,(ab (av (i:=3) dr.nd rfl (Or.inl rfl) (bE (aa (pv 2) af)))
   (ab (av (i:=4) dr.nd rfl (Or.inl rfl) (au G_follower.ok (hr.mono (by decide)) rfl G_follower.mg G_follower.kp G_follower.bn .nil aK (aa (pv 0) (aa (pv 1) (aa (pv 2) af)))))
   (ab (nT PassesOwn.never (ax jg (pv 4) (pv 2) (aI _)) (ab (aY (bT Ld Lv Lu ba (pv 3) (aa (pv 4) af)))
   (ak (av (i:=4) dr.nd rfl (Or.inl rfl) (au G_follower.ok (hr.mono (by decide)) rfl G_follower.mg G_follower.kp G_follower.bn .nil aK (aa (pv 0) (aa (pv 1) (aa (pv 4) af))))))))
   (ak (aJ (pv 3)))))),?_⟩
 refine⟨_,rfl,(by show 1<=sizeLine;decide),fun q hq=>?_⟩
 have s1:=aj hq (.lst [.int (d:Int)])
 refine⟨_,rfl,_,rfl,_,rfl,a,b,m,es,ts,d,rfl,tt.mono s1,hdl,?_⟩
 refine so (fun σ H2=>∃(r:List Nat)(x:Nat),σ = [some (.ref a),some (.ref b),some (.int (d:Int)),some (.ref q),some (iV (fol es ts x))]/\Same H H2/\H2 q=some (.lst ((r++[x]).map iV))/\Path (fol es ts) (2*es.length) d (r++[x]))
  (fun σ H2=>match H2 q with | some (.lst xs)=>200-xs.length | _=>0) ⟨[],d,rfl,s1,ae,BK hdl⟩ ?_ ?_
 ·rintro σ H2 ⟨r,x,rfl,s2,hq2,pa⟩
  refine⟨_,rfl,_,rfl,rfl,_,rfl,?_⟩
  have few:=tt.few
  have hlen:=gO pa.nd pa.lt
  refine ite2 (fun c=>?_) (fun c=>?_)
  ·have c':fol es ts x≠d:=fun z=>by
    rw[decide_eq_true (show iV (fol es ts x)=V.int (d:Int) by rw[z];rfl)]at c
    cases c
   have pa2:=pa.snoc pm c'
   have hlen2:=gO pa2.nd pa2.lt
   have lt2:fol es ts x<2*es.length:=pa2.lt _ (by simp)
   refine⟨_,rfl,.inl ⟨rfl,_,SqL.of hq2⟩,_,rfl,q,_,_,rfl,rfl,hq2,aH (by rw[K2];omega),?_⟩
   have s3:=aL s2 hq (.lst ((r++[x]).map iV++[iV (fol es ts x)]))
   refine⟨_,rfl,_,rfl,_,rfl,a,b,m,es,ts,fol es ts x,rfl,tt.mono s3,lt2,?_⟩
   refine⟨⟨r++[x],fol es ts x,rfl,s3,?_,pa2⟩,?_⟩
   ·rw[ae,show((r++[x]++[fol es ts x]).map iV)=(r++[x]).map iV++[iV (fol es ts x)] from by rw[Lz];rfl]
   ·show(match(upd H2 q (.lst ((r++[x]).map iV++[iV (fol es ts x)]))) q with | some (.lst xs)=>200-xs.length | _=>0)<(match H2 q with | some (.lst xs)=>200-xs.length | _=>0)
    rw[ae,hq2]
    show 200-((r++[x]).map iV++[iV (fol es ts x)]).length<200-((r++[x]).map iV).length
    rw[KU,K2,K4]
    omega
  ·have c':fol es ts x=d:=by
    by_cases z:fol es ts x=d
    ·exact z
    ·exact absurd (by rw[decide_eq_false (fun y=>z (by have:=V.int.inj y;omega))];rfl) c
   refine⟨_,rfl,?_⟩
   exact k q _ H2 s2 hq hq2 pa (pa.ring pm c')
 ·rintro σ H2 Q1 Q2 hi ⟨v',e,b',e2,z1,c',e3,q'⟩
  exact⟨v',e,b',e2,z1,c',e3,hi _ _ q'⟩
theorem b8:aD ["ties","turns","rounds","seen","dart","row","gone"] ["ties","turns"] (ag cL):=⟨rfl,rfl,rfl,by decide +kernel,rfl,by decide +kernel,by decide +kernel⟩
theorem Fh{f ff:Addr}{fd fdf:FuncData} (F:Fun K "rounds_of" "rounds_of" cL f fd) (T:Txt mg) (G_round_from:Cal P w K mg base 3 "round_from" ["ties","turns","first"] (Ew K) ff fdf):FnOk P w K mg base CX0 4 f fd ["ties","turns"] (sJ K):=by
 refine F.ok b8 (fun vs H Q E h=>?_) (fun cdv A outer s H vs Q E hr h=>?_)
 ·obtain⟨a,b,m,es,ts,rfl,_⟩:=h
  rfl
 obtain⟨a,b,m,es,ts,rfl,tt,k⟩:=h
 have hu:=hu_of hr
 have pm:=perm tt.w
 have few:=tt.few
 obtain⟨xs,h1,h2⟩:=tt.xs
 refine⟨_,(ab (av (i:=2) b8.nd rfl (Or.inl rfl) (bE af))
   (ab (av (i:=3) b8.nd rfl (Or.inl rfl) BI)
   (ab (cG PassesOwn.never rfl (bH rfl T.n_range (aa (aG fA ai (aB ao (by rfl) T.n_len aV (aa (pv 0) af))) af)) (aW (i:=4) b8.nd rfl (Or.inl rfl)) (ak (bw (pt_cmp (E8 hu (pv 4) (pv 3))) (ab (av (i:=5) b8.nd rfl (Or.inl rfl) (au G_round_from.ok (hr.mono (by decide)) rfl G_round_from.mg G_round_from.kp G_round_from.bn .nil aK (aa (pv 0) (aa (pv 1) (aa (pv 4) af)))))
   (ab (aY (bT Ld Lv Lu ba (pv 2) (aa (pv 5) af)))
   (ak (cG PassesOwn.never rfl (b7 (pv 5)) (aW (i:=6) b8.nd rfl (Or.inl rfl)) (ak (EN hu (pv 3) (pv 6) E7 rfl)))))) aQ)))
   (ak (aJ (pv 2)))))),?_⟩
 refine⟨(by show 0<=sizeLine;decide),fun qr hqr=>fun qs hqs=>?_⟩
 have s1:=(aj hqr (.lst [])).trans (aj hqs (.dK []))
 have hqs0:H qs=none:=by
  cases z:H qs with
  |none=>rfl
  |some o=>rw[aj hqr (.lst []) qs o z]at hqs;cases hqs
 have hne:qr≠qs:=fun z=>by rw[← z,ae]at hqs;cases hqs
 have hxl:xs.length=es.length:=h2.1
 have hN:(2*(xs.length:Int)).toNat=2*es.length:=by omega
 refine⟨_,rfl,a,xs,rfl,.inl (s1.seq h1),_,_,rfl,rfl,.inl ⟨by decide,by decide⟩,_,rfl,by omega,by omega,cD (n:=(2*(xs.length:Int)).toNat) (fun i σ H2=>∃ v4 v5 v6 ys rs kvs,σ = [some (.ref a),some (.ref b),some (.ref qr),some (.ref qs),v4,v5,v6]/\Same H H2/\H2 qr=some (.lst ys)/\cF (fun p=>p=qr∨p=qs) H2 ys rs/\H2 qs=some (.dK kvs)/\kvs.length<=rs.flatten.length/\(∀ d:Nat,(valV kvs (Sum.inl (d:Int))).isSome=true↔d∈rs.flatten)/\dY (fol es ts) (2*es.length) i rs)
  ⟨_,_,_,[],[],[],rfl,s1,by rw[aq hne,ae],⟨rfl,fun i l e=>by simp at e⟩,ae,K3 _,fun d=>by simp[valV],Cw _ _⟩ ?_ ?_⟩
 ·rintro i σ H2 hi ⟨v4,v5,v6,ys,rs,kvs,rfl,s2,e1,rx,e2,kl,km,ro⟩
  rw[hN]at hi
  have e0:(0:Int)+(i:Int)=(i:Int):=Mq _
  rw[e0]
  have fl:=uz ro
  have rl:=Ht ro
  refine⟨_,rfl,_,rfl,_,_,rfl,DGet.k (k:=Sum.inl (i:Int)) e2,_,rfl,?_⟩
  refine ite2 (fun c=>?_) (fun c=>?_)
  ·have hni:i∉rs.flatten:=fun z=>by
    rw[(km i).mpr z]at c
    cases c
   refine⟨_,rfl,_,rfl,_,rfl,a,b,m,es,ts,i,rfl,tt.mono s2,hi,fun q r H3 s3 hq hq3 pa ri=>?_⟩
   have s23:=s2.trans s3
   have nq:¬ (q=qr∨q=qs):=by
    rintro(z | z)
    ·rw[z,e1]at hq;cases hq
    ·rw[z,e2]at hq;cases hq
   refine⟨_,rfl,.inl ⟨rfl,_,SqL.of (s3 _ _ e1)⟩,_,rfl,qr,_,_,rfl,rfl,s3 _ _ e1,aH (by rw[rx.1];omega),?_⟩
   have s4:=aL s23 hqr (.lst (ys++[.ref q]))
   have hrq:∀{H5:Hp},cF (fun p=>p=qr∨p=qs) H5 (ys++[.ref q]) (rs++[r])->H5 q=some (.lst (r.map iV)):=fun h=>by
    obtain⟨p,z1,_,z2⟩:=h.2 rs.length r (by rw[KY (K3 _),Ln];rfl)
    rw[← rx.1,KY (K3 _),Ln]at z1
    cases z1
    exact z2
   have rx4:cF (fun p=>p=qr∨p=qs) (upd H3 qr (.lst (ys++[.ref q]))) (ys++[.ref q]) (rs++[r]):=by
    refine(rx.mono fun p o n z=>?_).snoc nq ?_
    ·rw[aq (fun z=>n (.inl z))];exact s3 _ _ z
    ·rw[aq (fun z=>nq (.inl z))];exact hq3
   have rl:r.length<=2*es.length:=gO ri.nd ri.lt
   refine⟨_,rfl,q,rfl,⟨_,SqL.of (hrq rx4)⟩,i8 (xs:=r.map iV) (fun j σ H5=>∃ v6 kvs',σ = [some (.ref a),some (.ref b),some (.ref qr),some (.ref qs),some (.int (i:Int)),some (.ref q),v6]/\Same H H5/\H5 qr=some (.lst (ys++[.ref q]))/\cF (fun p=>p=qr∨p=qs) H5 (ys++[.ref q]) (rs++[r])/\H5 qs=some (.dK kvs')/\kvs'.length<=rs.flatten.length+j/\∀ d:Nat,(valV kvs' (Sum.inl (d:Int))).isSome=true↔d∈rs.flatten∨d∈r.take j)
    ⟨_,kvs,rfl,s4,ae,rx4,by rw[aq hne.symm];exact s3 _ _ e2,kl,fun d=>by rw[km d];simp⟩ (fun j σ H5 _ p=>?_) ?_ ?_⟩
   ·obtain⟨_,_,_,_,_,z,_⟩:=p
    exact SqL.of (hrq z)
   ·rintro j x σ H5 hx ⟨v6,kvs',rfl,s5,f1,rx5,f2,kl5,km5⟩
    rw[Lb]at hx
    obtain⟨g,hg,rfl⟩:=LI.mp hx
    have hjl:j<r.length:=(KS.mp hg).1
    refine⟨_,rfl,_,rfl,qs,_,rfl,DPut.k (k:=Sum.inl (g:Int)) f2 (aH (by omega)),?_⟩
    refine⟨_,_,rfl,aL s5 hqs0 _,by rw[aq hne];exact f1,rx5.mono fun p o n z=>by rw[aq (fun z=>n (.inr z))];exact z,ae,by have:=fR kvs' (Sum.inl (g:Int)) (V.bl true);omega,fun d=>?_⟩
    rw[sq]
    have tk:r.take (j+1)=r.take j++[g]:=by rw[LD,hg];rfl
    rw[tk]
    by_cases z:d=g
    ·subst z
     simp
    ·rw[if_neg (fun y=>z (by have:=Sum.inl.inj y;omega)),km5 d]
     simp[z]
   ·rintro σ H5 ⟨v6,kvs',rfl,s5,f1,rx5,f2,kl5,km5⟩
    rw[K2]at kl5 km5
    refine⟨_,_,_,_,rs++[r],kvs',rfl,s5,f1,rx5,f2,by rw[LY,KU];simpa using kl5,fun d=>?_,ro.put pm hni hi ri pa⟩
    rw[km5 d,LJ,LY,La]
    simp
  ·have hii:i∈rs.flatten:=(km i).mp (by
    cases z:(valV kvs (Sum.inl (i:Int))).isSome with
    |true=>rfl
    |false=>exact absurd (by rw[z];rfl) c)
   exact⟨_,_,_,ys,rs,kvs,rfl,s2,e1,rx,e2,kl,km,ro.skip hii⟩
 ·rintro σ H2 ⟨v4,v5,v6,ys,rs,kvs,rfl,s2,e1,rx,e2,kl,km,ro⟩
  rw[hN]at ro
  exact⟨_,rfl,k qr ys rs H2 s2 e1 rx.off ro⟩
theorem dN:aD ["ties","rounds","number_at","number","row","dart"] ["ties","rounds"] (ag dE):=⟨rfl,rfl,rfl,by decide +kernel,rfl,by decide +kernel,by decide +kernel⟩
theorem HB{f:Addr}{fd:FuncData} (F:Fun K "sides_of" "sides_of" dE f fd) (T:Txt mg):FnOk P w K mg base CX0 1 f fd ["ties","rounds"] (yL K):=by
 refine F.ok dN (fun vs H Q E h=>?_) (fun cdv A outer s H vs Q E hr h=>?_)
 ·obtain⟨a,b,xs,ys,es,g,rs,rfl,_⟩:=h
  rfl
 obtain⟨a,b,xs,ys,es,g,rs,rfl,hS,hT,few,hB,hR,ro,k⟩:=h
 have hu:=hu_of hr
 have fl:=uz ro
 refine⟨_,(ab (av (i:=2) dN.nd rfl (Or.inr rfl) BI)
   (ab (cG PassesOwn.never rfl (zu rfl T.n_enumerate (aa (pv 1) af)) (BH rfl (bX (aW (i:=3) dN.nd rfl (Or.inl rfl)) (bX (aW (i:=4) dN.nd rfl (Or.inl rfl)) oM))) (ak (cG PassesOwn.never rfl (b7 (pv 4)) (aW (i:=5) dN.nd rfl (Or.inl rfl)) (ak (EN hu (pv 2) (pv 5) (pv 3) rfl)))))
   (ak (aJ (gZ rfl (fr:=[("number_at",2)]) (by exact bR.one (by rfl) (by decide +kernel) (by rfl) (by decide +kernel) (by rfl) (by decide +kernel) (by rfl) (by rfl) (by decide +kernel) (by rfl)) (bH rfl T.n_range (aa (aB ao (by rfl) T.n_len aV (aa (pv 0) af)) af)) (fun C ex s H=>(bS (aa (EY hu (pv 1) (aG fA ai (pv 0)) (fun _ _=>rfl)) (aa (EY hu (pv 1) (aG bI (aG fA ai (pv 0)) ai) (fun _ _=>rfl)) af))))))))),?_⟩
 intro q hq
 have s1:=aj hq (.dK [])
 have kF:∀ i,(rs.take i).flatten.length<=rs.flatten.length:=fun i=>by
  have:=congrArg (fun z=>z.flatten.length) (MT i rs)
  simp only[LY,KU]at this
  omega
 refine⟨_,rfl,b,rfl,⟨_,s1.seq hB⟩,BX (K:=K) (xs:=ys) (fun i σ H2=>∃ v3 v4 v5 kvs,σ = [some (.ref a),some (.ref b),some (.ref q),v3,v4,v5]/\Same H H2/\H2 q=some (.dK kvs)/\kvs.length<=(rs.take i).flatten.length/\∀(d c:Nat)(r:List Nat),c<i->rs[c]?=some r->d∈r->valV kvs (Sum.inl (d:Int))=some (iV c))
  ⟨_,_,_,[],rfl,s1,ae,L8 _,fun d c r z=>absurd z (MI _)⟩ (fun i σ H2 _ ⟨_,_,_,_,_,s2,_⟩=>s2.seq hB) ?_ ?_⟩
 ·rintro i x σ H2 T2 hx ⟨v3,v4,v5,kvs,rfl,s2,e1,kl,km⟩ hT2
  have hil:i<rs.length:=by
   have:=(KS.mp hx).1
   rw[hR.1]at this
   exact this
  have hr':rs[i]?=some rs[i]:=KR hil
  obtain⟨p,x1,x2⟩:=hR.2 i _ hr'
  rw[hx]at x1
  cases x1
  generalize rs[i]=r at hr' x2
  have s3:Same H (upd H2 T2 (.tup [.int (i:Int),.ref p])):=s2.trans (aj hT2 _)
  have f1:(rs.take (i+1)).flatten=(rs.take i).flatten++r:=by rw[LD,hr'];simp
  have f2:=kF (i+1)
  rw[f1,KU]at f2
  refine⟨T2,_,rfl,SqT.of ae,rfl,_,_,rfl,_,_,rfl,rfl,?_⟩
  refine⟨_,rfl,p,rfl,⟨_,SqL.of (s3 _ _ x2)⟩,i8 (xs:=r.map iV) (fun j σ H5=>∃ v5 kvs',σ = [some (.ref a),some (.ref b),some (.ref q),some (.int (i:Int)),some (.ref p),v5]/\Same H H5/\H5 q=some (.dK kvs')/\kvs'.length<=(rs.take i).flatten.length+j/\(∀(d c:Nat)(r:List Nat),c<i->rs[c]?=some r->d∈r->valV kvs' (Sum.inl (d:Int))=some (iV c))/\∀ d∈r.take j,valV kvs' (Sum.inl (d:Int))=some (iV i))
   ⟨_,kvs,rfl,s3,aj hT2 _ _ _ e1,kl,km,fun d hd=>by simp at hd⟩ (fun j σ H5 _ ⟨_,_,_,z,_⟩=>SqL.of (z _ _ x2)) ?_ ?_⟩
  ·rintro j x σ H5 hx2 ⟨v5,kvs',rfl,s5,g1,kl5,km5,kn5⟩
   rw[Lb]at hx2
   obtain⟨g,hg,rfl⟩:=LI.mp hx2
   have hjl:j<r.length:=(KS.mp hg).1
   refine⟨_,rfl,_,rfl,_,rfl,q,_,rfl,DPut.k (k:=Sum.inl (g:Int)) g1 (aH (by omega)),?_⟩
   refine⟨_,_,rfl,aL s5 hq _,ae,by have:=fR kvs' (Sum.inl (g:Int)) (V.int (i:Int));omega,fun d c r' hc hrc hd=>?_,fun d hd=>?_⟩
   ·rw[sq,if_neg (fun z=>?_)]
    ·exact km5 d c r' hc hrc hd
    ·have z':d=g:=by have:=Sum.inl.inj z;omega
     subst z'
     have:=Kq ro.nd hrc hr' hd (K1 hg)
     omega
   ·rw[sq]
    by_cases z:d=g
    ·subst z
     rw[if_pos rfl]
     rfl
    ·rw[if_neg (fun y=>z (by have:=Sum.inl.inj y;omega))]
     refine kn5 d ?_
     rw[LD,hg]at hd
     simpa[z] using hd
  ·rintro σ H5 ⟨v5,kvs',rfl,s5,g1,kl5,km5,kn5⟩
   rw[K2]at kl5 kn5
   rw[LJ]at kn5
   refine⟨_,_,_,kvs',rfl,s5,g1,by rw[f1,KU];exact kl5,fun d c r' hc hrc hd=>?_⟩
   by_cases z:c=i
   ·subst z
    rw[hr']at hrc
    cases hrc
    exact kn5 d hd
   ·exact km5 d c r' (by omega) hrc hd
 ·rintro σ H2 ⟨v3,v4,v5,kvs,rfl,s2,e1,kl,km⟩
  rw[hR.1]at km
  have get:∀ d,d<2*es.length->∃ c r,rs[c]?=some r/\d∈r/\valV kvs (Sum.inl (d:Int))=some (iV c):=fun d hd=>by
   obtain⟨r,z1,z2⟩:=LP.mp (ro.all d hd)
   obtain⟨c,z3⟩:=LO.mp z1
   exact⟨c,r,z3,z2,km d c r (KS.mp z3).1 z3 z2⟩
  have hxl:xs.length=es.length:=hT.1
  refine⟨_,rfl,a,xs,rfl,.inl (s2.seq hS),_,rfl,by omega,by omega,rQ (fun i zs H3=>Same H2 H3/\BB H3 zs i rs) (by rw[Ls,hxl];exact Md (aH (by omega))) ⟨fun _ _ e=>e,rfl,fun i hi=>absurd hi (MI _)⟩ ?_ ?_⟩
  ·rintro i zs H3 hi ⟨s3,sd⟩
   have e0:(0:Int)+(i:Int)=(i:Int):=Mq _
   rw[e0]
   rw[Ls,hxl]at hi
   obtain⟨c1,r1,z1,z2,z3⟩:=get (2*i) (by omega)
   obtain⟨c2,r2,y1,y2,y3⟩:=get (2*i+1) (by omega)
   have m2:CMul 2 (i:Int):=.inl ⟨by decide,by decide⟩
   have d1:DGet H3 q (V.int (2*(i:Int))) (some (iV c1)):=by
    rw[← z3,show((2*i:Nat):Int)=2*(i:Int) by omega]
    exact DGet.k (k:=Sum.inl (2*(i:Int))) (s3 _ _ e1)
   have d2:DGet H3 q (V.int (2*(i:Int)+1)) (some (iV c2)):=by
    rw[← y3,show((2*i+1:Nat):Int)=2*(i:Int)+1 by omega]
    exact DGet.k (k:=Sum.inl (2*(i:Int)+1)) (s3 _ _ e1)
   refine⟨_,rfl,_,rfl,_,_,rfl,rfl,m2,q,_,rfl,d1,_,rfl,_,rfl,_,_,rfl,rfl,m2,_,_,rfl,rfl,q,_,rfl,d2,(by show 2<=sizeLine;decide),fun t ht=>?_⟩
   have s4:=aj ht (.tup [iV c1,iV c2])
   refine⟨s3.trans s4,by rw[KU,sd.1];rfl,fun j hj=>?_⟩
   by_cases z:j=i
   ·subst z
    exact⟨t,c1,c2,r1,r2,by rw[← sd.1,KY (K3 _),Ln];rfl,ae,z1,z2,y1,y2⟩
   ·obtain⟨p,a',b',r,r',w1,w2,w3⟩:=sd.2 j (by omega)
    exact⟨p,a',b',r,r',by rw[KZ (by rw[sd.1];omega)];exact w1,s4 _ _ w2,w3⟩
  ·rintro zs H3 hzl ⟨s3,sd⟩ D hD
   rw[Ls,hxl]at sd
   exact k D zs _ ((s2.trans s3).trans (aj hD _)) ae ⟨sd.1,fun i hi=>by
    obtain⟨p,a',b',r,r',w1,w2,w3⟩:=sd.2 i hi
    exact⟨p,a',b',r,r',w1,aj hD _ _ _ w2,w3⟩⟩
theorem tG:aD ["self","one","two","strength"] ["self","one","two","strength"] (ag cu):=⟨rfl,rfl,rfl,by decide +kernel,rfl,by decide +kernel,by decide +kernel⟩
theorem JN{f:Addr}{fd:FuncData} (F:Fun K "__init__" "Tie.__init__" cu f fd):FnOk P w K mg base CX0 1 f fd ["self","one","two","strength"] (rF K):=by
 refine F.ok tG (fun vs H Q E h=>?_) (fun cdv A outer s H vs Q E hr h=>?_)
 ·obtain⟨p,C,dx,a,b,s,rfl,_⟩:=h
  rfl
 obtain⟨p,C,dx,a,b,st,rfl,hp,T,hne,ha,hb,hs,k⟩:=h
 refine⟨_,(ab (bw (ax jD (pv 1) (pv 2) (aI _)) (ak bh) aQ)
   (ab (bw (PW.pt (gU (ax wa (pv 1) ai (aI _)) (fu (ax wa (pv 2) ai (aI _))))) (ak bh) aQ)
   (ab (bw (ax wa (pv 3) ai (aI _)) (ak bh) aQ)
   (ab (kH (pv 0) (pv 1) rfl)
   (ab (kH (pv 0) (pv 2) rfl)
   (ak (kH (pv 0) (pv 3) rfl))))))),?_⟩
 walk_at "rd"
 refine ite2 (fun c=>absurd (V.int.inj (of_decide_eq_true c)) hne) (fun _=>?_)
 walk_at "rd"
 refine ite2 (fun c=>absurd (of_decide_eq_true c) (by omega)) (fun _=>?_)
 walk_at "rd"
 refine ite2 (fun c=>absurd (of_decide_eq_true c) (by omega)) (fun _=>?_)
 walk_at "rd"
 refine ite2 (fun c=>absurd (of_decide_eq_true c) (by omega)) (fun _=>?_)
 refine⟨_,rfl,_,rfl,p,C,dx,[],rfl,hp,T.cl,T.n1,(by show 0<1000;decide),?_⟩
 refine⟨_,rfl,_,rfl,p,C,dx,_,rfl,ae,T.cl,T.n2,f1_len a,?_⟩
 refine⟨_,rfl,_,rfl,p,C,dx,_,rfl,ae,T.cl,T.n3,f2_len a b,?_⟩
 exact k _ ae fun q o e hq=>by rw[aq hq,aq hq,aq hq];exact e
theorem y6:aD ["script","k"] ["script","k"] (ag dI):=⟨rfl,rfl,rfl,by decide +kernel,rfl,by decide +kernel,by decide +kernel⟩
theorem JR{f:Addr}{fd:FuncData} (F:Fun K "_law_cell" "_law_cell" dI f fd) (T:Txt mg):FnOk P w K mg base CX0 1 f fd ["script","k"] (Ey K):=by
 refine F.ok y6 (fun vs H Q E h=>?_) (fun cdv A outer s H vs Q E hr h=>?_)
 ·obtain⟨a,k,ns,rfl,_⟩:=h
  rfl
 obtain⟨a,k,ns,rfl,hS,q⟩:=h
 refine⟨_,(ab (bw (ax wa (pv 1) (aB ao (by rfl) T.n_len aV (aa (pv 0) af)) (aI _)) (ak (aJ (aF ay (pv 0) (pv 1) (fun _ _=>rfl)))) aQ)
   (ak (aJ ai))),?_⟩
 refine⟨_,rfl,_,rfl,a,_,rfl,.inl hS,_,_,rfl,rfl,_,rfl,?_⟩
 refine ite2 (fun c=>?_) (fun c=>?_)
 ·have c':(k:Int)<((ns.map V.int).length:Int):=of_decide_eq_true c
  rw[K2]at c'
  have hk:k<ns.length:=by omega
  have hat:atI (ns.map V.int) (k:Int)=some (.int (mv ns k)):=aM (by rw[Lb,KR hk];unfold mv;rw[Lc,KR hk];rfl)
  exact⟨_,rfl,_,rfl,a,_,_,_,rfl,rfl,hS,hat,q⟩
 ·have c':¬ (k:Int)<((ns.map V.int).length:Int):=fun z=>c (decide_eq_true z)
  rw[K2]at c'
  have e:mv ns k=0:=by unfold mv;rw[Lc,List.getElem?_eq_none (by omega)];rfl
  rw[e]at q
  exact q
theorem at0{u v:V}:atI [u,v] 0=some u:=rfl
theorem at1{u v:V}:atI [u,v] 1=some v:=rfl
theorem ub{H:Hp}{a:Addr}{ps:List Nat}(h:SqL K H a (ps.map iV)):RdD K H (.ref a) (.list ((ps.map fun(p:Nat)=>((p:Nat):Int)).map PyData.int)):=by
 refine RdD.lst h (by simp) fun i x d e1 e2=>?_
 rw[Lb]at e1
 rw[Lb,Lb]at e2
 cases z:ps[i]? with
 |none=>rw[z]at e1;cases e1
 |some n =>
  rw[z]at e1 e2
  cases e1
  cases e2
  exact .int _
theorem FY(l:List Int):(PyData.list (l.map PyData.int)).canLay0=true/\(PyData.list (l.map PyData.int)).depth<=10:=by
 have h1:∀ d∈l.map PyData.int,d.canLay0=true/\d.depth<=1:=fun d hd=>by
  obtain⟨x,_,rfl⟩:=Lq.mp hd
  exact⟨by simp[PyData.canLay0],by simp[PyData.depth]⟩
 have h2:=iC fun d hd=>(h1 d hd).1
 have h3:=j3 fun d hd=>(h1 d hd).2
 exact⟨by simp only[PyData.canLay0];exact h2,by simp only[PyData.depth];omega⟩
theorem cy.put{H:Hp}{ys:List V}{es:En}{q:Addr}{zs:List V}{o:HO}(t:cy H ys es)(h:H q=some (.lst zs)):cy (upd H q o) ys es:=⟨t.1,fun i e z=>by
 obtain⟨p,a,b⟩:=t.2 i e z
 refine⟨p,a,?_⟩
 rw[aq (fun z=>by rw[z,h]at b;cases b)]
 exact b⟩
theorem cy.snoc{H:Hp}{xs:List V}{es:En}{e:Nat×Nat}{p:Addr}(t:cy H xs es)(h:H p=some (.tup [iV e.1,iV e.2])):cy H (xs++[.ref p]) (es++[e]):=by
 refine⟨by rw[KU,KU,t.1];rfl,fun j k ej=>?_⟩
 by_cases hj:j<es.length
 ·rw[KZ hj]at ej
  obtain⟨p,a1,a2⟩:=t.2 j k ej
  exact⟨p,by rw[KZ (by rw[t.1];exact hj)];exact a1,a2⟩
 ·rw[KY (by omega)]at ej
  have hj2:j=es.length:=by
   have:=(KS.mp ej).1
   rw[K4]at this
   omega
  subst hj2
  rw[Ln]at ej
  cases ej
  exact⟨p,by rw[← t.1,KY (K3 _),Ln];rfl,h⟩
theorem Kk{l:List Nat}{k n:Nat}:(ins l k n).length=l.length+1:=by
 unfold ins
 rw[KU,Lw,LS,Mi]
 omega
theorem IJ(X:Int)(n:Nat):0<=X%((n:Int)+1)/\X%((n:Int)+1)<=(n:Int):=⟨Mb _ (by omega),by have:=LU X (show(0:Int)<(n:Int)+1 by omega);omega⟩
def Dist(xs:List V):Prop:=∀(i j:Nat)(p:Addr),xs[i]?=some (.ref p)->xs[j]?=some (.ref p)->i=j
theorem cF.set{S:Addr->Prop}{H:Hp}{xs:List V}{ts:List (List Nat)}{i:Nat}{p:Addr}{l':List Nat}(h:cF S H xs ts)(D:Dist xs)(e:xs[i]?=some (.ref p)):cF S (upd H p (.lst (l'.map iV))) xs (ts.set i l'):=by
 refine⟨by rw[LA];exact h.1,fun j l z=>?_⟩
 have hi:i<ts.length:=by rw[← h.1];exact(KS.mp e).1
 rw[LN]at z
 by_cases hj:i=j
 ·subst hj
  rw[if_pos rfl,if_pos hi]at z
  cases z
  obtain⟨p',a1,a2,a3⟩:=h.2 i _ (KR hi)
  rw[e]at a1
  cases a1
  exact⟨p,e,a2,ae⟩
 ·rw[if_neg hj]at z
  obtain⟨p',a1,a2,a3⟩:=h.2 j l z
  exact⟨p',a1,a2,by rw[aq (fun y=>by rw[y]at a1;exact hj (D i j p e a1))];exact a3⟩
theorem insV{l:List Nat}{k n:Nat}:(l.map iV).take k++V.int (n:Int)::(l.map iV).drop k=(ins l k n).map iV:=by
 unfold ins
 rw[Lz,Lr,Nx,Ny]
 rfl
theorem EJ{H:Hp}{a:Addr}{xs:List V}{ts:List (List Nat)}(h:SqL K H a xs)(hR:bF H xs ts):RdD K H (.ref a) (.list (ts.map fun l=>PyData.list ((l.map fun(p:Nat)=>((p:Nat):Int)).map PyData.int))):=by
 refine RdD.lst h (by rw[K2];exact hR.1) fun i x d e1 e2=>?_
 rw[Lb]at e2
 obtain⟨l,hl,rfl⟩:=LI.mp e2
 obtain⟨p,a1,a2⟩:=hR.2 i l hl
 rw[e1]at a1
 cases a1
 exact ub (SqL.of a2)
theorem zb(ts:List (List Nat)):SeqAt.shaped (.list (ts.map fun l=>PyData.list ((l.map fun(p:Nat)=>((p:Nat):Int)).map PyData.int)))=true:=oE fun d hd=>by
 obtain⟨l,_,rfl⟩:=Lq.mp hd
 exact FY _
end
end K8
namespace K8
open PySem L2
local macro_rules | `(tactic| walk_at "cc") => `(tactic| first | exact ⟨by decide, by decide⟩ | (show (0 : Int) < _; decide) | (show (0 : Int) < _; omega) | (show (0 : Int) ≤ _; omega) | exact ⟨by decide, by decide, by decide⟩ | exact ⟨by omega, by omega, by decide⟩ | exact Or.inl ⟨by decide, by decide⟩ | exact Or.inl ⟨by omega, by omega⟩)
local macro_rules | `(tactic| walk_at "rd") => `(tactic| repeat (first | refine ⟨_, rfl, ?_⟩ | refine ⟨_, _, rfl, rfl, ?_⟩ | refine ⟨rfl, ?_⟩ | (refine ⟨?cc, ?_⟩; (case cc => walk_at "cc"))))
def sQ(K:KW):Sp:=fun vs H Q _=>∃(a:Addr)(ys:List V)(es:En)(d:Nat),vs = [.ref a,.int (d:Int)]/\SqL K H a ys/\cy H ys es/\d<2*es.length/\Q (iV (hd es d)) H
def sP(K:KW):Sp:=fun vs H Q _=>∃(a b:Addr)(ys xs:List V)(m:Nat)(es:En)(ts:List (List Nat))(d:Nat),vs = [.ref a,.ref b,.int (d:Int)]/\SqL K H a ys/\cy H ys es/\SqL K H b xs/\bF H xs ts/\bD m es ts/\es.length<=62/\d<2*es.length /\
 ∀ q r H',Same H H'->H q=none->H' q=some (.lst (r.map iV))->Path (fol es ts) (2*es.length) d r->Ring (fol es ts) (2*es.length) r->Q (.ref q) H'
section
variable{P:Program}{w:World}{K:KW}{mg:Str->Option Value}{base:Heap}
theorem y4:aD ["ends","dart"] ["ends","dart"] (ag dG):=⟨rfl,rfl,rfl,by decide +kernel,rfl,by decide +kernel,by decide +kernel⟩
theorem HI{f:Addr}{fd:FuncData} (F:Fun K "_law_head" "_law_head" dG f fd):FnOk P w K mg base CX0 1 f fd ["ends","dart"] (sQ K):=by
 refine F.ok y4 (fun vs H Q E h=>?_) (fun cdv A outer s H vs Q E hr h=>?_)
 ·obtain⟨a,ys,es,d,rfl,_⟩:=h
  rfl
 obtain⟨a,ys,es,d,rfl,hS,hE,hdl,k⟩:=h
 have hl:d/2<es.length:=by omega
 have e1:es[d/2]?=some es[d/2]:=KR hl
 obtain⟨p,x1,x2⟩:=hE.2 _ _ e1
 have hh:hd es d=if d%2=0 then es[d/2].2 else es[d/2].1:=by unfold hd;rw[e1]
 have ed:(d:Int)/2=((d/2:Nat):Int):=by omega
 have hat:atI [iV es[d/2].1,iV es[d/2].2] (1-(d:Int)%2)=some (iV (hd es d)):=by
  by_cases z:d%2=0
  ·rw[hh,if_pos z,show(1-(d:Int)%2)=1 by omega];rfl
  ·rw[hh,if_neg z,show(1-(d:Int)%2)=0 by omega];rfl
 refine⟨_,(ak (aJ (aF aT (aF ay (pv 0) (aG eJ (pv 1) ai) (fun _ _=>rfl)) (aG mR ai (aG bQ (pv 1) ai)) (fun _ _=>rfl)))),?_⟩
 exact⟨_,rfl,_,rfl,_,_,rfl,rfl,⟨by decide,by decide⟩,a,ys,_,_,rfl,rfl,hS,(by rw[ed];exact aM x1),_,rfl,_,_,rfl,rfl,(by show(0:Int)<2;decide),_,_,rfl,rfl,p,_,_,_,rfl,rfl,SqT.of x2,hat,k⟩
theorem dt:aD ["ends","turns","dart","place","row","tie"] ["ends","turns","dart"] (ag cm):=⟨rfl,rfl,rfl,by decide +kernel,rfl,by decide +kernel,by decide +kernel⟩
theorem CP{f fh:Addr}{fd fdh:FuncData} (F:Fun K "_law_behind" "_law_behind" cm f fd) (T:Txt mg) (G_law_head:Cal P w K mg base 1 "_law_head" ["ends","dart"] (sQ K) fh fdh):FnOk P w K mg base CX0 2 f fd ["ends","turns","dart"] (sW K):=by
 refine F.ok dt (fun vs H Q E h=>?_) (fun cdv A outer s H vs Q E hr h=>?_)
 ·obtain⟨a,b,ys,xs,m,es,ts,d,rfl,_⟩:=h
  rfl
 obtain⟨a,b,ys,xs,m,es,ts,d,rfl,hS,hE,hB,hR,w',few,hdl,kk⟩:=h
 obtain⟨l,e,p1,p2,p3,p4,p5,p6,p7,p8,p9⟩:=w'.foll hdl
 obtain⟨small,len⟩:=e5 w' few p1
 obtain⟨q,y1,y2⟩:=hR.2 _ _ p1
 obtain⟨p',x1',x2'⟩:=hE.2 _ _ p3
 have ed:(d:Int)/2=((d/2:Nat):Int):=by omega
 have hl0:0<l.length:=MN p2
 have hlen:(l.map iV).length=l.length:=K2 _
 have hmod:(((l.idxOf (d/2):Nat):Int)+1)%((l.map iV).length:Int)=(((l.idxOf (d/2)+1)%l.length:Nat):Int):=by rw[hlen];rfl
 have m2:CMul 2 ((nxt l (d/2):Nat):Int):=.inl ⟨by decide,by decide⟩
 refine⟨_,(ab (av (i:=3) dt.nd rfl (Or.inl rfl) (au G_law_head.ok (hr.mono (by decide)) rfl G_law_head.mg G_law_head.kp G_law_head.bn .nil aK (aa (pv 0) (aa (pv 2) af))))
   (ab (av (i:=4) dt.nd rfl (Or.inl rfl) (aF ay (pv 1) (pv 3) (fun _ _=>rfl)))
   (ab (av (i:=5) dt.nd rfl (Or.inl rfl) (aF ay (pv 4) (aG bQ (aG bI (bT Ld MH MG nU (pv 4) (aa (aG eJ (pv 2) ai) af)) ai) (aB ao (by rfl) T.n_len aV (aa (pv 4) af))) (fun _ _=>rfl)))
   (ak (aJ (aG bI (aG fA ai (pv 5)) (aR GL (by rfl) T.n_int GV (aa (zy jg (aF aT (aF ay (pv 0) (pv 5) (fun _ _=>rfl)) ai (fun _ _=>rfl)) (pv 3) (aI _)) af)))))))),?_⟩
 refine⟨_,rfl,_,rfl,a,ys,es,d,rfl,hS,hE,hdl,?_⟩
 refine⟨_,rfl,_,rfl,b,xs,_,_,rfl,rfl,hB,aM y1,?_⟩
 refine⟨_,rfl,_,rfl,.inl ⟨rfl,_,SqL.of y2⟩,_,rfl,_,_,rfl,rfl,⟨by decide,by decide⟩,q,l,d/2,rfl,congrArg (fun z=>[V.int z]) ed,SqL.of y2,fun p hp=>by have:=small p hp;omega,by omega,p2,_,_,rfl,rfl,_,rfl,q,_,rfl,.inl (SqL.of y2),_,_,rfl,rfl,(by show(0:Int)<((l.map iV).length:Int);rw[hlen];omega),q,_,_,_,rfl,rfl,SqL.of y2,(by rw[hmod];exact Km (g7 p2)),?_⟩
 refine⟨_,rfl,_,_,rfl,rfl,m2,_,rfl,_,rfl,a,ys,_,_,rfl,rfl,hS,aM x1',p',_,0,_,rfl,rfl,SqT.of x2',at0,_,rfl,rfl,.inr ⟨_,rfl,_,_,rfl,rfl,?_⟩⟩
 rw[p6]at kk
 by_cases c:e.1=hd es d
 ·rw[if_pos c]at kk
  rw[decide_eq_true (congrArg iV c)]
  simpa[iV] using kk
 ·rw[if_neg c]at kk
  rw[decide_eq_false (fun z=>c (by have:=V.int.inj z;omega))]
  simpa[iV] using kk
theorem d8:aD ["ends","turns","dart","row","at"] ["ends","turns","dart"] (ag cO):=⟨rfl,rfl,rfl,by decide +kernel,rfl,by decide +kernel,by decide +kernel⟩
theorem Fj{f ff:Addr}{fd fdf:FuncData} (F:Fun K "_law_round" "_law_round" cO f fd) (G_law_behind:Cal P w K mg base 2 "_law_behind" ["ends","turns","dart"] (sW K) ff fdf):FnOk P w K mg base CX0 3 f fd ["ends","turns","dart"] (sP K):=by
 refine F.ok d8 (fun vs H Q E h=>?_) (fun cdv A outer s H vs Q E hr h=>?_)
 ·obtain⟨a,b,ys,xs,m,es,ts,d,rfl,_⟩:=h
  rfl
 obtain⟨a,b,ys,xs,m,es,ts,d,rfl,hS,hE,hB,hR,w',few,hdl,k⟩:=h
 have pm:=perm w'
 refine⟨_,(ab (av (i:=3) d8.nd rfl (Or.inl rfl) (bE (aa (pv 2) af)))
   (ab (av (i:=4) d8.nd rfl (Or.inl rfl) (au G_law_behind.ok (hr.mono (by decide)) rfl G_law_behind.mg G_law_behind.kp G_law_behind.bn .nil aK (aa (pv 0) (aa (pv 1) (aa (pv 2) af)))))
   (ab (nT PassesOwn.never (ax jg (pv 4) (pv 2) (aI _)) (ab (aY (bT Ld Lv Lu ba (pv 3) (aa (pv 4) af)))
   (ak (av (i:=4) d8.nd rfl (Or.inl rfl) (au G_law_behind.ok (hr.mono (by decide)) rfl G_law_behind.mg G_law_behind.kp G_law_behind.bn .nil aK (aa (pv 0) (aa (pv 1) (aa (pv 4) af))))))))
   (ak (aJ (pv 3)))))),?_⟩
 refine⟨_,rfl,(by show 1<=sizeLine;decide),fun q hq=>?_⟩
 have s1:=aj hq (.lst [.int (d:Int)])
 refine⟨_,rfl,_,rfl,_,rfl,a,b,ys,xs,m,es,ts,d,rfl,s1.seq hS,hE.mono s1,s1.seq hB,hR.mono s1,w',few,hdl,?_⟩
 refine so (fun σ H2=>∃(r:List Nat)(x:Nat),σ = [some (.ref a),some (.ref b),some (.int (d:Int)),some (.ref q),some (iV (fol es ts x))]/\Same H H2/\H2 q=some (.lst ((r++[x]).map iV))/\Path (fol es ts) (2*es.length) d (r++[x]))
  (fun σ H2=>match H2 q with | some (.lst xs)=>200-xs.length | _=>0) ⟨[],d,rfl,s1,ae,BK hdl⟩ ?_ ?_
 ·rintro σ H2 ⟨r,x,rfl,s2,hq2,pa⟩
  refine⟨_,rfl,_,rfl,rfl,_,rfl,?_⟩
  have hlen:=gO pa.nd pa.lt
  refine ite2 (fun c=>?_) (fun c=>?_)
  ·have c':fol es ts x≠d:=fun z=>by
    rw[decide_eq_true (show iV (fol es ts x)=V.int (d:Int) by rw[z];rfl)]at c
    cases c
   have pa2:=pa.snoc pm c'
   have hlen2:=gO pa2.nd pa2.lt
   have lt2:fol es ts x<2*es.length:=pa2.lt _ (by simp)
   refine⟨_,rfl,.inl ⟨rfl,_,SqL.of hq2⟩,_,rfl,q,_,_,rfl,rfl,hq2,aH (by rw[K2];omega),?_⟩
   have s3:=aL s2 hq (.lst ((r++[x]).map iV++[iV (fol es ts x)]))
   refine⟨_,rfl,_,rfl,_,rfl,a,b,ys,xs,m,es,ts,fol es ts x,rfl,s3.seq hS,hE.mono s3,s3.seq hB,hR.mono s3,w',few,lt2,?_⟩
   refine⟨⟨r++[x],fol es ts x,rfl,s3,?_,pa2⟩,?_⟩
   ·rw[ae,show((r++[x]++[fol es ts x]).map iV)=(r++[x]).map iV++[iV (fol es ts x)] from by rw[Lz];rfl]
   ·show(match(upd H2 q (.lst ((r++[x]).map iV++[iV (fol es ts x)]))) q with | some (.lst xs)=>200-xs.length | _=>0)<(match H2 q with | some (.lst xs)=>200-xs.length | _=>0)
    rw[ae,hq2]
    show 200-((r++[x]).map iV++[iV (fol es ts x)]).length<200-((r++[x]).map iV).length
    rw[KU,K2,K4]
    omega
  ·have c':fol es ts x=d:=by
    by_cases z:fol es ts x=d
    ·exact z
    ·exact absurd (by rw[decide_eq_false (fun y=>z (by have:=V.int.inj y;omega))];rfl) c
   refine⟨_,rfl,?_⟩
   exact k q _ H2 s2 hq hq2 pa (pa.ring pm c')
 ·rintro σ H2 Q1 Q2 hi ⟨v',e,b',e2,z1,c',e3,q'⟩
  exact⟨v',e,b',e2,z1,c',e3,hi _ _ q'⟩
end
end K8
namespace K8
open PySem L2
local macro_rules | `(tactic| walk_at "cc") => `(tactic| first | exact ⟨by decide, by decide⟩ | (show (0 : Int) < _; decide) | (show (0 : Int) < _; omega) | (show (0 : Int) ≤ _; omega) | exact ⟨by decide, by decide, by decide⟩ | exact ⟨by omega, by omega, by decide⟩ | exact Or.inl ⟨by decide, by decide⟩ | exact Or.inl ⟨by omega, by omega⟩)
local macro_rules | `(tactic| walk_at "rd") => `(tactic| repeat (first | refine ⟨_, rfl, ?_⟩ | refine ⟨_, _, rfl, rfl, ?_⟩ | refine ⟨rfl, ?_⟩ | (refine ⟨?cc, ?_⟩; (case cc => walk_at "cc"))))
def yQ:Sp:=fun vs H Q _=>∃(c:Int)(m:Nat),vs = [.int c,.int (m:Int)]/\m<=100/\∀(q:Addr)(o:List Nat)(H':Hp),Same H H'->H q=none->H' q=some (.lst (o.map iV))->o.length=m->o.Nodup->(∀ x∈o,x<m)->Q (.ref q) H'
def yR(K:KW):Sp:=fun vs H Q _=>∃(a:Addr)(cs:List Int),vs = [.ref a]/\SqL K H a (cs.map V.int)/\cs.length<=14 /\
 ∀(t pe pt:Addr)(ys xs:List V)(m:Nat)(es:En)(ts:List (List Nat))(H':Hp),Same H H'->H' t=some (.tup [.ref pe,.ref pt])->H' pe=some (.lst ys)->cy H' ys es->H' pt=some (.lst xs)->bF H' xs ts->Gr m es ts->es.length=cs.length+1->Q (.ref t) H'
def KQ(H:Hp)(a pe pt:Addr)(i:Nat)(σ:St)(H5:Hp):Prop:=∃ v3 v4 v5 v6 v7 v8 v9 v10 ys xs m es ts,σ = [some (.ref a),some (.ref pe),some (.ref pt),v3,v4,v5,v6,v7,v8,v9,v10]/\Same H H5/\H5 pe=some (.lst ys)/\cy H5 ys es/\H5 pt=some (.lst xs)/\cF (fun p=>p=pe∨p=pt∨H p≠none) H5 xs ts/\Dist xs/\Gr m es ts/\es.length=i+1
theorem nZ{H H7:Hp}{a pe pt:Addr}{i m':Nat}{ys xs:List V}{es:En}{e:Nat×Nat}{ts':List (List Nat)}(npe:pe≠pt)(hpe:H pe=none)(s7:Same H H7)(h1:H7 pe=some (.lst ys))(h2:cy H7 ys es)(h3:H7 pt=some (.lst xs))(h4:cF (fun p=>p=pe∨p=pt∨H p≠none) H7 xs ts')(h5:Dist xs)(h6:Gr m' (es++[e]) ts')(hi:es.length=i+1)
  {t:Addr} (ht:H7 t=none) {x y:V} (hx:x=iV e.1) (hy:y=iV e.2) (v3 v4 v5 v6 v7 v8 v9 v10:Option V):KQ H a pe pt (i+1) [some (.ref a),some (.ref pe),some (.ref pt),v3,v4,v5,v6,v7,v8,v9,v10] (upd (upd H7 t (.tup [x,y])) pe (.lst (ys++[.ref t]))):=by
 subst hx hy
 have sn:=aj ht (.tup [iV e.1,iV e.2])
 refine⟨_,_,_,_,_,_,_,_,_,xs,m',es++[e],ts',rfl,aL (s7.trans sn) hpe _,ae,((h2.mono sn).snoc ae).put (sn _ _ h1),by rw[aq npe.symm];exact sn _ _ h3,h4.mono fun p o n z=>?_,h5,h6,by rw[KU,hi];rfl⟩
 rw[aq (fun z=>n (.inl z))]
 exact sn _ _ z
theorem xu{S:Addr->Prop}{H:Hp}{xs:List V}{ts:List (List Nat)}{q:Addr}(h:cF S H xs ts)(D:Dist xs)(hq:H q=none):Dist (xs++[.ref q]):=by
 have old:∀(j:Nat)(p:Addr),j<xs.length->(xs++[V.ref q])[j]?=some (.ref p)->xs[j]?=some (.ref p)/\p≠q:=fun j p hj e=>by
  rw[KZ hj]at e
  obtain⟨p',a1,_,a3⟩:=h.2 j _ (KR (by rw[← h.1];exact hj))
  rw[e]at a1
  cases a1
  exact⟨e,ar a3 hq⟩
 have new:∀(j:Nat)(p:Addr),¬ j<xs.length->(xs++[V.ref q])[j]?=some (.ref p)->j=xs.length/\p=q:=fun j p hj e=>by
  have:=(KS.mp e).1
  rw[KU,K4]at this
  have hj2:j=xs.length:=by omega
  subst hj2
  rw[KY (K3 _),Ln]at e
  cases e
  exact⟨rfl,rfl⟩
 intro j k p e1 e2
 by_cases hj:j<xs.length
 ·obtain⟨u1,u2⟩:=old j p hj e1
  by_cases hk:k<xs.length
  ·exact D j k p u1 (old k p hk e2).1
  ·exact absurd (new k p hk e2).2 u2
 ·obtain⟨u1,u2⟩:=new j p hj e1
  by_cases hk:k<xs.length
  ·exact absurd u2 (old k p hk e2).2
  ·rw[u1,(new k p hk e2).1]
theorem F6{m:Nat}{es:En}{ts:List (List Nat)}(g:Gr m es ts):m<=es.length+2:=by
 obtain⟨rs,_,c⟩:=g.part
 omega
section
variable{P:Program}{w:World}{K:KW}{mg:Str->Option Value}{base:Heap}
theorem c7:aD ["cell","many","order","mixed","k"] ["cell","many"] (ag cP):=⟨rfl,rfl,rfl,by decide +kernel,rfl,by decide +kernel,by decide +kernel⟩
theorem HH{f:Addr}{fd:FuncData} (F:Fun K "_law_order" "_law_order" cP f fd) (T:Txt mg):FnOk P w K mg base CX0 1 f fd ["cell","many"] yQ:=by
 refine F.ok c7 (fun vs H Q E h=>?_) (fun cdv A outer s H vs Q E hr h=>?_)
 ·obtain⟨c,m,rfl,_⟩:=h
  rfl
 obtain⟨c,m,rfl,hm,k⟩:=h
 refine⟨_,(ab (av (i:=2) c7.nd rfl (Or.inl rfl) (bE af))
   (ab (av (i:=3) c7.nd rfl (Or.inl rfl) (aG bQ (pv 0) ai))
   (ab (cG PassesOwn.never rfl (bH rfl T.n_range (aa (pv 1) af)) (aW (i:=4) c7.nd rfl (Or.inl rfl)) (ab (av (i:=3) c7.nd rfl (Or.inl rfl) (aG bQ (aG fA (pv 3) ai) ai))
   (ak (aY (bT Ld M4 M3 oW (pv 2) (aa (aG bQ (pv 3) (aG bI (pv 4) ai)) (aa (pv 4) af)))))))
   (ak (aJ (pv 2)))))),?_⟩
 refine⟨(by show 0<=sizeLine;decide),fun q hq=>?_⟩
 refine⟨_,rfl,_,_,rfl,rfl,(by show(0:Int)<1000000007;decide),?_⟩
 refine⟨_,rfl,_,rfl,by omega,by omega,cD (n:=(m:Int).toNat) (fun i σ H2=>∃(M:Int),∃ v4 o,σ = [some (.int c),some (.int (m:Int)),some (.ref q),some (.int M),v4]/\Same H H2/\H2 q=some (.lst (o.map iV))/\o.length=i/\o.Nodup/\∀ x∈o,x<i) ⟨_,_,[],rfl,aj hq _,ae,rfl,M0,fun x hx=>nomatch hx⟩ ?_ ?_⟩
 ·rintro i σ H2 hi ⟨M,v4,o,rfl,s2,hq2,ol,nd,lt⟩
  rw[Ls]at hi
  have e0:(0:Int)+(i:Int)=(i:Int):=Mq _
  rw[e0]
  have hlen:(o.map iV).length=i:=by rw[K2];exact ol
  refine⟨_,rfl,_,_,rfl,rfl,.inr ⟨by decide,by decide⟩,_,_,rfl,rfl,(by show(0:Int)<2147483647;decide),?_⟩
  refine⟨_,rfl,.inl ⟨rfl,_,SqL.of hq2⟩,_,rfl,_,rfl,_,_,rfl,rfl,_,_,rfl,rfl,(by show(0:Int)<(i:Int)+1;omega),_,rfl,q,_,_,_,rfl,rfl,hq2,(IJ _ _).1,(by rw[hlen];exact(IJ _ _).2),aH (by omega),?_⟩
  rw[insV]
  refine⟨_,_,_,rfl,aL s2 hq _,ae,by rw[Kk,ol],F0 nd fun z=>by have:=lt i z;omega,fun x hx=>?_⟩
  rcases Ar.mp hx with z | z
  ·omega
  ·have:=lt x z;omega
 ·rintro σ H2 ⟨M,v4,o,rfl,s2,hq2,ol,nd,lt⟩
  rw[Ls]at ol lt
  exact⟨_,rfl,k q o H2 s2 hq hq2 ol nd lt⟩
theorem aU:aD ["cells","ends","turns","cell","mixed","fresh","left","row","right_v","one","two"] ["cells"] (ag cQ):=⟨rfl,rfl,rfl,by decide +kernel,rfl,by decide +kernel,by decide +kernel⟩
theorem HJ{f fr fh:Addr}{fd fdr fdh:FuncData} (F:Fun K "_law_grown" "_law_grown" cQ f fd) (T:Txt mg) (G_law_round:Cal P w K mg base 3 "_law_round" ["ends","turns","dart"] (sP K) fr fdr) (G_law_head:Cal P w K mg base 1 "_law_head" ["ends","dart"] (sQ K) fh fdh) :
  FnOk P w K mg base CX0 4 f fd ["cells"] (yR K):=by
 refine F.ok aU (fun vs H Q E h=>?_) (fun cdv A outer s H vs Q E hr h=>?_)
 ·obtain⟨a,cs,rfl,_⟩:=h
  rfl
 obtain⟨a,cs,rfl,hS,h30,kk⟩:=h
 have hcl:(cs.map V.int).length=cs.length:=K2 _
 refine⟨_,(ab (av (i:=1) aU.nd rfl (Or.inl rfl) (bE (aa (bS (aa ai (aa ai af))) af)))
   (ab (av (i:=2) aU.nd rfl (Or.inl rfl) (bE (aa (bE (aa ai af)) (aa (bE (aa ai af)) af))))
   (ab (cG PassesOwn.never rfl (b7 (pv 0)) (aW (i:=3) aU.nd rfl (Or.inl rfl)) (ab (av (i:=4) aU.nd rfl (Or.inl rfl) (aG bQ (aG fA (aG bQ (pv 3) ai) ai) ai))
   (ab (av (i:=5) aU.nd rfl (Or.inl rfl) (aB ao (by rfl) T.n_len aV (aa (pv 1) af)))
   (ab (av (i:=6) aU.nd rfl (Or.inl rfl) (aG bQ (aG eJ (pv 4) ai) (aG fA ai (pv 5))))
   (ab (av (i:=7) aU.nd rfl (Or.inl rfl) (au G_law_round.ok (hr.mono (by decide)) rfl G_law_round.mg G_law_round.kp G_law_round.bn .nil aK (aa (pv 1) (aa (pv 2) (aa (pv 6) af)))))
   (ab (av (i:=8) aU.nd rfl (Or.inl rfl) (aF ay (pv 7) (aG bQ (aG bQ (aG fA (pv 4) (pv 4)) ai) (aB ao (by rfl) T.n_len aV (aa (pv 7) af))) (fun _ _=>rfl)))
   (ab (av (i:=9) aU.nd rfl (Or.inl rfl) (au G_law_head.ok (hr.mono (by decide)) rfl G_law_head.mg G_law_head.kp G_law_head.bn .nil aK (aa (pv 1) (aa (pv 6) af))))
   (ab (av (i:=10) aU.nd rfl (Or.inl rfl) (au G_law_head.ok (hr.mono (by decide)) rfl G_law_head.mg G_law_head.kp G_law_head.bn .nil aK (aa (pv 1) (aa (pv 8) af))))
   (ab (aY (bT Ld M4 M3 oW (aF ay (pv 2) (pv 9) (fun _ _=>rfl)) (aa (aG bI (bT Ld MH MG nU (aF ay (pv 2) (pv 9) (fun _ _=>rfl)) (aa (aG eJ (pv 6) ai) af)) ai) (aa (pv 5) af))))
   (ab (bw (PW.pt (gU (ax jD (aG bQ (pv 4) ai) ai (aI _)) (fu (ax jD (pv 9) (pv 10) (aI _))))) (ab (av (i:=10) aU.nd rfl (Or.inl rfl) (aB ao (by rfl) T.n_len aV (aa (pv 2) af)))
   (ak (aY (bT Ld Lv Lu ba (pv 2) (aa (bE (aa (pv 5) af)) af))))) (ak (aY (bT Ld M4 M3 oW (aF ay (pv 2) (pv 10) (fun _ _=>rfl)) (aa (aG bI (bT Ld MH MG nU (aF ay (pv 2) (pv 10) (fun _ _=>rfl)) (aa (aG eJ (pv 8) ai) af)) ai) (aa (pv 5) af))))))
   (ak (bw (ax jD (aG bQ (aG eJ (pv 3) ai) ai) ai (aI _)) (ak (aY (bT Ld Lv Lu ba (pv 1) (aa (bS (aa (pv 10) (aa (pv 9) af))) af)))) (ak (aY (bT Ld Lv Lu ba (pv 1) (aa (bS (aa (pv 9) (aa (pv 10) af))) af))))))))))))))))
   (ak (aJ (bS (aa (pv 1) (aa (pv 2) af)))))))),?_⟩
 refine⟨(by show 2<=sizeLine;decide),fun t0 ht0=>⟨(by show 1<=sizeLine;decide),fun pe hpe=>?_⟩⟩
 have s1:=aj ht0 (.tup [.int 0,.int 1])
 have s2:=s1.trans (aj hpe (.lst [.ref t0]))
 refine⟨(by show 1<=sizeLine;decide),fun p0 hp0=>⟨(by show 1<=sizeLine;decide),fun p1 hp1=>⟨(by show 2<=sizeLine;decide),fun pt hpt=>?_⟩⟩⟩
 have s3:=aj hp0 (.lst [.int 0])
 have s4:=aj hp1 (.lst [.int 0])
 have s5:=aj hpt (.lst [.ref p0,.ref p1])
 have s05:=((s2.trans s3).trans s4).trans s5
 have none_of:∀{G:Hp}{p:Addr},Same H G->G p=none->H p=none:=fun{G p} sm z=>by
  cases y:H p with
  |none=>rfl
  |some o=>rw[sm _ _ y]at z;cases z
 have hpe0:=none_of s1 hpe
 have hpt0:=none_of ((s2.trans s3).trans s4) hpt
 have hp00:=none_of s2 hp0
 have hp10:=none_of (s2.trans s3) hp1
 have g1:=s3.trans (s4.trans s5)
 have hpe5:=g1 _ _ (ae (H:=upd H t0 (.tup [.int 0,.int 1])) (a:=pe) (o:=.lst [.ref t0]))
 have hp05:=(s4.trans s5) _ _ (ae (a:=p0) (o:=.lst [.int 0]))
 have hp15:=s5 _ _ (ae (a:=p1) (o:=.lst [.int 0]))
 have n01:p0≠p1:=ar (ae (a:=p0) (o:=.lst [.int 0])) hp1
 have npe:pe≠pt:=ar ((s3.trans s4) _ _ (ae (a:=pe) (o:=.lst [.ref t0]))) hpt
 have n0e:p0≠pe:=fun z=>by rw[z,ae]at hp0;cases hp0
 have n1e:p1≠pe:=fun z=>by rw[z,s3 _ _ (ae (a:=pe) (o:=.lst [.ref t0]))]at hp1;cases hp1
 have n0t:p0≠pt:=ar (s4 _ _ (ae (a:=p0) (o:=.lst [.int 0]))) hpt
 have n1t:p1≠pt:=ar (ae (a:=p1) (o:=.lst [.int 0])) hpt
 have init:KQ H a pe pt 0 [some (.ref a),some (.ref pe),some (.ref pt),none,none,none,none,none,none,none,none] (upd (upd (upd (upd (upd H t0 (.tup [.int 0,.int 1])) pe (.lst [.ref t0])) p0 (.lst [.int 0])) p1 (.lst [.int 0])) pt (.lst [.ref p0,.ref p1])):=by
  refine⟨_,_,_,_,_,_,_,_,[.ref t0],[.ref p0,.ref p1],2,[(0,1)],[[0],[0]],rfl,s05,hpe5,⟨rfl,fun i e z=>?_⟩,ae,⟨rfl,fun i l z=>?_⟩,fun i j p z1 z2=>?_,gr_two,rfl⟩
  ·match i,z with
   |0,z=>cases z;exact⟨t0,rfl,((aj hpe _).trans g1) _ _ ae⟩
   |i+1,z=>cases z
  ·match i,z with
   |0,z=>cases z;exact⟨p0,rfl,by rintro(y | y | y);exact n0e y;exact n0t y;exact y hp00,hp05⟩
   |1,z=>cases z;exact⟨p1,rfl,by rintro(y | y | y);exact n1e y;exact n1t y;exact y hp10,hp15⟩
   |i+2,z=>cases z
  ·match i,z1,j,z2 with
   |0,z1,0,z2=>rfl
   |1,z1,1,z2=>rfl
   |0,z1,1,z2=>cases z1;cases z2;exact absurd rfl n01
   |1,z1,0,z2=>cases z1;cases z2;exact absurd rfl n01
   |i+2,z1,_,_=>cases z1
   |0,_,j+2,z2=>cases z2
   |1,_,j+2,z2=>cases z2
 refine⟨_,rfl,a,rfl,⟨_,s05.seq hS⟩,i8 (xs:=cs.map V.int) (fun i σ H5=>KQ H a pe pt i σ H5) init (fun i σ H5 _ ⟨_,_,_,_,_,_,_,_,_,_,_,_,_,_,z,_⟩=>z.seq hS) ?_ ?_⟩
 ·rintro i x σ H5 hx ⟨v3,v4,v5,v6,v7,v8,v9,v10,ys,xs,m,es,ts,rfl,s5,hpe5,en,hpt5,rx5,D,g,hi⟩
  rw[Lb]at hx
  obtain⟨c,hc,rfl⟩:=LI.mp hx
  have hil:i<cs.length:=(KS.mp hc).1
  have hyl:ys.length=es.length:=en.1
  have few:es.length<=62:=by omega +splitDisjunctions
  have w':=g.w
  have tlen:=w'.len
  have mfew:=F6 g
  have o0:(0:Int)<=c%1000000007*48271%2147483647:=Mb _ (by decide)
  have o1:c%1000000007*48271%2147483647<2147483647:=LU _ (by decide)
  refine⟨_,rfl,_,_,rfl,rfl,(by show(0:Int)<1000000007;decide),_,_,rfl,rfl,.inr ⟨by decide,by decide⟩,_,_,rfl,rfl,(by show(0:Int)<2147483647;decide),?_⟩
  refine⟨_,rfl,pe,ys,rfl,.inl (SqL.of hpe5),?_⟩
  have hfr:(0:Int)<2*(ys.length:Int):=by omega +splitDisjunctions
  refine⟨_,rfl,_,_,rfl,rfl,⟨by decide,by decide⟩,_,rfl,_,_,rfl,rfl,.inl ⟨by decide,by decide⟩,_,_,rfl,rfl,hfr,?_⟩
  have l0:=Mb (c%1000000007*48271%2147483647/2) (show 2*(ys.length:Int)≠0 by omega +splitDisjunctions)
  have l1:=LU (c%1000000007*48271%2147483647/2) hfr
  obtain⟨L,hL⟩:∃ L:Nat,c%1000000007*48271%2147483647/2%(2*(ys.length:Int))=(L:Int):=⟨_,(MV l0).symm⟩
  have hLl:L<2*es.length:=by omega +splitDisjunctions
  refine⟨_,rfl,_,rfl,_,rfl,pe,pt,ys,xs,m,es,ts,L,congrArg (fun z=>[V.ref pe,V.ref pt,V.int z]) hL,SqL.of hpe5,en,SqL.of hpt5,rx5.off,w',few,hLl,fun q r H6 s6 hq hq6 pa ri=>?_⟩
  have hrlen:(r.map iV).length=r.length:=K2 _
  have hr0:=ri.ne
  have hrp:(0:Int)<((r.map iV).length:Int):=by omega +splitDisjunctions
  have j0:=Mb (c%1000000007*48271%2147483647*(c%1000000007*48271%2147483647)%1000003) (show((r.map iV).length:Int)≠0 by omega +splitDisjunctions)
  have j1:=LU (c%1000000007*48271%2147483647*(c%1000000007*48271%2147483647)%1000003) hrp
  obtain⟨J,hJ⟩:∃ J:Nat,c%1000000007*48271%2147483647*(c%1000000007*48271%2147483647)%1000003%((r.map iV).length:Int)=(J:Int):=⟨_,(MV j0).symm⟩
  have hJl:J<r.length:=by omega +splitDisjunctions
  obtain⟨R,hR⟩:∃ R,r[J]?=some R:=⟨_,KR hJl⟩
  have hRm:=K1 hR
  have hRl:=ri.lt R hRm
  refine⟨_,rfl,_,rfl,_,rfl,_,_,rfl,rfl,.inl ⟨by show -(2^64:Int)<c%1000000007*48271%2147483647;omega +splitDisjunctions,by show c%1000000007*48271%2147483647<(2^64:Int);omega +splitDisjunctions⟩,_,_,rfl,rfl,(by show(0:Int)<1000003;decide),_,rfl,q,_,rfl,.inl (SqL.of hq6),_,_,rfl,rfl,hrp,q,_,_,_,rfl,rfl,SqL.of hq6,(by rw[hJ];exact Km hR),?_⟩
  have s06:=s5.trans s6
  have hpe6:=s6 _ _ hpe5
  have hpt6:=s6 _ _ hpt5
  have en6:=en.mono s6
  have rx6:cF (fun p=>p=pe∨p=pt∨H p≠none) H6 xs ts:=rx5.mono fun p o _ z=>s6 _ _ z
  refine⟨_,rfl,_,rfl,pe,ys,es,L,congrArg (fun z=>[V.ref pe,V.int z]) hL,SqL.of hpe6,en6,hLl,?_⟩
  refine⟨_,rfl,_,rfl,pe,ys,es,R,rfl,SqL.of hpe6,en6,hRl,?_⟩
  obtain⟨_,l,_,_,_,k4,k5,k6⟩:=w'.at hLl
  obtain⟨_,l',_,_,_,k4',k5',k6'⟩:=w'.at hRl
  obtain⟨p1,y1,y2,y3⟩:=rx6.2 _ _ k5
  obtain⟨p2,z1,z2,z3⟩:=rx6.2 _ _ k5'
  obtain⟨sm1,f1⟩:=e5 w' few k5
  obtain⟨sm2,f2⟩:=e5 w' few k5'
  have len1:(l.map iV).length=l.length:=K2 _
  have len2:(l'.map iV).length=l'.length:=K2 _
  have ix1:l.idxOf (L/2)<l.length:=NM k6
  have ix2:l'.idxOf (R/2)<l'.length:=NM k6'
  have ne_S:∀{p q:Addr},¬ (p=pe∨p=pt∨H p≠none)->(q=pe∨q=pt)->q≠p:=fun n y z=>n (by rw[← z];rcases y with y | y<;>simp[y])
  have no_S:∀{p:Addr},¬ (p=pe∨p=pt∨H p≠none)->H p=none:=fun{p} n=>by
   cases y:H p with
   |none=>rfl
   |some o=>exact absurd (.inr (.inr (by rw[y];exact fun z=>nomatch z))) n
  have hp1:=no_S y2
  have hp2:=no_S z2
  have eL:c%1000000007*48271%2147483647/2%(2*(ys.length:Int))/2=((L/2:Nat):Int):=by rw[hL];omega +splitDisjunctions
  have eR:(R:Int)/2=((R/2:Nat):Int):=by omega +splitDisjunctions
  refine⟨_,rfl,_,rfl,pt,xs,_,_,rfl,rfl,SqL.of hpt6,aM y1,.inl ⟨rfl,_,SqL.of y3⟩,_,rfl,_,rfl,pt,xs,_,_,rfl,rfl,SqL.of hpt6,aM y1,.inl ⟨rfl,_,SqL.of y3⟩,_,rfl,_,_,rfl,rfl,⟨by decide,by decide⟩,p1,l,L/2,rfl,congrArg (fun z=>[V.int z]) eL,SqL.of y3,fun p hp=>by have:=sm1 p hp;omega +splitDisjunctions,by omega +splitDisjunctions,k6,_,_,rfl,rfl,_,rfl,p1,_,_,_,rfl,rfl,y3,by omega +splitDisjunctions,by omega +splitDisjunctions,aH (by omega +splitDisjunctions),?_⟩
  rw[hyl,insV,show(((l.idxOf (L/2):Nat):Int)+1).toNat=l.idxOf (L/2)+1 by omega +splitDisjunctions]
  have s07:=aL s06 hp1 (.lst ((ins l (l.idxOf (L/2)+1) es.length).map iV))
  have hpe7:(upd H6 p1 (.lst ((ins l (l.idxOf (L/2)+1) es.length).map iV))) pe=some (.lst ys):=by rw[aq (ne_S y2 (.inl rfl))];exact hpe6
  have hpt7:(upd H6 p1 (.lst ((ins l (l.idxOf (L/2)+1) es.length).map iV))) pt=some (.lst xs):=by rw[aq (ne_S y2 (.inr rfl))];exact hpt6
  have en7:=en6.put (o:=.lst ((ins l (l.idxOf (L/2)+1) es.length).map iV)) y3
  have rx7:=rx6.set (l':=ins l (l.idxOf (L/2)+1) es.length) D y1
  have z7:hd es L≠hd es R->(upd H6 p1 (.lst ((ins l (l.idxOf (L/2)+1) es.length).map iV))) p2=some (.lst (l'.map iV)):=fun n=>by
   rw[aq (fun y=>by rw[y]at z1;exact n (D _ _ p1 y1 z1))];exact z3
  generalize hH7:upd H6 p1 (.lst ((ins l (l.idxOf (L/2)+1) es.length).map iV))=H7 at s07 hpe7 hpt7 en7 rx7 z7
  obtain⟨x0,tail,rfl,ch⟩:=ri.cr.ch
  have hx0:x0=L:=by
   have:=pa.hd
   exact Lm this
  subst hx0
  have xl:xs.length=m:=by rw[rx5.1,tlen]
  have hcr:=ri.cr
  refine⟨_,rfl,_,_,rfl,rfl,(by show(0:Int)<2;decide),rfl,_,rfl,ite2 (fun c=>iteT ?_) (fun c=>⟨_,rfl,_,rfl,rfl,_,rfl,ite2 (fun c2=>?_) (fun c2=>?_)⟩)⟩
  rotate_left 2
  ·have n:hd es x0≠hd es R:=fun z=>c2 (decide_eq_true (by rw[z]))
   have z7:=z7 n
   refine⟨_,rfl,_,rfl,pt,xs,_,_,rfl,rfl,SqL.of hpt7,aM z1,.inl ⟨rfl,_,SqL.of z7⟩,_,rfl,_,rfl,pt,xs,_,_,rfl,rfl,SqL.of hpt7,aM z1,.inl ⟨rfl,_,SqL.of z7⟩,_,rfl,_,_,rfl,rfl,⟨by decide,by decide⟩,p2,l',R/2,rfl,congrArg (fun z=>[V.int z]) eR,SqL.of z7,fun p hp=>by have:=sm2 p hp;omega +splitDisjunctions,by omega +splitDisjunctions,k6',_,_,rfl,rfl,_,rfl,p2,_,_,_,rfl,rfl,z7,by omega +splitDisjunctions,by omega +splitDisjunctions,aH (by omega +splitDisjunctions),?_⟩
   rw[insV,show(((l'.idxOf (R/2):Nat):Int)+1).toNat=l'.idxOf (R/2)+1 by omega +splitDisjunctions]
   have s08:=aL s07 hp2 (.lst ((ins l' (l'.idxOf (R/2)+1) es.length).map iV))
   have hpe8:(upd H7 p2 (.lst ((ins l' (l'.idxOf (R/2)+1) es.length).map iV))) pe=some (.lst ys):=by rw[aq (ne_S z2 (.inl rfl))];exact hpe7
   have hpt8:(upd H7 p2 (.lst ((ins l' (l'.idxOf (R/2)+1) es.length).map iV))) pt=some (.lst xs):=by rw[aq (ne_S z2 (.inr rfl))];exact hpt7
   have en8:=en7.put (o:=.lst ((ins l' (l'.idxOf (R/2)+1) es.length).map iV)) z7
   have rx8:=rx7.set (l':=ins l' (l'.idxOf (R/2)+1) es.length) D z1
   refine⟨_,rfl,_,_,rfl,rfl,⟨by decide,by decide⟩,_,_,rfl,rfl,(by show(0:Int)<2;decide),rfl,_,rfl,ite2 (fun _=>?_) (fun _=>?_)⟩
   ·refine⟨_,rfl,.inl ⟨rfl,_,SqL.of hpe8⟩,_,rfl,_,rfl,(by show 2<=sizeLine;decide),fun t ht=>⟨pe,ys,_,rfl,rfl,aj ht _ _ _ hpe8,aH (by omega +splitDisjunctions),?_⟩⟩
    exact nZ npe hpe0 s08 hpe8 en8 hpt8 rx8 D (g.join (e:=(hd es R,hd es x0)) hLl hcr ch hRm rfl rfl n (.inr rfl) k5 k5') hi ht rfl rfl _ _ _ _ _ _ _ _
   ·refine⟨_,rfl,.inl ⟨rfl,_,SqL.of hpe8⟩,_,rfl,_,rfl,(by show 2<=sizeLine;decide),fun t ht=>⟨pe,ys,_,rfl,rfl,aj ht _ _ _ hpe8,aH (by omega +splitDisjunctions),?_⟩⟩
    exact nZ npe hpe0 s08 hpe8 en8 hpt8 rx8 D (g.join (e:=(hd es x0,hd es R)) hLl hcr ch hRm rfl rfl n (.inl rfl) k5 k5') hi ht rfl rfl _ _ _ _ _ _ _ _
  all_goals
   refine⟨_,rfl,pt,xs,rfl,.inl (SqL.of hpt7),?_⟩
   refine⟨_,rfl,.inl ⟨rfl,_,SqL.of hpt7⟩,_,rfl,(by show 1<=sizeLine;decide),fun pn hpn=>⟨pt,xs,_,rfl,rfl,aj hpn _ _ _ hpt7,aH (by omega +splitDisjunctions),?_⟩⟩
   have sn:=aj hpn (.lst [V.int (es.length:Int)])
   have s08:=aL (s07.trans sn) hpt0 (.lst (xs++[.ref pn]))
   have hpe8:(upd (upd H7 pn (.lst [V.int (es.length:Int)])) pt (.lst (xs++[.ref pn]))) pe=some (.lst ys):=by rw[aq npe];exact sn _ _ hpe7
   have hpt8:(upd (upd H7 pn (.lst [V.int (es.length:Int)])) pt (.lst (xs++[.ref pn]))) pt=some (.lst (xs++[.ref pn])):=ae
   have en8:=(en7.mono sn).put (o:=.lst (xs++[.ref pn])) (sn _ _ hpt7)
   have npt:pn≠pt:=fun z=>by rw[z,hpt7]at hpn;cases hpn
   have npn:pn≠pe:=fun z=>by rw[z,hpe7]at hpn;cases hpn
   have hpn0:H pn=none:=none_of s07 hpn
   have rx8:cF (fun p=>p=pe∨p=pt∨H p≠none) (upd (upd H7 pn (.lst [V.int (es.length:Int)])) pt (.lst (xs++[.ref pn]))) (xs++[.ref pn]) (ts.set (hd es x0) (ins l (l.idxOf (x0/2)+1) es.length)++[[es.length]]):=by
    refine(rx7.mono fun p o n z=>?_).snoc (by rintro(y | y | y);exact npn y;exact npt y;exact y hpn0) ?_
    ·rw[aq (fun z=>n (.inr (.inl z)))];exact sn _ _ z
    ·rw[aq npt];exact ae
   have D8:=xu rx7 D hpn
   have hxm:V.int (xs.length:Int)=iV m:=by rw[xl];rfl
   refine⟨_,rfl,_,_,rfl,rfl,⟨by decide,by decide⟩,_,_,rfl,rfl,(by show(0:Int)<2;decide),rfl,_,rfl,ite2 (fun _=>?_) (fun _=>?_)⟩
   ·refine⟨_,rfl,.inl ⟨rfl,_,SqL.of hpe8⟩,_,rfl,_,rfl,(by show 2<=sizeLine;decide),fun t ht=>⟨pe,ys,_,rfl,rfl,aj ht _ _ _ hpe8,aH (by omega +splitDisjunctions),?_⟩⟩
    exact nZ npe hpe0 s08 hpe8 en8 hpt8 rx8 D8 (g.leaf (e:=(m,hd es x0)) hLl hcr ch rfl (.inr rfl) k5) hi ht hxm rfl _ _ _ _ _ _ _ _
   ·refine⟨_,rfl,.inl ⟨rfl,_,SqL.of hpe8⟩,_,rfl,_,rfl,(by show 2<=sizeLine;decide),fun t ht=>⟨pe,ys,_,rfl,rfl,aj ht _ _ _ hpe8,aH (by omega +splitDisjunctions),?_⟩⟩
    exact nZ npe hpe0 s08 hpe8 en8 hpt8 rx8 D8 (g.leaf (e:=(hd es x0,m)) hLl hcr ch rfl (.inl rfl) k5) hi ht rfl hxm _ _ _ _ _ _ _ _
 ·rintro σ H5 ⟨v3,v4,v5,v6,v7,v8,v9,v10,ys,xs,m,es,ts,rfl,s5,hpe5,en,hpt5,rx5,D,g,hi⟩
  rw[hcl]at hi
  refine⟨_,rfl,_,rfl,(by show 2<=sizeLine;decide),fun t ht=>?_⟩
  have s6:=aj ht (.tup [.ref pe,.ref pt])
  exact kk t pe pt ys xs m es ts _ (s5.trans s6) ae (s6 _ _ hpe5) (en.mono s6) (s6 _ _ hpt5) (rx5.off.mono s6) g hi
end
end K8
namespace K8
open PySem L2
local macro_rules | `(tactic| walk_at "cc") => `(tactic| first | exact ⟨by decide, by decide⟩ | (show (0 : Int) < _; decide) | (show (0 : Int) < _; omega) | (show (0 : Int) ≤ _; omega) | exact ⟨by decide, by decide, by decide⟩ | exact ⟨by omega, by omega, by decide⟩ | exact Or.inl ⟨by decide, by decide⟩ | exact Or.inl ⟨by omega, by omega⟩)
local macro_rules | `(tactic| walk_at "rd") => `(tactic| repeat (first | refine ⟨_, rfl, ?_⟩ | refine ⟨_, _, rfl, rfl, ?_⟩ | refine ⟨rfl, ?_⟩ | (refine ⟨?cc, ?_⟩; (case cc => walk_at "cc"))))
def cutp(c:Int)(p n:Nat):Nat:=(c%1009*((p:Int)+1)%(n:Int)).toNat
def rowN(c:Int)(o2:List Nat)(p:Nat)(l:List Nat):List Nat:=(l.drop (cutp c p l.length)++l.take (cutp c p l.length)).map (ofL o2)
def en2(o1 o2:List Nat)(es:En):En:=(LK es.length).map fun j=>(ofL o1 ((es[o2.idxOf j]?).getD (0,0)).1,ofL o1 ((es[o2.idxOf j]?).getD (0,0)).2)
def ts2(c:Int)(o1 o2:List Nat)(ts:List (List Nat)):List (List Nat):=(LK ts.length).map fun j=>rowN c o2 (o1.idxOf j) ((ts[o1.idxOf j]?).getD [])
theorem F2{o:List Nat}(nd:o.Nodup){k:Nat}(h:k<o.length):o.idxOf (ofL o k)=k:=by
 have e:o[k]?=some (ofL o k):=by unfold ofL;rw[KR h];rfl
 exact BQ nd (As (K1 e)) e
theorem ren_of{m:Nat}{es:En}{ts:List (List Nat)}{c:Int}{o1 o2:List Nat}(w:bD m es ts)(l1:o1.length=m)(n1:o1.Nodup)(b1:∀ x∈o1,x<m)(l2:o2.length=es.length)(n2:o2.Nodup)(b2:∀ x∈o2,x<es.length) :
  Ren m es (en2 o1 o2 es) ts (ts2 c o1 o2 ts) (ofL o1) (ofL o2):=by
 have B1:=Ce l1 n1 b1
 have B2:=Ce l2 n2 b2
 refine⟨B1,B2,by simp[en2],by simp[ts2,w.len],fun k e h=>?_,fun p l h=>?_⟩
 ·have hk:=(KS.mp h).1
  unfold en2
  rw[Lb,Mf (B2.lt k hk)]
  show some (ofL o1 ((es[o2.idxOf (ofL o2 k)]?).getD (0,0)).1,ofL o1 ((es[o2.idxOf (ofL o2 k)]?).getD (0,0)).2)=_
  rw[F2 n2 (by omega),h]
  rfl
 ·have hp:p<m:=by rw[← w.len];exact(KS.mp h).1
  refine⟨l.take (cutp c p l.length),l.drop (cutp c p l.length),(MT _ _).symm,?_⟩
  unfold ts2
  rw[Lb,Mf (by rw[w.len];exact B1.lt p hp)]
  show some (rowN c o2 (o1.idxOf (ofL o1 p)) ((ts[o1.idxOf (ofL o1 p)]?).getD []))=_
  rw[F2 n1 (by omega),h]
  rfl
theorem Gr.rows{m:Nat}{es:En}{ts:List (List Nat)}(g:Gr m es ts)(h2:2<=m){p:Nat}{l:List Nat}(h:ts[p]?=some l):0<l.length:=by
 have hp:p<m:=by rw[← g.w.len];exact(KS.mp h).1
 cases l with
 |cons a l=>exact Nat.succ_pos _
 |nil =>
  exfalso
  have no:∀ e∈es,e.1≠p/\e.2≠p:=fun e he=>by
   obtain⟨t,ht⟩:=LO.mp he
   refine⟨fun z=>?_,fun z=>?_⟩
   ·exact nomatch (g.w.mem p [] h t).mpr ⟨e,ht,.inl z⟩
   ·exact nomatch (g.w.mem p [] h t).mpr ⟨e,ht,.inr z⟩
  have:=g.conn (fun x=>x=p) (fun e he=>⟨fun z=>absurd z (no e he).1,fun z=>absurd z (no e he).2⟩) p (if p=0 then 1 else 0) hp (by split<;>omega) rfl
  have this':(if p=0 then 1 else 0)=p:=this
  split at this'<;>omega
theorem cut_hi{xs:List V}{c:Nat}(h:c<=xs.length):cutV xs (some (c:Int)) none=xs.drop c:=by
 unfold cutV
 rw[HT.sIx_nat,MJ h]
 show(xs.drop c).take (xs.length-c)=_
 exact Mx (by rw[Mi];exact K3 _)
theorem cut_lo{xs:List V}{c:Nat}(h:c<=xs.length):cutV xs none (some (c:Int))=xs.take c:=by
 unfold cutV
 rw[HT.sIx_nat,MJ h]
 show(xs.drop 0).take (c-0)=_
 rw[List.drop_zero,Nat.sub_zero]
structure WebP(H:Hp)(pe pt:Addr)(m:Nat)(es:En)(ts:List (List Nat)):Prop where
 en:∃ ys,H pe=some (.lst ys)/\cy H ys es
 tu:∃ xs,H pt=some (.lst xs)/\bF H xs ts
 g:Gr m es ts
theorem WebP.mono{H H':Hp}{pe pt:Addr}{m:Nat}{es:En}{ts:List (List Nat)}(h:WebP H pe pt m es ts)(s:Same H H'):WebP H' pe pt m es ts:=by
 obtain⟨⟨ys,a,b⟩,⟨xs,c,d⟩,g⟩:=h
 exact⟨⟨ys,s _ _ a,b.mono s⟩,⟨xs,s _ _ c,d.mono s⟩,g⟩
def Jo:Sp:=fun vs H Q _=>∃(t pe pt:Addr)(c:Int)(m:Nat)(es:En)(ts:List (List Nat)),vs = [.ref t,.int c]/\H t=some (.tup [.ref pe,.ref pt])/\WebP H pe pt m es ts/\2<=m/\es.length<=31 /\
 ∀(t' pe' pt':Addr)(es':En)(ts':List (List Nat))(H':Hp),Same H H'->H' t'=some (.tup [.ref pe',.ref pt'])->WebP H' pe' pt' m es' ts'->es'.length=es.length->Q (.ref t') H'
section
variable{P:Program}{w:World}{K:KW}{mg:Str->Option Value}{base:Heap}
theorem aO:aD ["grown","cell","places","ties","ends","k","turns","p","row","cut"] ["grown","cell"] (ag bc):=⟨rfl,rfl,rfl,by decide +kernel,rfl,by decide +kernel,by decide +kernel⟩
theorem ok_ren{f fo:Addr}{fd fdo:FuncData} (F:Fun K "_law_renumbered" "_law_renumbered" bc f fd) (T:Txt mg) (G_law_order:Cal P w K mg base 1 "_law_order" ["cell","many"] yQ fo fdo):FnOk P w K mg base CX0 2 f fd ["grown","cell"] Jo:=by
 refine F.ok aO (fun vs H Q E h=>?_) (fun cdv A outer s H vs Q E hr h=>?_)
 ·obtain⟨t,pe,pt,c,m,es,ts,rfl,_⟩:=h
  rfl
 obtain⟨t,pe,pt,c,m,es,ts,rfl,ht,⟨⟨ys,hpe,en⟩,⟨xs,hpt,tu⟩,g⟩,h2,h31,kk⟩:=h
 have w':=g.w
 have mf:=F6 g
 have hyl:ys.length=es.length:=en.1
 have hxl:xs.length=m:=by rw[tu.1,w'.len]
 refine⟨_,(ab (av (i:=2) aO.nd rfl (Or.inl rfl) (au G_law_order.ok (hr.mono (by decide)) rfl G_law_order.mg G_law_order.kp G_law_order.bn .nil aK (aa (pv 1) (aa (aB ao (by rfl) T.n_len aV (aa (aF aT (pv 0) ai (fun _ _=>rfl)) af)) af))))
   (ab (av (i:=3) aO.nd rfl (Or.inr rfl) (au G_law_order.ok (hr.mono (by decide)) rfl G_law_order.mg G_law_order.kp G_law_order.bn .nil aK (aa (aG eJ (pv 1) ai) (aa (aB ao (by rfl) T.n_len aV (aa (aF aT (pv 0) ai (fun _ _=>rfl)) af)) af))))
   (ab (av (i:=4) aO.nd rfl (Or.inl rfl) (aR bK (by rfl) T.n_list ki (aa (aF aT (pv 0) ai (fun _ _=>rfl)) af)))
   (ab (cG PassesOwn.never rfl (bH rfl T.n_range (aa (aB ao (by rfl) T.n_len aV (aa (aF aT (pv 0) ai (fun _ _=>rfl)) af)) af)) (aW (i:=5) aO.nd rfl (Or.inl rfl)) (ak (oG (bS (aa (aF ay (pv 2) (aF aT (aF ay (aF aT (pv 0) ai (fun _ _=>rfl)) (pv 5) (fun _ _=>rfl)) ai (fun _ _=>rfl)) (fun _ _=>rfl)) (aa (aF ay (pv 2) (aF aT (aF ay (aF aT (pv 0) ai (fun _ _=>rfl)) (pv 5) (fun _ _=>rfl)) ai (fun _ _=>rfl)) (fun _ _=>rfl)) af))) (oN (pv 4) (aF ay (pv 3) (pv 5) (fun _ _=>rfl)) fM))))
   (ab (av (i:=6) aO.nd rfl (Or.inl rfl) (aR bK (by rfl) T.n_list ki (aa (aF aT (pv 0) ai (fun _ _=>rfl)) af)))
   (ab (cG PassesOwn.never rfl (bH rfl T.n_range (aa (aB ao (by rfl) T.n_len aV (aa (aF aT (pv 0) ai (fun _ _=>rfl)) af)) af)) (aW (i:=7) aO.nd rfl (Or.inl rfl)) (ab (iU (i:=8) rfl aO.nd rfl rfl (fr:=[("ties",3)]) (by exact bR.one (by rfl) (by decide +kernel) (by rfl) (by decide +kernel) (by rfl) (by decide +kernel) (by rfl) (by rfl) (by decide +kernel) (by rfl)) (b7 (aF ay (aF aT (pv 0) ai (fun _ _=>rfl)) (pv 7) (fun _ _=>rfl))) (fun C ex s H=>(aF (BW (K:=K) rfl) (pv 1) (pv 0) (fun _ _=>rfl))))
   (ab (av (i:=9) aO.nd rfl (Or.inl rfl) (aG bQ (aG fA (aG bQ (pv 1) ai) (aG bI (pv 7) ai)) (aB ao (by rfl) T.n_len aV (aa (pv 8) af))))
   (ak (oG (aG op_cat (iW lD (pv 8) (jC (pv 9)) oH) (iW lD (pv 8) oH (jC (pv 9)))) (oN (pv 6) (aF ay (pv 2) (pv 7) (fun _ _=>rfl)) fM))))))
   (ak (aJ (bS (aa (pv 4) (aa (pv 6) af))))))))))),?_⟩
 refine⟨_,rfl,_,rfl,t,_,1,_,rfl,rfl,SqT.of ht,at1,pt,xs,rfl,.inl (SqL.of hpt),c,m,(by rw[hxl];rfl),by omega +splitDisjunctions,fun q1 o1 H1 s1 _ h1 l1 n1 b1=>?_⟩
 refine⟨_,rfl,_,_,rfl,rfl,⟨by decide,by decide⟩,_,rfl,t,_,0,_,rfl,rfl,SqT.of (s1 _ _ ht),at0,pe,ys,rfl,.inl (SqL.of (s1 _ _ hpe)),_,es.length,(by rw[hyl];rfl),by omega +splitDisjunctions,fun q2 o2 H2 s2 _ h2' l2 n2 b2=>?_⟩
 have s12:=s1.trans s2
 have R:=ren_of (c:=c) w' l1 n1 b1 l2 n2 b2
 have h1':=s2 _ _ h1
 refine⟨_,rfl,t,_,0,_,rfl,rfl,SqT.of (s12 _ _ ht),at0,pe,ys,rfl,.inl (SqL.of (s12 _ _ hpe)),fun qe hqe=>?_⟩
 have s3:=aj hqe (.lst ys)
 have s13:=s12.trans s3
 have h23:=s3 _ _ h2'
 have h13:=s3 _ _ h1'
 have get1:∀ k,k<m->(o1.map iV)[k]?=some (iV (ofL o1 k)):=fun k hk=>by
  rw[Lb];unfold ofL;rw[KR (by omega +splitDisjunctions)];rfl
 have get2:∀ k,k<es.length->(o2.map iV)[k]?=some (iV (ofL o2 k)):=fun k hk=>by
  rw[Lb];unfold ofL;rw[KR (by omega +splitDisjunctions)];rfl
 have hqe0:H qe=none:=by
  cases y:H qe with
  |none=>rfl
  |some o=>rw[s12 _ _ y]at hqe;cases hqe
 refine⟨_,rfl,t,_,0,_,rfl,rfl,SqT.of (s13 _ _ ht),at0,pe,ys,rfl,.inl (SqL.of (s13 _ _ hpe)),_,rfl,by omega +splitDisjunctions,by omega +splitDisjunctions,cD (n:=(ys.length:Int).toNat) (fun i σ H5=>∃ v5 v6 v7 v8 v9 zs,σ = [some (.ref t),some (.int c),some (.ref q1),some (.ref q2),some (.ref qe),v5,v6,v7,v8,v9]/\Same H2 H5/\H5 qe=some (.lst zs)/\zs.length=es.length/\∀(k:Nat)(e:Nat×Nat),k<i->es[k]?=some e->∃ p,zs[ofL o2 k]?=some (.ref p)/\H5 p=some (.tup [iV (ofL o1 e.1),iV (ofL o1 e.2)]))
  ⟨_,_,_,_,_,ys,rfl,s3,ae,hyl,fun k e z=>absurd z (MI _)⟩ ?_ ?_⟩
 ·rintro i σ H5 hi ⟨v5,v6,v7,v8,v9,zs,rfl,s5,hz,zl,inv⟩
  rw[Ls,hyl]at hi
  have e0:(0:Int)+(i:Int)=(i:Int):=Mq _
  rw[e0]
  have s15:=s12.trans s5
  obtain⟨e,he⟩:∃ e,es[i]?=some e:=⟨_,KR hi⟩
  obtain⟨p,x1,x2⟩:=(en.mono s15).2 i e he
  obtain⟨a1,a2,_⟩:=w'.ends e (K1 he)
  have b2':=R.si.lt i hi
  refine⟨_,rfl,_,rfl,t,_,0,_,rfl,rfl,SqT.of (s15 _ _ ht),at0,_,rfl,pe,ys,_,_,rfl,rfl,SqL.of (s15 _ _ hpe),aM x1,p,_,0,_,rfl,rfl,SqT.of x2,at0,q1,_,_,_,rfl,rfl,SqL.of (s5 _ _ h1'),aM (get1 _ a1),_,rfl,_,rfl,t,_,0,_,rfl,rfl,SqT.of (s15 _ _ ht),at0,_,rfl,pe,ys,_,_,rfl,rfl,SqL.of (s15 _ _ hpe),aM x1,p,_,1,_,rfl,rfl,SqT.of x2,at1,q1,_,_,_,rfl,rfl,SqL.of (s5 _ _ h1'),aM (get1 _ a2),(by show 2<=sizeLine;decide),fun tt htt=>?_⟩
  have sn:=aj htt (.tup [iV (ofL o1 e.1),iV (ofL o1 e.2)])
  refine⟨_,rfl,_,rfl,_,rfl,q2,_,_,_,rfl,rfl,SqL.of (sn _ _ (s5 _ _ h2')),aM (get2 _ hi),qe,zs,_,ofL o2 i,rfl,rfl,sn _ _ hz,jX (by omega +splitDisjunctions),?_⟩
  refine⟨_,_,_,_,_,_,rfl,aL (s5.trans sn) hqe _,ae,by rw[LA];exact zl,fun k e' hk hek=>?_⟩
  by_cases z:k=i
  ·subst z
   rw[he]at hek
   cases hek
   exact⟨tt,by rw[LN,if_pos rfl,if_pos (by omega +splitDisjunctions)],by rw[aq (fun z=>by rw[z,hz]at htt;cases htt)];exact ae⟩
  ·obtain⟨p',u1,u2⟩:=inv k e' (by omega +splitDisjunctions) hek
   have hkl:k<es.length:=(KS.mp hek).1
   refine⟨p',by rw[LN,if_neg (fun y=>z (R.si.inj _ _ hkl hi y.symm))];exact u1,?_⟩
   rw[aq (fun z=>by rw[z,hz]at u2;cases u2)]
   exact sn _ _ u2
 rintro σ H5 ⟨v5,v6,v7,v8,v9,zs,rfl,s5,hz,zl,inv⟩
 rw[Ls,hyl]at inv
 have s15:=s12.trans s5
 have enN:cy H5 zs (en2 o1 o2 es):=⟨by rw[zl,R.l1],fun j x h=>by
  obtain⟨k,e,rfl,h4,rfl⟩:=R.es' h
  exact inv k e (KS.mp h4).1 h4⟩
 refine⟨_,rfl,t,_,1,_,rfl,rfl,SqT.of (s15 _ _ ht),at1,pt,xs,rfl,.inl (SqL.of (s15 _ _ hpt)),fun qt hqt=>?_⟩
 have s6:=aj hqt (.lst xs)
 have s16:=s15.trans s6
 refine⟨_,rfl,t,_,1,_,rfl,rfl,SqT.of (s16 _ _ ht),at1,pt,xs,rfl,.inl (SqL.of (s16 _ _ hpt)),_,rfl,by omega +splitDisjunctions,by omega +splitDisjunctions,cD (n:=(xs.length:Int).toNat) (fun i σ H7=>∃ v5 v7 v8 v9 ws,σ = [some (.ref t),some (.int c),some (.ref q1),some (.ref q2),some (.ref qe),v5,some (.ref qt),v7,v8,v9]/\Same H5 H7/\H7 qt=some (.lst ws)/\ws.length=m/\∀(p:Nat)(l:List Nat),p<i->ts[p]?=some l->∃ q,ws[ofL o1 p]?=some (.ref q)/\H7 q=some (.lst ((rowN c o2 p l).map iV))/\q≠qt)
  ⟨_,_,_,_,xs,rfl,s6,ae,hxl,fun k e z=>absurd z (MI _)⟩ ?_ ?_⟩
 ·rintro i σ H7 hi ⟨w5,w7,w8,w9,ws,rfl,s7,hw,wl,inv2⟩
  rw[Ls,hxl]at hi
  have e0:(0:Int)+(i:Int)=(i:Int):=Mq _
  rw[e0]
  have s17:=s15.trans s7
  have s27:=s5.trans s7
  obtain⟨l,hl⟩:∃ l,ts[i]?=some l:=⟨_,KR (by rw[w'.len];exact hi)⟩
  obtain⟨p,x1,x2⟩:=(tu.mono s17).2 i l hl
  have lpos:=g.rows h2 hl
  have llt:∀ k∈l,k<es.length:=fun k hk=>mS w' hl hk
  have lle:l.length<=es.length:=gO (w'.nd _ _ hl) llt
  have llen:(l.map iV).length=l.length:=K2 _
  refine⟨_,rfl,t,_,1,_,rfl,rfl,SqT.of (s17 _ _ ht),at1,_,rfl,pt,xs,_,_,rfl,rfl,SqL.of (s17 _ _ hpt),aM x1,p,rfl,⟨_,SqL.of x2⟩,c8 (K:=K) (xs:=l.map iV) (fun j zs H8=>H8=H7/\zs=((l.map (ofL o2)).map iV).take j) (by rw[llen];exact Md (aH (by omega +splitDisjunctions))) ⟨rfl,rfl⟩ (fun j zs H8 _ z=>z.1▸SqL.of x2) ?_ ?_⟩
  ·rintro j x zs H8 hx ⟨rfl,rfl⟩
   rw[Lb]at hx
   obtain⟨k,hk,rfl⟩:=LI.mp hx
   refine⟨_,rfl,_,rfl,q2,_,_,_,rfl,rfl,SqL.of (s27 _ _ h2'),aM (get2 _ (llt k (K1 hk))),rfl,?_⟩
   rw[LD,Lb,Lb,hk]
   rfl
  rintro zs H8 hzl ⟨rfl,rfl⟩ D hD
  rw[llen,Mx (by rw[K2,K2];exact K3 _)]
  have sD:=aj hD (.lst ((l.map (ofL o2)).map iV))
  have dlen:((l.map (ofL o2)).map iV).length=l.length:=by rw[K2,K2]
  have dpos:(0:Int)<(((l.map (ofL o2)).map iV).length:Int):=by omega +splitDisjunctions
  have c0:=Mb c (show(1009:Int)≠0 by decide)
  have c1:=LU c (show(0:Int)<1009 by decide)
  refine⟨_,rfl,_,_,rfl,rfl,(by show(0:Int)<1009;decide),_,rfl,_,_,rfl,rfl,_,_,rfl,rfl,.inl ⟨by show -(2^64:Int)<c%1009;omega +splitDisjunctions,by show c%1009<(2^64:Int);omega +splitDisjunctions⟩,_,rfl,D,_,rfl,.inl (SqL.of ae),_,_,rfl,rfl,dpos,?_⟩
  have u0:=Mb (c%1009*((i:Int)+1)) (show(((l.map (ofL o2)).map iV).length:Int)≠0 by omega +splitDisjunctions)
  have u1:=LU (c%1009*((i:Int)+1)) dpos
  have hcut:c%1009*((i:Int)+1)%(((l.map (ofL o2)).map iV).length:Int)=((cutp c i l.length:Nat):Int):=by
   unfold cutp
   rw[dlen]at u0 ⊢
   exact(MV u0).symm
  have cle:cutp c i l.length<=((l.map (ofL o2)).map iV).length:=by omega +splitDisjunctions
  refine⟨_,rfl,_,rfl,_,rfl,D,_,rfl,SqL.of ae,fun b1' hb1=>?_⟩
  rw[hcut,cut_hi cle]
  have sB:=aj hb1 (.lst (((l.map (ofL o2)).map iV).drop (cutp c i l.length)))
  refine⟨_,rfl,_,rfl,_,rfl,D,_,rfl,SqL.of (sB _ _ ae),fun b2' hb2=>?_⟩
  rw[hcut,cut_lo cle]
  have sC:=aj hb2 (.lst (((l.map (ofL o2)).map iV).take (cutp c i l.length)))
  refine⟨b1',b2',_,_,rfl,rfl,sC _ _ ae,ae,by rw[Mi,LS];exact Md (aH (by omega +splitDisjunctions)),fun b3 hb3=>?_⟩
  have hrow:((l.map (ofL o2)).map iV).drop (cutp c i l.length)++((l.map (ofL o2)).map iV).take (cutp c i l.length)=(rowN c o2 i l).map iV:=by
   unfold rowN
   rw[Lz,Lz,Ny,Ny,Nx,Nx]
  rw[hrow]
  have sE:=aj hb3 (.lst ((rowN c o2 i l).map iV))
  have sAll:=((sD.trans sB).trans sC).trans sE
  refine⟨_,rfl,_,rfl,_,rfl,q1,_,_,_,rfl,rfl,SqL.of (sAll _ _ (s27 _ _ h1')),aM (get1 _ hi),qt,ws,_,ofL o1 i,rfl,rfl,sAll _ _ hw,jX (by rw[wl];exact R.pi.lt i hi),?_⟩
  have b3t:b3≠qt:=fun z=>by rw[z,((sD.trans sB).trans sC) _ _ hw]at hb3;cases hb3
  refine⟨_,_,_,_,_,rfl,aL (s7.trans sAll) hqt _,ae,by rw[LA];exact wl,fun p' l' hp' hl'=>?_⟩
  by_cases z:p'=i
  ·subst z
   rw[hl]at hl'
   cases hl'
   exact⟨b3,by rw[LN,if_pos rfl,if_pos (by rw[wl];exact R.pi.lt p' hi)],by rw[aq b3t];exact ae,b3t⟩
  ·obtain⟨q,u1,u2,u3⟩:=inv2 p' l' (by omega +splitDisjunctions) hl'
   have hpl:p'<m:=by rw[← w'.len];exact(KS.mp hl').1
   exact⟨q,by rw[LN,if_neg (fun y=>z (R.pi.inj _ _ hpl hi y.symm))];exact u1,by rw[aq u3];exact sAll _ _ u2,u3⟩
 rintro σ H7 ⟨w5,w7,w8,w9,ws,rfl,s7,hw,wl,inv2⟩
 rw[Ls,hxl]at inv2
 have tuN:bF H7 ws (ts2 c o1 o2 ts):=⟨by rw[wl,R.l2],fun j L h=>by
  have hj:j<m:=by rw[← R.l2];exact(KS.mp h).1
  obtain⟨p,hp,rfl⟩:=R.pi.sur j hj
  obtain⟨l,hl⟩:∃ l,ts[p]?=some l:=⟨_,KR (by rw[w'.len];exact hp)⟩
  obtain⟨q,z1,z2,_⟩:=inv2 p l hp hl
  refine⟨q,z1,?_⟩
  unfold ts2 at h
  rw[Lb,Mf (by rw[w'.len];exact R.pi.lt p hp)]at h
  have h':some (rowN c o2 (o1.idxOf (ofL o1 p)) ((ts[o1.idxOf (ofL o1 p)]?).getD []))=some L:=h
  rw[F2 n1 (by omega +splitDisjunctions),hl]at h'
  cases h'
  exact z2⟩
 refine⟨_,rfl,_,rfl,(by show 2<=sizeLine;decide),fun t' ht'=>?_⟩
 have s8:=aj ht' (.tup [.ref qe,.ref qt])
 exact kk t' qe qt (en2 o1 o2 es) (ts2 c o1 o2 ts) _ ((s15.trans s7).trans s8) ae ⟨⟨zs,s8 _ _ (s7 _ _ hz),(enN.mono s7).mono s8⟩,⟨ws,s8 _ _ hw,tuN.mono s8⟩,R.gr g⟩ R.l1
end
end K8
namespace K8
open PySem L2
local macro_rules | `(tactic| walk_at "cc") => `(tactic| first | exact ⟨by decide, by decide⟩ | (show (0 : Int) < _; decide) | (show (0 : Int) < _; omega) | (show (0 : Int) ≤ _; omega) | exact ⟨by decide, by decide, by decide⟩ | exact ⟨by omega, by omega, by decide⟩ | exact Or.inl ⟨by decide, by decide⟩ | exact Or.inl ⟨by omega, by omega⟩)
local macro_rules | `(tactic| walk_at "rd") => `(tactic| repeat (first | refine ⟨_, rfl, ?_⟩ | refine ⟨_, _, rfl, rfl, ?_⟩ | refine ⟨rfl, ?_⟩ | (refine ⟨?cc, ?_⟩; (case cc => walk_at "cc"))))
theorem bt_min:bootBuiltins "min" = some (.builtin "min"):=by decide +kernel
abbrev Kn:=List (Int×Int)
def bo(H:Hp)(ws:List V)(ks:Kn):Prop:=ws.length=ks.length/\∀(i:Nat)(k:Int×Int),ks[i]?=some k->(k.1=0∨k.1=1)/\0<=k.2/\∃ p,ws[i]?=some (.ref p)/\H p=some (.tup [.int k.1,.int k.2])
theorem bo.mono{H H':Hp}{ws:List V}{ks:Kn}(h:bo H ws ks)(s:Same H H'):bo H' ws ks:=⟨h.1,fun i k z=>by
 obtain⟨a,b,p,c,d⟩:=h.2 i k z
 exact⟨a,b,p,c,s _ _ d⟩⟩
theorem bo.put{H:Hp}{ws:List V}{ks:Kn}{q:Addr}{zs:List V}{o:HO}(t:bo H ws ks)(h:H q=some (.lst zs)):bo (upd H q o) ws ks:=⟨t.1,fun i e z=>by
 obtain⟨u,v,p,a,b⟩:=t.2 i e z
 refine⟨u,v,p,a,?_⟩
 rw[aq (fun z=>by rw[z,h]at b;cases b)]
 exact b⟩
theorem bo.snoc{H:Hp}{ws:List V}{ks:Kn}{k:Int×Int}{p:Addr}(t:bo H ws ks)(h:H p=some (.tup [.int k.1,.int k.2]))(h1:k.1=0∨k.1=1)(h2:0<=k.2):bo H (ws++[.ref p]) (ks++[k]):=by
 refine⟨by rw[KU,KU,t.1];rfl,fun j x ej=>?_⟩
 by_cases hj:j<ks.length
 ·rw[KZ hj]at ej
  obtain⟨u,v,p,a1,a2⟩:=t.2 j x ej
  exact⟨u,v,p,by rw[KZ (by rw[t.1];exact hj)];exact a1,a2⟩
 ·rw[KY (by omega)]at ej
  have hj2:j=ks.length:=by
   have:=(KS.mp ej).1
   rw[K4]at this
   omega
  subst hj2
  rw[Ln]at ej
  cases ej
  exact⟨h1,h2,p,by rw[← t.1,KY (K3 _),Ln];rfl,h⟩
structure BuiltP(H:Hp)(t pe pt pk:Addr)(m:Nat)(es:En)(ts:List (List Nat))(ks:Kn):Prop where
 t:H t=some (.tup [.ref pe,.ref pt,.ref pk])
 w:WebP H pe pt m es ts
 k:∃ ws,H pk=some (.lst ws)/\bo H ws ks
 few:es.length<=14
 kl:ks.length=es.length
 kb:∀ k∈ks,k.2<=10^30
 pos:0<es.length
theorem Gr.two{m:Nat}{es:En}{ts:List (List Nat)}(g:Gr m es ts)(h:0<es.length):2<=m:=by
 obtain⟨a,b,c⟩:=g.w.ends _ (K1 (KR h))
 omega
def sU(K:KW):Sp:=fun vs H Q _=>∃(a:Addr)(ns:List Int),vs = [.ref a,.int 1,.int 14]/\SqL K H a (ns.map V.int)/\ns.length<=63 /\
 ∀(t pe pt pk:Addr)(m:Nat)(es:En)(ts:List (List Nat))(ks:Kn)(H':Hp),Same H H'->BuiltP H' t pe pt pk m es ts ks->Q (.ref t) H'
section
variable{P:Program}{w:World}{K:KW}{mg:Str->Option Value}{base:Heap}
theorem at30{u v x:V}:atI [u,v,x] 0=some u:=rfl
theorem at31{u v x:V}:atI [u,v,x] 1=some v:=rfl
theorem at32{u v x:V}:atI [u,v,x] 2=some x:=rfl
theorem cf:aD ["script","first","most","cells","grown","told","k","cell"] ["script","first","most"] (ag cR):=⟨rfl,rfl,rfl,by decide +kernel,rfl,by decide +kernel,by decide +kernel⟩
theorem Fl{f fg fr fc:Addr}{fd fdg fdr fdc:FuncData} (F:Fun K "_law_built" "_law_built" cR f fd) (T:Txt mg) (G_law_grown:Cal P w K mg base 4 "_law_grown" ["cells"] (yR K) fg fdg) (G_law_renumbered:Cal P w K mg base 2 "_law_renumbered" ["grown","cell"] Jo fr fdr) (G_law_cell:Cal P w K mg base 1 "_law_cell" ["script","k"] (Ey K) fc fdc) :
  FnOk P w K mg base CX0 5 f fd ["script","first","most"] (sU K):=by
 refine F.ok cf (fun vs H Q E h=>?_) (fun cdv A outer s H vs Q E hr h=>?_)
 ·obtain⟨a,ns,rfl,_⟩:=h
  rfl
 obtain⟨a,ns,rfl,hS,h63,kk⟩:=h
 have hlen:(ns.map V.int).length=ns.length:=K2 _
 refine⟨_,(ab (iU (i:=3) rfl cf.nd rfl rfl (fr:=[("script",0)]) (by exact bR.one (by rfl) (by decide +kernel) (by rfl) (by decide +kernel) (by rfl) (by decide +kernel) (by rfl) (by rfl) (by decide +kernel) (by rfl)) (vY rfl T.n_range (aa (aG bI (pv 1) ai) (aa (aB (x5 rfl) (by rfl) T.n_min bt_min (aa (aG mR (aB ao (by rfl) T.n_len aV (aa (pv 0) af)) ai) (aa (aG mR (aG bI (pv 1) (aG fA ai (pv 2))) ai) af))) (aa ai af)))) (fun C ex s H=>(aF (BW (K:=K) rfl) (pv 1) (pv 0) (fun _ _=>rfl))))
   (ab (av (i:=4) cf.nd rfl (Or.inl rfl) (au G_law_renumbered.ok (hr.mono (by decide)) rfl G_law_renumbered.mg G_law_renumbered.kp G_law_renumbered.bn .nil aK (aa (au G_law_grown.ok (hr.mono (by decide)) rfl G_law_grown.mg G_law_grown.kp G_law_grown.bn .nil aK (aa (pv 3) af)) (aa (au G_law_cell.ok (hr.mono (by decide)) rfl G_law_cell.mg G_law_cell.kp G_law_cell.bn .nil aK (aa (pv 0) (aa (pv 1) af))) af))))
   (ab (av (i:=5) cf.nd rfl (Or.inl rfl) (bE af))
   (ab (cG PassesOwn.never rfl (bH rfl T.n_range (aa (aB ao (by rfl) T.n_len aV (aa (aF aT (pv 4) ai (fun _ _=>rfl)) af)) af)) (aW (i:=6) cf.nd rfl (Or.inl rfl)) (ab (av (i:=7) cf.nd rfl (Or.inl rfl) (au G_law_cell.ok (hr.mono (by decide)) rfl G_law_cell.mg G_law_cell.kp G_law_cell.bn .nil aK (aa (pv 0) (aa (aG bI (pv 1) (aG fA ai (pv 6))) af))))
   (ak (aY (bT Ld Lv Lu ba (pv 5) (aa (bS (aa (aG bQ (pv 7) ai) (aa (aG bQ (aG eJ (pv 7) ai) (aG bI (aG BN ai ai) ai)) af))) af))))))
   (ak (aJ (bS (aa (aF aT (pv 4) ai (fun _ _=>rfl)) (aa (aF aT (pv 4) ai (fun _ _=>rfl)) (aa (pv 5) af)))))))))),?_⟩
 have hn:Builtin.Range.rangeSize (1+1) (if(1+2*14-2:Int)<((ns.map V.int).length:Int)-1 then 1+2*14-2 else((ns.map V.int).length:Int)-1) 2=(((Builtin.Range.rangeSize (1+1) (if(1+2*14-2:Int)<((ns.map V.int).length:Int)-1 then 1+2*14-2 else((ns.map V.int).length:Int)-1) 2).toNat:Nat):Int):=by
  refine(MV ?_).symm
  unfold Builtin.Range.rangeSize
  rw[if_pos (by decide)]
  split<;>omega
 have hb:∀ i:Nat,i<(Builtin.Range.rangeSize (1+1) (if(1+2*14-2:Int)<((ns.map V.int).length:Int)-1 then 1+2*14-2 else((ns.map V.int).length:Int)-1) 2).toNat->i<13/\2+2*i<ns.length:=fun i hi=>by
  rw[hlen]at hi
  unfold Builtin.Range.rangeSize at hi
  rw[if_pos (by decide)]at hi
  split at hi<;>split at hi<;>omega
 have hz:(Builtin.Range.rangeSize (1+1) (if(1+2*14-2:Int)<((ns.map V.int).length:Int)-1 then 1+2*14-2 else((ns.map V.int).length:Int)-1) 2).toNat<=13:=by
  by_cases z:(Builtin.Range.rangeSize (1+1) (if(1+2*14-2:Int)<((ns.map V.int).length:Int)-1 then 1+2*14-2 else((ns.map V.int).length:Int)-1) 2).toNat<=13
  ·exact z
  ·have:=(hb 13 (by omega)).1;omega
 refine⟨_,rfl,_,_,rfl,rfl,_,rfl,a,_,rfl,.inl hS,_,_,rfl,rfl,_,rfl,_,rfl,_,_,rfl,rfl,.inl ⟨by decide,by decide⟩,_,_,rfl,rfl,_,_,rfl,rfl,_,_,rfl,_,_,_,_,rfl,by decide,by decide,(by split<;>omega),(by split<;>omega),⟨by decide,by decide⟩,hn,?_⟩
 generalize (Builtin.Range.rangeSize (1+1) (if(1+2*14-2:Int)<((ns.map V.int).length:Int)-1 then 1+2*14-2 else((ns.map V.int).length:Int)-1) 2).toNat=N at hb hz
 refine AW (fun i ys H2=>H2=H/\∃ cs:List Int,ys=cs.map V.int/\cs.length=i) (Md (aH (by omega))) ⟨rfl,[],rfl,rfl⟩ ?_ ?_
 ·rintro i ys H2 hi ⟨rfl,cs,rfl,cl⟩
  have hb':=(hb i hi).2
  have e0:(1+1:Int)+(i:Int)*2=((2+2*i:Nat):Int):=by omega
  rw[e0]
  refine⟨_,rfl,_,rfl,a,_,_,_,rfl,rfl,hS,aM (v:=.int ns[2+2*i]) (by rw[Lb,KR hb'];rfl),rfl,cs++[ns[2+2*i]],?_,by rw[KU,cl];rfl⟩
  rw[Lz]
  rfl
 rintro ys H2 _ ⟨rfl,cs,rfl,cl⟩ b hb0
 have s1:=aj hb0 (.lst (cs.map V.int))
 refine⟨_,rfl,b,cs,rfl,SqL.of ae,by omega,fun t pe pt ys xs m es ts H3 s3 ht hpe hE hpt hR g hel=>?_⟩
 have s13:=s1.trans s3
 refine⟨_,rfl,_,rfl,a,1,ns,rfl,s13.seq hS,t,pe,pt,_,m,es,ts,rfl,ht,⟨⟨ys,hpe,hE⟩,⟨xs,hpt,hR⟩,g⟩,g.two (by omega),by omega,fun t' pe' pt' es' ts' H4 s4 ht' wp hel'=>?_⟩
 have s14:=s13.trans s4
 have hel2:es'.length<=14:=by omega
 refine⟨(by show 0<=sizeLine;decide),fun q hq=>?_⟩
 have s5:=aj hq (.lst [])
 obtain⟨zs,hz1,hz2⟩:=wp.en
 have hzl:zs.length=es'.length:=hz2.1
 refine⟨_,rfl,t',_,0,_,rfl,rfl,SqT.of (s5 _ _ ht'),at0,pe',zs,rfl,.inl (SqL.of (s5 _ _ hz1)),_,rfl,by omega,by omega,cD (n:=(zs.length:Int).toNat) (fun i σ H5=>∃ v6 v7 ws ks,σ = [some (.ref a),some (.int 1),some (.int 14),some (.ref b),some (.ref t'),some (.ref q),v6,v7]/\Same H4 H5/\H5 q=some (.lst ws)/\bo H5 ws ks/\ks.length=i/\∀ k∈ks,k.2<=10^30) ⟨_,_,[],[],rfl,s5,ae,⟨rfl,fun i k z=>by simp at z⟩,rfl,fun k hk=>by simp at hk⟩ ?_ ?_⟩
 ·rintro i σ H5 hi ⟨v6,v7,ws,ks,rfl,s6,hw,tk,kl,kb⟩
  rw[Ls,hzl]at hi
  have e0:(0:Int)+(i:Int)=(i:Int):=Mq _
  rw[e0]
  have wl:=tk.1
  refine⟨_,rfl,_,rfl,_,rfl,_,_,rfl,rfl,.inl ⟨by decide,by decide⟩,_,_,rfl,rfl,a,1+2*i,ns,(by rw[show((1+2*i:Nat):Int)=1+2*(i:Int) by omega];rfl),(s14.trans s6).seq hS,?_⟩
  refine⟨_,rfl,.inl ⟨rfl,_,SqL.of hw⟩,_,rfl,_,_,rfl,rfl,(by show(0:Int)<2;decide),_,rfl,_,_,rfl,rfl,⟨by decide,by decide⟩,_,_,rfl,rfl,⟨by decide,by decide,by decide⟩,_,_,rfl,rfl,_,_,rfl,rfl,(by show(0:Int)<10^(30:Int).toNat+1;decide),(by show 2<=sizeLine;decide),fun tt htt=>?_⟩
  have sn:=aj htt (.tup [.int (mv ns (1+2*i)%2),.int (mv ns (1+2*i)/2%(10^(30:Int).toNat+1))])
  refine⟨q,ws,_,rfl,rfl,sn _ _ hw,aH (by omega),?_⟩
  refine⟨_,_,_,ks++[(mv ns (1+2*i)%2,mv ns (1+2*i)/2%(10^(30:Int).toNat+1))],rfl,aL (s6.trans sn) hq _,ae,((tk.mono sn).snoc ae (by show mv ns (1+2*i)%2=0∨mv ns (1+2*i)%2=1;omega) (Mb _ (by decide))).put (sn _ _ hw),by rw[KU,kl];rfl,fun k hk=>?_⟩
  rcases La.mp hk with hk | hk
  ·exact kb k hk
  ·rw[LR.mp hk]
   have:=LU (mv ns (1+2*i)/2) (show(0:Int)<(10:Int)^(30:Int).toNat+1 by decide)
   have e30:(10:Int)^(30:Int).toNat=10^30:=by decide
   show mv ns (1+2*i)/2%(10^(30:Int).toNat+1)<=10^30
   omega
 ·rintro σ H5 ⟨v6,v7,ws,ks,rfl,s6,hw,tk,kl,kb⟩
  rw[Ls,hzl]at kl
  refine⟨_,rfl,t',_,0,_,rfl,rfl,SqT.of (s6 _ _ ht'),at0,_,rfl,t',_,1,_,rfl,rfl,SqT.of (s6 _ _ ht'),at1,_,rfl,(by show 3<=sizeLine;decide),fun tt htt=>?_⟩
  have sn:=aj htt (.tup [.ref pe',.ref pt',.ref q])
  exact kk tt pe' pt' q m es' ts' ks _ ((s14.trans s6).trans sn) ⟨ae,(wp.mono s6).mono sn,⟨ws,sn _ _ hw,tk.mono sn⟩,hel2,kl,kb,by omega⟩
end
end K8
namespace K8
open PySem L2
local macro_rules | `(tactic| walk_at "cc") => `(tactic| first | exact ⟨by decide, by decide⟩ | (show (0 : Int) < _; decide) | (show (0 : Int) < _; omega) | (show (0 : Int) ≤ _; omega) | exact ⟨by decide, by decide, by decide⟩ | exact ⟨by omega, by omega, by decide⟩ | exact Or.inl ⟨by decide, by decide⟩ | exact Or.inl ⟨by omega, by omega⟩)
local macro_rules | `(tactic| walk_at "rd") => `(tactic| repeat (first | refine ⟨_, rfl, ?_⟩ | refine ⟨_, _, rfl, rfl, ?_⟩ | refine ⟨rfl, ?_⟩ | (refine ⟨?cc, ?_⟩; (case cc => walk_at "cc"))))
theorem andN(a b:Nat):Builtin.bitAnd (a:Int) (b:Int)=((a&&&b:Nat):Int):=by
 rw[PyProof.Rows.bitAnd_pp (Int.natCast_nonneg _) (Int.natCast_nonneg _),Ls,Ls]
theorem orN(a b:Nat):Builtin.bitOr (a:Int) (b:Int)=((a|||b:Nat):Int):=by
 rw[PyProof.Rows.bitOr_and,andN]
 have q:=PyProof.Rows.nat_or_add_and a b
 omega
theorem shlN(p:Nat):(1:Int)*2^((p:Nat):Int).toNat=((2^p:Nat):Int):=by
 rw[Int.one_mul,Ls,Int.natCast_pow]
 rfl
theorem Hi{M p q:Nat}:(M&&&(2^p|||2^q)=0↔M.testBit p=false/\M.testBit q=false)/\(M|||(2^p|||2^q)=M->M.testBit p=true/\M.testBit q=true):=by
 have b1:∀ i,(2^p|||2^q).testBit i=(decide (p=i)||decide (q=i)):=fun i=>by rw[NP,Nat.testBit_two_pow,Nat.testBit_two_pow]
 refine⟨⟨fun h=>?_,fun⟨h1,h2⟩=>?_⟩,fun h=>?_⟩
 ·have h1:=congrArg (fun z=>NJ z p) h
  have h2:=congrArg (fun z=>NJ z q) h
  simp only[Nat.testBit_and,b1,Nat.zero_testBit]at h1 h2
  constructor
  ·simpa using h1
  ·simpa using h2
 ·refine Nat.eq_of_testBit_eq fun i=>?_
  rw[Nat.testBit_and,b1,Nat.zero_testBit]
  by_cases z1:p=i
  ·subst z1;rw[h1];rfl
  ·by_cases z2:q=i
   ·subst z2;rw[h2];rfl
   ·simp[z1,z2]
 ·have h1:=congrArg (fun z=>NJ z p) h
  have h2:=congrArg (fun z=>NJ z q) h
  simp only[NP (x:=M),b1]at h1 h2
  constructor
  ·simpa using h1.symm
  ·simpa using h2.symm
theorem F7{M m:Nat}(h:M<2^m)(k:∀ p,p<m->M.testBit p=true):M=2^m-1:=by
 refine Nat.eq_of_testBit_eq fun i=>?_
 rw[Nat.testBit_two_pow_sub_one]
 by_cases z:i<m
 ·rw[k i z,decide_eq_true z]
 ·rw[decide_eq_false z]
  exact Nat.testBit_lt_two_pow (Lx h (Nat.pow_le_pow_right (by decide) (by omega)))
def yN(K:KW):Sp:=fun vs H Q _=>∃(a:Addr)(ys:List V)(m:Nat)(es:En)(ts:List (List Nat)),vs = [.int 0,.ref a]/\SqL K H a ys/\cy H ys es/\Gr m es ts/\2<=m/\m<=40/\Q (.int ((2^m-1:Nat):Int)) H
section
variable{P:Program}{w:World}{K:KW}{mg:Str->Option Value}{base:Heap}
theorem b9:aD ["start","pairs","mask","ahead","one","two","ends"] ["start","pairs"] (ag fi):=⟨rfl,rfl,rfl,by decide +kernel,rfl,by decide +kernel,by decide +kernel⟩
theorem CM{f:Addr}{fd:FuncData} (F:Fun K "reached" "reached" fi f fd):FnOk P w K mg base CX0 1 f fd ["start","pairs"] (yN K):=by
 refine F.ok b9 (fun vs H Q E h=>?_) (fun cdv A outer s H vs Q E hr h=>?_)
 ·obtain⟨a,ys,m,es,ts,rfl,_⟩:=h
  rfl
 obtain⟨a,ys,m,es,ts,rfl,hS,hE,g,m2,m40,kk⟩:=h
 refine⟨_,(ab (av (i:=2) b9.nd rfl (Or.inl rfl) (aG BM ai (pv 0)))
   (ab (av (i:=3) b9.nd rfl (Or.inl rfl) ai)
   (ab (nT PassesOwn.never (ax jg (pv 2) (pv 3) (aI _)) (ab (av (i:=3) b9.nd rfl (Or.inl rfl) (pv 2))
   (ak (cG PassesOwn.never rfl (b7 (pv 1)) (BH rfl (bX (aW (i:=4) b9.nd rfl (Or.inl rfl)) (bX (aW (i:=5) b9.nd rfl (Or.inl rfl)) oM))) (ab (av (i:=6) b9.nd rfl (Or.inl rfl) (aG op_or (aG BM ai (pv 4)) (aG BM ai (pv 5))))
   (ak (bw (ax jg (aG op_and (pv 2) (pv 6)) ai (aI _)) (ak (av (i:=2) b9.nd rfl (Or.inl rfl) (aG op_or (pv 2) (pv 6)))) aQ)))))))
   (ak (aJ (pv 2)))))),?_⟩
 refine⟨_,rfl,_,_,rfl,rfl,⟨by decide,by decide,by decide⟩,?_⟩
 have p2:∀ p,p<m->2^p<2^m:=fun p hp=>Nat.pow_lt_pow_right (by decide) hp
 refine so (fun σ H2=>∃(M Ah:Nat),∃ v4 v5 v6,H2=H/\σ = [some (.int 0),some (.ref a),some (.int (M:Int)),some (.int (Ah:Int)),v4,v5,v6]/\M.testBit 0=true/\M<2^m/\(M=Ah->∀ e∈es,M.testBit e.1=M.testBit e.2))
  (fun σ _=>match σ with | [_,_,some (.int M),some (.int Ah),_,_,_]=>2*((2^m:Nat)-M).toNat+(if M=Ah then 0 else 1) | _=>0) ⟨1,0,_,_,_,rfl,rfl,by decide,Nat.one_lt_two_pow (by omega),fun z=>absurd z (by decide)⟩ ?_ ?_
 ·rintro σ H2 ⟨M,Ah,v4,v5,v6,rfl,rfl,b0,hM,cl⟩
  refine⟨_,rfl,_,rfl,rfl,_,rfl,?_⟩
  refine ite2 (fun c=>?_) (fun c=>?_)
  ·have c':M≠Ah:=fun z=>by
    rw[decide_eq_true (show V.int (M:Int)=V.int (Ah:Int) by rw[z])]at c
    cases c
   refine⟨_,rfl,?_⟩
   refine⟨_,rfl,a,rfl,⟨_,hS⟩,i8 (K:=K) (xs:=ys) (fun i σ H3=>∃(M':Nat),∃ v4 v5 v6,H3=H2/\σ = [some (.int 0),some (.ref a),some (.int (M':Int)),some (.int (M:Int)),v4,v5,v6]/\M'.testBit 0=true/\M'<2^m/\M<=M'/\(M'=M->∀(j:Nat)(e:Nat×Nat),j<i->es[j]?=some e->M.testBit e.1=M.testBit e.2)) ⟨M,_,_,_,rfl,rfl,b0,hM,K3 _,fun _ j e z=>absurd z (MI _)⟩ (fun i σ H3 _ ⟨_,_,_,_,z,_⟩=>z▸hS) ?_ ?_⟩
   ·rintro i x σ H3 hx ⟨M',v4,v5,v6,rfl,rfl,b0',hM',hle,cl'⟩
    have hi:i<es.length:=by rw[← hE.1];exact(KS.mp hx).1
    obtain⟨e,he⟩:∃ e,es[i]?=some e:=⟨_,KR hi⟩
    obtain⟨p,x1,x2⟩:=hE.2 i e he
    rw[hx]at x1
    cases x1
    obtain⟨e1,e2,_⟩:=g.w.ends e (K1 he)
    obtain⟨t1,t2⟩:=Hi (M:=M') (p:=e.1) (q:=e.2)
    refine⟨p,_,rfl,SqT.of x2,rfl,_,_,rfl,_,_,rfl,rfl,?_⟩
    refine⟨_,rfl,_,_,rfl,rfl,⟨by omega,by omega,by decide⟩,_,rfl,_,_,rfl,rfl,⟨by omega,by omega,by decide⟩,_,_,rfl,rfl,?_⟩
    have eo:Builtin.bitOr (1*2^((e.1:Nat):Int).toNat) (1*2^((e.2:Nat):Int).toNat)=((2^e.1|||2^e.2:Nat):Int):=by rw[shlN,shlN,orN]
    refine⟨_,rfl,_,rfl,_,_,rfl,rfl,rfl,_,rfl,?_⟩
    have step:∀ M'':Nat,M'<=M''->(M''=M'->M'.testBit e.1=M'.testBit e.2)->M''=M->∀(j:Nat)(x:Nat×Nat),j<i+1->es[j]?=some x->M.testBit x.1=M.testBit x.2:=fun M'' h1 h2 h3 j x hj hx'=>by
     have e3:M'=M:=by omega
     by_cases z:j=i
     ·subst z
      rw[he]at hx'
      cases hx'
      have:=h2 (by omega)
      rwa[e3]at this
     ·exact cl' e3 j x (by omega) hx'
    refine ite2 (fun c=>?_) (fun c=>?_)
    ·refine⟨_,rfl,_,rfl,_,_,rfl,rfl,?_⟩
     refine⟨M'|||(2^e.1|||2^e.2),some (iV e.1),some (iV e.2),some (V.int (Builtin.bitOr (1*2^((e.1:Nat):Int).toNat) (1*2^((e.2:Nat):Int).toNat))),rfl,?_,?_,Nat.or_lt_two_pow hM' (Nat.or_lt_two_pow (p2 _ e1) (p2 _ e2)),LH hle Nat.left_le_or,step _ Nat.left_le_or fun z=>?_⟩
     ·show[some (V.int 0),some (V.ref a),some (V.int (Builtin.bitOr (M':Int) (Builtin.bitOr (1*2^((e.1:Nat):Int).toNat) (1*2^((e.2:Nat):Int).toNat)))),some (V.int (M:Int)),some (iV e.1),some (iV e.2),some (V.int (Builtin.bitOr (1*2^((e.1:Nat):Int).toNat) (1*2^((e.2:Nat):Int).toNat)))]=_
      rw[eo,orN]
     ·rw[NP,b0'];rfl
     ·obtain⟨u1,u2⟩:=t2 z
      rw[u1,u2]
    ·refine⟨M',_,_,_,rfl,rfl,b0',hM',hle,step M' (K3 _) fun _=>?_⟩
     have c3:M'&&&(2^e.1|||2^e.2)=0:=by
      by_cases z:M'&&&(2^e.1|||2^e.2)=0
      ·exact z
      ·refine absurd ?_ c
       rw[decide_eq_false (fun y=>z ?_)]
       ·rfl
       ·have y':=V.int.inj y
        rw[eo,andN]at y'
        omega
     obtain⟨u1,u2⟩:=t1.mp c3
     rw[u1,u2]
   ·rintro σ H3 ⟨M',v4,v5,v6,rfl,rfl,b0',hM',hle,cl'⟩
    rw[hE.1]at cl'
    refine⟨⟨M',M,_,_,_,rfl,rfl,b0',hM',fun z e he=>?_⟩,?_⟩
    ·obtain⟨j,hj⟩:=LO.mp he
     have:=cl' z j e (KS.mp hj).1 hj
     rw[z]
     exact this
    ·show 2*(((2^m:Nat):Int)-(M':Int)).toNat+(if(M':Int)=(M:Int) then 0 else 1)<2*(((2^m:Nat):Int)-(M:Int)).toNat+(if(M:Int)=(Ah:Int) then 0 else 1)
     rw[if_neg (show ¬ (M:Int)=(Ah:Int) from fun z=>c' (by omega))]
     have hMi:(M':Int)<((2^m:Nat):Int):=by exact_mod_cast hM'
     have hMj:(M:Int)<=(M':Int):=by omega
     generalize ((2^m:Nat):Int)=Z at hMi ⊢
     split<;>omega
  ·have c':M=Ah:=by
    by_cases z:M=Ah
    ·exact z
    ·exact absurd (by rw[decide_eq_false (fun y=>z (by have:=V.int.inj y;omega))];rfl) c
   have full:=F7 hM fun p hp=>by
    have:=g.conn (fun x=>M.testBit x=true) (fun e he=>by rw[cl c' e he]) 0 p (by omega) hp b0
    exact this
   refine⟨_,rfl,?_⟩
   rw[full]
   exact kk
 ·rintro σ H2 Q1 Q2 hi ⟨v',e,b',e2,z1,c',e3,q'⟩
  exact⟨v',e,b',e2,z1,c',e3,hi _ _ q'⟩
end
end K8
namespace K8
open PySem L2
local macro_rules | `(tactic| walk_at "cc") => `(tactic| first | exact ⟨by decide, by decide⟩ | (show (0 : Int) < _; decide) | (show (0 : Int) < _; omega) | (show (0 : Int) ≤ _; omega) | exact ⟨by decide, by decide, by decide⟩ | exact ⟨by omega, by omega, by decide⟩ | exact Or.inl ⟨by decide, by decide⟩ | exact Or.inl ⟨by omega, by omega⟩)
local macro_rules | `(tactic| walk_at "rd") => `(tactic| repeat (first | refine ⟨_, rfl, ?_⟩ | refine ⟨_, _, rfl, rfl, ?_⟩ | refine ⟨rfl, ?_⟩ | (refine ⟨?cc, ?_⟩; (case cc => walk_at "cc"))))
theorem rG:∀{a b:List Int},a.Perm b->a.Pairwise (·<=·)->b.Pairwise (·<=·)->a=b
 |[],b,h,_,_=>(List.nil_perm.mp h).symm▸rfl
 |x::a,[],h,_,_=>absurd h.length_eq (by simp)
 |x::a,y::b,h,pa,pb=>by
  obtain⟨a1,a2⟩:=List.pairwise_cons.mp pa
  obtain⟨b1,b2⟩:=List.pairwise_cons.mp pb
  have h1:x<=y:=by
   rcases K0.mp (h.mem_iff.mpr (Lg ..):y∈x::a)with z | z
   ·rw[z];exact Int.le_refl _
   ·exact a1 y z
  have h2:y<=x:=by
   rcases K0.mp (h.mem_iff.mp (Lg ..):x∈y::b)with z | z
   ·rw[z];exact Int.le_refl _
   ·exact b1 x z
  have e:x=y:=Int.le_antisymm h1 h2
  subst e
  rw[rG (List.Perm.cons_inv h) a2 b2]
def cI(l:List Nat):List Int:=l.map fun(p:Nat)=>((p:Nat):Int)
theorem cI_V(l:List Nat):(cI l).map V.int=l.map iV:=by unfold cI;rw[LZ];rfl
theorem Jq{l r:List Nat}{out:List Int}(hp:out.Perm (cI l))(hs:out.Pairwise (·<=·))(nl:l.Nodup)(pr:r.Pairwise (· < ·))(hm:∀ t,t∈l↔t∈r):out=cI r:=by
 have nr:r.Nodup:=pr.imp fun h=>Ly h
 have q:(cI l).Perm (cI r):=((List.perm_ext_iff_of_nodup nl nr).mpr hm).map _
 refine rG (hp.trans q) hs ?_
 unfold cI
 exact List.Pairwise.map _ (fun a b h=>by omega) pr
theorem F1{l:List Nat}{n:Nat}:ins l l.length n=l++[n]:=by
 unfold ins
 rw[LJ,List.drop_length]
def yP(K:KW):Sp:=fun vs H Q _=>∃(a:Addr)(xs:List V)(m:Nat)(es:En),vs = [.int (m:Int),.ref a]/\SqL K H a xs/\dm K H xs es/\(∀ e∈es,e.1<m/\e.2<m)/\Q .non H
def sM(K:KW):Sp:=fun vs H Q _=>∃(a b:Addr)(xs zs:List V)(m:Nat)(es:En)(ts:List (List Nat)),vs = [.int (m:Int),.ref a,.ref b]/\SqL K H a xs/\dm K H xs es/\SqL K H b zs/\bF H zs ts/\bD m es ts/\es.length<=14/\m<=40/\∀ H',Same H H'->Q .non H'
def yO(K:KW):Sp:=fun vs H Q _=>∃(a:Addr)(xs:List V)(m:Nat)(es:En)(ts:List (List Nat)),vs = [.int (m:Int),.ref a]/\SqL K H a xs/\dm K H xs es/\Gr m es ts/\2<=m/\m<=40/\es.length<=14/\∀ H',Same H H'->Q .non H'
section
variable{P:Program}{w:World}{K:KW}{mg:Str->Option Value}{base:Heap}
theorem jk:aD ["many","ties","tie"] ["many","ties"] (ag bM):=⟨rfl,rfl,rfl,by decide +kernel,rfl,by decide +kernel,by decide +kernel⟩
theorem HG{f:Addr}{fd:FuncData} (F:Fun K "refuse_ends" "refuse_ends" bM f fd):FnOk P w K mg base CX0 1 f fd ["many","ties"] (yP K):=by
 refine F.ok jk (fun vs H Q E h=>?_) (fun cdv A outer s H vs Q E hr h=>?_)
 ·obtain⟨a,xs,m,es,rfl,_⟩:=h
  rfl
 obtain⟨a,xs,m,es,rfl,hS,hT,hm,k⟩:=h
 refine⟨_,(ak (cG PassesOwn.never rfl (b7 (pv 1)) (aW (i:=2) jk.nd rfl (Or.inl rfl)) (ak (bw (PW.pt (gU (ax Fb (aZ (pv 2) rfl) (pv 0) (aI _)) (fu (ax Fb (aZ (pv 2) rfl) (pv 0) (aI _))))) (ak bh) aQ)))),?_⟩
 refine⟨_,rfl,a,rfl,⟨_,hS⟩,i8 (K:=K) (xs:=xs) (fun i σ H2=>∃ v2,σ = [some (.int (m:Int)),some (.ref a),v2]/\H2=H) ⟨_,rfl,rfl⟩ (fun i σ H2 _ ⟨_,_,z⟩=>z▸hS) ?_ ?_⟩
 ·rintro i x σ H2 hx ⟨v2,rfl,rfl⟩
  have hi:i<es.length:=by rw[← hT.1];exact(KS.mp hx).1
  obtain⟨e,he⟩:∃ e,es[i]?=some e:=⟨_,KR hi⟩
  obtain⟨p,C,dx,st,x1,x2,x3⟩:=hT.2 i e he
  rw[hx]at x1
  cases x1
  obtain⟨e1,e2⟩:=hm e (K1 he)
  refine⟨_,rfl,p,C,dx,_,_,rfl,x2,x3.cl,x3.n1,jj _ _ _,_,rfl,_,_,rfl,rfl,_,rfl,?_⟩
  refine ite2 (fun c=>absurd (of_decide_eq_true c) (by omega)) (fun _=>?_)
  refine⟨_,rfl,p,C,dx,_,_,rfl,x2,x3.cl,x3.n2,oh _ _ _,_,rfl,_,_,rfl,rfl,_,rfl,?_⟩
  refine ite2 (fun c=>absurd (of_decide_eq_true c) (by omega)) (fun _=>?_)
  exact⟨_,rfl,rfl⟩
 ·rintro σ H2 ⟨v2,rfl,rfl⟩
  exact k
theorem cB:aD ["many","ties","turns","ending","number","tie"] ["many","ties","turns"] (ag bz):=⟨rfl,rfl,rfl,by decide +kernel,rfl,by decide +kernel,by decide +kernel⟩
theorem Fg{f:Addr}{fd:FuncData} (F:Fun K "refuse_turns" "refuse_turns" bz f fd) (T:Txt mg):FnOk P w K mg base CX0 1 f fd ["many","ties","turns"] (sM K):=by
 refine F.ok cB (fun vs H Q E h=>?_) (fun cdv A outer s H vs Q E hr h=>?_)
 ·obtain⟨a,b,xs,zs,m,es,ts,rfl,_⟩:=h
  rfl
 obtain⟨a,b,xs,zs,m,es,ts,rfl,hS,hT,hB,hR,w',few,m40,kk⟩:=h
 have hu64:=hr.units
 refine⟨_,(ab (iU (i:=3) rfl cB.nd rfl rfl (fr:=[]) (by exact bR.plain (by rfl) (by decide +kernel) (by rfl) (by decide +kernel) (by rfl) (by decide +kernel)) (bH rfl T.n_range (aa (pv 0) af)) (fun C ex s H=>(bE af)))
   (ab (cG PassesOwn.never rfl (zu rfl T.n_enumerate (aa (pv 1) af)) (BH rfl (bX (aW (i:=4) cB.nd rfl (Or.inl rfl)) (bX (aW (i:=5) cB.nd rfl (Or.inl rfl)) oM))) (ab (aY (bT Ld Lv Lu ba (aF ay (pv 3) (aZ (pv 5) rfl) (fun _ _=>rfl)) (aa (pv 4) af)))
   (ak (aY (bT Ld Lv Lu ba (aF ay (pv 3) (aZ (pv 5) rfl) (fun _ _=>rfl)) (aa (pv 4) af))))))
   (ak (bw (ax (op_neD hu64) (gZ rfl (fr:=[]) (by exact bR.plain (by rfl) (by decide +kernel) (by rfl) (by decide +kernel) (by rfl) (by decide +kernel)) (b7 (pv 2)) (fun C ex s H=>(aB (x9 (K:=K) rfl) (by rfl) T.n_sorted GU (aa (pv 0) af)))) (pv 3) (aI _)) (ak bh) aQ)))),?_⟩
 refine⟨_,rfl,_,rfl,by omega,by omega,rQ (n:=(m:Int).toNat) (fun i ys H2=>Same H H2/\cF (fun p=>H p≠none) H2 ys (Mu i [])/\Dist ys) (by rw[Ls];exact Md (aH (by omega))) ⟨fun _ _ e=>e,⟨rfl,fun i l e=>by simp at e⟩,fun i j p e=>by simp at e⟩ ?_ ?_⟩
 ·rintro i ys H2 hi ⟨s2,rx,D⟩
  refine⟨(by show 0<=sizeLine;decide),fun l hl=>?_⟩
  have s3:=aj hl (.lst [])
  refine⟨s2.trans s3,?_,xu rx D hl⟩
  rw[List.replicate_succ']
  refine(rx.mono fun b u _ z=>s3 _ _ z).snoc (fun z=>z ?_) ae
  cases y:H l with
  |none=>rfl
  |some o=>rw[s2 _ _ y]at hl;cases hl
 rintro ys H2 hyl ⟨s2,rx,D⟩ pn hpn
 rw[Ls]at rx
 have s3:=aj hpn (.lst ys)
 have hpn0:H pn=none:=by
  cases y:H pn with
  |none=>rfl
  |some o=>rw[s2 _ _ y]at hpn;cases hpn
 have rx3:cF (fun p=>p=pn∨H p≠none) (upd H2 pn (.lst ys)) ys (Mu m []):=⟨rx.1,fun i l z=>by
  obtain⟨p,a1,a2,a3⟩:=rx.2 i l z
  have n2:p≠pn:=ar a3 hpn
  exact⟨p,a1,by rintro(y | y);exact n2 y;exact a2 y,s3 _ _ a3⟩⟩
 refine⟨_,rfl,a,rfl,⟨_,(s2.trans s3).seq hS⟩,BX (K:=K) (xs:=xs) (fun i σ H5=>∃ v4 v5 rows,σ = [some (.int (m:Int)),some (.ref a),some (.ref b),some (.ref pn),v4,v5]/\Same H H5/\H5 pn=some (.lst ys)/\cF (fun p=>p=pn∨H p≠none) H5 ys rows/\bD m (es.take i) rows/\∀ r∈rows,r.Pairwise (· < ·))
  ⟨_,_,_,rfl,s2.trans s3,ae,rx3,Hk m,fun r hr=>by rw[(List.mem_replicate.mp hr).2];exact List.Pairwise.nil⟩ (fun i σ H5 _ ⟨_,_,_,_,z,_⟩=>z.seq hS) ?_ ?_⟩
 ·rintro i x σ H5 T2 hx ⟨v4,v5,rows,rfl,s5,hpn5,rx5,w5,pw⟩ hT2
  have hi:i<es.length:=by rw[← hT.1];exact(KS.mp hx).1
  obtain⟨e,he⟩:∃ e,es[i]?=some e:=⟨_,KR hi⟩
  obtain⟨p,C,dx,st,x1,x2,x3⟩:=hT.2 i e he
  rw[hx]at x1
  cases x1
  have sT:=aj hT2 (.tup [.int (i:Int),.ref p])
  have s6:=s5.trans sT
  have x6:=s6 _ _ x2
  obtain⟨e1,e2,e3⟩:=w'.ends e (K1 he)
  have til:(es.take i).length=i:=by rw[LS];omega
  have rlen:=w5.len
  obtain⟨l,hl⟩:∃ l,rows[e.1]?=some l:=⟨_,KR (by omega)⟩
  obtain⟨l',hl'⟩:∃ l,rows[e.2]?=some l:=⟨_,KR (by omega)⟩
  have rx6:cF (fun p=>p=pn∨H p≠none) (upd H5 T2 (.tup [.int (i:Int),.ref p])) ys rows:=rx5.mono fun b u _ z=>sT _ _ z
  obtain⟨p1,y1,y2,y3⟩:=rx6.2 _ _ hl
  obtain⟨p2,z1,z2,z3⟩:=rx6.2 _ _ hl'
  have no_S:∀{p:Addr},¬ (p=pn∨H p≠none)->H p=none/\p≠pn:=fun{p} n=>by
   refine⟨?_,fun z=>n (.inl z)⟩
   cases y:H p with
   |none=>rfl
   |some o=>exact absurd (.inr (by rw[y];exact fun z=>nomatch z)) n
  obtain⟨hp1,np1⟩:=no_S y2
  obtain⟨hp2,np2⟩:=no_S z2
  have n12:p2≠p1:=fun y=>by rw[y]at z1;exact e3 (D _ _ p1 y1 z1)
  have ll:∀{q:Nat}{r:List Nat},rows[q]?=some r->∀ t∈r,t<i:=fun{q r} h t ht=>by
   have:=mS w5 h ht
   omega
  have lle:∀{q:Nat}{r:List Nat},rows[q]?=some r->r.length<=14:=fun{q r} h=>by
   have:=gO (w5.nd _ _ h) (ll h)
   omega
  have f1:=lle hl
  have f2:=lle hl'
  have hpn6:=sT _ _ hpn5
  refine⟨T2,_,rfl,SqT.of ae,rfl,_,_,rfl,_,_,rfl,rfl,?_⟩
  refine⟨_,rfl,_,rfl,p,C,dx,_,_,rfl,x6,x3.cl,x3.n1,jj _ _ _,pn,ys,_,_,rfl,rfl,SqL.of hpn6,aM y1,.inl ⟨rfl,_,SqL.of y3⟩,_,rfl,p1,_,_,rfl,rfl,y3,aH (by rw[K2];omega),?_⟩
  have e1':(l.map iV)++[V.int (i:Int)]=(l++[i]).map iV:=by rw[Lz];rfl
  rw[e1']
  have x7:(upd (upd H5 T2 (.tup [.int (i:Int),.ref p])) p1 (.lst ((l++[i]).map iV))) p=some (.ins C dx (tf (e.1:Int) (e.2:Int) st)):=by rw[aq (fun z=>by rw[z]at x2;rw[x2]at hp1;cases hp1)];exact x6
  have hpn7:(upd (upd H5 T2 (.tup [.int (i:Int),.ref p])) p1 (.lst ((l++[i]).map iV))) pn=some (.lst ys):=by rw[aq np1.symm];exact hpn6
  have z7:(upd (upd H5 T2 (.tup [.int (i:Int),.ref p])) p1 (.lst ((l++[i]).map iV))) p2=some (.lst (l'.map iV)):=by rw[aq n12];exact z3
  refine⟨_,rfl,_,rfl,p,C,dx,_,_,rfl,x7,x3.cl,x3.n2,oh _ _ _,pn,ys,_,_,rfl,rfl,SqL.of hpn7,aM z1,.inl ⟨rfl,_,SqL.of z7⟩,_,rfl,p2,_,_,rfl,rfl,z7,aH (by rw[K2];omega),?_⟩
  have e2':(l'.map iV)++[V.int (i:Int)]=(l'++[i]).map iV:=by rw[Lz];rfl
  rw[e2']
  refine⟨_,_,(rows.set e.1 (l++[i])).set e.2 (l'++[i]),rfl,aL (aL s6 hp1 _) hp2 _,by rw[aq np2.symm];exact hpn7,(rx6.set D y1).set D z1,?_,fun r hr=>?_⟩
  ·have q:=w5.put (k:=l.length) (j:=l'.length) e1 e2 e3 hl hl'
   rw[F1,F1,til]at q
   rw[LD,he]
   exact q
  ·have app:∀{q:Nat}{r:List Nat},rows[q]?=some r->(r++[i]).Pairwise (· < ·):=fun{q r} h=>List.pairwise_append.mpr ⟨pw r (K1 h),List.pairwise_singleton _ _,fun x hx y hy=>by
    have:=ll h x hx
    have:y=i:=by simpa using hy
    omega⟩
   rcases M1 hr with z | z
   ·rcases M1 z with z | z
    ·exact pw r z
    ·rw[z];exact app hl
   ·rw[z];exact app hl'
 rintro σ H5 ⟨v4,v5,rows,rfl,s5,hpn5,rx5,w5,pw⟩
 rw[hT.1,LJ]at w5
 have hzl:zs.length=m:=by rw[hR.1,w'.len]
 refine⟨_,rfl,b,rfl,⟨_,s5.seq hB⟩,c8 (K:=K) (xs:=zs) (fun i vs H6=>Same H5 H6/\bF H6 vs (rows.take i)) (Md (aH (by omega))) ⟨fun _ _ e=>e,rfl,fun i l e=>by simp at e⟩ (fun i vs H6 _ z=>(s5.trans z.1).seq hB) ?_ ?_⟩
 ·rintro i x vs H6 hx ⟨s6,rz⟩
  have hi:i<ts.length:=by rw[← hR.1];exact(KS.mp hx).1
  obtain⟨l,hl⟩:∃ l,ts[i]?=some l:=⟨_,KR hi⟩
  obtain⟨r,hr'⟩:∃ r,rows[i]?=some r:=⟨_,KR (by rw[w5.len,← w'.len];exact hi)⟩
  obtain⟨p,a1,a2⟩:=(hR.mono (s5.trans s6)).2 i l hl
  rw[hx]at a1
  cases a1
  have hll:l.length<=14:=LH (gO (w'.nd _ _ hl) fun t ht=>mS w' hl ht) few
  refine⟨_,rfl,p,cI l,rfl,(by rw[cI_V];exact SqL.of a2),(by unfold cI;rw[K2];omega),fun q out hq hp hs=>?_⟩
  have eo:=Jq hp hs (w'.nd _ _ hl) (pw r (K1 hr')) fun t=>(w'.mem i l hl t).trans (w5.mem i r hr' t).symm
  subst eo
  have s7:=aj hq (.lst ((cI r).map V.int))
  refine⟨s6.trans s7,?_⟩
  rw[show rows.take (i+1)=rows.take i++[r] by rw[LD,hr'];rfl]
  exact(rz.mono s7).snoc (by rw[ae,cI_V])
 rintro vs H6 _ ⟨s6,rz⟩ D' hD'
 rw[hzl,← w5.len,LJ]at rz
 have s7:=aj hD' (.lst vs)
 have s67:=s6.trans s7
 refine⟨_,rfl,_,EJ (SqL.of ae) (rz.mono s7),EJ (SqL.of (s67 _ _ hpn5)) (rx5.off.mono s67),zb rows,_,rfl,iteF ?_⟩
 exact kk _ (s5.trans s67)
theorem nC:aD ["many","ties"] ["many","ties"] (ag bj):=⟨rfl,rfl,rfl,by decide +kernel,rfl,by decide +kernel,by decide +kernel⟩
theorem HC{f fr:Addr}{fd fdr:FuncData} (F:Fun K "refuse_parted" "refuse_parted" bj f fd) (G_reached:Cal P w K mg base 1 "reached" ["start","pairs"] (yN K) fr fdr):FnOk P w K mg base CX0 2 f fd ["many","ties"] (yO K):=by
 refine F.ok nC (fun vs H Q E h=>?_) (fun cdv A outer s H vs Q E hr h=>?_)
 ·obtain⟨a,xs,m,es,ts,rfl,_⟩:=h
  rfl
 obtain⟨a,xs,m,es,ts,rfl,hS,hT,g,m2,m40,few,kk⟩:=h
 have hul:xs.length=es.length:=hT.1
 refine⟨_,(ak (bw (ax jg (au G_reached.ok (hr.mono (by decide)) rfl G_reached.mg G_reached.kp G_reached.bn .nil aK (aa ai (aa (gZ rfl (fr:=[]) (by exact bR.plain (by rfl) (by decide +kernel) (by rfl) (by decide +kernel) (by rfl) (by decide +kernel)) (b7 (pv 1)) (fun C ex s H=>(bS (aa (EX (K:=K) rfl (pv 0) rfl) (aa (EX (K:=K) rfl (pv 0) rfl) af))))) af))) (aG mR (aG BM ai (pv 0)) ai) (aI _)) (ak bh) aQ)),?_⟩
 refine⟨_,rfl,a,rfl,⟨_,hS⟩,c8 (K:=K) (xs:=xs) (fun i zs H11=>Same H H11/\cy H11 zs (es.take i)) (Md (aH (by omega))) ⟨fun _ _ e=>e,rfl,fun i l e=>by simp at e⟩ (fun i zs H11 _ z=>z.1.seq hS) ?_ ?_⟩
 ·rintro i x zs H11 hx ⟨s11,ez⟩
  have hi:i<es.length:=by rw[← hT.1];exact(KS.mp hx).1
  obtain⟨e,he⟩:∃ e,es[i]?=some e:=⟨_,KR hi⟩
  obtain⟨p,C,dx,st,a1,a2,a3⟩:=(hT.mono s11).2 i e he
  rw[hx]at a1
  cases a1
  refine⟨_,rfl,p,C,dx,_,_,rfl,a2,a3.cl,a3.n1,jj _ _ _,_,rfl,p,C,dx,_,_,rfl,a2,a3.cl,a3.n2,oh _ _ _,(by show 2<=sizeLine;decide),fun g hg=>?_⟩
  have s12:=aj hg (.tup [iV e.1,iV e.2])
  refine⟨s11.trans s12,?_⟩
  rw[show es.take (i+1)=es.take i++[e] by rw[LD,he];rfl]
  exact(ez.mono s12).snoc ae
 rintro zs H11 _ ⟨s11,ez⟩ D hD
 rw[hT.1,LJ]at ez
 have s12:=aj hD (.lst zs)
 refine⟨D,zs,m,es,ts,rfl,SqL.of ae,ez.mono s12,g,m2,m40,_,rfl,_,_,rfl,rfl,⟨by omega,by omega,by decide⟩,_,_,rfl,rfl,rfl,_,rfl,?_⟩
 refine iteNS ?_ (kk _ (s11.trans s12))
 show V.int _=V.int _
 rw[shlN]
 have:=Nat.two_pow_pos m
 congr 1
 omega
end
end K8
namespace K8
open PySem L2
local macro_rules | `(tactic| walk_at "cc") => `(tactic| first | exact ⟨by decide, by decide⟩ | (show (0 : Int) < _; decide) | (show (0 : Int) < _; omega) | (show (0 : Int) ≤ _; omega) | exact ⟨by decide, by decide, by decide⟩ | exact ⟨by omega, by omega, by decide⟩ | exact Or.inl ⟨by decide, by decide⟩ | exact Or.inl ⟨by omega, by omega⟩)
local macro_rules | `(tactic| walk_at "rd") => `(tactic| repeat (first | refine ⟨_, rfl, ?_⟩ | refine ⟨_, _, rfl, rfl, ?_⟩ | refine ⟨rfl, ?_⟩ | (refine ⟨?cc, ?_⟩; (case cc => walk_at "cc"))))
def cls(PL PS:Addr)(push:Bool):Addr:=if push=true then PS else PL
def eZ(PL PS:Addr)(H:Hp)(xs:List V)(es:En)(ks:Kn):Prop:=xs.length=es.length/\∀(i:Nat)(e:Nat×Nat)(k:Int×Int),es[i]?=some e->ks[i]?=some k->∃ p dx,xs[i]?=some (.ref p)/\H p=some (.ins (cls PL PS (decide (k.1=1))) dx (tf (e.1:Int) (e.2:Int) k.2))
theorem eZ.mono{PL PS:Addr}{H H':Hp}{xs:List V}{es:En}{ks:Kn}(t:eZ PL PS H xs es ks)(h:Same H H'):eZ PL PS H' xs es ks:=⟨t.1,fun i e k q r=>by
 obtain⟨p,dx,a,b⟩:=t.2 i e k q r
 exact⟨p,dx,a,h _ _ b⟩⟩
structure CW(K:KW)(C:Addr):Prop where
 cl:Cls K C
 n1:dZ K C "many"
 n2:dZ K C "ties"
 n3:dZ K C "turns"
 n4:dZ K C "rounds"
 n5:dZ K C "sides"
theorem iT(k:Str)(v:V):∀ fs:List (Str×V),(putF k v fs).length<=fs.length+1
 |[]=>K3 _
 | (a,b)::r=>by
  show(if a=k then(a,v)::r else(a,b)::putF k v r).length<=_
  have:=iT k v r
  split<;>simp only[Lw]<;>omega
theorem none_of{H H':Hp}{b:Addr}(s:Same H H')(z:H' b=none):H b=none:=by
 cases y:H b with
 |none=>rfl
 |some o=>rw[s _ _ y]at z;cases z
structure WebG(S:Addr->Prop)(H:Hp)(fs:List (Str×V))(m:Nat)(es:En)(ts rs:List (List Nat)):Prop where
 many:fs.lookup ("many" : Str)=some (.int (m:Int))
 turns:∃ q z,fs.lookup ("turns" : Str)=some (.ref q)/\¬ S q/\H q=some (.lst z)/\cF S H z ts
 rounds:∃ q z,fs.lookup ("rounds" : Str)=some (.ref q)/\H q=some (.lst z)/\bF H z rs
 sides:∃ q z,fs.lookup ("sides" : Str)=some (.ref q)/\H q=some (.lst z)/\BB H z es.length rs
 part:dY (fol es ts) (2*es.length) (2*es.length) rs
def jx(K:KW):Sp:=fun vs H Q _=>∃(p C dx qt qh:Addr)(m:Nat)(xs zs:List V)(es:En)(ts:List (List Nat)),vs = [.ref p,.int (m:Int),.ref qt,.ref qh]/\H p=some (.ins C dx [])/\CW K C/\H qt=some (.lst xs)/\dm K H xs es/\H qh=some (.lst zs)/\bF H zs ts/\Gr m es ts/\0<es.length/\es.length<=14 /\
 ∀(fs:List (Str×V))(q1:Addr)(rs:List (List Nat))(H':Hp),H' p=some (.ins C dx fs)->WebG (fun a=>H a≠none) H' fs m es ts rs->H q1=none->fs.lookup ("ties" : Str)=some (.ref q1)->H' q1=some (.lst xs)->(∀ q o,H q=some o->q≠p->H' q=some o)->Q .non H'
theorem dm.keep{K:KW}{H G:Hp}{xs:List V}{es:En}{p C dx:Addr}(t:dm K H xs es)(hp:H p=some (.ins C dx []))(k:∀ q u,q≠p->H q=some u->G q=some u):dm K G xs es:=⟨t.1,fun i e z=>by
 obtain⟨q,C',dx',s,a,b,d⟩:=t.2 i e z
 refine⟨q,C',dx',s,a,k _ _ (fun z=>?_) b,d⟩
 rw[z,hp]at b
 have e1:([]:List (Str×V))=tf (e.1:Int) (e.2:Int) s:=by
  injection b with b
  injection b
 have e2:=jj (e.1:Int) (e.2:Int) s
 rw[← e1]at e2
 cases e2⟩
section
variable{P:Program}{w:World}{K:KW}{mg:Str->Option Value}{base:Heap}
theorem kG:aD ["self","many","ties","turns","rounds"] ["self","many","ties","turns"] (ag cp):=⟨rfl,rfl,rfl,by decide +kernel,rfl,by decide +kernel,by decide +kernel⟩
theorem Hz{f f1 f2 f3 f4 f5:Addr}{fd d1 d2 d3 d4 d5:FuncData} (F:Fun K "__init__" "Web.__init__" cp f fd) (T:Txt mg) (G_refuse_ends:Cal P w K mg base 1 "refuse_ends" ["many","ties"] (yP K) f1 d1) (G_refuse_turns:Cal P w K mg base 1 "refuse_turns" ["many","ties","turns"] (sM K) f2 d2) (G_refuse_parted:Cal P w K mg base 2 "refuse_parted" ["many","ties"] (yO K) f3 d3) (G_rounds_of:Cal P w K mg base 4 "rounds_of" ["ties","turns"] (sJ K) f4 d4) (G_sides_of:Cal P w K mg base 1 "sides_of" ["ties","rounds"] (yL K) f5 d5) :
  FnOk P w K mg base CX0 5 f fd ["self","many","ties","turns"] (jx K):=by
 refine F.ok kG (fun vs H Q E h=>?_) (fun cdv A outer s H vs Q E hr h=>?_)
 ·obtain⟨p,C,dx,qt,qh,m,xs,zs,es,ts,rfl,_⟩:=h
  rfl
 obtain⟨p,C,dx,qt,qh,m,xs,zs,es,ts,rfl,hp,cw,hqt,hT,hqh,hR,g,e0,few,kk⟩:=h
 have w':=g.w
 have m2:=g.two e0
 have mf:=F6 g
 have hul:xs.length=es.length:=hT.1
 have hzl:zs.length=m:=by rw[hR.1,w'.len]
 have pl:∀{q:Addr}{ys:List V},H q=some (.lst ys)->q≠p:=fun{q ys} h z=>by rw[z,hp]at h;cases h
 refine⟨_,(ab (aY (au G_refuse_ends.ok (hr.mono (by decide)) rfl G_refuse_ends.mg G_refuse_ends.kp G_refuse_ends.bn .nil aK (aa (pv 1) (aa (pv 2) af))))
   (ab (aY (au G_refuse_turns.ok (hr.mono (by decide)) rfl G_refuse_turns.mg G_refuse_turns.kp G_refuse_turns.bn .nil aK (aa (pv 1) (aa (pv 2) (aa (pv 3) af)))))
   (ab (aY (au G_refuse_parted.ok (hr.mono (by decide)) rfl G_refuse_parted.mg G_refuse_parted.kp G_refuse_parted.bn .nil aK (aa (pv 1) (aa (pv 2) af))))
   (ab (av (i:=4) kG.nd rfl (Or.inl rfl) (au G_rounds_of.ok (hr.mono (by decide)) rfl G_rounds_of.mg G_rounds_of.kp G_rounds_of.bn .nil aK (aa (pv 2) (aa (pv 3) af))))
   (ab (bw (ax jg (aG bI (aG mR (pv 1) (aB ao (by rfl) T.n_len aV (aa (pv 2) af))) (aB ao (by rfl) T.n_len aV (aa (pv 4) af))) ai (aI _)) (ak bh) aQ)
   (ab (kH (pv 0) (pv 1) rfl)
   (ab (kH (pv 0) (aR bK (by rfl) T.n_list ki (aa (pv 2) af)) rfl)
   (ab (kH (pv 0) (gZ rfl (fr:=[]) (by exact bR.plain (by rfl) (by decide +kernel) (by rfl) (by decide +kernel) (by rfl) (by decide +kernel)) (b7 (pv 3)) (fun C ex s H=>(aR (DT (K:=K) rfl) (by rfl) T.n_list ki (aa (pv 0) af)))) rfl)
   (ab (kH (pv 0) (pv 4) rfl)
   (ak (kH (pv 0) (au G_sides_of.ok (hr.mono (by decide)) rfl G_sides_of.mg G_sides_of.kp G_sides_of.bn .nil aK (aa (pv 2) (aa (pv 4) af))) rfl))))))))))),?_⟩
 refine⟨_,rfl,_,rfl,qt,xs,m,es,rfl,SqL.of hqt,hT,fun e he=>⟨(w'.ends e he).1,(w'.ends e he).2.1⟩,?_⟩
 refine⟨_,rfl,_,rfl,_,rfl,qt,qh,xs,zs,m,es,ts,rfl,SqL.of hqt,hT,SqL.of hqh,hR,w',few,by omega,fun H1 s1=>?_⟩
 refine⟨_,rfl,_,rfl,qt,xs,m,es,ts,rfl,SqL.of (s1 _ _ hqt),hT.mono s1,g,m2,by omega,few,fun H2 s2=>?_⟩
 have s12:=s1.trans s2
 refine⟨_,rfl,_,rfl,qt,qh,m,es,ts,rfl,⟨⟨xs,SqL.of (s12 _ _ hqt),hT.mono s12⟩,⟨zs,SqL.of (s12 _ _ hqh),hR.mono s12⟩,w',by omega⟩,fun qr vs rs H3 s3 hqr hrs ro=>?_⟩
 have s13:=s12.trans s3
 have cnt:m+rs.length=es.length+2:=by
  obtain⟨rs',p',c⟩:=g.part
  rw[← p'.same ro.part]
  exact c
 have hvl:vs.length=rs.length:=hrs.1
 refine⟨_,rfl,_,rfl,qt,xs,rfl,.inl (SqL.of (s13 _ _ hqt)),_,_,rfl,rfl,_,rfl,qr,vs,rfl,.inl (SqL.of hqr),_,_,rfl,rfl,rfl,_,rfl,?_⟩
 refine iteNS (congrArg V.int (by omega)) ?_
 have hp3:=s13 _ _ hp
 refine⟨_,rfl,_,rfl,p,C,dx,[],rfl,hp3,cw.cl,cw.n1,(by show 0<1000;decide),?_⟩
 have keep:∀{G:Hp}{o:HO}{q:Addr}{u:HO},q≠p->G q=some u->(upd G p o) q=some u:=fun n z=>by rw[aq n];exact z
 refine⟨_,rfl,qt,xs,rfl,.inl (SqL.of (keep (pl hqt) (s13 _ _ hqt))),fun q1 hq1=>?_⟩
 have n1p:q1≠p:=fun z=>by rw[z,ae]at hq1;cases hq1
 have t4:=aj hq1 (.lst xs)
 refine⟨_,rfl,p,C,dx,_,rfl,t4 _ _ ae,cw.cl,cw.n2,?_,?_⟩
 ·have:=iT "many" (.int (m:Int)) ([]:List (Str×V));simp only[NL]at this;omega
 have t1:∀ q u,q≠p->H3 q=some u->(upd (upd (upd H3 p (.ins C dx (putF "many" (.int (m:Int)) []))) q1 (.lst xs)) p (.ins C dx (putF "ties" (.ref q1) (putF "many" (.int (m:Int)) [])))) q=some u:=fun q u n z=>keep n (t4 _ _ (keep n z))
 have q1a:(upd (upd (upd H3 p (.ins C dx (putF "many" (.int (m:Int)) []))) q1 (.lst xs)) p (.ins C dx (putF "ties" (.ref q1) (putF "many" (.int (m:Int)) [])))) q1=some (.lst xs):=keep n1p ae
 have pa:(upd (upd (upd H3 p (.ins C dx (putF "many" (.int (m:Int)) []))) q1 (.lst xs)) p (.ins C dx (putF "ties" (.ref q1) (putF "many" (.int (m:Int)) [])))) p=some (.ins C dx (putF "ties" (.ref q1) (putF "many" (.int (m:Int)) []))):=ae
 generalize upd (upd (upd H3 p (.ins C dx (putF "many" (.int (m:Int)) []))) q1 (.lst xs)) p (.ins C dx (putF "ties" (.ref q1) (putF "many" (.int (m:Int)) [])))=H4 at t1 q1a pa
 have lk:(putF "ties" (.ref q1) (putF "many" (.int (m:Int)) []):List (Str×V)).lookup ("ties" : Str)=some (.ref q1):=by rw[aE,if_pos rfl]
 have ln:(putF "ties" (.ref q1) (putF "many" (.int (m:Int)) []):List (Str×V)).length<=2:=by
  have a1:=iT "many" (.int (m:Int)) ([]:List (Str×V))
  have a2:=iT "ties" (.ref q1) (putF "many" (.int (m:Int)) ([]:List (Str×V)))
  simp only[NL]at a1
  omega
 have lkm:(putF "ties" (.ref q1) (putF "many" (.int (m:Int)) []):List (Str×V)).lookup ("many" : Str)=some (.int (m:Int)):=by rw[aE,if_neg (by decide +kernel),aE,if_pos rfl]
 generalize (putF "ties" (.ref q1) (putF "many" (.int (m:Int)) []):List (Str×V))=fs at pa lk ln lkm
 have hqh4:=t1 _ _ (pl hqh) (s13 _ _ hqh)
 have new4:∀{b:Addr},H4 b=none->H b=none:=fun{b} z=>by
  cases y:H b with
  |none=>rfl
  |some o =>
   by_cases n:b=p
   ·rw[n,pa]at z;cases z
   ·rw[t1 _ _ n (s13 _ _ y)]at z;cases z
 have new1:H q1=none:=by
  cases y:H q1 with
  |none=>rfl
  |some o=>rw[keep n1p (s13 _ _ y)]at hq1;cases hq1
 refine⟨_,rfl,qh,rfl,⟨_,SqL.of hqh4⟩,c8 (K:=K) (xs:=zs) (fun i ys H5=>Same H4 H5/\cF (fun a=>H a≠none) H5 ys (ts.take i)) (Md (aH (by omega))) ⟨fun _ _ e=>e,rfl,fun i l e=>by simp at e⟩ (fun i _ H5 _ z=>SqL.of (z.1 _ _ hqh4)) ?_ ?_⟩
 ·rintro i x ys H5 hx ⟨s5,rz⟩
  have hi:i<ts.length:=by rw[← hR.1];exact(KS.mp hx).1
  obtain⟨l,hl⟩:∃ l,ts[i]?=some l:=⟨_,KR hi⟩
  obtain⟨r,a1,a2⟩:=hR.2 i l hl
  rw[hx]at a1
  cases a1
  refine⟨_,rfl,r,_,rfl,.inl (SqL.of (s5 _ _ (t1 _ _ (pl a2) (s13 _ _ a2)))),fun g hg=>⟨s5.trans (aj hg _),?_⟩⟩
  rw[show ts.take (i+1)=ts.take i++[l] by rw[LD,hl];rfl]
  exact(rz.mono fun b u _ z=>aj hg _ _ _ z).snoc (fun z=>z (new4 (none_of s5 hg))) ae
 rintro ys H5 _ ⟨s5,rz⟩ D hD
 rw[hR.1,LJ]at rz
 have hDp:D≠p:=fun z=>by rw[z,s5 _ _ pa]at hD;cases hD
 have s6:=s5.trans (aj hD (.lst ys))
 refine⟨_,rfl,p,C,dx,fs,rfl,s6 _ _ pa,cw.cl,cw.n3,by omega,?_⟩
 have ln1:=iT "turns" (.ref D) fs
 have lk1:(putF "turns" (.ref D) fs).lookup ("ties" : Str)=some (.ref q1):=by rw[aE,if_neg (by decide +kernel)];exact lk
 refine⟨_,rfl,_,rfl,p,C,dx,_,rfl,ae,cw.cl,cw.n4,by omega,?_⟩
 have ln2:=iT "rounds" (.ref qr) (putF "turns" (.ref D) fs)
 have lk2:(putF "rounds" (.ref qr) (putF "turns" (.ref D) fs)).lookup ("ties" : Str)=some (.ref q1):=by rw[aE,if_neg (by decide +kernel)];exact lk1
 have t7:∀ q u,q≠p->H3 q=some u->(upd (upd (upd H5 D (.lst ys)) p (.ins C dx (putF "turns" (.ref D) fs))) p (.ins C dx (putF "rounds" (.ref qr) (putF "turns" (.ref D) fs)))) q=some u:=fun q u n z=>keep n (keep n (s6 _ _ (t1 q u n z)))
 have q17:(upd (upd (upd H5 D (.lst ys)) p (.ins C dx (putF "turns" (.ref D) fs))) p (.ins C dx (putF "rounds" (.ref qr) (putF "turns" (.ref D) fs)))) q1=some (.lst xs):=keep n1p (keep n1p (s6 _ _ q1a))
 have p7:(upd (upd (upd H5 D (.lst ys)) p (.ins C dx (putF "turns" (.ref D) fs))) p (.ins C dx (putF "rounds" (.ref qr) (putF "turns" (.ref D) fs)))) p=some (.ins C dx (putF "rounds" (.ref qr) (putF "turns" (.ref D) fs))):=ae
 have D7:(upd (upd (upd H5 D (.lst ys)) p (.ins C dx (putF "turns" (.ref D) fs))) p (.ins C dx (putF "rounds" (.ref qr) (putF "turns" (.ref D) fs)))) D=some (.lst ys):=keep hDp (keep hDp ae)
 have u7:∀ q u,q≠p->H5 q=some u->(upd (upd (upd H5 D (.lst ys)) p (.ins C dx (putF "turns" (.ref D) fs))) p (.ins C dx (putF "rounds" (.ref qr) (putF "turns" (.ref D) fs)))) q=some u:=fun q u n z=>keep n (keep n (aj hD _ _ _ z))
 generalize upd (upd (upd H5 D (.lst ys)) p (.ins C dx (putF "turns" (.ref D) fs))) p (.ins C dx (putF "rounds" (.ref qr) (putF "turns" (.ref D) fs)))=H7 at t7 q17 p7 D7 u7
 have pl3:∀{q:Addr}{ys:List V},H3 q=some (.lst ys)->q≠p:=fun{q ys} h z=>by rw[z,hp3]at h;cases h
 have rs7:bF H7 vs rs:=⟨hrs.1,fun i l z=>by
  obtain⟨r,a1,a2⟩:=hrs.2 i l z
  exact⟨r,a1,t7 _ _ (pl3 a2) a2⟩⟩
 have T7:dm K H7 xs es:=(hT.mono s13).keep hp3 t7
 refine⟨_,rfl,_,rfl,qt,qr,xs,vs,es,_,rs,rfl,SqL.of (t7 _ _ (pl hqt) (s13 _ _ hqt)),T7,by omega,SqL.of (t7 _ _ (pl3 hqr) hqr),rs7,ro,fun q5 z5 H8 s8 hq5 hs5=>?_⟩
 refine⟨_,rfl,p,C,dx,_,rfl,s8 _ _ p7,cw.cl,cw.n5,by omega,?_⟩
 have n5p:q5≠p:=fun z=>by rw[z,s8 _ _ p7]at hq5;cases hq5
 have hqr7:=t7 _ _ (pl3 hqr) hqr
 refine kk _ q1 rs _ ae ⟨?_,⟨D,ys,?_,fun z=>z (new4 (none_of s5 hD)),keep hDp (s8 _ _ D7),rz.1,fun i l z=>?_⟩,⟨qr,vs,?_,keep (pl3 hqr) (s8 _ _ hqr7),hrs.1,fun i l z=>?_⟩,⟨q5,z5,?_,keep n5p hq5,hs5.1,fun i hi=>?_⟩,ro⟩ new1 (by rw[aE,if_neg (by decide +kernel)];exact lk2) (keep n1p (s8 _ _ q17)) fun q o z n=>keep n (s8 _ _ (t7 q o n (s13 _ _ z)))
 ·rw[aE,if_neg (by decide +kernel),aE,if_neg (by decide +kernel),aE,if_neg (by decide +kernel)]
  exact lkm
 ·rw[aE,if_neg (by decide +kernel),aE,if_neg (by decide +kernel),aE,if_pos rfl]
 ·obtain⟨r,a1,a0,a2⟩:=rz.2 i l z
  have nr:r≠p:=fun z=>by rw[z,s5 _ _ pa]at a2;cases a2
  exact⟨r,a1,a0,keep nr (s8 _ _ (u7 r _ nr a2))⟩
 ·rw[aE,if_neg (by decide +kernel),aE,if_pos rfl]
 ·obtain⟨r,a1,a2⟩:=hrs.2 i l z
  exact⟨r,a1,keep (pl3 a2) (s8 _ _ (t7 _ _ (pl3 a2) a2))⟩
 ·rw[aE,if_pos rfl]
 ·obtain⟨t,a,b,r,r',y1,y2,y3⟩:=hs5.2 i hi
  exact⟨t,a,b,r,r',y1,keep (fun z=>by rw[z,s8 _ _ p7]at y2;cases y2) y2,y3⟩
theorem eZ.at{PL PS:Addr}{H:Hp}{xs:List V}{es:En}{ks:Kn}(t:eZ PL PS H xs es ks)(kl:ks.length=es.length)(TL:CT K PL)(TS:CT K PS):dm K H xs es:=⟨t.1,fun i e z=>by
 have hi:=(KS.mp z).1
 obtain⟨k,hk⟩:∃ k,ks[i]?=some k:=⟨_,KR (by omega)⟩
 obtain⟨p,dx,a,b⟩:=t.2 i e k z hk
 refine⟨p,_,dx,k.2,a,b,?_⟩
 unfold cls
 split
 ·exact TS
 ·exact TL⟩
def WebF(S:Addr->Prop)(PL PS WC:Addr)(H:Hp)(p:Addr)(m:Nat)(es:En)(ts rs:List (List Nat))(ks:Kn):Prop:=∃ dx fs q1 xs,H p=some (.ins WC dx fs)/\WebG S H fs m es ts rs/\¬ S q1/\fs.lookup ("ties" : Str)=some (.ref q1)/\H q1=some (.lst xs)/\eZ PL PS H xs es ks
end
end K8
namespace KF
open PySem L2 PyProof.Rows K8
local macro_rules | `(tactic| walk_at "cc") => `(tactic| first | exact ⟨by decide, by decide⟩ | (show (0 : Int) < _; decide) | (show (0 : Int) < _; omega) | (show (0 : Int) ≤ _; omega) | exact ⟨by decide, by decide, by decide⟩ | exact ⟨by omega, by omega, by decide⟩ | exact Or.inl ⟨by decide, by decide⟩ | exact Or.inl ⟨by omega, by omega⟩)
local macro_rules | `(tactic| walk_at "rd") => `(tactic| repeat (first | refine ⟨_, rfl, ?_⟩ | refine ⟨_, _, rfl, rfl, ?_⟩ | refine ⟨rfl, ?_⟩ | (refine ⟨?cc, ?_⟩; (case cc => walk_at "cc"))))
theorem fH:bootBuiltins "str" = some (.type "str"):=by decide +kernel
theorem oj{a b:Str}(h:a.cps.toList=b.cps.toList):a=b:=Str.ext' (NF.mp h)
theorem om(a b:Str):(a++b).cps.toList=a.cps.toList++b.cps.toList:=by rw[Str.cps_append,Array.toList_append]
theorem su(a:Str):a.length=a.cps.toList.length:=by rw[ME];rfl
def spS:Str:=⟨#[32]⟩
def nlS:Str:=⟨#[10]⟩
theorem qJ:((" " : String):Str)=spS:=by decide +kernel
theorem HP:(("\n" : String):Str)=nlS:=by decide +kernel
theorem Ge:(("" : String):Str)=Str.empty:=by decide +kernel
def jn(c:Nat):List (List Nat)->List Nat
 |[]=>[]
 |[a]=>a
 |a::b::r=>a++c::jn c (b::r)
theorem nY(c:Nat):∀ ws:List Str,(Str.join ⟨#[c]⟩ ws).cps.toList=jn c (ws.map (·.cps.toList))
 |[]=>rfl
 |[_]=>rfl
 |a::b::r=>by
  show((a++⟨#[c]⟩++Str.join ⟨#[c]⟩ (b::r)).cps.toList)=_
  rw[om,om,nY c (b::r)]
  show a.cps.toList++[c]++_=a.cps.toList++c::_
  rw[M9]
  rfl
theorem Gw{c:Nat}:∀{a b x y:List Nat},c∉a->c∉b->a++c::x=b++c::y->a=b/\x=y
 |[],[],_,_,_,_,h=>⟨rfl,(MU h).2⟩
 |[],d::b,_,_,_,hb,h=>absurd (MU h).1 fun z=>hb (by rw[z];exact Lg ..)
 |d::a,[],_,_,ha,_,h=>absurd (MU h).1 fun z=>ha (by rw[← z];exact Lg ..)
 |d::a,e::b,x,y,ha,hb,h=>by
  have q:=MU (show d::(a++c::x)=e::(b++c::y) from h)
  have r:=Gw (fun z=>ha (K6 _ z)) (fun z=>hb (K6 _ z)) q.2
  exact⟨by rw[q.1,r.1],r.2⟩
theorem IH{c:Nat}{a b y:List Nat}(ha:c∉a)(h:a=b++c::y):False:=ha (by rw[h];simp)
theorem IQ{c:Nat}:∀{P Q:List (List Nat)},P≠[]->Q≠[]->(∀ p∈P,c∉p)->(∀ p∈Q,c∉p)->jn c P=jn c Q->P=Q
 |[],_,h,_,_,_,_=>absurd rfl h
 |_,[],_,h,_,_,_=>absurd rfl h
 |[a],[b],_,_,_,_,h=>by rw[show a=b from h]
 |[a],b::b2::r,_,_,hP,_,h=>(IH (hP a (Lg ..)) (show a=b++c::jn c (b2::r) from h)).elim
 |a::a2::r,[b],_,_,_,hQ,h=>(IH (hQ b (Lg ..)) (show b=a++c::jn c (a2::r) from h.symm)).elim
 |a::a2::r,b::b2::t,_,_,hP,hQ,h=>by
  have q:=Gw (hP a (Lg ..)) (hQ b (Lg ..)) (show a++c::jn c (a2::r)=b++c::jn c (b2::t) from h)
  rw[q.1,IQ (Nf _ _) (Nf _ _) (fun p z=>hP p (K6 _ z)) (fun p z=>hQ p (K6 _ z)) q.2]
theorem oX:∀{a b:List Str},a.map (·.cps.toList)=b.map (·.cps.toList)->a=b
 |[],[],_=>rfl
 |[],_::_,h=>by cases h
 |_::_,[],h=>by cases h
 |_::_,_::_,h=>by
  have q:=MU h
  rw[oj q.1,oX q.2]
theorem GC(c:Nat):∀ l:List Nat,0<=cnt c l
 |[]=>by rw[cnt_nil];exact Int.le_refl 0
 |n::r=>by
  have:=GC c r
  rw[cnt_cons]
  split<;>omega
theorem rD{c:Nat}{ws:List Str}(h0:ws≠[])(hf:∀ w∈ws,c∉w.cps.toList):Me (Str.join ⟨#[c]⟩ ws) ⟨#[c]⟩=ws:=by
 have h1:=StrLaws.join_split (Str.join ⟨#[c]⟩ ws) ⟨#[c]⟩
 have h2:=congrArg (fun s:Str=>s.cps.toList) h1
 simp only[nY]at h2
 have ne:Me (Str.join ⟨#[c]⟩ ws) ⟨#[c]⟩≠[]:=fun z=>by
  have e:=split_len (Str.join ⟨#[c]⟩ ws) c
  rw[z]at e
  have:=GC c (Str.join ⟨#[c]⟩ ws).cps.toList
  simp at e
  omega
 refine oX (IQ (c:=c) (by simpa using ne) (by simpa using h0) (fun p hp=>?_) (fun p hp=>?_) h2)
 ·obtain⟨q,hq,rfl⟩:=Lq.mp hp
  exact StrLaws.split_free _ c q hq
 ·obtain⟨q,hq,rfl⟩:=Lq.mp hp
  exact hf q hq
theorem xp(sep w:Str):∀{ws:List Str},ws≠[]->Str.join sep (ws++[w])=Str.join sep ws++sep++w
 |[],h=>absurd rfl h
 |[a],_=>rfl
 |a::b::r,_=>by
  show a++sep++Str.join sep (b::r++[w])=a++sep++Str.join sep (b::r)++sep++w
  rw[xp sep w (Nf b r)]
  simp only[Str.append_assoc]
def tx(n:Nat):Str:=Str.ofString (toString ((n:Nat):Int))
theorem vm(n:Nat):(tx n).cps.toList=(MQ 10 n).map Char.toNat:=PySem.W.KIN.signs_num n
theorem Ek(n:Nat):∀ c∈(tx n).cps.toList,48<=c/\c<=57:=fun c hc=>by
 rw[vm]at hc
 obtain⟨ch,hch,e⟩:=Lq.mp hc
 rw[← e]
 exact digit_range (Nat.isDigit_of_mem_toDigits (by decide) (by decide) hch)
theorem uC{m:Nat}(h:10<=m):MQ 10 m=MQ 10 (m/10)++[Nat.digitChar (m%10)]:=by
 have hm:m%10<10:=Nat.mod_lt m (by decide)
 have t:=Nat.toDigits_append_toDigits (b:=10) (n:=m/10) (d:=m%10) (by decide) (by omega) hm
 rw[Nat.div_add_mod,Mr hm]at t
 exact t.symm
theorem B8:∀(k m:Nat),m<10^(k+1)->(MQ 10 m).length<=k+1
 |0,m,h=>by rw[Mr (by omega)];exact K3 1
 |k+1,m,h=>by
  by_cases z:m<10
  ·rw[Mr z]
   show 1<=_
   omega
  ·rw[uC (by omega),KU]
   have:=B8 k (m/10) (by rw[Nat.pow_succ]at h;omega)
   show _+1<=_
   omega
theorem Gg:∀ m:Nat,MQ 10 m≠[]:=fun m h=>by
 by_cases z:m<10
 ·rw[Mr z]at h;cases h
 ·rw[uC (by omega)]at h
  simp at h
theorem Kt(m:Nat):m≠0->(MQ 10 m).head?≠some '0':=by
 induction m using Nat.strongRecOn with
 |_ m ih =>
  intro h0
  by_cases z:m<10
  ·rw[Mr z]
   have:∀ d:Nat,d<10->d≠0->[Nat.digitChar d].head?≠some '0':=by decide
   exact this m z h0
  ·have q:=ih (m/10) (by omega) (by omega)
   rw[uC (by omega),List.head?_append]
   match MQ 10 (m/10),Gg (m/10),q with
   |[],z,_=>exact absurd rfl z
   |_::_,_,q=>exact q
theorem Ej{k n:Nat}(h:n<10^(k+1)):(tx n).length<=k+1:=by
 rw[su,vm,K2]
 exact B8 k n h
theorem tx_ne(n:Nat):(tx n).cps.toList≠[]:=by
 rw[vm]
 intro h
 exact Gg n (List.map_eq_nil_iff.mp h)
theorem tx_val(n:Nat):NS (tx n).cps.toList=n:=by rw[vm];exact PySem.W.KIN.val_back n
theorem tx_hd{n:Nat}(h:(tx n).cps.toList.head?=some 48):n=0:=by
 rw[vm,List.head?_map]at h
 obtain⟨ch,hc,e⟩:=LI.mp h
 have:ch = '0':=by
  have e2:ch.toNat=('0').toNat:=e
  exact Char.ext (UInt32.toNat_inj.mp e2)
 rw[this]at hc
 exact Decidable.byContradiction fun z=>Kt n z hc
def dig(w:Str):Bool:=w.cps.toList.all fun c=>decide (48<=c)&&decide (c<=57)
def nOf(figs:Nat)(w:Str):Option Nat:=if w.cps.toList = []∨figs<w.length∨dig w=false then none else if w.cps.toList.head?=some 48/\w.length≠1 then none else some (NS w.cps.toList)
theorem dig_tx(n:Nat):dig (tx n)=true:=Mt.mpr fun c hc=>by
 have:=Ek n c hc
 simp[this.1,this.2]
theorem II{k n:Nat}(h:n<10^(k+1)):nOf (k+1) (tx n)=some n:=by
 have hl:=Ej h
 unfold nOf
 rw[if_neg,if_neg,tx_val]
 ·rintro⟨a,b⟩
  have z:=tx_hd a
  subst z
  exact b (by decide +kernel)
 ·rintro(a | a | a)
  ·exact tx_ne n a
  ·omega
  ·rw[dig_tx]at a;cases a
structure Txt(mg:Str->Option Value):Prop where
 n_min:mg "min" = none
 n_len:mg "len" = none
 n_int:mg "int" = none
 n_str:mg "str" = none
 n_bool:mg "bool" = none
 n_list:mg "list" = none
 n_tuple:mg "tuple" = none
 n_range:mg "range" = none
 n_all:mg "all" = none
 n_enumerate:mg "enumerate" = none
 n_isinstance:mg "isinstance" = none
 figs:∃ t,mg "MOST_FIGURES_texts" = some (.int 31 t)
 figd:∃ t,mg "MOST_FIGURES_desk" = some (.int 31 t)
 most:∃ t,mg "MOST_TIES" = some (.int 80 t)
theorem Bl{α:Type}{x:α}{xs:List α}:atI (x::xs) 0=some x:=aM (j:=0) rfl
def wt:V->Str
 |.str z=>z
 |.int i=>toString i
 |_=>Str.empty
def Wd(v:V):Prop:=(∃ z:Str,v=.str z)∨∃ n:Nat,v=.int (n:Int)/\n<10^40
theorem bx{n:Nat}(h:n<10^40):((n:Int)).natAbs.log2<1920:=by
 rw[Int.natAbs_natCast]
 by_cases z:n=0
 ·subst z;decide
 ·exact(Nat.log2_lt z).mpr (Lx h (by decide +kernel))
def rowT(ws:List Str):Str:=Str.join spS ws++nlS
def spRow(K:KW):Sp:=fun vs H Q _=>∃(a:Addr)(ws:List V),vs = [.ref a]/\SqL K H a ws/\ws.length<=100/\(∀ v∈ws,Wd v/\(wt v).length<=100)/\∀ H',Same H H'->Q (.str (rowT (ws.map wt))) H'
theorem fK:∀{ws:List Str}{k:Nat},(∀ w∈ws,w.length<=k)->(ws.map (·.length)).sum<=ws.length*k
 |[],_,_=>by simp
 |w::ws,k,h=>by
  have:=fK (ws:=ws) fun x hx=>h x (K6 _ hx)
  have:=h w (Lg ..)
  rw[Lr,List.sum_cons,Lw,Nat.succ_mul]
  omega
theorem kU(c:Nat):∀ ws:List Str,(Str.join ⟨#[c]⟩ ws).length<=(ws.map (·.length)).sum+ws.length
 |[]=>K3 0
 |[a]=>by show a.length<=a.length+0+1;omega
 |a::b::r=>by
  have:=kU c (b::r)
  show(a++⟨#[c]⟩++Str.join ⟨#[c]⟩ (b::r)).length<=_
  rw[Str.length_append,Str.length_append,Lr,List.sum_cons,Lw]
  show a.length+1+_<=_
  omega
def oV:Option Nat->V
 |none=>.non
 |some n=>.int (n:Int)
def Asc(w:Str):Prop:=w.cps.all (· < 128)=true
def spNum:Sp:=fun vs H Q _=>∃(w:Str)(k:Nat),vs = [.str w,.int (k:Int)]/\k<=600/\w.length<=400000/\Asc w/\∀ H',Same H H'->Q (oV (nOf k w)) H'
section
variable{P:Program}{w:World}{K:KW}{mg:Str->Option Value}{base:Heap}
theorem EE:aD ["words"] ["words"] (ag iR):=⟨rfl,rfl,rfl,by decide +kernel,rfl,by decide +kernel,by decide +kernel⟩
theorem ok_row{f:Addr}{fd:FuncData} (F:Fun K "row_of" "row_of" iR f fd) (T:Txt mg):FnOk P w K mg base CX0 1 f fd ["words"] (spRow K):=by
 refine F.ok EE (fun vs H Q E h=>?_) (fun cdv A outer s H vs Q E hr h=>?_)
 ·obtain⟨a,ws,rfl,_⟩:=h
  rfl
 obtain⟨a,ws,rfl,hS,len,hw,kk⟩:=h
 refine⟨_,(ak (aJ (aG bC (bT LV Ml My oU aS (aa (gZ rfl (fr:=[]) (by exact bR.plain (by rfl) (by decide +kernel) (by rfl) (by decide +kernel) (by rfl) (by decide +kernel)) (b7 (pv 0)) (fun C ex s H=>(aR GJ (by rfl) T.n_str fH (aa (pv 0) af)))) af)) aS))),?_⟩
 refine⟨rfl,_,rfl,a,rfl,⟨_,hS⟩,?_⟩
 refine c8 (K:=K) (xs:=ws) (fun i ys H2=>ys=(ws.take i).map (fun v=>V.str (wt v))/\H2=H) (LH len (by decide)) ⟨rfl,rfl⟩ (fun i ys H2 _ ⟨_,z⟩=>by rw[z];exact hS) ?_ ?_
 ·rintro i x ys H2 hx ⟨rfl,rfl⟩
  have e:(ws.take (i+1)).map (fun v=>V.str (wt v))=(ws.take i).map (fun v=>V.str (wt v))++[V.str (wt x)]:=by rw[LD,hx,Lz];rfl
  rw[e]
  rcases(hw x (K1 hx)).1 with⟨z,rfl⟩ | ⟨n,rfl,hn⟩
  ·exact⟨_,rfl,.inr ⟨z,rfl,rfl,rfl⟩⟩
  ·exact⟨_,rfl,.inl ⟨_,rfl,bx hn,rfl,rfl⟩⟩
 ·rintro ys H2 _ ⟨rfl,rfl⟩ D hD
  rw[LJ]
  have ml:(ws.map wt).length=ws.length:=K2 _
  have sl:=fK (ws:=ws.map wt) (k:=100) fun z hz=>by
   obtain⟨v,hv,rfl⟩:=Lq.mp hz
   exact(hw v hv).2
  have jl:=kU 32 (ws.map wt)
  refine⟨((" " : String):Str),D,ws.map wt,rfl,rfl,SqL.of (by rw[ae,LZ];rfl),?_,?_⟩
  ·rw[qJ,ml]
   show _+ws.length*1<=_
   omega
  rw[qJ]
  refine⟨_,_,rfl,rfl,?_,?_⟩
  ·have e1:(("\n" : String):Str).length=1:=by decide +kernel
   have:(1000000:Nat)<=sizeLine:=by decide
   show(Str.join ⟨#[32]⟩ (ws.map wt)).length+_<=_
   rw[e1]
   omega
  ·rw[HP]
   exact kk _ (aj hD _)
theorem vD:aD ["word","figures"] ["word","figures"] (ag cM):=⟨rfl,rfl,rfl,by decide +kernel,rfl,by decide +kernel,by decide +kernel⟩
theorem ok_num{f:Addr}{fd:FuncData} (F:Fun K "number_of" "number_of" cM f fd) (T:Txt mg):FnOk P w K mg base CX0 1 f fd ["word","figures"] spNum:=by
 refine F.ok vD (fun vs H Q E h=>?_) (fun cdv A outer s H vs Q E hr h=>?_)
 ·obtain⟨a,ws,rfl,_⟩:=h
  rfl
 obtain⟨w,k,rfl,hk,hl,ha,kk⟩:=h
 have s640:(400000:Nat)<=sizeLine:=by decide
 refine⟨_,(ab (bw (PW.pt (gU (ax jD (pv 0) aS (aI _)) (gU (ax we (aB x8 (by rfl) T.n_len aV (aa (pv 0) af)) (pv 1) (aI _)) (fu (vK (vJ (aB (GN rfl) (by rfl) T.n_all bt_all (aa (gZ rfl (fr:=[]) (by exact bR.plain (by rfl) (by decide +kernel) (by rfl) (by decide +kernel) (by rfl) (by decide +kernel)) (pi_str (pv 0)) (fun C ex s H=>(zy E9 (pv 0) aS (by with_unfolding_all rfl)))) af)))))))) (ak (aJ fz)) aQ)
   (ab (bw (PW.pt (EL (ax jD (aF ix_str (pv 0) ai (fun _ _=>rfl)) aS (aI _)) (zd (ax jg (pv 0) aS (aI _))))) (ak (aJ fz)) aQ)
   (ak (aJ (aR GK (by rfl) T.n_int GV (aa (pv 0) af)))))),?_⟩
 have eE:decide (V.str w=V.str (("" : String):Str))=decide (w.cps.toList = []):=decide_eq_decide.mpr ⟨fun z=>by rw[V.str.inj z,Ge];rfl,fun z=>by rw[Ge,oj (a:=w) (b:=Str.empty) z]⟩
 refine⟨_,rfl,rfl,_,rfl,?_⟩
 rw[eE]
 have kN:nOf k w=none->∀ H',Same H H'->Q .non H':=fun z H' s=>by
  have:=kk H' s
  rwa[z]at this
 refine ite2 (fun c=>iteT (kN (if_pos (.inl (of_decide_eq_true c))) _ fun _ _ q=>q)) (fun c=>?_)
 have ne:w.cps.toList≠[]:=fun z=>c (decide_eq_true z)
 refine⟨_,rfl,w,rfl,LH hl s640,_,rfl,_,_,rfl,rfl,_,rfl,ite2 (fun c2=>iteT (kN (if_pos (.inr (.inl (by have:=of_decide_eq_true c2;omega)))) _ fun _ _ q=>q)) (fun c2=>?_)⟩
 have le:w.length<=k:=by
  have:¬ ((k:Int)<(w.length:Int)):=fun z=>c2 (decide_eq_true z)
  omega
 refine⟨_,rfl,w,rfl,ha,Ip (x:=w) (fun i ys H2=>ys=(w.cps.toList.take i).map (fun c=>V.bl (decide (48<=c)&&decide (c<=57)))/\H2=H) (LH hl s640) ⟨rfl,rfl⟩ ?_ ?_⟩
 ·rintro i d ys H2 hd ⟨rfl,rfl⟩
  refine⟨_,rfl,_,_,rfl,rfl,?_,rfl⟩
  have fo:=StrLaws.found_one (("0123456789" : String):Str) d
  have e10:(("0123456789" : String):Str).cps.toList = [48,49,50,51,52,53,54,55,56,57]:=by decide +kernel
  rw[e10]at fo
  rw[fo,LD,Array.getElem?_toList,hd,Lz]
  have:decide (d∈[48,49,50,51,52,53,54,55,56,57])=(decide (48<=d)&&decide (d<=57)):=by
   rw[Mp,MC,decide_eq_true_iff,decide_eq_true_iff,decide_eq_true_iff]
   simp only[K0,LW,or_false]
   omega
  rw[this]
  rfl
 ·rintro ys H2 _ ⟨rfl,rfl⟩ D hD
  have eT:w.cps.toList.take w.cps.size=w.cps.toList:=by rw[← ME,LJ]
  rw[eT]
  refine⟨D,w.cps.toList.map (fun c=>decide (48<=c)&&decide (c<=57)),rfl,SqL.of (by rw[ae,LZ];rfl),_,rfl,?_⟩
  have ea:(w.cps.toList.map (fun c=>decide (48<=c)&&decide (c<=57))).all id=dig w:=by unfold dig;rw[List.all_map];rfl
  rw[ea]
  have sD:Same H2 (upd H2 D (.lst (w.cps.toList.map (fun c=>V.bl (decide (48<=c)&&decide (c<=57)))))):=aj hD _
  cases hd:dig w with
  |false=>exact iteT (kN (if_pos (.inr (.inr hd))) _ sD)
  |true =>
   refine iteF ?_
   have n1:¬ (w.cps.toList = []∨k<w.length∨dig w=false):=by
    rintro(z | z | z)
    ·exact ne z
    ·omega
    ·rw[hd]at z;cases z
   obtain⟨h0,tl,ew⟩:=NO ne
   have ad:PySem.NumText.AllDigits w.cps.toList:=fun c hc=>by
    have:=Mt.mp hd c hc
    rw[MC]at this
    exact⟨of_decide_eq_true this.1,of_decide_eq_true this.2⟩
   have fin:¬ (w.cps.toList.head?=some 48/\w.length≠1)->tRet (tCB (fun xs H Q=>∃ z n,xs = [V.str z]/\intText? z=some n/\z.length<=640/\Q (V.int n) H) (qI (tVar 0) tNil)) { nx:=fun x H'=>Q V.non H',rt:=Q } (L2.start [Str.ofString "word",Str.ofString "figures"] [V.str w,V.int (k:Int)]) (upd H2 D (.lst (w.cps.toList.map (fun c=>V.bl (decide (48<=c)&&decide (c<=57)))))):=fun n2=>by
    refine⟨_,rfl,w,_,rfl,intText_digits ad ne (by omega),by omega,?_⟩
    have:=kk _ sD
    unfold nOf at this
    rw[if_neg n1,if_neg n2]at this
    exact this
   refine⟨_,rfl,w,0,h0,rfl,rfl,LH hl s640,by rw[ew];exact Bl,rfl,_,rfl,ite2 (fun c3=>?_) (fun c3=>?_)⟩
   ·have e0:h0=48:=by
     have z:=V.str.inj (of_decide_eq_true c3)
     have z2:=congrArg (fun s:Str=>s.cps.toList) z
     have e48:(("0" : String):Str).cps.toList = [48]:=by decide +kernel
     rw[e48]at z2
     exact(MU z2).1
    refine⟨_,rfl,rfl,_,rfl,ite2 (fun c4=>?_) (fun c4=>?_)⟩
    ·refine kN ?_ _ sD
     unfold nOf
     rw[if_neg n1,if_pos]
     refine⟨by rw[ew,e0];rfl,fun z=>?_⟩
     have z3:w=(("0" : String):Str):=oj (by
      have e48:(("0" : String):Str).cps.toList = [48]:=by decide +kernel
      rw[su,ew]at z
      have:tl = []:=Nc.mp (by simpa using z)
      rw[e48,ew,this,e0])
     rw[z3]at c4
     simp at c4
    ·refine fin fun⟨_,z⟩=>z ?_
     have z3:w=(("0" : String):Str):=by
      have:¬ (!decide (V.str w=V.str (("0" : String):Str)))=true:=c4
      simpa using this
     rw[z3]
     decide +kernel
   ·refine iteF (fin fun⟨z,_⟩=>c3 (decide_eq_true ?_))
    rw[ew]at z
    cases z
    have:(⟨#[48]⟩:Str)=(("0" : String):Str):=by decide +kernel
    rw[this]
end
end KF
namespace KF
open PySem L2 PyProof.Rows K8
local macro_rules | `(tactic| walk_at "cc") => `(tactic| first | exact ⟨by decide, by decide⟩ | (show (0 : Int) < _; decide) | (show (0 : Int) < _; omega) | (show (0 : Int) ≤ _; omega) | exact ⟨by decide, by decide, by decide⟩ | exact ⟨by omega, by omega, by decide⟩ | exact Or.inl ⟨by decide, by decide⟩ | exact Or.inl ⟨by omega, by omega⟩)
local macro_rules | `(tactic| walk_at "rd") => `(tactic| repeat (first | refine ⟨_, rfl, ?_⟩ | refine ⟨_, _, rfl, rfl, ?_⟩ | refine ⟨rfl, ?_⟩ | (refine ⟨?cc, ?_⟩; (case cc => walk_at "cc"))))
def fJ(first row:Str)(k:Nat):Option (List Nat):=match Me row spS with
 |[]=>none
 |w::ws=>if w=first/\(ws.map (nOf k)).all MA=true then some (ws.map fun z=>(nOf k z).getD 0) else none
def lV(H:Hp)(v:V):Option (List Nat)->Prop
 |none=>v=.non
 |some ns=>∃ a,v=.ref a/\H a=some (.lst (ns.map iV))
def Ck:Sp:=fun vs H Q _=>∃(first row:Str)(k:Nat),vs = [.str first,.str row,.int (k:Int)]/\k<=600/\row.length<=300000/\Asc row/\∀ v H',Same H H'->lV H' v (fJ first row k)->Q v H'
def ou:Sp:=fun vs H Q _=>∃(v:V)(i:Int),vs = [v,.int i]/\v≠.non/\Q v H
def sI(K:KW):Sp:=fun vs H Q _=>∃(a:Addr)(xs:List V)(i:Nat)(x:V),vs = [.ref a,.int (i:Int)]/\SqL K H a xs/\xs[i]?=some x/\Q x H
theorem Hn(row:Str)(c:Nat):Me row ⟨#[c]⟩≠[]:=fun z=>by
 have e:=split_len row c
 rw[z]at e
 have:=GC c row.cps.toList
 simp at e
 omega
theorem IM{c d:Nat}:∀{P:List (List Nat)}{p:List Nat},p∈P->d∈p->d∈jn c P
 |[a],p,hp,hd=>by
  rw[LR.mp hp]at hd
  exact hd
 |a::b::r,p,hp,hd=>by
  show d∈a++c::jn c (b::r)
  rcases K0.mp hp with rfl | hp
  ·exact LC _ hd
  ·exact Lj _ (K6 _ (IM hp hd))
theorem IP{c:Nat}:∀{P:List (List Nat)}{p:List Nat},p∈P->p.length<=(jn c P).length
 |[a],p,hp=>by rw[LR.mp hp];exact K3 _
 |a::b::r,p,hp=>by
  show _<=(a++c::jn c (b::r)).length
  rw[KU,Lw]
  rcases K0.mp hp with rfl | hp
  ·omega
  ·have:=IP (c:=c) hp
   omega
theorem Er{row w:Str}{c:Nat}(h:Asc row)(hw:w∈Me row ⟨#[c]⟩):Asc w/\w.length<=row.length:=by
 have h2:=congrArg (fun s:Str=>s.cps.toList) (StrLaws.join_split row ⟨#[c]⟩)
 simp only[nY]at h2
 have hm:w.cps.toList∈(Me row ⟨#[c]⟩).map (·.cps.toList):=Lq.mpr ⟨w,hw,rfl⟩
 constructor
 ·unfold Asc at h ⊢
  rw[← NG]at h ⊢
  rw[Mt]at h ⊢
  intro x hx
  refine h x ?_
  rw[← h2]
  exact IM hm hx
 ·rw[su,su,← h2]
  exact IP hm
theorem Ca(xs:List V):cutV xs (some 1) none=xs.drop 1:=by
 unfold cutV
 have q:=HT.sIx_nat xs.length 0 1
 rw[show((1:Nat):Int)=(1:Int) from rfl]at q
 rw[q,HT.sIx_none]
 rw[Mx (by rw[Mi];omega)]
 by_cases h:1<=xs.length
 ·rw[MJ h]
 ·have e:xs = []:=Nc.mp (by omega)
  subst e
  rfl
theorem IT(k:Nat):∀ zs:List Str,inV .non (zs.map fun z=>oV (nOf k z)) = !((zs.map (nOf k)).all MA)
 |[]=>rfl
 |z::zs=>by
  have ih:=IT k zs
  unfold inV at ih ⊢
  rw[Lr,Mm,ih,Lr,Nd]
  cases nOf k z<;>rfl
theorem Gd(k:Nat):∀ zs:List Str,(zs.map fun z=>oV (nOf k z)).all uA=true
 |[]=>rfl
 |z::zs=>by
  rw[Lr,Nd,Gd k zs]
  cases nOf k z<;>rfl
theorem Fu{k:Nat}:∀{zs:List Str},(zs.map (nOf k)).all MA=true->(zs.map fun z=>oV (nOf k z))=(zs.map fun z=>(nOf k z).getD 0).map iV
 |[],_=>rfl
 |z::zs,h=>by
  rw[Lr,Nd,MC]at h
  obtain⟨n,hn⟩:=M6.mp h.1
  rw[Lr,Lr,Lr,Fu h.2,hn]
  rfl
section
variable{P:Program}{w:World}{K:KW}{mg:Str->Option Value}{base:Heap}
theorem Hr:aD ["told","at"] ["told","at"] (ag lH):=⟨rfl,rfl,rfl,by decide +kernel,rfl,by decide +kernel,by decide +kernel⟩
theorem HF{f:Addr}{fd:FuncData} (F:Fun K "right" "right" lH f fd):FnOk P w K mg base CX0 1 f fd ["told","at"] ou:=by
 refine F.ok Hr (fun vs H Q E h=>?_) (fun cdv A outer s H vs Q E hr h=>?_)
 ·obtain⟨v,i,rfl,_⟩:=h
  rfl
 obtain⟨v,i,rfl,hv,q⟩:=h
 refine⟨_,(ab (bw (ax wd (pv 0) fz (aI _)) (ak bh) aQ)
   (ak (aJ (pv 0)))),?_⟩
 exact⟨_,rfl,rfl,_,rfl,ite2 (fun c=>absurd (of_decide_eq_true c) hv) (fun _=>⟨_,rfl,q⟩)⟩
theorem EF:aD ["rows","number"] ["rows","number"] (ag iS):=⟨rfl,rfl,rfl,by decide +kernel,rfl,by decide +kernel,by decide +kernel⟩
theorem HE{f:Addr}{fd:FuncData} (F:Fun K "row_at" "row_at" iS f fd) (T:Txt mg):FnOk P w K mg base CX0 1 f fd ["rows","number"] (sI K):=by
 refine F.ok EF (fun vs H Q E h=>?_) (fun cdv A outer s H vs Q E hr h=>?_)
 ·obtain⟨a,xs,i,x,rfl,_⟩:=h
  rfl
 obtain⟨a,xs,i,x,rfl,hS,hx,q⟩:=h
 refine⟨_,(ab (bw (ax Fb (pv 1) (aB ao (by rfl) T.n_len aV (aa (pv 0) af)) (aI _)) (ak bh) aQ)
   (ak (aJ (aF ay (pv 0) (pv 1) (fun _ _=>rfl))))),?_⟩
 have hi:i<xs.length:=(KS.mp hx).1
 refine⟨_,rfl,_,rfl,a,xs,rfl,.inl hS,_,_,rfl,rfl,_,rfl,ite2 (fun c=>absurd (of_decide_eq_true c) (by omega)) (fun _=>?_)⟩
 exact⟨_,rfl,_,rfl,a,xs,_,x,rfl,rfl,hS,aM hx,q⟩
theorem cH:aD ["first","row","figures","words","numbers"] ["first","row","figures"] (ag bb):=⟨rfl,rfl,rfl,by decide +kernel,rfl,by decide +kernel,by decide +kernel⟩
theorem ok_beh{f f1:Addr}{fd fd1:FuncData} (F:Fun K "numbers_behind" "numbers_behind" bb f fd) (G_number_of:Cal P w K mg base 1 "number_of" ["word","figures"] spNum f1 fd1):FnOk P w K mg base CX0 2 f fd ["first","row","figures"] Ck:=by
 refine F.ok cH (fun vs H Q E h=>?_) (fun cdv A outer s H vs Q E hr h=>?_)
 ·obtain⟨v,i,k,rfl,_⟩:=h
  rfl
 obtain⟨first,row,k,rfl,hk,hl,ha,kk⟩:=h
 refine⟨_,(ab (av (i:=3) cH.nd rfl (Or.inl rfl) (bT LV Mw PySem.F.type_str_split BR (pv 1) (aa aS af)))
   (ab (iU (i:=4) rfl cH.nd rfl rfl (fr:=[("figures",2)]) (by exact bR.one (by rfl) (by decide +kernel) (by rfl) (by decide +kernel) (by rfl) (by decide +kernel) (by rfl) (by rfl) (by decide +kernel) (by rfl)) (b7 (iW lD (pv 3) (jC ai) oH)) (fun C ex s H=>(au G_number_of.ok (hr.mono (by decide)) rfl G_number_of.mg G_number_of.kp G_number_of.bn .nil aK (aa (pv 0) (aa (pv 1) af)))))
   (ab (bw (PW.pt (gU (ax jg (aF ay (pv 3) ai (fun _ _=>rfl)) (pv 0) (aI _)) (fu (ax kK fz (pv 4) (by with_unfolding_all rfl))))) (ak (aJ fz)) aQ)
   (ak (aJ (pv 4)))))),?_⟩
 rw[qJ]
 have sl:=split_le row spS
 have s1:(400000:Nat)<=sizeLine:=by decide
 refine⟨_,rfl,rfl,row,spS,rfl,rfl,rfl,by omega,fun l hl=>?_⟩
 obtain⟨w0,ws,ew⟩:=NO (Hn row 32)
 have ew':Me row spS=w0::ws:=ew
 rw[ew']
 rw[ew',Lw]at sl
 refine⟨_,rfl,_,rfl,l,_,rfl,SqL.of ae,fun c hc=>?_⟩
 have ec:cutV ((w0::ws).map V.str) (some 1) none=ws.map V.str:=Ca _
 rw[ec]
 refine⟨c,rfl,⟨_,SqL.of ae⟩,?_⟩
 have sA:Same H (upd H l (.lst ((w0::ws).map V.str))):=aj hl _
 have sB:=aj hc (.lst (ws.map V.str))
 generalize hH1:upd (upd H l (.lst ((w0::ws).map V.str))) c (.lst (ws.map V.str))=H1 at sB ⊢
 have cH1:H1 c=some (.lst (ws.map V.str)):=by rw[← hH1,ae]
 have lH1:H1 l=some (.lst ((w0::ws).map V.str)):=sB _ _ ae
 have aw:∀ z∈w0::ws,Asc z/\z.length<=row.length:=fun z hz=>Er (c:=32) ha (by rw[ew];exact hz)
 refine c8 (K:=K) (xs:=ws.map V.str) (fun i ys H2=>ys=(ws.take i).map (fun z=>oV (nOf k z))/\Same H1 H2) (by rw[K2];omega) ⟨rfl,fun _ _ q=>q⟩ (fun i ys H2 _ ⟨_,z⟩=>SqL.of (z _ _ cH1)) ?_ ?_
 ·rintro i x ys H2 hx ⟨rfl,s2⟩
  rw[Lb]at hx
  obtain⟨z,hz,rfl⟩:=LI.mp hx
  have az:=aw z (K6 _ (K1 hz))
  refine⟨_,rfl,_,rfl,z,k,rfl,hk,by omega,az.1,fun H' s'=>⟨?_,s2.trans s'⟩⟩
  rw[LD,hz,Lz]
  rfl
 ·rintro ys H2 _ ⟨rfl,s2⟩ D hD
  rw[K2,LJ]
  have sD:=aj hD (.lst (ws.map fun z=>oV (nOf k z)))
  have sAll:Same H (upd H2 D (.lst (ws.map fun z=>oV (nOf k z)))):=sA.trans (sB.trans (s2.trans sD))
  have eb:fJ first row k=if w0=first/\(ws.map (nOf k)).all MA=true then some (ws.map fun z=>(nOf k z).getD 0) else none:=by
   unfold fJ
   rw[ew']
  have ed:(!decide (V.str w0=V.str first)) = !decide (w0=first):=congrArg _ (decide_eq_decide.mpr ⟨V.str.inj,congrArg V.str⟩)
  refine⟨_,rfl,l,_,0,.str w0,rfl,rfl,SqL.of (sD _ _ (s2 _ _ lH1)),Bl,_,rfl,rfl,_,rfl,?_⟩
  rw[ed]
  refine ite2 (fun c1=>iteT (kk _ _ sAll ?_)) (fun c1=>?_)
  ·rw[eb,if_neg fun z=>by rw[decide_eq_true z.1]at c1;cases c1]
   rfl
  refine⟨_,rfl,D,_,rfl,.inl (SqL.of ae),rfl,Gd k ws,_,rfl,?_⟩
  have ef:(if false=true then !inV V.non (ws.map fun z=>oV (nOf k z)) else inV V.non (ws.map fun z=>oV (nOf k z))) = !((ws.map (nOf k)).all MA):=IT k ws
  rw[ef]
  cases hall:(ws.map (nOf k)).all MA with
  |false =>
   refine iteT (kk _ _ sAll ?_)
   rw[eb,if_neg fun z=>by rw[hall]at z;exact Bool.noConfusion z.2]
   rfl
  |true =>
   refine iteF ⟨_,rfl,kk _ _ sAll ?_⟩
   have w1:w0=first:=Decidable.byContradiction fun z=>c1 (by rw[decide_eq_false z];rfl)
   rw[eb,if_pos ⟨w1,hall⟩]
   exact⟨D,rfl,by rw[ae,Fu hall]⟩
end
end KF
namespace KF
open PySem L2 PyProof.Rows K8
local macro_rules | `(tactic| walk_at "cc") => `(tactic| first | exact ⟨by decide, by decide⟩ | (show (0 : Int) < _; decide) | (show (0 : Int) < _; omega) | (show (0 : Int) ≤ _; omega) | exact ⟨by decide, by decide, by decide⟩ | exact ⟨by omega, by omega, by decide⟩ | exact Or.inl ⟨by decide, by decide⟩ | exact Or.inl ⟨by omega, by omega⟩)
local macro_rules | `(tactic| walk_at "rd") => `(tactic| repeat (first | refine ⟨_, rfl, ?_⟩ | refine ⟨_, _, rfl, rfl, ?_⟩ | refine ⟨rfl, ?_⟩ | (refine ⟨?cc, ?_⟩; (case cc => walk_at "cc"))))
theorem ub{K:KW}{H:Hp}{a:Addr}{ps:List Nat}(h:SqL K H a (ps.map iV)):RdD K H (.ref a) (.list ((ps.map fun(p:Nat)=>((p:Nat):Int)).map PyData.int)):=by
 refine RdD.lst h (by simp) fun i x d e1 e2=>?_
 rw[Lb]at e1
 rw[Lb,Lb]at e2
 cases z:ps[i]? with
 |none=>rw[z]at e1;cases e1
 |some n =>
  rw[z]at e1 e2
  cases e1
  cases e2
  exact .int _
theorem pC(l:List Int):SeqAt.shaped (.list (l.map PyData.int))=true:=oE fun d hd=>by
 obtain⟨x,_,rfl⟩:=Lq.mp hd
 exact⟨by simp[PyData.canLay0],by simp[PyData.depth]⟩
theorem kJ{X:Cx}{x:Str}{n:Int}{pos:Pos}(hg:Gl X x)(hm:∃ t,X.mg x=some (.int n t)) (hd:(x == ("__debug__" : Str))=false:=by decide):PE X (.Name x pos) (tC (.int n)):=by
 obtain⟨t,h⟩:=hm
 exact JG hg h ⟨t,rfl⟩ hd
def Rw(row:Str):Prop:=row.length<=300000/\Asc row
def fw(row:Str):Str:=(PySem.Txt.partition row spS).1
def spFW:Sp:=fun vs H Q _=>∃ row:Str,vs = [.str row]/\row.length<=300000/\∀ H',Same H H'->Q (.str (fw row)) H'
def sN:Sp:=fun vs H Q _=>∃(row:Str)(m:Nat),vs = [.str row]/\Rw row/\fJ (("places" : String):Str) row 31=some [m]/\2<=m/\m<=40/\∀ H',Same H H'->Q (iV m) H'
def Es:Sp:=fun vs H Q _=>∃(row:Str)(a b s:Nat),vs = [.str row]/\Rw row/\fJ (fw row) row 31=some [a,b,s]/\s<=10^30/\∀ p H',Same H H'->H' p=some (.tup [.str (fw row),iV a,iV b,iV s])->Q (.ref p) H'
def yK:Sp:=fun vs H Q _=>∃(row:Str)(pl:Nat)(r:List Nat),vs = [iV pl,.str row]/\Rw row/\fJ (("about" : String):Str) row 31=some (pl::r)/\r.length<=1000/\∀ p H',Same H H'->H p=none->H' p=some (.lst (r.map iV))->Q (.ref p) H'
section
variable{P:Program}{w:World}{K:KW}{mg:Str->Option Value}{base:Heap}
theorem tF:aD ["row"] ["row"] (ag cn):=⟨rfl,rfl,rfl,by decide +kernel,rfl,by decide +kernel,by decide +kernel⟩
theorem ok_fw{f:Addr}{fd:FuncData} (F:Fun K "first_word" "first_word" cn f fd):FnOk P w K mg base CX0 1 f fd ["row"] spFW:=by
 refine F.ok tF (fun vs H Q E h=>?_) (fun cdv A outer s H vs Q E hr h=>?_)
 ·obtain⟨row,rfl,_⟩:=h
  rfl
 obtain⟨row,rfl,hl,kk⟩:=h
 refine⟨_,(ak (aJ (aF aT (bT LV NN PySem.F.type_str_partition wR (pv 0) (aa aS af)) ai (fun _ _=>rfl)))),?_⟩
 rw[qJ]
 refine⟨_,rfl,rfl,row,spS,rfl,rfl,rfl,by omega,fun l hl=>?_⟩
 exact⟨l,_,0,_,rfl,rfl,SqT.of ae,rfl,kk _ (aj hl _)⟩
theorem jm:aD ["row","numbers"] ["row"] (ag bN):=⟨rfl,rfl,rfl,by decide +kernel,rfl,by decide +kernel,by decide +kernel⟩
theorem Fi{f f1:Addr}{fd fd1:FuncData} (F:Fun K "places_told" "places_told" bN f fd) (T:Txt mg) (G_numbers_behind:Cal P w K mg base 2 "numbers_behind" ["first","row","figures"] Ck f1 fd1):FnOk P w K mg base CX0 3 f fd ["row"] sN:=by
 refine F.ok jm (fun vs H Q E h=>?_) (fun cdv A outer s H vs Q E hr h=>?_)
 ·obtain⟨row,m,rfl,_⟩:=h
  rfl
 obtain⟨row,m,rfl,hR,hb,m2,m40,kk⟩:=h
 refine⟨_,(ab (av (i:=1) jm.nd rfl (Or.inl rfl) (au G_numbers_behind.ok (hr.mono (by decide)) rfl G_numbers_behind.mg G_numbers_behind.kp G_numbers_behind.bn .nil aK (aa aS (aa (pv 0) (aa (kJ rfl T.figs) af)))))
   (ab (bw (PW.pt (gU (ax wd (pv 1) fz (aI _)) (gU (ax jg (aB ao (by rfl) T.n_len aV (aa (pv 1) af)) ai (aI _)) (gU (ax wa (aF ay (pv 1) ai (fun _ _=>rfl)) ai (aI _)) (fu (ax we (aF ay (pv 1) ai (fun _ _=>rfl)) ai (aI _))))))) (ak (aJ fz)) aQ)
   (ak (aJ (aF ay (pv 1) ai (fun _ _=>rfl)))))),?_⟩
 refine⟨_,rfl,_,row,31,rfl,by decide,hR.1,hR.2,fun v H1 s1 hv=>?_⟩
 rw[hb]at hv
 obtain⟨a,rfl,ha⟩:=hv
 refine⟨_,rfl,rfl,_,rfl,ite2 (fun c=>absurd (of_decide_eq_true c) (by intro z;cases z)) (fun _=>?_)⟩
 refine⟨_,rfl,a,_,rfl,.inl (SqL.of ha),rfl,_,rfl,iteF ?_⟩
 refine⟨_,rfl,a,_,0,_,rfl,rfl,SqL.of ha,Bl,_,_,rfl,rfl,_,rfl,ite2 (fun c=>absurd (of_decide_eq_true c) (by omega)) (fun _=>?_)⟩
 refine⟨_,rfl,a,_,0,_,rfl,rfl,SqL.of ha,Bl,_,_,rfl,rfl,_,rfl,ite2 (fun c=>absurd (of_decide_eq_true c) (by omega)) (fun _=>?_)⟩
 exact⟨_,rfl,a,_,0,_,rfl,rfl,SqL.of ha,Bl,kk _ s1⟩
theorem jz:aD ["row","kind","numbers"] ["row"] (ag dB):=⟨rfl,rfl,rfl,by decide +kernel,rfl,by decide +kernel,by decide +kernel⟩
theorem JI{f f1 f2:Addr}{fd fd1 fd2:FuncData} (F:Fun K "tie_told" "tie_told" dB f fd) (T:Txt mg) (G_first_word:Cal P w K mg base 1 "first_word" ["row"] spFW f2 fd2) (G_numbers_behind:Cal P w K mg base 2 "numbers_behind" ["first","row","figures"] Ck f1 fd1):FnOk P w K mg base CX0 3 f fd ["row"] Es:=by
 refine F.ok jz (fun vs H Q E h=>?_) (fun cdv A outer s H vs Q E hr h=>?_)
 ·obtain⟨row,a,b,s',rfl,_⟩:=h
  rfl
 obtain⟨row,a,b,s',rfl,hR,hb,hs,kk⟩:=h
 refine⟨_,(ab (av (i:=1) jz.nd rfl (Or.inl rfl) (au G_first_word.ok (hr.mono (by decide)) rfl G_first_word.mg G_first_word.kp G_first_word.bn .nil aK (aa (pv 0) af)))
   (ab (av (i:=2) jz.nd rfl (Or.inl rfl) (au G_numbers_behind.ok (hr.mono (by decide)) rfl G_numbers_behind.mg G_numbers_behind.kp G_numbers_behind.bn .nil aK (aa (pv 1) (aa (pv 0) (aa (kJ rfl T.figs) af)))))
   (ab (bw (PW.pt (gU (ax wd (pv 2) fz (aI _)) (gU (ax jg (aB ao (by rfl) T.n_len aV (aa (pv 2) af)) ai (aI _)) (fu (ax we (aF ay (pv 2) ai (fun _ _=>rfl)) (aG BN ai ai) (aI _)))))) (ak (aJ fz)) aQ)
   (ak (aJ (bS (aa (pv 1) (aa (aF ay (pv 2) ai (fun _ _=>rfl)) (aa (aF ay (pv 2) ai (fun _ _=>rfl)) (aa (aF ay (pv 2) ai (fun _ _=>rfl)) af)))))))))),?_⟩
 refine⟨_,rfl,row,rfl,hR.1,fun H0 s0=>?_⟩
 refine⟨_,rfl,_,rfl,_,row,31,rfl,by decide,hR.1,hR.2,fun v H1 s1 hv=>?_⟩
 rw[hb]at hv
 obtain⟨q,rfl,hq⟩:=hv
 have e30:(10:Int)^(30:Int).toNat=((10^30:Nat):Int):=by decide
 refine⟨_,rfl,rfl,_,rfl,ite2 (fun c=>absurd (of_decide_eq_true c) (by intro z;cases z)) (fun _=>?_)⟩
 refine⟨_,rfl,q,_,rfl,.inl (SqL.of hq),rfl,_,rfl,iteF ?_⟩
 refine⟨_,rfl,q,_,2,_,rfl,rfl,SqL.of hq,(rfl:atI [iV a,iV b,iV s'] 2=some (iV s')),_,_,rfl,rfl,⟨by decide,by decide,by decide⟩,_,_,rfl,rfl,_,rfl,ite2 (fun c=>absurd (of_decide_eq_true c) (by rw[e30];omega)) (fun _=>?_)⟩
 refine⟨_,rfl,_,rfl,q,_,0,_,rfl,rfl,SqL.of hq,(rfl:atI [iV a,iV b,iV s'] 0=some (iV a)),_,rfl,q,_,1,_,rfl,rfl,SqL.of hq,(rfl:atI [iV a,iV b,iV s'] 1=some (iV b)),_,rfl,q,_,2,_,rfl,rfl,SqL.of hq,(rfl:atI [iV a,iV b,iV s'] 2=some (iV s')),(by show 4<=sizeLine;decide),fun t ht=>?_⟩
 exact kk t _ (s0.trans (s1.trans (aj ht _))) ae
theorem mQ:aD ["place","row","numbers"] ["place","row"] (ag cJ):=⟨rfl,rfl,rfl,by decide +kernel,rfl,by decide +kernel,by decide +kernel⟩
theorem HA{f f1:Addr}{fd fd1:FuncData} (F:Fun K "turn_told" "turn_told" cJ f fd) (T:Txt mg) (G_numbers_behind:Cal P w K mg base 2 "numbers_behind" ["first","row","figures"] Ck f1 fd1):FnOk P w K mg base CX0 3 f fd ["place","row"] yK:=by
 refine F.ok mQ (fun vs H Q E h=>?_) (fun cdv A outer s H vs Q E hr h=>?_)
 ·obtain⟨row,pl,r,rfl,_⟩:=h
  rfl
 obtain⟨row,pl,r,rfl,hR,hb,rl,kk⟩:=h
 have hu64:=hr.units
 refine⟨_,(ab (av (i:=2) mQ.nd rfl (Or.inl rfl) (au G_numbers_behind.ok (hr.mono (by decide)) rfl G_numbers_behind.mg G_numbers_behind.kp G_numbers_behind.bn .nil aK (aa aS (aa (pv 1) (aa (kJ rfl T.figs) af)))))
   (ab (bw (PW.pt (gU (ax wd (pv 2) fz (aI _)) (gU (ax (op_eqG hu64) (pv 2) (bE af) (aI _)) (fu (ax jg (aF ay (pv 2) ai (fun _ _=>rfl)) (pv 0) (aI _)))))) (ak (aJ fz)) aQ)
   (ak (aJ (iW lD (pv 2) (jC ai) oH))))),?_⟩
 refine⟨_,rfl,_,row,31,rfl,by decide,hR.1,hR.2,fun v H1 s1 hv=>?_⟩
 rw[hb]at hv
 obtain⟨a,rfl,ha⟩:=hv
 refine⟨_,rfl,rfl,_,rfl,ite2 (fun c=>absurd (of_decide_eq_true c) (by intro z;cases z)) (fun _=>?_)⟩
 refine⟨_,rfl,(by show 0<=sizeLine;decide),fun e he=>?_⟩
 have se:=aj he (.lst [])
 have ha':=se _ _ ha
 refine⟨_,_,ub (ps:=pl::r) (SqL.of ha'),ub (ps:=[]) (SqL.of ae),pC _,pC _,_,rfl,?_⟩
 rw[Ih]
 refine iteF ?_
 refine⟨_,rfl,a,_,0,_,rfl,rfl,SqL.of ha',Bl,_,rfl,rfl,_,rfl,?_⟩
 rw[decide_eq_true rfl]
 refine iteF ⟨_,rfl,_,rfl,a,_,rfl,SqL.of ha',fun q hq=>?_⟩
 have ec:cutV ((pl::r).map iV) (some 1) none=r.map iV:=Ca _
 rw[ec]
 refine kk q _ (s1.trans (se.trans (aj hq _))) ?_ ae
 cases y:H q with
 |none=>rfl
 |some o=>rw[se _ _ (s1 _ _ y)]at hq;cases hq
end
end KF
namespace KF
open PySem L2 PyProof.Rows K8
local macro_rules | `(tactic| walk_at "cc") => `(tactic| first | exact ⟨by decide, by decide⟩ | (show (0 : Int) < _; decide) | (show (0 : Int) < _; omega) | (show (0 : Int) ≤ _; omega) | exact ⟨by decide, by decide, by decide⟩ | exact ⟨by omega, by omega, by decide⟩ | exact Or.inl ⟨by decide, by decide⟩ | exact Or.inl ⟨by omega, by omega⟩)
local macro_rules | `(tactic| walk_at "rd") => `(tactic| repeat (first | refine ⟨_, rfl, ?_⟩ | refine ⟨_, _, rfl, rfl, ?_⟩ | refine ⟨rfl, ?_⟩ | (refine ⟨?cc, ?_⟩; (case cc => walk_at "cc"))))
def kS(k:Int):Str:=if k=1 then "push" else "pull"
theorem vZ{X:Cx}{e:Expr}{t1 t2:TE}(h1:PE X e t1)(h2:PE X e t2):PE X e (fun σ H Q=>t1 σ H Q∨t2 σ H Q):=fun pins s σ H Q I h=>h.elim (h1 pins s σ H Q I) (h2 pins s σ H Q I)
def KpL(S:Addr->Prop)(H H':Hp):Prop:=∀ b o,H b=some o->((∀ xs,o≠.lst xs)∨¬ S b)->H' b=some o
theorem KpL.of{S:Addr->Prop}{H H':Hp}(s:Same H H'):KpL S H H':=fun b o e _=>s b o e
def WebW(S:Addr->Prop)(PL PS WC:Addr)(H:Hp)(p:Addr)(m:Nat)(es:En)(ts:List (List Nat))(ks:Kn):Prop:=∃ dx fs q1 xs qt zt,H p=some (.ins WC dx fs)/\fs.lookup ("many" : Str)=some (.int (m:Int))/\fs.lookup ("ties" : Str)=some (.ref q1)/\¬ S q1/\H q1=some (.lst xs)/\eZ PL PS H xs es ks/\fs.lookup ("turns" : Str)=some (.ref qt)/\¬ S qt/\H qt=some (.lst zt)/\cF S H zt ts
theorem ww_of{S:Addr->Prop}{PL PS WC p:Addr}{H:Hp}{m:Nat}{es:En}{ts rs:List (List Nat)}{ks:Kn}(h:WebF S PL PS WC H p m es ts rs ks):WebW S PL PS WC H p m es ts ks:=by
 obtain⟨dx,fs,q1,xs,hp,⟨many,⟨qt,zt,lt,nt,hqt,rt⟩,_,_,_⟩,n1,lk,hq1,tk⟩:=h
 exact⟨dx,fs,q1,xs,qt,zt,hp,many,lk,n1,hq1,tk,lt,nt,hqt,rt⟩
def Kp2(S:Addr->Prop)(H H':Hp):Prop:=∀ b o,H b=some o->(((∃ xs,o=.lst xs)/\¬ S b)∨∃ C dx fs,o=.ins C dx fs/\fs≠[])->H' b=some o
theorem WebW.mono2{S S':Addr->Prop}{PL PS WC p:Addr}{H H':Hp}{m:Nat}{es:En}{ts:List (List Nat)}{ks:Kn}(h:WebW S PL PS WC H p m es ts ks)(k:Kp2 S H H')(i:∀ a xs,S' a->H a=some (.lst xs)->S a):WebW S' PL PS WC H' p m es ts ks:=by
 obtain⟨dx,fs,q1,xs,qt,zt,hp,many,lk,n1,hq1,tk,lt,nt,hqt,rt⟩:=h
 refine⟨dx,fs,q1,xs,qt,zt,k _ _ hp (.inr ⟨_,_,_,rfl,fun z=>by rw[z]at many;cases many⟩),many,lk,fun z=>n1 (i _ _ z hq1),k _ _ hq1 (.inl ⟨⟨_,rfl⟩,n1⟩),⟨tk.1,fun j e y a b=>?_⟩,lt,fun z=>nt (i _ _ z hqt),k _ _ hqt (.inl ⟨⟨_,rfl⟩,nt⟩),rt.1,fun j l a=>?_⟩
 ·obtain⟨p',dx',a1,a2⟩:=tk.2 j e y a b
  exact⟨p',dx',a1,k _ _ a2 (.inr ⟨_,_,_,rfl,fun z=>by have:=jj (e.1:Int) (e.2:Int) y.2;rw[z]at this;cases this⟩)⟩
 ·obtain⟨r,a1,a2,a3⟩:=rt.2 j l a
  exact⟨r,a1,fun z=>a2 (i _ _ z a3),k _ _ a3 (.inl ⟨⟨_,rfl⟩,a2⟩)⟩
theorem WebW.mono{S S':Addr->Prop}{PL PS WC p:Addr}{H H':Hp}{m:Nat}{es:En}{ts:List (List Nat)}{ks:Kn}(h:WebW S PL PS WC H p m es ts ks)(k:KpL S H H')(i:∀ a,S' a->S a):WebW S' PL PS WC H' p m es ts ks:=by
 obtain⟨dx,fs,q1,xs,qt,zt,hp,many,lk,n1,hq1,tk,lt,nt,hqt,rt⟩:=h
 refine⟨dx,fs,q1,xs,qt,zt,k _ _ hp (.inl fun xs z=>by cases z),many,lk,fun z=>n1 (i _ z),k _ _ hq1 (.inr n1),⟨tk.1,fun j e y a b=>?_⟩,lt,fun z=>nt (i _ z),k _ _ hqt (.inr nt),rt.1,fun j l a=>?_⟩
 ·obtain⟨p',dx',a1,a2⟩:=tk.2 j e y a b
  exact⟨p',dx',a1,k _ _ a2 (.inl fun xs z=>by cases z)⟩
 ·obtain⟨r,a1,a2,a3⟩:=rt.2 j l a
  exact⟨r,a1,fun z=>a2 (i _ z),k _ _ a3 (.inr a2)⟩
def mP(push:Bool):Sp:=fun vs H Q _=>∃ p,vs = [.ref p]/\Q (.int (if push=true then 1 else 0)) H
theorem zc{ws:List Str}{k:Nat}(h:∀ w∈ws,w.length<=k):(rowT ws).length<=ws.length*k+ws.length+1:=by
 have sl:=fK h
 have jl:=kU 32 ws
 unfold rowT
 rw[Str.length_append]
 show(Str.join ⟨#[32]⟩ ws).length+1<=_
 omega
def plW:Str:=(("places" : String):Str)
def abW:Str:=(("about" : String):Str)
def tieW(e:Nat×Nat)(k:Int×Int):List Str:=[kS k.1,tx e.1,tx e.2,tx k.2.toNat]
def abRW(i:Nat)(l:List Nat):List Str:=abW::tx i::l.map tx
def aP(m:Nat)(es:En)(ks:Kn)(ts:List (List Nat)):List (List Str):=[plW,tx m]::((LK es.length).map (fun i=>tieW (es.getD i (0,0)) (ks.getD i (0,0)))++(LK ts.length).map fun i=>abRW i (ts.getD i []))
def webT(m:Nat)(es:En)(ks:Kn)(ts:List (List Nat)):Str:=Str.join Str.empty ((aP m es ks ts).map rowT)
structure Wr(m:Nat)(es:En)(ks:Kn)(ts:List (List Nat)):Prop where
 kl:ks.length=es.length
 few:es.length<=63
 m2:2<=m
 m40:m<=40
 tl:ts.length=m
 kk:∀ k∈ks,(k.1=0∨k.1=1)/\0<=k.2/\k.2<=10^30
 ee:∀ e∈es,e.1<40/\e.2<40
 rl:∀ l∈ts,l.length<=63/\∀ t∈l,t<63
theorem FT(k:Int):(kS k).length=4:=by
 unfold kS
 split<;>decide +kernel
theorem tx31{n:Nat}(h:n<=10^30):(tx n).length<=31:=Ej (k:=30) (Nw h (by decide))
theorem tx2{n:Nat}(h:n<100):(tx n).length<=2:=Ej (k:=1) h
theorem i7{α:Type}{l:List α}{i:Nat}{d:α}(h:i<l.length):l.getD i d∈l:=by
 rw[Lc,KR h]
 exact LM h
theorem Wr.tw{m:Nat}{es:En}{ks:Kn}{ts:List (List Nat)}(w:Wr m es ks ts){i:Nat}(h:i<es.length):∀ z∈tieW (es.getD i (0,0)) (ks.getD i (0,0)),z.length<=31:=fun z hz=>by
 have e:=w.ee _ (i7 (d:=(0,0)) h)
 have k:=w.kk _ (i7 (d:=(0,0)) (by rw[w.kl];exact h))
 unfold tieW at hz
 simp only[K0,LW,or_false]at hz
 rcases hz with rfl | rfl | rfl | rfl
 ·rw[FT];omega
 ·have:=tx2 (n:=(es.getD i (0,0)).1) (by omega);omega
 ·have:=tx2 (n:=(es.getD i (0,0)).2) (by omega);omega
 ·exact tx31 (by omega)
theorem Wr.aw{m:Nat}{es:En}{ks:Kn}{ts:List (List Nat)}(w:Wr m es ks ts){i:Nat}(h:i<ts.length):(∀ z∈abRW i (ts.getD i []),z.length<=5)/\(abRW i (ts.getD i [])).length<=65:=by
 have r:=w.rl _ (i7 (d:=[]) h)
 have:=w.tl
 have:=w.m40
 refine⟨fun z hz=>?_,by unfold abRW;rw[Lw,Lw,K2];omega⟩
 unfold abRW at hz
 rcases K0.mp hz with rfl | hz
 ·decide +kernel
 rcases K0.mp hz with rfl | hz
 ·have:=tx2 (n:=i) (by omega);omega
 ·obtain⟨t,ht,rfl⟩:=Lq.mp hz
  have:=r.2 t ht
  have:=tx2 (n:=t) (by omega);omega
theorem Wr.rows{m:Nat}{es:En}{ks:Kn}{ts:List (List Nat)}(w:Wr m es ks ts):(∀ r∈(aP m es ks ts).map rowT,r.length<=400)/\((aP m es ks ts).map rowT).length<=104:=by
 have:=w.tl
 have:=w.m40
 have:=w.few
 refine⟨fun r hr=>?_,by unfold aP;simp;omega⟩
 obtain⟨ws,hw,rfl⟩:=Lq.mp hr
 unfold aP at hw
 rcases K0.mp hw with rfl | hw
 ·have h:=zc (ws:=[plW,tx m]) (k:=6) fun z hz=>by
   rcases K0.mp hz with rfl | hz
   ·decide +kernel
   ·rw[LR.mp hz]
    have:=tx2 (n:=m) (by omega)
    omega
  have:([plW,tx m]:List Str).length=2:=rfl
  omega
 rcases La.mp hw with hw | hw
 ·obtain⟨i,hi,rfl⟩:=Lq.mp hw
  have h:=zc (w.tw (Mv.mp hi))
  have:(tieW (es.getD i (0,0)) (ks.getD i (0,0))).length=4:=rfl
  omega
 ·obtain⟨i,hi,rfl⟩:=Lq.mp hw
  obtain⟨h1,h2⟩:=w.aw (Mv.mp hi)
  have h:=zc h1
  omega
def sF(PL PS:Addr):Sp:=fun vs H Q _=>∃(p dx:Addr)(e:Nat×Nat)(k:Int×Int),vs = [.ref p]/\H p=some (.ins (cls PL PS (decide (k.1=1))) dx (tf (e.1:Int) (e.2:Int) k.2))/\(k.1=0∨k.1=1)/\0<=k.2/\k.2<=10^30/\e.1<40/\e.2<40/\∀ H',Same H H'->Q (.str (rowT (tieW e k))) H'
def oo(PL PS WC:Addr):Sp:=fun vs H Q _=>∃(S:Addr->Prop)(p:Addr)(m:Nat)(es:En)(ts:List (List Nat))(ks:Kn),vs = [.ref p]/\WebW S PL PS WC H p m es ts ks/\Wr m es ks ts/\∀ H',Same H H'->Q (.str (webT m es ks ts)) H'
section
variable{P:Program}{w:World}{K:KW}{mg:Str->Option Value}{base:Heap}
theorem y7:aD ["self"] ["self"] (ag dM):=⟨rfl,rfl,rfl,by decide +kernel,rfl,by decide +kernel,by decide +kernel⟩
theorem Hy{f:Addr}{fd:FuncData} (F:Fun K "wish" "Tie.wish" dM f fd):FnOk P w K mg base CX0 1 f fd ["self"] (mP false):=by
 refine F.ok y7 (fun vs H Q E h=>?_) (fun cdv A outer s H vs Q E hr h=>?_)
 ·obtain⟨p,rfl,_⟩:=h
  rfl
 obtain⟨p,rfl,k⟩:=h
 exact⟨_,(ak (aJ ai)),k⟩
theorem vF:aD ["self"] ["self"] (ag cS):=⟨rfl,rfl,rfl,by decide +kernel,rfl,by decide +kernel,by decide +kernel⟩
theorem Hx{f:Addr}{fd:FuncData} (F:Fun K "wish" "Push.wish" cS f fd):FnOk P w K mg base CX0 1 f fd ["self"] (mP true):=by
 refine F.ok vF (fun vs H Q E h=>?_) (fun cdv A outer s H vs Q E hr h=>?_)
 ·obtain⟨p,rfl,_⟩:=h
  rfl
 obtain⟨p,rfl,k⟩:=h
 exact⟨_,(ak (aJ ai)),k⟩
theorem rJ:aD ["tie","kind"] ["tie"] (ag e9):=⟨rfl,rfl,rfl,by decide +kernel,rfl,by decide +kernel,by decide +kernel⟩
theorem Fe{f f1 f0 g1 PL PS:Addr}{fd d1 d0 e1:FuncData} (F:Fun K "tie_row" "tie_row" e9 f fd) (TL:CT K PL) (TS:CT K PS) (G_row_of:Cal P w K mg base 1 "row_of" ["words"] (spRow K) f1 d1) (u0:Met P w K mg base 1 PL "wish" ["self"] (mP false) f0 d0) (u1:Met P w K mg base 1 PS "wish" ["self"] (mP true) g1 e1):FnOk P w K mg base CX0 2 f fd ["tie"] (sF PL PS):=by
 refine F.ok rJ (fun vs H Q E h=>?_) (fun cdv A outer s H vs Q E hr h=>?_)
 ·obtain⟨p,dx,e,k,rfl,_⟩:=h
  rfl
 obtain⟨p,dx,e,k,rfl,hp,k01,k0,k30,l1,l2,kk⟩:=h
 have CL0:=TL.cl
 have CL1:=TS.cl
 refine⟨_,(ab (av (i:=1) rJ.nd rfl (Or.inl rfl) (kI (ax jD (vZ (d9 (pv 0) CL0 u0.me u0.ok (hr.mono (by decide)) u0.bn .nil aK) (d9 (pv 0) CL1 u1.me u1.ok (hr.mono (by decide)) u1.bn .nil aK)) ai (aI _)) aS aS))
   (ak (aJ (au G_row_of.ok (hr.mono (by decide)) rfl G_row_of.mg G_row_of.kp G_row_of.bn .nil aK (aa (bE (aa (pv 1) (aa (aZ (pv 0) rfl) (aa (aZ (pv 0) rfl) (aa (aZ (pv 0) rfl) af))))) af))))),?_⟩
 obtain⟨n,hn⟩:∃ n:Nat,k.2=(n:Int):=⟨k.2.toNat,by omega⟩
 have fin:∀ C:Addr,CT K C->H p=some (.ins C dx (tf (e.1:Int) (e.2:Int) k.2))->(tAsg (tC (V.str (kS k.1))) (Kp 1)) { nx:=fun σ H1=>tRet (tCall (spRow K) [] E0 (qI (tLst (qI (tVar 1) (qI (tFld K (tVar 0) "one") (qI (tFld K (tVar 0) "two") (qI (tFld K (tVar 0) "strength") tNil))))) tNil)) { nx:=fun x H'=>Q V.non H',rt:=Q } σ H1,rt:=Q } [some (.ref p),none] H:=fun C CC hp=>by
  refine⟨_,rfl,_,rfl,p,C,dx,_,_,rfl,hp,CC.cl,CC.n1,jj _ _ _,_,rfl,p,C,dx,_,_,rfl,hp,CC.cl,CC.n2,oh _ _ _,_,rfl,p,C,dx,_,_,rfl,hp,CC.cl,CC.n3,IB _ _ _,(by show 4<=sizeLine;decide),fun a ha=>?_⟩
  refine⟨a,_,rfl,SqL.of ae,(by show 4<=100;decide),fun v hv=>?_,fun H' s'=>?_⟩
  ·simp only[K0,LW,or_false]at hv
   rcases hv with rfl | rfl | rfl | rfl
   ·exact⟨.inl ⟨_,rfl⟩,by show(kS k.1).length<=100;rw[FT];decide⟩
   ·exact⟨.inr ⟨e.1,rfl,by omega⟩,by show(tx e.1).length<=100;have:=tx2 (n:=e.1) (by omega);omega⟩
   ·exact⟨.inr ⟨e.2,rfl,by omega⟩,by show(tx e.2).length<=100;have:=tx2 (n:=e.2) (by omega);omega⟩
   ·rw[hn]
    exact⟨.inr ⟨n,rfl,by omega⟩,by show(tx n).length<=100;have:=tx31 (n:=n) (by omega);omega⟩
  ·have z:=kk _ ((aj ha _).trans s')
   unfold tieW at z
   rw[hn]at z ⊢
   exact z
 by_cases c:k.1=1
 ·rw[decide_eq_true c]at hp
  refine .inr ⟨_,rfl,p,dx,_,rfl,hp,Hl _ _ _ (by decide +kernel) (by decide +kernel) (by decide +kernel),p,rfl,rfl,_,rfl,?_⟩
  have z:=fin PS TS hp
  rw[show kS k.1=(("push" : String):Str) from by rw[c];rfl]at z
  exact iteT z
 ·rw[decide_eq_false c]at hp
  refine .inl ⟨_,rfl,p,dx,_,rfl,hp,Hl _ _ _ (by decide +kernel) (by decide +kernel) (by decide +kernel),p,rfl,rfl,_,rfl,?_⟩
  have z:=fin PL TL hp
  rw[show kS k.1=(("pull" : String):Str) from by unfold kS;rw[if_neg c]]at z
  exact iteF z
theorem rH:aD ["web","rows"] ["web"] (ag e8):=⟨rfl,rfl,rfl,by decide +kernel,rfl,by decide +kernel,by decide +kernel⟩
theorem CI{f f1 f2 PL PS WC:Addr}{fd d1 d2:FuncData} (F:Fun K "written" "written" e8 f fd) (T:Txt mg) (cw:CW K WC) (G_row_of:Cal P w K mg base 1 "row_of" ["words"] (spRow K) f1 d1) (G_tie_row:Cal P w K mg base 2 "tie_row" ["tie"] (sF PL PS) f2 d2):FnOk P w K mg base CX0 3 f fd ["web"] (oo PL PS WC):=by
 refine F.ok rH (fun vs H Q E h=>?_) (fun cdv A outer s H vs Q E hr h=>?_)
 ·obtain⟨S,p,m,es,ts,ks,rfl,_⟩:=h
  rfl
 obtain⟨S,p,m,es,ts,ks,rfl,⟨dx,fs,q1,xs,qt,zt,hp,many,lk,_,hq1,tk,lt,_,hqt,rt⟩,wr,kk⟩:=h
 refine⟨_,(ab (av (i:=1) rH.nd rfl (Or.inl rfl) (bE (aa (au G_row_of.ok (hr.mono (by decide)) rfl G_row_of.mg G_row_of.kp G_row_of.bn .nil aK (aa (bE (aa aS (aa (aZ (pv 0) rfl) af))) af)) af)))
   (ab (aY (bT Ld NR NQ wU (pv 1) (aa (gZ rfl (fr:=[]) (by exact bR.plain (by rfl) (by decide +kernel) (by rfl) (by decide +kernel) (by rfl) (by decide +kernel)) (b7 (aZ (pv 0) rfl)) (fun C ex s H=>(au G_tie_row.ok (hr.mono (by decide)) rfl G_tie_row.mg G_tie_row.kp G_tie_row.bn .nil aK (aa (pv 0) af)))) af)))
   (ab (aY (bT Ld NR NQ wU (pv 1) (aa (BJ rfl (fr:=[]) (xs:=["place","about"]) (vh.of (by rfl) (by decide +kernel) (by rfl) (by decide +kernel) (fun p hp=>nomatch hp) (by decide +kernel) (fun p hp=>nomatch hp)) (zu rfl T.n_enumerate (aa (aZ (pv 0) rfl) af)) (fun C ex s H=>(EW (n:=2) (K:=K) rfl rfl (bX (aW (i:=0) (show(["place","about"]:List Str).Nodup from by decide +kernel) rfl (Or.inl rfl)) (bX (aW (i:=1) (show(["place","about"]:List Str).Nodup from by decide +kernel) rfl (Or.inl rfl)) oM)))) (fun C ex s H=>EM) (fun C ex s H=>(au G_row_of.ok (hr.mono (by decide)) rfl G_row_of.mg G_row_of.kp G_row_of.bn .nil aK (aa (aG (show OpR _ (binaryOp .Add) (rCatS K) from Fc) (bE (aa aS (aa (pv 0) af))) (pv 1)) af)))) af)))
   (ak (aJ (bT LV Ml My oU aS (aa (pv 1) af))))))),?_⟩
 refine⟨_,rfl,p,WC,dx,fs,_,rfl,hp,cw.cl,cw.n1,many,(by show 2<=sizeLine;decide),fun a0 ha0=>?_⟩
 refine⟨a0,_,rfl,SqL.of ae,(by show 2<=100;decide),fun v hv=>?_,fun H1 s1=>?_⟩
 ·simp only[K0,LW,or_false]at hv
  have:=wr.m40
  rcases hv with rfl | rfl
  ·exact⟨.inl ⟨_,rfl⟩,by show plW.length<=100;decide +kernel⟩
  ·exact⟨.inr ⟨m,rfl,by omega⟩,by show(tx m).length<=100;have:=tx2 (n:=m) (by omega);omega⟩
 have few:=wr.few
 have kl:=wr.kl
 have m40:=wr.m40
 have tl:=wr.tl
 have s64:(400000:Nat)<=sizeLine:=by decide
 have s01:=(aj ha0 (.lst [V.str (("places" : String):Str),.int (m:Int)])).trans s1
 refine⟨(by show 1<=sizeLine;decide),fun R hR=>?_⟩
 have hR0:H R=none:=by
  cases e:H R with
  |none=>rfl
  |some o=>rw[s01 _ _ e]at hR;cases hR
 have s2:=s01.trans (aj hR (.lst [V.str (rowT [plW,tx m])]))
 have g2:(upd H1 R (.lst [V.str (rowT [plW,tx m])])) R=some (.lst [V.str (rowT [plW,tx m])]):=ae
 have xe:V.str (rowT ([V.str (("places" : String):Str),.int (m:Int)].map wt))=V.str (rowT [plW,tx m]):=rfl
 rw[xe]
 generalize upd H1 R (.lst [V.str (rowT [plW,tx m])])=H2 at s2 g2
 refine⟨_,rfl,.inl ⟨rfl,_,SqL.of g2⟩,_,rfl,p,WC,dx,fs,_,rfl,s2 _ _ hp,cw.cl,cw.n2,lk,q1,rfl,⟨_,SqL.of (s2 _ _ hq1)⟩,c8 (K:=K) (xs:=xs) (fun i ys H3=>Same H2 H3/\ys=((LK i).map fun j=>V.str (rowT (tieW (es.getD j (0,0)) (ks.getD j (0,0)))))) (by rw[tk.1];omega) ⟨fun _ _ z=>z,rfl⟩ (fun i ys H3 _ z=>SqL.of (z.1 _ _ (s2 _ _ hq1))) ?_ ?_⟩
 ·rintro i x ys H3 hx ⟨s3,rfl⟩
  have hi:i<es.length:=by rw[← tk.1];exact(KS.mp hx).1
  obtain⟨p',dx',x1,x2⟩:=(tk.mono (s2.trans s3)).2 i es[i] ks[i] (KR hi) (KR (by omega))
  rw[hx]at x1
  cases x1
  have ge:es.getD i (0,0)=es[i]:=by rw[Lc,KR hi];rfl
  have gk:ks.getD i (0,0)=ks[i]:=by rw[Lc,KR (show i<ks.length by omega)];rfl
  have k':=wr.kk ks[i] (LM _)
  have e':=wr.ee es[i] (LM _)
  refine⟨_,rfl,p',dx',es[i],ks[i],rfl,x2,k'.1,k'.2.1,k'.2.2,e'.1,e'.2,fun H4 s4=>⟨s3.trans s4,?_⟩⟩
  rw[MK,Lz,List.map_singleton,ge,gk]
 rintro ys H3 _ ⟨s3,rfl⟩ D hD
 rw[tk.1]
 have sD:=aj hD (.lst ((LK es.length).map fun j=>V.str (rowT (tieW (es.getD j (0,0)) (ks.getD j (0,0))))))
 have g3:=sD _ _ (s3 _ _ g2)
 refine⟨R,D,_,_,rfl,rfl,g3,ae,by rw[K2,LF];show 1+_<=_;omega,?_⟩
 have s5:=aL ((s2.trans s3).trans sD) hR0 (.lst ([V.str (rowT [plW,tx m])]++(LK es.length).map fun j=>V.str (rowT (tieW (es.getD j (0,0)) (ks.getD j (0,0))))))
 have g5:(upd (upd H3 D (.lst ((LK es.length).map fun j=>V.str (rowT (tieW (es.getD j (0,0)) (ks.getD j (0,0))))))) R (.lst ([V.str (rowT [plW,tx m])]++(LK es.length).map fun j=>V.str (rowT (tieW (es.getD j (0,0)) (ks.getD j (0,0))))))) R=some (.lst ([V.str (rowT [plW,tx m])]++(LK es.length).map fun j=>V.str (rowT (tieW (es.getD j (0,0)) (ks.getD j (0,0)))))):=ae
 generalize upd (upd H3 D (.lst ((LK es.length).map fun j=>V.str (rowT (tieW (es.getD j (0,0)) (ks.getD j (0,0))))))) R (.lst ([V.str (rowT [plW,tx m])]++(LK es.length).map fun j=>V.str (rowT (tieW (es.getD j (0,0)) (ks.getD j (0,0))))))=H5 at s5 g5
 refine⟨_,rfl,.inl ⟨rfl,_,SqL.of g5⟩,_,rfl,p,WC,dx,fs,_,rfl,s5 _ _ hp,cw.cl,cw.n3,lt,qt,rfl,⟨_,SqL.of (s5 _ _ hqt)⟩,DS (K:=K) (xs:=zt) (fun i ys H6=>Same H5 H6/\ys=((LK i).map fun j=>V.str (rowT (abRW j (ts.getD j []))))) (by rw[rt.1];omega) ⟨fun _ _ z=>z,rfl⟩ (fun i ys H6 _ z=>SqL.of (z.1 _ _ (s5 _ _ hqt))) ?_ ?_ (fun i ys H6 z=>by rw[z.2,K2,LF];exact K3 _)⟩
 ·rintro i x ys H6 T6 hx ⟨s6,rfl⟩ hT6
  have hi:i<ts.length:=by rw[← rt.1];exact(KS.mp hx).1
  have sT:=aj hT6 (.tup [.int (i:Int),x])
  obtain⟨r,x1,_,x2⟩:=rt.2 i ts[i] (KR hi)
  rw[hx]at x1
  cases x1
  have x3:=sT _ _ (s6 _ _ (s5 _ _ x2))
  have gt:ts.getD i []=ts[i]:=by rw[Lc,KR hi];rfl
  obtain⟨w1,w2⟩:=wr.aw hi
  rw[gt]at w1 w2
  refine⟨T6,_,rfl,SqT.of ae,rfl,_,_,rfl,_,_,rfl,rfl,rfl,yesT ?_⟩
  refine⟨_,rfl,(by show 2<=sizeLine;decide),fun b hb=>?_⟩
  have sb:=aj hb (.lst [V.str (("about" : String):Str),.int (i:Int)])
  refine⟨_,rfl,b,r,_,_,rfl,rfl,SqL.of ae,SqL.of (sb _ _ x3),?_,fun c hc=>?_⟩
  ·have:=(wr.rl ts[i] (LM _)).1
   rw[K2]
   show 2+_<=_
   omega
  have r63:=wr.rl ts[i] (LM _)
  refine⟨c,_,rfl,SqL.of ae,?_,fun v hv=>?_,fun H7 s7=>⟨s6.trans (sT.trans (sb.trans ((aj hc _).trans s7))),?_⟩⟩
  ·have:=r63.1
   rw[KU,K2]
   show 2+_<=_
   omega
  ·rcases La.mp hv with hv | hv
   ·simp only[K0,LW,or_false]at hv
    rcases hv with rfl | rfl
    ·exact⟨.inl ⟨_,rfl⟩,by show abW.length<=100;decide +kernel⟩
    ·exact⟨.inr ⟨i,rfl,by omega⟩,by show(tx i).length<=100;have:=tx2 (n:=i) (by omega);omega⟩
   ·obtain⟨t,ht,rfl⟩:=Lq.mp hv
    have:=r63.2 t ht
    exact⟨.inr ⟨t,rfl,by omega⟩,by show(tx t).length<=100;have:=tx2 (n:=t) (by omega);omega⟩
  ·have ew:([V.str (("about" : String):Str),.int (i:Int)]++ts[i].map iV).map wt=abRW i ts[i]:=by
    rw[Lz,LZ]
    rfl
   rw[ew,MK,Lz,List.map_singleton,gt]
 rintro ys H6 ⟨s6,rfl⟩ D2 hD2
 rw[rt.1]
 have sD2:=aj hD2 (.lst ((LK ts.length).map fun j=>V.str (rowT (abRW j (ts.getD j [])))))
 have g6:=sD2 _ _ (s6 _ _ g5)
 refine⟨R,D2,_,_,rfl,rfl,g6,ae,by rw[KU,K2,K2,LF,LF];show 1+_+_<=_;omega,?_⟩
 obtain⟨r1,r2⟩:=wr.rows
 have sl:=fK r1
 have el : [V.str (rowT [plW,tx m])]++(LK es.length).map (fun j=>V.str (rowT (tieW (es.getD j (0,0)) (ks.getD j (0,0)))))++(LK ts.length).map (fun j=>V.str (rowT (abRW j (ts.getD j []))))=((aP m es ks ts).map rowT).map V.str:=by
  unfold aP
  simp only[Lr,Lz,LZ,List.singleton_append,ND]
  rfl
 rw[el]
 refine⟨rfl,_,rfl,(("" : String):Str),R,(aP m es ks ts).map rowT,rfl,rfl,SqL.of ae,?_,?_⟩
 ·rw[Ge]
  show _+_*0<=_
  omega
 rw[Ge]
 exact kk _ (aL (s5.trans (s6.trans sD2)) hR0 _)
end
end KF
namespace KF
open PySem L2 PyProof.Rows K8
local macro_rules | `(tactic| walk_at "cc") => `(tactic| first | exact ⟨by decide, by decide⟩ | (show (0 : Int) < _; decide) | (show (0 : Int) < _; omega) | (show (0 : Int) ≤ _; omega) | exact ⟨by decide, by decide, by decide⟩ | exact ⟨by omega, by omega, by decide⟩ | exact Or.inl ⟨by decide, by decide⟩ | exact Or.inl ⟨by omega, by omega⟩)
local macro_rules | `(tactic| walk_at "rd") => `(tactic| repeat (first | refine ⟨_, rfl, ?_⟩ | refine ⟨_, _, rfl, rfl, ?_⟩ | refine ⟨rfl, ?_⟩ | (refine ⟨?cc, ?_⟩; (case cc => walk_at "cc"))))
theorem Jk{n d:Nat}(h:d<48∨57<d):d∉(tx n).cps.toList:=fun z=>by
 have:=Ek n d z
 omega
theorem lx{first:Str}{ns:List Nat}(hf:32∉first.cps.toList)(hn:∀ n∈ns,n<10^31):fJ first (Str.join spS (first::ns.map tx)) 31=some ns:=by
 have hs:Me (Str.join spS (first::ns.map tx)) spS=first::ns.map tx:=rD (c:=32) (Nf _ _) fun w hw=>by
  rcases K0.mp hw with rfl | hw
  ·exact hf
  ·obtain⟨n,_,rfl⟩:=Lq.mp hw
   exact Jk (.inl (by decide))
 unfold fJ
 rw[hs]
 have e1:(ns.map tx).map (nOf 31)=ns.map some:=by
  rw[LZ]
  exact List.map_congr_left fun n h=>II (k:=30) (hn n h)
 have e2:((ns.map tx).map fun z=>(nOf 31 z).getD 0)=ns:=by
  rw[LZ]
  conv=>rhs;rw[← List.map_id ns]
  exact List.map_congr_left fun n h=>by
   show(nOf 31 (tx n)).getD 0=n
   rw[II (k:=30) (hn n h)]
   rfl
 have e3:(ns.map some).all MA=true:=by simp
 show(if first=first/\((ns.map tx).map (nOf 31)).all MA=true then some ((ns.map tx).map fun z=>(nOf 31 z).getD 0) else none)=_
 rw[e1,e2,if_pos ⟨rfl,e3⟩]
theorem jn_of{c d:Nat}:∀{P:List (List Nat)},d∈jn c P->d=c∨∃ p∈P,d∈p
 |[],h=>by cases h
 |[a],h=>.inr ⟨a,LR.mpr rfl,h⟩
 |a::b::r,h=>by
  rcases La.mp (show d∈a++c::jn c (b::r) from h)with h | h
  ·exact .inr ⟨a,Lg ..,h⟩
  ·rcases K0.mp h with h | h
   ·exact .inl h
   ·rcases jn_of h with h | ⟨p,hp,hd⟩
    ·exact .inl h
    ·exact .inr ⟨p,K6 _ hp,hd⟩
theorem Kj{c d:Nat}{ws:List Str}(h:d∈(Str.join ⟨#[c]⟩ ws).cps.toList):d=c∨∃ w∈ws,d∈w.cps.toList:=by
 rw[nY]at h
 rcases jn_of h with h | ⟨p,hp,hd⟩
 ·exact .inl h
 ·obtain⟨w,hw,rfl⟩:=Lq.mp hp
  exact .inr ⟨w,hw,hd⟩
theorem Az:∀ bs:List Str,Str.join Str.empty (bs.map fun b=>b++nlS)=Str.join nlS (bs++[Str.empty])
 |[]=>rfl
 |[b]=>by
  show b++nlS=b++nlS++Str.empty
  rw[Str.append_empty]
 |b::d::r=>by
  show b++nlS++Str.empty++Str.join Str.empty ((d::r).map fun b=>b++nlS)=b++nlS++Str.join nlS (d::r++[Str.empty])
  rw[Az (d::r),Str.append_empty]
theorem pB:∀ ws:List Str,(Str.join Str.empty ws).length=(ws.map (·.length)).sum
 |[]=>rfl
 |[a]=>by show a.length=a.length+0;omega
 |a::b::r=>by
  show(a++Str.empty++Str.join Str.empty (b::r)).length=a.length+_
  rw[Str.length_append,Str.append_empty,pB (b::r)]
  rfl
def vI:Str:=(("pull" : String):Str)
def lI:Str:=(("push" : String):Str)
theorem IS(z:Str):inV (.str z) [.str vI,.str lI]=decide (z=vI∨z=lI):=by
 unfold inV
 rw[Mm,Mm,List.any_nil,NU]
 show((vI == z)||(lI == z))=_
 rw[Mp,Bool.or_eq_true,beq_iff_eq,beq_iff_eq,decide_eq_true_iff]
 exact⟨fun h=>h.imp Eq.symm Eq.symm,fun h=>h.imp Eq.symm Eq.symm⟩
abbrev Td:=Str×Nat×Nat×Nat
def TdAt(H:Hp)(zs:List V)(td:List Td):Prop:=zs.length=td.length/\∀(i:Nat)(d:Td),td[i]?=some d->∃ t,zs[i]?=some (.ref t)/\H t=some (.tup [.str d.1,iV d.2.1,iV d.2.2.1,iV d.2.2.2])
def RowD(b:Str)(d:Td):Prop:=Rw b/\fw b=d.1/\fJ (fw b) b 31=some [d.2.1,d.2.2.1,d.2.2.2]/\d.2.2.2<=10^30/\(d.1=vI∨d.1=lI)
def lB(K:KW):Sp:=fun vs H Q _=>∃(r:Addr)(bs:List Str)(td:List Td),vs = [.ref r]/\SqL K H r (bs.map V.str)/\td.length<=80/\(∀ i d,td[i]?=some d->∃ b,bs[i+1]?=some b/\RowD b d)/\(∃ b,bs[td.length+1]?=some b/\b.length<=300000/\fw b≠vI/\fw b≠lI) /\
 ∀(q:Addr)(zs:List V)(H':Hp),Same H H'->H' q=some (.lst zs)->TdAt H' zs td->Q (.ref q) H'
def jy(K:KW):Sp:=fun vs H Q _=>∃(r:Addr)(bs:List Str)(ts:List (List Nat))(m ah:Nat),vs = [iV m,.ref r,iV ah]/\SqL K H r (bs.map V.str)/\ts.length=m/\m<=40/\(∀ i l,ts[i]?=some l->∃ b,bs[ah+i]?=some b/\Rw b/\fJ abW b 31=some (i::l)/\l.length<=63) /\
 ∀(q:Addr)(zs:List V)(H':Hp),Same H H'->H' q=some (.lst zs)->bF H' zs ts->Q (.ref q) H'
theorem TdAt.mono{H H':Hp}{zs:List V}{td:List Td}(h:TdAt H zs td)(s:∀ b xs,H b=some (.tup xs)->H' b=some (.tup xs)):TdAt H' zs td:=⟨h.1,fun i d e=>by
 obtain⟨t,a,b⟩:=h.2 i d e
 exact⟨t,a,s _ _ b⟩⟩
theorem TdAt.snoc{H:Hp}{zs:List V}{td:List Td}{d:Td}{t:Addr}(h:TdAt H zs td)(ht:H t=some (.tup [.str d.1,iV d.2.1,iV d.2.2.1,iV d.2.2.2])):TdAt H (zs++[.ref t]) (td++[d]):=by
 refine⟨by rw[KU,KU,h.1];rfl,fun j x ej=>?_⟩
 by_cases hj:j<td.length
 ·rw[KZ hj]at ej
  obtain⟨u,a1,a2⟩:=h.2 j x ej
  exact⟨u,by rw[KZ (by rw[h.1];exact hj)];exact a1,a2⟩
 ·have hj2:j=td.length:=by
   have:=(KS.mp ej).1
   rw[KU,K4]at this
   omega
  subst hj2
  rw[KY (K3 _),Ln]at ej
  cases ej
  exact⟨t,by rw[← h.1,KY (K3 _),Ln];rfl,ht⟩
section
variable{P:Program}{w:World}{K:KW}{mg:Str->Option Value}{base:Heap}
theorem d7:aD ["rows","told","number"] ["rows"] (ag cK):=⟨rfl,rfl,rfl,by decide +kernel,rfl,by decide +kernel,by decide +kernel⟩
theorem zA{f f1 f2 f3:Addr}{fd d1 d2 d3:FuncData} (F:Fun K "ties_told" "ties_told" cK f fd) (T:Txt mg) (G_first_word:Cal P w K mg base 1 "first_word" ["row"] spFW f1 d1) (G_tie_told:Cal P w K mg base 3 "tie_told" ["row"] Es f2 d2) (G_right:Cal P w K mg base 1 "right" ["told","at"] ou f3 d3):FnOk P w K mg base CX0 4 f fd ["rows"] (lB K):=by
 refine F.ok d7 (fun vs H Q E h=>?_) (fun cdv A outer s H vs Q E hr h=>?_)
 ·obtain⟨r,bs,td,rfl,_⟩:=h
  rfl
 obtain⟨r,bs,td,rfl,hS,t80,hd,⟨be,he,hel,ne1,ne2⟩,kk⟩:=h
 refine⟨_,(ab (av (i:=1) d7.nd rfl (Or.inl rfl) (bE af))
   (ab (av (i:=2) d7.nd rfl (Or.inl rfl) ai)
   (ab (nT PassesOwn.never (PW.pt (EL (ax wa (pv 2) (aB ao (by rfl) T.n_len aV (aa (pv 0) af)) (aI _)) (zd (ax kK (au G_first_word.ok (hr.mono (by decide)) rfl G_first_word.mg G_first_word.kp G_first_word.bn .nil aK (aa (aF ay (pv 0) (pv 2) (fun _ _=>rfl)) af)) (bS (aa aS (aa aS af))) (by with_unfolding_all rfl))))) (ab (bw (ax we (pv 2) (kJ rfl T.most) (aI _)) (ak bh) aQ)
   (ab (aY (bT Ld Lv Lu ba (pv 1) (aa (au G_right.ok (hr.mono (by decide)) rfl G_right.mg G_right.kp G_right.bn .nil aK (aa (au G_tie_told.ok (hr.mono (by decide)) rfl G_tie_told.mg G_tie_told.kp G_tie_told.bn .nil aK (aa (aF ay (pv 0) (pv 2) (fun _ _=>rfl)) af)) (aa (aG bI (pv 2) ai) af))) af)))
   (ak (av (i:=2) d7.nd rfl (Or.inl rfl) (aG bI (pv 2) ai))))))
   (ak (aJ (pv 1)))))),?_⟩
 have bl:td.length+1<bs.length:=(KS.mp he).1
 refine⟨(by show 0<=sizeLine;decide),fun q hq=>?_⟩
 have s1:=aj hq (.lst [])
 refine⟨fun n σ H2=>∃(i:Nat)(zs:List V),n=td.length-i/\i<=td.length/\σ = [some (.ref r),some (.ref q),some (iV (i+1))]/\Same H H2/\H2 q=some (.lst zs)/\TdAt H2 zs (td.take i),⟨_,0,[],rfl,L8 _,rfl,s1,ae,rfl,fun i d e=>by simp at e⟩,?_⟩
 rintro n σ H2 ⟨i,zs,rfl,hi,rfl,s2,hq2,tz⟩
 have hS2:=s2.seq hS
 have zl:zs.length=i:=by rw[tz.1,LS];omega
 refine⟨_,rfl,_,rfl,r,_,rfl,.inl hS2,_,_,rfl,rfl,_,rfl,?_⟩
 refine ite2 (fun _=>?_) (fun c=>absurd (decide_eq_true (show((i+1:Nat):Int)<((bs.map V.str).length:Int) by rw[K2];omega)) c)
 obtain⟨b,hb,bl3⟩:∃ b,bs[i+1]?=some b/\b.length<=300000:=by
  by_cases c:i=td.length
  ·subst c
   exact⟨be,he,hel⟩
  ·obtain⟨b,h1,h2⟩:=hd i td[i] (KR (by omega))
   exact⟨b,h1,h2.1.1⟩
 have hb2:(bs.map V.str)[i+1]?=some (V.str b):=by rw[Lb,hb];rfl
 refine⟨_,rfl,_,rfl,r,_,_,V.str b,rfl,rfl,hS2,aM hb2,b,rfl,bl3,fun H3 s3=>⟨(by show 2<=sizeLine;decide),fun t ht=>?_⟩⟩
 have st:=aj ht (.tup [V.str (("pull" : String):Str),V.str (("push" : String):Str)])
 have s4:=s3.trans st
 refine⟨t,_,rfl,.inr (SqT.of ae),rfl,rfl,_,rfl,?_⟩
 show(if(inV (.str (fw b)) [.str vI,.str lI])=true then _ else _)
 rw[IS]
 by_cases c:i=td.length
 ·subst c
  rw[he]at hb
  cases hb
  rw[decide_eq_false (fun z=>z.elim ne1 ne2)]
  rw[LJ]at tz
  exact iteF ⟨_,rfl,kk q zs _ (s2.trans s4) (s4 _ _ hq2) (tz.mono fun b xs e=>s4 _ _ e)⟩
 ·have hi2:i<td.length:=by omega
  obtain⟨b',h1,rw1,fe,be1,s30,kd⟩:=hd i td[i] (KR hi2)
  rw[hb]at h1
  cases h1
  rw[fe,decide_eq_true kd]
  rw[← fe]at kd
  refine iteT ⟨fun σ' H'=>∃ zs',i+1<=td.length/\σ' = [some (.ref r),some (.ref q),some (iV (i+1+1))]/\Same H H'/\H' q=some (.lst zs')/\TdAt H' zs' (td.take (i+1)),fun σ' H' ⟨zs',a1,a2,a3,a4,a5⟩=>⟨td.length-(i+1),by omega,i+1,zs',rfl,a1,a2,a3,a4,a5⟩,?_⟩
  refine⟨_,rfl,_,_,rfl,rfl,_,rfl,ite2 (fun c=>absurd (of_decide_eq_true c) (by omega)) (fun _=>?_)⟩
  have hq4:=s4 _ _ hq2
  refine⟨_,rfl,.inl ⟨rfl,_,SqL.of hq4⟩,_,rfl,_,rfl,r,_,_,V.str b,rfl,rfl,s4.seq hS2,aM hb2,b,_,_,_,rfl,rw1,be1,s30,fun p H5 s5 hp=>?_⟩
  refine⟨_,rfl,_,_,rfl,rfl,_,_,rfl,(by intro z;cases z),?_⟩
  have hq5:=s5 _ _ hq4
  refine⟨q,zs,_,rfl,rfl,hq5,aH (by omega),?_⟩
  refine⟨_,rfl,_,_,rfl,rfl,zs++[.ref p],hi2,rfl,aL (s2.trans (s4.trans s5)) hq _,ae,?_⟩
  have pq:p≠q:=fun z=>by rw[z,hq5]at hp;cases hp
  rw[show td.take (i+1)=td.take i++[td[i]] by rw[LD,KR hi2];rfl]
  refine TdAt.snoc (tz.mono fun b xs e=>?_) (by rw[aq pq,← fe];exact hp)
  rw[aq (fun z=>by rw[z,hq2]at e;cases e)]
  exact s5 _ _ (s4 _ _ e)
theorem dn:aD ["many","rows","ahead","turns","place","number"] ["many","rows","ahead"] (ag cg):=⟨rfl,rfl,rfl,by decide +kernel,rfl,by decide +kernel,by decide +kernel⟩
theorem wg{f f1 f2 f3:Addr}{fd d1 d2 d3:FuncData} (F:Fun K "turns_told" "turns_told" cg f fd) (T:Txt mg) (G_row_at:Cal P w K mg base 1 "row_at" ["rows","number"] (sI K) f1 d1) (G_turn_told:Cal P w K mg base 3 "turn_told" ["place","row"] yK f2 d2) (G_right:Cal P w K mg base 1 "right" ["told","at"] ou f3 d3):FnOk P w K mg base CX0 4 f fd ["many","rows","ahead"] (jy K):=by
 refine F.ok dn (fun vs H Q E h=>?_) (fun cdv A outer s H vs Q E hr h=>?_)
 ·obtain⟨r,bs,ts,m,ah,rfl,_⟩:=h
  rfl
 obtain⟨r,bs,ts,m,ah,rfl,hS,tl,m40,hd,kk⟩:=h
 refine⟨_,(ab (av (i:=3) dn.nd rfl (Or.inl rfl) (bE af))
   (ab (cG PassesOwn.never rfl (bH rfl T.n_range (aa (pv 0) af)) (aW (i:=4) dn.nd rfl (Or.inl rfl)) (ab (av (i:=5) dn.nd rfl (Or.inl rfl) (aG bI (pv 2) (pv 4)))
   (ak (aY (bT Ld Lv Lu ba (pv 3) (aa (au G_right.ok (hr.mono (by decide)) rfl G_right.mg G_right.kp G_right.bn .nil aK (aa (au G_turn_told.ok (hr.mono (by decide)) rfl G_turn_told.mg G_turn_told.kp G_turn_told.bn .nil aK (aa (pv 4) (aa (au G_row_at.ok (hr.mono (by decide)) rfl G_row_at.mg G_row_at.kp G_row_at.bn .nil aK (aa (pv 1) (aa (pv 5) af))) af))) (aa (aG bI (pv 5) ai) af))) af))))))
   (ak (aJ (pv 3))))),?_⟩
 refine⟨(by show 0<=sizeLine;decide),fun q hq=>?_⟩
 have s1:=aj hq (.lst [])
 refine⟨_,rfl,_,rfl,by omega,by omega,cD (n:=m) (fun i σ H2=>∃(v4 v5:Option V)(zs:List V),σ = [some (iV m),some (.ref r),some (iV ah),some (.ref q),v4,v5]/\Same H H2/\H2 q=some (.lst zs)/\cF (fun a=>a=q) H2 zs (ts.take i)) ⟨_,_,[],rfl,s1,ae,rfl,fun i l e=>by simp at e⟩ ?_ ?_⟩
 ·rintro i σ H2 hi ⟨v4,v5,zs,rfl,s2,hq2,rz⟩
  rw[Mq]
  have hS2:=s2.seq hS
  have hi2:i<ts.length:=by omega
  have zl:zs.length=i:=by rw[rz.1,LS];omega
  obtain⟨b,hb,rwb,be1,l63⟩:=hd i ts[i] (KR hi2)
  have hb2:(bs.map V.str)[ah+i]?=some (V.str b):=by rw[Lb,hb];rfl
  refine⟨_,rfl,_,rfl,_,_,rfl,rfl,?_⟩
  refine⟨_,rfl,.inl ⟨rfl,_,SqL.of hq2⟩,_,rfl,_,rfl,_,rfl,r,_,ah+i,_,rfl,hS2,hb2,b,i,ts[i],rfl,rwb,be1,by omega,fun p H5 s5 np hp=>?_⟩
  refine⟨_,rfl,_,_,rfl,rfl,_,_,rfl,(by intro z;cases z),?_⟩
  have hq5:=s5 _ _ hq2
  refine⟨q,zs,_,rfl,rfl,hq5,aH (by omega),_,_,zs++[.ref p],rfl,aL (s2.trans s5) hq _,ae,?_⟩
  have pq:p≠q:=fun z=>by rw[z,hq2]at np;cases np
  rw[show ts.take (i+1)=ts.take i++[ts[i]] by rw[LD,KR hi2];rfl]
  exact(rz.mono fun b u n e=>by rw[aq n];exact s5 _ _ e).snoc pq (by rw[aq pq];exact hp)
 ·rintro σ H2 ⟨v4,v5,zs,rfl,s2,hq2,rz⟩
  rw[← tl,LJ]at rz
  exact⟨_,rfl,kk q zs H2 s2 hq2 rz.off⟩
end
end KF
namespace KF
open PySem L2 PyProof.Rows K8
local macro_rules | `(tactic| walk_at "cc") => `(tactic| first | exact ⟨by decide, by decide⟩ | (show (0 : Int) < _; decide) | (show (0 : Int) < _; omega) | (show (0 : Int) ≤ _; omega) | exact ⟨by decide, by decide, by decide⟩ | exact ⟨by omega, by omega, by decide⟩ | exact Or.inl ⟨by decide, by decide⟩ | exact Or.inl ⟨by omega, by omega⟩)
local macro_rules | `(tactic| walk_at "rd") => `(tactic| repeat (first | refine ⟨_, rfl, ?_⟩ | refine ⟨_, _, rfl, rfl, ?_⟩ | refine ⟨rfl, ?_⟩ | (refine ⟨?cc, ?_⟩; (case cc => walk_at "cc"))))
def bare(ws:List Str):Str:=Str.join spS ws
def Gz(z:Str):Prop:=∀ c∈z.cps.toList,33<=c/\c<128
theorem uy(n:Nat):Gz (tx n):=fun c hc=>by have:=Ek n c hc;omega
theorem Ax(k:Int):Gz (kS k):=by
 unfold kS Gz
 split<;>decide +kernel
theorem Ay{z:Str}(h:Gz z){c:Nat}(hc:c<33):c∉z.cps.toList:=fun q=>by have:=h c q;omega
theorem rC{m:Nat}{es:En}{ks:Kn}{ts:List (List Nat)}:∀ ws∈aP m es ks ts,∀ z∈ws,Gz z:=fun ws hw z hz=>by
 unfold aP at hw
 rcases K0.mp hw with rfl | hw
 ·rcases K0.mp hz with rfl | hz
  ·unfold Gz;decide +kernel
  ·rw[LR.mp hz]
   exact uy m
 rcases La.mp hw with hw | hw
 ·obtain⟨i,_,rfl⟩:=Lq.mp hw
  unfold tieW at hz
  simp only[K0,LW,or_false]at hz
  rcases hz with rfl | rfl | rfl | rfl
  ·exact Ax _
  ·exact uy _
  ·exact uy _
  ·exact uy _
 ·obtain⟨i,_,rfl⟩:=Lq.mp hw
  unfold abRW at hz
  rcases K0.mp hz with rfl | hz
  ·unfold Gz;decide +kernel
  rcases K0.mp hz with rfl | hz
  ·exact uy _
  ·obtain⟨t,_,rfl⟩:=Lq.mp hz
   exact uy _
theorem AZ{ws:List Str}(h:∀ z∈ws,Gz z){c:Nat}(hc:c∈(bare ws).cps.toList):32<=c/\c<128:=by
 rcases Kj (c:=32) hc with rfl | ⟨z,hz,hc⟩
 ·decide
 ·have:=h z hz c hc
  omega
theorem Eg{m:Nat}{es:En}{ks:Kn}{ts:List (List Nat)}:Me (webT m es ks ts) nlS=(aP m es ks ts).map bare++[Str.empty]:=by
 have e:(aP m es ks ts).map rowT=((aP m es ks ts).map bare).map fun b=>b++nlS:=by rw[LZ];rfl
 unfold webT
 rw[e,Az]
 refine rD (c:=10) (by simp) fun w hw z=>?_
 rcases La.mp hw with hw | hw
 ·obtain⟨ws,hws,rfl⟩:=Lq.mp hw
  have:=AZ (rC ws hws) z
  omega
 ·rw[LR.mp hw]at z
  cases z
theorem Jj{m:Nat}{es:En}{ks:Kn}{ts:List (List Nat)}(w:Wr m es ks ts):(webT m es ks ts).length<=300000:=by
 obtain⟨r1,r2⟩:=w.rows
 have sl:=fK r1
 have:((aP m es ks ts).map rowT).length*400<=104*400:=Nat.mul_le_mul_right _ r2
 unfold webT
 rw[pB]
 omega
theorem uV{m:Nat}{es:En}{ks:Kn}{ts:List (List Nat)}(w:Wr m es ks ts){ws:List Str}(h:ws∈aP m es ks ts):Rw (bare ws):=by
 refine⟨?_,?_⟩
 ·have:=w.rows.1 (rowT ws) (Lq.mpr ⟨ws,h,rfl⟩)
  unfold rowT at this
  rw[Str.length_append]at this
  unfold bare
  omega
 ·unfold Asc
  rw[← NG,Mt]
  exact fun c hc=>decide_eq_true (AZ (rC ws h) hc).2
theorem ma{z:Str}(h:Gz z)(ws:List Str):fw (bare (z::ws))=z:=by
 have hn:32∉z.cps.toList:=Ay h (by decide)
 cases ws with
 |nil=>exact BL (c:=32) hn
 |cons a r =>
  have e:(bare (z::a::r)).cps.toList=z.cps.toList++32::(Str.join spS (a::r)).cps.toList:=by
   show(z++spS++Str.join spS (a::r)).cps.toList=_
   rw[om,om,M9]
   rfl
  exact(Hw (c:=32) hn e).trans (oj rfl)
theorem w4{m:Nat}{es:En}{ks:Kn}{ts:List (List Nat)}:(aP m es ks ts).length=1+es.length+ts.length:=by
 unfold aP
 rw[Lw,KU,K2,K2,LF,LF]
 omega
theorem vi{m:Nat}{es:En}{ks:Kn}{ts:List (List Nat)}{i:Nat}(h:i<es.length):(aP m es ks ts)[i+1]?=some (tieW (es.getD i (0,0)) (ks.getD i (0,0))):=by
 unfold aP
 rw[NT,KZ (by rw[K2,LF];exact h),Lb,Mf h]
 rfl
theorem BC{m:Nat}{es:En}{ks:Kn}{ts:List (List Nat)}{i:Nat}(h:i<ts.length):(aP m es ks ts)[1+es.length+i]?=some (abRW i (ts.getD i [])):=by
 unfold aP
 rw[show 1+es.length+i=(es.length+i)+1 by omega,NT,KY (by rw[K2,LF];omega),K2,LF,Nb,Lb,Mf h]
 rfl
theorem FR(k:Int):kS k=vI∨kS k=lI:=by
 unfold kS
 split
 ·exact .inr rfl
 ·exact .inl rfl
theorem Aq{k:Int}:(kS k=lI)↔k=1:=by
 unfold kS
 split
 ·rename_i h
  exact⟨fun _=>h,fun _=>rfl⟩
 ·rename_i h
  exact⟨fun z=>absurd z (by decide +kernel),fun z=>absurd z h⟩
def tdOf(es:En)(ks:Kn)(i:Nat):Td:=(kS (ks.getD i (0,0)).1,(es.getD i (0,0)).1,(es.getD i (0,0)).2,(ks.getD i (0,0)).2.toNat)
theorem Jw{m:Nat}{es:En}{ks:Kn}{ts:List (List Nat)}(w:Wr m es ks ts){i:Nat}(h:i<es.length):RowD (bare (tieW (es.getD i (0,0)) (ks.getD i (0,0)))) (tdOf es ks i):=by
 have e:=w.ee _ (i7 (d:=(0,0)) h)
 have k:=w.kk _ (i7 (d:=(0,0)) (by rw[w.kl];exact h))
 have hm:=K1 (vi (m:=m) (ks:=ks) (ts:=ts) h)
 have ef:fw (bare (tieW (es.getD i (0,0)) (ks.getD i (0,0))))=kS (ks.getD i (0,0)).1:=ma (Ax _) _
 refine⟨uV w hm,ef,?_,by show(ks.getD i (0,0)).2.toNat<=_;omega,FR _⟩
 rw[ef]
 exact lx (first:=kS (ks.getD i (0,0)).1) (ns:=[(es.getD i (0,0)).1,(es.getD i (0,0)).2,(ks.getD i (0,0)).2.toNat]) (Ay (Ax _) (by decide)) fun n hn=>by
  simp only[K0,LW,or_false]at hn
  rcases hn with rfl | rfl | rfl<;>omega
theorem eZ.snoc{PL PS:Addr}{H:Hp}{us:List V}{es:En}{ks:Kn}{i:Nat}{e:Nat×Nat}{k:Int×Int}{p dx:Addr}(t:eZ PL PS H us (es.take i) ks)(he:es[i]?=some e)(hk:ks[i]?=some k)(hp:H p=some (.ins (cls PL PS (decide (k.1=1))) dx (tf (e.1:Int) (e.2:Int) k.2))):eZ PL PS H (us++[.ref p]) (es.take (i+1)) ks:=by
 have hi:=(KS.mp he).1
 have ul:us.length=i:=by rw[t.1,LS];omega
 refine⟨by rw[KU,ul,LS];simp;omega,fun j e' k' hj hk'=>?_⟩
 rw[Nz]at hj
 by_cases z:j<i
 ·rw[if_pos (by omega)]at hj
  obtain⟨p',dx',a1,a2⟩:=t.2 j e' k' (by rw[Nz,if_pos z];exact hj) hk'
  exact⟨p',dx',by rw[KZ (by omega)];exact a1,a2⟩
 ·by_cases z2:j=i
  ·subst z2
   rw[if_pos (by omega),he]at hj
   cases hj
   rw[hk]at hk'
   cases hk'
   exact⟨p,dx,by rw[← ul,KY (K3 _),Ln];rfl,hp⟩
  ·rw[if_neg (by omega)]at hj
   cases hj
def rE(PL PS:Addr):Sp:=fun vs H Q _=>∃(kd:Str)(a b s:Nat),vs = [.str kd,iV a,iV b,iV s]/\a≠b/\∀(p dx:Addr)(H':Hp),Same H H'->H' p=some (.ins (cls PL PS (decide (kd=lI))) dx (tf (a:Int) (b:Int) (s:Int)))->Q (.ref p) H'
def yM(PL PS WC:Addr):Sp:=fun vs H Q _=>∃(m:Nat)(es:En)(ks:Kn)(ts:List (List Nat)),vs = [.str (webT m es ks ts)]/\Wr m es ks ts/\Gr m es ts/\0<es.length/\es.length<=14/\∀(p:Addr)(H':Hp),Same H H'->WebW (fun a=>H a≠none) PL PS WC H' p m es ts ks->Q (.ref p) H'
section
variable{P:Program}{w:World}{K:KW}{mg:Str->Option Value}{base:Heap}
theorem Jv:aD ["kind","one","two","strength"] ["kind","one","two","strength"] (ag rL):=⟨rfl,rfl,rfl,by decide +kernel,rfl,by decide +kernel,by decide +kernel⟩
theorem JL{f fI PL PS:Addr}{fd fdI:FuncData} (F:Fun K "made" "made" rL f fd) (M_Pull:Mak P w K mg base 1 "Pull" ["self","one","two","strength"] (rF K) PL fI fdI) (M_Push:Mak P w K mg base 1 "Push" ["self","one","two","strength"] (rF K) PS fI fdI) (TL:CT K PL) (TS:CT K PS):FnOk P w K mg base CX0 3 f fd ["kind","one","two","strength"] (rE PL PS):=by
 refine F.ok Jv (fun vs H Q E h=>?_) (fun cdv A outer s H vs Q E hr h=>?_)
 ·obtain⟨kd,a,b,s',rfl,_⟩:=h
  rfl
 obtain⟨kd,a,b,s',rfl,ne,kk⟩:=h
 refine⟨_,(ak (aJ (kI (ax jD (pv 0) aS (aI _)) (gY M_Push.mkc M_Push.ok (hr.mono (by decide)) rfl M_Push.mg M_Push.bn .nil aK (aa (pv 1) (aa (pv 2) (aa (pv 3) af)))) (gY M_Pull.mkc M_Pull.ok (hr.mono (by decide)) rfl M_Pull.mg M_Pull.bn .nil aK (aa (pv 1) (aa (pv 2) (aa (pv 3) af))))))),?_⟩
 refine⟨_,rfl,rfl,_,rfl,ite2 (fun c=>?_) (fun c=>?_)⟩
 ·have c':kd=lI:=V.str.inj (of_decide_eq_true c)
  refine⟨_,rfl,_,rfl,_,rfl,?_⟩
  intro x dx nx ndx nex
  refine⟨x,PS,dx,_,_,_,rfl,ae,TS,by omega,by omega,by omega,by omega,fun H' h1 h2=>⟨rfl,?_⟩⟩
  refine kk x dx H' (fun b o z=>h2 b o (by rw[aq (ar z nx),aq (ar z ndx)];exact z) (ar z nx)) ?_
  rw[decide_eq_true c']
  exact h1
 ·have c':¬ kd=lI:=fun z=>c (decide_eq_true (congrArg V.str z))
  refine⟨_,rfl,_,rfl,_,rfl,?_⟩
  intro x dx nx ndx nex
  refine⟨x,PL,dx,_,_,_,rfl,ae,TL,by omega,by omega,by omega,by omega,fun H' h1 h2=>⟨rfl,?_⟩⟩
  refine kk x dx H' (fun b o z=>h2 b o (by rw[aq (ar z nx),aq (ar z ndx)];exact z) (ar z nx)) ?_
  rw[decide_eq_false c']
  exact h1
end
end KF
namespace KF
open PySem L2 PyProof.Rows K8
local macro_rules | `(tactic| walk_at "cc") => `(tactic| first | exact ⟨by decide, by decide⟩ | (show (0 : Int) < _; decide) | (show (0 : Int) < _; omega) | (show (0 : Int) ≤ _; omega) | exact ⟨by decide, by decide, by decide⟩ | exact ⟨by omega, by omega, by decide⟩ | exact Or.inl ⟨by decide, by decide⟩ | exact Or.inl ⟨by omega, by omega⟩)
local macro_rules | `(tactic| walk_at "rd") => `(tactic| repeat (first | refine ⟨_, rfl, ?_⟩ | refine ⟨_, _, rfl, rfl, ?_⟩ | refine ⟨rfl, ?_⟩ | (refine ⟨?cc, ?_⟩; (case cc => walk_at "cc"))))
section
variable{P:Program}{w:World}{K:KW}{mg:Str->Option Value}{base:Heap}
theorem jA:aD ["text","rows","unended","many","told","turns","row_count"] ["text"] (ag rK):=⟨rfl,rfl,rfl,by decide +kernel,rfl,by decide +kernel,by decide +kernel⟩
theorem JK{f f1 f2 f3 f4 f5 f6 fW PL PS WC:Addr}{fd d1 d2 d3 d4 d5 d6 dW:FuncData} (F:Fun K "read" "read" rK f fd) (T:Txt mg) (cw:CW K WC) (TL:CT K PL) (TS:CT K PS) (G_right:Cal P w K mg base 1 "right" ["told","at"] ou f1 d1) (G_row_at:Cal P w K mg base 1 "row_at" ["rows","number"] (sI K) f2 d2) (G_places_told:Cal P w K mg base 3 "places_told" ["row"] sN f3 d3) (G_ties_told:Cal P w K mg base 4 "ties_told" ["rows"] (lB K) f4 d4) (G_turns_told:Cal P w K mg base 4 "turns_told" ["many","rows","ahead"] (jy K) f5 d5) (G_made:Cal P w K mg base 3 "made" ["kind","one","two","strength"] (rE PL PS) f6 d6) (M_Web:Mak P w K mg base 5 "Web" ["self","many","ties","turns"] (jx K) WC fW dW):FnOk P w K mg base CX0 7 f fd ["text"] (yM PL PS WC):=by
 refine F.ok jA (fun vs H Q E h=>?_) (fun cdv A outer s H vs Q E hr h=>?_)
 ·obtain⟨m,es,ks,ts,rfl,_⟩:=h
  rfl
 obtain⟨m,es,ks,ts,rfl,wr,g,e0,e14,kk⟩:=h
 refine⟨_,(ab (av (i:=1) jA.nd rfl (Or.inl rfl) (bT LV Mw PySem.F.type_str_split BR (pv 0) (aa aS af)))
   (ab (av (i:=2) jA.nd rfl (Or.inl rfl) (EZ Ld Nh Ng Fv (pv 1)))
   (ab (av (i:=3) jA.nd rfl (Or.inl rfl) (au G_right.ok (hr.mono (by decide)) rfl G_right.mg G_right.kp G_right.bn .nil aK (aa (au G_places_told.ok (hr.mono (by decide)) rfl G_places_told.mg G_places_told.kp G_places_told.bn .nil aK (aa (au G_row_at.ok (hr.mono (by decide)) rfl G_row_at.mg G_row_at.kp G_row_at.bn .nil aK (aa (pv 1) (aa ai af))) af)) (aa ai af))))
   (ab (av (i:=4) jA.nd rfl (Or.inl rfl) (au G_ties_told.ok (hr.mono (by decide)) rfl G_ties_told.mg G_ties_told.kp G_ties_told.bn .nil aK (aa (pv 1) af)))
   (ab (av (i:=5) jA.nd rfl (Or.inl rfl) (au G_turns_told.ok (hr.mono (by decide)) rfl G_turns_told.mg G_turns_told.kp G_turns_told.bn .nil aK (aa (pv 3) (aa (pv 1) (aa (aG bI ai (aB ao (by rfl) T.n_len aV (aa (pv 4) af))) af)))))
   (ab (av (i:=6) jA.nd rfl (Or.inl rfl) (aG bI (aG bI ai (aB ao (by rfl) T.n_len aV (aa (pv 4) af))) (pv 3)))
   (ab (bw (PW.pt (gU (ax we (aB ao (by rfl) T.n_len aV (aa (pv 1) af)) (pv 6) (aI _)) (fu (ax jg (pv 2) aS (aI _))))) (ak bh) aQ)
   (ak (aJ (gY M_Web.mkc M_Web.ok (hr.mono (by decide)) rfl M_Web.mg M_Web.bn .nil aK (aa (pv 3) (aa (BJ rfl (fr:=[]) (xs:=["kind","one","two","strength"]) (vh.of (by rfl) (by decide +kernel) (by rfl) (by decide +kernel) (fun p hp=>nomatch hp) (by decide +kernel) (fun p hp=>nomatch hp)) (b7 (pv 4)) (fun C ex s H=>(EW (n:=4) (K:=K) rfl rfl (bX (aW (i:=0) (show(["kind","one","two","strength"]:List Str).Nodup from by decide +kernel) rfl (Or.inl rfl)) (bX (aW (i:=1) (show(["kind","one","two","strength"]:List Str).Nodup from by decide +kernel) rfl (Or.inl rfl)) (bX (aW (i:=2) (show(["kind","one","two","strength"]:List Str).Nodup from by decide +kernel) rfl (Or.inl rfl)) (bX (aW (i:=3) (show(["kind","one","two","strength"]:List Str).Nodup from by decide +kernel) rfl (Or.inl rfl)) oM)))))) (fun C ex s H=>EM) (fun C ex s H=>(au G_made.ok (hr.mono (by decide)) rfl G_made.mg G_made.kp G_made.bn .nil aK (aa (pv 0) (aa (pv 1) (aa (pv 2) (aa (pv 3) af))))))) (aa (pv 5) af))))))))))))),?_⟩
 rw[HP,Ge]
 have few:=wr.few
 have kl:=wr.kl
 have m2:=wr.m2
 have m40:=wr.m40
 have tl:=wr.tl
 have wl:=Jj wr
 have s64:(400000:Nat)<=sizeLine:=by decide
 refine⟨_,rfl,rfl,webT m es ks ts,nlS,rfl,rfl,rfl,by omega,fun r hr'=>?_⟩
 rw[Eg,Lz]
 have bl:((aP m es ks ts).map bare).length=1+es.length+ts.length:=by rw[K2,w4]
 have sr:=aj hr' (.lst (((aP m es ks ts).map bare).map V.str++[Str.empty].map V.str))
 refine⟨_,rfl,.inl ⟨rfl,_,SqL.of ae⟩,r,_,V.str Str.empty,rfl,rfl,ae,by simp,?_⟩
 have ed:List.dropLast (((aP m es ks ts).map bare).map V.str++[Str.empty].map V.str)=((aP m es ks ts).map bare).map V.str:=by simp
 rw[ed]
 have sR:=aL sr hr' (.lst (((aP m es ks ts).map bare).map V.str))
 have gR:(upd (upd H r (.lst (((aP m es ks ts).map bare).map V.str++[Str.empty].map V.str))) r (.lst (((aP m es ks ts).map bare).map V.str))) r=some (.lst (((aP m es ks ts).map bare).map V.str)):=ae
 generalize upd (upd H r (.lst (((aP m es ks ts).map bare).map V.str++[Str.empty].map V.str))) r (.lst (((aP m es ks ts).map bare).map V.str))=H1 at sR gR
 have hp0 : [plW,tx m]∈aP m es ks ts:=Lg ..
 refine⟨_,rfl,r,_,0,_,rfl,SqL.of gR,rfl,bare [plW,tx m],m,rfl,uV wr hp0,?_,m2,m40,fun H2 s2=>?_⟩
 ·exact lx (first:=plW) (ns:=[m]) (by decide +kernel) fun n hn=>by
   rw[LR.mp hn]
   omega
 refine⟨_,1,rfl,(by intro z;cases z),?_⟩
 have gR2:=s2 _ _ gR
 refine⟨_,rfl,r,(aP m es ks ts).map bare,(LK es.length).map (tdOf es ks),rfl,SqL.of gR2,by rw[K2,LF];omega,fun i d hd=>?_,?_,fun q zs H3 s3 hq tz=>?_⟩
 ·rw[Lb]at hd
  obtain⟨j,hj,rfl⟩:=LI.mp hd
  have hi:=(KS.mp hj).1
  rw[LF]at hi
  rw[Mf hi]at hj
  cases hj
  exact⟨_,by rw[Lb,vi hi];rfl,Jw wr hi⟩
 ·rw[K2,LF]
  have h0:0<ts.length:=by omega
  have hw:=BC (m:=m) (es:=es) (ks:=ks) h0
  have hf:fw (bare (abRW 0 (ts.getD 0 [])))=abW:=ma (by unfold Gz;decide +kernel) _
  refine⟨_,by rw[Lb,show es.length+1=1+es.length+0 by omega,hw];rfl,(uV wr (K1 hw)).1,?_,?_⟩
  ·rw[hf];decide +kernel
  ·rw[hf];decide +kernel
 have zl:zs.length=es.length:=by rw[tz.1,K2,LF]
 have gR3:=s3 _ _ gR2
 refine⟨_,rfl,_,rfl,_,rfl,q,_,rfl,.inl (SqL.of hq),_,_,rfl,rfl,r,(aP m es ks ts).map bare,ts,m,1+es.length,?_,SqL.of gR3,tl,m40,fun i l hl=>?_,fun qt zt H4 s4 hqt rt=>?_⟩
 ·rw[zl]
  rfl
 ·have hi:=(KS.mp hl).1
  have hw:=BC (m:=m) (es:=es) (ks:=ks) hi
  have gl:ts.getD i []=l:=by rw[Lc,hl];rfl
  rw[gl]at hw
  have rl:=wr.rl l (K1 hl)
  refine⟨_,by rw[Lb,hw];rfl,uV wr (K1 hw),?_,rl.1⟩
  exact lx (first:=abW) (ns:=i::l) (by decide +kernel) fun n hn=>by
   rcases K0.mp hn with rfl | hn
   ·omega
   ·have:=rl.2 n hn
    omega
 have gR4:=s4 _ _ gR3
 have hq4:=s4 _ _ hq
 have tz4:TdAt H4 zs _:=tz.mono fun b xs e=>s4 _ _ e
 refine⟨_,rfl,q,_,rfl,.inl (SqL.of hq4),_,_,rfl,rfl,_,rfl,_,_,rfl,rfl,?_⟩
 refine⟨_,rfl,r,_,rfl,.inl (SqL.of gR4),_,rfl,_,_,rfl,rfl,_,rfl,ite2 (fun c=>absurd (of_decide_eq_true c) ?_) (fun _=>?_)⟩
 ·rw[K2,bl,zl,tl]
  omega
 refine⟨_,rfl,rfl,_,rfl,ite2 (fun z=>?_) (fun _=>?_)⟩
 ·simp at z
 refine⟨_,rfl,_,rfl,q,rfl,⟨_,SqL.of hq4⟩,DR (K:=K) (xs:=zs) (fun i us H5=>Same H4 H5/\eZ PL PS H5 us (es.take i) ks) (by omega) ⟨fun _ _ z=>z,rfl,fun i e k z=>by simp at z⟩ (fun i us H5 _ z=>SqL.of (z.1 _ _ hq4)) ?_ ?_ (fun i us H5 z=>by rw[z.2.1,LS];omega)⟩
 ·rintro i x us H5 hx ⟨s5,tt⟩
  have hi:i<es.length:=by rw[← zl];exact(KS.mp hx).1
  obtain⟨t,x1,x2⟩:=tz4.2 i (tdOf es ks i) (by rw[Lb,Mf hi];rfl)
  rw[hx]at x1
  cases x1
  have ge:es.getD i (0,0)=es[i]:=by rw[Lc,KR hi];rfl
  have gk:ks.getD i (0,0)=ks[i]:=by rw[Lc,KR (show i<ks.length by omega)];rfl
  have k':=wr.kk ks[i] (LM _)
  have ne:=(g.w.ends es[i] (LM _)).2.2
  unfold tdOf at x2
  rw[ge,gk]at x2
  refine⟨t,_,rfl,SqT.of (s5 _ _ x2),rfl,_,_,rfl,_,_,rfl,_,_,rfl,_,_,rfl,rfl,rfl,yesT ?_⟩
  refine⟨_,rfl,_,rfl,_,rfl,_,rfl,_,_,_,_,rfl,ne,fun p dx H6 s6 hp=>⟨s5.trans s6,?_⟩⟩
  refine eZ.snoc (tt.mono s6) (KR hi) (KR (show i<ks.length by omega)) (dx:=dx) ?_
  rw[hp,show(((ks[i].2.toNat:Nat)):Int)=ks[i].2 by omega,decide_eq_decide.mpr (Aq (k:=ks[i].1))]
 rintro us H5 ⟨s5,tt⟩ D hD
 rw[zl,LJ]at tt
 have usl:us.length=es.length:=tt.1
 have sD:=aj hD (.lst us)
 have hDD:(upd H5 D (.lst us)) D=some (.lst us):=ae
 have s4D:=s5.trans sD
 have ttD:=tt.mono sD
 generalize upd H5 D (.lst us)=HD at sD s4D hDD ttD
 have hqtD:=s4D _ _ hqt
 have rtD:=rt.mono s4D
 refine⟨_,rfl,?_⟩
 intro x dx nx ndx nex
 have up:∀ b o,HD b=some o->(upd (upd HD dx (.own x)) x (.ins WC dx [])) b=some o:=fun b o z=>by rw[aq (ar z nx),aq (ar z ndx)];exact z
 refine⟨x,WC,dx,D,qt,m,us,zt,es,ts,rfl,ae,cw,up _ _ hDD,((ttD.at kl TL TS)).mono up,up _ _ hqtD,rtD.mono up,g,e0,e14,fun fs q1 rs H6 h1 hg hn h2 h3 h4=>⟨rfl,?_⟩⟩
 have s6:Same HD H6:=fun b o z=>h4 b o (up _ _ z) (ar z nx)
 have sAll:=sR.trans (s2.trans (s3.trans (s4.trans s4D)))
 have up0:∀ a,H a≠none->(upd (upd HD dx (.own x)) x (.ins WC dx [])) a≠none:=fun a z y=>z (by
  cases u:H a with
  |none=>rfl
  |some o=>rw[up _ _ (sAll _ _ u)]at y;cases y)
 exact kk x H6 (sAll.trans s6) ((ww_of ⟨dx,fs,q1,us,h1,hg,fun z=>z hn,h2,h3,ttD.mono s6⟩).mono (KpL.of fun _ _ e=>e) up0)
end
end KF
namespace KF
open PySem L2 PyProof.Rows K8
local macro_rules | `(tactic| walk_at "cc") => `(tactic| first | exact ⟨by decide, by decide⟩ | (show (0 : Int) < _; decide) | (show (0 : Int) < _; omega) | (show (0 : Int) ≤ _; omega) | exact ⟨by decide, by decide, by decide⟩ | exact ⟨by omega, by omega, by decide⟩ | exact Or.inl ⟨by decide, by decide⟩ | exact Or.inl ⟨by omega, by omega⟩)
local macro_rules | `(tactic| walk_at "rd") => `(tactic| repeat (first | refine ⟨_, rfl, ?_⟩ | refine ⟨_, _, rfl, rfl, ?_⟩ | refine ⟨rfl, ?_⟩ | (refine ⟨?cc, ?_⟩; (case cc => walk_at "cc"))))
def ow:Sp:=fun vs H Q _=>∃(word row:Str)(ns:List Nat),vs = [.str word,.str row,iV ns.length]/\Rw row/\fJ word row 31=some ns/\∀ a H',Same H H'->H' a=some (.lst (ns.map iV))->Q (.ref a) H'
def sy(PL PS:Addr):Sp:=fun vs H Q _=>∃(p dx:Addr)(e:Nat×Nat)(k:Int×Int),vs = [.ref p]/\H p=some (.ins (cls PL PS (decide (k.1=1))) dx (tf (e.1:Int) (e.2:Int) k.2))/\(k.1=0∨k.1=1)/\0<=k.2/\e.1≠e.2/\∀(p' dx':Addr)(H':Hp),Same H H'->H' p'=some (.ins (cls PL PS (decide (1-k.1=1))) dx' (tf (e.1:Int) (e.2:Int) k.2))->Q (.ref p') H'
structure Ch(m:Nat)(es:En)(ts:List (List Nat))(ks:Kn):Prop where
 wr:Wr m es ks ts
 g:Gr m es ts
 pos:0<es.length
 few:es.length<=14
def oq(PL PS WC:Addr):Sp:=fun vs H Q _=>∃(S:Addr->Prop)(p:Addr)(m:Nat)(es:En)(ts:List (List Nat))(ks:Kn)(kd:Int)(n s:Nat),vs = [.ref p,.str (kS kd),iV n,iV s]/\WebW S PL PS WC H p m es ts ks/\Ch m es ts ks/\n<es.length/\s<=10^30/\(kd=0∨kd=1) /\
 ∀(p':Addr)(H':Hp),Same H H'->WebW (fun a=>H a≠none) PL PS WC H' p' m es ts (ks.set n (kd,(s:Int)))->Q (.ref p') H'
theorem eZ.set{PL PS:Addr}{H:Hp}{xs:List V}{es:En}{ks:Kn}{n:Nat}{e:Nat×Nat}{k:Int×Int}{p dx:Addr}(t:eZ PL PS H xs es ks)(he:es[n]?=some e)(hp:H p=some (.ins (cls PL PS (decide (k.1=1))) dx (tf (e.1:Int) (e.2:Int) k.2))):eZ PL PS H (xs.set n (.ref p)) es (ks.set n k):=by
 refine⟨by rw[LA];exact t.1,fun i e' k' h1 h2=>?_⟩
 have hn:=(KS.mp he).1
 by_cases c:n=i
 ·subst c
  rw[he]at h1
  cases h1
  have hk:=(KS.mp h2).1
  rw[LA]at hk
  rw[L9 hk]at h2
  cases h2
  exact⟨p,dx,by rw[L9 (by rw[t.1];exact hn)],hp⟩
 ·rw[Mc c]at h2
  obtain⟨q,dq,a1,a2⟩:=t.2 i e' k' h1 h2
  exact⟨q,dq,by rw[Mc c];exact a1,a2⟩
theorem Ch.set{m:Nat}{es:En}{ts:List (List Nat)}{ks:Kn}(c:Ch m es ts ks){n:Nat}{k:Int×Int}(h1:k.1=0∨k.1=1)(h2:0<=k.2)(h3:k.2<=10^30):Ch m es ts (ks.set n k):=by
 refine⟨⟨by rw[LA];exact c.wr.kl,c.wr.few,c.wr.m2,c.wr.m40,c.wr.tl,fun x hx=>?_,c.wr.ee,c.wr.rl⟩,c.g,c.pos,c.few⟩
 rcases M1 hx with h | rfl
 ·exact c.wr.kk x h
 ·exact⟨h1,h2,h3⟩
theorem IK{K:KW}{PL PS WC D qt:Addr}{H HD:Hp}{m:Nat}{es:En}{ts:List (List Nat)}{ks:Kn}{us zt:List V}{Q:VK}(cw:CW K WC)(TL:CT K PL)(TS:CT K PS)(kk:∀ (p':Addr) (H':Hp),Same H H'->WebW (fun a=>H a≠none) PL PS WC H' p' m es ts ks->Q (.ref p') H')(s:Same H HD)(hD:HD D=some (.lst us))(tt:eZ PL PS HD us es ks)(hqt:HD qt=some (.lst zt))(rt:bF HD zt ts)(ch:Ch m es ts ks) :
  ∀ x dx,HD x=none->HD dx=none->dx≠x->jx K (.ref x::([.int (m:Int),.ref D,.ref qt]++[])) (upd (upd HD dx (.own x)) x (.ins WC dx [])) (fun v H2=>v=.non/\Q (.ref x) H2) E0:=by
 intro x dx nx ndx nex
 have up:∀ b o,HD b=some o->(upd (upd HD dx (.own x)) x (.ins WC dx [])) b=some o:=fun b o z=>by rw[aq (ar z nx),aq (ar z ndx)];exact z
 refine⟨x,WC,dx,D,qt,m,us,zt,es,ts,rfl,ae,cw,up _ _ hD,((tt.at ch.wr.kl TL TS)).mono up,up _ _ hqt,rt.mono up,ch.g,ch.pos,ch.few,fun fs q1 rs H6 h1 hg hn h2 h3 h4=>⟨rfl,?_⟩⟩
 have s6:Same HD H6:=fun b o z=>h4 b o (up _ _ z) (ar z nx)
 have up0:∀ a,H a≠none->(upd (upd HD dx (.own x)) x (.ins WC dx [])) a≠none:=fun a z y=>z (by
  cases u:H a with
  |none=>rfl
  |some o=>rw[up _ _ (s _ _ u)]at y;cases y)
 exact kk x H6 (s.trans s6) ((ww_of ⟨dx,fs,q1,us,h1,hg,fun z=>z hn,h2,h3,tt.mono s6⟩).mono (KpL.of fun _ _ e=>e) up0)
section
variable{P:Program}{w:World}{K:KW}{mg:Str->Option Value}{base:Heap}
theorem gX:aD ["word","row","many","numbers"] ["word","row","many"] (ag bA):=⟨rfl,rfl,rfl,by decide +kernel,rfl,by decide +kernel,by decide +kernel⟩
theorem CN{f f1:Addr}{fd d1:FuncData} (F:Fun K "numbers_told" "numbers_told" bA f fd) (T:Txt mg) (G_numbers_behind:Cal P w K mg base 2 "numbers_behind" ["first","row","figures"] Ck f1 d1):FnOk P w K mg base CX0 3 f fd ["word","row","many"] ow:=by
 refine F.ok gX (fun vs H Q E h=>?_) (fun cdv A outer s H vs Q E hr h=>?_)
 ·obtain⟨word,row,ns,rfl,_⟩:=h
  rfl
 obtain⟨word,row,ns,rfl,hR,hb,kk⟩:=h
 refine⟨_,(ab (av (i:=3) gX.nd rfl (Or.inl rfl) (au G_numbers_behind.ok (hr.mono (by decide)) rfl G_numbers_behind.mg G_numbers_behind.kp G_numbers_behind.bn .nil aK (aa (pv 0) (aa (pv 1) (aa (kJ rfl T.figd) af)))))
   (ab (bw (PW.pt (gU (ax wd (pv 3) fz (aI _)) (fu (ax jg (aB ao (by rfl) T.n_len aV (aa (pv 3) af)) (pv 2) (aI _))))) (ak bh) aQ)
   (ak (aJ (pv 3))))),?_⟩
 refine⟨_,rfl,_,rfl,_,row,31,rfl,by decide,hR.1,hR.2,fun v H1 s1 hv=>?_⟩
 rw[hb]at hv
 obtain⟨a,rfl,ha⟩:=hv
 refine⟨_,rfl,rfl,_,rfl,ite2 (fun c=>absurd (of_decide_eq_true c) (by intro z;cases z)) (fun _=>?_)⟩
 refine⟨_,rfl,a,_,rfl,.inl (SqL.of ha),_,rfl,rfl,_,rfl,?_⟩
 rw[K2]
 refine ite2 (fun c=>?_) (fun _=>?_)
 ·rw[decide_eq_true (show V.int ((ns.length:Nat):Int)=iV ns.length from rfl)]at c
  cases c
 ·exact⟨_,rfl,kk a _ s1 ha⟩
theorem ED:aD ["tie"] ["tie"] (ag iQ):=⟨rfl,rfl,rfl,by decide +kernel,rfl,by decide +kernel,by decide +kernel⟩
theorem Fd{f f1 f0 g1 PL PS:Addr}{fd d1 d0 e1:FuncData} (F:Fun K "turned" "turned" iQ f fd) (TL:CT K PL) (TS:CT K PS) (G_made:Cal P w K mg base 3 "made" ["kind","one","two","strength"] (rE PL PS) f1 d1) (u0:Met P w K mg base 1 PL "wish" ["self"] (mP false) f0 d0) (u1:Met P w K mg base 1 PS "wish" ["self"] (mP true) g1 e1):FnOk P w K mg base CX0 4 f fd ["tie"] (sy PL PS):=by
 refine F.ok ED (fun vs H Q E h=>?_) (fun cdv A outer s H vs Q E hr h=>?_)
 ·obtain⟨p,dx,e,k,rfl,_⟩:=h
  rfl
 obtain⟨p,dx,e,k,rfl,hp,k01,k0,ne,kk⟩:=h
 have CL0:=TL.cl
 have CL1:=TS.cl
 refine⟨_,(ak (aJ (au G_made.ok (hr.mono (by decide)) rfl G_made.mg G_made.kp G_made.bn .nil aK (aa (kI (ax jD (vZ (d9 (pv 0) CL0 u0.me u0.ok (hr.mono (by decide)) u0.bn .nil aK) (d9 (pv 0) CL1 u1.me u1.ok (hr.mono (by decide)) u1.bn .nil aK)) ai (aI _)) aS aS) (aa (aZ (pv 0) rfl) (aa (aZ (pv 0) rfl) (aa (aZ (pv 0) rfl) af))))))),?_⟩
 obtain⟨n,hn⟩:∃ n:Nat,k.2=(n:Int):=⟨k.2.toNat,by omega⟩
 rw[hn]at hp kk
 have eb:(kS (1-k.1)=lI)↔1-k.1=1:=Aq
 have fin:∀ C:Addr,CT K C->H p=some (.ins C dx (tf (e.1:Int) (e.2:Int) (n:Int)))->(qI (tFld K (tVar 0) "one") (qI (tFld K (tVar 0) "two") (qI (tFld K (tVar 0) "strength") tNil))) [some (.ref p)] H (fun vs H1=>rE PL PS ((V.str (kS (1-k.1))::vs)++[]) H1 Q E0):=fun C CC hp=>by
  refine⟨_,rfl,p,C,dx,_,_,rfl,hp,CC.cl,CC.n1,jj _ _ _,_,rfl,p,C,dx,_,_,rfl,hp,CC.cl,CC.n2,oh _ _ _,_,rfl,p,C,dx,_,_,rfl,hp,CC.cl,CC.n3,IB _ _ _,?_⟩
  refine⟨_,e.1,e.2,n,rfl,ne,fun p' dx' H' s' h'=>kk p' dx' H' s' ?_⟩
  rw[h',decide_eq_decide.mpr eb]
 by_cases c:k.1=1
 ·rw[decide_eq_true c]at hp
  refine .inr ⟨_,rfl,p,dx,_,rfl,hp,Hl _ _ _ (by decide +kernel) (by decide +kernel) (by decide +kernel),p,rfl,rfl,_,rfl,?_⟩
  have z:=fin PS TS hp
  rw[show kS (1-k.1)=(("pull" : String):Str) from by rw[c];rfl]at z
  exact iteT z
 ·rw[decide_eq_false c]at hp
  refine .inl ⟨_,rfl,p,dx,_,rfl,hp,Hl _ _ _ (by decide +kernel) (by decide +kernel) (by decide +kernel),p,rfl,rfl,_,rfl,?_⟩
  have z:=fin PL TL hp
  rw[show kS (1-k.1)=(("push" : String):Str) from by rw[show k.1=0 by omega];rfl]at z
  exact iteF z
theorem oF:aD ["web","kind","number","strength","ties"] ["web","kind","number","strength"] (ag dA):=⟨rfl,rfl,rfl,by decide +kernel,rfl,by decide +kernel,by decide +kernel⟩
theorem CJ{f f1 fW PL PS WC:Addr}{fd d1 dW:FuncData} (F:Fun K "with_tie" "with_tie" dA f fd) (T:Txt mg) (cw:CW K WC) (TL:CT K PL) (TS:CT K PS) (G_made:Cal P w K mg base 3 "made" ["kind","one","two","strength"] (rE PL PS) f1 d1) (M_Web:Mak P w K mg base 5 "Web" ["self","many","ties","turns"] (jx K) WC fW dW):FnOk P w K mg base CX0 7 f fd ["web","kind","number","strength"] (oq PL PS WC):=by
 refine F.ok oF (fun vs H Q E h=>?_) (fun cdv A outer s H vs Q E hr h=>?_)
 ·obtain⟨S,p,m,es,ts,ks,kd,n,s',rfl,_⟩:=h
  rfl
 obtain⟨S,p,m,es,ts,ks,kd,n,s',rfl,⟨dx,fs,q1,xs,qt,zt,hp,many,lk,_,hq1,tk,lt,_,hqt,rt⟩,ch,hn,hs,k01,kk⟩:=h
 have few:=ch.few
 have xl:=tk.1
 have kl:=ch.wr.kl
 refine⟨_,(ab (bw (PW.pt (gU (ax Fb (pv 2) (aB ao (by rfl) T.n_len aV (aa (aZ (pv 0) rfl) af)) (aI _)) (fu (ax we (pv 3) (aG BN ai ai) (aI _))))) (ak bh) aQ)
   (ab (av (i:=4) oF.nd rfl (Or.inl rfl) (aR bK (by rfl) T.n_list ki (aa (aZ (pv 0) rfl) af)))
   (ab (oG (au G_made.ok (hr.mono (by decide)) rfl G_made.mg G_made.kp G_made.bn .nil aK (aa (pv 1) (aa (aZ (aF ay (pv 4) (pv 2) (fun _ _=>rfl)) rfl) (aa (aZ (aF ay (pv 4) (pv 2) (fun _ _=>rfl)) rfl) (aa (pv 3) af))))) (oN (pv 4) (pv 2) fM))
   (ak (aJ (gY M_Web.mkc M_Web.ok (hr.mono (by decide)) rfl M_Web.mg M_Web.bn .nil aK (aa (aZ (pv 0) rfl) (aa (pv 4) (aa (aZ (pv 0) rfl) af))))))))),?_⟩
 have e30:(10:Int)^(30:Int).toNat=((10^30:Nat):Int):=by decide
 refine⟨_,rfl,_,rfl,p,WC,dx,fs,_,rfl,hp,cw.cl,cw.n2,lk,q1,xs,rfl,.inl (SqL.of hq1),_,_,rfl,rfl,_,rfl,ite2 (fun c=>absurd (of_decide_eq_true c) (by omega)) (fun _=>?_)⟩
 refine⟨_,rfl,_,_,rfl,rfl,⟨by decide,by decide,by decide⟩,_,_,rfl,rfl,_,rfl,ite2 (fun c=>absurd (of_decide_eq_true c) (by rw[e30];omega)) (fun _=>?_)⟩
 refine⟨_,rfl,p,WC,dx,fs,_,rfl,hp,cw.cl,cw.n2,lk,q1,xs,rfl,.inl (SqL.of hq1),fun t ht=>?_⟩
 have st:=aj ht (.lst xs)
 have gt:(upd H t (.lst xs)) t=some (.lst xs):=ae
 generalize upd H t (.lst xs)=H1 at st gt
 obtain⟨p',dx',a1,a2⟩:=(tk.mono st).2 n es[n] ks[n] (KR hn) (KR (by omega))
 have CC:CT K (cls PL PS (decide (ks[n].1=1))):=by
  unfold cls
  split
  ·exact TS
  ·exact TL
 have ne:=(ch.g.w.ends es[n] (LM _)).2.2
 refine⟨_,rfl,_,rfl,_,rfl,t,xs,_,_,rfl,rfl,SqL.of gt,aM a1,p',_,dx',_,_,rfl,a2,CC.cl,CC.n1,jj _ _ _,?_⟩
 refine⟨_,rfl,_,rfl,t,xs,_,_,rfl,rfl,SqL.of gt,aM a1,p',_,dx',_,_,rfl,a2,CC.cl,CC.n2,oh _ _ _,_,rfl,kS kd,es[n].1,es[n].2,s',rfl,ne,fun y dy H2 s2 hy=>?_⟩
 have gt2:=s2 _ _ gt
 refine⟨_,rfl,_,rfl,t,xs,_,n,rfl,rfl,gt2,jX (by omega),?_⟩
 have sH:=aL (st.trans s2) ht (.lst (xs.set n (.ref y)))
 have nt:∀{b:Addr}{o:HO},H b=some o->b≠t:=fun z=>ar z ht
 have hyt:y≠t:=fun z=>by rw[z,gt2]at hy;cases hy
 have tk':eZ PL PS (upd H2 t (.lst (xs.set n (.ref y)))) (xs.set n (.ref y)) es (ks.set n (kd,(s':Int))):=by
  refine eZ.set (dx:=dy) (tk.mono sH) (KR hn) ?_
  rw[aq hyt,hy,decide_eq_decide.mpr (Aq (k:=kd))]
 refine⟨_,rfl,p,WC,dx,fs,_,rfl,sH _ _ hp,cw.cl,cw.n1,many,_,rfl,_,rfl,p,WC,dx,fs,_,rfl,sH _ _ hp,cw.cl,cw.n3,lt,?_⟩
 exact IK cw TL TS kk sH ae tk' (sH _ _ hqt) (rt.off.mono sH) (ch.set k01 (by show(0:Int)<=(s':Int);omega) (by show((s':Nat):Int)<=10^30;omega))
end
end KF
namespace KF
open PySem L2 PyProof.Rows K8
local macro_rules | `(tactic| walk_at "cc") => `(tactic| first | exact ⟨by decide, by decide⟩ | (show (0 : Int) < _; decide) | (show (0 : Int) < _; omega) | (show (0 : Int) ≤ _; omega) | exact ⟨by decide, by decide, by decide⟩ | exact ⟨by omega, by omega, by decide⟩ | exact Or.inl ⟨by decide, by decide⟩ | exact Or.inl ⟨by omega, by omega⟩)
local macro_rules | `(tactic| walk_at "rd") => `(tactic| repeat (first | refine ⟨_, rfl, ?_⟩ | refine ⟨_, _, rfl, rfl, ?_⟩ | refine ⟨rfl, ?_⟩ | (refine ⟨?cc, ?_⟩; (case cc => walk_at "cc"))))
def flip1(ks:Kn)(t:Nat):Kn:=ks.set t (1-(ks.getD t (0,0)).1,(ks.getD t (0,0)).2)
def flipL(ks:Kn)(l:List Nat):Kn:=l.foldl flip1 ks
theorem mh(ks:Kn)(l:List Nat)(t:Nat):flipL ks (l++[t])=flip1 (flipL ks l) t:=by
 unfold flipL
 rw[List.foldl_append]
 rfl
theorem Ch.flip1{m:Nat}{es:En}{ts:List (List Nat)}{ks:Kn}(c:Ch m es ts ks){t:Nat}(h:t<es.length):Ch m es ts (flip1 ks t):=by
 have k:=c.wr.kk _ (i7 (d:=(0,0)) (show t<ks.length by rw[c.wr.kl];exact h))
 exact c.set (by show 1-(ks.getD t (0,0)).1=0∨1-(ks.getD t (0,0)).1=1;omega) k.2.1 k.2.2
theorem rw_small{ws:List Str}(h:∀ z∈ws,Gz z/\z.length<=40)(hl:ws.length<=10):Rw (bare ws):=by
 refine⟨?_,?_⟩
 ·have sl:=fK fun z hz=>(h z hz).2
  have jl:=kU 32 ws
  unfold bare
  show(Str.join ⟨#[32]⟩ ws).length<=_
  omega
 ·unfold Asc
  rw[← NG,Mt]
  exact fun c hc=>decide_eq_true (AZ (fun z hz=>(h z hz).1) hc).2
theorem Ki(k:Int):kS k≠(("flip" : String):Str):=by
 unfold kS
 split<;>decide +kernel
inductive Dd where
 |tie (kd:Int) (n s:Nat)
 |flip (p:Nat)
def flW:Str:=(("flip" : String):Str)
def ddT:Dd->Str
 |.tie kd n s=>bare [kS kd,tx n,tx s]
 |.flip p=>bare [flW,tx p]
def ddK(ts:List (List Nat))(ks:Kn):Dd->Kn
 |.tie kd n s=>ks.set n (kd,(s:Int))
 |.flip p=>flipL ks (ts.getD p [])
def ddOk(m:Nat)(es:En):Dd->Prop
 |.tie kd n s=>(kd=0∨kd=1)/\n<es.length/\s<=10^30
 |.flip p=>p<m
def ox(PL PS WC:Addr):Sp:=fun vs H Q _=>∃(S:Addr->Prop)(p:Addr)(m:Nat)(es:En)(ts:List (List Nat))(ks:Kn)(pl:Nat),vs = [.ref p,iV pl]/\WebW S PL PS WC H p m es ts ks/\Ch m es ts ks/\pl<m /\
 ∀(p':Addr)(H':Hp),Same H H'->WebW (fun a=>H a≠none) PL PS WC H' p' m es ts (flipL ks (ts.getD pl []))->Q (.ref p') H'
def oy(PL PS WC:Addr):Sp:=fun vs H Q _=>∃(S:Addr->Prop)(p:Addr)(m:Nat)(es:En)(ts:List (List Nat))(ks:Kn)(d:Dd),vs = [.ref p,.str (ddT d)]/\WebW S PL PS WC H p m es ts ks/\Ch m es ts ks/\ddOk m es d /\
 ∀(p':Addr)(H':Hp),Same H H'->WebW (fun a=>H a≠none) PL PS WC H' p' m es ts (ddK ts ks d)->Q (.ref p') H'
section
variable{P:Program}{w:World}{K:KW}{mg:Str->Option Value}{base:Heap}
theorem lF:aD ["web","place","ties","number"] ["web","place"] (ag fm):=⟨rfl,rfl,rfl,by decide +kernel,rfl,by decide +kernel,by decide +kernel⟩
theorem CQ{f f1 fW PL PS WC:Addr}{fd d1 dW:FuncData} (F:Fun K "flipped" "flipped" fm f fd) (T:Txt mg) (cw:CW K WC) (TL:CT K PL) (TS:CT K PS) (G_turned:Cal P w K mg base 4 "turned" ["tie"] (sy PL PS) f1 d1) (M_Web:Mak P w K mg base 5 "Web" ["self","many","ties","turns"] (jx K) WC fW dW):FnOk P w K mg base CX0 7 f fd ["web","place"] (ox PL PS WC):=by
 refine F.ok lF (fun vs H Q E h=>?_) (fun cdv A outer s H vs Q E hr h=>?_)
 ·obtain⟨S,p,m,es,ts,ks,pl,rfl,_⟩:=h
  rfl
 obtain⟨S,p,m,es,ts,ks,pl,rfl,⟨dx,fs,q1,xs,qt,zt,hp,many,lk,_,hq1,tk,lt,_,hqt,rt⟩,ch,hn,kk⟩:=h
 have few:=ch.few
 have kl:=ch.wr.kl
 have tl:=ch.wr.tl
 have hpl:pl<ts.length:=by omega
 have gl:ts.getD pl []=ts[pl]:=by rw[Lc,KR hpl];rfl
 rw[gl]at kk
 obtain⟨r,r1,_,r2⟩:=rt.2 pl ts[pl] (KR hpl)
 have l63:=(ch.wr.rl ts[pl] (LM _)).1
 refine⟨_,(ab (bw (ax Fb (pv 1) (aZ (pv 0) rfl) (aI _)) (ak bh) aQ)
   (ab (av (i:=2) lF.nd rfl (Or.inl rfl) (aR bK (by rfl) T.n_list ki (aa (aZ (pv 0) rfl) af)))
   (ab (cG PassesOwn.never rfl (b7 (aF ay (aZ (pv 0) rfl) (pv 1) (fun _ _=>rfl))) (aW (i:=3) lF.nd rfl (Or.inl rfl)) (ak (oG (au G_turned.ok (hr.mono (by decide)) rfl G_turned.mg G_turned.kp G_turned.bn .nil aK (aa (aF ay (pv 2) (pv 3) (fun _ _=>rfl)) af)) (oN (pv 2) (pv 3) fM))))
   (ak (aJ (gY M_Web.mkc M_Web.ok (hr.mono (by decide)) rfl M_Web.mg M_Web.bn .nil aK (aa (aZ (pv 0) rfl) (aa (pv 2) (aa (aZ (pv 0) rfl) af))))))))),?_⟩
 refine⟨_,rfl,_,rfl,p,WC,dx,fs,_,rfl,hp,cw.cl,cw.n1,many,_,_,rfl,rfl,_,rfl,ite2 (fun c=>absurd (of_decide_eq_true c) (by omega)) (fun _=>?_)⟩
 refine⟨_,rfl,p,WC,dx,fs,_,rfl,hp,cw.cl,cw.n2,lk,q1,xs,rfl,.inl (SqL.of hq1),fun t ht=>?_⟩
 have st:=aj ht (.lst xs)
 refine⟨_,rfl,p,WC,dx,fs,_,rfl,st _ _ hp,cw.cl,cw.n3,lt,_,rfl,qt,zt,_,_,rfl,rfl,SqL.of (st _ _ hqt),aM r1,r,rfl,⟨_,SqL.of (st _ _ r2)⟩,i8 (K:=K) (xs:=ts[pl].map iV) (fun i σ H2=>∃(v3:Option V)(ys:List V),σ = [some (.ref p),some (iV pl),some (.ref t),v3]/\Same H H2/\H2 t=some (.lst ys)/\eZ PL PS H2 ys es (flipL ks (ts[pl].take i))/\Ch m es ts (flipL ks (ts[pl].take i))) ⟨_,xs,rfl,st,ae,tk.mono st,ch⟩ (fun i σ H2 _ ⟨_,_,_,z,_⟩=>SqL.of (z _ _ r2)) ?_ ?_⟩
 ·rintro i x σ H2 hx ⟨v3,ys,rfl,s2,ht2,tk2,ch2⟩
  rw[Lb]at hx
  obtain⟨n,hn',rfl⟩:=LI.mp hx
  obtain⟨e,he,_⟩:=(ch.g.w.mem pl ts[pl] (KR hpl) n).mp (K1 hn')
  have hne:=(KS.mp he).1
  have kl2:=ch2.wr.kl
  generalize hK:flipL ks (ts[pl].take i)=k2 at tk2 ch2 kl2
  obtain⟨p',dx',a1,a2⟩:=tk2.2 n e k2[n] he (KR (by omega))
  have kq:=ch2.wr.kk k2[n] (LM _)
  have ne:=(ch.g.w.ends e (K1 he)).2.2
  have yl:=tk2.1
  have gk:k2.getD n (0,0)=k2[n]:=by rw[Lc,KR (show n<k2.length by omega)];rfl
  refine⟨_,rfl,_,rfl,t,ys,_,_,rfl,rfl,SqL.of ht2,aM a1,p',dx',e,k2[n],rfl,a2,kq.1,kq.2.1,ne,fun y dy H3 s3 hy=>?_⟩
  have ht3:=s3 _ _ ht2
  refine⟨_,rfl,_,rfl,t,ys,_,n,rfl,rfl,ht3,jX (by omega),?_⟩
  have hyt:y≠t:=fun z=>by rw[z,ht3]at hy;cases hy
  refine⟨_,_,rfl,aL (s2.trans s3) ht _,ae,?_,?_⟩
  ·rw[LD,hn']
   show eZ PL PS _ _ es (flipL ks (ts[pl].take i++[n]))
   rw[mh,hK]
   unfold flip1
   rw[gk]
   refine eZ.set (dx:=dy) ⟨yl,fun j e' k' h1 h2=>?_⟩ he (by rw[aq hyt];exact hy)
   obtain⟨b,db,b1,b2⟩:=tk2.2 j e' k' h1 h2
   exact⟨b,db,b1,by rw[aq (fun z=>by rw[z,ht2]at b2;cases b2)];exact s3 _ _ b2⟩
  ·rw[LD,hn']
   show Ch m es ts (flipL ks (ts[pl].take i++[n]))
   rw[mh,hK]
   exact ch2.flip1 hne
 rintro σ H2 ⟨v3,ys,rfl,s2,ht2,tk2,ch2⟩
 rw[K2,LJ]at tk2 ch2
 refine⟨_,rfl,p,WC,dx,fs,_,rfl,s2 _ _ hp,cw.cl,cw.n1,many,_,rfl,_,rfl,p,WC,dx,fs,_,rfl,s2 _ _ hp,cw.cl,cw.n3,lt,?_⟩
 exact IK cw TL TS kk s2 ht2 tk2 (s2 _ _ hqt) (rt.off.mono s2) ch2
theorem lG:aD ["web","row","word","numbers"] ["web","row"] (ag fq):=⟨rfl,rfl,rfl,by decide +kernel,rfl,by decide +kernel,by decide +kernel⟩
theorem CS{f f1 f2 f3 f4 PL PS WC:Addr}{fd d1 d2 d3 d4:FuncData} (F:Fun K "changed" "changed" fq f fd) (G_first_word:Cal P w K mg base 1 "first_word" ["row"] spFW f1 d1) (G_numbers_told:Cal P w K mg base 3 "numbers_told" ["word","row","many"] ow f2 d2) (G_with_tie:Cal P w K mg base 7 "with_tie" ["web","kind","number","strength"] (oq PL PS WC) f3 d3) (G_flipped:Cal P w K mg base 7 "flipped" ["web","place"] (ox PL PS WC) f4 d4):FnOk P w K mg base CX0 8 f fd ["web","row"] (oy PL PS WC):=by
 refine F.ok lG (fun vs H Q E h=>?_) (fun cdv A outer s H vs Q E hr h=>?_)
 ·obtain⟨S,p,m,es,ts,ks,d,rfl,_⟩:=h
  rfl
 obtain⟨S,p,m,es,ts,ks,d,rfl,ww,ch,ok,kk⟩:=h
 refine⟨_,(ab (av (i:=2) lG.nd rfl (Or.inl rfl) (au G_first_word.ok (hr.mono (by decide)) rfl G_first_word.mg G_first_word.kp G_first_word.bn .nil aK (aa (pv 1) af)))
   (ab (bw (ax jD (pv 2) aS (aI _)) (ak (aJ (au G_flipped.ok (hr.mono (by decide)) rfl G_flipped.mg G_flipped.kp G_flipped.bn .nil aK (aa (pv 0) (aa (aF ay (au G_numbers_told.ok (hr.mono (by decide)) rfl G_numbers_told.mg G_numbers_told.kp G_numbers_told.bn .nil aK (aa (pv 2) (aa (pv 1) (aa ai af)))) ai (fun _ _=>rfl)) af))))) aQ)
   (ab (bw (ax kK (pv 2) (bS (aa aS (aa aS af))) (by with_unfolding_all rfl)) (ab (av (i:=3) lG.nd rfl (Or.inl rfl) (au G_numbers_told.ok (hr.mono (by decide)) rfl G_numbers_told.mg G_numbers_told.kp G_numbers_told.bn .nil aK (aa (pv 2) (aa (pv 1) (aa ai af)))))
   (ak (aJ (au G_with_tie.ok (hr.mono (by decide)) rfl G_with_tie.mg G_with_tie.kp G_with_tie.bn .nil aK (aa (pv 0) (aa (pv 2) (aa (aF ay (pv 3) ai (fun _ _=>rfl)) (aa (aF ay (pv 3) ai (fun _ _=>rfl)) af)))))))) aQ)
   (ak bh)))),?_⟩
 have few:=ch.few
 have m40:=ch.wr.m40
 cases d with
 |flip pl =>
  have hpl:pl<m:=ok
  have e1:fw (bare [flW,tx pl])=flW:=ma (by unfold Gz;decide +kernel) _
  have l2:=tx2 (n:=pl) (by omega)
  have rw1:Rw (bare [flW,tx pl]):=rw_small (fun z hz=>by
   simp only[K0,LW,or_false]at hz
   rcases hz with rfl | rfl
   ·exact⟨by unfold Gz;decide +kernel,by decide +kernel⟩
   ·exact⟨uy _,by omega⟩) (by show 2<=10;decide)
  have be:fJ flW (bare [flW,tx pl]) 31=some [pl]:=lx (first:=flW) (ns:=[pl]) (by decide +kernel) fun n hn=>by
   rw[LR.mp hn]
   omega
  refine⟨_,rfl,_,rfl,rw1.1,fun H1 s1=>?_⟩
  show tSeq _ _ _ (List.set _ _ (some (V.str (fw (bare [flW,tx pl]))))) _
  rw[e1]
  refine⟨_,rfl,rfl,_,rfl,ite2 (fun _=>?_) (fun c=>absurd (decide_eq_true rfl) c)⟩
  refine⟨_,rfl,_,rfl,_,rfl,flW,bare [flW,tx pl],[pl],rfl,rw1,be,fun a H2 s2 ha=>?_⟩
  have s12:=s1.trans s2
  refine⟨a,_,0,_,rfl,rfl,SqL.of ha,Bl,S,p,m,es,ts,ks,pl,rfl,ww.mono (KpL.of s12) (fun a z=>z),ch,hpl,fun p' H' s' w'=>?_⟩
  exact kk p' H' (s12.trans s') (w'.mono (KpL.of fun _ _ e=>e) fun a z=>(by
   intro y
   cases u:H a with
   |none=>exact z u
   |some o=>rw[s12 _ _ u]at y;cases y))
 |tie kd n s' =>
  obtain⟨k01,hn,hs⟩:=(show(kd=0∨kd=1)/\n<es.length/\s'<=10^30 from ok)
  have e1:fw (bare [kS kd,tx n,tx s'])=kS kd:=ma (Ax _) _
  have l2:=tx2 (n:=n) (by omega)
  have l3:=tx31 hs
  have rw1:Rw (bare [kS kd,tx n,tx s']):=rw_small (fun z hz=>by
   simp only[K0,LW,or_false]at hz
   rcases hz with rfl | rfl | rfl
   ·exact⟨Ax _,by rw[FT];decide⟩
   ·exact⟨uy _,by omega⟩
   ·exact⟨uy _,by omega⟩) (by show 3<=10;decide)
  have be:fJ (kS kd) (bare [kS kd,tx n,tx s']) 31=some [n,s']:=lx (first:=kS kd) (ns:=[n,s']) (Ay (Ax _) (by decide)) fun x hx=>by
   simp only[K0,LW,or_false]at hx
   rcases hx with rfl | rfl<;>omega
  refine⟨_,rfl,_,rfl,rw1.1,fun H1 s1=>?_⟩
  show tSeq _ _ _ (List.set _ _ (some (V.str (fw (bare [kS kd,tx n,tx s']))))) _
  rw[e1]
  refine⟨_,rfl,rfl,_,rfl,ite2 (fun c=>absurd (V.str.inj (of_decide_eq_true c)) (Ki kd)) (fun _=>?_)⟩
  refine⟨_,rfl,(by show 2<=sizeLine;decide),fun t ht=>?_⟩
  have st:=aj ht (.tup [V.str (("pull" : String):Str),V.str (("push" : String):Str)])
  refine⟨t,_,rfl,.inr (SqT.of ae),rfl,rfl,_,rfl,?_⟩
  show(if(inV (.str (kS kd)) [.str vI,.str lI])=true then _ else _)
  rw[IS,decide_eq_true (FR kd)]
  refine iteT ?_
  refine⟨_,rfl,_,rfl,kS kd,bare [kS kd,tx n,tx s'],[n,s'],rfl,rw1,be,fun a H2 s2 ha=>?_⟩
  have s12:=s1.trans (st.trans s2)
  refine⟨_,rfl,_,rfl,_,rfl,a,_,0,_,rfl,rfl,SqL.of ha,(rfl:atI [iV n,iV s'] 0=some (iV n)),_,rfl,a,_,1,_,rfl,rfl,SqL.of ha,(rfl:atI [iV n,iV s'] 1=some (iV s')),S,p,m,es,ts,ks,kd,n,s',rfl,ww.mono (KpL.of s12) (fun a z=>z),ch,hn,hs,k01,fun p' H' s' w'=>?_⟩
  exact kk p' H' (s12.trans s') (w'.mono (KpL.of fun _ _ e=>e) fun a z=>(by
   intro y
   cases u:H a with
   |none=>exact z u
   |some o=>rw[s12 _ _ u]at y;cases y))
end
end KF
namespace KF
open PySem L2 PyProof.Rows K8
local macro_rules | `(tactic| walk_at "cc") => `(tactic| first | exact ⟨by decide, by decide⟩ | (show (0 : Int) < _; decide) | (show (0 : Int) < _; omega) | (show (0 : Int) ≤ _; omega) | exact ⟨by decide, by decide, by decide⟩ | exact ⟨by omega, by omega, by decide⟩ | exact Or.inl ⟨by decide, by decide⟩ | exact Or.inl ⟨by omega, by omega⟩)
local macro_rules | `(tactic| walk_at "rd") => `(tactic| repeat (first | refine ⟨_, rfl, ?_⟩ | refine ⟨_, _, rfl, rfl, ?_⟩ | refine ⟨rfl, ?_⟩ | (refine ⟨?cc, ?_⟩; (case cc => walk_at "cc"))))
structure CD(K:KW)(DC:Addr):Prop where
 cl:Cls K DC
 n1:dZ K DC "webs"
theorem Dn{n:Str}{v:V} (h:(n == ("webs" : Str))=false):MP n [(("webs" : Str),v)]=none:=by
 rw[NC,h]
 rfl
def uW:Str:=(("back" : String):Str)
def yG(DC:Addr)(H:Hp)(d L:Addr)(ps:List V):Prop:=∃ dx,H d=some (.ins DC dx [(("webs" : Str),.ref L)])/\H L=some (.lst ps)
theorem Gm(d:Dd):ddT d≠uW:=fun z=>by
 have fb:fw uW=uW:=BL (c:=32) (by decide +kernel)
 have e:=congrArg fw z
 rw[fb]at e
 cases d with
 |tie kd n s =>
  rw[show fw (ddT (.tie kd n s))=kS kd from ma (Ax _) _]at e
  rcases FR kd with h | h<;>rw[h]at e<;>exact absurd e (by decide +kernel)
 |flip p =>
  rw[show fw (ddT (.flip p))=flW from ma (by unfold Gz;decide +kernel) _]at e
  exact absurd e (by decide +kernel)
def sV(K:KW)(PL PS WC:Addr):Sp:=fun vs H Q _=>∃(d DC dx:Addr)(m:Nat)(es:En)(ts:List (List Nat))(ks:Kn),vs = [.ref d,.str (webT m es ks ts)]/\H d=some (.ins DC dx [])/\CD K DC/\Ch m es ts ks /\
 ∀(L p:Addr)(H':Hp),yG DC H' d L [.ref p]->H L=none->L≠p->WebW (fun a=>H a≠none∨a=L) PL PS WC H' p m es ts ks->(∀ b o,H b=some o->b≠d->H' b=some o)->Q .non H'
def BG(DC:Addr):Sp:=fun vs H Q _=>∃(d L:Addr)(ps:List V),vs = [.ref d]/\yG DC H d L ps/\Q (.int ((ps.length:Int)-1)) H
def BF(PL PS WC DC:Addr):Sp:=fun vs H Q _=>∃(d L p:Addr)(ps:List V)(S:Addr->Prop)(m:Nat)(es:En)(ts:List (List Nat))(ks:Kn),vs = [.ref d]/\yG DC H d L (ps++[.ref p])/\WebW S PL PS WC H p m es ts ks/\Wr m es ks ts/\∀ H',Same H H'->Q (.str (webT m es ks ts)) H'
def spDo(PL PS WC DC:Addr):Sp:=fun vs H Q _=>∃(d L:Addr)(ps:List V)(x:V)(row:Str),vs = [.ref d,.str row]/\yG DC H d L (ps++[x])/\ps.length<=100 /\
 ((row=uW/\ps≠[]/\∀ H1,Same H H1->Q .non (upd H1 L (.lst ps))) ∨
  ∃(p:Addr)(S:Addr->Prop)(m:Nat)(es:En)(ts:List (List Nat))(ks:Kn)(dd:Dd),row=ddT dd/\x=.ref p/\WebW S PL PS WC H p m es ts ks/\Ch m es ts ks/\ddOk m es dd /\
   ∀(p':Addr)(H1:Hp),Same H H1->WebW (fun a=>H a≠none) PL PS WC H1 p' m es ts (ddK ts ks dd)->Q .non (upd H1 L (.lst (ps++[x]++[.ref p']))))
section
variable{P:Program}{w:World}{K:KW}{mg:Str->Option Value}{base:Heap}
theorem qN:aD ["self","text"] ["self","text"] (ag bO):=⟨rfl,rfl,rfl,by decide +kernel,rfl,by decide +kernel,by decide +kernel⟩
theorem HK{f f1 PL PS WC:Addr}{fd d1:FuncData} (F:Fun K "__init__" "Desk.__init__" bO f fd) (G_read:Cal P w K mg base 7 "read" ["text"] (yM PL PS WC) f1 d1):FnOk P w K mg base CX0 8 f fd ["self","text"] (sV K PL PS WC):=by
 refine F.ok qN (fun vs H Q E h=>?_) (fun cdv A outer s H vs Q E hr h=>?_)
 ·obtain⟨d,DC,dx,m,es,ts,ks,rfl,_⟩:=h
  rfl
 obtain⟨d,DC,dx,m,es,ts,ks,rfl,hd,cd,ch,kk⟩:=h
 refine⟨_,(ak (kH (pv 0) (bE (aa (au G_read.ok (hr.mono (by decide)) rfl G_read.mg G_read.kp G_read.bn .nil aK (aa (pv 1) af)) af)) rfl)),?_⟩
 refine⟨_,rfl,m,es,ks,ts,rfl,ch.wr,ch.g,ch.pos,ch.few,fun p H1 s1 ww=>⟨(by show 1<=sizeLine;decide),fun L hL=>?_⟩⟩
 have sL:=aj hL (.lst [.ref p])
 have hd1:=sL _ _ (s1 _ _ hd)
 refine⟨_,rfl,d,DC,dx,[],rfl,hd1,cd.cl,cd.n1,(by show 0<1000;decide),?_⟩
 have dL:d≠L:=fun z=>by rw[← z,s1 _ _ hd]at hL;cases hL
 have pL:L≠p:=fun z=>by
  obtain⟨dxp,fsp,_,_,_,_,hp,_⟩:=ww
  rw[← z,hL]at hp;cases hp
 refine kk L p _ ⟨dx,ae,by rw[aq (Ne.symm dL),ae]⟩ (none_of s1 hL) pL ?_ (fun b o e n=>by rw[aq n];exact sL _ _ (s1 _ _ e))
 refine ww.mono2 (fun b o e n=>?_) (fun a xs z e=>z.elim id fun y=>by rw[y,hL]at e;cases e)
 have bd:b≠d:=fun z=>by
  rw[z,s1 _ _ hd]at e
  cases e
  rcases n with⟨⟨xs,q⟩,_⟩ | ⟨C,dx',fs,q,ne⟩
  ·cases q
  ·cases q
   exact ne rfl
 rw[aq bd]
 exact sL _ _ e
theorem vH:aD ["self"] ["self"] (ag cU):=⟨rfl,rfl,rfl,by decide +kernel,rfl,by decide +kernel,by decide +kernel⟩
theorem JM{f DC:Addr}{fd:FuncData} (F:Fun K "left" "Desk.left" cU f fd) (T:Txt mg) (cd:CD K DC):FnOk P w K mg base CX0 1 f fd ["self"] (BG DC):=by
 refine F.ok vH (fun vs H Q E h=>?_) (fun cdv A outer s H vs Q E hr h=>?_)
 ·obtain⟨d,L,ps,rfl,_⟩:=h
  rfl
 obtain⟨d,L,ps,rfl,⟨dx,hd,hL⟩,kk⟩:=h
 refine⟨_,(ak (aJ (aG mR (aB ao (by rfl) T.n_len aV (aa (aZ (pv 0) rfl) af)) ai))),?_⟩
 exact⟨_,rfl,d,DC,dx,_,_,rfl,hd,cd.cl,cd.n1,rfl,L,ps,rfl,.inl (SqL.of hL),_,_,rfl,rfl,kk⟩
theorem vG:aD ["self"] ["self"] (ag cT):=⟨rfl,rfl,rfl,by decide +kernel,rfl,by decide +kernel,by decide +kernel⟩
theorem JJ{f f1 DC PL PS WC:Addr}{fd d1:FuncData} (F:Fun K "text" "Desk.text" cT f fd) (cd:CD K DC) (G_written:Cal P w K mg base 3 "written" ["web"] (oo PL PS WC) f1 d1):FnOk P w K mg base CX0 4 f fd ["self"] (BF PL PS WC DC):=by
 refine F.ok vG (fun vs H Q E h=>?_) (fun cdv A outer s H vs Q E hr h=>?_)
 ·obtain⟨d,L,p,ps,S,m,es,ts,ks,rfl,_⟩:=h
  rfl
 obtain⟨d,L,p,ps,S,m,es,ts,ks,rfl,⟨dx,hd,hL⟩,ww,wr,kk⟩:=h
 refine⟨_,(ak (aJ (au G_written.ok (hr.mono (by decide)) rfl G_written.mg G_written.kp G_written.bn .nil aK (aa (aF ay (aZ (pv 0) rfl) (JE Ei ai) (fun _ _=>rfl)) af)))),?_⟩
 exact⟨_,rfl,d,DC,dx,_,_,rfl,hd,cd.cl,cd.n1,rfl,_,rfl,L,_,-1,.ref p,rfl,rfl,SqL.of hL,u4 _ _,S,p,m,es,ts,ks,rfl,ww,wr,kk⟩
theorem Cv:aD ["self","row"] ["self","row"] (ag ft):=⟨rfl,rfl,rfl,by decide +kernel,rfl,by decide +kernel,by decide +kernel⟩
theorem ok_do{f f1 f2 DC PL PS WC:Addr}{fd d1 d2:FuncData} (F:Fun K "do" "Desk.do" ft f fd) (cd:CD K DC) (G_changed:Cal P w K mg base 8 "changed" ["web","row"] (oy PL PS WC) f1 d1) (m_left:Met P w K mg base 1 DC "left" ["self"] (BG DC) f2 d2):FnOk P w K mg base CX0 9 f fd ["self","row"] (spDo PL PS WC DC):=by
 refine F.ok Cv (fun vs H Q E h=>?_) (fun cdv A outer s H vs Q E hr h=>?_)
 ·obtain⟨d,L,ps,x,row,rfl,_⟩:=h
  rfl
 obtain⟨d,L,ps,x,row,rfl,⟨dx,hd,hL⟩,l100,hh⟩:=h
 have CL:=cd.cl
 refine⟨_,(ak (bw (ax jg (pv 1) aS (aI _)) (ak (aY (bT Ld Lv Lu ba (aZ (pv 0) rfl) (aa (au G_changed.ok (hr.mono (by decide)) rfl G_changed.mg G_changed.kp G_changed.bn .nil aK (aa (aF ay (aZ (pv 0) rfl) (JE Ei ai) (fun _ _=>rfl)) (aa (pv 1) af))) af)))) (ak (bw (ax we (d9 (pv 0) CL m_left.me m_left.ok (hr.mono (by decide)) m_left.bn .nil aK) ai (aI _)) (ak (aY (EZ Ld Nh Ng Fv (aZ (pv 0) rfl)))) (ak bh))))),?_⟩
 rcases hh with⟨rfl,ne,kk⟩ | ⟨p,S,m,es,ts,ks,dd,rfl,rfl,ww,ch,ok,kk⟩
 ·refine⟨_,rfl,rfl,_,rfl,ite2 (fun c=>?_) (fun _=>?_)⟩
  ·rw[decide_eq_true (show V.str uW=V.str (("back" : String):Str) from rfl)]at c
   cases c
  have pl:0<ps.length:=List.length_pos_iff.mpr ne
  refine⟨_,rfl,d,dx,_,rfl,hd,Dn (by decide +kernel),d,L,_,rfl,⟨dx,hd,hL⟩,_,_,rfl,rfl,_,rfl,ite2 (fun _=>?_) (fun c=>absurd (decide_eq_true ?_) c)⟩
  rotate_left
  ·show(0:Int)<(((ps++[x]).length:Nat):Int)-1
   rw[KU,K4]
   omega
  refine⟨_,rfl,d,DC,dx,_,_,rfl,hd,cd.cl,cd.n1,rfl,.inl ⟨rfl,_,SqL.of hL⟩,L,_,x,rfl,rfl,hL,by simp,?_⟩
  rw[List.dropLast_concat]
  exact kk H fun _ _ e=>e
 ·refine⟨_,rfl,rfl,_,rfl,ite2 (fun _=>?_) (fun c=>?_)⟩
  rotate_left
  ·have c':¬ (!decide (V.str (ddT dd)=V.str uW))=true:=c
   rw[decide_eq_false (fun z=>Gm dd (V.str.inj z))]at c'
   exact absurd rfl c'
  refine⟨_,rfl,d,DC,dx,_,_,rfl,hd,cd.cl,cd.n1,rfl,.inl ⟨rfl,_,SqL.of hL⟩,_,rfl,d,DC,dx,_,_,rfl,hd,cd.cl,cd.n1,rfl,_,rfl,L,_,-1,.ref p,rfl,rfl,SqL.of hL,u4 _ _,_,rfl,S,p,m,es,ts,ks,dd,rfl,ww,ch,ok,fun p' H1 s1 w1=>⟨L,_,_,rfl,rfl,s1 _ _ hL,aH (by rw[KU,K4];omega),kk p' H1 s1 w1⟩⟩
end
end KF
namespace KF
open PySem L2 PyProof.Rows K8
local macro_rules | `(tactic| walk_at "cc") => `(tactic| first | exact ⟨by decide, by decide⟩ | (show (0 : Int) < _; decide) | (show (0 : Int) < _; omega) | (show (0 : Int) ≤ _; omega) | exact ⟨by decide, by decide, by decide⟩ | exact ⟨by omega, by omega, by decide⟩ | exact Or.inl ⟨by decide, by decide⟩ | exact Or.inl ⟨by omega, by omega⟩)
local macro_rules | `(tactic| walk_at "rd") => `(tactic| repeat (first | refine ⟨_, rfl, ?_⟩ | refine ⟨_, _, rfl, rfl, ?_⟩ | refine ⟨rfl, ?_⟩ | (refine ⟨?cc, ?_⟩; (case cc => walk_at "cc"))))
def spWhole:Sp:=fun vs H Q _=>∃ i:Int,vs = [.int i]/\Q (.bl true) H
theorem JD(m:Nat):(("places " : String):Str)++tx m=bare [plW,tx m]:=by
 have e:(("places " : String):Str)=plW++spS:=by decide +kernel
 rw[e]
 rfl
def Bq(H:Hp)(b:Addr)(es:En)(ts:List (List Nat))(ks:Kn):Prop:=∃(pe pt pk:Addr)(ys xs ws:List V),H b=some (.tup [.ref pe,.ref pt,.ref pk])/\H pe=some (.lst ys)/\cy H ys es/\H pt=some (.lst xs)/\bF H xs ts/\H pk=some (.lst ws)/\bo H ws ks
def kE:Sp:=fun vs H Q _=>∃(b:Addr)(m:Nat)(es:En)(ks:Kn)(ts:List (List Nat)),vs = [.ref b]/\Bq H b es ts ks/\Wr m es ks ts/\∀ H',Same H H'->Q (.str (webT m es ks ts)) H'
theorem web_nl(m:Nat)(es:En)(ks:Kn)(ts:List (List Nat)):Str.join nlS ((aP m es ks ts).map bare)++nlS=webT m es ks ts:=by
 have e:(aP m es ks ts).map rowT=((aP m es ks ts).map bare).map fun b=>b++nlS:=by rw[LZ];rfl
 unfold webT
 rw[e,Az,xp nlS Str.empty (by unfold aP;simp),Str.append_empty]
def bsTo(m:Nat)(es:En)(ks:Kn)(ts:List (List Nat))(i j:Nat):List V:=V.str (bare [plW,tx m])::((LK i).map (fun i=>V.str (bare (tieW (es.getD i (0,0)) (ks.getD i (0,0)))))++(LK j).map fun i=>V.str (bare (abRW i (ts.getD i []))))
theorem Cd{m:Nat}{es:En}{ks:Kn}{ts:List (List Nat)}{i j:Nat}:(bsTo m es ks ts i j).length=1+i+j:=by
 unfold bsTo
 rw[Lw,KU,K2,K2,LF,LF]
 omega
theorem Ir{m:Nat}{es:En}{ks:Kn}{ts:List (List Nat)}{i:Nat}:bsTo m es ks ts i 0++[V.str (bare (tieW (es.getD i (0,0)) (ks.getD i (0,0))))]=bsTo m es ks ts (i+1) 0:=by
 unfold bsTo
 rw[MK,List.range_zero,List.map_nil,Nn,Nn,Lz]
 rfl
theorem KH{m:Nat}{es:En}{ks:Kn}{ts:List (List Nat)}{i j:Nat}:bsTo m es ks ts i j++[V.str (bare (abRW j (ts.getD j [])))]=bsTo m es ks ts i (j+1):=by
 unfold bsTo
 rw[MK (n:=j),Lz,ND,M9]
 rfl
section
variable{P:Program}{w:World}{K:KW}{mg:Str->Option Value}{base:Heap}
theorem vE:aD ["found"] ["found"] (ag cN):=⟨rfl,rfl,rfl,by decide +kernel,rfl,by decide +kernel,by decide +kernel⟩
theorem ok_whole{f:Addr}{fd:FuncData} (F:Fun K "_law_whole" "_law_whole" cN f fd) (T:Txt mg):FnOk P w K mg base CX0 1 f fd ["found"] spWhole:=by
 refine F.ok vE (fun vs H Q E h=>?_) (fun cdv A outer s H vs Q E hr h=>?_)
 ·obtain⟨i,rfl,_⟩:=h
  rfl
 obtain⟨i,rfl,k⟩:=h
 refine⟨_,(ak (aJ (IG (aB uR (by rfl) T.n_isinstance gK (aa (pv 0) (aa (zz (v:=.ty "int") rfl T.n_int GV rfl) af))) (IF (pe_not (aB uR (by rfl) T.n_isinstance gK (aa (pv 0) (aa (zz (v:=.ty "bool") rfl T.n_bool KG rfl) af)))))))),?_⟩
 refine⟨_,rfl,_,_,_,_,_,rfl,TyOf.int i,Or.inl ⟨_,rfl,rfl⟩,kit_ii K,_,rfl,iteT ?_⟩
 exact⟨_,rfl,_,_,_,_,_,rfl,TyOf.int i,Or.inl ⟨_,rfl,rfl⟩,kit_ib K,_,rfl,k⟩
theorem bG:aD ["built","rows","k","word","place"] ["built"] (ag bB):=⟨rfl,rfl,rfl,by decide +kernel,rfl,by decide +kernel,by decide +kernel⟩
theorem CK{f:Addr}{fd:FuncData} (F:Fun K "_law_web_text" "_law_web_text" bB f fd) (T:Txt mg):FnOk P w K mg base CX0 1 f fd ["built"] kE:=by
 refine F.ok bG (fun vs H Q E h=>?_) (fun cdv A outer s H vs Q E hr h=>?_)
 ·obtain⟨b0,m,es,ks,ts,rfl,_⟩:=h
  rfl
 obtain⟨b0,m,es,ks,ts,rfl,⟨pe,pt,pk,ys,xs,ws,hb0,hpe,hE,hpt,hR,hpk,tk⟩,wr,kk⟩:=h
 refine⟨_,(ab (av (i:=1) bG.nd rfl (Or.inl rfl) (bE (aa (aG bC aS (aR aX (by rfl) T.n_str fH (aa (aB ao (by rfl) T.n_len aV (aa (aF aT (pv 0) ai (fun _ _=>rfl)) af)) af))) af)))
   (ab (cG PassesOwn.never rfl (bH rfl T.n_range (aa (aB ao (by rfl) T.n_len aV (aa (aF aT (pv 0) ai (fun _ _=>rfl)) af)) af)) (aW (i:=2) bG.nd rfl (Or.inl rfl)) (ab (av (i:=3) bG.nd rfl (Or.inl rfl) (aF ay (bE (aa aS (aa aS af))) (aF aT (aF ay (aF aT (pv 0) ai (fun _ _=>rfl)) (pv 2) (fun _ _=>rfl)) ai (fun _ _=>rfl)) (fun _ _=>rfl)))
   (ak (aY (bT Ld Lv Lu ba (pv 1) (aa (bT LV Ml My oU aS (aa (bE (aa (pv 3) (aa (aR aX (by rfl) T.n_str fH (aa (aF aT (aF ay (aF aT (pv 0) ai (fun _ _=>rfl)) (pv 2) (fun _ _=>rfl)) ai (fun _ _=>rfl)) af)) (aa (aR aX (by rfl) T.n_str fH (aa (aF aT (aF ay (aF aT (pv 0) ai (fun _ _=>rfl)) (pv 2) (fun _ _=>rfl)) ai (fun _ _=>rfl)) af)) (aa (aR aX (by rfl) T.n_str fH (aa (aF aT (aF ay (aF aT (pv 0) ai (fun _ _=>rfl)) (pv 2) (fun _ _=>rfl)) ai (fun _ _=>rfl)) af)) af))))) af)) af))))))
   (ab (cG PassesOwn.never rfl (bH rfl T.n_range (aa (aB ao (by rfl) T.n_len aV (aa (aF aT (pv 0) ai (fun _ _=>rfl)) af)) af)) (aW (i:=4) bG.nd rfl (Or.inl rfl)) (ak (aY (bT Ld Lv Lu ba (pv 1) (aa (bT LV Ml My oU aS (aa (aG Fc (bE (aa aS (aa (aR aX (by rfl) T.n_str fH (aa (pv 4) af)) af))) (gZ rfl (fr:=[]) (by exact bR.plain (by rfl) (by decide +kernel) (by rfl) (by decide +kernel) (by rfl) (by decide +kernel)) (b7 (aF ay (aF aT (pv 0) ai (fun _ _=>rfl)) (pv 4) (fun _ _=>rfl))) (fun C ex s H=>(aR aX (by rfl) T.n_str fH (aa (pv 0) af))))) af)) af)))))
   (ak (aJ (aG bC (bT LV Ml My oU aS (aa (pv 1) af)) aS)))))),?_⟩
 have few:=wr.few
 have kl:=wr.kl
 have m40:=wr.m40
 have tl:=wr.tl
 have yl:ys.length=es.length:=hE.1
 have xl:xs.length=ts.length:=hR.1
 have s64:(400000:Nat)<=sizeLine:=by decide
 have l7:(("places " : String):Str).length=7:=by decide +kernel
 have lm:=tx2 (n:=m) (by omega)
 refine⟨_,rfl,b0,_,1,_,rfl,rfl,SqT.of hb0,at31,pt,_,rfl,.inl (SqL.of hpt),_,rfl,bx (n:=xs.length) (by omega),_,_,rfl,rfl,?_,?_⟩
 ·rw[l7]
  show 7+(tx xs.length).length<=_
  rw[xl,tl]
  omega
 have ep:V.str ((("places " : String):Str)++((toString ((xs.length:Nat):Int):String):Str))=V.str (bare [plW,tx m]):=by
  rw[xl,tl,← JD]
  rfl
 rw[ep]
 refine⟨(by show 1<=sizeLine;decide),fun q hq=>?_⟩
 have s1:=aj hq (.lst [V.str (bare [plW,tx m])])
 refine⟨_,rfl,b0,_,0,_,rfl,rfl,SqT.of (s1 _ _ hb0),at30,pe,ys,rfl,.inl (SqL.of (s1 _ _ hpe)),_,rfl,by omega,by omega,cD (n:=(ys.length:Int).toNat) (fun i σ H2=>∃(v2 v3 v4:Option V),σ = [some (.ref b0),some (.ref q),v2,v3,v4]/\Same H H2/\H2 q=some (.lst (bsTo m es ks ts i 0))) ⟨_,_,_,rfl,s1,ae⟩ ?_ ?_⟩
 ·rintro i σ H2 hi ⟨v2,v3,v4,rfl,s2,hq2⟩
  rw[Ls,yl]at hi
  rw[Mq]
  obtain⟨pp,x1,x2⟩:=(hE.mono s2).2 i es[i] (KR hi)
  obtain⟨k1,k2,pk',y1,y2⟩:=(tk.mono s2).2 i ks[i] (KR (by omega))
  have e':=wr.ee es[i] (LM _)
  have k':=wr.kk ks[i] (LM _)
  have ge:es.getD i (0,0)=es[i]:=by rw[Lc,KR hi];rfl
  have gk:ks.getD i (0,0)=ks[i]:=by rw[Lc,KR (show i<ks.length by omega)];rfl
  obtain⟨n,hn⟩:∃ n:Nat,ks[i].2=(n:Int):=⟨ks[i].2.toNat,by omega⟩
  have tw:=wr.tw hi
  rw[ge,gk]at tw
  have sl:=fK tw
  rw[hn]at y2
  refine⟨(by show 2<=sizeLine;decide),fun l hl=>?_⟩
  have sl':=aj hl (.lst [V.str (("pull" : String):Str),V.str (("push" : String):Str)])
  have hk1:atI [V.str (("pull" : String):Str),V.str (("push" : String):Str)] ks[i].1=some (V.str (kS ks[i].1)):=by
   rcases k1 with z | z<;>rw[z]<;>rfl
  refine⟨_,rfl,b0,_,2,_,rfl,rfl,SqT.of (sl' _ _ (s2 _ _ hb0)),at32,_,rfl,pk,ws,_,_,rfl,rfl,SqL.of (sl' _ _ (s2 _ _ hpk)),aM y1,pk',_,0,_,rfl,rfl,SqT.of (sl' _ _ y2),at0,l,_,_,V.str (kS ks[i].1),rfl,rfl,SqL.of ae,hk1,?_⟩
  have s2':=s2.trans sl'
  have x2':=sl' _ _ x2
  have y2':=sl' _ _ y2
  have hq2':=sl' _ _ hq2
  generalize upd H2 l (.lst [V.str (("pull" : String):Str),V.str (("push" : String):Str)])=H2' at s2' x2' y2' hq2'
  refine⟨_,rfl,.inl ⟨rfl,_,SqL.of hq2'⟩,rfl,_,rfl,_,rfl,b0,_,0,_,rfl,rfl,SqT.of (s2' _ _ hb0),at30,_,rfl,pe,ys,_,_,rfl,rfl,SqL.of (s2' _ _ hpe),aM x1,pp,_,0,_,rfl,rfl,SqT.of x2',at0,_,rfl,bx (by omega),_,rfl,b0,_,0,_,rfl,rfl,SqT.of (s2' _ _ hb0),at30,_,rfl,pe,ys,_,_,rfl,rfl,SqL.of (s2' _ _ hpe),aM x1,pp,_,1,_,rfl,rfl,SqT.of x2',at1,_,rfl,bx (by omega),_,rfl,b0,_,2,_,rfl,rfl,SqT.of (s2' _ _ hb0),at32,_,rfl,pk,ws,_,_,rfl,rfl,SqL.of (s2' _ _ hpk),aM y1,pk',_,1,_,rfl,rfl,SqT.of y2',at1,_,rfl,bx (by omega),(by show 4<=sizeLine;decide),fun a ha=>?_⟩
  have en:ks[i].2.toNat=n:=by omega
  have ew : [V.str (kS ks[i].1),V.str ((toString ((es[i].1:Nat):Int):String):Str),V.str ((toString ((es[i].2:Nat):Int):String):Str),V.str ((toString ((n:Nat):Int):String):Str)]=(tieW es[i] ks[i]).map V.str:=by
   unfold tieW
   rw[en]
   rfl
  rw[ew]
  have sa:=aj ha (.lst ((tieW es[i] ks[i]).map V.str))
  refine⟨((" " : String):Str),a,tieW es[i] ks[i],rfl,rfl,SqL.of ae,?_,?_⟩
  ·have:(tieW es[i] ks[i]).length=4:=rfl
   rw[qJ]
   show _+_*1<=_
   omega
  rw[qJ]
  refine⟨q,_,_,rfl,rfl,sa _ _ hq2',aH (by rw[Cd];omega),_,_,_,rfl,aL (s2'.trans sa) hq _,?_⟩
  rw[ae,← Ir,ge,gk]
  rfl
 rintro σ H2 ⟨v2,v3,v4,rfl,s2,hq2⟩
 rw[Ls,yl]at hq2
 refine⟨_,rfl,b0,_,1,_,rfl,rfl,SqT.of (s2 _ _ hb0),at31,pt,xs,rfl,.inl (SqL.of (s2 _ _ hpt)),_,rfl,by omega,by omega,cD (n:=(xs.length:Int).toNat) (fun i σ H3=>∃(v2 v3 v4:Option V),σ = [some (.ref b0),some (.ref q),v2,v3,v4]/\Same H H3/\H3 q=some (.lst (bsTo m es ks ts es.length i))) ⟨_,_,_,rfl,s2,hq2⟩ ?_ ?_⟩
 ·rintro i σ H3 hi ⟨v2,v3,v4,rfl,s3,hq3⟩
  rw[Ls,xl]at hi
  rw[Mq]
  obtain⟨pr,x1,x2⟩:=(hR.mono s3).2 i ts[i] (KR hi)
  have gt:ts.getD i []=ts[i]:=by rw[Lc,KR hi];rfl
  obtain⟨w1,w2⟩:=wr.aw hi
  rw[gt]at w1 w2
  have sl:=fK w1
  have r63:=wr.rl ts[i] (LM _)
  have l63:=r63.1
  refine⟨_,rfl,.inl ⟨rfl,_,SqL.of hq3⟩,rfl,_,rfl,_,rfl,bx (n:=i) (by omega),(by show 2<=sizeLine;decide),fun b hb=>?_⟩
  have sb:=aj hb (.lst [V.str abW,V.str (tx i)])
  have gb:(upd H3 b (.lst [V.str abW,V.str (tx i)])) b=some (.lst [V.str abW,V.str (tx i)]):=ae
  have eb:(upd H3 b (.lst [V.str (("about" : String):Str),V.str ((toString ((i:Nat):Int):String):Str)]))=upd H3 b (.lst [V.str abW,V.str (tx i)]):=rfl
  rw[eb]
  generalize upd H3 b (.lst [V.str abW,V.str (tx i)])=H4 at sb gb
  refine⟨_,rfl,b0,_,1,_,rfl,rfl,SqT.of (sb _ _ (s3 _ _ hb0)),at31,_,rfl,pt,xs,_,_,rfl,rfl,SqL.of (sb _ _ (s3 _ _ hpt)),aM x1,pr,rfl,⟨_,SqL.of (sb _ _ x2)⟩,c8 (K:=K) (xs:=ts[i].map iV) (fun j zs H5=>zs=(ts[i].take j).map (fun t=>V.str (tx t))/\H5=H4) (by rw[K2];omega) ⟨rfl,rfl⟩ (fun j zs H5 _ z=>by rw[z.2];exact SqL.of (sb _ _ x2)) ?_ ?_⟩
  ·rintro j x zs H5 hx ⟨rfl,rfl⟩
   rw[Lb]at hx
   obtain⟨t,ht,rfl⟩:=LI.mp hx
   have:=r63.2 t (K1 ht)
   refine⟨_,rfl,_,rfl,bx (n:=t) (by omega),?_,rfl⟩
   rw[LD,ht,Lz]
   rfl
  rintro zs H5 _ ⟨rfl,rfl⟩ D hD
  rw[K2,LJ]
  have sD:=aj hD (.lst (ts[i].map fun t=>V.str (tx t)))
  refine⟨b,D,_,_,rfl,rfl,SqL.of (sD _ _ gb),SqL.of ae,by rw[K2];show 2+_<=_;omega,fun c hc=>?_⟩
  have ec : [V.str abW,V.str (tx i)]++ts[i].map (fun t=>V.str (tx t))=(abRW i ts[i]).map V.str:=by
   unfold abRW
   rw[Lr,Lr,LZ]
   rfl
  rw[ec]
  have sc:=aj hc (.lst ((abRW i ts[i]).map V.str))
  have s6:=sb.trans (sD.trans sc)
  refine⟨((" " : String):Str),c,abRW i ts[i],rfl,rfl,SqL.of ae,?_,?_⟩
  ·rw[qJ]
   show _+_*1<=_
   have:(abRW i ts[i]).length*5<=65*5:=Nat.mul_le_mul_right _ w2
   omega
  rw[qJ]
  refine⟨q,_,_,rfl,rfl,s6 _ _ hq3,aH (by rw[Cd];omega),_,_,_,rfl,aL (s3.trans s6) hq _,?_⟩
  rw[ae,← KH,gt]
  rfl
 rintro σ H3 ⟨v2,v3,v4,rfl,s3,hq3⟩
 rw[Ls,xl]at hq3
 have hb:bsTo m es ks ts es.length ts.length=((aP m es ks ts).map bare).map V.str:=by
  unfold bsTo aP
  rw[Lr,Lr,Lz,Lz,LZ,LZ,LZ,LZ]
  rfl
 rw[hb]at hq3
 have bl:∀ b∈(aP m es ks ts).map bare,b.length<=400:=fun b hb=>by
  obtain⟨ws',hw,rfl⟩:=Lq.mp hb
  have:=wr.rows.1 (rowT ws') (Lq.mpr ⟨ws',hw,rfl⟩)
  unfold rowT at this
  rw[Str.length_append]at this
  unfold bare
  omega
 have bn:((aP m es ks ts).map bare).length<=104:=by
  rw[K2,w4]
  omega
 have sl:=fK bl
 have jl:=kU 10 ((aP m es ks ts).map bare)
 refine⟨rfl,_,rfl,(("\n" : String):Str),q,(aP m es ks ts).map bare,rfl,rfl,SqL.of hq3,?_,?_⟩
 ·rw[HP]
  show _+_*1<=_
  omega
 rw[HP]
 refine⟨_,_,rfl,rfl,?_,?_⟩
 ·show(Str.join ⟨#[10]⟩ ((aP m es ks ts).map bare)).length+1<=_
  omega
 rw[web_nl]
 exact kk H3 s3
end
end KF
namespace KF
open PySem L2 PyProof.Rows K8
local macro_rules | `(tactic| walk_at "cc") => `(tactic| first | exact ⟨by decide, by decide⟩ | (show (0 : Int) < _; decide) | (show (0 : Int) < _; omega) | (show (0 : Int) ≤ _; omega) | exact ⟨by decide, by decide, by decide⟩ | exact ⟨by omega, by omega, by decide⟩ | exact Or.inl ⟨by decide, by decide⟩ | exact Or.inl ⟨by omega, by omega⟩)
local macro_rules | `(tactic| walk_at "rd") => `(tactic| repeat (first | refine ⟨_, rfl, ?_⟩ | refine ⟨_, _, rfl, rfl, ?_⟩ | refine ⟨rfl, ?_⟩ | (refine ⟨?cc, ?_⟩; (case cc => walk_at "cc"))))
def fk(k:Int×Int):Int×Int:=(1-k.1,k.2)
theorem Gb{ks:Kn}{t:Nat}(h:t<ks.length)(j:Nat):(flip1 ks t)[j]?=if j=t then ks[j]?.map fk else ks[j]?:=by
 unfold flip1
 by_cases c:j=t
 ·subst c
  rw[if_pos rfl,L9 h,KR h,Lc,KR h]
  rfl
 ·rw[if_neg c,Mc (Ne.symm c)]
theorem F9(ks:Kn)(t:Nat):(flip1 ks t).length=ks.length:=LA ..
theorem pF:∀{l:List Nat}{ks:Kn},l.Nodup->(∀ t∈l,t<ks.length)->∀ j,(flipL ks l)[j]?=if j∈l then ks[j]?.map fk else ks[j]?
 |[],ks,_,_,j=>by rw[if_neg (by simp)];rfl
 |t::l,ks,nd,hl,j=>by
  obtain⟨n1,n2⟩:=Li.mp nd
  have ht:=hl t (Lg ..)
  show(flipL (flip1 ks t) l)[j]?=_
  rw[pF n2 (fun x hx=>by rw[F9];exact hl x (K6 _ hx)) j,Gb ht]
  by_cases c:j=t
  ·subst c
   rw[if_neg n1,if_pos rfl,if_pos (Lg ..)]
  ·rw[if_neg c]
   by_cases d:j∈l
   ·rw[if_pos d,if_pos (K6 _ d)]
   ·rw[if_neg d,if_neg (fun z=>(K0.mp z).elim c d)]
def incB(es:En)(p t:Nat):Bool:=decide ((es.getD t (0,0)).1=p∨(es.getD t (0,0)).2=p)
theorem F8{m:Nat}{es:En}{ts:List (List Nat)}{ks:Kn}(c:Ch m es ts ks){p:Nat}(hp:p<ts.length):flipL ks ((LK es.length).filter (incB es p))=flipL ks (ts.getD p []):=by
 have gl:ts.getD p []=ts[p]:=by rw[Lc,KR hp];rfl
 have hm:=c.g.w.mem p ts[p] (KR hp)
 have kl:=c.wr.kl
 rw[gl]
 refine List.ext_getElem? fun j=>?_
 rw[pF (List.Nodup.sublist List.filter_sublist List.nodup_range) (fun t ht=>by have:=Mv.mp (Nk.mp ht).1;omega),pF (c.g.w.nd p ts[p] (KR hp)) (fun t ht=>by
  obtain⟨e,he,_⟩:=(hm t).mp ht
  have:=(KS.mp he).1
  omega)]
 have iff:j∈(LK es.length).filter (incB es p)↔j∈ts[p]:=by
  rw[hm j,Nk,Mv]
  constructor
  ·rintro⟨h1,h2⟩
   refine⟨es[j],KR h1,?_⟩
   have:=of_decide_eq_true h2
   rwa[Lc,KR h1]at this
  ·rintro⟨e,he,h⟩
   refine⟨(KS.mp he).1,decide_eq_true ?_⟩
   rw[Lc,he]
   exact h
 by_cases d:j∈ts[p]
 ·rw[if_pos d,if_pos (iff.mpr d)]
 ·rw[if_neg d,if_neg (fun z=>d (iff.mp z))]
theorem bo.set{H:Hp}{ws:List V}{ks:Kn}{k:Int×Int}{n:Nat}{p:Addr}(t:bo H ws ks)(h:H p=some (.tup [.int k.1,.int k.2]))(h1:k.1=0∨k.1=1)(h2:0<=k.2):bo H (ws.set n (.ref p)) (ks.set n k):=by
 refine⟨by rw[LA,LA,t.1],fun i x e=>?_⟩
 by_cases c:n=i
 ·subst c
  have hn:=(KS.mp e).1
  rw[LA]at hn
  rw[L9 hn]at e
  cases e
  exact⟨h1,h2,p,by rw[L9 (by rw[t.1];exact hn)],h⟩
 ·rw[Mc c]at e
  obtain⟨a,b,q,c1,c2⟩:=t.2 i x e
  exact⟨a,b,q,by rw[Mc c];exact c1,c2⟩
theorem bare3(a b c:Str):a++spS++b++spS++c=bare [a,b,c]:=oj (by
 show _=(a++spS++(b++spS++c)).cps.toList
 simp only[om,M9])
theorem Kl(x a b:Nat):inV (iV x) [iV a,iV b]=decide (a=x∨b=x):=by
 unfold inV
 rw[Mm,Mm,List.any_nil,NU]
 show(((a:Int) == (x:Int))||((b:Int) == (x:Int)))=_
 rw[Mp,Bool.or_eq_true,beq_iff_eq,beq_iff_eq,decide_eq_true_iff]
 omega
def Ex(K:KW):Sp:=fun vs H Q _=>∃(b kp c:Addr)(zs:List V)(c0 c1 c2:Int)(m:Nat)(es:En)(ts:List (List Nat))(ks:Kn),vs = [.ref b,.ref kp,.ref c]/\Bq H b es ts ks/\H kp=some (.lst zs)/\SqL K H c [.int c0,.int c1,.int c2]/\Ch m es ts ks /\
 (∀ zs' x,zs=zs'++[x]->∀ t H',Same H H'->H' t=some (.tup [.str uW,x])->Q (.ref t) H') /\
 (∀ dd pk' ws' t H',ddOk m es dd->Same H H'->H pk'=none->H' pk'=some (.lst ws')->bo H' ws' (ddK ts ks dd)->H' t=some (.tup [.str (ddT dd),.ref pk'])->Q (.ref t) H')
section
variable{P:Program}{w:World}{K:KW}{mg:Str->Option Value}{base:Heap}
theorem b6:aD ["built","kept","cells","told","number","strength","way","place","k"] ["built","kept","cells"] (ag dH):=⟨rfl,rfl,rfl,by decide +kernel,rfl,by decide +kernel,by decide +kernel⟩
theorem JQ{f:Addr}{fd:FuncData} (F:Fun K "_law_deed" "_law_deed" dH f fd) (T:Txt mg):FnOk P w K mg base CX0 1 f fd ["built","kept","cells"] (Ex K):=by
 refine F.ok b6 (fun vs H Q E h=>?_) (fun cdv A outer s H vs Q E hr h=>?_)
 ·obtain⟨b,kp,c,zs,c0,c1,c2,m,es,ts,ks,rfl,_⟩:=h
  rfl
 obtain⟨b,kp,c,zs,c0,c1,c2,m,es,ts,ks,rfl,⟨pe,pt,pk,ys,xs,ws,hb,hpe,hE,hpt,hR,hpk,tk⟩,hkp,hc,ch,kb,kk⟩:=h
 have few:=ch.few
 have pos:=ch.pos
 have kl:=ch.wr.kl
 have tl:=ch.wr.tl
 have m2:=ch.wr.m2
 have m40:=ch.wr.m40
 have wl:=tk.1
 have yl:ys.length=es.length:=hE.1
 have xl:xs.length=ts.length:=hR.1
 refine⟨_,(ab (av (i:=3) b6.nd rfl (Or.inl rfl) (aR bK (by rfl) T.n_list ki (aa (aF aT (pv 0) ai (fun _ _=>rfl)) af)))
   (ab (av (i:=4) b6.nd rfl (Or.inl rfl) (aG bQ (aF ay (pv 2) ai (fun _ _=>rfl)) (aB ao (by rfl) T.n_len aV (aa (pv 3) af))))
   (ab (av (i:=5) b6.nd rfl (Or.inl rfl) (aG bQ (aF ay (pv 2) ai (fun _ _=>rfl)) (aG bI (aG BN ai ai) ai)))
   (ab (av (i:=6) b6.nd rfl (Or.inl rfl) (aG bQ (aF ay (pv 2) ai (fun _ _=>rfl)) ai))
   (ab (bw (PW.pt (EL (ax jD (pv 6) ai (aI _)) (zd (ax we (aB ao (by rfl) T.n_len aV (aa (pv 1) af)) ai (aI _))))) (ak (aJ (bS (aa aS (aa (aF ay (pv 1) (JE Ei ai) (fun _ _=>rfl)) af))))) aQ)
   (ab (bw (ax wa (pv 6) ai (aI _)) (ab (oG (bS (aa ai (aa (pv 5) af))) (oN (pv 3) (pv 4) fM))
   (ak (aJ (bS (aa (aG bC (aG bC (aG bC aS (aR aX (by rfl) T.n_str fH (aa (pv 4) af))) aS) (aR aX (by rfl) T.n_str fH (aa (pv 5) af))) (aa (pv 3) af)))))) aQ)
   (ab (bw (ax wa (pv 6) ai (aI _)) (ab (oG (bS (aa ai (aa (pv 5) af))) (oN (pv 3) (pv 4) fM))
   (ak (aJ (bS (aa (aG bC (aG bC (aG bC aS (aR aX (by rfl) T.n_str fH (aa (pv 4) af))) aS) (aR aX (by rfl) T.n_str fH (aa (pv 5) af))) (aa (pv 3) af)))))) aQ)
   (ab (av (i:=7) b6.nd rfl (Or.inl rfl) (aG bQ (aF ay (pv 2) ai (fun _ _=>rfl)) (aB ao (by rfl) T.n_len aV (aa (aF aT (pv 0) ai (fun _ _=>rfl)) af))))
   (ab (cG PassesOwn.never rfl (bH rfl T.n_range (aa (aB ao (by rfl) T.n_len aV (aa (pv 3) af)) af)) (aW (i:=8) b6.nd rfl (Or.inl rfl)) (ak (bw (ax kK (pv 7) (aF ay (aF aT (pv 0) ai (fun _ _=>rfl)) (pv 8) (fun _ _=>rfl)) (by with_unfolding_all rfl)) (ak (oG (bS (aa (aG mR ai (aF aT (aF ay (pv 3) (pv 8) (fun _ _=>rfl)) ai (fun _ _=>rfl))) (aa (aF aT (aF ay (pv 3) (pv 8) (fun _ _=>rfl)) ai (fun _ _=>rfl)) af))) (oN (pv 3) (pv 8) fM))) aQ)))
   (ak (aJ (bS (aa (aG bC aS (aR aX (by rfl) T.n_str fH (aa (pv 7) af))) (aa (pv 3) af)))))))))))))),?_⟩
 refine⟨_,rfl,b,_,2,_,rfl,rfl,SqT.of hb,at32,pk,ws,rfl,.inl (SqL.of hpk),fun l hl=>?_⟩
 have sl:=aj hl (.lst ws)
 have gl:(upd H l (.lst ws)) l=some (.lst ws):=ae
 have hc1:=sl.seq hc
 have tk1:=tk.mono sl
 generalize upd H l (.lst ws)=H1 at sl gl hc1 tk1
 refine⟨_,rfl,c,_,1,_,rfl,rfl,hc1,(rfl:atI [V.int c0,V.int c1,V.int c2] 1=some (V.int c1)),_,rfl,l,ws,rfl,.inl (SqL.of gl),_,_,rfl,rfl,by show(0:Int)<(ws.length:Int);omega +splitDisjunctions,?_⟩
 refine⟨_,rfl,c,_,2,_,rfl,rfl,hc1,(rfl:atI [V.int c0,V.int c1,V.int c2] 2=some (V.int c2)),_,_,rfl,rfl,⟨by decide,by decide,by decide⟩,_,_,rfl,rfl,_,_,rfl,rfl,(by show(0:Int)<10^(30:Int).toNat+1;decide),?_⟩
 refine⟨_,rfl,c,_,0,_,rfl,rfl,hc1,(rfl:atI [V.int c0,V.int c1,V.int c2] 0=some (V.int c0)),_,_,rfl,rfl,(by show(0:Int)<7;decide),?_⟩
 have n0:=Mb c1 (show(ws.length:Int)≠0 by omega +splitDisjunctions)
 have n1:=LU c1 (show(0:Int)<(ws.length:Int) by omega +splitDisjunctions)
 obtain⟨n,en⟩:∃ n:Nat,c1%(ws.length:Int)=(n:Int):=⟨(c1%(ws.length:Int)).toNat,by omega +splitDisjunctions⟩
 have e30:(10:Int)^(30:Int).toNat=10^30:=by decide
 have t0:=Mb c2 (show(10:Int)^(30:Int).toNat+1≠0 by decide)
 have t1:=LU c2 (show(0:Int)<(10:Int)^(30:Int).toNat+1 by decide)
 obtain⟨s',es'⟩:∃ n:Nat,c2%((10:Int)^(30:Int).toNat+1)=(n:Int):=⟨(c2%((10:Int)^(30:Int).toNat+1)).toNat,by omega +splitDisjunctions⟩
 simp only[en,es']
 rw[en]at n0 n1
 rw[es',e30]at t1
 generalize c0%7=way
 have ln:=tx2 (n:=n) (by omega +splitDisjunctions)
 have lst':=tx31 (n:=s') (by omega +splitDisjunctions)
 have s64:(400000:Nat)<=sizeLine:=by decide
 refine(fun hrest=>⟨_,rfl,rfl,_,rfl,ite2 (fun c1=>⟨_,rfl,kp,zs,rfl,.inl (SqL.of (sl _ _ hkp)),_,_,rfl,rfl,_,rfl,ite2 (fun c2=>?back) (fun _=>hrest)⟩) (fun _=>iteF hrest)⟩) ?rest
 case back =>
  have z0:0<zs.length:=by
   have c2':(0:Int)<(zs.length:Int):=of_decide_eq_true c2
   omega +splitDisjunctions
  rcases Nl zs with e | ⟨zs',x,e⟩
  ·rw[e]at z0
   cases z0
  rw[Nm]at e
  refine⟨_,rfl,_,rfl,kp,zs,-1,x,rfl,rfl,SqL.of (sl _ _ hkp),by rw[e];exact u4 _ _,(by show 2<=sizeLine;decide),fun t ht=>?_⟩
  exact kb zs' x e t _ (sl.trans (aj ht _)) ae
 case rest =>
  refine⟨_,rfl,_,_,rfl,rfl,_,rfl,ite2 (fun cq=>?_) (fun cq=>?_)⟩
  ·skip
   refine⟨_,rfl,(by show 2<=sizeLine;decide),fun t ht=>?_⟩
   have st:=aj ht (.tup [V.int 0,V.int (s':Int)])
   refine⟨_,rfl,_,rfl,l,ws,_,n,rfl,rfl,st _ _ gl,jX (by omega +splitDisjunctions),?_⟩
   have tlne:t≠l:=fun z=>by rw[z,gl]at ht;cases ht
   have tkS:bo (upd (upd H1 t (.tup [V.int 0,V.int (s':Int)])) l (.lst (ws.set n (.ref t)))) (ws.set n (.ref t)) (ks.set n (0,(s':Int))):=bo.set ((tk1.mono st).put (st _ _ gl)) (by rw[aq tlne];exact ae) (by simp) (by show(0:Int)<=(s':Int);omega +splitDisjunctions)
   have sS:=aL (sl.trans st) hl (.lst (ws.set n (.ref t)))
   have gS:(upd (upd H1 t (.tup [V.int 0,V.int (s':Int)])) l (.lst (ws.set n (.ref t)))) l=some (.lst (ws.set n (.ref t))):=ae
   generalize upd (upd H1 t (.tup [V.int 0,V.int (s':Int)])) l (.lst (ws.set n (.ref t)))=H2 at tkS sS gS
   refine⟨_,rfl,_,rfl,bx (n:=n) (by omega +splitDisjunctions),_,_,rfl,rfl,?_,_,_,rfl,rfl,?_,_,rfl,_,rfl,bx (n:=s') (by omega +splitDisjunctions),_,_,rfl,rfl,?_,_,rfl,(by show 2<=sizeLine;decide),fun t2 ht2=>?_⟩
   ·show _+(tx n).length<=_
    rw[show(("pull " : String):Str).length=5 by decide +kernel]
    omega +splitDisjunctions
   ·rw[Str.length_append,show(("pull " : String):Str).length=5 by decide +kernel,show((" " : String):Str).length=1 by decide +kernel]
    show 5+(tx n).length+1<=_
    omega +splitDisjunctions
   ·rw[Str.length_append,Str.length_append,show(("pull " : String):Str).length=5 by decide +kernel,show((" " : String):Str).length=1 by decide +kernel]
    show 5+(tx n).length+1+(tx s').length<=_
    omega +splitDisjunctions
   have eT:(("pull " : String):Str)++((toString ((n:Nat):Int):String):Str)++((" " : String):Str)++((toString ((s':Nat):Int):String):Str)=ddT (.tie 0 n s'):=by
    rw[show(("pull " : String):Str)=kS 0++spS by decide +kernel,qJ]
    exact bare3 _ _ _
   have st2:=aj ht2 (.tup [V.str (ddT (.tie 0 n s')),.ref l])
   rw[eT]
   exact kk (.tie 0 n s') l _ t2 _ ⟨by decide,by omega +splitDisjunctions,by omega +splitDisjunctions⟩ (sS.trans st2) hl (st2 _ _ gS) (tkS.mono st2) ae
  refine⟨_,rfl,_,_,rfl,rfl,_,rfl,ite2 (fun cq=>?_) (fun cq=>?_)⟩
  ·skip
   refine⟨_,rfl,(by show 2<=sizeLine;decide),fun t ht=>?_⟩
   have st:=aj ht (.tup [V.int 1,V.int (s':Int)])
   refine⟨_,rfl,_,rfl,l,ws,_,n,rfl,rfl,st _ _ gl,jX (by omega +splitDisjunctions),?_⟩
   have tlne:t≠l:=fun z=>by rw[z,gl]at ht;cases ht
   have tkS:bo (upd (upd H1 t (.tup [V.int 1,V.int (s':Int)])) l (.lst (ws.set n (.ref t)))) (ws.set n (.ref t)) (ks.set n (1,(s':Int))):=bo.set ((tk1.mono st).put (st _ _ gl)) (by rw[aq tlne];exact ae) (by simp) (by show(0:Int)<=(s':Int);omega +splitDisjunctions)
   have sS:=aL (sl.trans st) hl (.lst (ws.set n (.ref t)))
   have gS:(upd (upd H1 t (.tup [V.int 1,V.int (s':Int)])) l (.lst (ws.set n (.ref t)))) l=some (.lst (ws.set n (.ref t))):=ae
   generalize upd (upd H1 t (.tup [V.int 1,V.int (s':Int)])) l (.lst (ws.set n (.ref t)))=H2 at tkS sS gS
   refine⟨_,rfl,_,rfl,bx (n:=n) (by omega +splitDisjunctions),_,_,rfl,rfl,?_,_,_,rfl,rfl,?_,_,rfl,_,rfl,bx (n:=s') (by omega +splitDisjunctions),_,_,rfl,rfl,?_,_,rfl,(by show 2<=sizeLine;decide),fun t2 ht2=>?_⟩
   ·show _+(tx n).length<=_
    rw[show(("push " : String):Str).length=5 by decide +kernel]
    omega +splitDisjunctions
   ·rw[Str.length_append,show(("push " : String):Str).length=5 by decide +kernel,show((" " : String):Str).length=1 by decide +kernel]
    show 5+(tx n).length+1<=_
    omega +splitDisjunctions
   ·rw[Str.length_append,Str.length_append,show(("push " : String):Str).length=5 by decide +kernel,show((" " : String):Str).length=1 by decide +kernel]
    show 5+(tx n).length+1+(tx s').length<=_
    omega +splitDisjunctions
   have eT:(("push " : String):Str)++((toString ((n:Nat):Int):String):Str)++((" " : String):Str)++((toString ((s':Nat):Int):String):Str)=ddT (.tie 1 n s'):=by
    rw[show(("push " : String):Str)=kS 1++spS by decide +kernel,qJ]
    exact bare3 _ _ _
   have st2:=aj ht2 (.tup [V.str (ddT (.tie 1 n s')),.ref l])
   rw[eT]
   exact kk (.tie 1 n s') l _ t2 _ ⟨by decide,by omega +splitDisjunctions,by omega +splitDisjunctions⟩ (sS.trans st2) hl (st2 _ _ gS) (tkS.mono st2) ae
  refine⟨_,rfl,c,_,1,_,rfl,rfl,hc1,(rfl:atI [V.int c0,V.int c1,V.int c2] 1=some (V.int c1)),_,rfl,b,_,1,_,rfl,rfl,SqT.of (sl _ _ hb),at31,pt,xs,rfl,.inl (SqL.of (sl _ _ hpt)),_,_,rfl,rfl,by show(0:Int)<(xs.length:Int);omega +splitDisjunctions,?_⟩
  have p0:=Mb c1 (show(xs.length:Int)≠0 by omega +splitDisjunctions)
  have p1:=LU c1 (show(0:Int)<(xs.length:Int) by omega +splitDisjunctions)
  obtain⟨pl,ep⟩:∃ n:Nat,c1%(xs.length:Int)=(n:Int):=⟨(c1%(xs.length:Int)).toNat,by omega +splitDisjunctions⟩
  simp only[ep]
  rw[ep]at p0 p1
  have hpl:pl<ts.length:=by omega +splitDisjunctions
  have lp:=tx2 (n:=pl) (by omega +splitDisjunctions)
  refine⟨_,rfl,l,ws,rfl,.inl (SqL.of gl),_,rfl,by omega +splitDisjunctions,by omega +splitDisjunctions,cD (n:=(ws.length:Int).toNat) (fun i σ H2=>∃(v8:Option V)(us:List V),σ = [some (.ref b),some (.ref kp),some (.ref c),some (.ref l),some (.int (n:Int)),some (.int (s':Int)),some (.int way),some (.int (pl:Int)),v8]/\Same H H2/\H2 l=some (.lst us)/\bo H2 us (flipL ks ((LK i).filter (incB es pl)))/\Ch m es ts (flipL ks ((LK i).filter (incB es pl)))) ⟨_,ws,rfl,sl,gl,tk1,ch⟩ ?_ ?_⟩
  ·rintro i σ H2 hi ⟨v8,us,rfl,s2,g2,tk2,ch2⟩
   rw[Ls]at hi
   rw[Mq]
   have hi2:i<es.length:=by omega +splitDisjunctions
   obtain⟨pp,x1,x2⟩:=(hE.mono s2).2 i es[i] (KR hi2)
   have kl2:=ch2.wr.kl
   generalize hK:flipL ks ((LK i).filter (incB es pl))=k2 at tk2 ch2 kl2
   have ul:=tk2.1
   obtain⟨k1,k0,pk',y1,y2⟩:=tk2.2 i k2[i] (KR (by omega +splitDisjunctions))
   have gk:k2.getD i (0,0)=k2[i]:=by rw[Lc,KR (show i<k2.length by omega +splitDisjunctions)];rfl
   have ge:es.getD i (0,0)=es[i]:=by rw[Lc,KR hi2];rfl
   have ei:incB es pl i=decide (es[i].1=pl∨es[i].2=pl):=by unfold incB;rw[ge]
   refine⟨_,rfl,_,rfl,b,_,0,_,rfl,rfl,SqT.of (s2 _ _ hb),at30,_,rfl,pe,ys,_,_,rfl,rfl,SqL.of (s2 _ _ hpe),aM x1,pp,_,rfl,.inr (SqT.of x2),rfl,rfl,_,rfl,?_⟩
   show(if(inV (iV pl) [iV es[i].1,iV es[i].2])=true then _ else _)
   rw[Kl,← ei]
   cases hI:incB es pl i with
   |false =>
    refine iteF ⟨_,us,rfl,s2,g2,?_⟩
    rw[MK,List.filter_append,List.filter_cons,hI,if_neg (by decide),List.filter_nil,Nn,hK]
    exact⟨tk2,ch2⟩
   |true =>
    refine iteT ⟨_,rfl,_,rfl,l,us,_,_,rfl,rfl,SqL.of g2,aM y1,pk',_,0,_,rfl,rfl,SqT.of y2,at0,_,_,rfl,rfl,_,rfl,_,rfl,l,us,_,_,rfl,rfl,SqL.of g2,aM y1,pk',_,1,_,rfl,rfl,SqT.of y2,at1,(by show 2<=sizeLine;decide),fun t ht=>?_⟩
    have st:=aj ht (.tup [V.int (1-k2[i].1),V.int k2[i].2])
    have tlne:t≠l:=fun z=>by rw[z,g2]at ht;cases ht
    refine⟨_,rfl,_,rfl,l,us,_,i,rfl,rfl,st _ _ g2,jX (by omega +splitDisjunctions),_,_,rfl,aL (s2.trans st) hl _,ae,?_⟩
    rw[MK,List.filter_append,List.filter_cons,hI,if_pos rfl,List.filter_nil,mh,hK]
    refine⟨?_,ch2.flip1 hi2⟩
    unfold flip1
    rw[gk]
    exact bo.set ((tk2.mono st).put (st _ _ g2)) (by rw[aq tlne];exact ae) (by show 1-k2[i].1=0∨1-k2[i].1=1;omega +splitDisjunctions) k0
  ·rintro σ H2 ⟨v8,us,rfl,s2,g2,tk2,ch2⟩
   rw[Ls,wl,kl,F8 ch hpl]at tk2
   refine⟨_,rfl,_,rfl,bx (n:=pl) (by omega +splitDisjunctions),_,_,rfl,rfl,?_,_,rfl,(by show 2<=sizeLine;decide),fun t2 ht2=>?_⟩
   ·show _+(tx pl).length<=_
    rw[show(("flip " : String):Str).length=5 by decide +kernel]
    omega +splitDisjunctions
   have eT:(("flip " : String):Str)++((toString ((pl:Nat):Int):String):Str)=ddT (.flip pl):=by
    rw[show(("flip " : String):Str)=flW++spS by decide +kernel]
    rfl
   have st2:=aj ht2 (.tup [V.str (ddT (.flip pl)),.ref l])
   rw[eT]
   exact kk (.flip pl) l us t2 _ (by show pl<m;omega +splitDisjunctions) (s2.trans st2) hl (st2 _ _ g2) (tk2.mono st2) ae
end
end KF
namespace KF
open PySem L2 PyProof.Rows K8
local macro_rules | `(tactic| walk_at "cc") => `(tactic| first | exact ⟨by decide, by decide⟩ | (show (0 : Int) < _; decide) | (show (0 : Int) < _; omega) | (show (0 : Int) ≤ _; omega) | exact ⟨by decide, by decide, by decide⟩ | exact ⟨by omega, by omega, by decide⟩ | exact Or.inl ⟨by decide, by decide⟩ | exact Or.inl ⟨by omega, by omega⟩)
local macro_rules | `(tactic| walk_at "rd") => `(tactic| repeat (first | refine ⟨_, rfl, ?_⟩ | refine ⟨_, _, rfl, rfl, ?_⟩ | refine ⟨rfl, ?_⟩ | (refine ⟨?cc, ?_⟩; (case cc => walk_at "cc"))))
theorem kit_ss(K:KW):MZ K (.type "str") (.type "str")=some true:=by with_unfolding_all rfl
def sG(PL PS WC DC:Addr):Sp:=fun vs H Q _=>∃(d b L p:Addr)(ps:List V)(S:Addr->Prop)(m:Nat)(es:En)(ts:List (List Nat))(ks:Kn),vs = [.ref d,.ref b,.int (ps.length:Int)]/\yG DC H d L (ps++[.ref p])/\WebW S PL PS WC H p m es ts ks/\Wr m es ks ts/\Bq H b es ts ks/\∀ H',Same H H'->Q (.bl true) H'
theorem Bq.mono{H H':Hp}{b:Addr}{es:En}{ts:List (List Nat)}{ks:Kn}(h:Bq H b es ts ks)(s:Same H H'):Bq H' b es ts ks:=by
 obtain⟨pe,pt,pk,ys,xs,ws,a1,a2,a3,a4,a5,a6,a7⟩:=h
 exact⟨pe,pt,pk,ys,xs,ws,s _ _ a1,s _ _ a2,a3.mono s,s _ _ a4,a5.mono s,s _ _ a6,a7.mono s⟩
structure Dsk(H1:Hp)(kp L L2 d o PL PS WC DC:Addr)(m:Nat)(es:En)(ts:List (List Nat))(ks0:Kn)(H:Hp)(front:List Kn)(cur:Kn)(ps zs:List V)(pkc:Addr):Prop where
 sm:Same H1 H
 hd:∃ dx,H d=some (.ins DC dx [(("webs" : Str),.ref L)])
 hL:H L=some (.lst ps)
 hk:H kp=some (.lst zs)
 ne:L≠kp
 ot:∃ p0,yG DC H o L2 [.ref p0]/\WebW (fun a=>a=L∨a=kp) PL PS WC H p0 m es ts ks0
 n2:L2≠L/\L2≠kp
 pl:ps.length=front.length+1
 zl:zs.length=front.length
 wb:∀(i:Nat)(ks:Kn),(front++[cur])[i]?=some ks->∃ p,ps[i]?=some (V.ref p)/\WebW (fun a=>a=L∨a=kp) PL PS WC H p m es ts ks
 tl:∀(i:Nat)(ks:Kn),front[i]?=some ks->∃ q ws,zs[i]?=some (V.ref q)/\q≠L/\q≠kp/\H q=some (.lst ws)/\bo H ws ks
 pk:pkc≠L/\pkc≠kp/\∃ ws,H pkc=some (.lst ws)/\bo H ws cur
 ch:∀ ks∈front++[cur],Ch m es ts ks
section
variable{H1:Hp}{kp L L2 d o PL PS WC DC:Addr}{m:Nat}{es:En}{ts:List (List Nat)}{ks0:Kn}{H H':Hp}{front:List Kn}{cur:Kn}{ps zs:List V}{pkc:Addr}
def Kx(L kp:Addr)(H H':Hp):Prop:=∀ b o,H b=some o->b≠L->b≠kp->H' b=some o
theorem Kx.of(s:Same H H'):Kx L kp H H':=fun b o e _ _=>s _ _ e
theorem HX(k:Kx L kp H H')(hL:H L=some (.lst ps))(hk:H kp=some (.lst zs)){p:Addr}{ks:Kn}(w:WebW (fun a=>a=L∨a=kp) PL PS WC H p m es ts ks):WebW (fun a=>a=L∨a=kp) PL PS WC H' p m es ts ks:=by
 refine w.mono2 (fun b o e n=>?_) (fun a _ z _=>z)
 rcases n with⟨_,n⟩ | ⟨C,dx,fs,rfl,_⟩
 ·exact k b o e (fun z=>n (.inl z)) (fun z=>n (.inr z))
 ·exact k b _ e (fun z=>by rw[z,hL]at e;cases e) (fun z=>by rw[z,hk]at e;cases e)
theorem FJ(k:Kx L kp H H')(hL:H L=some (.lst ps))(hk:H kp=some (.lst zs)){ws:List V}{ks:Kn}(t:bo H ws ks):bo H' ws ks:=⟨t.1,fun i x e=>by
 obtain⟨a,b,p,c1,c2⟩:=t.2 i x e
 exact⟨a,b,p,c1,k _ _ c2 (fun z=>by rw[z,hL]at c2;cases c2) (fun z=>by rw[z,hk]at c2;cases c2)⟩⟩
theorem Kc(k:Kx L kp H H')(hL:H L=some (.lst ps))(hk:H kp=some (.lst zs))(n2:L2≠L/\L2≠kp)(h:∃ p0,yG DC H o L2 [.ref p0]/\WebW (fun a=>a=L∨a=kp) PL PS WC H p0 m es ts ks0):∃ p0,yG DC H' o L2 [.ref p0]/\WebW (fun a=>a=L∨a=kp) PL PS WC H' p0 m es ts ks0:=by
 obtain⟨p0,⟨dx,a1,a2⟩,w⟩:=h
 exact⟨p0,⟨dx,k _ _ a1 (fun z=>by rw[z,hL]at a1;cases a1) (fun z=>by rw[z,hk]at a1;cases a1),k _ _ a2 n2.1 n2.2⟩,HX k hL hk w⟩
theorem Kd(k:Kx L kp H H')(hL:H L=some (.lst ps))(hk:H kp=some (.lst zs)) (h:∃ dx,H d=some (.ins DC dx [(("webs" : Str),.ref L)])):∃ dx,H' d=some (.ins DC dx [(("webs" : Str),.ref L)]):=by
 obtain⟨dx,a⟩:=h
 exact⟨dx,k _ _ a (fun z=>by rw[z,hL]at a;cases a) (fun z=>by rw[z,hk]at a;cases a)⟩
theorem Dsk.same(h:Dsk H1 kp L L2 d o PL PS WC DC m es ts ks0 H front cur ps zs pkc)(s:Same H H'):Dsk H1 kp L L2 d o PL PS WC DC m es ts ks0 H' front cur ps zs pkc:=by
 have k:Kx L kp H H':=Kx.of s
 refine⟨h.sm.trans s,Kd k h.hL h.hk h.hd,s _ _ h.hL,s _ _ h.hk,h.ne,Kc k h.hL h.hk h.n2 h.ot,h.n2,h.pl,h.zl,fun i ks e=>?_,fun i ks e=>?_,?_,h.ch⟩
 ·obtain⟨p,a,b⟩:=h.wb i ks e
  exact⟨p,a,HX k h.hL h.hk b⟩
 ·obtain⟨q,ws,a,b,c,e1,e2⟩:=h.tl i ks e
  exact⟨q,ws,a,b,c,s _ _ e1,e2.mono s⟩
 ·obtain⟨a,b,ws,c1,c2⟩:=h.pk
  exact⟨a,b,ws,s _ _ c1,c2.mono s⟩
theorem Dsk.push(h:Dsk H1 kp L L2 d o PL PS WC DC m es ts ks0 H front cur ps zs pkc)(k:Kx L kp H H')(sm:Same H1 H'){p' pk':Addr}{new:Kn}{ws':List V}(hL:H' L=some (.lst (ps++[.ref p'])))(hk:H' kp=some (.lst (zs++[.ref pkc])))(w:WebW (fun a=>a=L∨a=kp) PL PS WC H' p' m es ts new)(n1:pk'≠L)(n2:pk'≠kp)(hp:H' pk'=some (.lst ws'))(tp:bo H' ws' new)(c:Ch m es ts new):Dsk H1 kp L L2 d o PL PS WC DC m es ts ks0 H' (front++[cur]) new (ps++[.ref p']) (zs++[.ref pkc]) pk':=by
 have pl:=h.pl
 have zl:=h.zl
 refine⟨sm,Kd k h.hL h.hk h.hd,hL,hk,h.ne,Kc k h.hL h.hk h.n2 h.ot,h.n2,?_,?_,fun i ks e=>?_,fun i ks e=>?_,⟨n1,n2,ws',hp,tp⟩,fun ks hks=>?_⟩
 ·rw[KU,KU,pl];rfl
 ·rw[KU,KU,zl];rfl
 ·by_cases hi:i<(front++[cur]).length
  ·rw[KZ hi]at e
   obtain⟨p,a,b⟩:=h.wb i ks e
   exact⟨p,by rw[KZ (KS.mp a).1];exact a,HX k h.hL h.hk b⟩
  ·have hl:=(KS.mp e).1
   rw[KU,KU,K4,K4]at hl
   rw[KU,K4]at hi
   have ei:i=front.length+1:=by omega
   rw[KY (by rw[KU,K4];omega),KU,K4,ei,Ln]at e
   cases e
   exact⟨p',by rw[ei,← pl,KY (K3 _),Ln];rfl,w⟩
 ·by_cases hi:i<front.length
  ·rw[KZ hi]at e
   obtain⟨q,ws,a,b,c',e1,e2⟩:=h.tl i ks e
   exact⟨q,ws,by rw[KZ (by omega)];exact a,b,c',k _ _ e1 b c',FJ k h.hL h.hk e2⟩
  ·have hl:=(KS.mp e).1
   rw[KU,K4]at hl
   have ei:i=front.length:=by omega
   rw[KY (by omega),ei,Ln]at e
   cases e
   obtain⟨a,b,ws,c1,c2⟩:=h.pk
   exact⟨pkc,ws,by rw[ei,← zl,KY (K3 _),Ln];rfl,a,b,k _ _ c1 a b,FJ k h.hL h.hk c2⟩
 ·rcases La.mp hks with hks | hks
  ·exact h.ch ks hks
  ·rw[LR.mp hks];exact c
theorem Dsk.pop{f':List Kn}{k':Kn}{ps' zs':List V}{x y:V}(h:Dsk H1 kp L L2 d o PL PS WC DC m es ts ks0 H (f'++[k']) cur (ps'++[x]) (zs'++[y]) pkc)(k:Kx L kp H H')(sm:Same H1 H')(hL:H' L=some (.lst ps'))(hk:H' kp=some (.lst zs')):∃ q,y=.ref q/\Dsk H1 kp L L2 d o PL PS WC DC m es ts ks0 H' f' k' ps' zs' q:=by
 have pl:=h.pl
 have zl:=h.zl
 rw[KU,KU,K4,K4]at pl zl
 obtain⟨q,ws,a,b,c,e1,e2⟩:=h.tl f'.length k' (by rw[KY (K3 _),Ln];rfl)
 have zq:f'.length=zs'.length:=by omega
 rw[zq,KY (K3 _),Ln]at a
 cases a
 refine⟨q,rfl,sm,Kd k h.hL h.hk h.hd,hL,hk,h.ne,Kc k h.hL h.hk h.n2 h.ot,h.n2,by omega,by omega,fun i ks e=>?_,fun i ks e=>?_,⟨b,c,ws,k _ _ e1 b c,FJ k h.hL h.hk e2⟩,fun ks hks=>h.ch ks (LC _ hks)⟩
 ·have hl:=(KS.mp e).1
  obtain⟨p,a1,b1⟩:=h.wb i ks (by rw[KZ hl];exact e)
  rw[KU,K4]at hl
  rw[KZ (by omega)]at a1
  exact⟨p,a1,HX k h.hL h.hk b1⟩
 ·have hl:=(KS.mp e).1
  obtain⟨q',ws',a1,a2,a3,a4,a5⟩:=h.tl i ks (by rw[KZ hl];exact e)
  rw[KZ (by omega)]at a1
  exact⟨q',ws',a1,a2,a3,k _ _ a4 a2 a3,FJ k h.hL h.hk a5⟩
theorem Dsk.top(h:Dsk H1 kp L L2 d o PL PS WC DC m es ts ks0 H front cur ps zs pkc):∃ ps0 p,ps=ps0++[V.ref p]/\ps0.length=front.length/\WebW (fun a=>a=L∨a=kp) PL PS WC H p m es ts cur:=by
 have pl:=h.pl
 obtain⟨p,a,b⟩:=h.wb front.length cur (by rw[KY (K3 _),Ln];rfl)
 rcases Nl ps with e | ⟨l,y,e⟩
 ·rw[e]at pl
  cases pl
 ·rw[Nm]at e
  subst e
  rw[KU,K4]at pl
  have ll:l.length=front.length:=by omega
  rw[← ll,KY (K3 _),Ln]at a
  cases a
  exact⟨l,p,rfl,ll,b⟩
theorem Ch.flipL(c:Ch m es ts cur):∀{l:List Nat},(∀ t∈l,t<es.length)->Ch m es ts (flipL cur l):=by
 intro l
 induction l generalizing cur with
 |nil=>exact fun _=>c
 |cons t l ih=>exact fun h=>ih (c.flip1 (h t (Lg ..))) fun x hx=>h x (K6 _ hx)
theorem Ch.dd(c:Ch m es ts cur){dd:Dd}(ok:ddOk m es dd):Ch m es ts (ddK ts cur dd):=by
 cases dd with
 |tie kd n s =>
  obtain⟨a,b,e⟩:=(show(kd=0∨kd=1)/\n<es.length/\s<=10^30 from ok)
  exact c.set a (by show(0:Int)<=(s:Int);omega) (by show((s:Nat):Int)<=10^30;omega)
 |flip q =>
  have hq:q<ts.length:=by rw[c.wr.tl];exact ok
  have gl:ts.getD q []=ts[q]:=by rw[Lc,KR hq];rfl
  show Ch m es ts (KF.flipL cur (ts.getD q []))
  rw[gl]
  refine c.flipL fun t ht=>?_
  obtain⟨e,he,_⟩:=(c.g.w.mem q ts[q] (KR hq) t).mp ht
  exact(KS.mp he).1
end
section
variable{P:Program}{w:World}{K:KW}{mg:Str->Option Value}{base:Heap}
theorem fN:aD ["desk","built","many","text","count"] ["desk","built","many"] (ag ck):=⟨rfl,rfl,rfl,by decide +kernel,rfl,by decide +kernel,by decide +kernel⟩
theorem Ff{f f1 f2 f3 f4 PL PS WC DC:Addr}{fd d1 d2 d3 d4:FuncData} (F:Fun K "_law_stands" "_law_stands" ck f fd) (T:Txt mg) (cd:CD K DC) (m_text:Met P w K mg base 4 DC "text" ["self"] (BF PL PS WC DC) f1 d1) (m_left:Met P w K mg base 1 DC "left" ["self"] (BG DC) f2 d2) (G_law_web_text:Cal P w K mg base 1 "_law_web_text" ["built"] kE f3 d3) (G_law_whole:Cal P w K mg base 1 "_law_whole" ["found"] spWhole f4 d4):FnOk P w K mg base CX0 6 f fd ["desk","built","many"] (sG PL PS WC DC):=by
 refine F.ok fN (fun vs H Q E h=>?_) (fun cdv A outer s H vs Q E hr h=>?_)
 ·obtain⟨d,b,L,p,ps,S,m,es,ts,ks,rfl,_⟩:=h
  rfl
 obtain⟨d,b,L,p,ps,S,m,es,ts,ks,rfl,dl,ww,wr,bq,kk⟩:=h
 have CL:=cd.cl
 refine⟨_,(ab (av (i:=3) fN.nd rfl (Or.inl rfl) (d9 (pv 0) CL m_text.me m_text.ok (hr.mono (by decide)) m_text.bn .nil aK))
   (ab (av (i:=4) fN.nd rfl (Or.inl rfl) (d9 (pv 0) CL m_left.me m_left.ok (hr.mono (by decide)) m_left.bn .nil aK))
   (ab (bw (PW.pt (gU (vK (vJ (aB uR (by rfl) T.n_isinstance gK (aa (pv 3) (aa (zz (v:=.ty "str") rfl T.n_str fH rfl) af))))) (fu (ax jg (pv 3) (au G_law_web_text.ok (hr.mono (by decide)) rfl G_law_web_text.mg G_law_web_text.kp G_law_web_text.bn .nil aK (aa (pv 1) af)) (aI _))))) (ak (aJ E7)) aQ)
   (ak (aJ (IG (au G_law_whole.ok (hr.mono (by decide)) rfl G_law_whole.mg G_law_whole.kp G_law_whole.bn .nil aK (aa (pv 4) af)) (IF (zy jD (pv 4) (pv 2) (aI _))))))))),?_⟩
 obtain⟨dx,hd,hL⟩:=id dl
 refine⟨_,rfl,d,dx,_,rfl,hd,Dn (by decide +kernel),d,L,p,ps,S,m,es,ts,ks,rfl,dl,ww,wr,fun H1 s1=>?_⟩
 refine⟨_,rfl,d,dx,_,rfl,s1 _ _ hd,Dn (by decide +kernel),d,L,_,rfl,⟨dx,s1 _ _ hd,s1 _ _ hL⟩,?_⟩
 refine⟨_,rfl,_,_,_,_,_,rfl,TyOf.str _,Or.inl ⟨_,rfl,rfl⟩,kit_ss K,_,rfl,iteF ?_⟩
 refine⟨_,rfl,_,rfl,b,m,es,ks,ts,rfl,bq.mono s1,wr,fun H2 s2=>⟨rfl,_,rfl,ite2 (fun z=>?_) (fun _=>?_)⟩⟩
 ·rw[decide_eq_true rfl]at z
  cases z
 refine⟨_,rfl,_,rfl,_,rfl,iteT ⟨_,rfl,_,rfl,rfl,?_⟩⟩
 have e:V.int ((((ps++[V.ref p]).length:Nat):Int)-1)=V.int (ps.length:Int):=by
  rw[KU,K4]
  exact congrArg V.int (by omega)
 rw[decide_eq_true e]
 exact kk H2 (s1.trans s2)
end
end KF
namespace KF
open PySem L2 PyProof.Rows K8
local macro_rules | `(tactic| walk_at "cc") => `(tactic| first | exact ⟨by decide, by decide⟩ | (show (0 : Int) < _; decide) | (show (0 : Int) < _; omega) | (show (0 : Int) ≤ _; omega) | exact ⟨by decide, by decide, by decide⟩ | exact ⟨by omega, by omega, by decide⟩ | exact Or.inl ⟨by decide, by decide⟩ | exact Or.inl ⟨by omega, by omega⟩)
local macro_rules | `(tactic| walk_at "rd") => `(tactic| repeat (first | refine ⟨_, rfl, ?_⟩ | refine ⟨_, _, rfl, rfl, ?_⟩ | refine ⟨rfl, ?_⟩ | (refine ⟨?cc, ?_⟩; (case cc => walk_at "cc"))))
theorem bt_min:bootBuiltins "min" = some (.builtin "min"):=L2.bt_min
theorem rsz{lo m c:Int}{j:Nat}(hc:0<c)(h:j<(Builtin.Range.rangeSize lo m c).toNat):lo+(j:Int)*c<m:=by
 unfold Builtin.Range.rangeSize at h
 rw[if_pos hc]at h
 split at h
 ·have h2:(j:Int)<=(m-lo-1)/c:=by omega
  have h3:=Int.mul_le_of_le_ediv hc h2
  omega
 ·exact absurd h (MI _)
theorem cut_to(ns:List Int)(hi:Nat):∃ cs:List Int,cutV (ns.map V.int) none (some (hi:Int))=cs.map V.int/\cs.length<=ns.length:=by
 unfold cutV
 have q2:=HT.sIx_nat (ns.map V.int).length (ns.map V.int).length hi
 rw[q2,← Ny,← Nx]
 refine⟨_,rfl,?_⟩
 rw[LS,Mi]
 omega
theorem cut3{ns:List Int}{k:Nat}(h:k+2<ns.length):cutV (ns.map V.int) (some (k:Int)) (some ((k:Int)+3)) = [V.int ns[k],V.int ns[k+1],V.int ns[k+2]]:=by
 unfold cutV
 have q1:=HT.sIx_nat (ns.map V.int).length 0 k
 have q2:=HT.sIx_nat (ns.map V.int).length (ns.map V.int).length (k+3)
 rw[show((k:Int)+3)=((k+3:Nat):Int) from rfl,q1,q2,K2,MJ (by omega),MJ (by omega)]
 rw[Nb]
 refine List.ext_getElem? fun i=>?_
 rw[Nz]
 match i with
 |0=>rw[if_pos (by decide),MX,Lb,KR (by omega)];rfl
 |1=>rw[if_pos (by decide),MX,Lb,KR (by omega)];rfl
 |2=>rw[if_pos (by decide),MX,Lb,KR (by omega)];rfl
 |i+3=>rw[if_neg (by omega)];rfl
def sO(K:KW):Sp:=fun vs H Q _=>∃(a:Addr)(ns:List Int),vs = [.ref a]/\SqL K H a (ns.map V.int)/\ns.length<=63/\∀ H',Q (.bl true) H'
section
variable{P:Program}{w:World}{K:KW}{mg:Str->Option Value}{base:Heap}
theorem jo:aD ["script","first","text","desk","other","built","kept","k","deed"] ["script"] (ag tH):=⟨rfl,rfl,rfl,by decide +kernel,rfl,by decide +kernel,by decide +kernel⟩
theorem ok_law{f f1 f2 f3 f4 fD fT fO PL PS WC DC:Addr}{fd d1 d2 d3 d4 dD dT dO:FuncData} (F:Fun K "law" "law" tH f fd) (T:Txt mg) (cd:CD K DC) (G_law_built:Cal P w K mg base 5 "_law_built" ["script","first","most"] (sU K) f1 d1) (G_law_web_text:Cal P w K mg base 1 "_law_web_text" ["built"] kE f2 d2) (G_law_deed:Cal P w K mg base 1 "_law_deed" ["built","kept","cells"] (Ex K) f3 d3) (G_law_stands:Cal P w K mg base 6 "_law_stands" ["desk","built","many"] (sG PL PS WC DC) f4 d4) (M_Desk:Mak P w K mg base 8 "Desk" ["self","text"] (sV K PL PS WC) DC fD dD) (m_text:Met P w K mg base 4 DC "text" ["self"] (BF PL PS WC DC) fT dT) (m_do:Met P w K mg base 9 DC "do" ["self","row"] (spDo PL PS WC DC) fO dO):FnOk P w K mg base CX0 10 f fd ["script"] (sO K):=by
 refine F.ok jo (fun vs H Q E h=>?_) (fun cdv A outer s H vs Q E hr h=>?_)
 ·obtain⟨a,ns,rfl,_⟩:=h
  rfl
 obtain⟨a,ns,rfl,hS,h63,kq⟩:=h
 have CL:=cd.cl
 refine⟨_,(ab (av (i:=1) jo.nd rfl (Or.inl rfl) (au G_law_built.ok (hr.mono (by decide)) rfl G_law_built.mg G_law_built.kp G_law_built.bn .nil aK (aa (iW lD (pv 0) oH (jC ai)) (aa ai (aa ai af)))))
   (ab (av (i:=2) jo.nd rfl (Or.inl rfl) (au G_law_web_text.ok (hr.mono (by decide)) rfl G_law_web_text.mg G_law_web_text.kp G_law_web_text.bn .nil aK (aa (pv 1) af)))
   (ab (av (i:=3) jo.nd rfl (Or.inl rfl) (gY M_Desk.mkc M_Desk.ok (hr.mono (by decide)) rfl M_Desk.mg M_Desk.bn .nil aK (aa (pv 2) af)))
   (ab (av (i:=4) jo.nd rfl (Or.inl rfl) (gY M_Desk.mkc M_Desk.ok (hr.mono (by decide)) rfl M_Desk.mg M_Desk.bn .nil aK (aa (pv 2) af)))
   (ab (av (i:=5) jo.nd rfl (Or.inl rfl) (pv 1))
   (ab (av (i:=6) jo.nd rfl (Or.inl rfl) (bE af))
   (ab (cG PassesOwn.never rfl (vY rfl T.n_range (aa ai (aa (aB (x5 rfl) (by rfl) T.n_min bt_min (aa (aG mR (aB ao (by rfl) T.n_len aV (aa (pv 0) af)) ai) (aa ai af))) (aa ai af)))) (aW (i:=7) jo.nd rfl (Or.inl rfl)) (ab (av (i:=8) jo.nd rfl (Or.inl rfl) (au G_law_deed.ok (hr.mono (by decide)) rfl G_law_deed.mg G_law_deed.kp G_law_deed.bn .nil aK (aa (pv 5) (aa (pv 6) (aa (iW lD (pv 0) (jC (pv 7)) (jC (aG bI (pv 7) ai))) af)))))
   (ab (bw (ax JH (JF (pv 3) CL m_do.me m_do.ok (hr.mono (by decide)) m_do.bn .nil aK (aa (aF aT (pv 8) ai (fun _ _=>rfl)) af)) fz (aI _)) (ak (aJ E7)) aQ)
   (ab (bw (ax jD (aF aT (pv 8) ai (fun _ _=>rfl)) aS (aI _)) (ak (aY (EZ Ld Nh Ng Fv (pv 6)))) (ak (aY (bT Ld Lv Lu ba (pv 6) (aa (aF aT (pv 5) ai (fun _ _=>rfl)) af)))))
   (ab (av (i:=5) jo.nd rfl (Or.inl rfl) (bS (aa (aF aT (pv 5) ai (fun _ _=>rfl)) (aa (aF aT (pv 5) ai (fun _ _=>rfl)) (aa (aF aT (pv 8) ai (fun _ _=>rfl)) af)))))
   (ak (bw (vK (vJ (au G_law_stands.ok (hr.mono (by decide)) rfl G_law_stands.mg G_law_stands.kp G_law_stands.bn .nil aK (aa (pv 3) (aa (pv 5) (aa (aB ao (by rfl) T.n_len aV (aa (pv 6) af)) af)))))) (ak (aJ E7)) aQ)))))))
   (ab (bw (PW.pt (gU (vK (vJ (au G_law_stands.ok (hr.mono (by decide)) rfl G_law_stands.mg G_law_stands.kp G_law_stands.bn .nil aK (aa (pv 4) (aa (pv 1) (aa ai af)))))) (fu (vK (vJ (au G_law_stands.ok (hr.mono (by decide)) rfl G_law_stands.mg G_law_stands.kp G_law_stands.bn .nil aK (aa (pv 3) (aa (pv 5) (aa (aB ao (by rfl) T.n_len aV (aa (pv 6) af)) af))))))))) (ak (aJ E7)) aQ)
   (ak (aJ (au G_law_stands.ok (hr.mono (by decide)) rfl G_law_stands.mg G_law_stands.kp G_law_stands.bn .nil aK (aa (gY M_Desk.mkc M_Desk.ok (hr.mono (by decide)) rfl M_Desk.mg M_Desk.bn .nil aK (aa (d9 (pv 3) CL m_text.me m_text.ok (hr.mono (by decide)) m_text.bn .nil aK) af)) (aa (pv 5) (aa ai af)))))))))))))),?_⟩
 refine⟨_,rfl,_,rfl,a,_,rfl,hS,fun b hb=>?_⟩
 obtain⟨cs,ecs,csl⟩:=cut_to ns 29
 rw[show cutV (ns.map V.int) none (some 29)=cs.map V.int from ecs]
 have sb:=aj hb (.lst (cs.map V.int))
 refine⟨b,cs,rfl,SqL.of ae,by omega +splitDisjunctions,fun t0 pe pt pk m es ts ks H1 s1 bp=>?_⟩
 obtain⟨ht0,⟨⟨ys,hpe,hE⟩,⟨xs,hpt,hR⟩,g⟩,⟨ws,hpk,tk⟩,few,kl,kb,pos⟩:=bp
 have m2:=g.two pos
 have m40:m<=40:=by
  obtain⟨rs',p',c⟩:=g.part
  omega +splitDisjunctions
 have bq:Bq H1 t0 es ts ks:=⟨pe,pt,pk,ys,xs,ws,ht0,hpe,hE,hpt,hR,hpk,tk⟩
 have wr:Wr m es ks ts:=⟨kl,by omega +splitDisjunctions,m2,m40,g.w.len,fun k hk=>by
  obtain⟨i,hi,rfl⟩:=Nt hk
  obtain⟨a1,a2,_⟩:=tk.2 i _ (KR hi)
  exact⟨a1,a2,kb _ (LM hi)⟩,fun e he=>by
  have:=g.w.ends e he
  omega +splitDisjunctions,fun l hl=>by
  obtain⟨i,hi,rfl⟩:=Nt hl
  have:=e5 g.w (by omega +splitDisjunctions) (KR hi)
  exact⟨by omega +splitDisjunctions,fun t ht=>by have:=this.1 t ht;omega +splitDisjunctions⟩⟩
 have ch:Ch m es ts ks:=⟨wr,g,pos,few⟩
 have s01:=sb.trans s1
 refine⟨_,rfl,t0,m,es,ks,ts,rfl,bq,wr,fun H2 s2=>?_⟩
 refine⟨_,rfl,?_⟩
 intro d dx nd ndx nex
 refine⟨d,DC,dx,m,es,ts,ks,rfl,ae,cd,ch,fun L p H3 dl nL nLp ww h4=>⟨rfl,?_⟩⟩
 have up2:∀ b o,H2 b=some o->(upd (upd H2 dx (.own d)) d (.ins DC dx [])) b=some o:=fun b o z=>by rw[aq (ar z nd),aq (ar z ndx)];exact z
 have s23:Same H2 H3:=fun b o z=>h4 b o (up2 _ _ z) (ar z nd)
 have nL2:H2 L=none:=by
  cases u:H2 L with
  |none=>rfl
  |some o=>rw[up2 _ _ u]at nL;cases nL
 obtain⟨dxd,hd3,hL3⟩:=id dl
 refine⟨_,rfl,?_⟩
 intro o dxo no ndo neo
 refine⟨o,DC,dxo,m,es,ts,ks,rfl,ae,cd,ch,fun L2 p0 H4 dl0 nM nLp0 ww0 h5=>⟨rfl,?_⟩⟩
 have up3:∀ b x,H3 b=some x->(upd (upd H3 dxo (.own o)) o (.ins DC dxo [])) b=some x:=fun b x z=>by rw[aq (ar z no),aq (ar z ndo)];exact z
 have s34:Same H3 H4:=fun b x z=>h5 b x (up3 _ _ z) (ar z no)
 have LL:L2≠L:=fun z=>by rw[z,up3 _ _ hL3]at nM;cases nM
 obtain⟨dxo',ho4,hM4⟩:=id dl0
 refine⟨_,rfl,(by show 0<=sizeLine;decide),fun kp hkp=>?_⟩
 have s45:=aj hkp (.lst [])
 have nk:∀{b:Addr}{x:HO},H4 b=some x->b≠kp:=fun z=>ar z hkp
 have s25:=s23.trans (s34.trans s45)
 have s15:=s2.trans s25
 have h1L:H1 L=none:=none_of s2 nL2
 have h1k:H1 kp=none:=none_of (s2.trans (s23.trans s34)) hkp
 have ne1:∀{b:Addr}{x:HO},H1 b=some x->b≠L/\b≠kp:=fun z=>⟨ar z h1L,ar z h1k⟩
 have D0:Dsk H1 kp L L2 d o PL PS WC DC m es ts ks (upd H4 kp (.lst [])) [] ks [.ref p] [] pk:=by
  refine⟨s15,⟨dxd,s45 _ _ (s34 _ _ hd3)⟩,s45 _ _ (s34 _ _ hL3),ae,nk (s34 _ _ hL3),⟨p0,⟨dxo',s45 _ _ ho4,s45 _ _ hM4⟩,?_⟩,⟨LL,nk hM4⟩,rfl,rfl,fun i k e=>?_,fun i k e=>by simp at e,⟨(ne1 hpk).1,(ne1 hpk).2,ws,s15 _ _ hpk,tk.mono s15⟩,fun k hk=>?_⟩
  ·refine ww0.mono2 (fun b x e _=>s45 _ _ e) (fun a' xs' z e=>?_)
   rcases z with rfl | rfl
   ·exact .inl fun y=>by rw[up3 _ _ hL3]at y;cases y
   ·rw[hkp]at e;cases e
  ·match i,e with
   |0,e =>
    cases e
    refine⟨p,rfl,ww.mono2 (fun b x e _=>s45 _ _ (s34 _ _ e)) (fun a' xs' z e=>?_)⟩
    rcases z with rfl | rfl
    ·exact .inr rfl
    ·have:=s34 _ _ e
     rw[hkp]at this;cases this
  ·have:k=ks:=by simpa using hk
   rw[this]
   exact ch
 generalize upd H4 kp (.lst [])=H5 at D0 s45 s25 s15
 have hS5:SqL K H5 a (ns.map V.int):=(s01.trans s15).seq hS
 refine⟨_,rfl,a,_,rfl,.inl hS5,_,_,rfl,rfl,_,_,rfl,?_⟩
 obtain⟨M,eM⟩:∃ M:Int,(if(149:Int)<(((ns.map V.int).length:Nat):Int)-2 then(149:Int) else(((ns.map V.int).length:Nat):Int)-2)=M:=⟨_,rfl⟩
 rw[eM]
 rw[K2]at eM
 have hM:M<=(ns.length:Int)-2/\-3<=M:=by
  split at eM<;>omega +splitDisjunctions
 have cb:(Builtin.Range.rangeSize 29 M 3).toNat<=12:=by
  by_cases z:(Builtin.Range.rangeSize 29 M 3).toNat<=12
  ·exact z
  ·have:=rsz (lo:=29) (m:=M) (c:=3) (j:=12) (by decide) (by omega +splitDisjunctions)
   omega +splitDisjunctions
 refine⟨29,M,3,(Builtin.Range.rangeSize 29 M 3).toNat,rfl,by omega +splitDisjunctions,by omega +splitDisjunctions,by omega +splitDisjunctions,by omega +splitDisjunctions,⟨by omega +splitDisjunctions,by omega +splitDisjunctions⟩,PyProof.Rows.rangeSize_toNat _ _ _,Dz (lo:=29) (c:=3) (n:=(Builtin.Range.rangeSize 29 M 3).toNat) (fun i σ H6=>∃(bt pkc:Addr)(front:List Kn)(cur:Kn)(ps zs:List V)(v7 v8:Option V),σ = [some (.ref a),some (.ref t0),some (.str (webT m es ks ts)),some (.ref d),some (.ref o),some (.ref bt),some (.ref kp),v7,v8]/\Dsk H1 kp L L2 d o PL PS WC DC m es ts ks H6 front cur ps zs pkc/\H6 bt=some (.tup [.ref pe,.ref pt,.ref pkc])/\front.length<=i) ⟨t0,pk,[],ks,[.ref p],[],none,none,rfl,D0,s15 _ _ ht0,K3 _⟩ ?_ ?_⟩
 ·rintro i σ H6 hi ⟨bt,pkc,front,cur,ps,zs,v7,v8,rfl,D6,hbt,fl⟩
  have hb':=rsz (lo:=29) (m:=M) (c:=3) (j:=i) (by decide) hi
  have kx:(29+3*i)+2<ns.length:=by omega +splitDisjunctions
  have ei:(29:Int)+(i:Int)*3=((29+3*i:Nat):Int):=by push_cast;omega +splitDisjunctions
  have hS6:SqL K H6 a (ns.map V.int):=(s01.trans D6.sm).seq hS
  refine⟨_,rfl,_,rfl,_,rfl,_,rfl,_,rfl,_,rfl,_,_,rfl,rfl,_,rfl,a,_,rfl,hS6,fun c hc=>?_⟩
  rw[ei,cut3 kx]
  have sc:=aj hc (.lst [V.int ns[29+3*i],V.int ns[29+3*i+1],V.int ns[29+3*i+2]])
  have D7:=D6.same sc
  have hbt7:=sc _ _ hbt
  have gc:(upd H6 c (.lst [V.int ns[29+3*i],V.int ns[29+3*i+1],V.int ns[29+3*i+2]])) c=some (.lst [V.int ns[29+3*i],V.int ns[29+3*i+1],V.int ns[29+3*i+2]]):=ae
  generalize upd H6 c (.lst [V.int ns[29+3*i],V.int ns[29+3*i+1],V.int ns[29+3*i+2]])=H7 at sc D7 hbt7 gc
  obtain⟨_,_,wc,hpc,tkc⟩:=D7.pk
  have bq7:Bq H7 bt es ts cur:=⟨pe,pt,pkc,ys,xs,wc,hbt7,D7.sm _ _ hpe,hE.mono D7.sm,D7.sm _ _ hpt,hR.mono D7.sm,hpc,tkc⟩
  have chc:Ch m es ts cur:=D7.ch cur (by simp)
  refine⟨bt,kp,c,zs,_,_,_,m,es,ts,cur,rfl,bq7,D7.hk,SqL.of gc,chc,fun zs' x ez t H8 s8 ht=>?_,fun dd pk' ws' t H8 ok s8 npk hpk' told ht=>?_⟩
  ·have D8:=D7.same s8
   have hbt8:=s8 _ _ hbt7
   obtain⟨ps0,p6,eps,lp,w8⟩:=D8.top
   obtain⟨dx8,hd8⟩:=D8.hd
   have hL8:=D8.hL
   have hk8:=D8.hk
   have zl8:=D8.zl
   subst eps
   subst ez
   rw[KU,K4]at zl8
   rcases Nl front with e | ⟨f',k',e⟩
   ·rw[e]at zl8
    cases zl8
   rw[Nm]at e
   subst e
   rw[KU,K4]at lp zl8 fl
   refine⟨_,rfl,d,dx8,_,rfl,hd8,Dn (by decide +kernel),_,rfl,t,_,0,_,rfl,rfl,SqT.of ht,at0,d,L,ps0,.ref p6,uW,rfl,⟨dx8,hd8,hL8⟩,by omega +splitDisjunctions,  .inl ⟨rfl,fun z=>(by rw[z]at lp;cases lp),fun H9 s9=>⟨rfl,_,rfl,iteF ?_⟩⟩⟩
   have hL9:=s9 _ _ hL8
   have hk9:=s9 _ _ hk8
   have tup9:∀{b:Addr}{xs:List V},H8 b=some (.tup xs)->b≠L/\b≠kp:=fun z=>⟨fun y=>(by rw[y,hL8]at z;cases z),fun y=>(by rw[y,hk8]at z;cases z)⟩
   have ht10:(upd H9 L (.lst ps0)) t=some (.tup [.str uW,x]):=by rw[aq (tup9 ht).1];exact s9 _ _ ht
   have hk10:(upd H9 L (.lst ps0)) kp=some (.lst (zs'++[x])):=by rw[aq (Ne.symm D8.ne)];exact hk9
   refine⟨_,rfl,t,_,0,_,rfl,rfl,SqT.of ht10,at0,rfl,_,rfl,ite2 (fun _=>?_) (fun z=>absurd (decide_eq_true rfl) z)⟩
   refine⟨_,rfl,.inl ⟨rfl,_,SqL.of hk10⟩,kp,_,x,rfl,rfl,hk10,by simp,?_⟩
   rw[List.dropLast_concat]
   have kx8:Kx L kp H8 (upd (upd H9 L (.lst ps0)) kp (.lst zs')):=fun b o' e n1 n2=>by rw[aq n2,aq n1];exact s9 _ _ e
   have sm11:Same H1 (upd (upd H9 L (.lst ps0)) kp (.lst zs')):=aL (aL (D8.sm.trans s9) h1L _) h1k _
   obtain⟨q,rfl,D11⟩:=D8.pop kx8 sm11 (by rw[aq D8.ne];exact ae) ae
   have hbt11:=kx8 _ _ hbt8 (tup9 hbt8).1 (tup9 hbt8).2
   have ht11:=kx8 _ _ ht (tup9 ht).1 (tup9 ht).2
   generalize upd (upd H9 L (.lst ps0)) kp (.lst zs')=H11 at D11 hbt11 ht11
   refine⟨_,rfl,bt,_,0,_,rfl,rfl,SqT.of hbt11,at30,_,rfl,bt,_,1,_,rfl,rfl,SqT.of hbt11,at31,_,rfl,t,_,1,_,rfl,rfl,SqT.of ht11,at1,(by show 3<=sizeLine;decide),fun bt' hbt'=>?_⟩
   have s12:=aj hbt' (.tup [.ref pe,.ref pt,.ref q])
   have D12:=D11.same s12
   have hb12:(upd H11 bt' (.tup [.ref pe,.ref pt,.ref q])) bt'=some (.tup [.ref pe,.ref pt,.ref q]):=ae
   generalize upd H11 bt' (.tup [.ref pe,.ref pt,.ref q])=H12 at s12 D12 hb12
   obtain⟨psT,pT,ePs,lT,wT⟩:=D12.top
   obtain⟨_,_,wsN,hpN,tkN⟩:=D12.pk
   obtain⟨dx12,hd12⟩:=D12.hd
   have hk12:=D12.hk
   have zl12:=D12.zl
   have hL12:=D12.hL
   rw[ePs]at hL12
   have bq12:Bq H12 bt' es ts k':=⟨pe,pt,q,ys,xs,wsN,hb12,D12.sm _ _ hpe,hE.mono D12.sm,D12.sm _ _ hpt,hR.mono D12.sm,hpN,tkN⟩
   refine⟨_,rfl,_,rfl,_,rfl,kp,_,rfl,.inl (SqL.of hk12),d,bt',L,pT,psT,_,m,es,ts,k',?_,⟨dx12,hd12,hL12⟩,wT,(D12.ch k' (by simp)).wr,bq12,fun H13 s13=>⟨_,rfl,iteF ?_⟩⟩
   ·rw[lT,← zl12]
    rfl
   exact⟨bt',q,f',k',_,_,_,_,rfl,D12.same s13,s13 _ _ hb12,by omega +splitDisjunctions⟩
  ·have D8:=D7.same s8
   have hbt8:=s8 _ _ hbt7
   obtain⟨ps0,p6,eps,lp,w8⟩:=D8.top
   obtain⟨dx8,hd8⟩:=D8.hd
   have hL8:=D8.hL
   have hk8:=D8.hk
   have zl8:=D8.zl
   subst eps
   have nL8:pk'≠L:=fun z=>by rw[z,D7.hL]at npk;cases npk
   have nk8:pk'≠kp:=fun z=>by rw[z,D7.hk]at npk;cases npk
   refine⟨_,rfl,d,dx8,_,rfl,hd8,Dn (by decide +kernel),_,rfl,t,_,0,_,rfl,rfl,SqT.of ht,at0,d,L,ps0,.ref p6,ddT dd,rfl,⟨dx8,hd8,hL8⟩,by omega +splitDisjunctions,.inr ⟨p6,_,m,es,ts,cur,dd,rfl,rfl,w8,chc,ok,fun p' H9 s9 w9=>⟨rfl,_,rfl,iteF ?_⟩⟩⟩
   have hL9:=s9 _ _ hL8
   have hk9:=s9 _ _ hk8
   have tup9:∀{b:Addr}{xs:List V},H8 b=some (.tup xs)->b≠L/\b≠kp:=fun z=>⟨fun y=>(by rw[y,hL8]at z;cases z),fun y=>(by rw[y,hk8]at z;cases z)⟩
   have ht10:(upd H9 L (.lst (ps0++[.ref p6]++[.ref p']))) t=some (.tup [.str (ddT dd),.ref pk']):=by rw[aq (tup9 ht).1];exact s9 _ _ ht
   have hk10:(upd H9 L (.lst (ps0++[.ref p6]++[.ref p']))) kp=some (.lst zs):=by rw[aq (Ne.symm D8.ne)];exact hk9
   have hbt10:(upd H9 L (.lst (ps0++[.ref p6]++[.ref p']))) bt=some (.tup [.ref pe,.ref pt,.ref pkc]):=by rw[aq (tup9 hbt8).1];exact s9 _ _ hbt8
   refine⟨_,rfl,t,_,0,_,rfl,rfl,SqT.of ht10,at0,rfl,_,rfl,ite2 (fun z=>absurd (V.str.inj (of_decide_eq_true z)) (Gm dd)) (fun _=>?_)⟩
   refine⟨_,rfl,.inl ⟨rfl,_,SqL.of hk10⟩,_,rfl,bt,_,2,_,rfl,rfl,SqT.of hbt10,at32,kp,zs,_,rfl,rfl,hk10,aH (by omega +splitDisjunctions),?_⟩
   have kx8:Kx L kp H8 (upd (upd H9 L (.lst (ps0++[.ref p6]++[.ref p']))) kp (.lst (zs++[.ref pkc]))):=fun b o' e n1 n2=>by rw[aq n2,aq n1];exact s9 _ _ e
   have sm11:Same H1 (upd (upd H9 L (.lst (ps0++[.ref p6]++[.ref p']))) kp (.lst (zs++[.ref pkc]))):=aL (aL (D8.sm.trans s9) h1L _) h1k _
   have w11:WebW (fun a=>a=L∨a=kp) PL PS WC (upd (upd H9 L (.lst (ps0++[.ref p6]++[.ref p']))) kp (.lst (zs++[.ref pkc]))) p' m es ts (ddK ts cur dd):=by
    refine w9.mono2 (fun b x e n=>?_) (fun a' xs' z _=>?_)
    ·have bL:b≠L/\b≠kp:=by
      rcases n with⟨_,n⟩ | ⟨C,dx,fs,rfl,_⟩
      ·exact⟨fun z=>n (by show H8 b≠none;rw[z,hL8];simp),fun z=>n (by show H8 b≠none;rw[z,hk8];simp)⟩
      ·exact⟨fun z=>(by rw[z,hL9]at e;cases e),fun z=>(by rw[z,hk9]at e;cases e)⟩
     rw[aq bL.2,aq bL.1]
     exact e
    ·rcases z with rfl | rfl
     ·show H8 _≠none
      rw[hL8];simp
     ·show H8 _≠none
      rw[hk8];simp
   have D11:=D8.push kx8 sm11 (by rw[aq D8.ne];exact ae) ae w11 nL8 nk8 (kx8 _ _ hpk' nL8 nk8) (FJ kx8 hL8 hk8 told) (chc.dd ok)
   have hbt11:=kx8 _ _ hbt8 (tup9 hbt8).1 (tup9 hbt8).2
   have ht11:=kx8 _ _ ht (tup9 ht).1 (tup9 ht).2
   generalize upd (upd H9 L (.lst (ps0++[.ref p6]++[.ref p']))) kp (.lst (zs++[.ref pkc]))=H11 at D11 hbt11 ht11
   refine⟨_,rfl,bt,_,0,_,rfl,rfl,SqT.of hbt11,at30,_,rfl,bt,_,1,_,rfl,rfl,SqT.of hbt11,at31,_,rfl,t,_,1,_,rfl,rfl,SqT.of ht11,at1,(by show 3<=sizeLine;decide),fun bt' hbt'=>?_⟩
   have s12:=aj hbt' (.tup [.ref pe,.ref pt,.ref pk'])
   have D12:=D11.same s12
   have hb12:(upd H11 bt' (.tup [.ref pe,.ref pt,.ref pk'])) bt'=some (.tup [.ref pe,.ref pt,.ref pk']):=ae
   generalize upd H11 bt' (.tup [.ref pe,.ref pt,.ref pk'])=H12 at s12 D12 hb12
   obtain⟨psT,pT,ePs,lT,wT⟩:=D12.top
   obtain⟨_,_,wsN,hpN,tkN⟩:=D12.pk
   obtain⟨dx12,hd12⟩:=D12.hd
   have hk12:=D12.hk
   have zl12:=D12.zl
   have hL12:=D12.hL
   rw[ePs]at hL12
   have bq12:Bq H12 bt' es ts (ddK ts cur dd):=⟨pe,pt,pk',ys,xs,wsN,hb12,D12.sm _ _ hpe,hE.mono D12.sm,D12.sm _ _ hpt,hR.mono D12.sm,hpN,tkN⟩
   refine⟨_,rfl,_,rfl,_,rfl,kp,_,rfl,.inl (SqL.of hk12),d,bt',L,pT,psT,_,m,es,ts,(ddK ts cur dd),?_,⟨dx12,hd12,hL12⟩,wT,(D12.ch (ddK ts cur dd) (by simp)).wr,bq12,fun H13 s13=>⟨_,rfl,iteF ?_⟩⟩
   ·rw[lT,← zl12]
    rfl
   exact⟨bt',pk',(front++[cur]),(ddK ts cur dd),_,_,_,_,rfl,D12.same s13,s13 _ _ hb12,by rw[KU,K4];omega +splitDisjunctions⟩
 ·rintro σ H6 ⟨bt,pkc,front,cur,ps,zs,v7,v8,rfl,D6,hbt,fl⟩
  obtain⟨p0',dl6,w06⟩:=D6.ot
  refine⟨_,rfl,_,rfl,o,t0,L2,p0',[],_,m,es,ts,ks,rfl,dl6,w06,wr,bq.mono D6.sm,fun H7 s7=>⟨_,rfl,iteF ?_⟩⟩
  have D7:=D6.same s7
  have hbt7:=s7 _ _ hbt
  obtain⟨psT,pT,ePs,lT,wT⟩:=D7.top
  obtain⟨_,_,wc,hpc,tkc⟩:=D7.pk
  obtain⟨dx7,hd7⟩:=D7.hd
  have hL7:=D7.hL
  have zl7:=D7.zl
  have chc:Ch m es ts cur:=D7.ch cur (by simp)
  rw[ePs]at hL7
  have bq7:Bq H7 bt es ts cur:=⟨pe,pt,pkc,ys,xs,wc,hbt7,D7.sm _ _ hpe,hE.mono D7.sm,D7.sm _ _ hpt,hR.mono D7.sm,hpc,tkc⟩
  refine⟨_,rfl,_,rfl,_,rfl,kp,_,rfl,.inl (SqL.of D7.hk),d,bt,L,pT,psT,_,m,es,ts,cur,?_,⟨dx7,hd7,hL7⟩,wT,chc.wr,bq7,fun H8 s8=>⟨_,rfl,iteF ?_⟩⟩
  ·rw[lT,← zl7]
   rfl
  refine⟨_,rfl,d,dx7,_,rfl,s8 _ _ hd7,Dn (by decide +kernel),d,L,pT,psT,_,m,es,ts,cur,rfl,⟨dx7,s8 _ _ hd7,s8 _ _ hL7⟩,wT.mono (KpL.of s8) (fun a z=>z),chc.wr,fun H9 s9=>?_⟩
  intro x dx' nx ndx' nex'
  refine⟨x,DC,dx',m,es,ts,cur,rfl,ae,cd,chc,fun L3 p3 H10 dl3 nL3 _ ww3 h9=>⟨rfl,?_⟩⟩
  have s910:Same H9 H10:=fun b o' z=>h9 b o' (by rw[aq (ar z nx),aq (ar z ndx')];exact z) (ar z nx)
  exact⟨_,rfl,x,bt,L3,p3,[],_,m,es,ts,cur,rfl,dl3,ww3,chc.wr,bq7.mono (s8.trans (s9.trans s910)),fun H11 s11=>kq H11⟩
end
end KF
namespace KF
open PySem L2 PyProof.Rows K8
theorem all_mk{l:NI}{w:World}{K:KW}{h:Heap}{mg:Str->Option Value}{fa bg bf bW dj kY br fE dQ B7 kZ jf eB gw jb dw cZ cE cv n9 kX kW gy eI b4 dz ja gu uB oa gv eA B0 BZ c5 i9 n8 k8 k9 bP iy dS dR je jc eG gA gC gB b5 gE gz c6 jd eF Kr:Addr}(X:K.In h)(G:h.Ns mainGlobals mg) (hfa:mg "law" = some (.ref fa))
  {CY D9 tV vd zJ Bw wA yw JV KO CZ Ea zI Bv tQ u6 wm yo zE Br qR rq oO qi nF nQ tU vc Fo G9 CV D5 CU D4 wo yp tT vb lL mG qS rA zD Bp wj ym HL Iy Fp Ha wk yn tP u5 JU KN JT KL oP qj zC Bo Fn G8 C0 Eb C1 Ec qT rB C2 Ed wC yy wB yx zH Bu zF Bs tS va wu yr wy yu wx yt lM mH wz yv wq yq oQ qk zG Bt tR u9 od_law IY:Option Addr} {Co tE yZ vA Jt Cp yY sZ vq yU qK oz nB tD EA Cn Cm vt tq lC qL yT vo Hq EB vp sY Js Jr oA yS Ez Cq Cr qM Cs vC vB yX yV tm vw vy vx lE vz vv oB yW tj sl_law:Array (Option Value)} {C5 Dt DE CA rT DL ua uu uJ tO lu uQ zR Ap AK zr pX AV wN xm xG vU m7 xT JY Kh Kw JC GH KC C6 Du DF CB rV DM zQ Ao AJ zp pW AU tZ uk uE tJ lg uL wG xc xy vN mV xM zM Ak AF zj pR AO qU q8 rb qO jq rh oR pj pH oI iz pK nG nJ nK nE gP nN t9 ur uI tN lr uP Fs FP Gp ET xZ Gy C4 Ds DD Cz rS DK C3 Dr DB Cy rR DJ wH xf xA vO mW xN t8 uq uH tM lq uO lN l6 mm lJ fF mq qV q9 rf qP jr rj zL Aj AE zi pQ AN wD xa xw vL mT xJ HM HY Il Hv Cc Im Ft FQ Gq EU x4 GA wF xb xx vM mU xK tW uj uD tI lb uK JX Kg Kv JB GF KA JW Kf Ku JA GD Kz oS pz pI oJ iA pM zK Ai AD zh pP AM Fq FO Gn ES xY Gx C7 Dv DG CF rW DN C8 Dw DH CG rX DO qW ra rg qQ js rk C9 Dx DI CH rY DP wQ xo xI vW m9 xV wO xn xH vV m8 xU zP An AI zo pV AS zN Al AG zk pS AQ t6 uo uG tL lj uN wJ xh xC vQ mY xP wL xj xE vS m5 xR wK xi xD vR mZ xQ lO l8 mn lK fG mr wM xk xF vT m6 xS wI xg xB vP mX xO oT pA pJ oK iB pN zO Am AH zm pU AR t5 um uF tK lh uM oc_law IL IW IE GG IX:Value}
  {ti_gF ti_gD ti_gL:Tok}
  (Bz:K7 K mainGlobals "Pull" = some (some (.ref bg)))
  (By:K7 K mainGlobals "Push" = some (some (.ref bf)))
  (BA:K7 K mainGlobals "Desk" = some (some (.ref bW)))
  (He:K7 K mainGlobals "Web" = some (some (.ref dj)))
  (hX:Ll K (.ref bg) "__init__" = some (some (.ref br)))
  (hW:Ll K (.ref bg) "wish" = some (some (.ref fE)))
  (hV:Ll K (.ref bf) "__init__" = some (some (.ref br)))
  (hU:Ll K (.ref bf) "wish" = some (some (.ref dQ)))
  (ia:Ll K (.ref bW) "__init__" = some (some (.ref bP)))
  (lP:Ll K (.ref bW) "do" = some (some (.ref iy)))
  (h7:Ll K (.ref bW) "left" = some (some (.ref dS)))
  (hZ:Ll K (.ref bW) "text" = some (some (.ref dR)))
  (jK:Ll K (.ref dj) "__init__" = some (some (.ref cv)))
  (qo:K7 K mainGlobals "reached" = some (some (.ref kY)))
  (o7:K.lookup kY=some ⟨C5,CY,.func (Le "reached" "reached" (aC fi) (aA fi) (ag fi) .none Dt DE CA D9 rT DL),Co⟩)
  (qa:K9 K rT "reached" = true)
  (kO:K5 K (.ref kY)=true)
  (ip:K.lookup br=some ⟨ua,tV,.func (Le "__init__" "Tie.__init__" (aC cu) (aA cu) (ag cu) .none uu uJ tO vd lu uQ),tE⟩)
  (iJ:K9 K lu "Tie.__init__" = true)
  (ir:K5 K (.ref br)=true)
  (eu:Mj K (.ref br)=true)
  (l5:K.lookup fE=some ⟨zR,zJ,.func (Le "wish" "Tie.wish" (aC dM) (aA dM) (ag dM) .none Ap AK zr Bw pX AV),yZ⟩)
  (mF:K9 K pX "Tie.wish" = true)
  (i6:K5 K (.ref fE)=true)
  (l9:Mj K (.ref fE)=true)
  (jU:K.lookup dQ=some ⟨wN,wA,.func (Le "wish" "Push.wish" (aC cS) (aA cS) (ag cS) .none xm xG vU yw m7 xT),vA⟩)
  (kf:K9 K m7 "Push.wish" = true)
  (gm:K5 K (.ref dQ)=true)
  (jY:Mj K (.ref dQ)=true)
  (Hd:K7 K mainGlobals "head" = some (some (.ref B7)))
  (FI:K.lookup B7=some ⟨JY,JV,.func (Le "head" "head" (aC rM) (aA rM) (ag rM) .none Kh Kw JC KO GH KC),Jt⟩)
  (GQ:K9 K GH "head" = true)
  (k_head:K5 K (.ref B7)=true)
  (qp:K7 K mainGlobals "leaving" = some (some (.ref kZ)))
  (o8:K.lookup kZ=some ⟨C6,CZ,.func (Le "leaving" "leaving" (aC fj) (aA fj) (ag fj) .none Du DF CB Ea rV DM),Cp⟩)
  (qb:K9 K rV "leaving" = true)
  (kP:K5 K (.ref kZ)=true)
  (mO:K7 K mainGlobals "follower" = some (some (.ref jf)))
  (lZ:K.lookup jf=some ⟨zQ,zI,.func (Le "follower" "follower" (aC dJ) (aA dJ) (ag dJ) .none Ao AJ zp Bv pW AU),yY⟩)
  (mE:K9 K pW "follower" = true)
  (i5:K5 K (.ref jf)=true)
  (iL:K7 K mainGlobals "round_from" = some (some (.ref eB)))
  (ie:K.lookup eB=some ⟨tZ,tQ,.func (Le "round_from" "round_from" (aC cj) (aA cj) (ag cj) .none uk uE tJ u6 lg uL),sZ⟩)
  (iE:K9 K lg "round_from" = true)
  (eh:K5 K (.ref eB)=true)
  (ko:K7 K mainGlobals "rounds_of" = some (some (.ref gw)))
  (jN:K.lookup gw=some ⟨wG,wm,.func (Le "rounds_of" "rounds_of" (aC cL) (aA cL) (ag cL) .none xc xy vN yo mV xM),vq⟩)
  (j6:K9 K mV "rounds_of" = true)
  (f7:K5 K (.ref gw)=true)
  (mK:K7 K mainGlobals "sides_of" = some (some (.ref jb)))
  (lU:K.lookup jb=some ⟨zM,zE,.func (Le "sides_of" "sides_of" (aC dE) (aA dE) (ag dE) .none Ak AF zj Br pR AO),yU⟩)
  (mz:K9 K pR "sides_of" = true)
  (iZ:K5 K (.ref jb)=true)
  (gM:K7 K mainGlobals "refuse_ends" = some (some (.ref dw)))
  (fU:K.lookup dw=some ⟨qU,qR,.func (Le "refuse_ends" "refuse_ends" (aC bM) (aA bM) (ag bM) .none q8 rb qO rq jq rh),qK⟩)
  (gH:K9 K jq "refuse_ends" = true)
  (du:K5 K (.ref dw)=true)
  (eW:K7 K mainGlobals "refuse_turns" = some (some (.ref cZ)))
  (eN:K.lookup cZ=some ⟨oR,oO,.func (Le "refuse_turns" "refuse_turns" (aC bz) (aA bz) (ag bz) .none pj pH oI qi iz pK),oz⟩)
  (eS:K9 K iz "refuse_turns" = true)
  (cW:K5 K (.ref cZ)=true)
  (dX:K7 K mainGlobals "refuse_parted" = some (some (.ref cE)))
  (dP:K.lookup cE=some ⟨nG,nF,.func (Le "refuse_parted" "refuse_parted" (aC bj) (aA bj) (ag bj) .none nJ nK nE nQ gP nN),nB⟩)
  (dU:K9 K gP "refuse_parted" = true)
  (cC:K5 K (.ref cE)=true)
  (il:K.lookup cv=some ⟨t9,tU,.func (Le "__init__" "Web.__init__" (aC cp) (aA cp) (ag cp) .none ur uI tN vc lr uP),tD⟩)
  (iI:K9 K lr "Web.__init__" = true)
  (iq:K5 K (.ref cv)=true)
  (iw:Mj K (.ref cv)=true)
  (vf:K7 K mainGlobals "row_of" = some (some (.ref n9)))
  (ug:K.lookup n9=some ⟨Fs,Fo,.func (Le "row_of" "row_of" (aC iR) (aA iR) (ag iR) .none FP Gp ET G9 xZ Gy),EA⟩)
  (uT:K9 K xZ "row_of" = true)
  (nW:K5 K (.ref n9)=true)
  (qm:K7 K mainGlobals "tie_row" = some (some (.ref kX)))
  (o6:K.lookup kX=some ⟨C4,CV,.func (Le "tie_row" "tie_row" (aC e9) (aA e9) (ag e9) .none Ds DD Cz D5 rS DK),Cn⟩)
  (pZ:K9 K rS "tie_row" = true)
  (kM:K5 K (.ref kX)=true)
  (ql:K7 K mainGlobals "written" = some (some (.ref kW)))
  (o5:K.lookup kW=some ⟨C3,CU,.func (Le "written" "written" (aC e8) (aA e8) (ag e8) .none Dr DB Cy D4 rR DJ),Cm⟩)
  (pY:K9 K rR "written" = true)
  (kL:K5 K (.ref kW)=true)
  (kr:K7 K mainGlobals "number_of" = some (some (.ref gy)))
  (jO:K.lookup gy=some ⟨wH,wo,.func (Le "number_of" "number_of" (aC cM) (aA cM) (ag cM) .none xf xA vO yp mW xN),vt⟩)
  (j7:K9 K mW "number_of" = true)
  (f9:K5 K (.ref gy)=true)
  (iO:K7 K mainGlobals "first_word" = some (some (.ref eI)))
  (ik:K.lookup eI=some ⟨t8,tT,.func (Le "first_word" "first_word" (aC cn) (aA cn) (ag cn) .none uq uH tM vb lq uO),tq⟩)
  (iH:K9 K lq "first_word" = true)
  (et:K5 K (.ref eI)=true)
  (dh:K7 K mainGlobals "numbers_behind" = some (some (.ref b4)))
  (dc:K.lookup b4=some ⟨lN,lL,.func (Le "numbers_behind" "numbers_behind" (aC bb) (aA bb) (ag bb) .none l6 mm lJ mG fF mq),lC⟩)
  (df:K9 K fF "numbers_behind" = true)
  (bY:K5 K (.ref b4)=true)
  (gN:K7 K mainGlobals "places_told" = some (some (.ref dz)))
  (fV:K.lookup dz=some ⟨qV,qS,.func (Le "places_told" "places_told" (aC bN) (aA bN) (ag bN) .none q9 rf qP rA jr rj),qL⟩)
  (gI:K9 K jr "places_told" = true)
  (dv:K5 K (.ref dz)=true)
  (mJ:K7 K mainGlobals "tie_told" = some (some (.ref ja)))
  (lS:K.lookup ja=some ⟨zL,zD,.func (Le "tie_told" "tie_told" (aC dB) (aA dB) (ag dB) .none Aj AE zi Bp pQ AN),yT⟩)
  (my:K9 K pQ "tie_told" = true)
  (iY:K5 K (.ref ja)=true)
  (kj:K7 K mainGlobals "turn_told" = some (some (.ref gu)))
  (jL:K.lookup gu=some ⟨wD,wj,.func (Le "turn_told" "turn_told" (aC cJ) (aA cJ) (ag cJ) .none xa xw vL ym mT xJ),vo⟩)
  (j4:K9 K mT "turn_told" = true)
  (fY:K5 K (.ref gu)=true)
  (Bx:K7 K mainGlobals "right" = some (some (.ref uB)))
  (Ad:K.lookup uB=some ⟨HM,HL,.func (Le "right" "right" (aC lH) (aA lH) (ag lH) .none HY Il Hv Iy Cc Im),Hq⟩)
  (AY:K9 K Cc "right" = true)
  (ui:K5 K (.ref uB)=true)
  (vg:K7 K mainGlobals "row_at" = some (some (.ref oa)))
  (uh:K.lookup oa=some ⟨Ft,Fp,.func (Le "row_at" "row_at" (aC iS) (aA iS) (ag iS) .none FQ Gq EU Ha x4 GA),EB⟩)
  (uU:K9 K x4 "row_at" = true)
  (nX:K5 K (.ref oa)=true)
  (kn:K7 K mainGlobals "ties_told" = some (some (.ref gv)))
  (jM:K.lookup gv=some ⟨wF,wk,.func (Le "ties_told" "ties_told" (aC cK) (aA cK) (ag cK) .none xb xx vM yn mU xK),vp⟩)
  (j5:K9 K mU "ties_told" = true)
  (fZ:K5 K (.ref gv)=true)
  (iK:K7 K mainGlobals "turns_told" = some (some (.ref eA)))
  (ic:K.lookup eA=some ⟨tW,tP,.func (Le "turns_told" "turns_told" (aC cg) (aA cg) (ag cg) .none uj uD tI u5 lb uK),sY⟩)
  (iD:K9 K lb "turns_told" = true)
  (eg:K5 K (.ref eA)=true)
  (Hc:K7 K mainGlobals "made" = some (some (.ref B0)))
  (FH:K.lookup B0=some ⟨JX,JU,.func (Le "made" "made" (aC rL) (aA rL) (ag rL) .none Kg Kv JB KN GF KA),Js⟩)
  (GP:K9 K GF "made" = true)
  (BV:K5 K (.ref B0)=true)
  (Hb:K7 K mainGlobals "read" = some (some (.ref BZ)))
  (FG:K.lookup BZ=some ⟨JW,JT,.func (Le "read" "read" (aC rK) (aA rK) (ag rK) .none Kf Ku JA KL GD Kz),Jr⟩)
  (GO:K9 K GD "read" = true)
  (BU:K5 K (.ref BZ)=true)
  (eX:K7 K mainGlobals "numbers_told" = some (some (.ref c5)))
  (eO:K.lookup c5=some ⟨oS,oP,.func (Le "numbers_told" "numbers_told" (aC bA) (aA bA) (ag bA) .none pz pI oJ qj iA pM),oA⟩)
  (eU:K9 K iA "numbers_told" = true)
  (cX:K5 K (.ref c5)=true)
  (mI:K7 K mainGlobals "with_tie" = some (some (.ref i9)))
  (lR:K.lookup i9=some ⟨zK,zC,.func (Le "with_tie" "with_tie" (aC dA) (aA dA) (ag dA) .none Ai AD zh Bo pP AM),yS⟩)
  (mw:K9 K pP "with_tie" = true)
  (iX:K5 K (.ref i9)=true)
  (ve:K7 K mainGlobals "turned" = some (some (.ref n8)))
  (uf:K.lookup n8=some ⟨Fq,Fn,.func (Le "turned" "turned" (aC iQ) (aA iQ) (ag iQ) .none FO Gn ES G8 xY Gx),Ez⟩)
  (uS:K9 K xY "turned" = true)
  (nV:K5 K (.ref n8)=true)
  (qq:K7 K mainGlobals "flipped" = some (some (.ref k8)))
  (o9:K.lookup k8=some ⟨C7,C0,.func (Le "flipped" "flipped" (aC fm) (aA fm) (ag fm) .none Dv DG CF Eb rW DN),Cq⟩)
  (qc:K9 K rW "flipped" = true)
  (kQ:K5 K (.ref k8)=true)
  (qu:K7 K mainGlobals "changed" = some (some (.ref k9)))
  (pd:K.lookup k9=some ⟨C8,C1,.func (Le "changed" "changed" (aC fq) (aA fq) (ag fq) .none Dw DH CG Ec rX DO),Cr⟩)
  (qd:K9 K rX "changed" = true)
  (kR:K5 K (.ref k9)=true)
  (fX:K.lookup bP=some ⟨qW,qT,.func (Le "__init__" "Desk.__init__" (aC bO) (aA bO) (ag bO) .none ra rg qQ rB js rk),qM⟩)
  (gJ:K9 K js "Desk.__init__" = true)
  (gq:K5 K (.ref bP)=true)
  (gs:Mj K (.ref bP)=true)
  (pf:K.lookup iy=some ⟨C9,C2,.func (Le "do" "Desk.do" (aC ft) (aA ft) (ag ft) .none Dx DI CH Ed rY DP),Cs⟩)
  (qf:K9 K rY "Desk.do" = true)
  (kT:K5 K (.ref iy)=true)
  (pE:Mj K (.ref iy)=true)
  (jW:K.lookup dS=some ⟨wQ,wC,.func (Le "left" "Desk.left" (aC cU) (aA cU) (ag cU) .none xo xI vW yy m9 xV),vC⟩)
  (kh:K9 K m9 "Desk.left" = true)
  (gp:K5 K (.ref dS)=true)
  (j2:Mj K (.ref dS)=true)
  (jV:K.lookup dR=some ⟨wO,wB,.func (Le "text" "Desk.text" (aC cT) (aA cT) (ag cT) .none xn xH vV yx m8 xU),vB⟩)
  (kg:K9 K m8 "Desk.text" = true)
  (gn:K5 K (.ref dR)=true)
  (jZ:Mj K (.ref dR)=true)
  (mN:K7 K mainGlobals "_law_cell" = some (some (.ref je)))
  (lY:K.lookup je=some ⟨zP,zH,.func (Le "_law_cell" "_law_cell" (aC dI) (aA dI) (ag dI) .none An AI zo Bu pV AS),yX⟩)
  (mD:K9 K pV "_law_cell" = true)
  (i4:K5 K (.ref je)=true)
  (mL:K7 K mainGlobals "_law_head" = some (some (.ref jc)))
  (lW:K.lookup jc=some ⟨zN,zF,.func (Le "_law_head" "_law_head" (aC dG) (aA dG) (ag dG) .none Al AG zk Bs pS AQ),yV⟩)
  (mB:K9 K pS "_law_head" = true)
  (i0:K5 K (.ref jc)=true)
  (iN:K7 K mainGlobals "_law_behind" = some (some (.ref eG)))
  (ij:K.lookup eG=some ⟨t6,tS,.func (Le "_law_behind" "_law_behind" (aC cm) (aA cm) (ag cm) .none uo uG tL va lj uN),tm⟩)
  (iG:K9 K lj "_law_behind" = true)
  (er:K5 K (.ref eG)=true)
  (ky:K7 K mainGlobals "_law_round" = some (some (.ref gA)))
  (jQ:K.lookup gA=some ⟨wJ,wu,.func (Le "_law_round" "_law_round" (aC cO) (aA cO) (ag cO) .none xh xC vQ yr mY xP),vw⟩)
  (j9:K9 K mY "_law_round" = true)
  (gf:K5 K (.ref gA)=true)
  (kA:K7 K mainGlobals "_law_grown" = some (some (.ref gC)))
  (jS:K.lookup gC=some ⟨wL,wy,.func (Le "_law_grown" "_law_grown" (aC cQ) (aA cQ) (ag cQ) .none xj xE vS yu m5 xR),vy⟩)
  (kc:K9 K m5 "_law_grown" = true)
  (gh:K5 K (.ref gC)=true)
  (kz:K7 K mainGlobals "_law_order" = some (some (.ref gB)))
  (jR:K.lookup gB=some ⟨wK,wx,.func (Le "_law_order" "_law_order" (aC cP) (aA cP) (ag cP) .none xi xD vR yt mZ xQ),vx⟩)
  (ka:K9 K mZ "_law_order" = true)
  (gg:K5 K (.ref gB)=true)
  (di:K7 K mainGlobals "_law_renumbered" = some (some (.ref b5)))
  (de:K.lookup b5=some ⟨lO,lM,.func (Le "_law_renumbered" "_law_renumbered" (aC bc) (aA bc) (ag bc) .none l8 mn lK mH fG mr),lE⟩)
  (dg:K9 K fG "_law_renumbered" = true)
  (bZ:K5 K (.ref b5)=true)
  (kB:K7 K mainGlobals "_law_built" = some (some (.ref gE)))
  (jT:K.lookup gE=some ⟨wM,wz,.func (Le "_law_built" "_law_built" (aC cR) (aA cR) (ag cR) .none xk xF vT yv m6 xS),vz⟩)
  (ke:K9 K m6 "_law_built" = true)
  (gj:K5 K (.ref gE)=true)
  (ku:K7 K mainGlobals "_law_whole" = some (some (.ref gz)))
  (jP:K.lookup gz=some ⟨wI,wq,.func (Le "_law_whole" "_law_whole" (aC cN) (aA cN) (ag cN) .none xg xB vP yq mX xO),vv⟩)
  (j8:K9 K mX "_law_whole" = true)
  (gd:K5 K (.ref gz)=true)
  (eY:K7 K mainGlobals "_law_web_text" = some (some (.ref c6)))
  (eP:K.lookup c6=some ⟨oT,oQ,.func (Le "_law_web_text" "_law_web_text" (aC bB) (aA bB) (ag bB) .none pA pJ oK qk iB pN),oB⟩)
  (eV:K9 K iB "_law_web_text" = true)
  (cY:K5 K (.ref c6)=true)
  (mM:K7 K mainGlobals "_law_deed" = some (some (.ref jd)))
  (lX:K.lookup jd=some ⟨zO,zG,.func (Le "_law_deed" "_law_deed" (aC dH) (aA dH) (ag dH) .none Am AH zm Bt pU AR),yW⟩)
  (mC:K9 K pU "_law_deed" = true)
  (i3:K5 K (.ref jd)=true)
  (iM:K7 K mainGlobals "_law_stands" = some (some (.ref eF)))
  (ig:K.lookup eF=some ⟨t5,tR,.func (Le "_law_stands" "_law_stands" (aC ck) (aA ck) (ag ck) .none um uF tK u9 lh uM),tj⟩)
  (iF:K9 K lh "_law_stands" = true)
  (ek:K5 K (.ref eF)=true)
  (Iz:K7 K mainGlobals "law" = some (some (.ref Kr)))
  (Kb:K.lookup Kr=some ⟨oc_law,od_law,.func (Le "law" "law" (aC tH) (aA tH) (ag tH) .none IL IW IE IY GG IX),sl_law⟩)
  (KD:K9 K GG "law" = true)
  (Ke:K5 K (.ref Kr)=true)
  (zw:Mg K bg Str.empty=true)
  (Av:Mo K bg=true)
  (zf:Mz K bg=true)
  (y9:Ll K (.ref bg) "__setattr__" = some (some (.builtin "object.__setattr__")))
  (zT:MF K bg=true)
  (Af:K5 K (.ref bg)=true)
  (jJ:Ll K (.ref bg) "one" = some none)
  (jI:Ll K (.ref bg) "two" = some none)
  (da:Ll K (.ref bg) "strength" = some none)
  (zv:Mg K bf Str.empty=true)
  (Au:Mo K bf=true)
  (ze:Mz K bf=true)
  (y8:Ll K (.ref bf) "__setattr__" = some (some (.builtin "object.__setattr__")))
  (zS:MF K bf=true)
  (Ae:K5 K (.ref bf)=true)
  (jH:Ll K (.ref bf) "one" = some none)
  (jG:Ll K (.ref bf) "two" = some none)
  (c9:Ll K (.ref bf) "strength" = some none)
  (zx:Mg K bW Str.empty=true)
  (Aw:Mo K bW=true)
  (zg:Mz K bW=true)
  (za:Ll K (.ref bW) "__setattr__" = some (some (.builtin "object.__setattr__")))
  (zU:MF K bW=true)
  (Ag:K5 K (.ref bW)=true)
  (hG:Ll K (.ref bW) "webs" = some none)
  (EV:Mg K dj Str.empty=true)
  (F4:Mo K dj=true)
  (ER:Mz K dj=true)
  (EH:Ll K (.ref dj) "__setattr__" = some (some (.builtin "object.__setattr__")))
  (Fw:MF K dj=true)
  (FN:K5 K (.ref dj)=true)
  (jF:Ll K (.ref dj) "many" = some none)
  (jE:Ll K (.ref dj) "ties" = some none)
  (g8:Ll K (.ref dj) "turns" = some none)
  (fQ:Ll K (.ref dj) "rounds" = some none)
  (g9:Ll K (.ref dj) "sides" = some none)
  (gi_gF:K7 K mainGlobals "MOST_FIGURES_texts" = some (some (.int 31 ti_gF)))
  (gi_gD:K7 K mainGlobals "MOST_FIGURES_desk" = some (some (.int 31 ti_gD)))
  (gi_gL:K7 K mainGlobals "MOST_TIES" = some (some (.int 80 ti_gL)))
  (Jf:K7 K mainGlobals "len" = some none)
  (Jg:K7 K mainGlobals "int" = some none)
  (Jc:K7 K mainGlobals "str" = some none)
  (Ef:K7 K mainGlobals "bool" = some none)
  (Ee:K7 K mainGlobals "list" = some none)
  (yH:K7 K mainGlobals "tuple" = some none)
  (yI:K7 K mainGlobals "range" = some none)
  (Ji:K7 K mainGlobals "all" = some none)
  (jw:K7 K mainGlobals "enumerate" = some none)
  (gW:K7 K mainGlobals "isinstance" = some none)
  (Jd:K7 K mainGlobals "min" = some none)
  (Jb:K7 K mainGlobals "sum" = some none)
  (sk:K7 K mainGlobals "sorted" = some none)
  (Je:K7 K mainGlobals "max" = some none)
  (Ja:K7 K mainGlobals "zip" = some none)
  (Jh:K7 K mainGlobals "any" = some none)
  : ∃ fd:FuncData,(∀(s:Shared)(v:Value),BindsTo s fd ⟨[v],[]⟩ [("script",v)])/\∀ base:Heap,K.In base->base.Ns mainGlobals mg->FnOk l.prog w K mg base CX0 10 fa fd ["script"] (sO K):=by
 have e:=hfa.symm.trans (Lf X G Iz)
 cases e
 have yB:=aN (st:=fi) o7 qa kO
 have GY:=yB.binds (ps:=["start","pairs"]) fun _ _ _ _ _ _ us hl=>by obtain⟨x0,x1,rfl⟩:=fS hl;rfl
 have nz:=aN (st:=cu) ip iJ ir
 have nc:=nz.binds (ps:=["self","one","two","strength"]) fun _ _ _ _ _ _ us hl=>by obtain⟨x0,x1,x2,x3,rfl⟩:=FF hl;rfl
 have sj:=aN (st:=dM) l5 mF i6
 have D3:=sj.binds (ps:=["self"]) fun _ _ _ _ _ _ us hl=>by obtain⟨x0,rfl⟩:=ib hl;rfl
 have qF:=aN (st:=cS) jU kf gm
 have Bi:=qF.binds (ps:=["self"]) fun _ _ _ _ _ _ us hl=>by obtain⟨x0,rfl⟩:=ib hl;rfl
 have I9:=aN (st:=rM) FI GQ k_head
 have b_head:=I9.binds (ps:=["ties","dart"]) fun _ _ _ _ _ _ us hl=>by obtain⟨x0,x1,rfl⟩:=fS hl;rfl
 have yC:=aN (st:=fj) o8 qb kP
 have GZ:=yC.binds (ps:=["ties","number","place"]) fun _ _ _ _ _ _ us hl=>by obtain⟨x0,x1,x2,rfl⟩:=lQ hl;rfl
 have sh:=aN (st:=dJ) lZ mE i5
 have D1:=sh.binds (ps:=["ties","turns","dart"]) fun _ _ _ _ _ _ us hl=>by obtain⟨x0,x1,x2,rfl⟩:=lQ hl;rfl
 have nh:=aN (st:=cj) ie iE eh
 have yg:=nh.binds (ps:=["ties","turns","first"]) fun _ _ _ _ _ _ us hl=>by obtain⟨x0,x1,x2,rfl⟩:=lQ hl;rfl
 have qy:=aN (st:=cL) jN j6 f7
 have Bb:=qy.binds (ps:=["ties","turns"]) fun _ _ _ _ _ _ us hl=>by obtain⟨x0,x1,rfl⟩:=fS hl;rfl
 have r8:=aN (st:=dE) lU mz iZ
 have DW:=r8.binds (ps:=["ties","rounds"]) fun _ _ _ _ _ _ us hl=>by obtain⟨x0,x1,rfl⟩:=fS hl;rfl
 have ly:=aN (st:=bM) fU gH du
 have uX:=ly.binds (ps:=["many","ties"]) fun _ _ _ _ _ _ us hl=>by obtain⟨x0,x1,rfl⟩:=fS hl;rfl
 have jt:=aN (st:=bz) eN eS cW
 have rm:=jt.binds (ps:=["many","ties","turns"]) fun _ _ _ _ _ _ us hl=>by obtain⟨x0,x1,x2,rfl⟩:=lQ hl;rfl
 have iP:=aN (st:=bj) dP dU cC
 have qg:=iP.binds (ps:=["many","ties"]) fun _ _ _ _ _ _ us hl=>by obtain⟨x0,x1,rfl⟩:=fS hl;rfl
 have nv:=aN (st:=cp) il iI iq
 have yk:=nv.binds (ps:=["self","many","ties","turns"]) fun _ _ _ _ _ _ us hl=>by obtain⟨x0,x1,x2,x3,rfl⟩:=FF hl;rfl
 have Cg:=aN (st:=iR) ug uT nW
 have Iv:=Cg.binds (ps:=["words"]) fun _ _ _ _ _ _ us hl=>by obtain⟨x0,rfl⟩:=ib hl;rfl
 have yA:=aN (st:=e9) o6 pZ kM
 have GX:=yA.binds (ps:=["tie"]) fun _ _ _ _ _ _ us hl=>by obtain⟨x0,rfl⟩:=ib hl;rfl
 have yz:=aN (st:=e8) o5 pY kL
 have GW:=yz.binds (ps:=["web"]) fun _ _ _ _ _ _ us hl=>by obtain⟨x0,rfl⟩:=ib hl;rfl
 have qz:=aN (st:=cM) jO j7 f9
 have Bc:=qz.binds (ps:=["word","figures"]) fun _ _ _ _ _ _ us hl=>by obtain⟨x0,x1,rfl⟩:=fS hl;rfl
 have nu:=aN (st:=cn) ik iH et
 have yj:=nu.binds (ps:=["row"]) fun _ _ _ _ _ _ us hl=>by obtain⟨x0,rfl⟩:=ib hl;rfl
 have gQ:=aN (st:=bb) dc df bY
 have nO:=gQ.binds (ps:=["first","row","figures"]) fun _ _ _ _ _ _ us hl=>by obtain⟨x0,x1,x2,rfl⟩:=lQ hl;rfl
 have lz:=aN (st:=bN) fV gI dv
 have uY:=lz.binds (ps:=["row"]) fun _ _ _ _ _ _ us hl=>by obtain⟨x0,rfl⟩:=ib hl;rfl
 have r6:=aN (st:=dB) lS my iY
 have DV:=r6.binds (ps:=["row"]) fun _ _ _ _ _ _ us hl=>by obtain⟨x0,rfl⟩:=ib hl;rfl
 have qw:=aN (st:=cJ) jL j4 fY
 have A0:=qw.binds (ps:=["place","row"]) fun _ _ _ _ _ _ us hl=>by obtain⟨x0,x1,rfl⟩:=fS hl;rfl
 have Hh:=aN (st:=lH) Ad AY ui
 have KI:=Hh.binds (ps:=["told","at"]) fun _ _ _ _ _ _ us hl=>by obtain⟨x0,x1,rfl⟩:=fS hl;rfl
 have Ci:=aN (st:=iS) uh uU nX
 have Iw:=Ci.binds (ps:=["rows","number"]) fun _ _ _ _ _ _ us hl=>by obtain⟨x0,x1,rfl⟩:=fS hl;rfl
 have qx:=aN (st:=cK) jM j5 fZ
 have Ba:=qx.binds (ps:=["rows"]) fun _ _ _ _ _ _ us hl=>by obtain⟨x0,rfl⟩:=ib hl;rfl
 have ng:=aN (st:=cg) ic iD eg
 have yf:=ng.binds (ps:=["many","rows","ahead"]) fun _ _ _ _ _ _ us hl=>by obtain⟨x0,x1,x2,rfl⟩:=lQ hl;rfl
 have I8:=aN (st:=rL) FH GP BV
 have b_made:=I8.binds (ps:=["kind","one","two","strength"]) fun _ _ _ _ _ _ us hl=>by obtain⟨x0,x1,x2,x3,rfl⟩:=FF hl;rfl
 have IZ:=aN (st:=rK) FG GO BU
 have b_read:=IZ.binds (ps:=["text"]) fun _ _ _ _ _ _ us hl=>by obtain⟨x0,rfl⟩:=ib hl;rfl
 have ju:=aN (st:=bA) eO eU cX
 have rn:=ju.binds (ps:=["word","row","many"]) fun _ _ _ _ _ _ us hl=>by obtain⟨x0,x1,x2,rfl⟩:=lQ hl;rfl
 have rZ:=aN (st:=dA) lR mw iX
 have DU:=rZ.binds (ps:=["web","kind","number","strength"]) fun _ _ _ _ _ _ us hl=>by obtain⟨x0,x1,x2,x3,rfl⟩:=FF hl;rfl
 have Cf:=aN (st:=iQ) uf uS nV
 have Iu:=Cf.binds (ps:=["tie"]) fun _ _ _ _ _ _ us hl=>by obtain⟨x0,rfl⟩:=ib hl;rfl
 have yD:=aN (st:=fm) o9 qc kQ
 have G0:=yD.binds (ps:=["web","place"]) fun _ _ _ _ _ _ us hl=>by obtain⟨x0,x1,rfl⟩:=fS hl;rfl
 have yE:=aN (st:=fq) pd qd kR
 have G5:=yE.binds (ps:=["web","row"]) fun _ _ _ _ _ _ us hl=>by obtain⟨x0,x1,rfl⟩:=fS hl;rfl
 have lA:=aN (st:=bO) fX gJ gq
 have uZ:=lA.binds (ps:=["self","text"]) fun _ _ _ _ _ _ us hl=>by obtain⟨x0,x1,rfl⟩:=fS hl;rfl
 have yF:=aN (st:=ft) pf qf kT
 have G6:=yF.binds (ps:=["self","row"]) fun _ _ _ _ _ _ us hl=>by obtain⟨x0,x1,rfl⟩:=fS hl;rfl
 have qH:=aN (st:=cU) jW kh gp
 have Bk:=qH.binds (ps:=["self"]) fun _ _ _ _ _ _ us hl=>by obtain⟨x0,rfl⟩:=ib hl;rfl
 have qG:=aN (st:=cT) jV kg gn
 have Bj:=qG.binds (ps:=["self"]) fun _ _ _ _ _ _ us hl=>by obtain⟨x0,rfl⟩:=ib hl;rfl
 have sg:=aN (st:=dI) lY mD i4
 have DZ:=sg.binds (ps:=["script","k"]) fun _ _ _ _ _ _ us hl=>by obtain⟨x0,x1,rfl⟩:=fS hl;rfl
 have r9:=aN (st:=dG) lW mB i0
 have DX:=r9.binds (ps:=["ends","dart"]) fun _ _ _ _ _ _ us hl=>by obtain⟨x0,x1,rfl⟩:=fS hl;rfl
 have nj:=aN (st:=cm) ij iG er
 have yi:=nj.binds (ps:=["ends","turns","dart"]) fun _ _ _ _ _ _ us hl=>by obtain⟨x0,x1,x2,rfl⟩:=lQ hl;rfl
 have qB:=aN (st:=cO) jQ j9 gf
 have Be:=qB.binds (ps:=["ends","turns","dart"]) fun _ _ _ _ _ _ us hl=>by obtain⟨x0,x1,x2,rfl⟩:=lQ hl;rfl
 have qD:=aN (st:=cQ) jS kc gh
 have Bg:=qD.binds (ps:=["cells"]) fun _ _ _ _ _ _ us hl=>by obtain⟨x0,rfl⟩:=ib hl;rfl
 have qC:=aN (st:=cP) jR ka gg
 have Bf:=qC.binds (ps:=["cell","many"]) fun _ _ _ _ _ _ us hl=>by obtain⟨x0,x1,rfl⟩:=fS hl;rfl
 have gT:=aN (st:=bc) de dg bZ
 have nP:=gT.binds (ps:=["grown","cell"]) fun _ _ _ _ _ _ us hl=>by obtain⟨x0,x1,rfl⟩:=fS hl;rfl
 have qE:=aN (st:=cR) jT ke gj
 have Bh:=qE.binds (ps:=["script","first","most"]) fun _ _ _ _ _ _ us hl=>by obtain⟨x0,x1,x2,rfl⟩:=lQ hl;rfl
 have qA:=aN (st:=cN) jP j8 gd
 have Bd:=qA.binds (ps:=["found"]) fun _ _ _ _ _ _ us hl=>by obtain⟨x0,rfl⟩:=ib hl;rfl
 have jv:=aN (st:=bB) eP eV cY
 have rp:=jv.binds (ps:=["built"]) fun _ _ _ _ _ _ us hl=>by obtain⟨x0,rfl⟩:=ib hl;rfl
 have sf:=aN (st:=dH) lX mC i3
 have DY:=sf.binds (ps:=["built","kept","cells"]) fun _ _ _ _ _ _ us hl=>by obtain⟨x0,x1,x2,rfl⟩:=lQ hl;rfl
 have ni:=aN (st:=ck) ig iF ek
 have yh:=ni.binds (ps:=["desk","built","many"]) fun _ _ _ _ _ _ us hl=>by obtain⟨x0,x1,x2,rfl⟩:=lQ hl;rfl
 have F_law:=aN (st:=tH) Kb KD Ke
 refine⟨Le "law" "law" (aC tH) (aA tH) (ag tH) .none IL IW IE IY GG IX,fun s v=>.of_eq rfl,fun base _ _=>?_⟩
 have Fz:=Lf X G qo
 have m_head:=Lf X G Hd
 have FA:=Lf X G qp
 have Dm:=Lf X G mO
 have wW:=Lf X G iL
 have zZ:=Lf X G ko
 have Di:=Lf X G mK
 have ud:=Lf X G gM
 have qX:=Lf X G eW
 have oY:=Lf X G dX
 have HS:=Lf X G vf
 have Fy:=Lf X G qm
 have Fx:=Lf X G ql
 have z4:=Lf X G kr
 have wZ:=Lf X G iO
 have nH:=Lf X G dh
 have ue:=Lf X G gN
 have Dh:=Lf X G mJ
 have zX:=Lf X G kj
 have Ka:=Lf X G Bx
 have HU:=Lf X G vg
 have zY:=Lf X G kn
 have wV:=Lf X G iK
 have m_made:=Lf X G Hc
 have m_read:=Lf X G Hb
 have qY:=Lf X G eX
 have Dg:=Lf X G mI
 have HR:=Lf X G ve
 have FC:=Lf X G qq
 have FD:=Lf X G qu
 have Dl:=Lf X G mN
 have Dj:=Lf X G mL
 have wY:=Lf X G iN
 have z8:=Lf X G ky
 have Aa:=Lf X G kA
 have z9:=Lf X G kz
 have nI:=Lf X G di
 have Ab:=Lf X G kB
 have z6:=Lf X G ku
 have qZ:=Lf X G eY
 have Dk:=Lf X G mM
 have wX:=Lf X G iM
 have m_law:=Lf X G Iz
 have m_Pull:=Lf X G Bz
 have m_Push:=Lf X G By
 have m_Desk:=Lf X G BA
 have m_Web:=Lf X G He
 have gF:=Lf X G gi_gF
 have gD:=Lf X G gi_gD
 have gL:=Lf X G gi_gL
 have n_len:=LB X G Jf
 have n_int:=LB X G Jg
 have n_str:=LB X G Jc
 have n_bool:=LB X G Ef
 have n_list:=LB X G Ee
 have n_tuple:=LB X G yH
 have n_range:=LB X G yI
 have n_all:=LB X G Ji
 have n_enumerate:=LB X G jw
 have n_isinstance:=LB X G gW
 have n_min:=LB X G Jd
 have n_sum:=LB X G Jb
 have n_sorted:=LB X G sk
 have n_max:=LB X G Je
 have n_zip:=LB X G Ja
 have n_any:=LB X G Jh
 have TL:CT K bg:=⟨⟨zw,Av,zf,y9⟩,jJ,jI,da⟩
 have TS:CT K bf:=⟨⟨zv,Au,ze,y8⟩,jH,jG,c9⟩
 have cw:CW K dj:=⟨⟨EV,F4,ER,EH⟩,jF,jE,g8,fQ,g9⟩
 have T:K8.Txt mg:=⟨n_max,n_all,n_zip,n_any,n_len,n_int,n_bool,n_list,n_tuple,n_range,n_enumerate,n_isinstance,n_min,n_sum,n_sorted⟩
 have GI:FnOk l.prog w K mg base CX0 1 br _ _ (rF K):=JN nz
 have ML:Mak l.prog w K mg base 1 "Pull" _ (rF K) bg br _:=⟨⟨zT,hX,eu,Af⟩,GI,nc,m_Pull⟩
 have MS:Mak l.prog w K mg base 1 "Push" _ (rF K) bf br _:=⟨⟨zS,hV,eu,Ae⟩,GI,nc,m_Push⟩
 have Gh:Cal l.prog w K mg base 1 "head" _ (Eu K) B7 _:=⟨JO I9,b_head,m_head,k_head⟩
 have Gl:Cal l.prog w K mg base 1 "leaving" _ (Et K) kZ _:=⟨CO yC,GZ,FA,kP⟩
 have Gf:Cal l.prog w K mg base 2 "follower" _ (Jp K) jf _:=⟨zB sh T Gh Gl,D1,Dm,i5⟩
 have Gr:Cal l.prog w K mg base 3 "round_from" _ (Ew K) eB _:=⟨JP nh Gf,yg,wW,eh⟩
 have GR:Cal l.prog w K mg base 4 "rounds_of" _ (sJ K) gw _:=⟨Fh qy T Gr,Bb,zZ,f7⟩
 have GS:Cal l.prog w K mg base 1 "sides_of" _ (yL K) jb _:=⟨HB r8 T,DW,Di,iZ⟩
 have Ga:Cal l.prog w K mg base 1 "reached" _ (yN K) kY _:=⟨CM yB,GY,Fz,kO⟩
 have R1:Cal l.prog w K mg base 1 "refuse_ends" _ (yP K) dw _:=⟨HG ly,uX,ud,du⟩
 have R2:Cal l.prog w K mg base 1 "refuse_turns" _ (sM K) cZ _:=⟨Fg jt T,rm,qX,cW⟩
 have R3:Cal l.prog w K mg base 2 "refuse_parted" _ (yO K) cE _:=⟨HC iP Ga,qg,oY,cC⟩
 have WI:FnOk l.prog w K mg base CX0 5 cv _ _ (jx K):=Hz nv T R1 R2 R3 GR GS
 have MW:Mak l.prog w K mg base 5 "Web" _ (jx K) dj cv _:=⟨⟨Fw,jK,iw,FN⟩,WI,yk,m_Web⟩
 have Gc:Cal l.prog w K mg base 1 "_law_cell" _ (Ey K) je _:=⟨JR sg T,DZ,Dl,i4⟩
 have L1:Cal l.prog w K mg base 1 "_law_head" _ (sQ K) jc _:=⟨HI r9,DX,Dj,i0⟩
 have L2':Cal l.prog w K mg base 2 "_law_behind" _ (sW K) eG _:=⟨CP nj T L1,yi,wY,er⟩
 have L3:Cal l.prog w K mg base 3 "_law_round" _ (sP K) gA _:=⟨Fj qB L2',Be,z8,gf⟩
 have L4:Cal l.prog w K mg base 4 "_law_grown" _ (yR K) gC _:=⟨HJ qD T L3 L1,Bg,Aa,gh⟩
 have L5:Cal l.prog w K mg base 1 "_law_order" _ yQ gB _:=⟨HH qC T,Bf,z9,gg⟩
 have L6:Cal l.prog w K mg base 2 "_law_renumbered" _ Jo b5 _:=⟨ok_ren gT T L5,nP,nI,bZ⟩
 have L7:Cal l.prog w K mg base 5 "_law_built" _ (sU K) gE _:=⟨Fl qE T L4 L6 Gc,Bh,Ab,gj⟩
 have TT:KF.Txt mg:=⟨n_min,n_len,n_int,n_str,n_bool,n_list,n_tuple,n_range,n_all,n_enumerate,n_isinstance,⟨_,gF⟩,⟨_,gD⟩,⟨_,gL⟩⟩
 have u0:Met l.prog w K mg base 1 bg "wish" _ (mP false) fE _:=⟨⟨hW,l9,i6⟩,Hy sj,D3⟩
 have u1:Met l.prog w K mg base 1 bf "wish" _ (mP true) dQ _:=⟨⟨hU,jY,gm⟩,Hx qF,Bi⟩
 have A1:Cal l.prog w K mg base 1 "row_of" _ (KF.spRow K) n9 _:=⟨KF.ok_row Cg TT,Iv,HS,nW⟩
 have A2:Cal l.prog w K mg base 2 "tie_row" _ (sF bg bf) kX _:=⟨Fe yA TL TS A1 u0 u1,GX,Fy,kM⟩
 have A3:Cal l.prog w K mg base 3 "written" _ (oo bg bf dj) kW _:=⟨CI yz TT cw A1 A2,GW,Fx,kL⟩
 have A4:Cal l.prog w K mg base 1 "number_of" _ KF.spNum gy _:=⟨KF.ok_num qz TT,Bc,z4,f9⟩
 have A5:Cal l.prog w K mg base 1 "first_word" _ spFW eI _:=⟨ok_fw nu,yj,wZ,et⟩
 have A6:Cal l.prog w K mg base 2 "numbers_behind" _ Ck b4 _:=⟨ok_beh gQ A4,nO,nH,bY⟩
 have A7:Cal l.prog w K mg base 3 "places_told" _ sN dz _:=⟨Fi lz TT A6,uY,ue,dv⟩
 have A8:Cal l.prog w K mg base 3 "tie_told" _ Es ja _:=⟨JI r6 TT A5 A6,DV,Dh,iY⟩
 have A9:Cal l.prog w K mg base 3 "turn_told" _ yK gu _:=⟨HA qw TT A6,A0,zX,fY⟩
 have B1:Cal l.prog w K mg base 1 "right" _ ou uB _:=⟨HF Hh,KI,Ka,ui⟩
 have B2:Cal l.prog w K mg base 1 "row_at" _ (sI K) oa _:=⟨HE Ci TT,Iw,HU,nX⟩
 have B3:Cal l.prog w K mg base 4 "ties_told" _ (lB K) gv _:=⟨zA qx TT A5 A8 B1,Ba,zY,fZ⟩
 have B4:Cal l.prog w K mg base 4 "turns_told" _ (jy K) eA _:=⟨wg ng TT B2 A9 B1,yf,wV,eg⟩
 have B5:Cal l.prog w K mg base 3 "made" _ (rE bg bf) B0 _:=⟨JL I8 ML MS TL TS,b_made,m_made,BV⟩
 have B6:Cal l.prog w K mg base 7 "read" _ (yM bg bf dj) BZ _:=⟨JK IZ TT cw TL TS B1 B2 A7 B3 B4 B5 MW,b_read,m_read,BU⟩
 have cd:CD K bW:=⟨⟨zx,Aw,zg,za⟩,hG⟩
 have E1:Cal l.prog w K mg base 3 "numbers_told" _ ow c5 _:=⟨CN ju TT A6,rn,qY,cX⟩
 have E2:Cal l.prog w K mg base 4 "turned" _ (sy bg bf) n8 _:=⟨Fd Cf TL TS B5 u0 u1,Iu,HR,nV⟩
 have E3:Cal l.prog w K mg base 7 "with_tie" _ (oq bg bf dj) i9 _:=⟨CJ rZ TT cw TL TS B5 MW,DU,Dg,iX⟩
 have E4:Cal l.prog w K mg base 7 "flipped" _ (ox bg bf dj) k8 _:=⟨CQ yD TT cw TL TS E2 MW,G0,FC,kQ⟩
 have E5:Cal l.prog w K mg base 8 "changed" _ (oy bg bf dj) k9 _:=⟨CS yE A5 E1 E3 E4,G5,FD,kR⟩
 have E6:FnOk l.prog w K mg base CX0 8 bP _ _ (sV K bg bf dj):=HK lA B6
 have MD:Mak l.prog w K mg base 8 "Desk" _ (sV K bg bf dj) bW bP _:=⟨⟨zU,ia,gs,Ag⟩,E6,uZ,m_Desk⟩
 have ml:Met l.prog w K mg base 1 bW "left" _ (BG bW) dS _:=⟨⟨h7,j2,gp⟩,JM qH TT cd,Bk⟩
 have mt:Met l.prog w K mg base 4 bW "text" _ (BF bg bf dj bW) dR _:=⟨⟨hZ,jZ,gn⟩,JJ qG cd A3,Bj⟩
 have md:Met l.prog w K mg base 9 bW "do" _ (spDo bg bf dj bW) iy _:=⟨⟨lP,pE,kT⟩,ok_do yF cd E5 ml,G6⟩
 have G1:Cal l.prog w K mg base 1 "_law_whole" _ KF.spWhole gz _:=⟨KF.ok_whole qA TT,Bd,z6,gd⟩
 have G2:Cal l.prog w K mg base 1 "_law_web_text" _ kE c6 _:=⟨CK jv TT,rp,qZ,cY⟩
 have G3:Cal l.prog w K mg base 1 "_law_deed" _ (Ex K) jd _:=⟨JQ sf TT,DY,Dk,i3⟩
 have G4:Cal l.prog w K mg base 6 "_law_stands" _ (sG bg bf dj bW) eF _:=⟨Ff ni TT cd mt ml G2 G1,yh,wX,ek⟩
 exact KF.ok_law F_law TT cd L7 G2 G3 G4 MD mt md
theorem walk{l:NI}{q:Program}{loose:List Str}{XP:(Str->Option Value)->Heap->Prop}{YP:World->Heap->Prop}{d:DefRec}{K:Params->KW}(hn:l.most=some 63)(hdf:d.params.defaults = [])
  (hY:∀(w:World)(h:Heap),YP w h->(K w.params).In h)
  (F:∀(w:World)(mg:Str->Option Value)(fa:Addr)(h:Heap),(K w.params).In h->h.Ns mainGlobals mg->mg d.name=some (.ref fa) ->
   ∃ fd:FuncData,(∀(s:Shared)(u:Value),BindsTo s fd ⟨[u],[]⟩ [("script",u)])/\∀ base:Heap,(K w.params).In base->base.Ns mainGlobals mg->FnOk l.prog w (K w.params) mg base CX0 10 fa fd ["script"] (sO (K w.params))) :
  PySem.W.WalkO q loose XP YP l.row.toRowW d [] (fun f vs=>PySem.call f vs) :=
 L2.walk_of (n:=63) (k:=10) (x:="script") (CX:=fun _=>CX0) (sp:=fun w=>sO (K w.params)) hn (by decide) hdf ⟨rfl,by decide,by decide⟩ hY F (fun _ _ a ns hl _ hS=>⟨a,ns,rfl,hS,hl,fun _=>rfl⟩) fun _ _ _ _ _ z=>z
end KF
def PySem.W.Fast.tw6037001284803510849:Nat:=0
def PySem.W.Fast.tw13888267927777813699:Nat:=0
def PySem.W.Fast.tw6204747655068299940:Nat:=0
def PySem.W.Fast.tw2259199659999727653:Nat:=0
def PySem.W.Fast.tw2637020153369463654:Nat:=0
def PySem.W.Fast.tw8439557921947594761:Nat:=0
def PySem.W.Fast.tw14627813839403316489:Nat:=0
def PySem.W.Fast.tw17031031717805683694:Nat:=0
def PySem.W.Fast.tw4698520138215470287:Nat:=0
def PySem.W.Fast.tw9306507356727115378:Nat:=0
def PySem.W.Fast.tw2137674026518573363:Nat:=0
def PySem.W.Fast.tw1679938771348445493:Nat:=0
def PySem.W.Fast.tw14237866262135574389:Nat:=0
def PySem.W.Fast.tw17791258382465328791:Nat:=0
def PySem.W.Fast.tw4769766041789284215:Nat:=0
def PySem.W.Fast.tw12283148506297579160:Nat:=0
def PySem.W.Fast.tw5039709097511422777:Nat:=0
def PySem.W.Fast.tw9240703697620872858:Nat:=0
def PySem.W.Fast.tw2199074661662403835:Nat:=0
def PySem.W.Fast.tw2208140427531183678:Nat:=0
namespace PySem.W.Fast
def tw13816620724256579584:=0
def tw435357202867248128:=0
def tw28780668444464160:=0
def tw7286675525083478112:=0
def tw15730026777782727776:=0
def tw16184361559586129056:=0
def tw2234412585475398880:=0
def tw10268498176388868352:=0
def tw3799781234988495136:=0
def tw17063065766928752928:=0
def tw2877752298859143520:=0
def tw10280274575003047264:=0
def tw12853759139339302304:=0
def tw2571713048856648160:=0
def tw4315696122738685568:=0
def tw15142848602734336672:=0
def tw1519487900154353440:=0
def tw4255931828822967136:=0
def tw3797209682327469952:=0
def tw3054949973812121504:=0
def tw13396759700208941984:=0
def tw2708368018676798432:=0
def tw3164681535313166337:=0
def tw1639176460297631841:=0
def tw14813609078839412961:=0
def tw5100670799618944225:=0
def tw13530711346007761121:=0
def tw10045741471578162689:=0
def tw17518404514695514625:=0
def tw9315771792695051777:=0
def tw17313323313152691777:=0
def tw1188438140832417377:=0
def tw5149095830884992609:=0
def tw11359125845255215713:=0
def tw10447982137274295969:=0
def tw6830289090107780833:=0
def tw12440457831505391361:=0
def tw9656125480540132129:=0
def tw14614134311227853665:=0
def tw3192014369224910689:=0
def tw2735941933774562177:=0
def tw12646322919406927874:=0
def tw9172036972984677474:=0
def tw3912098253779981442:=0
def tw7208549743133167778:=0
def tw7349606865766916322:=0
def tw14567786566692715842:=0
def tw8308146674564252194:=0
def tw4140126565554069090:=0
def tw17078097382110583394:=0
def tw12453171812452753026:=0
def tw15840784083611958018:=0
def tw11338938773107763010:=0
def tw3225690564254498690:=0
def tw1737757343021820866:=0
def tw8761396153695666211:=0
def tw14840522361107054659:=0
def tw7438680165716624579:=0
def tw8775349501481797859:=0
def tw16118787804047598819:=0
def tw15020367840020526339:=0
def tw4515094949476611363:=0
def tw7333579981289387331:=0
def tw16525261557247048035:=0
def tw17047823550352450947:=0
def tw1166035984427107843:=0
def tw15965865979863084579:=0
def tw13440900182798959171:=0
def tw8140294479231197763:=0
def tw10416325584818030147:=0
def tw8416018990175950435:=0
def tw7366207768973034115:=0
def tw7864453651875716803:=0
def tw17554865876291023555:=0
def tw11900076114552196835:=0
def tw10815217710727421667:=0
def tw15595040725962230595:=0
def tw17464957558207259491:=0
def tw8390343058950901667:=0
def tw1380426837319376803:=0
def tw8935985395163561891:=0
def tw14335534104059867140:=0
def tw6714596946588352548:=0
def tw1219917793877431396:=0
def tw10443132405298000100:=0
def tw16453560118708338948:=0
def tw16189373637107775780:=0
def tw6428220782925137188:=0
def tw253796332095022532:=0
def tw8339033603581819364:=0
def tw17372603833028073028:=0
def tw3045426025155426948:=0
def tw16022150391504553668:=0
def tw3519726501940305764:=0
def tw7020139139650492260:=0
def tw15191756865837386757:=0
def tw13358727888709028901:=0
def tw13715001644547672165:=0
def tw11264112574447568069:=0
def tw16247437465292649701:=0
def tw11282538116304514277:=0
def tw10124142264535972165:=0
def tw17795309618486933861:=0
def tw10599257799203415429:=0
def tw18211253158166818181:=0
def tw5193035939821125061:=0
def tw2473747831269333445:=0
def tw15387964269812651493:=0
def tw17475501311956171269:=0
def tw8647845087578806885:=0
def tw7291634825367441157:=0
def tw8298415927110894373:=0
def tw6436562620925548357:=0
def tw6449242299645354885:=0
def tw13790851173150266277:=0
def tw9144618330369086437:=0
def tw821165655523103750:=0
def tw7616559205897950214:=0
def tw5448584891217957990:=0
def tw10192559578221231238:=0
def tw11041043924093236454:=0
def tw6771393808359757094:=0
def tw1554848432964949286:=0
def tw15262593440213531942:=0
def tw12291102129595559302:=0
def tw12556585558305256838:=0
def tw2705170257342579110:=0
def tw8826593097507917286:=0
def tw553775212171521542:=0
def tw13874932260451795526:=0
def tw5922225869868384902:=0
def tw5660933203854141126:=0
def tw6481418467481597702:=0
def tw16029585614987709222:=0
def tw9158993690058673990:=0
def tw16133245310144522054:=0
def tw1122928972203729830:=0
def tw12917576770020586470:=0
def tw4541440636735587335:=0
def tw15050573068267825191:=0
def tw2836646250289110087:=0
def tw17155650850751925319:=0
def tw4147797288091485351:=0
def tw15978616031080712359:=0
def tw4030545658879550631:=0
def tw17268253089941941415:=0
def tw10671802175097130279:=0
def tw1168799566618929479:=0
def tw2417867393899482663:=0
def tw469561904933754407:=0
def tw13666559002617184871:=0
def tw2142195685949217447:=0
def tw10459261094628135591:=0
def tw3015555269781722887:=0
def tw10865486773258965895:=0
def tw5443425642827849607:=0
def tw18279064165596541863:=0
def tw8557261626326427591:=0
def tw10564256434627565640:=0
def tw6842184406119446664:=0
def tw6196323871072538760:=0
def tw9789263151906876584:=0
def tw4087753723939253480:=0
def tw5303087150974302472:=0
def tw7235706799980423432:=0
def tw10624497999923540264:=0
def tw2760955077620946248:=0
def tw11598500927218136520:=0
def tw4318538438685618664:=0
def tw10837363904490953352:=0
def tw12300426845502921480:=0
def tw4944903877758748456:=0
def tw18348953830656399208:=0
def tw12865578662050221928:=0
def tw11165039537850406856:=0
def tw95377580441287624:=0
def tw10484960800369615848:=0
def tw15389341459250678857:=0
def tw95965823387448585:=0
def tw13338338384550256905:=0
def tw10529537833975216425:=0
def tw1037104945264719241:=0
def tw15918548628458268137:=0
def tw16913004700622306793:=0
def tw4844701842645992969:=0
def tw6019845375423660585:=0
def tw9171556649752941097:=0
def tw11941056661997510185:=0
def tw16632670362863610441:=0
def tw15987968874859126345:=0
def tw11068188609941052041:=0
def tw8600717205462717129:=0
def tw4764104188240849609:=0
def tw14966692620195722953:=0
def tw12161369874345432809:=0
def tw4819649834502140777:=0
def tw3527389353642913705:=0
def tw5374604741844091849:=0
def tw11522945682524185866:=0
def tw10534092271332152618:=0
def tw16310144052724431178:=0
def tw11805948399027723626:=0
def tw7149557242042930570:=0
def tw16843766992180751754:=0
def tw6688082324991855082:=0
def tw11100030218606133898:=0
def tw9632354474328244970:=0
def tw6736071524090366858:=0
def tw9285044980545912714:=0
def tw703793557974508490:=0
def tw4341805283808132107:=0
def tw8718966314429814859:=0
def tw12023415275595193451:=0
def tw7922669046011062411:=0
def tw10091730563576005835:=0
def tw12247987305305859275:=0
def tw15767975491011270955:=0
def tw11262080514166803787:=0
def tw3244304658546025931:=0
def tw16181515697099818507:=0
def tw6303249832093189707:=0
def tw17502752294822533771:=0
def tw10718948783655931563:=0
def tw11816442195206185643:=0
def tw16933689452733563595:=0
def tw4233543367228793547:=0
def tw11157445158877264587:=0
def tw9306755334009497387:=0
def tw3089850236334015307:=0
def tw743032617201121195:=0
def tw17604127585303444524:=0
def tw11141946810211468364:=0
def tw266252803427348556:=0
def tw16930937756255550636:=0
def tw18155493036405670156:=0
def tw18116098952083791212:=0
def tw5641198525613728172:=0
def tw7051608795743251884:=0
def tw13433318890050715052:=0
def tw12542769997495279052:=0
def tw10234483915273077292:=0
def tw9153839331596620428:=0
def tw4722002901245135628:=0
def tw15853174271721234220:=0
def tw5418940987545320268:=0
def tw5241550522491015116:=0
def tw15655561004723127373:=0
def tw4732000257709045933:=0
def tw11622011027316420845:=0
def tw11829851474234245485:=0
def tw5285180496919741069:=0
def tw15891854897566785229:=0
def tw12468771223820683981:=0
def tw15080952791197054701:=0
def tw15442399637789955853:=0
def tw16473696277054537517:=0
def tw9421996118209843117:=0
def tw12849794536425684909:=0
def tw2751681963170372589:=0
def tw4160943745971696654:=0
def tw16847961413493975054:=0
def tw12512544048407067694:=0
def tw5998901365702984750:=0
def tw11982781700864064622:=0
def tw2665271345603735662:=0
def tw10264094384752676974:=0
def tw4140382803601564846:=0
def tw16565490327085988014:=0
def tw9336122445040433326:=0
def tw619860197221694670:=0
def tw9634399468775100654:=0
def tw12694030494422772014:=0
def tw1009814535667840302:=0
def tw9485301326088961326:=0
def tw13699844950453474638:=0
def tw4400992113361698126:=0
def tw1424536460019847502:=0
def tw12460215806122604046:=0
def tw2749767496141410862:=0
def tw3780101830424278606:=0
def tw20233009500790414:=0
def tw11114333189022006926:=0
def tw14388061439311179438:=0
def tw13597379059805006:=0
def tw8794366976656264078:=0
def tw6605586918328263566:=0
def tw12815783505488384942:=0
def tw7182322814055492590:=0
def tw2161484358031825935:=0
def tw10818274760217558031:=0
def tw2696476389213328431:=0
def tw7699280792822413391:=0
def tw10528351083982936175:=0
def tw7651465041110127759:=0
def tw13607438058509789359:=0
def tw2339677012772123887:=0
def tw14721115301930410255:=0
def tw6502124239614980367:=0
def tw13526446991673178447:=0
def tw16271368068780180815:=0
def tw16876906507784523151:=0
def tw12029813442564928015:=0
def tw4749936672112597519:=0
def tw7846504085397125743:=0
def tw15710020412943744687:=0
def tw9148023094335050479:=0
def tw14088305128262644495:=0
def tw5181048389577576271:=0
def tw15653659269171944431:=0
def tw9903511553487720431:=0
def tw10075557193466454064:=0
def tw10283357612496042128:=0
def tw8177919357499959504:=0
def tw8866166600917047568:=0
def tw15125001441640117584:=0
def tw524760328911676784:=0
def tw4369723632174713232:=0
def tw5266035951479176624:=0
def tw6971155743493669392:=0
def tw10460714170928856592:=0
def tw17428405215866837552:=0
def tw1723500105917650480:=0
def tw12689310042494336688:=0
def tw8402593850488896304:=0
def tw4397031019057724208:=0
def tw3341089996278720336:=0
def tw10181549362880476016:=0
def tw6218251731177700304:=0
def tw3514692170495629296:=0
def tw3891338713201138672:=0
def tw1325311992637295697:=0
def tw14160481319450098769:=0
def tw3602767755637394577:=0
def tw2985041094070956177:=0
def tw1957050770864166065:=0
def tw4090499006596546737:=0
def tw11355150958999134417:=0
def tw3912976215034668369:=0
def tw6820178873828223313:=0
def tw2379530206537137521:=0
def tw9977588440378007985:=0
def tw11273772606186850865:=0
def tw9646947294056008305:=0
def tw5792332908223253137:=0
def tw705601153035196049:=0
def tw14527662939479898833:=0
def tw12843358982277271377:=0
def tw15297196432085580625:=0
def tw17048466453896830865:=0
def tw5647492384342509521:=0
def tw8578347543501447186:=0
def tw9358084500370262066:=0
def tw15800676959151995954:=0
def tw17499875110409727026:=0
def tw17987030238755373138:=0
def tw2723927573226689650:=0
def tw17042122256091802738:=0
def tw6524955119422991602:=0
def tw4563804916182676722:=0
def tw456922281124266418:=0
def tw3671980874438533554:=0
def tw17668332178515267058:=0
def tw15432821195897660946:=0
def tw18264967779209443986:=0
def tw17835187272666947635:=0
def tw11220528895083275315:=0
def tw1058848681475619923:=0
def tw16502452406549774483:=0
def tw5243364864938279059:=0
def tw13610153420908252403:=0
def tw7590100459226154355:=0
def tw8583578637248175571:=0
def tw10097549923191301619:=0
def tw17654862713092977139:=0
def tw6786789678760550899:=0
def tw9623416948156561939:=0
def tw9936456081386494547:=0
def tw18059006704688573011:=0
def tw2085149858701006419:=0
def tw11512409614116801139:=0
def tw758500391560027763:=0
def tw8521974775047935699:=0
def tw8806415518291543827:=0
def tw4875971244553362227:=0
def tw7035977244602489683:=0
def tw3582226588674885652:=0
def tw12813808262582248532:=0
def tw14943959337753946228:=0
def tw13459742467028994452:=0
def tw15903894695358002612:=0
def tw7023461611914613236:=0
def tw3932066558239767060:=0
def tw8628638086309496468:=0
def tw6158406012114983636:=0
def tw13140520810832459604:=0
def tw16342093082453555188:=0
def tw5256821678541686772:=0
def tw9266964819860024373:=0
def tw7636545103617595509:=0
def tw6951239709749186709:=0
def tw11285476349694485813:=0
def tw5618338380609247573:=0
def tw14685460617158522229:=0
def tw5542948621081007509:=0
def tw14082213035617819061:=0
def tw10033608814462715349:=0
def tw4781966576031527541:=0
def tw4250593697691803285:=0
def tw18373206653373622933:=0
def tw15403369384921676437:=0
def tw2323154893658805941:=0
def tw9893053031300730677:=0
def tw4424825310256590773:=0
def tw13067094981332107189:=0
def tw16524375504730366933:=0
def tw6236801901817504725:=0
def tw15363922011942457462:=0
def tw16901417968529282262:=0
def tw8192899125173946614:=0
def tw6915496748322927862:=0
def tw14306470188359885078:=0
def tw4186520290764400950:=0
def tw1983046578898312502:=0
def tw6983355426006336854:=0
def tw15851051695984243062:=0
def tw11893854033960392086:=0
def tw11914410489008079286:=0
def tw401591906457538102:=0
def tw6573693384560531030:=0
def tw2724592156193317462:=0
def tw17229993447434637942:=0
def tw9234516449332020982:=0
def tw15816655920534759190:=0
def tw17457955781006251798:=0
def tw6178477888693982070:=0
def tw13641702117572176790:=0
def tw10500553913556554678:=0
def tw13159384982407615478:=0
def tw864075824786840631:=0
def tw14296260359862342743:=0
def tw3043106691469247671:=0
def tw1304949819216136375:=0
def tw10480683452692357367:=0
def tw981165782705213719:=0
def tw8408761352373994775:=0
def tw2781368997192452439:=0
def tw16549657528841425335:=0
def tw10270697122783735255:=0
def tw17023334172909080055:=0
def tw5576700729744741911:=0
def tw17318436741356078679:=0
def tw16206816704727356023:=0
def tw8809739518407041687:=0
def tw11541133789572411095:=0
def tw6050039990170005239:=0
def tw4310930885574895447:=0
def tw8520736732813830007:=0
def tw3372773731209910167:=0
def tw1878994918894818328:=0
def tw18305764039573187640:=0
def tw16949025110532615256:=0
def tw1660555050255516056:=0
def tw10709543570483215864:=0
def tw6563558765587682872:=0
def tw12704741802552929880:=0
def tw12671429659086072472:=0
def tw10042419258309793528:=0
def tw18225815429785815832:=0
def tw1051687243726855960:=0
def tw4650952653837885240:=0
def tw9879857205350690680:=0
def tw1085166441378878424:=0
def tw4805439938672817144:=0
def tw1971389387013019769:=0
def tw3935517483251168377:=0
def tw8760504414985980249:=0
def tw17916367111115882873:=0
def tw12912890278690919833:=0
def tw4044368756916663897:=0
def tw13232476364925332089:=0
def tw2430959960623079033:=0
def tw12859905924740650713:=0
def tw1428237645560929081:=0
def tw3694645630885673945:=0
def tw2199030368835408922:=0
def tw6392376111453519898:=0
def tw12942347969435176986:=0
def tw3138765155495675994:=0
def tw13676266607634211962:=0
def tw1609656008344253594:=0
def tw5816804862495511706:=0
def tw5407990444406626554:=0
def tw9411103122607734074:=0
def tw3626302406894395706:=0
def tw16972216953010149754:=0
def tw15350330336536817114:=0
def tw5884547756000343514:=0
def tw14550807718513591898:=0
def tw16690803455119909466:=0
def tw7099979205566699162:=0
def tw8480415328232485530:=0
def tw7163916493560839834:=0
def tw2450140016696299226:=0
def tw14696674222188486394:=0
def tw11773517791682784058:=0
def tw12793984268056481658:=0
def tw915886144466390938:=0
def tw9850266304176361466:=0
def tw7402413074451657787:=0
def tw6390729603286111323:=0
def tw915919455311996059:=0
def tw430097425503625467:=0
def tw13751427321311480123:=0
def tw2062803109316578651:=0
def tw795892168201141659:=0
def tw613104733545682523:=0
def tw1297940562641366651:=0
def tw16624596526329221787:=0
def tw7271979900851617627:=0
def tw3446919845327945627:=0
def tw14519355241843683323:=0
def tw17037283587479971835:=0
def tw8986220274607326236:=0
def tw347696484969389244:=0
def tw17455673814076655868:=0
def tw12758465002141595964:=0
def tw8488444220306063740:=0
def tw1788868493644195228:=0
def tw11593868143197239804:=0
def tw3201512933553141244:=0
def tw16419913344076046908:=0
def tw8456753102323244604:=0
def tw737209245321187932:=0
def tw2046259281608015484:=0
def tw8982043833933875868:=0
def tw9604941350271283932:=0
def tw7380489318903248668:=0
def tw13067617646630610716:=0
def tw15283797560632699740:=0
def tw970816305101644668:=0
def tw13493433101225224092:=0
def tw13904200302196170684:=0
def tw655920583661750268:=0
def tw13342712006133085277:=0
def tw1830673322047729885:=0
def tw960659379322812669:=0
def tw12437975501214408989:=0
def tw6181612065736771005:=0
def tw17817058629482702333:=0
def tw16446549156205543933:=0
def tw6292872950799526461:=0
def tw14962392396422998621:=0
def tw12862611257464181341:=0
def tw11501244907198175837:=0
def tw15606321608479838845:=0
def tw5054811308962843293:=0
def tw16179397120303130269:=0
def tw17072831357093751581:=0
def tw2337550597358687037:=0
def tw6078391161668781885:=0
def tw4455805062858533757:=0
def tw15294493869278582749:=0
def tw1889520246231210014:=0
def tw16108721219205732414:=0
def tw16084401585376594046:=0
def tw2409366968496572638:=0
def tw8151946371707354398:=0
def tw636000360413854014:=0
def tw689836701726755134:=0
def tw13858334051267652062:=0
def tw9390657007507010014:=0
def tw1936595366930959902:=0
def tw5345519489494343198:=0
def tw2123659661685328446:=0
def tw4748660848606906942:=0
def tw404155990358941470:=0
def tw5021705369255540574:=0
def tw4132024561724737406:=0
def tw13059538095618001951:=0
def tw8059640684185734207:=0
def tw17723996755572530303:=0
def tw2105322814483054751:=0
def tw14656076479706418335:=0
def tw13955722749113249983:=0
def tw1230866892509919423:=0
def tw6734600628817111263:=0
def tw15517770258101097791:=0
def tw609826079592889695:=0
def tw4657057952907023711:=0
def tw9060600558063287679:=0
def tw9840509855263178143:=0
def tw12423346066578955775:=0
def tw14107638187828284095:=0
def tw11866216309399520991:=0
def tw1258990750352935711:=0
def tw6545442669975933727:=0
def tw18387654141801130911:=0
def tw3164132993151750079:=0
def tw9039357340670993375:=0
def tw6132998960931428351:=0
def tw15517741413801305240:=0
end PySem.W.Fast
open PySem PySem.W PyProof.Rows
set_option maxRecDepth 100000 in
set_option maxHeartbeats 0 in
theorem PySem.Challenge.cw_spinfloor_k63_deeds_done_holds : PySem.Challenge.rw_spinfloor_k63_deeds_done.Holds := by
 w_on;o_law;k_head;(case hw=>w_witness2)
 k_fill
 refine KF.walk (l:=PySem.Challenge.rw_spinfloor_k63_deeds_done) rfl rfl (fun w h Y=>PySem.W.kIn_of Y) ?F
 case F =>
  intro w mg fa h KX G hmg
  refine' KF.all_mk KX G hmg ?Bz ?By ?BA ?He ?hX ?hW ?hV ?hU ?ia ?lP ?h7 ?hZ ?jK ?qo ?o7 ?qa ?kO ?ip ?iJ ?ir ?eu ?l5 ?mF ?i6 ?l9 ?jU ?kf ?gm ?jY ?Hd ?FI ?GQ ?k_head ?qp ?o8 ?qb ?kP ?mO ?lZ ?mE ?i5 ?iL ?ie ?iE ?eh ?ko ?jN ?j6 ?f7 ?mK ?lU ?mz ?iZ ?gM ?fU ?gH ?du ?eW ?eN ?eS ?cW ?dX ?dP ?dU ?cC ?il ?iI ?iq ?iw ?vf ?ug ?uT ?nW ?qm ?o6 ?pZ ?kM ?ql ?o5 ?pY ?kL ?kr ?jO ?j7 ?f9 ?iO ?ik ?iH ?et ?dh ?dc ?df ?bY ?gN ?fV ?gI ?dv ?mJ ?lS ?my ?iY ?kj ?jL ?j4 ?fY ?Bx ?Ad ?AY ?ui ?vg ?uh ?uU ?nX ?kn ?jM ?j5 ?fZ ?iK ?ic ?iD ?eg ?Hc ?FH ?GP ?BV ?Hb ?FG ?GO ?BU ?eX ?eO ?eU ?cX ?mI ?lR ?mw ?iX ?ve ?uf ?uS ?nV ?qq ?o9 ?qc ?kQ ?qu ?pd ?qd ?kR ?fX ?gJ ?gq ?gs ?pf ?qf ?kT ?pE ?jW ?kh ?gp ?j2 ?jV ?kg ?gn ?jZ ?mN ?lY ?mD ?i4 ?mL ?lW ?mB ?i0 ?iN ?ij ?iG ?er ?ky ?jQ ?j9 ?gf ?kA ?jS ?kc ?gh ?kz ?jR ?ka ?gg ?di ?de ?dg ?bZ ?kB ?jT ?ke ?gj ?ku ?jP ?j8 ?gd ?eY ?eP ?eV ?cY ?mM ?lX ?mC ?i3 ?iM ?ig ?iF ?ek ?Iz ?Kb ?KD ?Ke ?zw ?Av ?zf ?y9 ?zT ?Af ?jJ ?jI ?da ?zv ?Au ?ze ?y8 ?zS ?Ae ?jH ?jG ?c9 ?zx ?Aw ?zg ?za ?zU ?Ag ?hG ?EV ?F4 ?ER ?EH ?Fw ?FN ?jF ?jE ?g8 ?fQ ?g9 ?gi_gF ?gi_gD ?gi_gL ?Jf ?Jg ?Jc ?Ef ?Ee ?yH ?yI ?Ji ?jw ?gW ?Jd ?Jb ?sk ?Je ?Ja ?Jh
  (case Bz=>k_is)
  (case By=>k_is)
  (case BA=>k_is)
  (case He=>k_is)
  (case hX=>k_is)
  (case hW=>k_is)
  (case hV=>k_is)
  (case hU=>k_is)
  (case ia=>k_is)
  (case lP=>k_is)
  (case h7=>k_is)
  (case hZ=>k_is)
  (case jK=>k_is)
  (case qo=>k_is)
  (case o7=>k_is)
  (case qa=>k_is)
  (case kO=>k_is)
  (case ip=>k_is)
  (case iJ=>k_is)
  (case ir=>k_is)
  (case eu=>k_is)
  (case l5=>k_is)
  (case mF=>k_is)
  (case i6=>k_is)
  (case l9=>k_is)
  (case jU=>k_is)
  (case kf=>k_is)
  (case gm=>k_is)
  (case jY=>k_is)
  (case Hd=>k_is)
  (case FI=>k_is)
  (case GQ=>k_is)
  (case k_head=>k_is)
  (case qp=>k_is)
  (case o8=>k_is)
  (case qb=>k_is)
  (case kP=>k_is)
  (case mO=>k_is)
  (case lZ=>k_is)
  (case mE=>k_is)
  (case i5=>k_is)
  (case iL=>k_is)
  (case ie=>k_is)
  (case iE=>k_is)
  (case eh=>k_is)
  (case ko=>k_is)
  (case jN=>k_is)
  (case j6=>k_is)
  (case f7=>k_is)
  (case mK=>k_is)
  (case lU=>k_is)
  (case mz=>k_is)
  (case iZ=>k_is)
  (case gM=>k_is)
  (case fU=>k_is)
  (case gH=>k_is)
  (case du=>k_is)
  (case eW=>k_is)
  (case eN=>k_is)
  (case eS=>k_is)
  (case cW=>k_is)
  (case dX=>k_is)
  (case dP=>k_is)
  (case dU=>k_is)
  (case cC=>k_is)
  (case il=>k_is)
  (case iI=>k_is)
  (case iq=>k_is)
  (case iw=>k_is)
  (case vf=>k_is)
  (case ug=>k_is)
  (case uT=>k_is)
  (case nW=>k_is)
  (case qm=>k_is)
  (case o6=>k_is)
  (case pZ=>k_is)
  (case kM=>k_is)
  (case ql=>k_is)
  (case o5=>k_is)
  (case pY=>k_is)
  (case kL=>k_is)
  (case kr=>k_is)
  (case jO=>k_is)
  (case j7=>k_is)
  (case f9=>k_is)
  (case iO=>k_is)
  (case ik=>k_is)
  (case iH=>k_is)
  (case et=>k_is)
  (case dh=>k_is)
  (case dc=>k_is)
  (case df=>k_is)
  (case bY=>k_is)
  (case gN=>k_is)
  (case fV=>k_is)
  (case gI=>k_is)
  (case dv=>k_is)
  (case mJ=>k_is)
  (case lS=>k_is)
  (case my=>k_is)
  (case iY=>k_is)
  (case kj=>k_is)
  (case jL=>k_is)
  (case j4=>k_is)
  (case fY=>k_is)
  (case Bx=>k_is)
  (case Ad=>k_is)
  (case AY=>k_is)
  (case ui=>k_is)
  (case vg=>k_is)
  (case uh=>k_is)
  (case uU=>k_is)
  (case nX=>k_is)
  (case kn=>k_is)
  (case jM=>k_is)
  (case j5=>k_is)
  (case fZ=>k_is)
  (case iK=>k_is)
  (case ic=>k_is)
  (case iD=>k_is)
  (case eg=>k_is)
  (case Hc=>k_is)
  (case FH=>k_is)
  (case GP=>k_is)
  (case BV=>k_is)
  (case Hb=>k_is)
  (case FG=>k_is)
  (case GO=>k_is)
  (case BU=>k_is)
  (case eX=>k_is)
  (case eO=>k_is)
  (case eU=>k_is)
  (case cX=>k_is)
  (case mI=>k_is)
  (case lR=>k_is)
  (case mw=>k_is)
  (case iX=>k_is)
  (case ve=>k_is)
  (case uf=>k_is)
  (case uS=>k_is)
  (case nV=>k_is)
  (case qq=>k_is)
  (case o9=>k_is)
  (case qc=>k_is)
  (case kQ=>k_is)
  (case qu=>k_is)
  (case pd=>k_is)
  (case qd=>k_is)
  (case kR=>k_is)
  (case fX=>k_is)
  (case gJ=>k_is)
  (case gq=>k_is)
  (case gs=>k_is)
  (case pf=>k_is)
  (case qf=>k_is)
  (case kT=>k_is)
  (case pE=>k_is)
  (case jW=>k_is)
  (case kh=>k_is)
  (case gp=>k_is)
  (case j2=>k_is)
  (case jV=>k_is)
  (case kg=>k_is)
  (case gn=>k_is)
  (case jZ=>k_is)
  (case mN=>k_is)
  (case lY=>k_is)
  (case mD=>k_is)
  (case i4=>k_is)
  (case mL=>k_is)
  (case lW=>k_is)
  (case mB=>k_is)
  (case i0=>k_is)
  (case iN=>k_is)
  (case ij=>k_is)
  (case iG=>k_is)
  (case er=>k_is)
  (case ky=>k_is)
  (case jQ=>k_is)
  (case j9=>k_is)
  (case gf=>k_is)
  (case kA=>k_is)
  (case jS=>k_is)
  (case kc=>k_is)
  (case gh=>k_is)
  (case kz=>k_is)
  (case jR=>k_is)
  (case ka=>k_is)
  (case gg=>k_is)
  (case di=>k_is)
  (case de=>k_is)
  (case dg=>k_is)
  (case bZ=>k_is)
  (case kB=>k_is)
  (case jT=>k_is)
  (case ke=>k_is)
  (case gj=>k_is)
  (case ku=>k_is)
  (case jP=>k_is)
  (case j8=>k_is)
  (case gd=>k_is)
  (case eY=>k_is)
  (case eP=>k_is)
  (case eV=>k_is)
  (case cY=>k_is)
  (case mM=>k_is)
  (case lX=>k_is)
  (case mC=>k_is)
  (case i3=>k_is)
  (case iM=>k_is)
  (case ig=>k_is)
  (case iF=>k_is)
  (case ek=>k_is)
  (case Iz=>k_is)
  (case Kb=>k_is)
  (case KD=>k_is)
  (case Ke=>k_is)
  (case zw=>k_is)
  (case Av=>k_is)
  (case zf=>k_is)
  (case y9=>k_is)
  (case zT=>k_is)
  (case Af=>k_is)
  (case jJ=>k_is)
  (case jI=>k_is)
  (case da=>k_is)
  (case zv=>k_is)
  (case Au=>k_is)
  (case ze=>k_is)
  (case y8=>k_is)
  (case zS=>k_is)
  (case Ae=>k_is)
  (case jH=>k_is)
  (case jG=>k_is)
  (case c9=>k_is)
  (case zx=>k_is)
  (case Aw=>k_is)
  (case zg=>k_is)
  (case za=>k_is)
  (case zU=>k_is)
  (case Ag=>k_is)
  (case hG=>k_is)
  (case EV=>k_is)
  (case F4=>k_is)
  (case ER=>k_is)
  (case EH=>k_is)
  (case Fw=>k_is)
  (case FN=>k_is)
  (case jF=>k_is)
  (case jE=>k_is)
  (case g8=>k_is)
  (case fQ=>k_is)
  (case g9=>k_is)
  (case gi_gF=>k_is)
  (case gi_gD=>k_is)
  (case gi_gL=>k_is)
  (case Jf=>k_is)
  (case Jg=>k_is)
  (case Jc=>k_is)
  (case Ef=>k_is)
  (case Ee=>k_is)
  (case yH=>k_is)
  (case yI=>k_is)
  (case Ji=>k_is)
  (case jw=>k_is)
  (case gW=>k_is)
  (case Jd=>k_is)
  (case Jb=>k_is)
  (case sk=>k_is)
  (case Je=>k_is)
  (case Ja=>k_is)
  (case Jh=>k_is)
