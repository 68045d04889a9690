import PyProof.Rows.All
import Wide.All
import OpenK.AllK
import Wide.FinOn
import Lean
import PyProof.EqAt
import PyProof.EqKinds
import PyProof.TupleCall
import PySem.Challenge.RW_spinfloor_k58_strips_as_webs
open Array renaming length_toList → Ek
open Bool renaming false_ne_true → CM, and_eq_true_iff → Du, and_eq_true → DO, false_and → DV, eq_iff_iff → Ec, or_eq_true_iff → Ej, false_eq_true → Em, eq_false_iff → Ep
open Int renaming toNat_natCast → CF, natCast_add → C3, zero_add → Dg, natCast_mul → Dy, emod_nonneg → EB
open List renaming getElem?_eq_some_iff → Ca, length_append → Cb, getElem?_eq_getElem → Cc, length_map → Cd, mem_of_getElem? → Ce, getElem?_append_right → Cf, replicate → Ci, getElem?_append_left → Cj, mem_append_right → Cm, mem_cons → Co, length_singleton → Cp, range → Ct, size_toArray → Cy, mem_append → CA, mem_cons_self → CG, getElem?_map → CH, mem_cons_of_mem → CN, map_append → CP, length_range → CU, take_add_one → CY, map_cons → C0, mem_append_left → C1, append_nil → C2, take_length → C7, not_mem_nil → C8, mem_map → Dc, append_assoc → Dd, mem_flatten → De, length_cons → Df, mem_iff_getElem? → Dk, length_set → Dl, flatten_cons → Dn, replicate_succ → Dp, take_of_length_le → Dq, getD_eq_getElem?_getD → Dr, length_take → Dt, nodup_cons → Dw, getElem?_set → Dx, getElem?_replicate → Dz, nodup_append → DD, flatten_append → DH, range_succ → DI, length_nil → DJ, find?_cons → DL, lookup → DS, mem_range → DU, idxOf_lt_length_iff → DZ, length_drop → D5, length_pos_of_mem → D6, take_append_drop → Eb, getElem?_set_ne → Ed, nodup_nil → Ee, filterMap_cons → Ei, mem_filterMap → El, map_nil → Es, eq_nil_of_length_eq_zero → Eu, all_eq_true → Ew, of_mem_zip → EA, pairwise_iff_getElem → EG, mem_or_eq_of_mem_set → EH, any_cons → EM
open Nat renaming le_refl → Cg, lt_of_lt_of_le → CI, ne_of_lt → CJ, eq_of_beq_eq_true → CO, le_of_lt → CQ, sub_self → CZ, lt_irrefl → C4, le_trans → C6, zero_le → Dm, mod_eq_of_lt → DA, le_of_ble_eq_true → DB, beq → DC, lt_succ_self → DF, le_succ → DG, ne_of_gt → DN, mul_le_mul_right → DQ, lt_succ_of_lt → DY, not_lt_zero → Ea, ble → Eh, mod_self → Er, testBit → Ez, testBit_or → EF
open Option renaming map_eq_some_iff → Dh, isSome_iff_exists → DX, map_some → D9
open Option.some renaming inj → Cz
open PySem renaming Spec → Cr, mem_of_lookup → C9, frameOf → EK
open PySem.F renaming plainAttrs_list → CD, type_list_append → CK, slot_list_append → CL, excBase_ValueError → EC, type_list_extend → EI, slot_list_extend → EJ
open PySem.W renaming Frag → B9, nsIn → Ck, keepIn → Cn, findIn → Cq, mg_of → Cu, codeIn → Cv, kitOne → Cw, fnOf → CB, mg_none_of → CS, mroIn → CV, kia_one → C5, hasDictIn → Di, emptyDict → Dj, instObj → Dv, plainGet → DE, plainOver → DM, looks_findIn → DP, makesIn → DR, callWith_K → DT, specialIn → DW, excIn → D3, Looks → D4, takesIn → D8, looks_mroIn → Ef, hideAll_get → Eg, methodObj → Eo, any_some → Et, takerIn → Ex, OpenLaw → Ey, notCls → ED, lookIn → EE, clsIn → EL
set_option Elab.async false
set_option linter.all false
set_option maxRecDepth 100000
local macro_rules | `(tactic| omega) => `(tactic| first | assumption | lia | omega +splitDisjunctions)
namespace L2
open PySem PySem.Spec PyProof.Rows
abbrev Key:=Sum Int Str
def xi:Key->Value->Bool
 |.inl k,v=>Value.isInt k v
 |.inr x,v=>Value.isStrOf x v
def keyH(w:World):Key->Int
 |.inl k=>hashInt k
 |.inr x=>hashStr w x
theorem bj:∀{k:Key}{v:Value},xi k v=true->(∃ i t,k=Sum.inl i/\v=Value.int i t)∨(∃ x t,k=Sum.inr x/\v=Value.str x t)
 |.inl i,v,h=>by
  obtain⟨t,e⟩:=Value.isInt_shape (k:=i) (v:=v) h
  exact .inl ⟨i,t,rfl,e⟩
 |.inr x,v,h=>by
  obtain⟨t,e⟩:=Value.isStrOf_shape (x:=x) (v:=v) h
  exact .inr ⟨x,t,rfl,e⟩
theorem yK(i:Int)(t:Tok):xi (.inl i) (.int i t)=true:=by simp[xi,Value.isInt]
theorem yJ(x:Str)(t:Tok):xi (.inr x) (.str x t)=true:=by simp[xi,Value.isStrOf]
theorem key_ll(a b:Int):decide ((Sum.inl a:Key)=Sum.inl b)=(a == b):=by
 by_cases e:a=b
 ·subst e;simp
 ·have h:¬ (Sum.inl a:Key)=Sum.inl b:=fun q=>e (Sum.inl.inj q)
  rw[decide_eq_false h]
  exact(beq_eq_false_iff_ne.mpr e).symm
theorem key_rr(a b:Str):decide ((Sum.inr a:Key)=Sum.inr b)=decide (a=b):=by
 by_cases e:a=b
 ·subst e;simp
 ·have h:¬ (Sum.inr a:Key)=Sum.inr b:=fun q=>e (Sum.inr.inj q)
  rw[decide_eq_false h,decide_eq_false e]
theorem key_lr(a:Int)(b:Str):decide ((Sum.inl a:Key)=Sum.inr b)=false:=decide_eq_false (fun q=>nomatch q)
theorem key_rl(a:Str)(b:Int):decide ((Sum.inr a:Key)=Sum.inl b)=false:=decide_eq_false (fun q=>nomatch q)
def cF(prog:Program)(w:World):PySem.KeyKind prog w Key where
 is:=xi
 hash:=keyH w
 inj:=fun v a b ha hb=>by
  rcases bj ha with⟨i,t,rfl,rfl⟩ | ⟨x,t,rfl,rfl⟩
  ·rcases bj hb with⟨j,u,rfl,e⟩ | ⟨y,u,rfl,e⟩
   ·injection e with e1 _;rw[e1]
   ·exact nomatch e
  ·rcases bj hb with⟨j,u,rfl,e⟩ | ⟨y,u,rfl,e⟩
   ·exact nomatch e
   ·injection e with e1 _;rw[e1]
 byValue:=fun k v h=>by
  rcases bj h with⟨i,t,rfl,rfl⟩ | ⟨x,t,rfl,rfl⟩<;>rfl
 pyHash:=fun hv h=>by
  rcases bj hv with⟨i,t,rfl,rfl⟩ | ⟨x,t,rfl,rfl⟩
  ·exact wpAny_pyHash_int h
  ·exact wpAny_pyHash_str h
 eqBool:=fun hu hv h=>by
  rcases bj hu with⟨i,t,rfl,rfl⟩ | ⟨x,t,rfl,rfl⟩
  ·rcases bj hv with⟨j,u,rfl,rfl⟩ | ⟨y,u,rfl,rfl⟩
   ·rw[key_ll]at h;exact wpAny_eqBool_int h
   ·rw[key_lr]at h;exact SeqAt.EqAt.int_str i t y u _ _ _ _ h
  ·rcases bj hv with⟨j,u,rfl,rfl⟩ | ⟨y,u,rfl,rfl⟩
   ·rw[key_rl]at h;exact SeqAt.EqAt.str_int x t j u _ _ _ _ h
   ·rw[key_rr]at h;exact wpAny_eqBool_str h
 «strs»:=fun k x t v h=>by
  rcases bj h with⟨i,u,rfl,e⟩ | ⟨y,u,rfl,e⟩
  ·exact nomatch e
  ·injection e with e1 _
   subst e1
   cases v<;>rfl
theorem vc(prog:Program)(w:World)(i:Int)(t:Tok):(cF prog w).is (.inl i) (.int i t)=true:=yK i t
theorem vb(prog:Program)(w:World)(x:Str)(t:Tok):(cF prog w).is (.inr x) (.str x t)=true:=yJ x t
end L2
namespace L2
open PySem PySem.Spec PyProof.Rows
inductive V where
 |non | bl (b:Bool) | int (i:Int) | str (x:Str) | byt (b:Array UInt8) | flt (b:UInt64) | ref (a:Addr) | ty (n:String)
 deriving DecidableEq
def RelV:V->Value->Prop
 |.non,u=>u=Value.none
 |.bl b,u=>u=Value.bool b
 |.int i,u=>∃ t,u=Value.int i t
 |.str x,u=>∃ t,u=Value.str x t
 |.byt b,u=>∃ t,u=Value.bytes b t
 |.flt b,u=>∃ t,u=Value.float b t
 |.ref a,u=>u=Value.ref a
 |.ty n,u=>u=Value.type n
abbrev Vals:List V->List Value->Prop:=Paired RelV
theorem Vals.length{xs:List V}{us:List Value}(r:Vals xs us):xs.length=us.length:=Paired.length r
theorem Vals.get:∀{xs:List V}{us:List Value}{i:Nat}{x:V},Vals xs us->xs[i]?=some x->∃ u,us[i]?=some u/\RelV x u
 |_,_,_,_,.nil,e=>by simp at e
 |_,_,0,_,.cons r _,e=>by simp at e;subst e;exact⟨_,rfl,r⟩
 |_,_,i+1,x,.cons _ t,e=>by
  obtain⟨u,h1,h2⟩:=Vals.get (i:=i) (x:=x) t (by simpa using e)
  exact⟨u,by simpa using h1,h2⟩
theorem Vals.set{x:V}{u:Value}(r:RelV x u):∀{xs:List V}{us:List Value}(i:Nat),Vals xs us->Vals (xs.set i x) (us.set i u)
 |_,_,_,.nil=>.nil
 |_,_,0,.cons _ t=>.cons r t
 |_,_,i+1,.cons q t=>.cons q (Vals.set r i t)
theorem Vals.append:∀{xs ys:List V}{us ws:List Value},Vals xs us->Vals ys ws->Vals (xs++ys) (us++ws)
 |_,_,_,_,.nil,s=>s
 |_,_,_,_,.cons r t,s=>.cons r (Vals.append t s)
theorem Vals.take:∀{xs:List V}{us:List Value}(n:Nat),Vals xs us->Vals (xs.take n) (us.take n)
 |_,_,0,_=>.nil
 |_,_,_+1,.nil=>.nil
 |_,_,n+1,.cons r t=>.cons r (Vals.take n t)
theorem Vals.drop:∀{xs:List V}{us:List Value}(n:Nat),Vals xs us->Vals (xs.drop n) (us.drop n)
 |_,_,0,r=>r
 |_,_,_+1,.nil=>.nil
 |_,_,n+1,.cons _ t=>Vals.drop n t
def RelO:Option V->Option Value->Prop
 |some v,some u=>RelV v u
 |none,none=>True
 |_,_=>False
def KV{κ:Type}:List (κ×V)->List (κ×Value)->Prop:=Paired fun(p:κ×V) (q:κ×Value)=>p.1=q.1/\RelV p.2 q.2
def kV:Key->V
 |.inl i=>.int i
 |.inr x=>.str x
inductive HO where
  |lst (xs:List V)
  |tup (xs:List V)
  |dK (kvs:List (Key×V)) | dT (kvs:List (List Key×V))
  |set (S:Int->Bool) (n:Nat)
  |ins (C dx:Addr) (fs:List (Str×V))
  |own (x:Addr)
  |xd (fs:List (Str×V))
  |met (f x:Addr)
  |rng (lo hi:Int)
  |frz (o:Obj) (u:HO)
  |tbl (ps:Array Value)
  |ext (φ:Heap->Prop)
abbrev Hp:=Addr->Option HO
def upd(H:Hp)(a:Addr)(o:HO):Hp:=fun b=>if b=a then some o else H b
theorem ae{H:Hp}{a:Addr}{o:HO}:upd H a o a=some o:=by unfold upd;rw[if_pos rfl]
theorem ao{H:Hp}{a b:Addr}{o:HO}(h:b≠a):upd H a o b=H b:=by unfold upd;rw[if_neg h]
theorem ne_of{H:Hp}{a b:Addr}{o u:HO}(h:H a=some o)(h':H b=some u)(d:o≠u):a≠b:=by
 intro e;subst e;rw[h]at h';exact d (Cz h')
theorem aF{H:Hp}{a b:Addr}{o:HO}(h:H a=some o)(h':H b=none):a≠b:=by
 intro e;subst e;rw[h]at h';cases h'
section
variable(P:Program)(w:World)
def bO(H:Hp)(h:Heap)(a:Addr):HO->Prop
 |.lst xs=>xs.length<=sizeLine/\∃(its:List Value)(n:Nat),Vals xs its/\h.get? a=some { cls:=.type "list",data:=.seq its.toArray n }
 |.tup xs=>xs.length<=sizeLine/\∃ its:List Value,Vals xs its/\IsTup h a its.toArray
 |.dK kvs=>kvs.length<=sizeLine/\(a == sysModules)=false/\∃ vs,KV kvs vs/\h.DictOf (cF P w) a vs
 |.dT kvs=>kvs.length<=sizeLine/\(a == sysModules)=false/\∃ xs:List (List Key×Addr×Value),
   Paired (fun(p:List Key×V) (q:List Key×Addr×Value)=>p.1=q.1/\H q.2.1=some (.tup (p.1.map kV))/\RelV p.2 q.2.2) kvs xs /\
   ∃ o es ep,h.get? a=some o/\o.ExactDict/\o.data=.dict es ep/\es.toList=xs.map (entryOfKey (tupleKind (cF P w)))/\(xs.map (·.1)).Nodup
 |.set S n=>h.SetOf (intKind P w) a S n
 |.ins C dx fs=>H dx=some (.own a)/\fs.length<=1000/\dx≠a/\h.get? a=some (Dv C dx) /\
   ∃ mA,h.Ns1 dx mA/\(∀ f,RelO (fs.lookup f) (mA f))/\PySem.Within mA (fs.map (·.1))
 |.own _=>∃ o,h.get? a=some o
 |.xd fs=>∃ mA,h.Ns1 a mA/\∀ f,RelO (fs.lookup f) (mA f)
 |.rng lo hi=>∃ t u v,h.get? a=some { cls:=.type "range",data:=.fields #[.int lo t,.int hi u,.int 1 v] }
 |.frz o u=>h.get? a=some o/\bO H h a u
 |.tbl ps=>h.get? a=some { cls:=.none,data:=.fields ps }
 |.met f x=>h.get? a=some (Eo (.ref f) (.ref x))
 |.ext φ=>φ h/\(∃ o,h.get? a=some o)/\∀ h1 h2:Heap,φ h1->(∀ o,h1.get? a=some o->h2.get? a=some o)->φ h2
def HOk(H:Hp)(h:Heap):Prop:=∀ a o,H a=some o->bO P w H h a o
end
section
variable{P:Program}{w:World}{H H':Hp}{h h':Heap}{a:Addr}{o:HO}
theorem bO.lt(x:bO P w H h a o):a<h.objs.size:=by
 cases o with
 |lst xs=>obtain⟨_,_,_,_,e⟩:=x;exact Heap.lt_size e
 |tup xs=>obtain⟨_,_,_,p⟩:=x;exact p.lt
 |dK kvs=>obtain⟨_,_,_,_,o,_,_,e,_⟩:=x;exact Heap.lt_size e
 |dT kvs=>obtain⟨_,_,_,_,o,_,_,e,_⟩:=x;exact Heap.lt_size e
 |set S n=>obtain⟨o,_,_,_,e,_⟩:=x;exact Heap.lt_size e
 |ins C dx fs=>obtain⟨_,_,_,e,_⟩:=x;exact Heap.lt_size e
 |own y=>obtain⟨_,e⟩:=x;exact Heap.lt_size e
 |xd fs=>obtain⟨_,⟨_,_,_,e,_⟩,_⟩:=x;exact Heap.lt_size e
 |rng lo hi=>obtain⟨_,_,_,e⟩:=x;exact Heap.lt_size e
 |frz ob u=>obtain⟨e,_⟩:=x;exact Heap.lt_size e
 |tbl ps=>exact Heap.lt_size (show h.get? a=some _ from x)
 |met f y=>exact Heap.lt_size (show h.get? a=some _ from x)
 |ext φ=>obtain⟨_,⟨_,e⟩,_⟩:=x;exact Heap.lt_size e
theorem Paired.mapP{α β:Type}{F G:α->β->Prop}:∀{l₁:List α}{l₂:List β},Paired F l₁ l₂->(∀ a b,F a b->G a b)->Paired G l₁ l₂
 |_,_,.nil,_=>.nil
 |_,_,.cons r t,f=>.cons (f _ _ r) (Paired.mapP t f)
theorem bO.stay(x:bO P w H h a o)(k:∀ b u,(b=a∨H b=some (.own a))->h.get? b=some u->h'.get? b=some u)
  (ho:∀ b,H b=some (.own a)->H' b=some (.own a)) (ht:∀ b xs,H b=some (.tup xs)->H' b=some (.tup xs)):bO P w H' h' a o:=by
 induction o with
 |lst xs=>obtain⟨z,its,n,r,e⟩:=x;exact⟨z,its,n,r,k _ _ (.inl rfl) e⟩
 |tup xs=>obtain⟨z,its,r,ob,e,c⟩:=x;exact⟨z,its,r,ob,k _ _ (.inl rfl) e,c⟩
 |dK kvs=>obtain⟨z,y,vs,r,ob,es,ep,e,c⟩:=x;exact⟨z,y,vs,r,ob,es,ep,k _ _ (.inl rfl) e,c⟩
 |dT kvs =>
  obtain⟨z,y,xs,r,ob,es,ep,e,c⟩:=x
  exact⟨z,y,xs,Paired.mapP r fun p q z=>⟨z.1,ht _ _ z.2.1,z.2.2⟩,ob,es,ep,k _ _ (.inl rfl) e,c⟩
 |set S n=>obtain⟨ob,es,ep,t,e,c⟩:=x;exact⟨ob,es,ep,t,k _ _ (.inl rfl) e,c⟩
 |ins C dx fs =>
  obtain⟨d,z,ne,e,mA,⟨od,es,ep,e2,c⟩,r⟩:=x
  exact⟨ho _ d,z,ne,k _ _ (.inl rfl) e,mA,⟨od,es,ep,k _ _ (.inr d) e2,c⟩,r⟩
 |own y=>obtain⟨ob,e⟩:=x;exact⟨ob,k _ _ (.inl rfl) e⟩
 |xd fs=>obtain⟨mA,⟨od,es,ep,e,c⟩,r⟩:=x;exact⟨mA,⟨od,es,ep,k _ _ (.inl rfl) e,c⟩,r⟩
 |rng lo hi=>obtain⟨t,u,v,e⟩:=x;exact⟨t,u,v,k _ _ (.inl rfl) e⟩
 |frz ob u ih=>obtain⟨e,q⟩:=x;exact⟨k _ _ (.inl rfl) e,ih q⟩
 |tbl ps =>
  have e:h.get? a=some { cls:=.none,data:=.fields ps }:=x
  show h'.get? a=some { cls:=.none,data:=.fields ps }
  exact k a _ (.inl rfl) e
 |met f y =>
  have e:h.get? a=some (Eo (.ref f) (.ref y)):=x
  show h'.get? a=some (Eo (.ref f) (.ref y))
  exact k a _ (.inl rfl) e
 |ext φ=>obtain⟨p,⟨o,e⟩,st⟩:=x;exact⟨st _ _ p fun o q=>k _ _ (.inl rfl) q,⟨o,k _ _ (.inl rfl) e⟩,st⟩
theorem HOk.lt(x:HOk P w H h)(e:H a=some o):a<h.objs.size:=(x a o e).lt
theorem HOk.fresh(x:HOk P w H h)(e:h.objs.size<=a):H a=none:=by
 cases q:H a with
 |none=>rfl
 |some u=>exact absurd (CI (x.lt q) e) (C4 _)
theorem HOk.kept(x:HOk P w H h)(k:∀ b u,h.get? b=some u->h'.get? b=some u):HOk P w H h':=fun a o e =>
 (x a o e).stay (fun b u _ q=>k b u q) (fun _ q=>q) fun _ _ q=>q
theorem HOk.laid(x:HOk P w H h)(k:∀ b u,h.get? b=some u->h'.get? b=some u)(hp:h.objs.size<=a)(new:bO P w (upd H a o) h' a o):HOk P w (upd H a o) h':=fun b u e=>by
 have hn:=x.fresh hp
 by_cases hb:b=a
 ·subst hb;rw[ae]at e;cases e;exact new
 ·rw[ao hb]at e
  exact(x b u e).stay (fun c v _ q=>k c v q) (fun c q=>by rw[ao (aF q hn)];exact q) fun c xs q=>by rw[ao (aF q hn)];exact q
end
def Rd(H:Hp)(a:Addr)(u:HO):Prop:=H a=some u∨∃ o,H a=some (.frz o u)
theorem Rd.ok{P:Program}{w:World}{H:Hp}{h:Heap}{a:Addr}{u:HO}(r:Rd H a u)(x:HOk P w H h):bO P w H h a u:=by
 rcases r with r | ⟨o,r⟩
 ·exact x a u r
 ·obtain⟨_,q⟩:=x a _ r
  exact q
def Mut:Option HO->Prop
 |some (.lst _)=>True
 |some (.dK _)=>True
 |some (.dT _)=>True
 |some (.set _ _)=>True
 |some (.ins _ _ _)=>True
 |some (.ext _)=>True
 |_=>False
section
variable{P:Program}{w:World}{H:Hp}{h h':Heap}{x e:Addr}{o':HO}
theorem HOk.write(ok:HOk P w H h)(mu:Mut (H x))(he:e=x∨H e=some (.own x))(k:∀ b u,b≠e->h.get? b=some u->h'.get? b=some u)(heo:∃ u,h'.get? e=some u)
  (new:bO P w (upd H x o') h' x o'):HOk P w (upd H x o') h':=fun b u q=>by
 have nown:∀ c y,H c=some (.own y)->c≠x:=fun c y r z=>by subst z;rw[r]at mu;exact mu
 have ntup:∀ c xs,H c=some (.tup xs)->c≠x:=fun c xs r z=>by subst z;rw[r]at mu;exact mu
 by_cases hb:b=x
 ·subst hb;rw[ae]at q;cases q;exact new
 ·rw[ao hb]at q
  by_cases hbe:b=e
  ·have q':H b=some (.own x):=by
    rcases he with z | z
    ·exact absurd (hbe.trans z) hb
    ·rw[hbe];exact z
   rw[q]at q';cases q'
   obtain⟨v,hv⟩:=heo
   exact⟨v,by rw[hbe];exact hv⟩
  ·refine(ok b u q).stay (fun c v hc r=>k c v ?_ r) (fun c r=>by rw[ao (nown c b r)];exact r) fun c xs r=>by rw[ao (ntup c xs r)];exact r
   rcases hc with rfl | hc
   ·exact hbe
   ·rintro rfl
    rcases he with z | z
    ·exact nown c b hc z
    ·rw[hc]at z;cases z;exact hb rfl
end
structure Un(fs ex:List Addr)(H H':Hp)(h h':Heap):Prop where
 keep:∀ b o,h.get? b=some o->H b=none->b∉fs->b∉ex->h'.get? b=some o
 slot:∀ b o,h.get? b=some o->H b=none->b∈fs->b∉ex->∃ sl,h'.get? b=some { o with slots:=sl }
 free:∀ b o,h.get? b=some o->H b=none->b∉ex->H' b=none
 there:∀ b o,h.get? b=some o->b∉ex->∃ o',h'.get? b=some o'
 tups:∀ b xs,H b=some (.tup xs)->H' b=some (.tup xs)
 frzs:∀ b o u,H b=some (.frz o u)->H' b=some (.frz o u)
 tbls:∀ b ps,H b=some (.tbl ps)->∃ more,H' b=some (.tbl (ps++more))
section
variable{fs fs' ex ex':List Addr}{H H1 H2:Hp}{h h1 h2 h':Heap}{a x e:Addr}{o:HO}
theorem Un.any(u:Un fs ex H H1 h h1){b:Addr}{ob:Obj}(q:h.get? b=some ob)(n:H b=none)(hx:b∉ex):∃ sl,h1.get? b=some { ob with slots:=sl }:=by
 by_cases hb:b∈fs
 ·exact u.slot b ob q n hb hx
 ·exact⟨ob.slots,u.keep b ob q n hb hx⟩
theorem Un.kept(k:∀ b u,h.get? b=some u->h'.get? b=some u):Un fs ex H H h h' :=
 ⟨fun b ob q _ _ _=>k b ob q,fun b ob q _ _ _=>⟨ob.slots,k b ob q⟩,fun _ _ _ n _=>n,fun b ob q _=>⟨ob,k b ob q⟩,fun _ _ q=>q,fun _ _ _ q=>q,fun _ ps q=>⟨#[],by rw[q];simp⟩⟩
theorem Un.refl:Un fs ex H H h h:=Un.kept fun _ _ q=>q
theorem Un.laid(k:∀ b u,h.get? b=some u->h'.get? b=some u)(hp:h.objs.size<=a)(hn:H a=none):Un fs ex H (upd H a o) h h' where
 keep:=fun b u q _ _ _=>k b u q
 slot:=fun b u q _ _ _=>⟨u.slots,k b u q⟩
 free:=fun b u q n _=>by rw[ao (CJ (CI (Heap.lt_size q) hp))];exact n
 there:=fun b u q _=>⟨u,k b u q⟩
 tups:=fun b xs q=>by rw[ao (aF q hn)];exact q
 frzs:=fun b u xs q=>by rw[ao (aF q hn)];exact q
 tbls:=fun b ps q=>⟨#[],by rw[ao (aF q hn),q];simp⟩
theorem Un.write(mu:Mut (H x))(he:e=x∨H e=some (.own x))(k:∀ b u,b≠e->h.get? b=some u->h'.get? b=some u)(heo:∃ u,h'.get? e=some u):Un fs ex H (upd H x o) h h':=by
 have hx:∀ b,H b=none->b≠x:=fun b n z=>by subst z;rw[n]at mu;exact mu
 have hb:∀ b,H b=none->b≠e:=fun b n z=>by
  subst z
  rcases he with r | r
  ·exact hx b n r
  ·rw[n]at r;cases r
 have hm:∀ b u,H b=some u->¬ Mut (some u)->b≠x:=fun b u q nm z=>by subst z;rw[q]at mu;exact nm mu
 refine⟨fun b u q n _ _=>k b u (hb b n) q,fun b u q n _ _=>⟨u.slots,k b u (hb b n) q⟩,fun b u q n _=>by rw[ao (hx b n)];exact n,fun b u q _=>?_,
  fun b xs q=>by rw[ao (hm b _ q fun z=>z)];exact q,fun b u xs q=>by rw[ao (hm b _ q fun z=>z)];exact q,fun b ps q=>⟨#[],by rw[ao (hm b _ q fun z=>z),q];simp⟩⟩
 by_cases hbe:b=e
 ·subst hbe;exact heo
 ·exact⟨u,k b u hbe q⟩
end
def trk(h:Heap)(H:Hp):List Addr:=(Ct h.objs.size).filter fun a=>(H a).isSome
def hidT(h:Heap)(H:Hp):Heap:=PySem.W.hideAll h (trk h H)
theorem yZ(h:Heap)(H:Hp):(hidT h H).objs.size=h.objs.size:=PySem.W.hideAll_size _ _
theorem Ao{h:Heap}{H:Hp}{b:Addr}{o:Obj}(e:h.get? b=some o)(n:H b=none):(hidT h H).get? b=some o :=
 Eg _ e fun hm=>by
  have q:(H b).isSome=true:=(List.mem_filter.mp hm).2
  rw[n]at q;simp at q
theorem BE{h:Heap}{H:Hp}{b:Addr}{o:Obj}(e:(hidT h H).get? b=some o):h.get? b=some o/\H b=none:=by
 have e':h.get? b=some o:=PySem.W.of_hideAll (trk h H) e
 refine⟨e',?_⟩
 cases q:H b with
 |none=>rfl
 |some x =>
  have hm:b∈trk h H:=List.mem_filter.mpr ⟨DU.mpr (Heap.lt_size e'),by simp[q]⟩
  have z:(hidT h H).get? b=none:=PySem.W.hideAll_none (trk h H) hm
  rw[z]at e;cases e
end L2
namespace L2
open PySem PySem.Spec PyProof.Rows
structure Mod(K:B9)(mg:Str->Option Value)(base:Heap):Prop where
 kin:K.In base
 glob:base.Ns mainGlobals mg
 blt:∃ mb,base.Ns builtinsNs mb/\∀ x:Str,x≠"__name__"->mb x=bootBuiltins x
 nolimit:base.NoLimit
structure Cx where
 prog:Program
 w:World
 K:B9
 mg:Str->Option Value
 base:Heap
 A:Around
 N:List Str
 s₀:Shared
 H₀:Hp
 env:Env
 outer:List Env
 stack:List Env
 ex:List Addr
 fn:Str->Bool
 calm:Bool
 pn:List (Addr×Obj)
 xe:Value->Shared->Prop
def frs(l:List Env):List Addr:=l.filterMap (·.frame)
abbrev Cx.fs(X:Cx):List Addr:=frs X.outer
def Vis(sc:Scope)(x:Str):Prop:=sc.names.lookup x=some .local∨sc.names.lookup x=some .cell∨sc.names.lookup x=some .free
def Loc(sc:Scope)(x:Str):Prop:=sc.names.lookup x=some .local∨sc.names.lookup x=some .cell
def Look(env:Env)(h:Heap)(m:Str->Option Value)(x:Str)(u:Value):Prop :=
 (env.kindOf x=some .local/\m x=some u)∨((env.kindOf x=some .cell∨env.kindOf x=some .free)/\∃ c,env.cells.lookup x=some c/\h.IsCell c (some u))
structure Cx.Ok(X:Cx):Prop where
 mod:Mod X.K X.mg X.base
 kind:X.env.scope.kind=.function
 glob:X.env.globals=mainGlobals
 blt:X.env.builtins=builtinsNs
 above:X.s₀.heap.objs.size<=X.env.locals
 inj:∀ x y c,X.env.cells.lookup x=some c->X.env.cells.lookup y=some c->x=y
 has:∀ x,(X.env.kindOf x=some .cell∨X.env.kindOf x=some .free)->∃ c,X.env.cells.lookup x=some c
 cab:∀ x c,X.fn x=true->X.env.cells.lookup x=some c->X.s₀.heap.objs.size<=c
 hd:X.calm=true->X.A.handled=none
 frames:X.A.frames=some X.stack
 stk:X.stack=X.outer∨(X.stack=X.env::X.outer/\X.env.frame=some X.env.locals)
 exf:∀ b∈X.ex,b≠X.env.locals/\∀ x c,X.env.cells.lookup x=some c->c≠b
 bs:∀ b o,X.base.get? b=some o->X.s₀.heap.get? b=some o/\X.H₀ b=none
 bsz:X.base.objs.size<=X.s₀.heap.objs.size
 noex:∀ b o,X.base.get? b=some o->b∉X.ex
 exfs:∀ b∈X.ex,b∉X.fs
 funs:X.s₀.heap.FunFrames X.base X.outer
 frf:∀ b∈X.fs,X.H₀ b=none
structure Inv(X:Cx)(pins:List (Addr×Obj))(σ:List (Option V))(H:Hp)(s:Shared):Prop where
 ok:X.Ok
 os:s.os=X.s₀.os
 bare:AllBare s.gens
 base:Un X.fs X.ex X.H₀ H X.s₀.heap s.heap
 loc:∃ m,s.heap.Ns X.env.locals m/\∀(i:Nat)(x:Str)(v:V),X.N[i]?=some x->σ[i]?=some (some v)->Vis X.env.scope x->∃ u,RelV v u/\Look X.env s.heap m x u
 cell:∀ x c,X.env.cells.lookup x=some c->∃ v,s.heap.IsCell c v
 free:H X.env.locals=none
 freeC:∀ x c,X.env.cells.lookup x=some c->H c=none
 pin:∀ p∈X.pn++pins,s.heap.get? p.1=some p.2/\H p.1=none/\p.1≠X.env.locals/\p.1∉X.fs/\∀ v,p.2.data≠.cell v
 hok:HOk X.prog X.w H s.heap
 len:σ.length=X.N.length
section
variable{X:Cx}{pins:List (Addr×Obj)}{σ:List (Option V)}{H H':Hp}{s:Shared}{h':Heap}
theorem Cx.Ok.nofr(ok:X.Ok){b:Addr}{o:Obj}(e:X.base.get? b=some o):b∉X.fs:=fun hb=>by
 have:=(ok.funs.mem hb).1
 rw[e]at this;cases this
theorem Inv.bs(I:Inv X pins σ H s):∀ b o,X.base.get? b=some o->s.heap.get? b=some o/\H b=none:=fun b o e =>
 ⟨I.base.keep b o (I.ok.bs b o e).1 (I.ok.bs b o e).2 (I.ok.nofr e) (I.ok.noex b o e),I.base.free b o (I.ok.bs b o e).1 (I.ok.bs b o e).2 (I.ok.noex b o e)⟩
theorem Inv.bk(I:Inv X pins σ H s):∀ b o,X.base.get? b=some o->s.heap.get? b=some o:=fun b o e=>(I.bs b o e).1
theorem Inv.mod(I:Inv X pins σ H s):Mod X.K X.mg X.base:=I.ok.mod
theorem Inv.kIn(I:Inv X pins σ H s):X.K.In s.heap:=I.ok.mod.kin.keeps I.bk
theorem Inv.lt(I:Inv X pins σ H s):X.env.locals<s.heap.objs.size:=let ⟨_,hn,_⟩:=I.loc;hn.lt
theorem Inv.sz(I:Inv X pins σ H s):X.s₀.heap.objs.size<=s.heap.objs.size:=C6 I.ok.above (CQ I.lt)
theorem Inv.nofs(I:Inv X pins σ H s){a:Addr}(h:s.heap.objs.size<=a):a∉X.fs:=fun hb=>by
 obtain⟨_,o,ho,_⟩:=I.ok.funs.mem hb
 exact absurd (CI (Heap.lt_size ho) (C6 I.sz h)) (C4 _)
theorem Inv.cne(I:Inv X pins σ H s):∀ x c,X.env.cells.lookup x=some c->c≠X.env.locals:=fun x c e z=>by
 obtain⟨v,o,ho,hd⟩:=I.cell x c e
 obtain⟨m,⟨o',es,ep,ho',hd',_⟩,_⟩:=I.loc
 rw[z,ho']at ho;cases ho;rw[hd']at hd;cases hd
theorem Inv.funs(I:Inv X pins σ H s):s.heap.FunFrames X.base X.outer:=by
 have all:∀(l:List Env),(∀ b∈frs l,b∈X.fs)->X.s₀.heap.FunFrames X.base l->s.heap.FunFrames X.base l:=by
  intro l
  induction l with
  |nil=>intro _ _;trivial
  |cons env r ih =>
   intro hs hl
   obtain⟨hk,⟨L,o,hf,hn,ho,hd⟩,hr⟩:=hl
   have hL:L∈X.fs:=hs L (by unfold frs;rw[Ei,hf];exact CG)
   obtain⟨sl,e⟩:=I.base.slot L o ho (I.ok.frf L hL) hL fun z=>I.ok.exfs L z hL
   exact⟨hk,⟨L,_,hf,hn,e,hd⟩,ih (fun b hb=>hs b (by unfold frs;rw[Ei,hf];exact CN _ hb)) hr⟩
 exact all X.outer (fun _ hb=>hb) I.ok.funs
theorem Inv.stack(I:Inv X pins σ H s):s.heap.FunFrames X.base X.stack:=by
 rcases I.ok.stk with e | ⟨e,hf⟩
 ·rw[e];exact I.funs
 ·rw[e]
  obtain⟨m,hn,_⟩:=I.loc
  refine .cons (by rw[I.ok.kind];decide) hf hn ?_ I.funs
  exact Heap.get?_none_of_le (C6 I.ok.bsz I.ok.above)
theorem Inv.stkSub(I:Inv X pins σ H s):∀ b∈frs X.stack,b∈X.env.locals::X.fs:=fun b hb=>by
 rcases I.ok.stk with e | ⟨e,hf⟩
 ·rw[e]at hb;exact CN _ hb
 ·rw[e]at hb
  unfold frs at hb
  rw[Ei,hf]at hb
  exact hb
theorem Inv.stkFree(I:Inv X pins σ H s):∀ b∈frs X.stack,H b=none:=fun b hb=>by
 rcases Co.mp (I.stkSub b hb)with e | hb
 ·rw[e];exact I.free
 ·obtain⟨_,o,ho,_⟩:=I.ok.funs.mem hb
  exact I.base.free b o ho (I.ok.frf b hb) fun z=>I.ok.exfs b z hb
theorem Inv.step{g':Array GenState}{t':Nat}{d':Drawn}{ch:List Addr}(I:Inv X pins σ H s)
  (hch:∀ b∈ch,(b∈X.ex∨X.s₀.heap.objs.size<=b)/\b≠X.env.locals/\(∀ x c,X.env.cells.lookup x=some c->c≠b)/\∀ p∈X.pn++pins,p.1≠b)
  (keep:∀ b o,b≠X.env.locals->b∉X.fs->b∉ch->s.heap.get? b=some o->H b=none->h'.get? b=some o)
  (slot:∀ b o,b≠X.env.locals->b∈X.fs->b∉ch->s.heap.get? b=some o->H b=none->∃ sl,h'.get? b=some { o with slots:=sl }) (free:∀ b o,b∉ch->s.heap.get? b=some o->H b=none->H' b=none)
  (there:∀ b o,b∉ch->s.heap.get? b=some o->∃ o',h'.get? b=some o')
  (tups:∀ b xs,H b=some (.tup xs)->H' b=some (.tup xs)) (frzs:∀ b o u,H b=some (.frz o u)->H' b=some (.frz o u)) (tbls:∀ b ps,H b=some (.tbl ps)->∃ more,H' b=some (.tbl (ps++more)))
  (ns:∀ m,s.heap.Ns X.env.locals m->h'.Ns X.env.locals m) (hok:HOk X.prog X.w H' h') (hg:AllBare g') :
  Inv X pins σ H' { s with heap:=h',gens:=g',drawn:=d',toks:=t' }:=by
 have neL:∀ b o,X.s₀.heap.get? b=some o->b≠X.env.locals:=fun b o e=>CJ (CI (Heap.lt_size e) I.ok.above)
 have neC:∀ b o,X.s₀.heap.get? b=some o->b∉X.ex->b∉ch:=fun b o e hx hb=>by
  rcases(hch b hb).1 with z | z
  ·exact hx z
  ·exact absurd (CI (Heap.lt_size e) z) (C4 _)
 have cellK:∀ x c,X.env.cells.lookup x=some c->∀ v,s.heap.IsCell c v->h'.IsCell c v:=fun x c e v ⟨o,ho,hd⟩=>by
  have nch:c∉ch:=fun z=>(hch c z).2.2.1 x c e rfl
  by_cases hc:c∈X.fs
  ·obtain⟨sl,q⟩:=slot c o (I.cne x c e) hc nch ho (I.freeC x c e)
   exact⟨_,q,hd⟩
  ·exact⟨o,keep c o (I.cne x c e) hc nch ho (I.freeC x c e),hd⟩
 refine⟨I.ok,I.os,hg,⟨fun b o e n hb hx=>?_,fun b o e n hb hx=>?_,fun b o e n hx=>?_,fun b o e hx=>?_,fun b xs e=>tups b xs (I.base.tups b xs e),fun b o xs e=>frzs b o xs (I.base.frzs b o xs e),fun b ps e=>?_⟩,?_,fun x c e=>?_,?_,fun x c e=>?_,fun p hp=>?_,hok,I.len⟩
 ·exact keep b o (neL b o e) hb (neC b o e hx) (I.base.keep b o e n hb hx) (I.base.free b o e n hx)
 ·obtain⟨sl,e1⟩:=I.base.slot b o e n hb hx
  obtain⟨sl',e2⟩:=slot b _ (neL b o e) hb (neC b o e hx) e1 (I.base.free b o e n hx)
  exact⟨sl',e2⟩
 ·obtain⟨o',e1⟩:=I.base.there b o e hx
  exact free b o' (neC b o e hx) e1 (I.base.free b o e n hx)
 ·obtain⟨o',e1⟩:=I.base.there b o e hx
  exact there b o' (neC b o e hx) e1
 ·obtain⟨m1,e1⟩:=I.base.tbls b ps e
  obtain⟨m2,e2⟩:=tbls b _ e1
  exact⟨m1++m2,by rw[e2,Array.append_assoc]⟩
 ·obtain⟨m,hn,hl⟩:=I.loc
  refine⟨m,ns m hn,fun i x v e1 e2 e3=>?_⟩
  obtain⟨u,r,l⟩:=hl i x v e1 e2 e3
  refine⟨u,r,?_⟩
  rcases l with l | ⟨k,c,e,z⟩
  ·exact .inl l
  ·exact .inr ⟨k,c,e,cellK x c e _ z⟩
 ·obtain⟨v,z⟩:=I.cell x c e
  exact⟨v,cellK x c e v z⟩
 ·obtain⟨m,⟨o,_,_,ho,_⟩,_⟩:=I.loc
  exact free _ o (fun z=>(hch _ z).2.1 rfl) ho I.free
 ·obtain⟨v,o,ho,hd⟩:=I.cell x c e
  exact free c o (fun z=>(hch c z).2.2.1 x c e rfl) ho (I.freeC x c e)
 ·obtain⟨e,n,ne,nf,d⟩:=I.pin p hp
  have nch:p.1∉ch:=fun z=>(hch p.1 z).2.2.2 p hp rfl
  exact⟨keep p.1 p.2 ne nf nch e n,free p.1 p.2 nch e n,ne,nf,d⟩
theorem Inv.un{t':Nat}(I:Inv X pins σ H s)(u:Un X.fs [] H H' s.heap h')(hok:HOk X.prog X.w H' h'):Inv X pins σ H' { s with heap:=h',toks:=t' }:=by
 obtain⟨m,⟨o,es,ep,ho,r⟩,_⟩:=id I.loc
 obtain⟨sl,hL⟩:=u.any ho I.free (by simp)
 exact I.step (g':=s.gens) (d':=s.drawn) (ch:=[]) (fun _ z=>nomatch z) (fun b o _ hb _ e n=>u.keep b o e n hb (by simp)) (fun b o _ hb _ e n=>u.slot b o e n hb (by simp)) (fun b o _ e n=>u.free b o e n (by simp)) (fun b o _ e=>u.there b o e (by simp)) u.tups u.frzs u.tbls (fun m' hm=>by
  obtain⟨o',es',ep',ho',r'⟩:=hm
  rw[ho]at ho';cases ho'
  exact⟨_,es',ep',hL,r'⟩) hok I.bare
theorem Inv.call{g':Array GenState}{t':Nat}{d':Drawn}{ch:List Addr}(I:Inv X pins σ H s)(u:Un (frs X.stack) ch H H' s.heap h')(hok:HOk X.prog X.w H' h')(hg:AllBare g')
  (hch:∀ b∈ch,(b∈X.ex∨X.s₀.heap.objs.size<=b)/\b≠X.env.locals/\(∀ x c,X.env.cells.lookup x=some c->c≠b)/\∀ p∈X.pn++pins,p.1≠b) :
  Inv X pins σ H' { s with heap:=h',gens:=g',drawn:=d',toks:=t' }:=by
 obtain⟨m,⟨o,es,ep,ho,r⟩,_⟩:=id I.loc
 obtain⟨sl,hL⟩:=u.any ho I.free fun z=>(hch _ z).2.1 rfl
 exact I.step (ch:=ch) hch (fun b o hL hb hc e n=>u.keep b o e n (fun z=>(Co.mp (I.stkSub b z)).elim hL hb) hc) (fun b o _ _ hc e n=>u.any e n hc) (fun b o hc e n=>u.free b o e n hc) (fun b o hc e=>u.there b o e hc) u.tups u.frzs u.tbls (fun m' hm=>by
  obtain⟨o',es',ep',ho',r'⟩:=hm
  rw[ho]at ho';cases ho'
  exact⟨_,es',ep',hL,r'⟩) hok hg
theorem Inv.turned{t':Nat}{it:Addr}(I:Inv X pins σ H s)(k:∀ b o,b≠it->s.heap.get? b=some o->h'.get? b=some o)(hn:H it=none)(hL:it≠X.env.locals)
  (h1:it∈X.ex∨X.s₀.heap.objs.size<=it) (h2:∀ x c,X.env.cells.lookup x=some c->c≠it) (h3:∀ p∈X.pn++pins,p.1≠it):Inv X pins σ H { s with heap:=h',toks:=t' }:=by
 have nit:∀ b u,H b=some u->b≠it:=fun b u e z=>by rw[z,hn]at e;cases e
 refine I.step (g':=s.gens) (d':=s.drawn) (ch:=[it]) (fun b hb=>?_) (fun b o _ _ hc e _=>k b o (fun z=>hc (by simp[z])) e) (fun b o _ _ hc e _=>⟨o.slots,k b o (fun z=>hc (by simp[z])) e⟩) (fun _ _ _ _ n=>n)
  (fun b o hc e=>⟨o,k b o (fun z=>hc (by simp[z])) e⟩) (fun _ _ e=>e) (fun _ _ _ e=>e) (fun b ps e=>⟨#[],by rw[e];simp⟩) (fun m hm=>?_) (fun b u e=>?_) I.bare
 ·have e:b=it:=by simpa using hb
  subst e
  exact⟨h1,hL,h2,h3⟩
 ·obtain⟨o,es,ep,ho,r⟩:=hm
  exact⟨o,es,ep,k _ o (Ne.symm hL) ho,r⟩
 ·refine(I.hok b u e).stay (fun c v hc q=>k c v ?_ q) (fun _ q=>q) fun _ _ q=>q
  rcases hc with z | z
  ·rw[z];exact nit b u e
  ·exact nit c _ z
theorem Inv.tok(I:Inv X pins σ H s)(t:Nat):Inv X pins σ H { s with toks:=t }:=I.un (h':=s.heap) (t':=t) Un.refl I.hok
theorem Inv.kept{t':Nat}(I:Inv X pins σ H s)(k:∀ b u,s.heap.get? b=some u->h'.get? b=some u):Inv X pins σ H { s with heap:=h',toks:=t' }:=I.un (Un.kept k) (I.hok.kept k)
theorem Inv.laid{a:Addr}{o:HO}{t':Nat}(I:Inv X pins σ H s)(k:∀ b u,s.heap.get? b=some u->h'.get? b=some u)(hp:s.heap.objs.size<=a)(new:bO X.prog X.w (upd H a o) h' a o) :
  Inv X pins σ (upd H a o) { s with heap:=h',toks:=t' }:=I.un (Un.laid k hp (I.hok.fresh hp)) (I.hok.laid k hp new)
theorem Inv.write{x e:Addr}{o:HO}{t':Nat}(I:Inv X pins σ H s)(mu:Mut (H x))(he:e=x∨H e=some (.own x))(k:∀ b u,b≠e->s.heap.get? b=some u->h'.get? b=some u)(heo:∃ u,h'.get? e=some u)
  (new:bO X.prog X.w (upd H x o) h' x o):Inv X pins σ (upd H x o) { s with heap:=h',toks:=t' }:=I.un (Un.write mu he k heo) (I.hok.write mu he k heo new)
theorem Inv.weak{σ':List (Option V)}(I:Inv X pins σ H s)(hl:σ'.length=σ.length)(w:∀ (i:Nat) v,σ'[i]?=some (some v)->σ[i]?=some (some v)):Inv X pins σ' H s :=
 ⟨I.ok,I.os,I.bare,I.base,let ⟨m,hn,hl'⟩:=I.loc;⟨m,hn,fun i x v e1 e2 e3=>hl' i x v e1 (w i v e2) e3⟩,I.cell,I.free,I.freeC,I.pin,I.hok,hl.trans I.len⟩
theorem Inv.pins_of{pins':List (Addr×Obj)}(I:Inv X pins σ H s)(h:∀ p∈pins',s.heap.get? p.1=some p.2/\H p.1=none/\p.1≠X.env.locals/\p.1∉X.fs/\∀ v,p.2.data≠.cell v):Inv X pins' σ H s :=
 ⟨I.ok,I.os,I.bare,I.base,I.loc,I.cell,I.free,I.freeC,fun p hp=>(CA.mp hp).elim (fun z=>I.pin p (C1 _ z)) (h p),I.hok,I.len⟩
theorem qW{N:List Str}(hN:N.Nodup){i j:Nat}{x:Str}(a:N[i]?=some x)(b:N[j]?=some x):i=j:=by
 obtain⟨h1,e1⟩:=Ca.mp a
 obtain⟨h2,e2⟩:=Ca.mp b
 exact(List.getElem_inj hN).mp (e1.trans e2.symm)
theorem xU{M:Model}{A:Around}{E:Value->Shared->Prop}{i:Nat}{x:Str}{v:V}{u:Value}{Q:Unit->Shared->Prop}(I:Inv X pins σ H s)(hN:X.N.Nodup)(hi:X.N[i]?=some x)(hx:Loc X.env.scope x)(r:RelV v u)
  (h:∀ s',Inv X pins (σ.set i (some v)) H s'->(∃ a,Heap.SameBut a s.heap s'.heap/\(a=X.env.locals∨X.env.cells.lookup x=some a))->Q () s') (hf:X.fn x=true∨X.env.scope.names.lookup x=some .local:=by first | exact .inl rfl | exact .inr rfl | assumption):wpAny M A (storeName X.env x u) Q E s:=by
 obtain⟨m,hn,hl⟩:=id I.loc
 have hcls:(X.env.scope.kind == .class||(X.env.scope.kind == .module&&X.env.locals != X.env.globals))=false:=by rw[I.ok.kind];rfl
 have hiσ:i<σ.length:=by rw[I.len];exact(Ca.mp hi).1
 have cne:=I.cne
 have tracked:∀{a:Addr}{h':Heap},(∃ o,s.heap.get? a=some o/\H a=none)->Heap.SameBut a s.heap h'->HOk X.prog X.w H h':=fun{a h'} ha hs b ob e=>by
  obtain⟨_,_,hfree⟩:=ha
  refine(I.hok b ob e).stay (fun c w' hc q=>(hs.2 c ?_).trans q) (fun _ q=>q) fun _ _ q=>q
  rintro rfl
  rcases hc with rfl | hc
  ·rw[hfree]at e;cases e
  ·rw[hfree]at hc;cases hc
 rcases hx with hk | hk
 ·refine wpAny_storeName_local hk hn (fun h' hn' hs=>?_) hcls
  obtain⟨oL,_,_,hoL,_⟩:=id hn
  refine h _ ⟨I.ok,I.os,I.bare,⟨fun b o e n hb hx=>?_,fun b o e n hb hx=>?_,I.base.free,fun b o e hx=>?_,I.base.tups,I.base.frzs,I.base.tbls⟩,⟨_,hn',fun j y v' e1 e2 e3=>?_⟩,fun y c e=>?_,I.free,I.freeC,fun p hp=>?_,tracked ⟨oL,hoL,I.free⟩ hs,by simpa using I.len⟩ ⟨_,hs,.inl rfl⟩
  ·exact(hs.2 b (CJ (CI (Heap.lt_size e) I.ok.above))).trans (I.base.keep b o e n hb hx)
  ·obtain⟨sl,e1⟩:=I.base.slot b o e n hb hx
   exact⟨sl,(hs.2 b (CJ (CI (Heap.lt_size e) I.ok.above))).trans e1⟩
  ·obtain⟨o',e1⟩:=I.base.there b o e hx
   exact⟨o',(hs.2 b (CJ (CI (Heap.lt_size e) I.ok.above))).trans e1⟩
  ·by_cases hj:j=i
   ·subst hj
    rw[hi]at e1;cases e1
    rw[List.getElem?_set_self hiσ]at e2
    cases e2
    exact⟨u,r,.inl ⟨hk,by simp⟩⟩
   ·rw[Ed (Ne.symm hj)]at e2
    obtain⟨u',r',q⟩:=hl j y v' e1 e2 e3
    refine⟨u',r',?_⟩
    rcases q with⟨k,e⟩ | ⟨k,c,e,z⟩
    ·refine .inl ⟨k,?_⟩
     have:y≠x:=fun e=>hj (qW hN e1 (e▸hi))
     simp[this,e]
    ·exact .inr ⟨k,c,e,z.sameBut hs (cne y c e)⟩
  ·obtain⟨w',z⟩:=I.cell y c e
   exact⟨w',z.sameBut hs (cne y c e)⟩
  ·obtain⟨e,n,ne,nf,d⟩:=I.pin p hp
   exact⟨(hs.2 p.1 ne).trans e,n,ne,nf,d⟩
 ·have hfn:X.fn x=true:=by
   rcases hf with z | z
   ·exact z
   ·rw[z]at hk;cases hk
  obtain⟨c,hc⟩:=I.ok.has x (.inl hk)
  obtain⟨w',z⟩:=I.cell x c hc
  refine wpAny_storeName_cell I.ok.kind hk hc z (fun h' hc' hs=>?_)
  obtain⟨oc,hoc,hocd⟩:=id z
  refine h { s with heap:=h' } ⟨I.ok,I.os,I.bare,⟨fun b o e n hb hx=>?_,fun b o e n hb hx=>?_,I.base.free,fun b o e hx=>?_,I.base.tups,I.base.frzs,I.base.tbls⟩,⟨m,hn.sameBut hs (Ne.symm (cne x c hc)),fun j y v' e1 e2 e3=>?_⟩,fun y c' e=>?_,I.free,I.freeC,fun p hp=>?_,tracked ⟨oc,hoc,I.freeC x c hc⟩ hs,by simpa using I.len⟩ ⟨c,hs,.inr hc⟩
  ·exact(hs.2 b (CJ (CI (Heap.lt_size e) (I.ok.cab x c hfn hc)))).trans (I.base.keep b o e n hb hx)
  ·obtain⟨sl,e1⟩:=I.base.slot b o e n hb hx
   exact⟨sl,(hs.2 b (CJ (CI (Heap.lt_size e) (I.ok.cab x c hfn hc)))).trans e1⟩
  ·obtain⟨o',e1⟩:=I.base.there b o e hx
   exact⟨o',(hs.2 b (CJ (CI (Heap.lt_size e) (I.ok.cab x c hfn hc)))).trans e1⟩
  ·by_cases hj:j=i
   ·subst hj
    rw[hi]at e1;cases e1
    rw[List.getElem?_set_self hiσ]at e2
    cases e2
    exact⟨u,r,.inr ⟨.inl hk,c,hc,hc'⟩⟩
   ·rw[Ed (Ne.symm hj)]at e2
    obtain⟨u',r',q⟩:=hl j y v' e1 e2 e3
    refine⟨u',r',?_⟩
    rcases q with q | ⟨k,c',e,z'⟩
    ·exact .inl q
    ·refine .inr ⟨k,c',e,z'.sameBut hs ?_⟩
     rintro rfl
     exact hj (qW hN e1 (I.ok.inj _ _ _ e hc▸hi))
  ·by_cases hcc:c'=c
   ·subst hcc;exact⟨_,hc'⟩
   ·obtain⟨w2,z2⟩:=I.cell y c' e
    exact⟨w2,z2.sameBut hs hcc⟩
  ·obtain⟨e,n,ne,nf,d⟩:=I.pin p hp
   refine⟨(hs.2 p.1 ?_).trans e,n,ne,nf,d⟩
   intro q
   rw[q,hoc]at e
   have q':oc=p.2:=Cz e
   exact d w' (by rw[← q'];exact hocd)
theorem jl{M:Model}{A:Around}{E:Value->Shared->Prop}{i:Nat}{x:Str}{v:V}{u:Value}{Q:Unit->Shared->Prop}(I:Inv X pins σ H s)(hN:X.N.Nodup)(hi:X.N[i]?=some x)(hx:Loc X.env.scope x)(r:RelV v u)
  (h:∀ s',Inv X pins (σ.set i (some v)) H s'->Q () s') (hf:X.fn x=true∨X.env.scope.names.lookup x=some .local:=by first | exact .inl rfl | exact .inr rfl | assumption):wpAny M A (storeName X.env x u) Q E s :=
 xU I hN hi hx r (fun s' I' _=>h s' I') hf
theorem Inv.call'{s':Shared}{ch:List Addr}(I:Inv X pins σ H s)(ho:s'.os=s.os)(u:Un (frs X.stack) ch H H' s.heap s'.heap)(hok:HOk X.prog X.w H' s'.heap)(hg:AllBare s'.gens)
  (hch:∀ b∈ch,(b∈X.ex∨X.s₀.heap.objs.size<=b)/\b≠X.env.locals/\(∀ x c,X.env.cells.lookup x=some c->c≠b)/\∀ p∈X.pn++pins,p.1≠b):Inv X pins σ H' s':=by
 obtain⟨h',g',d',t',o'⟩:=s'
 have e:o'=s.os:=ho
 subst e
 exact I.call (g':=g') (t':=t') (d':=d') u hok hg hch
end
abbrev XK:=Value->Option Addr->Hp->Prop
abbrev St:=List (Option V)
abbrev VK:=V->Hp->Prop
abbrev TE:=St->Hp->VK->Prop
abbrev TT:=St->Hp->(Bool->Hp->Prop)->Prop
abbrev TA:=St->Hp->(List V->Hp->Prop)->Prop
structure Ends where
 nx:St->Hp->Prop
 rt:VK
 bk:St->Hp->Prop:=fun _ _=>False
 ct:St->Hp->Prop:=fun _ _=>False
abbrev TS:=Ends->St->Hp->Prop
def EP(X:Cx)(pins:List (Addr×Obj))(σ:St)(Q:VK)(u:Value)(s':Shared):Prop:=∃ v H',Inv X pins σ H' s'/\RelV v u/\Q v H'
def TP(X:Cx)(pins:List (Addr×Obj))(σ:St)(Q:Bool->Hp->Prop)(b:Bool)(s':Shared):Prop:=∃ H',Inv X pins σ H' s'/\Q b H'
def AP(X:Cx)(pins:List (Addr×Obj))(σ:St)(Q:List V->Hp->Prop)(us:List Value)(s':Shared):Prop:=∃ vs H',Inv X pins σ H' s'/\Vals vs us/\Q vs H'
def SP(X:Cx)(pins:List (Addr×Obj))(D:Ends)(f:Flow)(s':Shared):Prop :=
 match f with
 |.next=>∃ σ' H',Inv X pins σ' H' s'/\D.nx σ' H'
 |.brk=>∃ σ' H',Inv X pins σ' H' s'/\D.bk σ' H'
 |.cont=>∃ σ' H',Inv X pins σ' H' s'/\D.ct σ' H'
 |.ret u=>∃ v σ' H',Inv X pins σ' H' s'/\RelV v u/\D.rt v H'
def PE(X:Cx)(e:Expr)(t:TE):Prop :=
 ∀(pins:List (Addr×Obj))(s:Shared)(σ:St)(H:Hp)(Q:VK),Inv X pins σ H s->t σ H Q->wpAny (model X.prog X.w) X.A (eval e X.env) (EP X pins σ Q) X.xe s
def PT(X:Cx)(e:Expr)(t:TT):Prop :=
 ∀(pins:List (Addr×Obj))(s:Shared)(σ:St)(H:Hp)(Q:Bool->Hp->Prop),Inv X pins σ H s->t σ H Q->wpAny (model X.prog X.w) X.A (isTrue e X.env (eval e X.env)) (TP X pins σ Q) X.xe s
def PW(X:Cx)(e:Expr)(t:TT):Prop :=
 ∀(whole:Sem Value)(pins:List (Addr×Obj))(s:Shared)(σ:St)(H:Hp)(Q:Bool->Hp->Prop),Inv X pins σ H s->t σ H Q->wpAny (model X.prog X.w) X.A (isTrue e X.env whole) (TP X pins σ Q) X.xe s
theorem PW.pt{X:Cx}{e:Expr}{t:TT}(h:PW X e t):PT X e t:=h _
def PA(X:Cx)(es:List Expr)(t:TA):Prop :=
 ∀(pos:Pos)(pins:List (Addr×Obj))(s:Shared)(σ:St)(H:Hp)(Q:List V->Hp->Prop),Inv X pins σ H s->t σ H Q->wpAny (model X.prog X.w) X.A (spliced (backTo pos (starEach es X.env))) (AP X pins σ Q) X.xe s
def PS(X:Cx)(st:Stmt)(t:TS):Prop :=
 ∀(pins:List (Addr×Obj))(s:Shared)(σ:St)(H:Hp)(D:Ends),Inv X pins σ H s->t D σ H->wpAny (model X.prog X.w) X.A (exec st X.env) (SP X pins D) X.xe s
def PSs(X:Cx)(st:List Stmt)(t:TS):Prop :=
 ∀(pins:List (Addr×Obj))(s:Shared)(σ:St)(H:Hp)(D:Ends),Inv X pins σ H s->t D σ H->wpAny (model X.prog X.w) X.A (execs st X.env) (SP X pins D) X.xe s
theorem thn{α:Type}{t:Sem α}{Q Q':α->Shared->Prop}{M:Model}{A:Around}{E:Value->Shared->Prop}{s:Shared}(h:wpAny M A t Q E s)(hQ:∀ a s,Q a s->Q' a s):wpAny M A t Q' E s:=wpAny_mono h hQ fun _ _ x=>x
end L2
namespace L2
open PySem PySem.Spec PyProof.Rows
section
variable{X:Cx}
def tVar(i:Nat):TE:=fun σ H Q=>∃ v,σ[i]?=some (some v)/\Q v H
def tC(v:V):TE:=fun _ H Q=>Q v H
theorem pe_var{i:Nat}{x:Str}{pos:Pos}(hN:X.N[i]?=some x)(hv:Vis X.env.scope x) (hd:(x == ("__debug__" : Str))=false:=by decide) (hcd:(x == ("__classdict__" : Str))=false:=by decide):PE X (.Name x pos) (tVar i):=by
 intro pins s σ H Q I h
 obtain⟨v,e,h⟩:=h
 obtain⟨m,hn,hl⟩:=I.loc
 obtain⟨u,r,l⟩:=hl i x v hN e hv
 have fin:EP X pins σ Q u s:=⟨v,H,I,r,h⟩
 rcases l with⟨hk,hm⟩ | ⟨hk,c,hc,hcell⟩
 ·exact wpAny_Name (wpAny_loadName_local I.ok.kind hk hn hm fin) hd
 ·rcases hk with hk | hk
  ·exact wpAny_Name (wpAny_loadName_cell I.ok.kind hk hc hcell fin) hd
  ·exact wpAny_Name (wpAny_loadName_free I.ok.kind hk hc hcell fin hcd) hd
theorem ah{i j pos}:PE X (.Constant (.int i) j pos) (tC (.int i)):=fun _ _ _ H _ I h=>wpAny_Constant_int ⟨.int i,H,I.tok _,⟨_,rfl⟩,h⟩
theorem iU{b j pos}:PE X (.Constant (.bool b) j pos) (tC (.bl b)):=fun _ _ _ H _ I h=>Constant_bool ⟨.bl b,H,I,rfl,h⟩
theorem pP{x j pos}:PE X (.Constant (.str x) j pos) (tC (.str x)):=fun _ _ _ H _ I h=>Calls.Constant_str ⟨.str x,H,I.tok _,⟨_,rfl⟩,h⟩
def Gl(X:Cx)(x:Str):Prop:=X.env.kindOf x=some .globalImplicit
theorem kg{E:Value->Shared->Prop}{pins:List (Addr×Obj)}{s:Shared}{σ:St}{H:Hp}{x:Str}{u:Value}{pos:Pos}{Q:Value->Shared->Prop}(I:Inv X pins σ H s)(hg:Gl X x)(hm:X.mg x=some u)(h:Q u s)
  (hd:(x == ("__debug__" : Str))=false:=by decide):wpAny (model X.prog X.w) X.A (eval (.Name x pos) X.env) Q E s :=
 Calls.Name_function_global I.ok.kind hg (Calls.loadGlobal_global (by rw[I.ok.glob];exact I.mod.glob.keeps I.bk) hm h) hd
theorem tw{E:Value->Shared->Prop}{pins:List (Addr×Obj)}{s:Shared}{σ:St}{H:Hp}{x:Str}{u:Value}{pos:Pos}{Q:Value->Shared->Prop}(I:Inv X pins σ H s)(hg:Gl X x)(hm:X.mg x=none)(hv:bootBuiltins x=some u)(h:Q u s)
  (hn:x≠"__name__":=by decide) (hd:(x == ("__debug__" : Str))=false:=by decide):wpAny (model X.prog X.w) X.A (eval (.Name x pos) X.env) Q E s:=by
 obtain⟨mb,h1,h2⟩:=I.mod.blt
 exact Calls.Name_function_global I.ok.kind hg (Calls.loadGlobal_builtin (by rw[I.ok.glob];exact I.mod.glob.keeps I.bk) hm (by rw[I.ok.blt];exact h1.keeps I.bk) ((h2 x hn).trans hv) h) hd
theorem jZ{x:Str}{v:V}{u:Value}{pos:Pos}(hg:Gl X x)(hm:X.mg x=some u)(r:RelV v u) (hd:(x == ("__debug__" : Str))=false:=by decide):PE X (.Name x pos) (tC v) :=
 fun _ _ _ H _ I h=>kg I hg hm ⟨v,H,I,r,h⟩ hd
theorem mE{x:Str}{v:V}{u:Value}{pos:Pos}(hg:Gl X x)(hm:X.mg x=none)(hv:bootBuiltins x=some u)(r:RelV v u) (hn:x≠"__name__":=by decide) (hd:(x == ("__debug__" : Str))=false:=by decide):PE X (.Name x pos) (tC v) :=
 fun _ _ _ H _ I h=>tw I hg hm hv ⟨v,H,I,r,h⟩ hn hd
variable{a b:Expr}{ta tb:TE}{pos:Pos}
def PC(X:Cx)(op:CmpOp)(a b:Expr)(t:TE):Prop :=
 ∀(pins:List (Addr×Obj))(s:Shared)(σ:St)(H:Hp)(Q:VK),Inv X pins σ H s->t σ H Q ->
  wpAny (model X.prog X.w) X.A (eval a X.env) (fun v s₁=>wpAny (model X.prog X.w) X.A (eval b X.env) (fun u s₂=>wpAny (model X.prog X.w) X.A (compareOp op v u) (EP X pins σ Q) X.xe s₂) X.xe s₁) X.xe s
def tB(t:TE):TT:=fun σ H Q=>t σ H fun x H1=>∃ c,x=.bl c/\Q c H1
theorem pt_cmp{op:CmpOp}{t:TE}(h:PC X op a b t)(h1:behindInMarks op b=false:=by first | exact nobehind _ (by decide) (by decide) | rfl):PT X (.Compare a [op] [b] pos) (tB t):=by
 intro pins s σ H Q I hw
 refine wpAny_isTrue_Compare1 (thn (h pins s σ H _ I hw) fun v s1 h1=>thn h1 fun u s2 h2=>thn h2 fun c s3 ⟨x,H1,I1,r1,q1⟩=>?_) h1
 obtain⟨d,rfl,q⟩:=q1
 cases r1
 exact wpAny_truthy_bool ⟨H1,I1,q⟩
theorem lp{e:Expr}{t:TE}(h:PE X e t)(he:∀ whole,isTrue e X.env whole=(do let v ← whole;standAt e.pos;holding [v] (truthy v)):=by intro _;rfl):PT X e (tB t):=by
 intro pins s σ H Q I hw
 refine isTrue_plain (thn (h pins s σ H _ I hw) fun v s1 ⟨x,H1,I1,r1,q1⟩=>?_) (he _)
 obtain⟨d,rfl,q⟩:=q1
 cases r1
 exact wpAny_truthy_bool ⟨H1,I1,q⟩
variable{tA tB':TT}{rest:List Expr}
def tAnd(t u:TT):TT:=fun σ H Q=>t σ H fun c H1=>if c=true then u σ H1 Q else Q false H1
def tOr(t u:TT):TT:=fun σ H Q=>t σ H fun c H1=>if c=true then Q true H1 else u σ H1 Q
def tNot(t:TT):TT:=fun σ H Q=>t σ H fun c H1=>Q (!c) H1
theorem yh(ha:PT X a tA):PW X (.BoolOp .And [a] pos) tA:=by
 intro wh pins s σ H Q I h
 refine isTrue_and (thn (ha pins s σ H Q I h) fun c s1 e=>?_)
 cases c with
 |true=>exact isTrue_and_nil e
 |false=>exact e
theorem eW(ha:PT X a tA):PW X (.BoolOp .Or [a] pos) tA:=by
 intro wh pins s σ H Q I h
 refine isTrue_or (thn (ha pins s σ H Q I h) fun c s1 e=>?_)
 cases c with
 |false=>exact isTrue_or_nil e
 |true=>exact e
theorem AG(ha:PT X a tA)(hb:PW X (.BoolOp .And (b::rest) pos) tB'):PW X (.BoolOp .And (a::b::rest) pos) (tAnd tA tB'):=by
 intro wh pins s σ H Q I h
 refine isTrue_and (thn (ha pins s σ H _ I h) fun c s1 ⟨H1,I1,q1⟩=>?_)
 cases c with
 |true=>exact hb wh pins s1 σ H1 Q I1 q1
 |false=>exact⟨H1,I1,q1⟩
theorem iS(ha:PT X a tA)(hb:PW X (.BoolOp .Or (b::rest) pos) tB'):PW X (.BoolOp .Or (a::b::rest) pos) (tOr tA tB'):=by
 intro wh pins s σ H Q I h
 refine isTrue_or (thn (ha pins s σ H _ I h) fun c s1 ⟨H1,I1,q1⟩=>?_)
 cases c with
 |true=>exact⟨H1,I1,q1⟩
 |false=>exact hb wh pins s1 σ H1 Q I1 q1
theorem lq(ha:PT X a tA):PT X (.UnaryOp .Not a pos) (tNot tA):=by
 intro pins s σ H Q I h
 exact isTrue_not (ha pins s σ H (fun c H1=>Q (!c) H1) I h)
def tAndV(ta tb:TE):TE:=fun σ H Q=>ta σ H fun x H1=>∃ c,x=.bl c/\if c=true then tb σ H1 Q else Q (.bl false) H1
def tNotV(ta:TE):TE:=fun σ H Q=>ta σ H fun x H1=>∃ c,x=.bl c/\Q (.bl (!c)) H1
theorem wa{op}{t:TE}(h:PE X a t):PE X (.BoolOp op [a] pos) t:=fun pins s σ H Q I hw=>BoolOp_one (h pins s σ H Q I hw)
theorem we(ha:PE X a ta)(hb:PE X (.BoolOp .And (b::rest) pos) tb):PE X (.BoolOp .And (a::b::rest) pos) (tAndV ta tb):=by
 intro pins s σ H Q I h
 refine BoolOp_and (thn (ha pins s σ H _ I h) fun v s1 ⟨x,H1,I1,r1,q1⟩=>?_)
 obtain⟨c,rfl,q1⟩:=q1
 cases r1
 refine wpAny_truthy_bool ?_
 cases c with
 |true=>exact hb pins s1 σ H1 Q I1 q1
 |false=>exact⟨.bl false,H1,I1,rfl,q1⟩
theorem pe_not(ha:PE X a ta):PE X (.UnaryOp .Not a pos) (tNotV ta):=by
 intro pins s σ H Q I h
 refine UnaryOp_ (thn (ha pins s σ H _ I h) fun v s1 ⟨x,H1,I1,r1,q1⟩=>?_)
 obtain⟨c,rfl,q1⟩:=q1
 cases r1
 exact not_of (wpAny_truthy_bool ⟨.bl (!c),H1,I1,rfl,q1⟩)
def tIf(t:TT)(ta tb:TE):TE:=fun σ H Q=>t σ H fun c H1=>if c=true then ta σ H1 Q else tb σ H1 Q
theorem wb{c:Expr}(hc:PT X c tA)(ha:PE X a ta)(hb:PE X b tb):PE X (.IfExp c a b pos) (tIf tA ta tb):=by
 intro pins s σ H Q I h
 refine wpAny_IfExp (thn (hc pins s σ H _ I h) fun d s1 ⟨H1,I1,q1⟩=>?_)
 cases d with
 |true=>exact ha pins s1 σ H1 Q I1 q1
 |false=>exact hb pins s1 σ H1 Q I1 q1
end
end L2
namespace L2
open PySem PySem.Spec PyProof.Rows
def SqL(K:B9)(H:Hp)(a:Addr)(xs:List V):Prop :=
 Rd H a (.lst xs) ∨
  ∃(o:Obj)(its:Array Value)(n:Nat),K.lookup a=some o/\o.cls=.type "list"/\o.dict=none/\o.data=.seq its n/\its.size<=sizeLine/\Vals xs its.toList
def SqT(K:B9)(H:Hp)(a:Addr)(xs:List V):Prop :=
 Rd H a (.tup xs) ∨
  ∃(o:Obj)(its:Array Value)(n:Nat),K.lookup a=some o/\o.cls=.type "tuple"/\o.data=.seq its n/\its.size<=sizeLine/\Vals xs its.toList
def absV:Value->Option V
 |.none=>some .non
 |.bool b=>some (.bl b)
 |.int i _=>some (.int i)
 |.str x _=>some (.str x)
 |.bytes b _=>some (.byt b)
 |.float b _=>some (.flt b)
 |.ref a=>some (.ref a)
 |.type n=>some (.ty n)
 |_=>none
theorem RelV.abs{x:V}{u:Value}(r:RelV x u):absV u=some x:=by
 cases x with
 |non=>cases r;rfl
 |bl _=>cases r;rfl
 |int _=>obtain⟨t,rfl⟩:=r;rfl
 |str _=>obtain⟨t,rfl⟩:=r;rfl
 |byt _=>obtain⟨t,rfl⟩:=r;rfl
 |flt _=>obtain⟨t,rfl⟩:=r;rfl
 |ref _=>cases r;rfl
 |ty _=>cases r;rfl
theorem RelV.inj{x y:V}{u:Value}(r:RelV x u)(q:RelV y u):x=y:=Cz (r.abs.symm.trans q.abs)
theorem Vals.inj:∀{xs ys:List V}{us:List Value},Vals xs us->Vals ys us->xs=ys
 |_,_,_,.nil,.nil=>rfl
 |_,_,_,.cons r t,.cons r' t'=>by rw[r.inj r',Vals.inj t t']
section
variable{X:Cx}{pins:List (Addr×Obj)}{σ:St}{H:Hp}{s:Shared}{a:Addr}{xs ys:List V}
theorem SqL.of{K:B9}(h:H a=some (.lst xs)):SqL K H a xs:=.inl (.inl h)
theorem SqT.of{K:B9}(h:H a=some (.tup xs)):SqT K H a xs:=.inl (.inl h)
theorem Inv.list(I:Inv X pins σ H s)(h:SqL X.K H a xs):∃ its:List Value,Vals xs its/\PlainL s.heap a its.toArray/\xs.length<=sizeLine:=by
 rcases h with h | ⟨o,its,n,hk,hc,hd,hs,hz,r⟩
 ·obtain⟨z,its,n,r,e⟩:=h.ok I.hok
  exact⟨its,r,⟨_,n,e,rfl,rfl,rfl⟩,z⟩
 ·refine⟨its.toList,r,⟨o,n,I.kIn a o hk,hc,hd,by simpa using hs⟩,?_⟩
  have e:=r.length
  simp only[Ek]at e
  omega
theorem Inv.tuple(I:Inv X pins σ H s)(h:SqT X.K H a xs):∃ its:List Value,Vals xs its/\IsTup s.heap a its.toArray/\xs.length<=sizeLine:=by
 rcases h with h | ⟨o,its,n,hk,hc,hs,hz,r⟩
 ·obtain⟨z,its,r,p⟩:=h.ok I.hok
  exact⟨its,r,p,z⟩
 ·refine⟨its.toList,r,⟨o,I.kIn a o hk,hc,n,by simpa using hs⟩,?_⟩
  have e:=r.length
  simp only[Ek]at e
  omega
theorem Inv.list_inj(I:Inv X pins σ H s)(h:SqL X.K H a xs)(h':SqL X.K H a ys):xs=ys:=by
 obtain⟨its,r,⟨o,n,e,_,_,d⟩,_⟩:=I.list h
 obtain⟨its',r',⟨o',n',e',_,_,d'⟩,_⟩:=I.list h'
 rw[e]at e';cases e'
 rw[d]at d'
 injection d' with d1 _
 have:its=its':=by simpa using congrArg Array.toList d1
 subst this
 exact r.inj r'
end
abbrev Cx.wish(X:Cx)(E:Value->Shared->Prop):Cx:={ X with xe:=E }
abbrev Cx.nox(X:Cx):Cx:=X.wish fun _ _=>False
theorem Cx.Ok.wish{X:Cx}(ok:X.Ok)(E:Value->Shared->Prop):(X.wish E).Ok :=
 ⟨ok.mod,ok.kind,ok.glob,ok.blt,ok.above,ok.inj,ok.has,ok.cab,ok.hd,ok.frames,ok.stk,ok.exf,ok.bs,ok.bsz,ok.noex,ok.exfs,ok.funs,ok.frf⟩
theorem Cx.Ok.unwish{X:Cx}{E:Value->Shared->Prop}(ok:(X.wish E).Ok):X.Ok :=
 ⟨ok.mod,ok.kind,ok.glob,ok.blt,ok.above,ok.inj,ok.has,ok.cab,ok.hd,ok.frames,ok.stk,ok.exf,ok.bs,ok.bsz,ok.noex,ok.exfs,ok.funs,ok.frf⟩
section
variable{X:Cx}{pins:List (Addr×Obj)}{σ:St}{H:Hp}{s:Shared}{E:Value->Shared->Prop}
theorem Inv.wish(I:Inv X pins σ H s)(E:Value->Shared->Prop):Inv (X.wish E) pins σ H s:=⟨I.ok.wish E,I.os,I.bare,I.base,I.loc,I.cell,I.free,I.freeC,I.pin,I.hok,I.len⟩
theorem Inv.unwish(I:Inv (X.wish E) pins σ H s):Inv X pins σ H s:=⟨I.ok.unwish,I.os,I.bare,I.base,I.loc,I.cell,I.free,I.freeC,I.pin,I.hok,I.len⟩
theorem SP.unwish{D:Ends}{f:Flow}{s':Shared}(h:SP (X.wish E) pins D f s'):SP X pins D f s':=by
 cases f with
 |next=>obtain⟨σ',H',I,q⟩:=h;exact⟨σ',H',I.unwish,q⟩
 |brk=>obtain⟨σ',H',I,q⟩:=h;exact⟨σ',H',I.unwish,q⟩
 |cont=>obtain⟨σ',H',I,q⟩:=h;exact⟨σ',H',I.unwish,q⟩
 |ret u=>obtain⟨v,σ',H',I,r,q⟩:=h;exact⟨v,σ',H',I.unwish,r,q⟩
theorem PSs.nox{st:List Stmt}{t:TS}(h:PSs X.nox st t):PSs X st t:=fun pins s σ H D I hw =>
 wpAny_mono (h pins s σ H D (I.wish _) hw) (fun _ _ q=>q.unwish) fun _ _ z=>False.elim z
end
section
variable{X:Cx}{st:Stmt}{rest:List Stmt}{t u:TS}{e:Expr}{te:TE}{pos:Pos}
def tNext:TS:=fun D σ H=>D.nx σ H
def tSeq(t u:TS):TS:=fun D σ H=>t { D with nx:=u D } σ H
theorem ay:PSs X [] tNext:=fun _ _ σ H _ I h=>wpAny_execs_nil ⟨σ,H,I,h⟩
theorem af(h1:PS X st t)(h2:PSs X rest u):PSs X (st::rest) (tSeq t u):=by
 intro pins s σ H D I h
 refine wpAny_execs_cons (thn (h1 pins s σ H { D with nx:=u D } I h) fun f s1 q=>?_)
 cases f with
 |next =>
  obtain⟨σ',H',I',q⟩:=q
  exact h2 pins s1 σ' H' D I' q
 |ret v=>exact q
 |brk=>exact q
 |cont=>exact q
theorem aj(h1:PS X st t):PSs X [st] t:=by
 intro pins s σ H D I h
 refine wpAny_execs_cons (thn (h1 pins s σ H D I h) fun f s1 q=>?_)
 cases f with
 |next=>exact wpAny_execs_nil q
 |ret v=>exact q
 |brk=>exact q
 |cont=>exact q
theorem Inv.quiet{pins:List (Addr×Obj)}{σ:St}{H:Hp}{s:Shared}(I:Inv X pins σ H s):interactive X.env=false:=by simp[interactive,I.ok.kind]
def tDrop(te:TE):TS:=fun D σ H=>te σ H fun _ H1=>D.nx σ H1
theorem aY(he:PE X e te)(hs:swapsWith e none pos.line X.env=pure false:=by rfl):PS X (.Expr e pos) (tDrop te):=by
 intro pins s σ H D I h
 exact wpAny_Expr_any (thn (he pins s σ H _ I h) fun v s1 ⟨x,H1,I1,r1,q1⟩=>⟨σ,H1,I1,q1⟩) I.quiet hs
def tRet(te:TE):TS:=fun D σ H=>te σ H D.rt
theorem aJ(he:PE X e te):PS X (.Return (some e) pos) (tRet te):=by
 intro pins s σ H D I h
 exact wpAny_Return_some (thn (he pins s σ H _ I h) fun v s1 ⟨x,H1,I1,r1,q1⟩=>⟨x,σ,H1,I1,r1,q1⟩)
def tIfS(c:TT)(t u:TS):TS:=fun D σ H=>c σ H fun b H1=>if b=true then t D σ H1 else u D σ H1
theorem aX{c:Expr}{a b:List Stmt}{tc:TT}(hc:PT X c tc)(ha:PSs X a t)(hb:PSs X b u):PS X (.If c a b pos) (tIfS tc t u):=by
 intro pins s σ H D I h
 refine wpAny_If (thn (hc pins s σ H _ I h) fun d s1 ⟨H1,I1,q1⟩=>?_)
 cases d with
 |true=>exact ha pins s1 σ H1 D I1 q1
 |false=>exact hb pins s1 σ H1 D I1 q1
def tNever:TS:=fun _ _ _=>False
theorem ft:PS X st tNever:=fun _ _ _ _ _ _ h=>h.elim
end
abbrev TG:=V->St->Hp->(St->Hp->Prop)->Prop
abbrev TGs:=List V->St->Hp->(St->Hp->Prop)->Prop
def PG(X:Cx)(target:Expr)(t:TG):Prop :=
 ∀(pins:List (Addr×Obj))(s:Shared)(σ:St)(H:Hp)(v:V)(u:Value)(Q:St->Hp->Prop),Inv X pins σ H s->RelV v u->t v σ H Q ->
  wpAny (model X.prog X.w) X.A (assign target X.env u) (fun _ s'=>∃ σ' H',Inv X pins σ' H' s'/\Q σ' H') X.xe s
def PGs(X:Cx)(ts:List Expr)(t:TGs):Prop :=
 ∀(pins:List (Addr×Obj))(s:Shared)(σ:St)(H:Hp)(vs:List V)(us:List Value)(Q:St->Hp->Prop),Inv X pins σ H s->Vals vs us->t vs σ H Q ->
  wpAny (model X.prog X.w) X.A (assignInOrder ((assignEach ts X.env).map (·.2)) us) (fun _ s'=>∃ σ' H',Inv X pins σ' H' s'/\Q σ' H') X.xe s
abbrev TSet:=V->V->V->Hp->(Hp->Prop)->Prop
def PSet(X:Cx)(t:TSet):Prop :=
 ∀(pins:List (Addr×Obj))(s:Shared)(σ:St)(H:Hp)(o i v:V)(ov iv u:Value)(Q:Hp->Prop),Inv X pins σ H s->RelV o ov->RelV i iv->RelV v u->t o i v H Q ->
  wpAny (model X.prog X.w) X.A (setItem ov iv u) (fun _ s'=>∃ H',Inv X pins σ H' s'/\Q H') X.xe s
section
variable{X:Cx}{pos:Pos}
def y8(i:Nat):TG:=fun v σ H Q=>Q (σ.set i (some v)) H
theorem aG{i:Nat}{x:Str}(hN:X.N.Nodup)(hi:X.N[i]?=some x)(hx:Loc X.env.scope x)(hf:X.fn x=true∨X.env.scope.names.lookup x=some .local:=by first | exact .inl rfl | exact .inr rfl | assumption):PG X (.Name x pos) (y8 i):=by
 intro pins s σ H v u Q I r h
 exact wpAny_assign_Name (jl I hN hi hx r (fun s' I'=>⟨_,H,I',h⟩) hf)
def gNil:TGs:=fun vs σ H Q=>vs = []/\Q σ H
def gCons(t:TG)(u:TGs):TGs:=fun vs σ H Q=>∃ v r,vs=v::r/\t v σ H fun σ' H'=>u r σ' H' Q
theorem iT:PGs X [] gNil:=by
 intro pins s σ H vs us Q I r h
 obtain⟨e,h⟩:=h
 subst e
 cases r
 exact assignInOrder_nil ⟨σ,H,I,h⟩
theorem bz{e:Expr}{es:List Expr}{t:TG}{u:TGs}(h1:PG X e t)(h2:PGs X es u)
  (hs:(assignEach (e::es) X.env).map (·.2)=assign e X.env::(assignEach es X.env).map (·.2):=by rfl):PGs X (e::es) (gCons t u):=by
 intro pins s σ H vs us Q I r h
 obtain⟨v,vr,e1,h⟩:=h
 subst e1
 cases r with
 |cons r rr =>
  rw[hs]
  refine assignInOrder_cons (thn (h1 pins s σ H _ _ _ I r h) fun _ s1 ⟨σ1,H1,I1,q1⟩=>?_)
  exact h2 pins s1 σ1 H1 _ _ Q I1 rr q1
def gTup(K:B9)(n:Nat)(t:TGs):TG:=fun v σ H Q=>∃ a xs,v=.ref a/\SqT K H a xs/\xs.length=n/\t xs σ H Q
theorem pO{es:List Expr}{k:Nat}{t:TGs}{n:Nat}(hc:X.calm=true)(h:PGs X es t)
  (hn:(assignEach es X.env).length=n:=by rfl) (hst:(assignEach es X.env).findIdx? (·.1)=none:=by rfl):PG X (.Tuple es k pos) (gTup X.K n t):=by
 intro pins s σ H v u Q I r hw
 obtain⟨a,xs,e1,hq,hl,hw⟩:=hw
 subst e1
 cases r
 obtain⟨its,rv,ht,hz⟩:=I.tuple hq
 refine assign_Tuple_tuple (I.ok.hd hc) ht (by simp[hn,← hl,rv.length]) hst fun h' hx=>?_
 have I1:Inv X pins σ H { s with heap:=h' }:=I.kept (t':=s.toks) fun b o e=>hx b o (CJ (Heap.lt_size e)) e
 exact h pins _ σ H xs _ Q I1 (by simpa using rv) hw
def gSub(to ti:TE)(t:TSet):TG:=fun v σ H Q=>to σ H fun o H1=>ti σ H1 fun i H2=>t o i v H2 fun H3=>Q σ H3
theorem sP{o i:Expr}{to ti:TE}{t:TSet}(ho:PE X o to)(hi:PE X i ti)(hs:PSet X t)
  (ha:∀ v,assign (.Subscript o i pos) X.env v=(do
   let ov ← holding [v] (eval o X.env)
   let iv ← holding [v,ov] (eval i X.env)
   standAt pos
   holding [v,ov,iv] (setItem ov iv v)
   release [v,ov,iv] []):=by intro _;rfl):PG X (.Subscript o i pos) (gSub to ti t):=by
 intro pins s σ H v u Q I r h
 rw[ha]
 refine wpAny_bind (wpAny_holding (thn (ho pins s σ H _ I h) fun ov s1 ⟨x,H1,I1,r1,q1⟩=>?_))
 refine wpAny_bind (wpAny_holding (thn (hi pins s1 σ H1 _ I1 q1) fun iv s2 ⟨y,H2,I2,r2,q2⟩=>?_))
 refine wpAny_bind (wpAny_standAt (wpAny_bind (wpAny_holding (thn (hs pins s2 σ H2 x y v ov iv u _ I2 r1 r2 r q2) fun _ s3 ⟨H3,I3,q3⟩=>?_))))
 exact wpAny_release ⟨σ,H3,I3,q3⟩
def tAsg(te:TE)(g:TG):TS:=fun D σ H=>te σ H fun x H1=>g x σ H1 D.nx
theorem sJ{tg e:Expr}{te:TE}{g:TG}(he:PE X e te)(hg:PG X tg g)(hs:swapsWithSole [tg] e pos.line X.env=pure false:=by rfl)(hw:swappedStores [tg] e X.env=pure none:=by rfl)
  (h1:(assignEach [tg] X.env).map (·.2) = [assign tg X.env]:=by rfl):PS X (.Assign [tg] e pos) (tAsg te g):=by
 intro pins s σ H D I h
 refine wpAny_Assign_stores (thn (he pins s σ H _ I h) fun v s1 ⟨x,H1,I1,r1,q1⟩=>?_) hs hw
 rw[h1]
 exact thn (hg pins s1 σ H1 x v _ I1 r1 q1) fun _ s2 q=>q
theorem aI{i:Nat}{x:Str}{e:Expr}{te:TE}{pos':Pos}(hN:X.N.Nodup)(hi:X.N[i]?=some x)(hx:Loc X.env.scope x)(he:PE X e te)(hs:swapsWith e (some (.Name x pos')) pos.line X.env=pure false:=by rfl)(hf:X.fn x=true∨X.env.scope.names.lookup x=some .local:=by first | exact .inl rfl | exact .inr rfl | assumption) :
  PS X (.Assign [.Name x pos'] e pos) (tAsg te (y8 i)):=by
 intro pins s σ H D I h
 refine wpAny_Assign_Name (thn (he pins s σ H _ I h) fun v s1 ⟨y,H1,I1,r1,q1⟩=>?_) hs
 exact jl I1 hN hi hx r1 (fun s2 I2=>⟨_,H1,I2,q1⟩) hf
end
section
variable{X:Cx}{pos:Pos}
def AA(c:TT)(tb:TS):TS:=fun D σ H=>∃ W:Nat->St->Hp->Prop,(∃ m,W m σ H)/\∀ m σ H,W m σ H ->
 c σ H fun b H1=>if b=true then ∃ N:St->Hp->Prop,(∀ σ' H',N σ' H'->∃ m',m'<m/\W m' σ' H')/\tb { D with nx:=N,ct:=N,bk:=D.nx } σ H1 else D.nx σ H1
theorem v9{c:Expr}{body:List Stmt}{tc:TT}{tb:TS}(hp:PassesOwn (model X.prog X.w) X.A X.env X.xe)(hc:PT X c tc)(hb:PSs X body tb):PS X (.While c body [] pos) (AA tc tb):=by
 intro pins s σ H D I h
 obtain⟨W,⟨m0,w0⟩,turn⟩:=h
 refine wpAny_While (codeAny_whileLoop (fun n s'=>∃ σ' H',Inv X pins σ' H' s'/\W n σ' H') ?_ m0 ⟨σ,H,I,w0⟩)
 rintro n s1 ⟨σ1,H1,I1,w1⟩
 refine wpAny_passesOwn hp (thn (hc pins s1 σ1 H1 _ I1 (turn n σ1 H1 w1)) fun b s2 ⟨H2,I2,q2⟩=>?_)
 cases b with
 |true =>
  obtain⟨N,hN,q2⟩:=q2
  rw[if_pos rfl]
  refine wpAny_passesOwn hp (thn (hb pins s2 σ1 H2 _ I2 q2) fun f s3 q3=>?_)
  cases f with
  |next =>
   obtain⟨σ3,H3,I3,n3⟩:=q3
   obtain⟨m',hm,w3⟩:=hN σ3 H3 n3
   exact⟨m',hm,σ3,H3,I3,w3⟩
  |cont =>
   obtain⟨σ3,H3,I3,n3⟩:=q3
   obtain⟨m',hm,w3⟩:=hN σ3 H3 n3
   exact⟨m',hm,σ3,H3,I3,w3⟩
  |brk=>exact q3
  |ret v=>exact q3
 |false =>
  rw[if_neg CM]
  exact wpAny_execs_nil ⟨σ1,H2,I2,q2⟩
end
structure It where
 go:Nat->Hp->Prop
 yld:Nat->Hp->V->Hp->Prop
 stop:Nat->Hp->Prop
def FpOk(X:Cx)(pins:List (Addr×Obj))(H:Hp)(b:Addr):Prop :=
 H b=none/\b≠X.env.locals/\b∉X.fs/\(b∈X.ex∨X.s₀.heap.objs.size<=b)/\(∀ x c,X.env.cells.lookup x=some c->c≠b)/\∀ p∈X.pn++pins,p.1≠b
theorem Inv.fpOk{X:Cx}{pins:List (Addr×Obj)}{σ:St}{H H':Hp}{s:Shared}{b:Addr}(I:Inv X pins σ H s)(hb:s.heap.objs.size<=b)(hn:H' b=none):FpOk X pins H' b:=by
 refine⟨hn,DN (CI I.lt hb),I.nofs hb,.inr (C6 I.sz hb),fun x c e z=>?_,fun p hp z=>?_⟩
 ·obtain⟨v,q⟩:=I.cell x c e
  exact absurd (CI q.lt (by rw[z];exact hb)) (C4 _)
 ·exact absurd (CI (Heap.lt_size (I.pin p hp).1) (by rw[z];exact hb)) (C4 _)
structure Turn(P:Program)(w:World)(K:B9)(tg:Expr)(J:It)(fp:List Addr)(it:Addr)(tn:Nat->Heap->Prop):Prop where
 mem:it∈fp
 obj:∀ i h,tn i h->∀ b∈fp,∃ o,h.get? b=some o/\∀ v,o.data≠.cell v
 keep:∀ i h h',tn i h->(∀ b∈fp,∀ o,h.get? b=some o->h'.get? b=some o)->tn i h'
 item:∀(X:Cx),X.prog=P->X.w=w->X.K=K->X.calm=true->∀(i:Nat)(pins:List (Addr×Obj))(s:Shared)(σ:St)(H:Hp)(E:Value->Shared->Prop),Inv X pins σ H s->(∀ b∈fp,FpOk X pins H b)->tn i s.heap->J.go i H ->
  wpAny (model P w) X.A (pyNext (.ref it)) (fun r s1=>∃ u,r=some u /\
   wpAny (model P w) X.A (letOwnedTupleGo tg (.ref it) u) (fun _ s2=>∃ x H',Inv X pins σ H' s2/\RelV x u/\J.yld i H x H'/\tn (i+1) s2.heap/\∀ b∈fp,H' b=none) E s1) E s
 done:∀(X:Cx),X.prog=P->X.w=w->X.K=K->X.calm=true->∀(i:Nat)(pins:List (Addr×Obj))(s:Shared)(σ:St)(H:Hp)(E:Value->Shared->Prop),Inv X pins σ H s->(∀ b∈fp,FpOk X pins H b)->tn i s.heap->J.stop i H ->
  wpAny (model P w) X.A (pyNext (.ref it)) (fun r s1=>r=none/\Inv X pins σ H s1) E s
 self:∀(A:Around)(i:Nat)(s:Shared)(Q:Value->Shared->Prop)(E:Value->Shared->Prop),tn i s.heap->Q (.ref it) s->wpAny (model P w) A (pyIter (.ref it)) Q E s
abbrev TI:=St->Hp->(It->Hp->Prop)->Prop
def PIE(X:Cx)(pins:List (Addr×Obj))(σ:St)(tg:Expr)(R:It->Hp->Prop)(itv:Value)(s2:Shared):Prop :=
 ∃(it:Addr)(fp:List Addr)(tn:Nat->Heap->Prop)(J:It)(H':Hp),itv=.ref it/\Inv X pins σ H' s2/\Turn X.prog X.w X.K tg J fp it tn/\tn 0 s2.heap/\(∀ b∈fp,FpOk X pins H' b)/\R J H'
def PI(X:Cx)(tg iter:Expr)(wi:TI):Prop :=
 ∀(pins:List (Addr×Obj))(s:Shared)(σ:St)(H:Hp)(R:It->Hp->Prop),Inv X pins σ H s->wi σ H R ->
  wpAny (model X.prog X.w) X.A (eval iter X.env) (fun v s1=>wpAny (model X.prog X.w) X.A (pyIter v) (PIE X pins σ tg R) X.xe s1) X.xe s
theorem go_of{M:Model}{A:Around}{E:Value->Shared->Prop}{s:Shared}{tg:Expr}{it:Addr}{u:Value}{o:Obj}{n:String}{vs:Array Value}{Q:Unit->Shared->Prop}(ho:s.heap.get? it=some o)(hc:o.cls=.type n)(hd:o.data=.fields vs)
  (hn : ["enumerate","zip","dict_itemiterator","dict_reverseitemiterator","odict_iterator","itertools.zip_longest","itertools.pairwise"].contains n=false) (hQ:Q () s):wpAny M A (letOwnedTupleGo tg (.ref it) u) Q E s:=by
 unfold letOwnedTupleGo
 cases tg<;>first
  |exact wpAny_pure hQ
  | (cases u<;>first
    |exact wpAny_pure hQ
    | (refine wpAny_bind (wpAny_load ho ?_)
       rw[hc,hd]
       show wpAny M A (if(["enumerate","zip","dict_itemiterator","dict_reverseitemiterator","odict_iterator","itertools.zip_longest","itertools.pairwise"].contains n&&vs[0]? == some (rawInt _))=true then _ else _) Q E s
       rw[if_neg (by intro h;rw[hn,DV]at h;cases h)]
       exact wpAny_pure hQ))
def Itl(K:B9)(a:Addr):It :=
 ⟨fun i H=>∃ xs x,SqL K H a xs/\xs[i]?=some x,fun i H x H'=>H'=H/\∀ xs,SqL K H a xs->xs[i]?=some x,fun i H=>∃ xs,SqL K H a xs/\xs.length<=i⟩
def Itr(lo:Int)(n:Nat):It:=⟨fun i _=>i<n,fun i H x H'=>H'=H/\x=.int (lo+i),fun i _=>n<=i⟩
theorem xP{P:Program}{w:World}{K:B9}{tg:Expr}(a it:Addr):Turn P w K tg (Itl K a) [it] it (fun i h=>h.IsListIter it a i) where
 mem:=by simp
 obj:=fun i h st b hb=>by
  have e:b=it:=by simpa using hb
  subst e
  obtain⟨o,e,c,d⟩:=st
  exact⟨o,e,fun v z=>by rw[d]at z;cases z⟩
 keep:=fun i h h' st k=>st.at fun o e=>k it (by simp) o e
 item:=by
  intro X hP hw hK hc i pins s σ H E I hf st hg
  subst hP hw hK
  obtain⟨xs,x,hq,hx⟩:=hg
  obtain⟨its,rv,p,hz⟩:=I.list hq
  obtain⟨u,hu,ru⟩:=rv.get hx
  obtain⟨f0,f1,f2,f3,f4,f5⟩:=hf it (by simp)
  refine wpAny_pyNext_list_item st p.isList (x:=u) (by simpa using hu) fun h' st' sb=>?_
  have I1:Inv X pins σ H { s with heap:=h' }:=I.turned (t':=s.toks) (fun b o hb e=>(sb.2 b hb).trans e) f0 f1 f3 f4 f5
  obtain⟨o,e,c,d⟩:=id st'
  exact⟨u,rfl,go_of (s:={ s with heap:=h' }) e c d (by decide) ⟨x,H,I1,ru,⟨rfl,fun ys hy=>by rw[I.list_inj hy hq];exact hx⟩,st',fun b hb=>(hf b hb).1⟩⟩
 done:=by
  intro X hP hw hK hc i pins s σ H E I hf st hg
  subst hP hw hK
  obtain⟨xs,hq,hx⟩:=hg
  obtain⟨its,rv,p,hz⟩:=I.list hq
  obtain⟨f0,f1,f2,f3,f4,f5⟩:=hf it (by simp)
  have hl:=rv.length
  exact wpAny_pyNext_list_end (I.ok.hd hc) st p.isList (by simp;omega) fun h' eb=>⟨rfl,I.turned (t':=s.toks) (fun b o hb e=>eb b o hb e) f0 f1 f3 f4 f5⟩
 self:=fun _ _ _ _ _ st h=>wpAny_pyIter_listiter st h
theorem wA{P:Program}{w:World}{K:B9}{tg:Expr}(it:Addr)(lo:Int)(n:Nat):Turn P w K tg (Itr lo n) [it] it (fun i h=>IsRangeIter h it (lo+(i:Nat)*1) ((n:Int)-(i:Nat)) 1) where
 mem:=by simp
 obj:=fun i h st b hb=>by
  have e:b=it:=by simpa using hb
  subst e
  exact⟨_,st,fun v z=>by
   have z':Data.fields _=Data.cell v:=z
   cases z'⟩
 keep:=fun i h h' st k=>k it (by simp) _ st
 item:=by
  intro X hP hw hK hc i pins s σ H E I hf st hg
  subst hP hw hK
  obtain⟨f0,f1,f2,f3,f4,f5⟩:=hf it (by simp)
  have W:=Walks.range (prog:=X.prog) (w:=X.w) (I.ok.hd hc) it lo 1 n
  refine W.item i s _ _ hg st fun v h' tk hv st' kk=>?_
  obtain⟨t,rfl⟩:=hv
  have I1:Inv X pins σ H { s with heap:=h',toks:=tk }:=I.turned (fun b o hb e=>kk b o (by simpa using hb) e) f0 f1 f3 f4 f5
  refine⟨_,rfl,go_of (s:={ s with heap:=h',toks:=tk }) (n:="range_iterator") st' rfl rfl (by decide) ⟨.int (lo+i),H,I1,⟨t,?_⟩,⟨rfl,rfl⟩,st',fun b hb=>(hf b hb).1⟩⟩
  rw[Int.mul_one]
 done:=by
  intro X hP hw hK hc i pins s σ H E I hf st hg
  subst hP hw hK
  obtain⟨f0,f1,f2,f3,f4,f5⟩:=hf it (by simp)
  exact wpAny_pyNext_range_end (I.ok.hd hc) st (by have:n<=i:=hg;omega) fun h' eb=>⟨rfl,I.turned (t':=s.toks) (fun b o hb e=>eb b o hb e) f0 f1 f3 f4 f5⟩
 self:=fun _ _ _ _ _ st h=>wpAny_pyIter_rangeiter st h
end L2
namespace L2
open PySem PySem.Spec PyProof.Rows
section
variable{X:Cx}{tg:Expr}
def iList(K:B9)(tl:TE):TI:=fun σ H R=>tl σ H fun x H1=>∃ a,x=.ref a/\(∃ xs,SqL K H1 a xs)/\R (Itl K a) H1
theorem cR{l:Expr}{tl:TE}(hl:PE X l tl):PI X tg l (iList X.K tl):=by
 intro pins s σ H R I h
 refine thn (hl pins s σ H _ I h) fun v s1 ⟨x,H1,I1,r1,q1⟩=>?_
 obtain⟨a,e,⟨xs,hq⟩,q⟩:=q1
 subst e
 cases r1
 obtain⟨its,rv,p,hz⟩:=I1.list hq
 refine wpAny_pyIter_list p.isList ?_
 refine⟨s1.heap.objs.size,[s1.heap.objs.size],_,_,H1,rfl,I1.kept (t':=s1.toks) fun b o e=>Heap.get?_push_of_some _ e,xP a _,⟨_,Heap.get?_push_size _ rfl,rfl,rfl⟩,fun b hb=>?_,q⟩
 have e:b=s1.heap.objs.size:=by simpa using hb
 subst e
 exact I1.fpOk (Cg _) (I1.hok.fresh (Cg _))
theorem zP{pins:List (Addr×Obj)}{σ:St}{H:Hp}{s:Shared}{R:It->Hp->Prop}{E:Value->Shared->Prop}{lo hi:Int}{t u v:Tok}{tk:Nat}(I:Inv X pins σ H s)(h1 : -(2^62)<=lo)(h2:lo<2^62)(h3 : -(2^62)<=hi)(h4:hi<2^62)
  (q:R (Itr lo (hi-lo).toNat) H):wpAny (model X.prog X.w) X.A (pyIter (.ref s.heap.objs.size)) (PIE X pins σ tg R) E { s with heap:=s.heap.push { cls:=.type "range",data:=.fields #[.int lo t,.int hi u,.int 1 v] },toks:=tk }:=by
 refine wpAny_pyIter_range (IsRange.new ..) (small_one h1 h2 h3 h4) ?_
 have I1:Inv X pins σ H { s with heap:=s.heap.push { cls:=.type "range",data:=.fields #[.int lo t,.int hi u,.int 1 v] },toks:=tk }:=I.kept fun b o e=>Heap.get?_push_of_some _ e
 refine⟨(s.heap.push { cls:=.type "range",data:=.fields #[.int lo t,.int hi u,.int 1 v] }).objs.size,[(s.heap.push { cls:=.type "range",data:=.fields #[.int lo t,.int hi u,.int 1 v] }).objs.size],_,_,H,rfl,
  I1.kept (t':=tk) fun b o e=>Heap.get?_push_of_some _ e,wA _ lo (hi-lo).toNat,?_,fun b hb=>?_,q⟩
 ·have e1:lo+((0:Nat):Int)*1=lo:=by simp
  have e2:(((hi-lo).toNat:Nat):Int)-((0:Nat):Int)=Builtin.Range.rangeSize lo hi 1:=by rw[rangeSize_one];split<;>omega +splitDisjunctions
  show IsRangeIter _ _ (lo+((0:Nat):Int)*1) ((((hi-lo).toNat:Nat):Int)-((0:Nat):Int)) 1
  rw[e1,e2]
  exact Heap.get?_push_size _ rfl
 ·have e:b=(s.heap.push { cls:=.type "range",data:=.fields #[.int lo t,.int hi u,.int 1 v] }).objs.size:=by simpa using hb
  subst e
  exact I1.fpOk (Cg _) (I1.hok.fresh (Cg _))
def iRng1(ta:TA):TI:=fun σ H R=>ta σ H fun vs H1=>∃ j:Int,vs = [.int j]/\-(2^62)<=j/\j<2^62/\R (Itr 0 j.toNat) H1
theorem aT{a:Expr}{ta:TA}{p pos:Pos} (hg:Gl X "range") (hm:X.mg "range" = none) (ha:PA X [a] ta) (hs:starEach [a] X.env = [(false,eval a X.env)]:=by rfl):PI X tg (.Call (.Name "range" p) [a] [] pos) (iRng1 ta):=by
 intro pins s σ H R I h
 refine Call_ (tw I hg hm boot_range (PyProof.Rows.callWith_type1 (thn (ha pos pins s σ H _ I h) fun us s1 ⟨vs,H1,I1,r1,q1⟩=>?_) hs rfl))
 obtain⟨j,e,q1,q2,q⟩:=q1
 subst e
 cases r1 with
 |cons r rr =>
  cases rr
  obtain⟨t,rfl⟩:=r
  exact call_range_1 (zP I1 (by omega) (by omega) q1 q2 (by simpa using q))
def tFor(wi:TI)(g:TG)(tb:TS):TS:=fun D σ H=>wi σ H fun J H1=>∃ W:Nat->Nat->St->Hp->Prop,(∃ m,W 0 m σ H1)/\∀ i m σ H,W i m σ H ->
 (J.stop i H/\D.nx σ H)∨(J.go i H/\∃ N:St->Hp->Prop,(∀ σ' H',N σ' H'->∃ m',m'<m/\W (i+1) m' σ' H')/\∀ x H',J.yld i H x H'->g x σ H' fun σ2 H2=>tb { D with nx:=N,ct:=N,bk:=D.nx } σ2 H2)
def sO(fp:List Addr)(h:Heap):List (Addr×Obj):=fp.filterMap fun b=>(h.get? b).map fun o=>(b,o)
theorem eZ{fp:List Addr}{h:Heap}{b:Addr}{o:Obj}(hb:b∈fp)(e:h.get? b=some o):(b,o)∈sO fp h:=El.mpr ⟨b,hb,by rw[e];rfl⟩
theorem yx{fp:List Addr}{h:Heap}{p:Addr×Obj}(hp:p∈sO fp h):p.1∈fp/\h.get? p.1=some p.2:=by
 obtain⟨b,hb,e⟩:=El.mp hp
 cases q:h.get? b with
 |none=>rw[q]at e;cases e
 |some o =>
  rw[q]at e
  have e':(b,o)=p:=Cz e
  subst e'
  exact⟨hb,q⟩
theorem Inv.pinned{pins:List (Addr×Obj)}{σ:St}{H:Hp}{s:Shared}{fp:List Addr}(I:Inv X pins σ H s)(hf:∀ b∈fp,FpOk X pins H b)(ho:∀ b∈fp,∃ o,s.heap.get? b=some o/\∀ v,o.data≠.cell v):Inv X (pins++sO fp s.heap) σ H s :=
 I.pins_of fun p hp=>(CA.mp hp).elim (fun z=>I.pin p (Cm _ z)) fun z=>by
  obtain⟨hb,e⟩:=yx z
  obtain⟨f0,f1,f2,_⟩:=hf p.1 hb
  obtain⟨o,e',d⟩:=ho p.1 hb
  rw[e]at e';cases e'
  exact⟨e,f0,f1,f2,d⟩
theorem Inv.unpinned{pins pl:List (Addr×Obj)}{σ:St}{H:Hp}{s:Shared}(I:Inv X (pins++pl) σ H s):Inv X pins σ H s:=I.pins_of fun p hp=>I.pin p (Cm _ (C1 _ hp))
theorem cp{iter:Expr}{body:List Stmt}{wi:TI}{g:TG}{tb:TS}{pos:Pos}(hp:PassesOwn (model X.prog X.w) X.A X.env X.xe)(hc:X.calm=true)(hi:PI X tg iter wi)(hg:PG X tg g)(hb:PSs X body tb)
  (hs:∀ x,foldedSetIterable iter X.env x=pure x:=by intro _;rfl):PS X (.For tg iter body [] pos) (tFor wi g tb):=by
 intro pins s σ H D I h
 refine wpAny_For (thn (hi pins s σ H _ I h) fun v s1 h1=>thn h1 fun itv s2 h2=>?_) hs
 obtain⟨it,fp,tn,J,H2,e,I2,T,st2,f2,W,⟨m0,w0⟩,turn⟩:=h2
 subst e
 have stat:∀{H':Hp},(∀ b∈fp,H' b=none)->∀ b∈fp,FpOk X pins H' b:=fun hn b hb=>⟨hn b hb,(f2 b hb).2⟩
 refine codeAny_forLoop_any (fun n s'=>∃ i σ' H',Inv X pins σ' H' s'/\tn i s'.heap/\(∀ b∈fp,H' b=none)/\W i n σ' H') ?_ m0 ⟨0,σ,H2,I2,st2,fun b hb=>(f2 b hb).1,w0⟩
 rintro n s3 ⟨i,σ3,H3,I3,st3,fr3,w3⟩
 rcases turn i n σ3 H3 w3 with⟨stop,qn⟩ | ⟨go,N,hN,step⟩
 ·refine wpAny_passesOwn hp (thn (T.done X rfl rfl rfl hc i pins s3 σ3 H3 X.xe I3 (stat fr3) st3 stop) fun r s4 ⟨hr,I4⟩=>?_)
  subst hr
  exact wpAny_execs_nil ⟨σ3,H3,I4,qn⟩
 ·refine wpAny_passesOwn hp (thn (T.item X rfl rfl rfl hc i pins s3 σ3 H3 X.xe I3 (stat fr3) st3 go) fun r s4 ⟨u,hr,h4⟩=>?_)
  subst hr
  refine wpAny_passesOwn hp (thn h4 fun _ s5 ⟨x,H5,I5,r5,y5,st5,fr5⟩=>?_)
  have I5':=I5.pinned (stat fr5) (T.obj _ _ st5)
  refine wpAny_passesOwn hp (thn (hg _ s5 σ3 H5 x u _ I5' r5 (step x H5 y5)) fun _ s6 ⟨σ6,H6,I6,q6⟩=>?_)
  refine wpAny_passesOwn hp (thn (hb _ s6 σ6 H6 _ I6 q6) fun f s7 q7=>?_)
  have again:∀{σ7:St}{H7:Hp},Inv X (pins++sO fp s5.heap) σ7 H7 s7->N σ7 H7->∃ m,m<n/\∃ i σ' H',Inv X pins σ' H' s7/\tn i s7.heap/\(∀ b∈fp,H' b=none)/\W i m σ' H':=fun{σ7 H7} I7 n7=>by
   obtain⟨m',hm,w7⟩:=hN σ7 H7 n7
   refine⟨m',hm,i+1,σ7,H7,I7.unpinned,T.keep _ _ _ st5 fun b hb o e=>(I7.pin (b,o) (Cm _ (Cm _ (eZ hb e)))).1,fun b hb=>?_,w7⟩
   obtain⟨o,e,d⟩:=T.obj _ _ st5 b hb
   exact(I7.pin (b,o) (Cm _ (Cm _ (eZ hb e)))).2.1
  cases f with
  |next=>obtain⟨σ7,H7,I7,n7⟩:=q7;exact again I7 n7
  |cont=>obtain⟨σ7,H7,I7,n7⟩:=q7;exact again I7 n7
  |brk=>obtain⟨σ7,H7,I7,q7⟩:=q7;exact⟨σ7,H7,I7.unpinned,q7⟩
  |ret v=>obtain⟨x7,σ7,H7,I7,r7,q7⟩:=q7;exact⟨x7,σ7,H7,I7.unpinned,r7,q7⟩
end
theorem ir{K:B9}{a:Addr}{xs:List V}{g:TG}{tb:TS}{D:Ends}{σ:St}{H:Hp}(Pv:Nat->St->Hp->Prop)(h0:Pv 0 σ H)(hl:∀ i σ H,i<=xs.length->Pv i σ H->SqL K H a xs)
  (hs:∀ i x σ H,xs[i]?=some x->Pv i σ H->g x σ H fun σ2 H2=>tb { D with nx:=Pv (i+1),ct:=Pv (i+1),bk:=D.nx } σ2 H2) (hd:∀ σ H,Pv xs.length σ H->D.nx σ H) :
  ∃ W:Nat->Nat->St->Hp->Prop,(∃ m,W 0 m σ H)/\∀ i m σ H,W i m σ H ->
   ((Itl K a).stop i H/\D.nx σ H)∨((Itl K a).go i H/\∃ N:St->Hp->Prop,(∀ σ' H',N σ' H'->∃ m',m'<m/\W (i+1) m' σ' H')/\∀ x H',(Itl K a).yld i H x H'->g x σ H' fun σ2 H2=>tb { D with nx:=N,ct:=N,bk:=D.nx } σ2 H2):=by
 refine⟨fun i m σ H=>m=xs.length-i/\i<=xs.length/\Pv i σ H,⟨xs.length,by simp,Dm _,h0⟩,?_⟩
 rintro i m σ H ⟨rfl,hi,p⟩
 have q:=hl i σ H hi p
 by_cases hlt:i<xs.length
 ·refine .inr ⟨⟨xs,xs[i],q,by simp[hlt]⟩,Pv (i+1),fun σ' H' p'=>⟨xs.length-(i+1),by omega,rfl,hlt,p'⟩,fun x H' y=>?_⟩
  obtain⟨e,y⟩:=y
  subst e
  exact hs i x σ _ (y xs q) p
 ·have e:i=xs.length:=by omega
  subst e
  exact .inl ⟨⟨xs,q,Cg _⟩,hd σ H p⟩
theorem bP{lo:Int}{n:Nat}{g:TG}{tb:TS}{D:Ends}{σ:St}{H:Hp}(Pv:Nat->St->Hp->Prop)(h0:Pv 0 σ H)
  (hs:∀ i σ H,i<n->Pv i σ H->g (.int (lo+i)) σ H fun σ2 H2=>tb { D with nx:=Pv (i+1),ct:=Pv (i+1),bk:=D.nx } σ2 H2) (hd:∀ σ H,Pv n σ H->D.nx σ H) :
  ∃ W:Nat->Nat->St->Hp->Prop,(∃ m,W 0 m σ H)/\∀ i m σ H,W i m σ H ->
   ((Itr lo n).stop i H/\D.nx σ H)∨((Itr lo n).go i H/\∃ N:St->Hp->Prop,(∀ σ' H',N σ' H'->∃ m',m'<m/\W (i+1) m' σ' H')/\∀ x H',(Itr lo n).yld i H x H'->g x σ H' fun σ2 H2=>tb { D with nx:=N,ct:=N,bk:=D.nx } σ2 H2):=by
 refine⟨fun i m σ H=>m=n-i/\i<=n/\Pv i σ H,⟨n,by simp,Dm _,h0⟩,?_⟩
 rintro i m σ H ⟨rfl,hi,p⟩
 by_cases hlt:i<n
 ·refine .inr ⟨hlt,Pv (i+1),fun σ' H' p'=>⟨n-(i+1),by omega,rfl,hlt,p'⟩,fun x H' y=>?_⟩
  obtain⟨e,y⟩:=y
  subst e y
  exact hs i σ _ hlt p
 ·have e:i=n:=by omega
  subst e
  exact .inl ⟨Cg _,hd σ H p⟩
theorem vU{c:TT}{tb:TS}{D:Ends}{σ:St}{H:Hp}(Pv:St->Hp->Prop)(μ:St->Hp->Nat)(h0:Pv σ H)
  (hs:∀ σ H,Pv σ H->c σ H fun b H1=>if b=true then tb { D with nx:=fun σ' H'=>Pv σ' H'/\μ σ' H'<μ σ H,ct:=fun σ' H'=>Pv σ' H'/\μ σ' H'<μ σ H,bk:=D.nx } σ H1 else D.nx σ H1)
  (mono:∀ σ H Q Q',(∀ b H1,Q b H1->Q' b H1)->c σ H Q->c σ H Q'):AA c tb D σ H:=by
 refine⟨fun m σ H=>m=μ σ H/\Pv σ H,⟨_,rfl,h0⟩,?_⟩
 rintro m σ H ⟨rfl,p⟩
 refine mono σ H _ _ (fun b H1 q=>?_) (hs σ H p)
 cases b with
 |true=>exact⟨_,fun σ' H' ⟨p',l⟩=>⟨_,l,rfl,p'⟩,q⟩
 |false=>exact q
end L2
namespace L2
open PySem PySem.Spec PyProof.Rows
abbrev R2:=V->V->Hp->VK->Prop
def OpR(X:Cx)(f:Value->Value->Sem Value)(r:R2):Prop :=
 ∀(pins:List (Addr×Obj))(s:Shared)(σ:St)(H:Hp)(x y:V)(v u:Value)(Q:VK),Inv X pins σ H s->RelV x v->RelV y u->r x y H Q ->
  wpAny (model X.prog X.w) X.A (f v u) (EP X pins σ Q) X.xe s
def UnR(X:Cx)(f:Value->Sem Value)(r:V->Hp->VK->Prop):Prop :=
 ∀(pins:List (Addr×Obj))(s:Shared)(σ:St)(H:Hp)(x:V)(v:Value)(Q:VK),Inv X pins σ H s->RelV x v->r x H Q ->
  wpAny (model X.prog X.w) X.A (f v) (EP X pins σ Q) X.xe s
def k9(X:Cx)(f:Value)(r:List V->Hp->VK->Prop):Prop :=
 ∀(pins:List (Addr×Obj))(s:Shared)(σ:St)(H:Hp)(xs:List V)(us:List Value)(Q:VK),Inv X pins σ H s->Vals xs us->r xs H Q ->
  wpAny (model X.prog X.w) X.A (call f us) (EP X pins σ Q) X.xe s
def tOp(r:R2)(ta tb:TE):TE:=fun σ H Q=>ta σ H fun x H1=>tb σ H1 fun y H2=>r x y H2 Q
def tUn(r:V->Hp->VK->Prop)(ta:TE):TE:=fun σ H Q=>ta σ H fun x H1=>r x H1 Q
def rI(C:Int->Int->Prop)(g:Int->Int->V):R2:=fun x y H Q=>∃ i j,x=.int i/\y=.int j/\C i j/\Q (g i j) H
def rI0(g:Int->Int->V):R2:=fun x y H Q=>∃ i j,x=.int i/\y=.int j/\Q (g i j) H
def rU(g:Int->V):V->Hp->VK->Prop:=fun x H Q=>∃ i,x=.int i/\Q (g i) H
section
variable{X:Cx}{a b c:Expr}{ta tb tc:TE}{pos:Pos}
theorem binT(ha:PE X a ta)(hb:PE X b tb){pins:List (Addr×Obj)}{s:Shared}{σ:St}{H:Hp}{R:V->V->Hp->Prop}(I:Inv X pins σ H s)
  (h:ta σ H fun x H1=>tb σ H1 fun y H2=>R x y H2) {Q:Value->Shared->Prop} {f:Value->Value->Sem Value}
  (hf:∀ v u s2 x y H2,Inv X pins σ H2 s2->RelV x v->RelV y u->R x y H2->wpAny (model X.prog X.w) X.A (f v u) Q X.xe s2) :
  wpAny (model X.prog X.w) X.A (eval a X.env) (fun v s₁=>wpAny (model X.prog X.w) X.A (eval b X.env) (fun u s₂=>wpAny (model X.prog X.w) X.A (f v u) Q X.xe s₂) X.xe s₁) X.xe s:=by
 refine thn (ha pins s σ H _ I h) fun v s1 ⟨x,H1,I1,r1,q1⟩=>?_
 refine thn (hb pins s1 σ H1 _ I1 q1) fun u s2 ⟨y,H2,I2,r2,q2⟩=>?_
 exact hf v u s2 x y H2 I2 r1 r2 q2
theorem aq{op:Operator}{r:R2}(ho:OpR X (binaryOp op) r)(ha:PE X a ta)(hb:PE X b tb):PE X (.BinOp a op b pos) (tOp r ta tb):=by
 intro pins s σ H Q I h
 exact wpAny_BinOp (binT ha hb I h fun v u s2 x y H2 I2 rx ry q=>ho pins s2 σ H2 x y v u Q I2 rx ry q)
theorem Bq{op:UnaryOp}{r:V->Hp->VK->Prop}(ho:UnR X (unaryOp op) r)(ha:PE X a ta):PE X (.UnaryOp op a pos) (tUn r ta):=by
 intro pins s σ H Q I h
 exact UnaryOp_ (thn (ha pins s σ H _ I h) fun v s1 ⟨x,H1,I1,r1,q1⟩=>ho pins s1 σ H1 x v Q I1 r1 q1)
theorem opI{f:Value->Value->Sem Value}{C:Int->Int->Prop}{g:Int->Int->Int}
  (rule:∀(i j:Int)(t u:Tok)(s:Shared)(Q:Value->Shared->Prop)(E:Value->Shared->Prop),C i j->Q (.int (g i j) s.toks) { s with toks:=s.toks+1 }->wpAny (model X.prog X.w) X.A (f (.int i t) (.int j u)) Q E s) :
  OpR X f (rI C fun i j=>.int (g i j)):=by
 intro pins s σ H x y v u Q I rx ry h
 obtain⟨i,j,rfl,rfl,hc,q⟩:=h
 obtain⟨t,rfl⟩:=rx
 obtain⟨t',rfl⟩:=ry
 exact rule i j t t' s _ _ hc ⟨.int (g i j),H,I.tok _,⟨_,rfl⟩,q⟩
theorem opI0{f:Value->Value->Sem Value}{g:Int->Int->Int}
  (rule:∀(i j:Int)(t u:Tok)(s:Shared)(Q:Value->Shared->Prop)(E:Value->Shared->Prop),Q (.int (g i j) s.toks) { s with toks:=s.toks+1 }->wpAny (model X.prog X.w) X.A (f (.int i t) (.int j u)) Q E s) :
  OpR X f (rI0 fun i j=>.int (g i j)):=by
 intro pins s σ H x y v u Q I rx ry h
 obtain⟨i,j,rfl,rfl,q⟩:=h
 obtain⟨t,rfl⟩:=rx
 obtain⟨t',rfl⟩:=ry
 exact rule i j t t' s _ _ ⟨.int (g i j),H,I.tok _,⟨_,rfl⟩,q⟩
theorem opB0{f:Value->Value->Sem Value}{g:Int->Int->Bool}
  (rule:∀(i j:Int)(t u:Tok)(s:Shared)(Q:Value->Shared->Prop)(E:Value->Shared->Prop),Q (.bool (g i j)) s->wpAny (model X.prog X.w) X.A (f (.int i t) (.int j u)) Q E s) :
  OpR X f (rI0 fun i j=>.bl (g i j)):=by
 intro pins s σ H x y v u Q I rx ry h
 obtain⟨i,j,rfl,rfl,q⟩:=h
 obtain⟨t,rfl⟩:=rx
 obtain⟨t',rfl⟩:=ry
 exact rule i j t t' s _ _ ⟨.bl (g i j),H,I,rfl,q⟩
def CDiv(i j:Int):Prop:=0<j/\j<1073741824
def CPow(i j:Int):Prop:=0<=j/\j<=1000000/\i.natAbs<2^64
def CMul(i j:Int):Prop:=(-(2^64)<i/\i<2^64)∨(-(2^64)<j/\j<2^64)
theorem CMul.ok{i j:Int}(h:CMul i j):IntMulOk i j:=by
 rcases h with⟨h1,h2⟩ | ⟨h1,h2⟩
 ·exact .of_left (intBits_le_64 h1 h2)
 ·exact .of_right (intBits_le_64 h1 h2)
theorem aL:OpR X (binaryOp .Add) (rI0 fun i j=>.int (i+j)):=opI0 fun _ _ _ _ _ _ _ q=>add_int q
theorem dR:OpR X (binaryOp .Sub) (rI0 fun i j=>.int (i-j)):=opI0 fun _ _ _ _ _ _ _ q=>sub_int q
theorem cz:OpR X (binaryOp .Mult) (rI CMul fun i j=>.int (i*j)):=opI fun _ _ _ _ _ _ _ hc q=>mul_int q hc.ok
theorem cE:OpR X (binaryOp .FloorDiv) (rI CDiv fun i j=>.int (i/j)):=opI fun i j _ _ _ _ _ hc q=>by
 have h1:(0:Int)<j:=hc.1
 have h2:j<1073741824:=hc.2
 exact floordiv_int (by omega) (by rw[Int.fdiv_eq_ediv_of_nonneg i (by omega)];exact q) (.inl (PyProof.noPylong_small (by omega)))
theorem aU:OpR X (binaryOp .Mod) (rI (fun _ j=>0<j) fun i j=>.int (i%j)):=opI fun i j _ _ _ _ _ hc q=>by
 have h1:(0:Int)<j:=hc
 exact mod_int' (by omega) (by rw[Int.fmod_eq_emod_of_nonneg i (by omega)];exact q)
theorem lu:OpR X (binaryOp .Pow) (rI CPow fun i j=>.int (i^j.toNat)):=opI fun _ _ _ _ _ _ _ hc q=>pow_int_small hc.1 hc.2.1 hc.2.2 q
theorem wj:OpR X (binaryOp .LShift) (rI CPow fun i j=>.int (i*2^j.toNat)):=opI fun _ _ _ _ _ _ _ hc q=>lshift_int_small hc.1 hc.2.1 hc.2.2 q
theorem op_and:OpR X (binaryOp .BitAnd) (rI0 fun i j=>.int (Builtin.bitAnd i j)):=opI0 fun _ _ _ _ _ _ _ q=>and_int q
theorem op_or:OpR X (binaryOp .BitOr) (rI0 fun i j=>.int (Builtin.bitOr i j)):=opI0 fun _ _ _ _ _ _ _ q=>or_int q
theorem unI{f:Value->Sem Value}{g:Int->Int}
  (rule:∀(i:Int)(t:Tok)(s:Shared)(Q:Value->Shared->Prop)(E:Value->Shared->Prop),Q (.int (g i) s.toks) { s with toks:=s.toks+1 }->wpAny (model X.prog X.w) X.A (f (.int i t)) Q E s) :
  UnR X f (rU fun i=>.int (g i)):=by
 intro pins s σ H x v Q I rx h
 obtain⟨i,rfl,q⟩:=h
 obtain⟨t,rfl⟩:=rx
 exact rule i t s _ _ ⟨.int (g i),H,I.tok _,⟨_,rfl⟩,q⟩
theorem xO:UnR X (unaryOp .USub) (rU fun i=>.int (-i)):=unI fun _ _ _ _ _ q=>neg_int q
end
def scal:V->V->Bool
 |.non,.non=>true | .non,.int _=>true | .int _,.non=>true | .non,.bl _=>true | .bl _,.non=>true | .non,.str _=>true | .str _,.non=>true
 |.int _,.int _=>true | .bl _,.bl _=>true | .str _,.str _=>true | .byt _,.byt _=>true
 |.int _,.str _=>true | .str _,.int _=>true | .bl _,.str _=>true | .str _,.bl _=>true
 |_,_=>false
def rEq:R2:=fun x y H Q=>scal x y=true/\Q (.bl (decide (x=y))) H
def rNe:R2:=fun x y H Q=>scal x y=true/\Q (.bl (!decide (x=y))) H
theorem zg{i j:Int}:decide (V.int i=V.int j)=(i == j):=by
 rw[Ec]
 simp
theorem AU{i j:Bool}:decide (V.bl i=V.bl j)=(i == j):=by
 rw[Ec]
 simp
theorem zf{i j:Str}:decide (V.str i=V.str j)=(i == j):=by
 rw[Ec]
 simp
theorem zh{i j:Array UInt8}:decide (V.byt i=V.byt j)=(i.toList == j.toList):=by
 rw[Ec]
 cases i
 cases j
 simp
section
variable{X:Cx}{a b c:Expr}{ta tb tc:TE}{pos:Pos}
theorem aW{pins:List (Addr×Obj)}{σ:St}{H:Hp}{s:Shared}{Q:VK}{k k':Bool}(I:Inv X pins σ H s)(q:Q (.bl k) H)(e:k=k'):EP X pins σ Q (.bool k') s:=by
 subst e
 exact⟨.bl k,H,I,rfl,q⟩
theorem fu:OpR X (compareOp .Eq) rEq:=by
 intro pins s σ H x y v u Q I rx ry h
 obtain⟨hs,q⟩:=h
 cases x with
 |non =>
  cases rx
  cases y with
  |non=>cases ry;exact PySem.EqNone.eq_none_none (aW I q (by simp))
  |bl j=>cases ry;exact PySem.EqNone.eq_none_bool (aW I q (by simp))
  |int j=>obtain⟨t',rfl⟩:=ry;exact PySem.EqNone.eq_none_int (aW I q (by simp))
  |str j=>obtain⟨t',rfl⟩:=ry;exact PySem.EqNone.eq_none_str (aW I q (by simp))
  |_=>exact absurd (show false=true from hs) CM
 |bl i =>
  cases rx
  cases y with
  |non=>cases ry;exact PySem.EqNone.eq_bool_none (aW I q (by simp))
  |bl j=>cases ry;exact eq_bool (aW I q AU)
  |str j=>obtain⟨t',rfl⟩:=ry;exact PySem.EqMixed.eq_bool_str (aW I q (by simp))
  |_=>exact absurd (show false=true from hs) CM
 |int i =>
  obtain⟨t,rfl⟩:=rx
  cases y with
  |non=>cases ry;exact PySem.EqNone.eq_int_none (aW I q (by simp))
  |int j=>obtain⟨t',rfl⟩:=ry;exact eq_int (aW I q zg)
  |str j=>obtain⟨t',rfl⟩:=ry;exact PySem.EqMixed.eq_int_str (aW I q (by simp))
  |_=>exact absurd (show false=true from hs) CM
 |str i =>
  obtain⟨t,rfl⟩:=rx
  cases y with
  |non=>cases ry;exact PySem.EqNone.eq_str_none (aW I q (by simp))
  |bl j=>cases ry;exact PySem.EqMixed.eq_str_bool (aW I q (by simp))
  |int j=>obtain⟨t',rfl⟩:=ry;exact PySem.EqMixed.eq_str_int (aW I q (by simp))
  |str j=>obtain⟨t',rfl⟩:=ry;exact eq_str (aW I q zf)
  |_=>exact absurd (show false=true from hs) CM
 |byt i =>
  obtain⟨t,rfl⟩:=rx
  cases y with
  |byt j=>obtain⟨t',rfl⟩:=ry;exact PySem.W.eq_bytes (aW I q zh)
  |_=>exact absurd (show false=true from hs) CM
 |_=>cases y<;>exact absurd (show false=true from hs) CM
theorem qK:OpR X (compareOp .NotEq) rNe:=by
 intro pins s σ H x y v u Q I rx ry h
 obtain⟨hs,q⟩:=h
 cases x with
 |non =>
  cases rx
  cases y with
  |non=>cases ry;exact PySem.EqNone.ne_none_none (aW I q (by simp))
  |bl j=>cases ry;exact PySem.EqNone.ne_none_bool (aW I q (by simp))
  |int j=>obtain⟨t',rfl⟩:=ry;exact PySem.EqNone.ne_none_int (aW I q (by simp))
  |str j=>obtain⟨t',rfl⟩:=ry;exact PySem.EqNone.ne_none_str (aW I q (by simp))
  |_=>exact absurd (show false=true from hs) CM
 |bl i =>
  cases rx
  cases y with
  |non=>cases ry;exact PySem.EqNone.ne_bool_none (aW I q (by simp))
  |bl j=>cases ry;exact ne_bool (aW I q (congrArg not AU))
  |str j=>obtain⟨t',rfl⟩:=ry;exact PySem.EqMixed.ne_bool_str (aW I q (by simp))
  |_=>exact absurd (show false=true from hs) CM
 |int i =>
  obtain⟨t,rfl⟩:=rx
  cases y with
  |non=>cases ry;exact PySem.EqNone.ne_int_none (aW I q (by simp))
  |int j=>obtain⟨t',rfl⟩:=ry;exact ne_int (aW I q (congrArg not zg))
  |str j=>obtain⟨t',rfl⟩:=ry;exact PySem.EqMixed.ne_int_str (aW I q (by simp))
  |_=>exact absurd (show false=true from hs) CM
 |str i =>
  obtain⟨t,rfl⟩:=rx
  cases y with
  |non=>cases ry;exact PySem.EqNone.ne_str_none (aW I q (by simp))
  |bl j=>cases ry;exact PySem.EqMixed.ne_str_bool (aW I q (by simp))
  |int j=>obtain⟨t',rfl⟩:=ry;exact PySem.EqMixed.ne_str_int (aW I q (by simp))
  |str j=>obtain⟨t',rfl⟩:=ry;exact ne_str (aW I q (congrArg not zf))
  |_=>exact absurd (show false=true from hs) CM
 |byt i =>
  obtain⟨t,rfl⟩:=rx
  cases y with
  |byt j=>obtain⟨t',rfl⟩:=ry;exact PySem.W.ne_bytes (aW I q (congrArg not zh))
  |_=>exact absurd (show false=true from hs) CM
 |_=>cases y<;>exact absurd (show false=true from hs) CM
theorem jq:OpR X (compareOp .Lt) (rI0 fun i j=>.bl (decide (i<j))):=opB0 fun _ _ _ _ _ _ _ q=>lt_int q
theorem sQ:OpR X (compareOp .Gt) (rI0 fun i j=>.bl (decide (j<i))):=opB0 fun _ _ _ _ _ _ _ q=>gt_int q
theorem zT:OpR X (compareOp .GtE) (rI0 fun i j=>.bl (decide (j<=i))):=opB0 fun _ _ _ _ _ _ _ q=>ge_int q
theorem av(b:Expr){op:CmpOp}(h:op≠.In:=by decide)(h2:op≠.NotIn:=by decide):behindInMarks op b=false:=by
 have e1:(op == CmpOp.In)=false:=by cases op<;>first | rfl | exact absurd rfl h
 have e2:(op == CmpOp.NotIn)=false:=by cases op<;>first | rfl | exact absurd rfl h2
 cases b<;>simp[behindInMarks,e1,e2]
theorem gA{op:CmpOp}{r:R2}(ho:OpR X (compareOp op) r)(ha:PE X a ta)(hb:PE X b tb)(hm:behindInMarks op b=false):PE X (.Compare a [op] [b] pos) (tOp r ta tb):=by
 intro pins s σ H Q I h
 exact wpAny_Compare1 (binT ha hb I h fun v u s2 x y H2 I2 rx ry q=>ho pins s2 σ H2 x y v u Q I2 rx ry q) hm
def tTest(t:TE):TT:=fun σ H Q=>t σ H fun x H'=>∃ k,x=.bl k/\Q k H'
theorem au{op:CmpOp}{r:R2}(ho:OpR X (compareOp op) r)(ha:PE X a ta)(hb:PE X b tb)(hm:behindInMarks op b=false):PT X (.Compare a [op] [b] pos) (tTest (tOp r ta tb)):=by
 intro pins s σ H Q I h
 refine wpAny_isTrue_Compare1 (thn (ha pins s σ H _ I h) fun v s1 ⟨x,H1,I1,r1,q1⟩=>thn (hb pins s1 σ H1 _ I1 q1) fun u s2 ⟨y,H2,I2,r2,q2⟩ =>
  thn (ho pins s2 σ H2 x y v u _ I2 r1 r2 q2) fun c s3 ⟨z,H3,I3,r3,k,e,q3⟩=>?_) hm
 subst e
 cases r3
 exact wpAny_truthy_bool ⟨H3,I3,q3⟩
theorem wo:(sizeLine:Nat)<2^63:=by rw[sizeLine_eq];decide
theorem xN{x:V}{us:List Value}(r:Vals [x] us):∃ u,us = [u]/\RelV x u:=by
 cases r with
 |cons r1 r2=>cases r2;exact⟨_,rfl,r1⟩
theorem A9{x y:V}{us:List Value}(r:Vals [x,y] us):∃ u w',us = [u,w']/\RelV x u/\RelV y w':=by
 cases r with
 |cons r1 r2 =>
  cases r2 with
  |cons r3 r4=>cases r4;exact⟨_,_,rfl,r1,r3⟩
theorem Aw:k9 X (.builtin "abs") (fun xs H Q=>∃ i,xs = [.int i]/\Q (.int (if i<0 then -i else i)) H):=by
 intro pins s σ H xs us Q I r h
 obtain⟨i,rfl,q⟩:=h
 obtain⟨u,rfl,t,rfl⟩:=xN r
 exact call_abs_int fun u tk=>⟨.int (if i<0 then -i else i),H,I.tok _,⟨_,rfl⟩,q⟩
end
end L2
namespace L2
open PySem PySem.Spec PyProof.Rows
structure ObjM(h:Heap)(x dx C:Addr)(mA:Str->Option Value):Prop where
 obj:h.get? x=some (Dv C dx)
 ns:h.Ns1 dx mA
 ne:dx≠x
theorem yF{h:Heap}{dx:Addr}{mA:Str->Option Value}(n:h.Ns1 dx mA):∃ od,h.get? dx=some od/\∀ name,EE name od=some (mA name):=by
 obtain⟨o,es,ep,ho,hd,hk,_,hm⟩:=n
 refine⟨o,ho,fun name=>?_⟩
 have e:=hm name
 unfold nsFind findBy at e
 rw[← Array.find?_toList]at e
 unfold EE
 rw[hd]
 dsimp only
 split
 ·rename_i y q
  rw[q]at e
  exact congrArg some e
 ·rename_i q
  rw[q]at e
  have a:es.toList.any (·.refKey)=false:=by
   rw[List.any_eq_false]
   intro y hy
   obtain⟨z,t,hkey⟩:=hk y (Array.mem_toList_iff.mp hy)
   simp[DictEntry.refKey,hkey]
  have a':¬ es.toList.any (·.refKey)=true:=by rw[a];exact CM
  rw[if_neg a']
  exact congrArg some e
theorem ObjM.look{h:Heap}{x dx C:Addr}{mA:Str->Option Value}(I:ObjM h x dx C mA):∃ od,PySem.W.InstAt h x (Dv C dx) C (some od)/\∀ name,EE name od=some (mA name) :=
 let ⟨od,ho,hl⟩:=yF I.ns
 ⟨od,⟨I.obj,rfl,rfl,ho⟩,hl⟩
section
variable{prog:Program}{w:World}{A:Around}{E:Value->Shared->Prop}{s:Shared}{K:B9}{x dx C f:Addr}{mA:Str->Option Value}{name:Str}{v:Value}
theorem BO{expr:Bool}{Q:Value->Shared->Prop}(X:K.In s.heap)(I:ObjM s.heap x dx C mA)(hg:DE K C name=true)(hh:Di K C=true)
  (ha:Cq K (.ref C) name=some none) (hv:mA name=some v) (hv':PySem.W.handedIn v=true) (h:Q v { s with toks:=s.toks+1 }) :
  wpAny (model prog w) A (getAttr (.ref x) name expr) Q E s:=by
 obtain⟨od,J,hl⟩:=I.look
 exact PySem.W.get_value X J (PySem.W.plainGet_of hg).1 (PySem.W.findObj_own hh ha rfl (by rw[hl,hv])) hv' h
theorem Bl{ns:List Str}{Q:Unit->Shared->Prop}(X:K.In s.heap)(I:ObjM s.heap x dx C mA)
  (hs:Cq K (.ref C) "__setattr__" = some (some (.builtin "object.__setattr__"))) (hp:DM K C=true) (ht:Ex K C name=some none) (hh:Di K C=true)
  (hw:PySem.Within mA ns) (hsz:ns.length<=sizeLine)
  (h:∀ h',ObjM h' x dx C (fun y=>if y=name then some v else mA y)->Heap.SameBut dx s.heap h'->Q () { s with heap:=h',toks:=s.toks+2 }) :
  wpAny (model prog w) A (setAttr (.ref x) name v) Q E s:=by
 obtain⟨od,J,hl⟩:=I.look
 refine PySem.W.set_plain X J hs (PySem.W.osa_open (s:={ s with toks:=s.toks+1 }) (r:=none) X J hp ht fun b=>?_)
 obtain⟨cd,hc,hd'⟩:=Et hh
 have hx:s.heap.get? x=some ⟨.ref C,some dx,.plain,#[]⟩:=I.obj
 refine wpAny_bind (wpAny_pure (wpAny_bind (wpAny_bind (wpAny_loadPart hx (wpAny_bind (PySem.W.Looks.here (s:={ s with toks:=s.toks+1 }) (PySem.W.looks_clsIn X hc) ?_))))))
 rw[hd']
 refine wpAny_pure (a:=some dx) (wpAny_bind (wpAny_pure (wpAny_bind ?_)))
 refine wpAny_nsSet1 (s:={ s with toks:=s.toks+1 }) I.ns fun h' hn2 hs2=>?_
 obtain⟨oD,esD,epD,hoD,hdD,hcD⟩:=hn2.count (PySem.Within.cons name v hw)
 refine wpAny_bind (wpAny_lookBehind hoD (by rw[hdD];exact pastItsLine_dict (C6 hcD (by rw[Df];omega))) ?_)
 exact wpAny_pure (h _ ⟨(hs2.2 _ (Ne.symm I.ne)).trans I.obj,hn2,I.ne⟩ hs2)
theorem Ad{R:Result->Shared->Prop}{vs:List Value}{kw:List (Str×Value)}(X:K.In s.heap)(hm:DR K C=true)
  (hi:Cq K (.ref C) "__init__" = some (some (.ref f))) (hf:PySem.W.typeIn K (.ref f)=some (.type "function"))
  (h:codeAny (model prog w) (A.under (.builtin "type.__call__" ⟨.ref C::vs,kw⟩)) (.call (.ref f) ⟨.ref (s.heap.objs.size+1)::vs,kw⟩) (PySem.W.InitBack (s.heap.objs.size+1) R)
   { s with heap:=(s.heap.push Dj).push (Dv C s.heap.objs.size) }) :
  codeAny (model prog w) A (.call (.ref C) ⟨vs,kw⟩) R s:=by
 obtain⟨hh,g,d,t,os⟩:=s
 exact PySem.W.make_core (PySem.W.makes_of X hm) (DP X hi) (fun self=>PySem.W.bind_fn X self hf) (.inl rfl) h
end
def putF(f:Str)(v:V):List (Str×V)->List (Str×V)
 |[]=>[(f,v)]
 | (g,x)::r=>if g=f then(g,v)::r else(g,x)::putF f v r
theorem ax(f g:Str)(v:V):∀ fs:List (Str×V),(putF f v fs).lookup g=if g=f then some v else fs.lookup g
 |[]=>by
  show DS g [(f,v)]=_
  by_cases h:g=f
  ·have hb:(g == f)=true:=beq_iff_eq.mpr h
   simp only[DS,hb,if_pos h]
  ·have hb:(g == f)=false:=beq_eq_false_iff_ne.mpr h
   simp only[DS,hb,if_neg h]
 | (k,x)::r=>by
  have ih:=ax f g v r
  rw[show putF f v ((k,x)::r)=(if k=f then(k,v)::r else(k,x)::putF f v r) from rfl]
  by_cases hk:k=f
  ·rw[if_pos hk]
   by_cases h:g=k
   ·have hb:(g == k)=true:=beq_iff_eq.mpr h
    simp only[DS,hb,if_pos (h.trans hk)]
   ·have hb:(g == k)=false:=beq_eq_false_iff_ne.mpr h
    simp only[DS,hb,if_neg (fun e:g=f=>h (e.trans hk.symm))]
  ·rw[if_neg hk]
   by_cases h:g=k
   ·have hb:(g == k)=true:=beq_iff_eq.mpr h
    simp only[DS,hb,if_neg (fun e:g=f=>hk (h.symm.trans e))]
   ·have hb:(g == k)=false:=beq_eq_false_iff_ne.mpr h
    simp only[DS,hb]
    exact ih
theorem mU(f:Str)(v:V):∀ fs:List (Str×V),f∈(putF f v fs).map (·.1)/\∀ g,g∈fs.map (·.1)->g∈(putF f v fs).map (·.1)
 |[]=>⟨by simp[putF],fun g h=>by simp at h⟩
 | (k,x)::r=>by
  obtain⟨i1,i2⟩:=mU f v r
  rw[show putF f v ((k,x)::r)=(if k=f then(k,v)::r else(k,x)::putF f v r) from rfl]
  by_cases hk:k=f
  ·rw[if_pos hk]
   subst hk
   exact⟨by simp,fun g h=>by simpa using h⟩
  ·rw[if_neg hk]
   refine⟨?_,fun g h=>?_⟩
   ·rw[C0]
    exact CN _ i1
   ·rw[C0]at h ⊢
    rcases Co.mp h with e | e
    ·exact Co.mpr (.inl e)
    ·exact CN _ (i2 g e)
theorem mP(f:Str)(v:V):∀ fs:List (Str×V),(putF f v fs).length<=fs.length+1
 |[]=>by simp[putF]
 | (k,x)::r=>by
  have ih:=mP f v r
  rw[show putF f v ((k,x)::r)=(if k=f then(k,v)::r else(k,x)::putF f v r) from rfl]
  by_cases hk:k=f
  ·rw[if_pos hk,Df,Df];omega
  ·rw[if_neg hk,Df,Df];omega
theorem RelO.some_of{v:V}{o:Option Value}(r:RelO (some v) o):∃ u,o=some u/\RelV v u:=by
 cases o with
 |none=>exact(show False from r).elim
 |some u=>exact⟨u,rfl,r⟩
theorem y6{v:V}{u:Value}(r:RelV v u):PySem.W.handedIn u=true:=by
 cases v with
 |non=>cases (show u=Value.none from r);rfl
 |bl b=>cases (show u=Value.bool b from r);rfl
 |int i=>obtain⟨t,e⟩:=(show ∃ t,u=Value.int i t from r);cases e;rfl
 |str x=>obtain⟨t,e⟩:=(show ∃ t,u=Value.str x t from r);cases e;rfl
 |byt b=>obtain⟨t,e⟩:=(show ∃ t,u=Value.bytes b t from r);cases e;rfl
 |flt b=>obtain⟨t,e⟩:=(show ∃ t,u=Value.float b t from r);cases e;rfl
 |ref a=>cases (show u=Value.ref a from r);rfl
 |ty n=>cases (show u=Value.type n from r);rfl
section
variable{P:Program}{w:World}{H H':Hp}{h h':Heap}{a C dx:Addr}{fs fs':List (Str×V)}
theorem vn(hok:HOk P w H h)(e:H a=some (.ins C dx fs)):∃ mA,ObjM h a dx C mA/\(∀ f,RelO (fs.lookup f) (mA f))/\PySem.Within mA (fs.map (·.1))/\fs.length<=1000/\H dx=some (.own a):=by
 obtain⟨d,z,ne,ob,mA,n,r,q⟩:=(show bO P w H h a (.ins C dx fs) from hok a _ e)
 exact⟨mA,⟨ob,n,ne⟩,r,q,z,d⟩
end
structure Cls(K:B9)(C:Addr):Prop where
 pg:DE K C Str.empty=true
 hd:Di K C=true
 po:DM K C=true
 sa:Cq K (.ref C) "__setattr__" = some (some (.builtin "object.__setattr__"))
theorem Cls.get{K:B9}{C:Addr}(c:Cls K C)(f:Str):DE K C f=true:=c.pg
def et(K:B9)(C:Addr)(f:Str):Prop:=Cq K (.ref C) f=some none
theorem et.taker{K:B9}{C:Addr}{f:Str}(n:et K C f):Ex K C f=some none:=by
 unfold Ex
 rw[show Cq K (.ref C) f=some none from n]
 rfl
section
variable{X:Cx}{pins:List (Addr×Obj)}{σ:St}{H:Hp}{s:Shared}{a C dx:Addr}{fs:List (Str×V)}{f:Str}{v:V}{A:Around}{E:Value->Shared->Prop}
theorem xo{b:Bool}{Q:Value->Shared->Prop}(I:Inv X pins σ H s)(e:H a=some (.ins C dx fs))(c:Cls X.K C)(n:et X.K C f)(l:fs.lookup f=some v)
  (h:∀ u s',Inv X pins σ H s'->RelV v u->Q u s'):wpAny (model X.prog X.w) A (getAttr (.ref a) f b) Q E s:=by
 obtain⟨mA,O,r,_,_,_⟩:=vn I.hok e
 obtain⟨u,hu,ru⟩:=RelO.some_of (v:=v) (o:=mA f) (by rw[← l];exact r f)
 exact BO I.kIn O (c.get f) c.hd n hu (y6 ru) (h u _ (I.tok _) ru)
theorem wF{y:V}{u:Value}{Q:Unit->Shared->Prop}(I:Inv X pins σ H s)(e:H a=some (.ins C dx fs))(c:Cls X.K C)(n:et X.K C f)(hl:fs.length<1000)(ry:RelV y u)
  (h:∀ s',Inv X pins σ (upd H a (.ins C dx (putF f y fs))) s'->Q () s'):wpAny (model X.prog X.w) A (setAttr (.ref a) f u) Q E s:=by
 obtain⟨mA,O,r,wi,_,ho⟩:=vn I.hok e
 have hz:(fs.map (·.1)).length<=sizeLine:=by rw[Cd,sizeLine_eq];omega
 refine Bl I.kIn O c.sa c.po n.taker c.hd wi hz fun h' O' sb=>h _ ?_
 have hd:∃ o,h'.get? dx=some o:=let ⟨o,_,_,e',_⟩:=O'.ns;⟨o,e'⟩
 refine I.write (x:=a) (e:=dx) (by rw[e];exact True.intro) (.inr ho) (fun b q hb z=>(sb.2 b hb).trans z) hd ?_
 refine⟨by rw[ao O.ne];exact ho,?_,O.ne,O'.obj,_,O'.ns,fun g=>?_,fun g hg=>?_⟩
 ·have:=mP f y fs;omega
 ·show RelO ((putF f y fs).lookup g) (if g=f then some u else mA g)
  rw[ax]
  by_cases q:g=f
  ·rw[if_pos q,if_pos q];exact ry
  ·rw[if_neg q,if_neg q];exact r g
 ·by_cases q:g=f
  ·rw[q];exact(mU f y fs).1
  ·refine(mU f y fs).2 g (wi g fun z=>hg ?_)
   show(if g=f then some u else mA g)=none
   rw[if_neg q];exact z
theorem Inv.made(I:Inv X pins σ H s):Inv X pins σ (upd (upd H s.heap.objs.size (.own (s.heap.objs.size+1))) (s.heap.objs.size+1) (.ins C s.heap.objs.size []))
  { s with heap:=(s.heap.push Dj).push (Dv C s.heap.objs.size) }:=by
 have e1:(s.heap.push Dj).get? s.heap.objs.size=some Dj:=Heap.get?_push_size s.heap rfl
 have e2:((s.heap.push Dj).push (Dv C s.heap.objs.size)).get? (s.heap.objs.size+1)=some (Dv C s.heap.objs.size):=by
  have:=Heap.get?_push_size (s.heap.push Dj) (o:=Dv C s.heap.objs.size) rfl
  rwa[Heap.size_push]at this
 have e3:(s.heap.push Dj).Ns s.heap.objs.size (fun _=>none):=⟨Dj,#[],_,e1,rfl,(fun e he=>absurd he (by simp)),fun _=>rfl⟩
 have I1:=I.laid (a:=s.heap.objs.size) (o:=.own (s.heap.objs.size+1)) (h':=s.heap.push Dj) (t':=s.toks) (fun b u q=>Heap.get?_push_of_some _ q) (Cg _) ⟨_,e1⟩
 refine I1.laid (a:=s.heap.objs.size+1) (o:=.ins C s.heap.objs.size []) (t':=s.toks) (fun b u q=>Heap.get?_push_of_some _ q) (Nat.le_of_eq (Heap.size_push _ _)) ?_
 have ne:s.heap.objs.size≠s.heap.objs.size+1:=CJ (DF _)
 refine⟨by rw[ao ne,ae],Dm _,ne,e2,fun _=>none,(Heap.Ns1.of_empty e3).at fun o q=>Heap.get?_push_of_some _ q,fun _=>True.intro,fun y hy=>absurd rfl hy⟩
theorem B6{prog:Program}{w:World}{env:Env}{e:Expr}{f:Str}{pos:Pos}{s:Shared}{Q:Value->Shared->Prop}(hb:attributeBase e f env (eval e env)=eval e env)
  (h:wpAny (model prog w) A (eval e env) (fun o s₁=>wpAny (model prog w) A (getAttr o f true) Q E s₁) E s):wpAny (model prog w) A (eval (.Attribute e f pos) env) Q E s :=
 Attribute_any_ h (by rw[arm_eval_Attribute,hb])
end
def tFld(K:B9)(ta:TE)(f:Str):TE:=fun σ H Q=>ta σ H fun x H1=>∃ a C dx fs v,x=.ref a/\H1 a=some (.ins C dx fs)/\Cls K C/\et K C f/\fs.lookup f=some v/\Q v H1
def sFld(K:B9)(ta tv:TE)(f:Str):TS:=fun D σ H=>tv σ H fun y H1=>ta σ H1 fun x H2=>∃ a C dx fs,x=.ref a/\H2 a=some (.ins C dx fs)/\Cls K C/\et K C f/\fs.length<1000 /\
 D.nx σ (upd H2 a (.ins C dx (putF f y fs)))
section
variable{X:Cx}{o e value:Expr}{f:Str}{pos pos' tpos:Pos}{ta tv:TE}
theorem bo(he:PE X e ta)(hb:attributeBase e f X.env (eval e X.env)=eval e X.env):PE X (.Attribute e f pos) (tFld X.K ta f):=by
 intro pins s σ H Q I h
 refine B6 hb (thn (he pins s σ H _ I h) fun u s1 ⟨x,H1,I1,rx,a,C,dx,fs,v,ex,ea,c,n,l,q⟩=>?_)
 subst ex
 obtain rfl:u=Value.ref a:=rx
 exact xo I1 ea c n l fun u' s2 I2 ru=>⟨v,H1,I2,ru,q⟩
theorem lr(ha:PE X o ta)(hv:PE X value tv)(hs:swapsWith value (some (.Attribute o f pos')) pos.line X.env=pure false):PS X (.Assign [.Attribute o f pos'] value pos) (sFld X.K ta tv f):=by
 intro pins s σ H D I h
 refine plainObj_wpAny_Assign_Attribute (thn (hv pins s σ H _ I h) fun u s1 ⟨y,H1,I1,ry,q⟩=>thn (ha pins s1 σ H1 _ I1 q) fun ov s2 ⟨x,H2,I2,rx,a,C,dx,fs,ex,ea,c,n,l,q2⟩=>?_) hs
 subst ex
 obtain rfl:ov=Value.ref a:=rx
 exact wF I2 ea c n l ry fun s3 I3=>⟨σ,_,I3,q2⟩
end
section
variable{X:Cx}{pins:List (Addr×Obj)}{σ:St}{H:Hp}{s:Shared}{A:Around}{E:Value->Shared->Prop}{Q:Value->Shared->Prop}{c:Value}{b:Bool}
inductive TyOf(K:B9)(H:Hp):V->Value->Prop where
 |non:TyOf K H .non (.type "NoneType")
 |bl (x:Bool):TyOf K H (.bl x) (.type "bool")
 |int (i:Int):TyOf K H (.int i) (.type "int")
 |str (x:Str):TyOf K H (.str x) (.type "str")
 |flt (x:UInt64):TyOf K H (.flt x) (.type "float")
 |lst {a:Addr} {xs:List V} (e:H a=some (.lst xs)):TyOf K H (.ref a) (.type "list")
 |frz {a:Addr} {o:Obj} {xs:List V} (e:H a=some (.frz o (.lst xs))):TyOf K H (.ref a) (.type "list")
 |tup {a:Addr} {xs:List V} (e:H a=some (.tup xs)):TyOf K H (.ref a) (.type "tuple")
 |dK {a:Addr} {kvs:List (Key×V)} (e:H a=some (.dK kvs)):TyOf K H (.ref a) (.type "dict")
 |dT {a:Addr} {kvs:List (List Key×V)} (e:H a=some (.dT kvs)):TyOf K H (.ref a) (.type "dict")
 |ins {a C dx:Addr} {fs:List (Str×V)} (e:H a=some (.ins C dx fs)) (cl:Cls K C) (ha:Cq K (.ref C) "__class__" = some (some (.builtin "object.__class__")))
   (hn:DW K (.builtin "object.__class__") "__get__" = some (some (.builtin "getset_descriptor.__get__"))) (htk:D8 K (.builtin "object.__class__")=some true)
   (hm:CV K C (.type "object")=some true):TyOf K H (.ref a) (.ref C)
theorem yO{x:V}{u t:Value}(I:Inv X pins σ H s)(rx:RelV x u)(ty:TyOf X.K H x t)(e:Cw X.K t c=some b)(h:∀ tk,Q (.bool b) { s with toks:=tk }) :
  wpAny (model X.prog X.w) A (call (.builtin "isinstance") [u,c]) Q E s:=by
 cases ty with
 |non=>cases (show u=Value.none from rx);exact C5 PySem.W.kitx_none I.kIn True.intro e (fun z=>nomatch z) h
 |bl y=>cases (show u=Value.bool y from rx);exact C5 PySem.W.kitx_bool I.kIn True.intro e (fun z=>nomatch z) h
 |int i=>obtain⟨t,q⟩:=(show ∃ t,u=Value.int i t from rx);cases q;exact C5 PySem.W.kitx_int I.kIn True.intro e (fun z=>nomatch z) h
 |str y=>obtain⟨t,q⟩:=(show ∃ t,u=Value.str y t from rx);cases q;exact C5 PySem.W.kitx_str I.kIn True.intro e (fun z=>nomatch z) h
 |flt y=>obtain⟨t,q⟩:=(show ∃ t,u=Value.float y t from rx);cases q;exact C5 PySem.W.kitx_float I.kIn True.intro e (fun z=>nomatch z) h
 | @lst a xs ea =>
  cases (show u=Value.ref a from rx)
  obtain⟨_,_,n,_,h1⟩:=(show bO X.prog X.w H s.heap a (.lst xs) from I.hok a _ ea)
  exact C5 PySem.W.kitx_list I.kIn ⟨_,h1,rfl⟩ e (fun z=>nomatch z) h
 | @frz a ob xs ea =>
  cases (show u=Value.ref a from rx)
  obtain⟨_,_,_,n,_,h1⟩:=(show bO X.prog X.w H s.heap a (.frz ob (.lst xs)) from I.hok a _ ea)
  exact C5 PySem.W.kitx_list I.kIn ⟨_,h1,rfl⟩ e (fun z=>nomatch z) h
 | @tup a xs ea =>
  cases (show u=Value.ref a from rx)
  obtain⟨_,_,_,p⟩:=(show bO X.prog X.w H s.heap a (.tup xs) from I.hok a _ ea)
  obtain⟨o,h1,h2,_⟩:=p
  exact C5 PySem.W.kitx_tuple I.kIn ⟨o,h1,h2⟩ e (fun z=>nomatch z) h
 | @dK a kvs ea =>
  cases (show u=Value.ref a from rx)
  obtain⟨_,_,vs,_,p⟩:=(show bO X.prog X.w H s.heap a (.dK kvs) from I.hok a _ ea)
  obtain⟨o,es,ep,h1,h2,_⟩:=p
  exact C5 PySem.W.kitx_dict I.kIn ⟨o,h1,h2.1⟩ e (fun z=>nomatch z) h
 | @dT a kvs ea =>
  cases (show u=Value.ref a from rx)
  obtain⟨_,_,xs,_,o,es,ep,h1,h2,_⟩:=(show bO X.prog X.w H s.heap a (.dT kvs) from I.hok a _ ea)
  exact C5 PySem.W.kitx_dict I.kIn ⟨o,h1,h2.1⟩ e (fun z=>nomatch z) h
 | @ins a C dx fs ea cl ha hn htk hm =>
  cases (show u=Value.ref a from rx)
  obtain⟨mA,O,_⟩:=vn I.hok ea
  obtain⟨od,J,_⟩:=O.look
  exact C5 (PySem.W.kitx_own (cl.get _) cl.hd ha hn htk hm) I.kIn J e (fun z=>nomatch z) h
end
end L2
namespace L2
open PySem PySem.Spec PyProof.Rows
structure Room(k:Nat)(A:Around):Prop where
 hd:A.handled=none
 dp:A.depth+3*k+5<recursionLimit
 un:A.units+16*k+200<cLine
theorem Room.mono{j k:Nat}{A:Around}(r:Room k A)(h:j<=k):Room j A:=⟨r.hd,by have:=r.dp;omega,by have:=r.un;omega⟩
theorem Room.deeper{k:Nat}{A:Around}(r:Room (k+1) A)(env:Env):Room k (A.deeper env) :=
 ⟨r.hd,by have:=r.dp;show A.depth+1+3*k+5<_;omega,by have:=r.un;show A.units+3+16*k+200<_;omega⟩
theorem w6{A:Around}{C:Addr}{us:List Value}{kw:List (Str×Value)}:(A.under (.builtin "type.__call__" ⟨.ref C::us,kw⟩)).depth=A.depth+1:=by
 first | rfl | simp[Around.under,Code.weight,Code.isCreation,Code.isGuard,Code.isCaller,Code.frames,Code.isFrame,guardIds]
theorem w4{A:Around}{C:Addr}{us:List Value}{kw:List (Str×Value)}:(A.under (.builtin "type.__call__" ⟨.ref C::us,kw⟩)).units=A.units+1:=by
 first | rfl | simp[Around.under,Code.cUnits,Code.frames,Code.isFrame]
theorem Room.make{k:Nat}{A:Around}(r:Room (k+1) A)(C:Addr)(us:List Value)(kw:List (Str×Value)):Room k (A.under (.builtin "type.__call__" ⟨.ref C::us,kw⟩)) :=
 ⟨r.hd,by have:=r.dp;rw[w6];omega,by have:=r.un;rw[w4];omega⟩
theorem Room.depth{k:Nat}{A:Around}(r:Room k A):A.depth<recursionLimit:=by have:=r.dp;omega
theorem Room.units{k:Nat}{A:Around}(r:Room k A):A.units+64<cLine:=by have:=r.un;omega
def tNil:TA:=fun _ H Q=>Q [] H
def tCons(ta:TE)(tr:TA):TA:=fun σ H Q=>ta σ H fun x H1=>tr σ H1 fun xs H2=>Q (x::xs) H2
section
variable{X:Cx}{e:Expr}{es:List Expr}{te:TE}{t:TA}{pos:Pos}
theorem ag:PA X [] tNil:=fun _ _ _ _ H Q I h=>Calls.spliced_nil ⟨[],H,I,.nil,h⟩
theorem aa(ha:PE X e te)(hr:PA X es t)(hs:starEach (e::es) X.env=(false,eval e X.env)::starEach es X.env:=by rfl):PA X (e::es) (tCons te t):=by
 intro pos pins s σ H Q I h
 rw[hs]
 show wpAny _ _ (spliced ((false,eval e X.env)::backTo pos (starEach es X.env))) _ _ s
 refine Calls.spliced_cons (thn (ha pins s σ H _ I h) fun u s1 ⟨x,H1,I1,r1,q1⟩=>?_)
 exact thn (hr pos pins s1 σ H1 _ I1 q1) fun us s2 ⟨xs,H2,I2,r2,q2⟩=>⟨x::xs,H2,I2,.cons r1 r2,q2⟩
def tTup(t:TA):TE:=fun σ H Q=>t σ H fun xs H1=>xs.length<=sizeLine/\∀ p,H1 p=none->Q (.ref p) (upd H1 p (.tup xs))
def tLst(t:TA):TE:=fun σ H Q=>t σ H fun xs H1=>xs.length<=sizeLine/\∀ p,H1 p=none->Q (.ref p) (upd H1 p (.lst xs))
theorem cq{x1}(h:PA X es t):PE X (.Tuple es x1 pos) (tTup t):=by
 intro pins s σ H Q I hq
 refine wpAny_Tuple_spliced (thn (h pos pins s σ H _ I hq) fun us s1 ⟨xs,H1,I1,r,z,q⟩=>⟨by rw[← r.length];exact z,?_⟩)
 have hf:H1 s1.heap.objs.size=none:=I1.hok.fresh (Cg _)
 refine⟨.ref s1.heap.objs.size,upd H1 s1.heap.objs.size (.tup xs),I1.laid (t':=s1.toks) (fun b u e=>Heap.get?_push_of_some _ e) (Cg _) ?_,rfl,q _ hf⟩
 exact⟨z,us,r,⟨_,Heap.get?_push_size _ rfl,rfl,_,rfl⟩⟩
theorem bc(h:PA X es t):PE X (.List es pos) (tLst t):=by
 intro pins s σ H Q I hq
 refine wpAny_List_spliced (thn (h pos pins s σ H _ I hq) fun us s1 ⟨xs,H1,I1,r,z,q⟩=>⟨by rw[← r.length];exact z,?_⟩)
 have hf:H1 s1.heap.objs.size=none:=I1.hok.fresh (Cg _)
 refine⟨.ref s1.heap.objs.size,upd H1 s1.heap.objs.size (.lst xs),I1.laid (t':=s1.toks) (fun b u e=>Heap.get?_push_of_some _ e) (Cg _) ?_,rfl,q _ hf⟩
 exact⟨z,us,0,r,Heap.get?_push_size _ rfl⟩
end
abbrev Sp:=List V->Hp->VK->XK->Prop
abbrev CXT:=List Env->Hp->Shared->XK->Value->Shared->Prop
structure Env0(P:Program)(w:World)(K:B9)(mg:Str->Option Value)(base:Heap)(A:Around)(outer:List Env)(s:Shared)(H:Hp):Prop where
 frames:A.frames=some outer
 mod:Mod K mg base
 bs:∀ b o,base.get? b=some o->s.heap.get? b=some o/\H b=none
 bsz:base.objs.size<=s.heap.objs.size
 funs:s.heap.FunFrames base outer
 frf:∀ b∈frs outer,H b=none
 hok:HOk P w H s.heap
 bare:AllBare s.gens
def CE(outer:List Env)(P:Program)(w:World)(H:Hp)(s:Shared)(Q:VK)(u:Value)(s':Shared):Prop :=
 ∃ v H',s'.os=s.os/\AllBare s'.gens/\Un (frs outer) [] H H' s.heap s'.heap/\HOk P w H' s'.heap/\RelV v u/\Q v H'
def CR(CX:CXT)(outer:List Env)(P:Program)(w:World)(H:Hp)(s:Shared)(Q:VK)(E:XK)(r:Result)(s':Shared):Prop :=
 match r with
 |.ok (.ret u)=>CE outer P w H s Q u s'
 |.ok _=>False
 |.error e=>CX outer H s E e s'
structure FnOk(P:Program)(w:World)(K:B9)(mg:Str->Option Value)(base:Heap)(CX:CXT)(k:Nat)(f:Addr)(fd:FuncData)(ps:List Str)(sp:Sp):Prop where
 len:∀ vs H Q E,sp vs H Q E->vs.length=ps.length
 run:∀(A:Around)(outer:List Env)(s:Shared)(H:Hp)(args:Args)(us:List Value)(vs:List V)(Q:VK)(E:XK),Room k A->Env0 P w K mg base A outer s H->BindsTo s fd args (ps.zip us)->Vals vs us->sp vs H Q E ->
  codeAny (model P w) A (.call (.ref f) args) (CR CX outer P w H s Q E) s
theorem Env0.make{P:Program}{w:World}{K:B9}{mg:Str->Option Value}{base:Heap}{A:Around}{outer:List Env}{s:Shared}{H:Hp}(e:Env0 P w K mg base A outer s H)(C:Addr)(us:List Value)(kw:List (Str×Value)) :
  Env0 P w K mg base (A.under (.builtin "type.__call__" ⟨.ref C::us,kw⟩)) outer s H:=⟨by first | exact e.frames | (simpa[Around.under,Code.envs,Code.isFrame,pushEnvs] using e.frames),e.mod,e.bs,e.bsz,e.funs,e.frf,e.hok,e.bare⟩
section
variable{X:Cx}{pins:List (Addr×Obj)}{σ:St}{H:Hp}{s s':Shared}
theorem Inv.env0(I:Inv X pins σ H s):Env0 X.prog X.w X.K X.mg X.base X.A X.stack s H :=
 ⟨I.ok.frames,I.ok.mod,I.bs,C6 I.ok.bsz I.sz,I.stack,I.stkFree,I.hok,I.bare⟩
theorem Inv.after{Q:VK}{u:Value}(I:Inv X pins σ H s)(h:CE X.stack X.prog X.w H s Q u s'):EP X pins σ Q u s':=by
 obtain⟨v,H',os,bare,un,hok,r,q⟩:=h
 obtain⟨hh,g,d,t,os'⟩:=s'
 obtain rfl:os'=s.os:=os
 exact⟨v,H',I.call (h':=hh) (g':=g) (d':=d) (t':=t) (ch:=[]) un hok bare (fun b z=>absurd z (by simp)),r,q⟩
end
def tCall(sp:Sp)(dvs:List V)(E:XK)(t:TA):TE:=fun σ H Q=>t σ H fun vs H1=>sp (vs++dvs) H1 Q E
def tMake(C:Addr)(sp:Sp)(dvs:List V)(E:XK)(t:TA):TE:=fun σ H Q=>t σ H fun vs H1=>∀ x dx,H1 x=none->H1 dx=none->dx≠x ->
 sp (.ref x::(vs++dvs)) (upd (upd H1 dx (.own x)) x (.ins C dx [])) (fun v H2=>v=.non/\Q (.ref x) H2) E
def lb(K:B9)(fd:FuncData)(ps:List Str)(ds:List Value):Prop :=
 ∀(s:Shared)(us:List Value),K.In s.heap->(us++ds).length=ps.length->BindsTo s fd ⟨us,[]⟩ (ps.zip (us++ds))
theorem lb.all{K:B9}{fd:FuncData}{ps:List Str}(h:∀ us:List Value,us.length=ps.length->bindArgs fd ⟨us,[]⟩=pure (ps.zip us)):lb K fd ps []:=fun s us _ hl=>by
 rw[C2]at hl ⊢
 exact .of_eq (h us hl)
def pY(CX:CXT)(X:Cx)(E:XK):Prop:=∀(pins:List (Addr×Obj))(σ:St)(H:Hp)(s:Shared)(e:Value)(s':Shared),Inv X pins σ H s->CX X.stack H s E e s'->X.xe e s'
section
variable{X:Cx}{CX:CXT}{k:Nat}{f C:Addr}{fd:FuncData}{ps:List Str}{sp:Sp}{dvs:List V}{ds:List Value}{E:XK}{x m:Str}{p pos apos:Pos}{e o:Expr}{es:List Expr}{ta:TE}{t:TA}
theorem run_fn{pins:List (Addr×Obj)}{σ:St}{H:Hp}{s:Shared}{Q:VK}{us:List Value}{vs:List V}(F:FnOk X.prog X.w X.K X.mg X.base CX k f fd ps sp)(hr:Room k X.A)(hb:lb X.K fd ps ds)(hd:Vals dvs ds)(hx:pY CX X E)
  (I:Inv X pins σ H s) (r:Vals vs us) (h:sp (vs++dvs) H Q E):wpAny (model X.prog X.w) X.A (call (.ref f) us) (EP X pins σ Q) X.xe s:=by
 have r2:Vals (vs++dvs) (us++ds):=r.append hd
 have hl:(us++ds).length=ps.length:=by rw[← r2.length];exact F.len _ _ _ _ h
 refine wpAny_call (codeAny_mono (F.run X.A X.stack s H ⟨us,[]⟩ (us++ds) (vs++dvs) Q E hr I.env0 (hb s us I.kIn hl) r2 h) fun r s' hq=>?_)
 cases r with
 |error e=>exact hx pins σ H s e s' I hq
 |ok fl =>
  cases fl with
  |ret u=>exact I.after hq
  |next=>exact False.elim hq
  |brk=>exact False.elim hq
  |cont=>exact False.elim hq
theorem aA(F:FnOk X.prog X.w X.K X.mg X.base CX k f fd ps sp)(hr:Room k X.A)(hg:Gl X x)(hm:X.mg x=some (.ref f))(hk:Cn X.K (.ref f)=true)(hb:lb X.K fd ps ds)(hd:Vals dvs ds)(hx:pY CX X E)
  (ha:PA X (e::es) t) (hdb:(x == ("__debug__" : Str))=false:=by decide) (he:starEach (e::es) X.env=(false,eval e X.env)::starEach es X.env:=by rfl) (hpl:(backTo pos (starEach es X.env)).any (·.1)=false:=by rfl) :
  PE X (.Call (.Name x p) (e::es) [] pos) (tCall sp dvs E t):=by
 intro pins s σ H Q I h
 refine wpAny_Call_Name_kw (kg I hg hm ?_ hdb)
 refine DT (h₀:=X.base) I.ok.mod.kin hk (thn (ha pos pins s σ H _ I h) fun us s1 ⟨vs,H1,I1,r,q⟩=>⟨I1.kIn,?_⟩) he hpl
 exact run_fn F hr hb hd hx I1 r q
structure Mk(K:B9)(C f:Addr):Prop where
 makes:DR K C=true
 init:Cq K (.ref C) "__init__" = some (some (.ref f))
 fn:PySem.W.isFn K (.ref f)=true
 kp:Cn K (.ref C)=true
theorem zN{pins:List (Addr×Obj)}{σ:St}{H:Hp}{s:Shared}{Q:VK}{us:List Value}{vs:List V}(M:Mk X.K C f)(F:FnOk X.prog X.w X.K X.mg X.base CX k f fd ps sp)(hr:Room (k+1) X.A)(hb:lb X.K fd ps ds)(hd:Vals dvs ds)
  (hx:pY CX X E) (I:Inv X pins σ H s) (r:Vals vs us)
  (h:∀ x dx,H x=none->H dx=none->dx≠x->sp (.ref x::(vs++dvs)) (upd (upd H dx (.own x)) x (.ins C dx [])) (fun v H2=>v=.non/\Q (.ref x) H2) E) :
  wpAny (model X.prog X.w) X.A (call (.ref C) us) (EP X pins σ Q) X.xe s:=by
 have hq:=h (s.heap.objs.size+1) s.heap.objs.size (I.hok.fresh (DG _)) (I.hok.fresh (Cg _)) (CJ (DF _))
 have I2:=Inv.made (C:=C) I
 have r2:Vals (V.ref (s.heap.objs.size+1)::(vs++dvs)) (Value.ref (s.heap.objs.size+1)::(us++ds)):=.cons rfl (r.append hd)
 have hl:(Value.ref (s.heap.objs.size+1)::us++ds).length=ps.length:=by
  have e:=r2.length
  rw[F.len _ _ _ _ hq]at e
  exact e.symm
 refine wpAny_call (Ad (f:=f) I.kIn M.makes M.init (beq_iff_eq.mp M.fn) (codeAny_mono (F.run _ X.stack _ _ ⟨Value.ref (s.heap.objs.size+1)::us,[]⟩ (Value.ref (s.heap.objs.size+1)::(us++ds)) _ _ E (hr.make C us [])
  (I2.env0.make C us []) (hb _ (Value.ref (s.heap.objs.size+1)::us) I2.kIn hl) r2 hq) fun r s' hq'=>?_))
 cases r with
 |error e=>exact hx pins σ _ _ e s' I2 hq'
 |ok fl =>
  cases fl with
  |ret u =>
   obtain⟨v,H',I3,rv,ev,q3⟩:=I2.after hq'
   subst ev
   exact⟨rv,⟨V.ref (s.heap.objs.size+1),H',I3,rfl,q3⟩⟩
  |next=>exact False.elim hq'
  |brk=>exact False.elim hq'
  |cont=>exact False.elim hq'
theorem uP(M:Mk X.K C f)(F:FnOk X.prog X.w X.K X.mg X.base CX k f fd ps sp)(hr:Room (k+1) X.A)(hg:Gl X x)(hm:X.mg x=some (.ref C))(hb:lb X.K fd ps ds)(hd:Vals dvs ds)(hx:pY CX X E)
  (ha:PA X (e::es) t) (hdb:(x == ("__debug__" : Str))=false:=by decide) (he:starEach (e::es) X.env=(false,eval e X.env)::starEach es X.env:=by rfl) (hpl:(backTo pos (starEach es X.env)).any (·.1)=false:=by rfl) :
  PE X (.Call (.Name x p) (e::es) [] pos) (tMake C sp dvs E t):=by
 intro pins s σ H Q I h
 refine wpAny_Call_Name_kw (kg I hg hm ?_ hdb)
 refine DT (h₀:=X.base) I.ok.mod.kin M.kp (thn (ha pos pins s σ H _ I h) fun us s1 ⟨vs,H1,I1,r,q⟩=>⟨I1.kIn,?_⟩) he hpl
 exact zN M F hr hb hd hx I1 r q
end
section
variable{X:Cx}{CX:CXT}{k:Nat}{f C:Addr}{fd:FuncData}{ps ks:List Str}{sp:Sp}{E:XK}{x m:Str}{p pos apos kpos:Pos}{e o:Expr}{es:List Expr}{kws:List Keyword}{te ta:TE}{t tk:TA}{nm:Option Str}
variable{g:List Value->List Value->List Value}{gV:List V->List V->List V}
end
structure aE(N P:List Str)(sc:Scope):Prop where
 kind:sc.kind=.function
 co:sc.isCoroutine=false
 gen:sc.isGenerator=false
 nd:N.Nodup
 pre:N.take P.length=P
 par:∀ x∈P,sc.names.lookup x=some .local∨sc.names.lookup x=some .cell
 nofree:∀ y∈sc.names,y.2≠.free
theorem tV{kindOf:Str->Option NameKind}{x:Str}:∀{binds:List (Str×Value)}{m:Str->Option Value},(∀ v,(x,v)∉binds)->bindL kindOf binds m x=m x
 |[],_,_=>rfl
 | (n,v)::r,m,h=>by
  unfold bindL
  rw[tV fun w hw=>h w (CN _ hw)]
  split
  ·have:x≠n:=by rintro rfl;exact h v CG
   simp[this]
  ·rfl
theorem tX{kindOf:Str->Option NameKind}{x:Str}:∀{binds:List (Str×Value)}{m:Str->Option Value},(∀ v,(x,v)∉binds)->bindC kindOf binds m x=m x
 |[],_,_=>rfl
 | (n,v)::r,m,h=>by
  unfold bindC
  rw[tX fun w hw=>h w (CN _ hw)]
  split
  ·rfl
  ·have:x≠n:=by rintro rfl;exact h v CG
   simp[this]
theorem tW{kindOf:Str->Option NameKind}{x:Str}{v:Value}:∀{P:List Str}{vs:List Value}{i:Nat}{m:Str->Option Value},P.Nodup->P[i]?=some x->vs[i]?=some v->kindOf x=some .local ->
  bindL kindOf (P.zip vs) m x=some v
 |[],_,_,_,_,h,_,_=>by simp at h
 |_::_,[],_,_,_,_,h,_=>by simp at h
 |p::P,w::vs,0,m,nd,h1,h2,hk=>by
  simp at h1 h2;subst h1;subst h2
  show bindL kindOf ((p,w)::P.zip vs) m p=_
  unfold bindL
  rw[tV fun v hv=>(Dw.mp nd).1 (EA hv).1,if_pos hk]
  simp
 |p::P,w::vs,i+1,m,nd,h1,h2,hk=>by
  show bindL kindOf ((p,w)::P.zip vs) m x=_
  unfold bindL
  exact tW (i:=i) (Dw.mp nd).2 (by simpa using h1) (by simpa using h2) hk
theorem tY{kindOf:Str->Option NameKind}{x:Str}{v:Value}:∀{P:List Str}{vs:List Value}{i:Nat}{m:Str->Option Value},P.Nodup->P[i]?=some x->vs[i]?=some v->kindOf x≠some .local ->
  bindC kindOf (P.zip vs) m x=some v
 |[],_,_,_,_,h,_,_=>by simp at h
 |_::_,[],_,_,_,_,h,_=>by simp at h
 |p::P,w::vs,0,m,nd,h1,h2,hk=>by
  simp at h1 h2;subst h1;subst h2
  show bindC kindOf ((p,w)::P.zip vs) m p=_
  unfold bindC
  rw[tX fun v hv=>(Dw.mp nd).1 (EA hv).1,if_neg hk]
  simp
 |p::P,w::vs,i+1,m,nd,h1,h2,hk=>by
  show bindC kindOf ((p,w)::P.zip vs) m x=_
  unfold bindC
  exact tY (i:=i) (Dw.mp nd).2 (by simpa using h1) (by simpa using h2) hk
def qg(N:List Str)(vs:List V):St:=vs.map some++Ci (N.length-vs.length) none
def cxOf(CX:CXT)(P:Program)(w:World)(K:B9)(mg:Str->Option Value)(base:Heap)(N:List Str)(qual:Str)(scope:Scope)(f:Addr)(cd:Value)(A:Around)(outer:List Env)(s:Shared)(H:Hp)(E:XK):Cx where
 prog:=P
 w:=w
 K:=K
 mg:=mg
 base:=base
 A:=A.deeper (envOfC qual scope s.heap.objs.size f cd)
 N:=N
 s₀:=s
 H₀:=H
 env:=envOfC qual scope s.heap.objs.size f cd
 outer:=outer
 stack:=envOfC qual scope s.heap.objs.size f cd::outer
 ex:=[]
 calm:=true
 fn:=fun _=>true
 pn:=[]
 xe:=fun e s'=>wpAny (model P w) (A.deeper (envOfC qual scope s.heap.objs.size f cd)) (leaving (envOfC qual scope s.heap.objs.size f cd) e) (fun _ s''=>CX outer H s E e s'') (fun e' s''=>CX outer H s E e' s'') s'
theorem wx{sc:Scope}{n:Nat}{x:Str}(h:sc.names.lookup x=some .cell):∃ c,(cellsFrom n sc.names []).lookup x=some c:=by
 have q:=PySem.W.cellsFrom_some sc.names n [] (.inl h)
 exact DX.mp q
theorem yP{CX:CXT}{P:Program}{w:World}{K:B9}{mg:Str->Option Value}{base:Heap}{N ps:List Str}{qual:Str}{scope:Scope}{f:Addr}{cd:Value}{A:Around}{outer:List Env}{s s1:Shared}{H:Hp}{E:XK}{us:List Value}{vs:List V}
  (S:aE N ps scope) (hd:A.handled=none) (e0:Env0 P w K mg base A outer s H) (hl:vs.length=ps.length) (r:Vals vs us)
  (x:InCallC s s.heap.objs.size (bindL (envOfC qual scope s.heap.objs.size f cd).kindOf (ps.zip us) fun _=>none) (cellsFrom (s.heap.objs.size+1) scope.names []) (bindC (envOfC qual scope s.heap.objs.size f cd).kindOf (ps.zip us) fun _=>none) s1) :
  Inv (cxOf CX P w K mg base N qual scope f cd A outer s H E) [] (qg N vs) H s1:=by
 have hpl:ps.length<=N.length:=by have:=congrArg List.length S.pre;rw[Dt]at this;omega
 obtain⟨h1,tk,rfl,hk⟩:=x.done
 have noA:∀ b:Addr,b∉(cxOf CX P w K mg base N qual scope f cd A outer s H E).ex:=fun b z=>absurd (show b∈([]:List Addr) from z) (by simp)
 refine⟨⟨e0.mod,S.kind,rfl,rfl,Cg _,fun y z c h1 h2=>?_,fun y hy=>?_,fun y c _ h=>?_,fun _=>hd,Around.frames_deeper e0.frames,.inr ⟨rfl,rfl⟩,fun b z=>absurd z (noA b),e0.bs,e0.bsz,fun b _ _=>noA b,fun b z=>absurd z (noA b),e0.funs,e0.frf⟩,
  rfl,e0.bare,Un.kept hk,⟨_,x.toInCall.ns,fun i y v h1 h2 h3=>?_⟩,fun y c h=>⟨_,x.cell y c h⟩,e0.hok.fresh (Cg _),fun y c h=>?_,fun p hp=>absurd (show p∈([]:List (Addr×Obj)) from hp) (by simp),e0.hok.kept hk,?_⟩
 ·exact name_of_addr x.apart (C9 h1) (C9 h2)
 ·have hy:scope.names.lookup y=some .cell∨scope.names.lookup y=some .free:=hy
  rcases hy with hy | hy
  ·exact wx hy
  ·exact absurd rfl (S.nofree _ (C9 hy))
 ·exact CQ (x.above y c (C9 h))
 ·have hi:i<vs.length:=by
   unfold qg at h2
   by_cases hi:i<vs.length
   ·exact hi
   ·rw[Cf (by simpa using hi)]at h2
    rw[Dz]at h2
    split at h2<;>cases h2
  have ha:vs[i]?=some v:=by
   unfold qg at h2
   rw[Cj (by simpa using hi),CH]at h2
   cases e:vs[i]? with
   |none=>rw[e]at h2;cases h2
   |some a=>rw[e]at h2;cases h2;rfl
  obtain⟨u,hu,rv⟩:=r.get ha
  have hp:ps[i]?=some y:=by
   rw[← S.pre,List.getElem?_take_of_lt (by omega)];exact h1
  have ndP:ps.Nodup:=by rw[← S.pre];exact S.nd.sublist (List.take_sublist _ _)
  refine⟨u,rv,?_⟩
  rcases S.par y (Ce hp)with k | k
  ·exact .inl ⟨k,tW ndP hp hu k⟩
  ·obtain⟨c,e⟩:=wx (n:=s.heap.objs.size+1) k
   refine .inr ⟨.inl k,c,e,?_⟩
   have q:=x.cell y c e
   rw[tY ndP hp hu (by show scope.names.lookup y≠_;rw[k];decide)]at q
   exact q
 ·exact e0.hok.fresh (CQ (x.above y c (C9 h)))
 ·unfold qg
  show _=N.length
  rw[Cb,Cd,List.length_replicate]
  omega
theorem fn_of{CX:CXT}{P:Program}{w:World}{K:B9}{mg:Str->Option Value}{base:Heap}{k:Nat}{f:Addr}{name qual:Str}{params:Arguments}{body:List Stmt}{scope:Scope}{dV kV doc pm cdv ct oc:Value}{an od:Option Addr}
  {osl:Array (Option Value)} {N ps:List Str} {sp:Sp} (lk:K.lookup f=some ⟨oc,od,.func (CB name qual params body scope dV kV doc pm an cdv ct),osl⟩) (hcd:Cv K cdv qual=true) (S:aE N ps scope)
  (len:∀ vs H Q E,sp vs H Q E->vs.length=ps.length)
  (hbody:∀(A:Around)(outer:List Env)(s:Shared)(H:Hp)(vs:List V)(Q:VK)(E:XK),Room k (A.deeper (envOfC qual scope s.heap.objs.size f cdv))->sp vs H Q E ->
   ∃ t,PSs (cxOf CX P w K mg base N qual scope f cdv A outer s H E) body t/\t { nx:=fun _ H'=>Q .non H',rt:=Q } (qg N vs) H) :
  FnOk P w K mg base CX (k+1) f (CB name qual params body scope dV kV doc pm an cdv ct) ps sp:=by
 refine⟨len,fun A outer s H args us vs Q E hr e0 hb r hsp=>?_⟩
 have hl:=len _ _ _ _ hsp
 have KX:K.In s.heap:=e0.mod.kin.keeps fun b o e=>(e0.bs b o e).1
 have lim:s.heap.NoLimit:=e0.mod.nolimit.keeps fun b o e=>(e0.bs b o e).1
 have hkind:∀ y∈ps.zip us,scope.names.lookup y.1=some .local∨(scope.names.lookup y.1=some .cell/\((cellsFrom (s.heap.objs.size+1) scope.names []).lookup y.1).isSome=true):=fun⟨n,v⟩ hy=>by
  rcases S.par n (EA hy).1 with q | q
  ·exact .inl q
  ·exact .inr ⟨q,PySem.W.cellsFrom_some _ _ _ (.inl q)⟩
 refine codeAny_call_function hr.depth (KX _ _ lk) rfl S.co S.gen rfl (PySem.W.codeRec_of KX hcd) (hb _ _ _ _ ?_)
 refine wpAny_newFunctionEnv_cells S.kind hkind fun env he s1 x=>?_
 subst he
 refine⟨lim.keeps x.toInCall.keep,codeAny_func ?_⟩
 obtain⟨t,ht,hq⟩:=hbody A outer s H vs Q E (hr.deeper _) hsp
 have I:Inv (cxOf CX P w K mg base N qual scope f cdv A outer s H E) [] (qg N vs) H s1:=yP S hr.hd e0 hl r x
 refine wpAny_mono (ht [] s1 (qg N vs) H _ I hq) (fun fl s' hs=>?_) fun e s' hs=>hs
 have fin:∀{σ':St}{H':Hp}{v:V}{u:Value},Inv (cxOf CX P w K mg base N qual scope f cdv A outer s H E) [] σ' H' s'->RelV v u->Q v H'->CE outer P w H s Q u s' :=
  fun{σ' H' v u} J rv q=>⟨v,H',J.os,J.bare,J.base,J.hok,rv,q⟩
 cases fl with
 |ret u =>
  obtain⟨v,σ',H',J,rv,q⟩:=hs
  exact fin J rv q
 |next =>
  obtain⟨σ',H',J,q⟩:=hs
  exact fin (v:=V.non) (u:=Value.none) J rfl q
 |brk =>
  obtain⟨_,_,_,q⟩:=hs
  exact False.elim q
 |cont =>
  obtain⟨_,_,_,q⟩:=hs
  exact False.elim q
end L2
namespace L2
open PySem PySem.Spec PyProof.Rows
section
variable{X:Cx}{x:Str}{p pos:Pos}{e:Expr}{es:List Expr}{t:TA}{id T:String}{r:List V->Hp->VK->Prop}
def tCB(r:List V->Hp->VK->Prop)(t:TA):TE:=fun σ H Q=>t σ H fun vs H1=>r vs H1 Q
theorem az(hc:k9 X (.builtin id) r)(hg:Gl X x)(hm:X.mg x=none)(hv:bootBuiltins x=some (.builtin id))(ha:PA X (e::es) t) (hn:x≠"__name__":=by decide) (hdb:(x == ("__debug__" : Str))=false:=by decide)
  (he:starEach (e::es) X.env=(false,eval e X.env)::starEach es X.env:=by rfl) (hpl:(backTo pos (starEach es X.env)).any (·.1)=false:=by rfl):PE X (.Call (.Name x p) (e::es) [] pos) (tCB r t):=by
 intro pins s σ H Q I h
 refine wpAny_Call_Name_kw (tw I hg hm hv ?_ hn hdb)
 exact PyProof.Rows.callWith_builtin1 (thn (ha pos pins s σ H _ I h) fun us s1 ⟨vs,H1,I1,r1,q1⟩=>hc pins s1 σ H1 vs us Q I1 r1 q1) he hpl
theorem eY(hc:k9 X (.type T) r)(hg:Gl X x)(hm:X.mg x=none)(hv:bootBuiltins x=some (.type T))(ha:PA X (e::es) t) (hn:x≠"__name__":=by decide) (hdb:(x == ("__debug__" : Str))=false:=by decide)
  (he:starEach (e::es) X.env=(false,eval e X.env)::starEach es X.env:=by rfl) (hpl:(backTo pos (starEach es X.env)).any (·.1)=false:=by rfl):PE X (.Call (.Name x p) (e::es) [] pos) (tCB r t):=by
 intro pins s σ H Q I h
 refine wpAny_Call_Name_kw (tw I hg hm hv ?_ hn hdb)
 exact PyProof.Rows.callWith_type1 (thn (ha pos pins s σ H _ I h) fun us s1 ⟨vs,H1,I1,r1,q1⟩=>hc pins s1 σ H1 vs us Q I1 r1 q1) he hpl
end
end L2
namespace HT
open PySem PyProof.Rows
section
open PySem.SeqAt
open PySem.AutoSeq1 (wpAny_loadPart')
open PySem.MeetsSeq PySem.MeetsSeq2 PySem.MeetsSeq3
end
section
variable{prog:Program}{w:World}{A:Around}{E:Value->Shared->Prop}{s:Shared}
def sIx(n d:Nat):Option Int->Nat
 |none=>d
 |some v=>if v<0 then(v+(n:Int)).toNat else min v.toNat n
theorem sIx_none(n d:Nat):sIx n d none=d:=rfl
theorem sIx_nat(n d k:Nat):sIx n d (some (k:Int))=min k n:=by
 show(if(k:Int)<0 then((k:Int)+(n:Int)).toNat else min (k:Int).toNat n)=min k n
 rw[if_neg (by omega),CF]
theorem sIx_le(n d:Nat)(hd:d<=n)(o:Option Int):sIx n d o<=n:=by
 cases o with
 |none=>exact hd
 |some v =>
  show(if v<0 then(v+(n:Int)).toNat else min v.toNat n)<=n
  by_cases hv:v<0
  ·rw[if_pos hv];omega
  ·rw[if_neg hv];exact Nat.min_le_right _ _
theorem zt(v:Int)(n d:Nat):(if v<0 then max (v+(n:Int)) 0 else min v (n:Int))=((sIx n d (some v):Nat):Int):=by
 show(if v<0 then max (v+(n:Int)) 0 else min v (n:Int))=(((if v<0 then(v+(n:Int)).toNat else min v.toNat n):Nat):Int)
 by_cases hv:v<0
 ·simp only[if_pos hv];omega
 ·simp only[if_neg hv];omega
theorem xI(lo hi:Option Int)(n:Nat):Builtin.Slice.sliceAdjust lo hi 1 (n:Int)=(((sIx n 0 lo:Nat):Int),((sIx n n hi:Nat):Int)):=by
 have h1:¬ ((1:Int)<0):=by omega
 unfold Builtin.Slice.sliceAdjust
 simp only[h1,if_false]
 refine Prod.ext ?_ ?_
 ·cases lo with
  |none=>rfl
  |some v=>exact zt v n 0
 ·cases hi with
  |none=>rfl
  |some v=>exact zt v n n
theorem wN(i j:Nat):Builtin.Slice.slicePlaces (i:Int) (j:Int) 1=j-i:=by
 unfold Builtin.Slice.slicePlaces
 have h1:(1:Int) > 0:=by omega
 simp only[h1,if_true,Int.ediv_one]
 split<;>omega
theorem pM{v:Value}{o:Option Int}{Q:Option Int->Shared->Prop}(p:IsPart v o)(h:Q o s):wpAny (model prog w) A (Builtin.Slice.slicePartIndex v) Q E s:=by
 cases p with
 |none=>exact slicePart_none h
 |int i t=>exact slicePart_int h
theorem lK{sl:Addr}{vl vu:Value}{lo hi:Option Int}{n:Nat}{Q:Int×Int×Nat->Shared->Prop}(hs:s.heap.IsSliceOf sl vl vu .none)(pl:IsPart vl lo)(pu:IsPart vu hi)
  (h:Q (((sIx n 0 lo:Nat):Int),1,sIx n n hi-sIx n 0 lo) s):wpAny (model prog w) A (Builtin.Slice.sliceApplied (.ref sl) (pure (n:Int))) Q E s:=by
 obtain⟨os,hos,hcs,hds⟩:=id hs
 unfold Builtin.Slice.sliceApplied Builtin.Slice.sliceFields
 refine wpAny_bind (wpAny_bind (wpAny_field hos hds (x:=vl) rfl (wpAny_bind (wpAny_field hos hds (x:=vu) rfl (wpAny_bind (wpAny_field hos hds (x:=.none) rfl (wpAny_pure ?_)))))))
 refine wpAny_bind (slicePart_none ?_)
 show wpAny _ _ (if((1:Int) == 0)=true then _ else _) _ _ s
 rw[if_neg (by decide)]
 refine wpAny_bind (pM pl (wpAny_bind (pM pu (wpAny_bind (wpAny_pure ?_)))))
 show wpAny _ _ (match Builtin.Slice.sliceAdjust lo hi 1 (n:Int)with | (lo,hi)=>pure (lo,(1:Int),Builtin.Slice.slicePlaces lo hi 1)) _ _ s
 rw[xI lo hi n]
 show wpAny _ _ (pure (((sIx n 0 lo:Nat):Int),(1:Int),Builtin.Slice.slicePlaces ((sIx n 0 lo:Nat):Int) ((sIx n n hi:Nat):Int) 1)) _ _ s
 rw[wN]
 exact wpAny_pure h
theorem zQ(xs:Array Value)(i k:Nat):((Ct k).filterMap fun(m:Nat)=>xs[((i:Int)+(m:Int)*1).toNat]?).toArray=((xs.toList.drop i).take k).toArray:=by
 have e:(fun(m:Nat)=>xs[((i:Int)+(m:Int)*1).toNat]?)=fun m=>xs[i+m]?:=by
  funext m
  have:((i:Int)+(m:Int)*1).toNat=i+m:=by omega
  rw[this]
 rw[e]
 have:=pick_run xs i k
 rw[List.filterMap_map]at this
 have e2:((fun x=>xs[x]?)∘fun x=>i+x)=fun m=>xs[i+m]?:=rfl
 rw[e2]at this
 rw[this]
theorem getItem_tuple_cut{t sl:Addr}{items:Array Value}{vl vu:Value}{lo hi:Option Int}{Q:Value->Shared->Prop}(ht:IsTup s.heap t items)(hs:s.heap.IsSliceOf sl vl vu .none)(pl:IsPart vl lo)(pu:IsPart vu hi)
  (hw:¬ (sIx items.size 0 lo=0/\sIx items.size items.size hi=items.size))
  (h:Q (.ref s.heap.objs.size) { s with heap:=s.heap.push { cls:=.type "tuple",data:=.seq ((items.toList.drop (sIx items.size 0 lo)).take (sIx items.size items.size hi-sIx items.size 0 lo)).toArray } })
  (hsz:items.size<=sizeLine):wpAny (model prog w) A (getItem (.ref t) (.ref sl)) Q E s:=by
 have htake:sizeOk (.seq ((items.toList.drop (sIx items.size 0 lo)).take (sIx items.size items.size hi-sIx items.size 0 lo)).toArray):=by
  show((items.toList.drop (sIx items.size 0 lo)).take (sIx items.size items.size hi-sIx items.size 0 lo)).toArray.size<=sizeLine
  rw[Cy,Dt,D5,Ek]
  omega
 have hj:sIx items.size items.size hi<=items.size:=sIx_le _ _ (Cg _) hi
 obtain⟨os,hos,hcs,hds⟩:=id hs
 have hTs:s.TypeIs (.ref sl) "slice":=⟨os,hos,hcs⟩
 unfold getItem
 try with_reducible refine wpAny_holding ?_
 first | refine wpAny_bind (wpAny_pure ?_) | skip
 refine wpAny_bind (wpAny_sequenceKey ht.typeIs (by decide) ?_)
 refine wpAny_bind (wpAny_callSpecial?_slot (name:=Str.ofString "__getitem__") ht.typeIs PyProof.Rows.slot_tuple_getitem
  (wpAny_call_entry PyProof.Rows.slot_tuple_getitem ht.typeIs entry_tuple_getitem ?_ (args_tuple_getitem _ _)))
 show wpAny _ _ (Builtin.Tuple.tupleItemsOf (.ref t) >>= _) _ _ s
 refine wpAny_bind (tupleItemsOf_ ht ?_)
 refine wpAny_bind (wpAny_typeOf hTs ?_)
 rw[if_pos (by decide)]
 refine wpAny_bind (lK hs pl pu ?_)
 have hno:¬ ((((sIx items.size 0 lo:Nat):Int) == 0&&(1:Int) == 1&&(sIx items.size items.size hi-sIx items.size 0 lo) == items.size)=true):=by
  intro q
  rw[DO,DO]at q
  have q1:((sIx items.size 0 lo:Nat):Int)=0:=eq_of_beq q.1.1
  have q2:sIx items.size items.size hi-sIx items.size 0 lo=items.size:=eq_of_beq q.2
  exact hw ⟨by omega,by omega⟩
 show wpAny _ _ (if(((sIx items.size 0 lo:Nat):Int) == 0&&(1:Int) == 1&&(sIx items.size items.size hi-sIx items.size 0 lo) == items.size)=true then _ else _) _ _ s
 rw[if_neg hno,zQ]
 first
  |exact wpAny_bind (m:=Builtin.Tuple.tupleExact _) (wpAny_newObj_type (wpAny_pure ⟨_,rfl,wpAny_pure h⟩) htake)
  |exact wpAny_bind (m:=Builtin.Tuple.tupleExact _) (wpAny_newObj_type (wpAny_bind (wpAny_pure (wpAny_pure ⟨_,rfl,wpAny_pure h⟩))) htake)
  |exact wpAny_bind (wpAny_bind (m:=Builtin.Tuple.tupleExact _) (wpAny_newObj_type (wpAny_pure (wpAny_pure ⟨_,rfl,wpAny_pure h⟩)) htake))
  |exact wpAny_bind (wpAny_bind (m:=Builtin.Tuple.tupleExact _) (wpAny_newObj_type (wpAny_pure ⟨_,rfl,wpAny_pure h⟩) htake))
end
end HT
namespace L2
open PySem PySem.Spec PyProof.Rows
abbrev TO:=St->Hp->(Option Int->Hp->Prop)->Prop
def PO(X:Cx)(e:Option Expr)(t:TO):Prop :=
 ∀(pins:List (Addr×Obj))(s:Shared)(σ:St)(H:Hp)(Q:Option Int->Hp->Prop),Inv X pins σ H s->t σ H Q ->
  wpAny (model X.prog X.w) X.A (evalPart e X.env) (fun u s'=>∃ o H',Inv X pins σ H' s'/\IsPart u o/\Q o H') X.xe s
def Bc:TO:=fun _ H Q=>Q none H
def tPart(t:TE):TO:=fun σ H Q=>t σ H fun x H1=>∃ i,x=.int i/\Q (some i) H1
section
variable{X:Cx}{e:Expr}{te:TE}{lo hi:Option Expr}{tl th:TO}{pos p2:Pos}
theorem uG:PO X none Bc:=by
 intro pins s σ H Q I h
 rw[evalPart_none]
 exact wpAny_pure ⟨none,H,I,.none,h⟩
theorem uF(h:PE X e te):PO X (some e) (tPart te):=by
 intro pins s σ H Q I hw
 rw[evalPart_some]
 refine thn (h pins s σ H _ I hw) fun u s1 ⟨x,H1,I1,r1,q1⟩=>?_
 obtain⟨i,rfl,q⟩:=q1
 obtain⟨t,rfl⟩:=r1
 exact⟨some i,H1,I1,.int i t,q⟩
def SlR(X:Cx)(r:V->Option Int->Option Int->Hp->VK->Prop):Prop :=
 ∀(pins:List (Addr×Obj))(s:Shared)(σ:St)(H:Hp)(x:V)(v vl vu:Value)(lo hi:Option Int)(sl:Addr)(Q:VK),Inv X pins σ H s->RelV x v->s.heap.IsSliceOf sl vl vu .none->IsPart vl lo->IsPart vu hi->r x lo hi H Q ->
  ∃ T id,typeLookup (.type T) "__getitem__" = pure (some (.builtin id))/\s.TypeIs v T/\wpAny (model X.prog X.w) X.A (getItem v (.ref sl)) (EP X pins σ Q) X.xe s
def tSl(r:V->Option Int->Option Int->Hp->VK->Prop)(te:TE)(tl th:TO):TE:=fun σ H Q=>te σ H fun x H1=>tl σ H1 fun l H2=>th σ H2 fun u H3=>r x l u H3 Q
theorem qH{r:V->Option Int->Option Int->Hp->VK->Prop}(hr:SlR X r)(he:PE X e te)(hl:PO X lo tl)(hu:PO X hi th):PE X (.Subscript e (.Slice lo hi none p2) pos) (tSl r te tl th):=by
 intro pins s σ H Q I h
 refine Subscript_ (thn (he pins s σ H _ I h) fun v s1 ⟨x,H1,I1,r1,q1⟩=>?_)
 refine wpAny_Slice (thn (hl pins s1 σ H1 _ I1 q1) fun vl s2 ⟨l,H2,I2,pl,q2⟩=>thn (hu pins s2 σ H2 _ I2 q2) fun vu s3 ⟨u,H3,I3,pu,q3⟩=>?_)
 rw[evalPart_none]
 refine wpAny_pure ?_
 have I4:Inv X pins σ H3 { s3 with heap:=s3.heap.push { cls:=.type "slice",data:=.fields #[vl,vu,.none] } }:=I3.kept (t':=s3.toks) fun b ob q=>Heap.get?_push_of_some _ q
 obtain⟨T,id,hT,ht,hg⟩:=hr pins { s3 with heap:=s3.heap.push { cls:=.type "slice",data:=.fields #[vl,vu,.none] } } σ H3 x v vl vu l u s3.heap.objs.size Q I4 r1 (Heap.IsSliceOf.new ..) pl pu q3
 show wpAny (model X.prog X.w) X.A (subscriptTail e (.Slice lo hi none p2) v (.ref s3.heap.objs.size)) (EP X pins σ Q) X.xe { s3 with heap:=s3.heap.push { cls:=.type "slice",data:=.fields #[vl,vu,.none] } }
 exact tail_any (ops:=[.ref s3.heap.objs.size,v]) ht hT hg (by with_unfolding_all rfl)
def cutV(xs:List V)(lo hi:Option Int):List V:=(xs.drop (HT.sIx xs.length 0 lo)).take (HT.sIx xs.length xs.length hi-HT.sIx xs.length 0 lo)
theorem nh(xs:List V)(lo hi:Option Int):(cutV xs lo hi).length<=xs.length:=by
 unfold cutV
 rw[Dt,D5]
 omega
def rSlT(K:B9):V->Option Int->Option Int->Hp->VK->Prop:=fun x lo hi H Q=>∃ a xs,x=.ref a/\SqT K H a xs /\
 ¬ (HT.sIx xs.length 0 lo=0/\HT.sIx xs.length xs.length hi=xs.length)/\∀ p,H p=none->Q (.ref p) (upd H p (.tup (cutV xs lo hi)))
theorem AE:SlR X (rSlT X.K):=by
 intro pins s σ H x v vl vu lo hi sl Q I rx hs pl pu h
 obtain⟨a,xs,rfl,hx,hw,q⟩:=h
 cases rx
 obtain⟨its,r,ht,hz⟩:=I.tuple hx
 have hlen:its.toArray.size=xs.length:=by rw[Cy];exact r.length.symm
 refine⟨"tuple",_,PyProof.Rows.slot_tuple_getitem.lookup,ht.typeIs,?_⟩
 refine HT.getItem_tuple_cut ht hs pl pu (by rw[hlen];exact hw) ?_ (by rw[hlen];exact hz)
 rw[hlen]
 refine⟨.ref s.heap.objs.size,_,I.laid (t':=s.toks) (o:=.tup (cutV xs lo hi)) (fun b ob q=>Heap.get?_push_of_some _ q) (Cg _) ?_,rfl,q _ (I.hok.fresh (Cg _))⟩
 exact⟨C6 (nh xs lo hi) hz,_,(r.drop (HT.sIx xs.length 0 lo)).take (HT.sIx xs.length xs.length hi-HT.sIx xs.length 0 lo),IsTup.new _ _⟩
end
end L2
namespace L2
open PySem PySem.Spec PyProof.Rows
def ixN(n:Nat)(i:Int):Option Nat:=if 0<=i then(if i<n then some i.toNat else none) else if -(n:Int)<=i then some (i+n).toNat else none
def atI{α:Type}(xs:List α)(i:Int):Option α:=(ixN xs.length i).bind fun j=>xs[j]?
theorem yN{n:Nat}{i:Int}{j:Nat}(h:ixN n i=some j):seqIndex? i n=some j/\j<n/\-(n:Int)<=i/\i<n:=by
 unfold ixN at h
 by_cases h0:0<=i
 ·rw[if_pos h0]at h
  by_cases h1:i<n
  ·rw[if_pos h1]at h
   have e:i.toNat=j:=Cz h
   exact⟨by rw[seqIndex_of h0 h1,e],by omega,by omega,h1⟩
  ·rw[if_neg h1]at h;cases h
 ·rw[if_neg h0]at h
  by_cases h1 : -(n:Int)<=i
  ·rw[if_pos h1]at h
   have e:(i+n).toNat=j:=Cz h
   exact⟨by rw[seqIndex_neg (by omega) h1,e],by omega,h1,by omega⟩
  ·rw[if_neg h1]at h;cases h
theorem zE{α:Type}{xs:List α}{i:Int}{v:α}(h:atI xs i=some v):∃ j,seqIndex? i xs.length=some j/\xs[j]?=some v/\j<xs.length/\-(xs.length:Int)<=i/\i<xs.length:=by
 unfold atI at h
 cases e:ixN xs.length i with
 |none=>rw[e]at h;cases h
 |some j =>
  rw[e]at h
  obtain⟨h1,h2,h3,h4⟩:=yN e
  exact⟨j,h1,h,h2,h3,h4⟩
theorem aP{α:Type}{xs:List α}{j:Nat}{v:α}(h:xs[j]?=some v):atI xs (j:Int)=some v:=by
 have hj:j<xs.length:=(Ca.mp h).1
 have e:ixN xs.length (j:Int)=some j:=by
  unfold ixN
  rw[if_pos (by omega),if_pos (by omega)];simp
 unfold atI;rw[e];exact h
def B8(b:Expr):Prop:=∀ o i,subscripted b false o i=operate [o,i] (getItem o i)
def IxR(X:Cx)(r:R2):Prop :=
 ∀(value slice:Expr)(pins:List (Addr×Obj))(s:Shared)(σ:St)(H:Hp)(x y:V)(v u:Value)(Q:VK),Inv X pins σ H s->RelV x v->RelV y u->r x y H Q ->
  subscripted slice false v u=operate [v,u] (getItem v u)->wpAny (model X.prog X.w) X.A (subscriptTail value slice v u) (EP X pins σ Q) X.xe s
def MtR(X:Cx)(id:String)(r:V->List V->Hp->VK->Prop):Prop :=
 ∀(pins:List (Addr×Obj))(s:Shared)(σ:St)(H:Hp)(x:V)(xs:List V)(v:Value)(us:List Value)(Q:VK),Inv X pins σ H s->RelV x v->Vals xs us->r x xs H Q ->
  wpAny (model X.prog X.w) X.A (call (.builtin id) (v::us)) (EP X pins σ Q) X.xe s
section
variable{X:Cx}{a b:Expr}{ta tb:TE}{pos:Pos}
theorem aV{r:R2}(hr:IxR X r)(ha:PE X a ta)(hb:PE X b tb)(hs:B8 b):PE X (.Subscript a b pos) (tOp r ta tb):=by
 intro pins s σ H Q I h
 exact Subscript_ (binT ha hb I h fun v u s2 x y H2 I2 rx ry q=>hr a b pins s2 σ H2 x y v u Q I2 rx ry q (hs _ _))
def rIxL(K:B9):R2:=fun x y H Q=>∃ p xs i v,x=.ref p/\y=.int i/\SqL K H p xs/\atI xs i=some v/\Q v H
def rIxT(K:B9):R2:=fun x y H Q=>∃ p xs i v,x=.ref p/\y=.int i/\SqT K H p xs/\atI xs i=some v/\Q v H
theorem aN:IxR X (rIxL X.K):=by
 intro value slice pins s σ H x y v u Q I rx ry h hs
 obtain⟨p,xs,i,z,rfl,rfl,hq,he,q⟩:=h
 cases rx
 obtain⟨t,rfl⟩:=ry
 obtain⟨its,r,pl,hz⟩:=I.list hq
 obtain⟨j,h1,h2,h3,h4,h5⟩:=zE he
 obtain⟨w,ew,rw'⟩:=r.get h2
 have hl:=r.length
 have hn:=wo
 have fin:EP X pins σ Q w s:=⟨z,H,I,rw',q⟩
 by_cases h0:0<=i
 ·have hj:i.toNat=j:=by
   rw[seqIndex_of h0 h5]at h1
   exact Cz h1
  exact item_listR pl.isList h0 (by omega) (by rw[hj];simpa using ew) fin hs
 ·have hj:(i+(its.toArray.size:Int)).toNat=j:=by
   rw[seqIndex_neg (by omega) h4]at h1
   rw[Cy,← hl]
   exact Cz h1
  exact subscriptTail_builtinR (x:=w) pl.isList.typeIs slot_list_getitem.lookup
   (wpAny_getItem_list_neg (Q:=fun r s'=>r=w/\EP X pins σ Q r s') pl.isList (by omega) (by rw[Cy]<;>omega) (by omega) (by rw[hj];simpa using ew) ⟨rfl,fin⟩) hs
theorem cO:IxR X (rIxT X.K):=by
 intro value slice pins s σ H x y v u Q I rx ry h hs
 obtain⟨p,xs,i,z,rfl,rfl,hq,he,q⟩:=h
 cases rx
 obtain⟨t,rfl⟩:=ry
 obtain⟨its,r,pl,hz⟩:=I.tuple hq
 obtain⟨j,h1,h2,h3,h4,h5⟩:=zE he
 obtain⟨w,ew,rw'⟩:=r.get h2
 have hl:=r.length
 have hn:=wo
 have fin:EP X pins σ Q w s:=⟨z,H,I,rw',q⟩
 exact subscriptTail_builtinR (x:=w) pl.typeIs slot_tuple_getitem.lookup
  (getItem_tuple (j:=j) (Q:=fun r s'=>r=w/\EP X pins σ Q r s') pl (by omega) (by omega) (by rw[Cy,← hl];exact h1) (by simpa using ew) ⟨rfl,fin⟩) hs
theorem wZ(its:List Value)(n j:Nat)(u:Value):Obj.mapSeq (·.setIfInBounds j u) { cls:=.type "list",data:=.seq its.toArray n }={ cls:=.type "list",data:=.seq (its.set j u).toArray n }:=by
 simp[Obj.mapSeq]
theorem Inv.lst{pins:List (Addr×Obj)}{σ:St}{H:Hp}{s:Shared}{p:Addr}{xs:List V}(I:Inv X pins σ H s)(h:H p=some (.lst xs)) :
  ∃(its:List Value)(n:Nat),Vals xs its/\s.heap.get? p=some { cls:=.type "list",data:=.seq its.toArray n }/\xs.length<=sizeLine:=by
 obtain⟨z,its,n,r,e⟩:=I.hok p _ h
 exact⟨its,n,r,e,z⟩
theorem Inv.lstUpd{pins:List (Addr×Obj)}{σ:St}{H:Hp}{s:Shared}{p:Addr}{xs ys:List V}{its its':List Value}{n n':Nat}{f:Obj->Obj}(I:Inv X pins σ H s)(h:H p=some (.lst xs))
  (ho:s.heap.get? p=some { cls:=.type "list",data:=.seq its.toArray n }) (hf:f { cls:=.type "list",data:=.seq its.toArray n }={ cls:=.type "list",data:=.seq its'.toArray n' }) (r:Vals ys its') (hz:ys.length<=sizeLine) (t:Nat) :
  Inv X pins σ (upd H p (.lst ys)) { s with heap:=s.heap.update p f,toks:=t }:=by
 have e:(s.heap.update p f).get? p=some { cls:=.type "list",data:=.seq its'.toArray n' }:=by
  rw[Heap.get?_update_self f ho (by rw[hf]<;>rfl),hf]
 refine I.write (x:=p) (e:=p) (by rw[h];trivial) (.inl rfl) (fun b u hb q=>(Heap.get?_update_other _ _ (Ne.symm hb)).trans q) ⟨_,e⟩ ?_
 exact⟨hz,its',n',r,e⟩
def rSetL:V->V->V->Hp->(Hp->Prop)->Prop:=fun o i v H Q=>∃ p xs k j,o=.ref p/\i=.int k/\H p=some (.lst xs)/\ixN xs.length k=some j/\Q (upd H p (.lst (xs.set j v)))
theorem jn:PSet X rSetL:=by
 intro pins s σ H o i v ov iv u Q I ro ri rv h
 obtain⟨p,xs,k,j,rfl,rfl,hp,hj,q⟩:=h
 cases ro
 obtain⟨t,rfl⟩:=ri
 obtain⟨its,n,r,ho,hz⟩:=I.lst hp
 obtain⟨h1,h2,h3,h4⟩:=yN hj
 have hl:=r.length
 have hn:=wo
 have I':Inv X pins σ (upd H p (.lst (xs.set j v))) { s with heap:=s.heap.update p (Obj.mapSeq (·.setIfInBounds j u)) } :=
  I.lstUpd hp ho (wZ its n j u) (r.set rv j) (by rw[Dl];exact hz) s.toks
 by_cases h0:0<=k
 ·have hk:k.toNat=j:=by
   rw[seqIndex_of h0 h4]at h1
   exact Cz h1
  exact PySem.W.ki_setAt ho h0 (by omega) (by rw[Cy,← hl];exact h4) (by rw[hk];exact⟨_,I',q⟩)
 ·have hk:(k+(its.toArray.size:Int)).toNat=j:=by
   rw[seqIndex_neg (by omega) h3]at h1
   rw[Cy,← hl]
   exact Cz h1
  exact PySem.W.ki_setBack ho (by omega) (by rw[Cy,← hl];exact h3) (by omega) (by rw[hk];exact⟨_,I',q⟩)
theorem sy(lo hi:Option Int)(n:Nat):(sliceBounds lo hi none n).1=((HT.sIx n 0 lo:Nat):Int)/\(sliceBounds lo hi none n).2.1=((HT.sIx n n hi:Nat):Int)/\(sliceBounds lo hi none n).2.2=1:=by
 refine⟨?_,?_,rfl⟩
 ·cases lo with
  |none=>simp[sliceBounds,HT.sIx]
  |some i =>
   simp only[sliceBounds,HT.sIx,Option.getD_none,show(1:Int) > 0 by decide,if_true]
   by_cases h:i<0
   ·simp only[h,if_true]<;>omega
   ·simp only[h,if_false]<;>omega
 ·cases hi with
  |none=>simp[sliceBounds,HT.sIx]
  |some i =>
   simp only[sliceBounds,HT.sIx,Option.getD_none,show(1:Int) > 0 by decide,if_true]
   by_cases h:i<0
   ·simp only[h,if_true]<;>omega
   ·simp only[h,if_false]<;>omega
theorem qo(its:List Value)(lo hi:Option Int):slicePick its.toArray lo hi none=((its.drop (HT.sIx its.length 0 lo)).take (HT.sIx its.length its.length hi-HT.sIx its.length 0 lo)).toArray:=by
 obtain⟨h1,h2,h3⟩:=sy lo hi its.toArray.size
 unfold slicePick
 rw[h1,h2,h3]
 simp only[sliceRange_one,pick_run,Cy]<;>rfl
def rSlL(K:B9):V->Option Int->Option Int->Hp->VK->Prop:=fun x lo hi H Q=>∃ a xs,x=.ref a/\SqL K H a xs/\∀ p,H p=none->Q (.ref p) (upd H p (.lst (cutV xs lo hi)))
theorem Bi:SlR X (rSlL X.K):=by
 intro pins s σ H x v vl vu lo hi sl Q I rx hs pl pu h
 obtain⟨a,xs,rfl,hx,q⟩:=h
 cases rx
 obtain⟨its,r,ht,hz⟩:=I.list hx
 have hlen:=r.length
 refine⟨"list",_,slot_list_getitem.lookup,ht.isList.typeIs,?_⟩
 refine wpAny_getItem_list_slice ht.isList hs pl pu .none (by simp) ?_ (by rw[Cy]<;>omega)
 rw[qo,← hlen]
 refine⟨.ref s.heap.objs.size,_,I.laid (t':=s.toks) (o:=.lst (cutV xs lo hi)) (fun b ob q=>Heap.get?_push_of_some _ q) (Cg _) ?_,rfl,q _ (I.hok.fresh (Cg _))⟩
 exact⟨C6 (nh xs lo hi) hz,_,0,(r.drop (HT.sIx xs.length 0 lo)).take (HT.sIx xs.length xs.length hi-HT.sIx xs.length 0 lo),Heap.get?_push_size _ rfl⟩
theorem aw:k9 X (.builtin "len") (fun xs H Q=>∃ p ys,xs = [.ref p]/\(SqL X.K H p ys∨SqT X.K H p ys)/\Q (.int ys.length) H):=by
 intro pins s σ H xs us Q I r h
 obtain⟨p,ys,rfl,hq,q⟩:=h
 obtain⟨u,rfl,rx⟩:=xN r
 cases rx
 have hn:=wo
 rcases hq with hq | hq
 ·obtain⟨its,r',pl,hz⟩:=I.list hq
  have hlen:=r'.length
  exact Calls.call_len_list pl.isList (by simp only[Cy]<;>omega) ⟨.int ys.length,H,I.tok _,⟨s.toks+1,by rw[Cy,hlen]⟩,q⟩
 ·obtain⟨its,r',pl,hz⟩:=I.tuple hq
  have hlen:=r'.length
  exact len_tuple pl (by simp only[Cy]<;>omega) ⟨.int ys.length,H,I.tok _,⟨s.toks+1,by rw[Cy,hlen]⟩,q⟩
theorem lC:k9 X (.type "list") (fun xs H Q=>∃ p ys,xs = [.ref p]/\(SqL X.K H p ys∨SqT X.K H p ys)/\∀ l,H l=none->Q (.ref l) (upd H l (.lst ys))):=by
 intro pins s σ H xs us Q I r h
 obtain⟨p,ys,rfl,hq,q⟩:=h
 obtain⟨u,rfl,rx⟩:=xN r
 cases rx
 have fin:∀(its:List Value),Vals ys its->ys.length<=sizeLine->∀(h':Heap)(c':Nat),(∀ b o',s.heap.get? b=some o'->h'.get? b=some o') ->
   h'.get? s.heap.objs.size=some { cls:=.type "list",dict:=none,data:=.seq its.toArray c',slots:=#[] }->EP X pins σ Q (.ref s.heap.objs.size) { s with heap:=h' }:=fun its r' hz h' c' kp e =>
  ⟨.ref s.heap.objs.size,_,I.laid (t':=s.toks) kp (Cg _) (show bO X.prog X.w _ h' _ (.lst ys) from⟨hz,its,c',r',e⟩),rfl,q _ (I.hok.fresh (Cg _))⟩
 rcases hq with hq | hq
 ·obtain⟨its,r',pl,hz⟩:=I.list hq
  have hlen:=r'.length
  obtain⟨o,ho,hc,n,hd⟩:=pl.isList
  exact call_list_seq p (.inl rfl) ho hc hd (fun h' c' kp e=>fin its r' hz h' c' kp e) (by simp only[Cy]<;>omega)
 ·obtain⟨its,r',pl,hz⟩:=I.tuple hq
  have hlen:=r'.length
  obtain⟨o,ho,hc,n,hd⟩:=pl
  exact call_list_seq p (.inr rfl) ho hc hd (fun h' c' kp e=>fin its r' hz h' c' kp e) (by simp only[Cy]<;>omega)
def tyV(K:B9)(T:String)(x:V)(H:Hp):Prop:=match x with
 |.str _=>T = "str"
 |.int _=>T = "int"
 |.ref p=>(T = "list"/\∃ xs,SqL K H p xs)∨(T = "tuple"/\∃ o,K.lookup p=some o/\o.cls=.type "tuple"/\o.dict=none) ∨
   (T = "dict"/\((∃ kvs,H p=some (.dK kvs))∨∃ kvs,H p=some (.dT kvs)))∨(T = "set"/\∃ S n,H p=some (.set S n))
 |_=>False
theorem tyV_is{pins:List (Addr×Obj)}{σ:St}{H:Hp}{s:Shared}{T:String}{x:V}{v:Value}(I:Inv X pins σ H s)(r:RelV x v)(ty:tyV X.K T x H) :
  s.TypeIs v T/\∀ a,v=.ref a->∃ ob,s.heap.get? a=some ob/\ob.dict=none:=by
 cases x with
 |str z =>
  obtain⟨t,rfl⟩:=r
  cases (show T = "str" from ty)
  exact⟨typeIs_str s z t,fun _ e=>nomatch e⟩
 |int i =>
  obtain⟨t,rfl⟩:=r
  cases (show T = "int" from ty)
  exact⟨typeIs_int s i t,fun _ e=>nomatch e⟩
 |ref p =>
  cases r
  rcases ty with⟨rfl,xs,hq⟩ | ⟨rfl,o,hk,hc,hd⟩ | ⟨rfl,hk⟩ | ⟨rfl,S,n,hk⟩
  ·obtain⟨its,_,pl,_⟩:=I.list hq
   refine⟨pl.isList.typeIs,fun a e=>?_⟩
   cases e
   obtain⟨o,n,e,c,hd,_⟩:=pl
   exact⟨o,e,hd⟩
  ·refine⟨⟨o,I.kIn p o hk,hc⟩,fun a e=>?_⟩
   cases e
   exact⟨o,I.kIn _ o hk,hd⟩
  ·have z:∃ o,s.heap.get? p=some o/\o.ExactDict:=by
    rcases hk with⟨kvs,hk⟩ | ⟨kvs,hk⟩
    ·obtain⟨_,_,_,_,o,_,_,e,ex,_⟩:=I.hok p _ hk
     exact⟨o,e,ex⟩
    ·obtain⟨_,_,_,_,o,_,_,e,ex,_⟩:=I.hok p _ hk
     exact⟨o,e,ex⟩
   obtain⟨o,e,ex⟩:=z
   refine⟨⟨o,e,ex.1⟩,fun a e2=>?_⟩
   cases e2
   exact⟨o,e,ex.2.1⟩
  ·obtain⟨o,_,_,_,e,ex,_⟩:=I.hok p _ hk
   refine⟨⟨o,e,ex.1⟩,fun a e2=>?_⟩
   cases e2
   exact⟨o,e,ex.2.1⟩
 |_=>exact False.elim ty
def tBM(K:B9)(T:String)(r:V->List V->Hp->VK->Prop)(to:TE)(t:TA):TE:=fun σ H Q=>to σ H fun x H1=>tyV K T x H1/\t σ H1 fun xs H2=>r x xs H2 Q
variable{o e:Expr}{es:List Expr}{to:TE}{t:TA}{name:Str}{apos cpos:Pos}{T id:String}{r:V->List V->Hp->VK->Prop}
theorem gB(pa:PlainAttrs T)(slot:Slot T name id) (hty:typeOf (.builtin id)=pure (.type "method_descriptor")) (hm:MtR X id r) (ho:PE X o to) (ha:PA X (e::es) t)
  (hbase:attributeBase o name X.env (eval o X.env)=eval o X.env:=by rfl)
  (hfew:((backTo cpos (starEach (e::es) X.env)).all (fun x=>!x.1)&&(backToKw cpos (keywordEach [] X.env)).all (fun x=>x.1.isSome)
   && decide ((e::es).length+([]:List Keyword).length+(if([]:List Keyword).isEmpty then 0 else 1)<30))=true:=by rfl)
  (hline:(apos.endLine == cpos.line)=true:=by rfl) (hs:starEach (e::es) X.env=(false,eval e X.env)::starEach es X.env:=by rfl) (hplain:(backTo cpos (starEach es X.env)).any (·.1)=false:=by rfl) :
  PE X (.Call (.Attribute o name apos) (e::es) [] cpos) (tBM X.K T r to t):=by
 intro pins s σ H Q I h
 refine wpAny_Call_method_late hbase hfew hline rfl (thn (ho pins s σ H _ I h) fun v s1 ⟨x,H1,I1,r1,ty,q1⟩=>?_)
 obtain⟨h1,h2⟩:=tyV_is I1 r1 ty
 refine⟨T,id,pa,slot,hty,h1,h2,?_⟩
 have hA:=ha cpos pins s1 σ H1 _ I1 q1
 rw[hs]at hA ⊢
 refine Calls.callWith_builtin (by show(false||(backTo cpos (starEach es X.env)).any (·.1))=false;rw[hplain]<;>rfl) (Calls.evalArgs_plain ?_)
 exact thn hA fun us s2 ⟨vs,H2,I2,r2,q2⟩=>hm pins s2 σ H2 x vs v us Q I2 r1 r2 q2
end
end L2
namespace L2
open PySem PySem.Spec PyProof.Rows
def MtM(X:Cx)(id:String)(r:V->List V->Hp->VK->Prop):Prop :=
 ∀(pins:List (Addr×Obj))(s:Shared)(σ:St)(H:Hp)(x:V)(xs:List V)(v:Value)(us:List Value)(Q:VK),Inv X pins σ H s->RelV x v->Vals xs us->r x xs H Q ->
  wpAny (model X.prog X.w) X.A (call (.builtin id) (v::us)) (EP X pins σ Q) X.xe s
theorem Vals.one:∀{x:V}{us:List Value},Vals [x] us->∃ u,us = [u]/\RelV x u
 |_,_,.cons r .nil=>⟨_,rfl,r⟩
theorem Vals.rep{xs:List V}{us:List Value}(h:Vals xs us):∀ k:Nat,Vals (Ci k xs).flatten (Ci k us).flatten
 |0=>.nil
 |k+1=>by
  rw[Dp,Dp,Dn,Dn]
  exact Vals.append h (Vals.rep h k)
theorem tI(its:List Value):∀(k:Nat)(acc:List Value),
  List.foldl (fun x1 x2=>x1++x2) acc.toArray (Ci k its.toArray)=(acc++(Ci k its).flatten).toArray
 |0,acc=>by simp
 |k+1,acc=>by
  have e:acc.toArray++its.toArray=(acc++its).toArray:=by simp
  have e2:(acc++its)++(Ci k its).flatten=acc++(Ci (k+1) its).flatten:=by
   rw[Dp,Dn,Dd]
  rw[← e2,← tI its k (acc++its),← e,Dp,List.foldl_cons]
section
variable{X:Cx}{pins:List (Addr×Obj)}{σ:St}{H:Hp}{s:Shared}{l b:Addr}{xs ys zs:List V}
theorem Inv.lset{its its':List Value}{n:Nat}{f:Array Value->Array Value}{t':Nat}(I:Inv X pins σ H s)(hH:H l=some (.lst xs))
  (e:s.heap.get? l=some { cls:=.type "list",data:=.seq its.toArray n }) (hf:f its.toArray=its'.toArray) (hv:Vals ys its') (hz:ys.length<=sizeLine) :
  Inv X pins σ (upd H l (.lst ys)) { s with heap:=s.heap.update l (Obj.mapSeq f),toks:=t' }:=by
 have q:=PySem.IsL.update e f
 rw[hf]at q
 refine I.write (x:=l) (e:=l) (by rw[hH];exact trivial) (.inl rfl) (fun b' u hb hu=>(Heap.get?_update_other s.heap (Obj.mapSeq f) (Ne.symm hb)).trans hu) ⟨_,q⟩ ?_
 exact⟨hz,its',_,hv,q⟩
theorem Inv.lnew{its:List Value}{t':Nat}(I:Inv X pins σ H s)(hv:Vals ys its)(hz:ys.length<=sizeLine) :
  Inv X pins σ (upd H s.heap.objs.size (.lst ys)) { s with heap:=s.heap.push { cls:=.type "list",data:=.seq its.toArray },toks:=t' } :=
 I.laid (fun _ _ q=>Heap.get?_push_of_some _ q) (Cg _) ⟨hz,its,0,hv,Heap.get?_push_size _ rfl⟩
theorem Inv.fresh(I:Inv X pins σ H s):H s.heap.objs.size=none:=I.hok.fresh (Cg _)
theorem Inv.lstM(I:Inv X pins σ H s)(hH:H l=some (.lst xs)):xs.length<=sizeLine/\∃(its:List Value)(n:Nat),Vals xs its/\xs.length=its.length/\s.heap.get? l=some { cls:=.type "list",data:=.seq its.toArray n }:=by
 obtain⟨z,its,n,r,e⟩:=I.hok l _ hH
 exact⟨z,its,n,r,r.length,e⟩
theorem wk{n:Nat}(h:n<=sizeLine):Builtin.List.listTooLong n=false:=by
 unfold Builtin.List.listTooLong
 exact decide_eq_false (by omega)
end
section
variable{X:Cx}
def Bo:V->List V->Hp->VK->Prop:=fun x vs H Q=>∃ l xs y,x=.ref l/\vs = [y]/\H l=some (.lst xs)/\xs.length<sizeLine/\Q .non (upd H l (.lst (xs++[y])))
theorem a7:MtM X "list.append" Bo:=by
 intro pins s σ H x vs v us Q I rx rv h
 obtain⟨l,xs,y,rfl,rfl,hH,hz,q⟩:=h
 cases rx
 obtain⟨u,rfl,ru⟩:=rv.one
 obtain⟨z,its,n,r,hl,e⟩:=I.lstM hH
 refine call_meets F.slot_list_append ⟨_,e,rfl⟩ F.entry_list_append (F.args_list_append_2 _ _) (PySem.list_append l its.toArray n u (by rw[Cy];omega)) ⟨e,?_⟩
 refine⟨.non,_,I.lset (its':=its++[u]) hH e (by simp) (r.append (.cons ru .nil)) ?_,rfl,q⟩
 rw[Cb,Cp]
 omega
def Bn:V->List V->Hp->VK->Prop:=fun x vs H Q=>∃ l b xs zs,x=.ref l/\vs = [.ref b]/\H l=some (.lst xs)/\H b=some (.lst zs)/\xs.length+zs.length<=sizeLine/\Q .non (upd H l (.lst (xs++zs)))
theorem sY:MtM X "list.extend" Bn:=by
 intro pins s σ H x vs v us Q I rx rv h
 obtain⟨l,b,xs,zs,rfl,rfl,hH,hB,hz,q⟩:=h
 cases rx
 obtain⟨u,rfl,ru⟩:=rv.one
 cases ru
 obtain⟨z,its,n,r,hl,e⟩:=I.lstM hH
 obtain⟨z2,its2,n2,r2,hl2,e2⟩:=I.lstM hB
 have hsz:its.toArray.size+its2.toArray.size<=sizeLine:=by rw[Cy,Cy];omega
 have hlong:¬ (!its.toArray.isEmpty&&Builtin.List.listTooLong (its.toArray.size+its2.toArray.size))=true:=by
  rw[wk hsz,Bool.and_false]
  exact CM
 refine call_meets F.slot_list_extend ⟨_,e,rfl⟩ F.entry_list_extend (F.args_list_extend_2 _ _)
  (AutoSeq1.list_extend_list_list_0 l its.toArray n b its2.toArray n2 hlong (by rw[Cy];omega) (by omega)) ⟨e,e2,?_⟩
 refine⟨.non,_,I.lset (its':=its++its2) hH e (by simp) (r.append r2) ?_,rfl,q⟩
 rw[Cb]
 omega
def rRep:R2:=fun x y H Q=>∃ l k xs,x=.ref l/\y=.int k/\H l=some (.lst xs)/\-(2^63)<=k/\k<2^63/\xs.length*k.toNat<=sizeLine /\
 ∀ p,H p=none->Q (.ref p) (upd H p (.lst (Ci k.toNat xs).flatten))
theorem yG{α:Type}(xs:List α)(k:Nat):(Ci k xs).flatten.length=k*xs.length:=by
 induction k with
 |zero=>simp
 |succ k ih=>rw[Dp,Dn,Cb,ih,Nat.succ_mul,Nat.add_comm]
theorem pQ:OpR X (binaryOp .Mult) rRep:=by
 intro pins s σ H x y v u Q I rx ry h
 obtain⟨l,k,xs,rfl,rfl,hH,h1,h2,hz,q⟩:=h
 cases rx
 obtain⟨t,rfl⟩:=ry
 obtain⟨z,its,n,r,hl,e⟩:=I.lstM hH
 have hlen:its.toArray.size*k.toNat<=sizeLine:=by rw[Cy,← hl];exact hz
 have hcap:¬ its.toArray.size*k.toNat > (2^63-1)/8:=by
  have:(sizeLine:Nat)<=(2^63-1)/8:=by decide
  omega
 have hfit:¬ (!Builtin.List.listFitsIndex k)=true:=by
  rw[fitsIndex_both h1 h2]
  exact CM
 have hlong:¬ Builtin.List.listTooLong (its.toArray.size*k.toNat)=true:=by
  rw[wk hlen]
  exact CM
 have hnew:List.foldl (fun x1 x2=>x1++x2) #[] (Ci (if its.toArray.isEmpty=true then 0 else k.toNat) its.toArray)=(Ci k.toNat its).flatten.toArray:=by
  have f0:∀ m:Nat,List.foldl (fun x1 x2=>x1++x2) #[] (Ci m its.toArray)=(Ci m its).flatten.toArray:=fun m=>by
   have:=tI its m []
   rw[List.nil_append]at this
   exact this
  rw[f0]
  cases its with
  |nil=>simp
  |cons a r'=>rw[if_neg (by simp)]
 refine wpAny_binaryOp_repeat_ref (T:="list") (U:="int") (by decide) ⟨_,e,rfl⟩ (fun s'=>typeIs_int s' k t) noFill_list_mul F.fills_int_mul F.slot_int_rmul repeat_list F.slot_int_index.lookup
  (call_meets F.slot_int_rmul (typeIs_int s k t) F.entry_int_rmul (F.args_int_rmul_2 _ _) (int___rmul___int_list k t l its.toArray n)
   ⟨e,rfl,⟨_,e,rfl⟩,call_meets F.slot_list_mul ⟨_,e,rfl⟩ F.entry_list_mul (F.args_list_mul_2 _ _) (AutoListH.list___mul___list_int_3 l its.toArray n k t hfit hcap hlong) ⟨e,?_⟩⟩)
 rw[hnew]
 exact⟨.ref _,_,I.lnew (t':=s.toks) (r.rep k.toNat) (by rw[yG,Nat.mul_comm];exact hz),rfl,q _ I.fresh⟩
end
section
variable{prog:Program}{w:World}{A:Around}{E:Value->Shared->Prop}{s:Shared}
end
section
variable{X:Cx}
end
end L2
namespace Att
open PySem PySem.W PySem.Calls PyProof.Rows
theorem m5{P:Params}{h:Heap}:∀(ns:List Int)(vs:List Value),WellAll P h vs (ns.map WData.int)->IntsAre vs ns:=by
 intro ns
 induction ns with
 |nil =>
  intro vs w
  rw[Es]at w
  cases w
  exact .nil
 |cons n ns ih =>
  intro vs w
  rw[C0]at w
  cases w with
  |cons a b =>
   cases a
   exact .cons _ _ (ih _ b)
theorem yb{l:OpenLaw}{n:Nat}(hn:l.most=some n){P:Params}{h:Heap}{args:List WData}{vals:List Value}
  (hpre:l.row.toRowW.claim.pre args=true) (hwl:WellAll P h vals args) :
  ∃ a vs ns,vals = [Value.ref a]/\args = [WData.list (ns.map WData.int)]/\h.get? a=some { cls:=.type "list",data:=.seq vs.toArray }/\IntsAre vs ns/\ns.length<=n:=by
 have hsh:WShape.hasAll [] args [.list .int]=true:=(pre_splitW hpre).1
 have hc:l.pre.holds [] { args:=args }=true:=(pre_splitW hpre).2
 obtain⟨d,r,rfl,h1,h2⟩:=hasAllW_cons hsh
 obtain rfl:=hasAllW_nil h2
 obtain⟨xs,rfl,h3⟩:=hasW_list h1
 obtain⟨ns,rfl⟩:=items_int h3
 have hlen:ns.length<=n:=by
  unfold OpenLaw.pre at hc
  have h4:(WTm.not (.lt (.lit (.int (n:Int))) (.len (.arg 0)))).holds [] { args:=[.list (ns.map .int)] }=true:=by
   have h4:=(holds_andW hc).1
   rw[hn]at h4
   exact h4
  have h5:=condW_of h4 (w_not (w_lt w_lit (w_len_list (w_arg rfl))))
  rw[Cd]at h5
  refine Nat.le_of_not_lt fun q=>?_
  have q':(n:Int)<((ns.length:Nat):Int):=by omega
  first
   | (rw[decide_eq_true q']at h5;exact absurd h5 (by decide))
   | (simp at h5;omega)
 cases hwl with
 |cons w1 w2 =>
  cases w2
  cases w1 with
  |list ho hall=>exact⟨_,_,ns,rfl,rfl,ho,m5 ns _ hall,hlen⟩
theorem yj(l:OpenLaw)(args:List WData):l.row.toRowW.claim.post args (.bool true) args=true :=
 postW_of (r:=l.row.toRowW) (X:=(true == true))
  (show WShape.has [] (.bool true) .bool=true by first | rfl | decide | simp[WShape.has,WShape.arms,WShape.armsAll])
  (show(WTm.eq .res (.lit (.bool true))).value [] { args:=args,res:=some (.bool true),after:=args }=some (.bool (true == true)) from w_eq_bool (w_res rfl) w_lit) rfl
theorem attach_call{l:OpenLaw}{n:Nat}{q:Program}{loose:List Str}{XP:(Str->Option Value)->Heap->Prop}{YP:World->Heap->Prop}{d:DefRec}
  (hn:l.most=some n) (hdf:d.params.defaults = [])
  (call:∀(w:World)(s₀ s₁:Shared)(mg mb:Str->Option Value)(fa:Addr)(o:Obj)(pm cd doc:Value)(a:Addr)(vs:List Value)(ns:List Int),
   Ground q loose [] XP w s₀ mg mb s₁.heap->YP w s₁.heap ->
   s₁.heap.get? fa=some o->o.data=.func (docDef d.name d.params d.body d.scope pm cd doc)->s₁.heap.CodeRec cd d.name->mg d.name=some (.ref fa) ->
   s₁.heap.get? a=some { cls:=.type "list",data:=.seq vs.toArray }->IntsAre vs ns->ns.length<=n->s₁.gens=#[] ->
   codeAny (model l.prog w) callerA (.call (.ref fa) ⟨[.ref a],[]⟩) (fun r s'=>r=.ok (.ret (.bool true))/\OldK s₁.heap s'.heap/\s'.os=s₁.os/\AllBare s'.gens) s₁) :
  WalkO q loose XP YP l.row.toRowW d [] (fun f vs=>PySem.call f vs):=by
 intro w s₀ s₁ mg mb G Y fa o pm cd doc dV kV ho hd hcd hD hmg hg args vals as hpre hlay hrd hwl hlo
 obtain rfl:dV=.none:=Dflts.none hD hdf
 obtain rfl:kV=.none:=Dflts.noKw hD
 obtain⟨a,vs,ns,rfl,rfl,hobj,hints,hlen⟩:=yb hn hpre hwl
 refine enter_call (codeAny_mono (call w s₀ s₁ mg mb fa o pm cd doc a vs ns G Y ho (fd_plain hd) hcd hmg hobj hints hlen hg) fun r s' hq=>?_)
 obtain⟨rfl,h2,h3,h4⟩:=hq
 exact⟨.inl ⟨.bool true,.bool true,[],rfl,fun _=>rfl,.bool true,yj l _,fun _=>⟨List.Pairwise.nil,fun _ hm=>(nomatch hm)⟩⟩,h2,h3,h4⟩
section
variable{prog:Program}{w:World}{A:Around}{E:Value->Shared->Prop}{s:Shared}{K:Frag}
end
end Att
namespace L2
open PySem PySem.Spec PyProof.Rows
theorem sm:∀{vs:List Value}{ns:List Int},IntsAre vs ns->Vals (ns.map V.int) vs
 |_,_,.nil=>.nil
 |_,_,.cons n t h=>.cons ⟨t,rfl⟩ (sm h)
def Only(H:Hp):Prop:=∀ b,H b=none∨∃ o xs,H b=some (.frz o (.lst xs))
theorem Ag{P:Program}{w:World}{K:B9}{mg mb:Str->Option Value}{CX:CXT}{k:Nat}{fa a:Addr}{fd:FuncData}{x:Str}{sp:Sp}{s₁:Shared}{vs:List Value}{ns:List Int}
  (KX:K.In s₁.heap) (hns:s₁.heap.Ns mainGlobals mg) (hb:s₁.heap.Ns builtinsNs mb) (hbb:∀ x:Str,x≠"__name__"->mb x=bootBuiltins x) (hlim:s₁.heap.NoLimit) (hg:s₁.gens=#[])
  (ha:s₁.heap.get? a=some { cls:=.type "list",data:=.seq vs.toArray }) (hi:IntsAre vs ns) (hl:ns.length<=sizeLine) (hr:Room k callerA)
  (F:∀ base:Heap,K.In base->base.Ns mainGlobals mg->FnOk P w K mg base CX k fa fd [x] sp) (hbind:∀(s:Shared)(u:Value),BindsTo s fd ⟨[u],[]⟩ [(x,u)])
  (hsp:∀ H:Hp,Only H->SqL K H a (ns.map V.int)->sp [.ref a] H (fun v _=>v=.bl true) fun _ _ _=>False)
  (hCX:∀ H e s',CX [] H s₁ (fun _ _ _=>False) e s'->False) :
  codeAny (model P w) callerA (.call (.ref fa) ⟨[.ref a],[]⟩) (fun r s'=>r=.ok (.ret (.bool true))/\OldK s₁.heap s'.heap/\s'.os=s₁.os/\AllBare s'.gens) s₁:=by
 have rv:=sm hi
 have lenV:=hi.length
 have core:∀ H:Hp,Only H->SqL K H a (ns.map V.int)->HOk P w H s₁.heap->(∀ b,H b≠none->b=a)->(H a≠none->K.lookup a=none) ->
   codeAny (model P w) callerA (.call (.ref fa) ⟨[.ref a],[]⟩) (fun r s'=>r=.ok (.ret (.bool true))/\OldK s₁.heap s'.heap/\s'.os=s₁.os/\AllBare s'.gens) s₁:=by
  intro H hO hS hok hA hK
  have base_of:∀{b:Addr}{o:Obj},s₁.heap.get? b=some o->H b=none->(hidT s₁.heap H).get? b=some o:=fun e n=>Ao e n
  have noA:∀{b:Addr}{o:Obj}{es:Array DictEntry}{ep:Nat},s₁.heap.get? b=some o->o.data=.dict es ep->H b=none:=fun{b o es ep} e d=>by
   cases q:H b with
   |none=>rfl
   |some u =>
    have e':b=a:=hA b (by rw[q];simp)
    subst e'
    rw[ha]at e;cases e
    have d':Data.seq vs.toArray _=Data.dict es ep:=d
    cases d'
  have nsK:∀{b:Addr}{m:Str->Option Value},s₁.heap.Ns b m->(hidT s₁.heap H).Ns b m:=fun{b m} ⟨o,es,ep,e,d,r⟩=>⟨o,es,ep,base_of e (noA e d),d,r⟩
  have hKb:K.In (hidT s₁.heap H):=fun b o e=>base_of (KX b o e) (by
   cases q:H b with
   |none=>rfl
   |some u =>
    have e':b=a:=hA b (by rw[q];simp)
    subst e'
    rw[hK (by rw[q];simp)]at e;cases e)
  have hM:Mod K mg (hidT s₁.heap H):=⟨hKb,nsK hns,⟨mb,nsK hb,hbb⟩,let ⟨mc,h1,h2⟩:=hlim;⟨mc,nsK h1,h2⟩⟩
  have e0:Env0 P w K mg (hidT s₁.heap H) callerA [] s₁ H:=⟨rfl,hM,fun b o e=>BE e,Nat.le_of_eq (yZ _ _),trivial,fun b hb=>absurd (show b∈([]:List Addr) from hb) (by simp),hok,.of_eq hg⟩
  refine codeAny_mono ((F _ hKb (nsK hns)).run callerA [] s₁ H ⟨[.ref a],[]⟩ [.ref a] [.ref a] _ _ hr e0 (hbind s₁ (.ref a)) (.cons rfl .nil) (hsp H hO hS)) fun r s' h=>?_
  cases r with
  |error e=>exact(hCX H e s' h).elim
  |ok fl =>
   cases fl with
   |next=>exact False.elim h
   |brk=>exact False.elim h
   |cont=>exact False.elim h
   |ret u =>
    obtain⟨v,H',os,bare,un,hok',r',q⟩:=h
    have q':v=.bl true:=q
    subst q'
    obtain rfl:u=Value.bool true:=r'
    refine⟨rfl,OldK.of_keep fun b o e=>?_,os,bare⟩
    cases q:H b with
    |none=>exact un.keep b o e q (by intro z;exact absurd (show b∈([]:List Addr) from z) (by simp)) (by simp)
    |some u =>
     rcases hO b with z | ⟨ob,xs,z⟩
     ·rw[q]at z;cases z
     ·have z2:=un.frzs b ob _ z
      obtain⟨e1,_⟩:=hok b _ z
      obtain⟨e2,_⟩:=hok' b _ z2
      rw[e]at e1;cases e1
      exact e2
 cases hk:K.lookup a with
 |some o =>
  have e:=KX a o hk
  rw[ha]at e
  cases e
  refine core (fun _=>none) (fun _=>.inl rfl) (.inr ⟨_,vs.toArray,_,hk,rfl,rfl,rfl,by rw[Cy,lenV];exact hl,by simpa using rv⟩) (fun b u z=>by have z':(none:Option HO)=some u:=z;cases z') (fun b z=>absurd rfl z) fun z=>absurd rfl z
 |none =>
  refine core (fun b=>if b=a then some (.frz { cls:=.type "list",data:=.seq vs.toArray } (.lst (ns.map V.int))) else none) (fun b=>?_) (.inl (.inr ⟨{ cls:=.type "list",data:=.seq vs.toArray },if_pos rfl⟩)) (fun b u z=>?_) (fun b z=>?_) fun _=>hk
  ·by_cases hb:b=a
   ·exact .inr ⟨_,_,if_pos hb⟩
   ·exact .inl (if_neg hb)
  ·by_cases hb:b=a
   ·have z':=(if_pos hb).symm.trans z
    cases z'
    subst hb
    exact⟨ha,by rw[Cd];exact hl,vs,_,rv,ha⟩
   ·have z':=(if_neg hb).symm.trans z
    cases z'
  ·by_cases hb:b=a
   ·exact hb
   ·exact absurd (if_neg hb) z
end L2
namespace L2
open PySem PySem.Spec PyProof.Rows
theorem walk_of{l:Ey}{n k:Nat}{q:Program}{loose:List Str}{XP:(Str->Option Value)->Heap->Prop}{YP:World->Heap->Prop}{d:DefRec}{K:Params->B9}{CX:World->CXT}{sp:World->Sp}{x:Str}
  (hn:l.most=some n) (hn2:n<=sizeLine) (hdf:d.params.defaults = []) (hr:Room k callerA)
  (hY:∀(w:World)(h:Heap),YP w h->(K w.params).In h)
  (F:∀(w:World)(mg:Str->Option Value)(fa:Addr)(h:Heap),(K w.params).In h->h.Ns mainGlobals mg->mg d.name=some (.ref fa) ->
   ∃ fd:FuncData,(∀(s:Shared)(u:Value),BindsTo s fd ⟨[u],[]⟩ [(x,u)]) /\
    ∀ base:Heap,(K w.params).In base->base.Ns mainGlobals mg->FnOk l.prog w (K w.params) mg base (CX w) k fa fd [x] (sp w))
  (hsp:∀(w:World)(H:Hp)(a:Addr)(ns:List Int),ns.length<=n->Only H->SqL (K w.params) H a (ns.map V.int)->sp w [.ref a] H (fun v _=>v=.bl true) fun _ _ _=>False)
  (hCX:∀(w:World)(H:Hp)(s:Shared)(e:Value)(s':Shared),CX w [] H s (fun _ _ _=>False) e s'->False) :
  PySem.W.WalkO q loose XP YP l.row.toRowW d [] (fun f vs=>PySem.call f vs):=by
 refine Att.attach_call hn hdf fun w s₀ s₁ mg mb fa o pm cd doc a vs ns G Y ho hd hcd hmg hobj hints hlen hg=>?_
 have KX:=hY w _ Y
 obtain⟨fd,hb,hF⟩:=F w mg fa _ KX G.T.g hmg
 exact Ag KX G.T.g G.T.b G.T.builtins G.T.nolimit hg hobj hints (C6 hlen hn2) hr hF hb (fun H hO hS=>hsp w H a ns hlen hO hS) fun H e s'=>hCX w H s₁ e s'
end L2
namespace L2
open PySem PySem.Spec PyProof.Rows
def yV(s:Stmt)(j:Nat):Stmt:=match s with
 |.ClassDef _ _ _ body _ _ _ _ _ _ _=>body.getD j (.Pass ⟨0,0,0,0⟩)
 |_=>.Pass ⟨0,0,0,0⟩
def aD(s:Stmt):Arguments:=match s with
 |.FunctionDef _ a _ _ _ _ _ _ _ _=>a
 |_=>{ posonlyargs:=[],args:=[],vararg:=none,kwonlyargs:=[],kw_defaults:=[],kwarg:=none,defaults:=[] }
def aB(s:Stmt):List Stmt:=match s with
 |.FunctionDef _ _ b _ _ _ _ _ _ _=>b
 |_=>[]
def ak(s:Stmt):Scope:=match s with
 |.FunctionDef _ _ _ _ _ _ sc _ _ _=>sc
 |_=>{ kind:=.function,names:=[],isGenerator:=false,isCoroutine:=false }
abbrev CX0:CXT:=fun _ _ _ _ _ _=>False
abbrev E0:XK:=fun _ _ _=>False
theorem a9{X:Cx}:pY CX0 X E0:=fun _ _ _ _ _ _ _ h=>h.elim
structure Fun(K:B9)(x qual:Str)(st:Stmt)(f:Addr)(fd:FuncData):Prop where
 ex:∃(oc:Value)(od:Option Addr)(kV doc pm:Value)(an:Option Addr)(cdv ct:Value)(osl:Array (Option Value)),
  fd=CB x qual (aD st) (aB st) (ak st) .none kV doc pm an cdv ct/\K.lookup f=some ⟨oc,od,.func fd,osl⟩/\Cv K cdv qual=true
 kp:Cn K (.ref f)=true
section
variable{P:Program}{w:World}{K:B9}{mg:Str->Option Value}{base:Heap}
theorem Fun.ok{x qual:Str}{st:Stmt}{f:Addr}{fd:FuncData}{N ps:List Str}{k:Nat}{sp:Sp}(F:Fun K x qual st f fd)(S:aE N ps (ak st))(len:∀ vs H Q E,sp vs H Q E->vs.length=ps.length)
  (hbody:∀(cdv:Value)(A:Around)(outer:List Env)(s:Shared)(H:Hp)(vs:List V)(Q:VK)(E:XK),Room k (A.deeper (envOfC qual (ak st) s.heap.objs.size f cdv))->sp vs H Q E ->
   ∃ t,PSs (cxOf CX0 P w K mg base N qual (ak st) f cdv A outer s H E).nox (aB st) t/\t { nx:=fun _ H'=>Q .non H',rt:=Q } (qg N vs) H):FnOk P w K mg base CX0 (k+1) f fd ps sp:=by
 obtain⟨oc,od,kV,doc,pm,an,cdv,ct,osl,rfl,lk,hcd⟩:=F.ex
 refine fn_of lk hcd S len fun A outer s H vs Q E hr hsp=>?_
 obtain⟨t,h,q⟩:=hbody cdv A outer s H vs Q E hr hsp
 exact⟨t,h.nox,q⟩
theorem Fun.binds{x qual:Str}{st:Stmt}{f:Addr}{fd:FuncData}{ps:List Str}(F:Fun K x qual st f fd)
  (h:∀(kV doc pm:Value)(an:Option Addr)(cdv ct:Value)(us:List Value),us.length=ps.length->bindArgs (CB x qual (aD st) (aB st) (ak st) .none kV doc pm an cdv ct) ⟨us,[]⟩=pure (ps.zip us)):lb K fd ps []:=by
 obtain⟨oc,od,kV,doc,pm,an,cdv,ct,osl,rfl,lk,hcd⟩:=F.ex
 exact .all (h kV doc pm an cdv ct)
theorem aR{x qual:Str}{st:Stmt}{f:Addr}{oc:Value}{od an:Option Addr}{osl:Array (Option Value)}{kV doc pm cdv ct:Value}(l:K.lookup f=some ⟨oc,od,.func (CB x qual (aD st) (aB st) (ak st) .none kV doc pm an cdv ct),osl⟩)
  (c:Cv K cdv qual=true) (k:Cn K (.ref f)=true):Fun K x qual st f (CB x qual (aD st) (aB st) (ak st) .none kV doc pm an cdv ct):=⟨⟨oc,od,kV,doc,pm,an,cdv,ct,osl,rfl,l,c⟩,k⟩
end
theorem BN{A:Around}{k:Nat}(hr:Room k A):A.units+1<cLine:=Nat.lt_of_le_of_lt (Nat.add_le_add_left (by decide:1<=64) _) hr.units
theorem ar{n:Nat}(h:n<=1000):n<sizeLine:=Nat.lt_of_le_of_lt h (by decide)
section
variable{X:Cx}
theorem pv(i:Nat){x:Str}{pos:Pos}(hN:X.N[i]?=some x:=by rfl)(hv:Vis X.env.scope x:=by first | exact Or.inl rfl | exact Or.inr (Or.inl rfl) | exact Or.inr (Or.inr rfl)) (hd:(x == ("__debug__" : Str))=false:=by decide)
  (hcd:(x == ("__classdict__" : Str))=false:=by decide):PE X (.Name x pos) (tVar i):=pe_var hN hv hd hcd
end
theorem iteF{A B:Prop}(h:B):if false=true then A else B:=by
 rw[if_neg CM]
 exact h
theorem iteT{A B:Prop}(h:A):if true=true then A else B:=by
 rw[if_pos rfl]
 exact h
theorem ite2{c A B:Prop} [Decidable c] (h1:c->A) (h2:¬ c->B):if c then A else B:=by
 by_cases h:c
 ·rw[if_pos h]
  exact h1 h
 ·rw[if_neg h]
  exact h2 h
theorem xn{c A B:Prop} [Decidable c] (hc:c) (h:B):if(!decide c)=true then A else B:=by
 rw[decide_eq_true hc]
 exact iteF h
def Same(H H':Hp):Prop:=∀ b o,H b=some o->H' b=some o
theorem Same.trans{H H1 H2:Hp}(a:Same H H1)(b:Same H1 H2):Same H H2:=fun c o h=>b c o (a c o h)
theorem Same.seq{K:B9}{H H':Hp}{a:Addr}{xs:List V}(e:Same H H')(h:SqL K H a xs):SqL K H' a xs:=by
 rcases h with(h | ⟨o,h⟩) | h
 ·exact .inl (.inl (e _ _ h))
 ·exact .inl (.inr ⟨o,e _ _ h⟩)
 ·exact .inr h
end L2
set_option maxRecDepth 100000
set_option maxHeartbeats 4000000
namespace L2
open PySem PySem.Spec PyProof.Rows
end L2
namespace L2
open PySem PySem.Spec PyProof.Rows
section
variable(P:Program)(w:World)
end
section
variable{P:Program}{w:World}{H H':Hp}{h h':Heap}{a:Addr}{o:HO}
end
section
variable{P:Program}{w:World}{H:Hp}{h h':Heap}{x e:Addr}{o':HO}
end
section
variable{fs fs' ex ex':List Addr}{H H1 H2:Hp}{h h1 h2 h':Heap}{a x e:Addr}{o:HO}
end
end L2
namespace L2
open PySem PySem.Spec PyProof.Rows
section
variable{X:Cx}{pins:List (Addr×Obj)}{σ:List (Option V)}{H H':Hp}{s:Shared}{h':Heap}
end
end L2
namespace L2
open PySem PySem.Spec PyProof.Rows
section
variable{X:Cx}
variable{a b:Expr}{ta tb:TE}{pos:Pos}
variable{tA tB':TT}{rest:List Expr}
end
end L2
namespace L2
open PySem PySem.Spec PyProof.Rows
section
variable{X:Cx}{pins:List (Addr×Obj)}{σ:St}{H:Hp}{s:Shared}{a:Addr}{xs ys:List V}
end
section
variable{X:Cx}{pins:List (Addr×Obj)}{σ:St}{H:Hp}{s:Shared}{E:Value->Shared->Prop}
end
section
variable{X:Cx}{st:Stmt}{rest:List Stmt}{t u:TS}{e:Expr}{te:TE}{pos:Pos}
end
section
variable{X:Cx}{pos:Pos}
end
section
variable{X:Cx}{pos:Pos}
end
end L2
namespace L2
open PySem PySem.Spec PyProof.Rows
section
variable{X:Cx}{tg:Expr}
end
end L2
namespace L2
open PySem PySem.Spec PyProof.Rows
section
variable{X:Cx}{a b c:Expr}{ta tb tc:TE}{pos:Pos}
end
section
variable{X:Cx}{a b c:Expr}{ta tb tc:TE}{pos:Pos}
end
end L2
namespace L2
open PySem PySem.Spec PyProof.Rows
section
variable{prog:Program}{w:World}{A:Around}{E:Value->Shared->Prop}{s:Shared}{K:B9}{x dx C f:Addr}{mA:Str->Option Value}{name:Str}{v:Value}
end
section
variable{P:Program}{w:World}{H H':Hp}{h h':Heap}{a C dx:Addr}{fs fs':List (Str×V)}
end
section
variable{X:Cx}{pins:List (Addr×Obj)}{σ:St}{H:Hp}{s:Shared}{a C dx:Addr}{fs:List (Str×V)}{f:Str}{v:V}{A:Around}{E:Value->Shared->Prop}
end
section
variable{X:Cx}{o e value:Expr}{f:Str}{pos pos' tpos:Pos}{ta tv:TE}
end
section
variable{X:Cx}{pins:List (Addr×Obj)}{σ:St}{H:Hp}{s:Shared}{A:Around}{E:Value->Shared->Prop}{Q:Value->Shared->Prop}{c:Value}{b:Bool}
end
end L2
namespace L2
open PySem PySem.Spec PyProof.Rows
section
variable{X:Cx}{e:Expr}{es:List Expr}{te:TE}{t:TA}{pos:Pos}
end
section
variable{X:Cx}{pins:List (Addr×Obj)}{σ:St}{H:Hp}{s s':Shared}
end
section
variable{X:Cx}{CX:CXT}{k:Nat}{f C:Addr}{fd:FuncData}{ps:List Str}{sp:Sp}{dvs:List V}{ds:List Value}{E:XK}{x m:Str}{p pos apos:Pos}{e o:Expr}{es:List Expr}{ta:TE}{t:TA}
end
section
variable{X:Cx}{CX:CXT}{k:Nat}{f C:Addr}{fd:FuncData}{ps ks:List Str}{sp:Sp}{E:XK}{x m:Str}{p pos apos kpos:Pos}{e o:Expr}{es:List Expr}{kws:List Keyword}{te ta:TE}{t tk:TA}{nm:Option Str}
variable{g:List Value->List Value->List Value}{gV:List V->List V->List V}
end
end L2
namespace L2
open PySem PySem.Spec PyProof.Rows
section
variable{X:Cx}{x:Str}{p pos:Pos}{e:Expr}{es:List Expr}{t:TA}{id T:String}{r:List V->Hp->VK->Prop}
end
end L2
namespace L2
open PySem PySem.Spec PyProof.Rows
section
variable{κ:Type} [DecidableEq κ]
def valV(kvs:List (κ×V))(k:κ):Option V:=(kvs.find? fun kv=>decide (kv.1=k)).map (·.2)
def putK(kvs:List (κ×V))(k:κ)(v:V):List (κ×V) :=
 if(kvs.any fun kv=>decide (kv.1=k))=true then kvs.map (fun kv=>if kv.1=k then(kv.1,v) else kv) else kvs++[(k,v)]
theorem ck{p:κ×V}{r:List (κ×V)}{k:κ}(e:p.1=k):valV (p::r) k=some p.2:=by simp[valV,DL,e]
theorem cm{p:κ×V}{r:List (κ×V)}{k:κ}(e:¬ p.1=k):valV (p::r) k=valV r k:=by simp[valV,DL,e]
theorem l6(k:κ):∀ kvs:List (κ×V),(kvs.any fun kv=>decide (kv.1=k))=(valV kvs k).isSome
 |[]=>rfl
 |p::r=>by
  rw[EM]
  by_cases e:p.1=k
  ·simp only[ck e,decide_eq_true e,Bool.true_or,Option.isSome_some]
  ·rw[cm e,decide_eq_false e,Bool.false_or];exact l6 k r
theorem vV(k j:κ)(y:V):∀ kvs:List (κ×V),valV (kvs.map fun kv=>if kv.1=k then(kv.1,y) else kv) j=(valV kvs j).map fun x=>if j=k then y else x
 |[]=>rfl
 |p::r=>by
  have ih:=vV k j y r
  rw[C0]
  by_cases h:p.1=k
  ·rw[if_pos h]
   by_cases e:p.1=j
   ·rw[ck (p:=(p.1,y)) e,ck e,D9,if_pos (e.symm.trans h)]
   ·rw[cm (p:=(p.1,y)) e,cm e,ih]
  ·rw[if_neg h]
   by_cases e:p.1=j
   ·rw[ck (p:=p) e,ck e,D9,if_neg (fun z=>h (e.trans z))]
   ·rw[cm (p:=p) e,cm e,ih]
theorem so(k j:κ)(y:V):∀ kvs:List (κ×V),valV kvs k=none->valV (kvs++[(k,y)]) j=if j=k then some y else valV kvs j
 |[],_=>by
  by_cases e:k=j
  ·rw[if_pos e.symm];exact ck (p:=(k,y)) e
  ·rw[if_neg (fun z=>e z.symm)];exact cm (p:=(k,y)) e
 |p::r,hn=>by
  rw[List.cons_append]
  have hk:¬ p.1=k:=fun z=>by rw[ck z]at hn;cases hn
  rw[cm hk]at hn
  have ih:=so k j y r hn
  by_cases e:p.1=j
  ·rw[ck e,ck e,if_neg (fun z=>hk (e.trans z))]
  ·rw[cm e,cm e,ih]
theorem fo(kvs:List (κ×V))(k j:κ)(y:V):valV (putK kvs k y) j=if j=k then some y else valV kvs j:=by
 unfold putK
 by_cases a:(kvs.any fun kv=>decide (kv.1=k))=true
 ·rw[if_pos a,vV]
  rw[l6]at a
  by_cases e:j=k
  ·obtain⟨x,hx⟩:=DX.mp a
   rw[if_pos e,e,hx,D9,if_pos rfl]
  ·rw[if_neg e]
   cases valV kvs j with
   |none=>rfl
   |some x=>rw[D9,if_neg e]
 ·rw[if_neg a]
  refine so k j y kvs ?_
  rw[l6]at a
  cases q:valV kvs k with
  |none=>rfl
  |some x=>rw[q]at a;exact(a rfl).elim
theorem fx(kvs:List (κ×V))(k:κ)(v:V):(putK kvs k v).length<=kvs.length+1:=by
 unfold putK
 split
 ·rw[Cd];omega
 ·rw[Cb,Df,DJ];omega
theorem RelO.isSome_eq{o:Option V}{u:Option Value}(r:RelO o u):o.isSome=u.isSome:=by
 cases o with
 |none=>cases u with
  |none=>rfl
  |some _=>exact(show False from r).elim
 |some _=>cases u with
  |none=>exact(show False from r).elim
  |some _=>rfl
theorem KV.val{kvs:List (κ×V)}{vs:List (κ×Value)}(r:KV kvs vs)(k:κ):RelO (valV kvs k) (valueAt vs k):=by
 unfold KV at r
 induction r with
 |nil=>exact True.intro
 | @cons p q ps qs h t ih =>
  obtain⟨h1,h2⟩:=h
  by_cases e:p.1=k
  ·have e':q.1=k:=h1.symm.trans e
   have b:valueAt (q::qs) k=some q.2:=by simp[valueAt,DL,e']
   rw[ck e,b];exact h2
  ·have e':¬ q.1=k:=fun z=>e (h1.trans z)
   have b:valueAt (q::qs) k=valueAt qs k:=by simp[valueAt,DL,e']
   rw[cm e,b];exact ih
theorem KV.any{kvs:List (κ×V)}{vs:List (κ×Value)}(r:KV kvs vs)(k:κ):(kvs.any fun kv=>decide (kv.1=k))=vs.any fun kv=>decide (kv.1=k):=by
 unfold KV at r
 induction r with
 |nil=>rfl
 |cons h t ih=>rw[EM,EM,ih,h.1]
theorem KV.repl{kvs:List (κ×V)}{vs:List (κ×Value)}(r:KV kvs vs)(k:κ){y:V}{u:Value}(ry:RelV y u) :
  KV (kvs.map fun kv=>if kv.1=k then(kv.1,y) else kv) (vs.map fun kv=>if kv.1=k then(kv.1,u) else kv):=by
 unfold KV at r ⊢
 induction r with
 |nil=>exact .nil
 | @cons p q ps qs h t ih =>
  rw[C0,C0]
  refine .cons ?_ ih
  obtain⟨h1,h2⟩:=h
  by_cases e:p.1=k
  ·rw[if_pos e,if_pos (h1.symm.trans e)];exact⟨h1,ry⟩
  ·rw[if_neg e,if_neg (fun z=>e (h1.trans z))];exact⟨h1,h2⟩
theorem KV.put{kvs:List (κ×V)}{vs:List (κ×Value)}(r:KV kvs vs)(k:κ){y:V}{u:Value}(ry:RelV y u):KV (putK kvs k y) (stored vs k u):=by
 unfold putK stored
 rw[r.any k]
 by_cases e:(vs.any fun kv=>decide (kv.1=k))=true
 ·rw[if_pos e,if_pos e];exact r.repl k ry
 ·rw[if_neg e,if_neg e];exact Paired.snoc r ⟨rfl,ry⟩
theorem KV.length{kvs:List (κ×V)}{vs:List (κ×Value)}(r:KV kvs vs):kvs.length=vs.length:=Paired.length r
end
theorem Al{P:Program}{w:World}{k:Key}{u:Value}(r:RelV (kV k) u):(cF P w).is k u=true:=by
 cases k with
 |inl i=>obtain⟨t,e⟩:=(show ∃ t,u=Value.int i t from r);subst e;exact vc P w i t
 |inr x=>obtain⟨t,e⟩:=(show ∃ t,u=Value.str x t from r);subst e;exact vb P w x t
theorem tG{P:Program}{w:World}:∀{ks:List Key}{us:List Value},Vals (ks.map kV) us->ItemsAre (cF P w) ks us
 |[],_,r=>by rw[Es]at r;cases r;exact .nil
 |k::ks,_,r=>by
  rw[C0]at r
  cases r with
  |cons h t=>exact .cons (Al h) (tG t)
abbrev KT(H:Hp):List (List Key×V)->List (List Key×Addr×Value)->Prop:=Paired fun p q=>p.1=q.1/\H q.2.1=some (.tup (p.1.map kV))/\RelV p.2 q.2.2
theorem KT.val{H:Hp}{kvs:List (List Key×V)}{xs:List (List Key×Addr×Value)}(r:KT H kvs xs)(k:List Key):RelO (valV kvs k) ((atKey xs k).map (·.2)):=by
 induction r with
 |nil=>exact True.intro
 | @cons p q ps qs h t ih =>
  obtain⟨h1,_,h2⟩:=h
  by_cases e:p.1=k
  ·have e':q.1=k:=h1.symm.trans e
   have b:atKey (q::qs) k=some q.2:=by simp[atKey,DL,e']
   rw[ck e,b];exact h2
  ·have e':¬ q.1=k:=fun z=>e (h1.trans z)
   have b:atKey (q::qs) k=atKey qs k:=by simp[atKey,DL,e']
   rw[cm e,b];exact ih
theorem KT.repl{H:Hp}{kvs:List (List Key×V)}{xs:List (List Key×Addr×Value)}(r:KT H kvs xs)(k:List Key){y:V}{u:Value}(ry:RelV y u) :
  KT H (kvs.map fun kv=>if kv.1=k then(kv.1,y) else kv) (xs.map (putAt k u)):=by
 induction r with
 |nil=>exact .nil
 | @cons p q ps qs h t ih =>
  rw[C0,C0]
  refine .cons ?_ ih
  obtain⟨h1,h2,h3⟩:=h
  unfold putAt
  by_cases e:p.1=k
  ·rw[if_pos e,if_pos (h1.symm.trans e)];exact⟨h1,h2,ry⟩
  ·rw[if_neg e,if_neg (fun z=>e (h1.trans z))];exact⟨h1,h2,h3⟩
theorem KT.put{H:Hp}{kvs:List (List Key×V)}{xs:List (List Key×Addr×Value)}(r:KT H kvs xs)(k:List Key){b:Addr}{y:V}{u:Value}(hb:H b=some (.tup (k.map kV)))(ry:RelV y u) :
  KT H (putK kvs k y) (storedH xs k b u):=by
 have e:(kvs.any fun kv=>decide (kv.1=k))=(atKey xs k).isSome:=by
  rw[l6,(r.val k).isSome_eq,Option.isSome_map]
 unfold putK storedH
 rw[e]
 by_cases q:(atKey xs k).isSome=true
 ·rw[if_pos q,if_pos q];exact r.repl k ry
 ·rw[if_neg q,if_neg q];exact Paired.snoc r ⟨rfl,hb,ry⟩
theorem KT.keeps{H H':Hp}{kvs:List (List Key×V)}{xs:List (List Key×Addr×Value)}(r:KT H kvs xs)(ht:∀ b ys,H b=some (.tup ys)->H' b=some (.tup ys)):KT H' kvs xs :=
 Paired.mapP r fun _ _ z=>⟨z.1,ht _ _ z.2.1,z.2.2⟩
section
variable{P:Program}{w:World}{H:Hp}{h:Heap}{a:Addr}
theorem rd_of{u:HO}(ok:HOk P w H h)(e:Rd H a u):bO P w H h a u:=e.ok ok
theorem As{kvs:List (Key×V)}(ok:HOk P w H h)(e:Rd H a (.dK kvs)):kvs.length<=sizeLine/\(a == sysModules)=false/\∃ vs,KV kvs vs/\h.DictOf (cF P w) a vs :=
 show bO P w H h a (.dK kvs) from rd_of ok e
theorem dk_of{kvs:List (Key×V)}(ok:HOk P w H h)(e:H a=some (.dK kvs)):kvs.length<=sizeLine/\(a == sysModules)=false/\∃ vs,KV kvs vs/\h.DictOf (cF P w) a vs:=As ok (.inl e)
theorem wt{ks:List Key}(ok:HOk P w H h)(e:H a=some (.tup (ks.map kV))):(tupleKind (cF P w)).is h ks a:=by
 obtain⟨_,its,r,o,h1,h2,n,h3⟩:=(show bO P w H h a (.tup (ks.map kV)) from ok a _ e)
 exact⟨o,its.toArray,n,h1,h2,h3,by simpa using tG r⟩
theorem Ap{kvs:List (List Key×V)}(ok:HOk P w H h)(e:Rd H a (.dT kvs)):kvs.length<=sizeLine/\(a == sysModules)=false /\
  ∃ xs,KT H kvs xs/\h.DictOfH (tupleKind (cF P w)) a xs:=by
 obtain⟨z,y,xs,r,o,es,ep,h1,h2,h3,h4,h5⟩:=(show bO P w H h a (.dT kvs) from rd_of ok e)
 refine⟨z,y,xs,r,o,es,ep,h1,h2,h3,h4,fun x hx=>?_,h5⟩
 have all:∀{l:List (List Key×V)}{m:List (List Key×Addr×Value)},KT H l m->∀ x∈m,(tupleKind (cF P w)).is h x.1 x.2.1:=by
  intro l m q
  induction q with
  |nil=>intro x hx;exact nomatch hx
  | @cons p q ps qs hq t ih =>
   intro x hx
   rcases Co.mp hx with e | hx
   ·subst e
    exact wt ok (by rw[← hq.1];exact hq.2.1)
   ·exact ih x hx
 exact all r x hx
theorem dt_of{kvs:List (List Key×V)}(ok:HOk P w H h)(e:H a=some (.dT kvs)):kvs.length<=sizeLine/\(a == sysModules)=false /\
  ∃ xs,KT H kvs xs/\h.DictOfH (tupleKind (cF P w)) a xs:=Ap ok (.inl e)
end
def DGet(H:Hp)(a:Addr)(y:V)(r:Option V):Prop :=
 (∃ kvs k,Rd H a (.dK kvs)/\y=kV k/\r=valV kvs k)∨∃ kvs k b,Rd H a (.dT kvs)/\y=.ref b/\H b=some (.tup (k.map kV))/\r=valV kvs k
def DPut(H:Hp)(a:Addr)(y v:V)(H':Hp):Prop :=
 (∃ kvs k,H a=some (.dK kvs)/\y=kV k/\kvs.length<sizeLine/\H'=upd H a (.dK (putK kvs k v))) ∨
 ∃ kvs k b,H a=some (.dT kvs)/\y=.ref b/\H b=some (.tup (k.map kV))/\kvs.length<sizeLine/\H'=upd H a (.dT (putK kvs k v))
theorem DGet.k{H:Hp}{a:Addr}{kvs:List (Key×V)}{k:Key}(e:H a=some (.dK kvs)):DGet H a (kV k) (valV kvs k):=.inl ⟨kvs,k,.inl e,rfl,rfl⟩
theorem DGet.t{H:Hp}{a b:Addr}{kvs:List (List Key×V)}{k:List Key}(e:H a=some (.dT kvs))(eb:H b=some (.tup (k.map kV))):DGet H a (.ref b) (valV kvs k):=.inr ⟨kvs,k,b,.inl e,rfl,eb,rfl⟩
theorem DPut.k{H:Hp}{a:Addr}{kvs:List (Key×V)}{k:Key}{v:V}(e:H a=some (.dK kvs))(hl:kvs.length<sizeLine):DPut H a (kV k) v (upd H a (.dK (putK kvs k v))):=.inl ⟨kvs,k,e,rfl,hl,rfl⟩
theorem DPut.t{H:Hp}{a b:Addr}{kvs:List (List Key×V)}{k:List Key}{v:V}(e:H a=some (.dT kvs))(eb:H b=some (.tup (k.map kV)))(hl:kvs.length<sizeLine) :
  DPut H a (.ref b) v (upd H a (.dT (putK kvs k v))):=.inr ⟨kvs,k,b,e,rfl,eb,hl,rfl⟩
section
variable{X:Cx}{pins:List (Addr×Obj)}{σ:St}{H:Hp}{s:Shared}{a:Addr}{y v:V}{u r:Value}{o:Option V}{A:Around}{E:Value->Shared->Prop}
theorem Inv.big(I:Inv X pins σ H s):sysModules<s.heap.objs.size:=by
 have h:mainGlobals<s.heap.objs.size:=(I.mod.glob.keeps I.bk).lt
 exact Nat.lt_trans (by decide) h
theorem zm{Q:Value->Shared->Prop}(hu:A.units+1<cLine)(I:Inv X pins σ H s)(g:DGet H a y (some v))(ry:RelV y u)(h:∀ w' s',Inv X pins σ H s'->RelV v w'->Q w' s') :
  wpAny (model X.prog X.w) A (getItem (.ref a) u) Q E s:=by
 rcases g with⟨kvs,k,e,ey,l⟩ | ⟨kvs,k,b,e,ey,eb,l⟩
 ·subst ey
  obtain⟨z,hd,vs,rel,dd⟩:=As I.hok e
  obtain⟨w',hw,rw'⟩:=RelO.some_of (v:=v) (o:=valueAt vs k) (by rw[l];exact rel.val k)
  exact wpAny_getItem_of (Al ry) dd.mapOf hw (h w' _ (I.tok _) rw')
 ·subst ey
  cases (show u=Value.ref b from ry)
  obtain⟨z,hd,xs,rel,dd⟩:=Ap I.hok e
  obtain⟨w',hw,rw'⟩:=RelO.some_of (v:=v) (o:=(atKey xs k).map (·.2)) (by rw[l];exact rel.val k)
  obtain⟨p,hp,hp2⟩:=Dh.mp hw
  refine wpAny_getItem_heap (tupleKind_room_in1 hu) (wt I.hok eb) dd hp ?_
  rw[hp2]
  exact h w' _ (I.tok _) rw'
theorem BU{Q:Value->Shared->Prop}(hu:A.units+1<cLine)(I:Inv X pins σ H s)(g:DGet H a y o)(ry:RelV y u)(h:∀ s',Inv X pins σ H s'->Q (.bool (!o.isSome)) s') :
  wpAny (model X.prog X.w) A (compareOp .NotIn u (.ref a)) Q E s:=by
 rcases g with⟨kvs,k,e,ey,l⟩ | ⟨kvs,k,b,e,ey,eb,l⟩
 ·subst ey
  obtain⟨z,hd,vs,rel,dd⟩:=As I.hok e
  refine wpAny_notIn_of (Al ry) hd dd.mapOf ?_
  rw[← (rel.val k).isSome_eq,← l]
  exact h _ (I.tok _)
 ·subst ey
  cases (show u=Value.ref b from ry)
  obtain⟨z,hd,xs,rel,dd⟩:=Ap I.hok e
  refine wpAny_notIn_heap (tupleKind_room_in1 hu) (wt I.hok eb) hd dd ?_
  have q:=(rel.val k).isSome_eq
  rw[Option.isSome_map]at q
  rw[← q,← l]
  exact h _ (I.tok _)
theorem zj{h':Heap}{t':Nat}{ob:HO}(I:Inv X pins σ H s)(mu:Mut (H a))(hs:Heap.SameBut a s.heap h')(he:∃ q,h'.get? a=some q)(new:bO X.prog X.w (upd H a ob) h' a ob) :
  Inv X pins σ (upd H a ob) { s with heap:=h',toks:=t' } :=
 I.write (x:=a) (e:=a) mu (.inl rfl) (fun b q hb z=>(hs.2 b hb).trans z) he new
theorem dk_new{P:Program}{w:World}{H':Hp}{h':Heap}{kvs:List (Key×V)}{vs:List (Key×Value)}(z:kvs.length<=sizeLine)(hd:(a == sysModules)=false)(rel:KV kvs vs)(dd:h'.DictOf (cF P w) a vs) :
  bO P w H' h' a (.dK kvs):=⟨z,hd,vs,rel,dd⟩
theorem zk{H':Hp}{Q:Unit->Shared->Prop}(hu:A.units+1<cLine)(I:Inv X pins σ H s)(g:DPut H a y v H')(ry:RelV y u)(rv:RelV v r)(h:∀ s',Inv X pins σ H' s'->Q () s') :
  wpAny (model X.prog X.w) A (setItem (.ref a) u r) Q E s:=by
 rcases g with⟨kvs,k,e,ey,l,eH⟩ | ⟨kvs,k,b,e,ey,eb,l,eH⟩
 ·subst ey eH
  obtain⟨z,hd,vs,rel,dd⟩:=dk_of I.hok e
  have hz:vs.length<=sizeLine:=by rw[← rel.length];exact z
  have hl:(putK kvs k v).length<=sizeLine:=by have:=fx kvs k v;omega
  refine wpAny_setItem_pairs (hsz:=hz) (Al ry) dd fun h' dd' hs=>h _ ?_
  have he:∃ q,h'.get? a=some q:=let ⟨q,_,_,hq,_⟩:=dd';⟨q,hq⟩
  exact zj I (by rw[e];exact True.intro) hs he (dk_new hl hd (rel.put k rv) dd')
 ·subst ey eH
  cases (show u=Value.ref b from ry)
  obtain⟨z,hd,xs,rel,dd⟩:=dt_of I.hok e
  have hz:xs.length<=sizeLine:=by rw[← Paired.length rel];exact z
  have hl:(putK kvs k v).length<=sizeLine:=by have:=fx kvs k v;omega
  refine wpAny_setItem_heap (hsz:=hz) (tupleKind_room_in1 hu) (wt I.hok eb) dd fun h' dd' hs=>h _ ?_
  obtain⟨q,es,ep,hq,h2,h3,h4,_,h5⟩:=dd'
  refine zj I (by rw[e];exact True.intro) hs ⟨q,hq⟩ ⟨hl,hd,_,(rel.put k eb rv).keeps fun c ys ec=>?_,q,es,ep,hq,h2,h3,h4,h5⟩
  rw[ao (ne_of ec e (fun z=>nomatch z))]
  exact ec
end
section
variable{X:Cx}{pins:List (Addr×Obj)}{σ:St}{H:Hp}{s:Shared}{a:Addr}{kvs:List (Key×V)}{k:Key}{u:Value}{A:Around}{E:Value->Shared->Prop}
end
def NoSl(i:Expr):Prop:=∀ ov iv,subscripted i false ov iv=operate [ov,iv] (getItem ov iv)
theorem Be{prog:Program}{w:World}{A:Around}{E:Value->Shared->Prop}{s:Shared}{env:Env}{value slice:Expr}{pos:Pos}{T id:String}{Q:Value->Shared->Prop}
  (hl:typeLookup (.type T) "__getitem__" = pure (some (.builtin id))) (hs:NoSl slice)
  (h:wpAny (model prog w) A (eval value env) (fun o s₁=>wpAny (model prog w) A (eval slice env) (fun i s₂=>s₂.TypeIs o T/\wpAny (model prog w) A (getItem o i) Q E s₂) E s₁) E s) :
  wpAny (model prog w) A (eval (.Subscript value slice pos) env) Q E s:=by
 refine Subscript_ (wpAny_mono h (fun o s₁ h₁=>wpAny_mono h₁ (fun i s₂ h₂=>?_) fun _ _ x=>x) fun _ _ x=>x)
 obtain⟨hT,h₂⟩:=h₂
 unfold subscriptTail
 refine wpAny_bind ?_
 rw[getitemInPython_of_ne hT.not_modules]
 refine wpAny_bind (wpAny_specialOf hT hl ?_)
 have fin:wpAny (model prog w) A (subscripted slice false o i) (fun r s₃=>wpAny (model prog w) A (letTemporaryGo value o r >>= fun _=>pure r) Q E s₃) E s₂:=by
  rw[hs o i]
  exact wpAny_operating (wpAny_mono h₂ (fun r s₃ h₃=>wpAny_bind (wpAny_letTemporaryGo (wpAny_pure h₃))) fun _ _ x=>x)
 first
  |exact wpAny_pure (wpAny_bind fin)
  |exact wpAny_bind (wpAny_pure (wpAny_bind fin))
  |exact wpAny_bind fin
theorem vy{X:Cx}{pins:List (Addr×Obj)}{σ:St}{H:Hp}{s:Shared}{a:Addr}{y:V}{o:Option V}(I:Inv X pins σ H s)(g:DGet H a y o):s.TypeIs (.ref a) "dict":=by
 rcases g with⟨kvs,k,e,_,_⟩ | ⟨kvs,k,b,e,_,_,_⟩
 ·obtain⟨_,_,vs,_,dd⟩:=As I.hok e
  exact dd.typeIs
 ·obtain⟨_,_,xs,_,dd⟩:=Ap I.hok e
  exact dd.typeIs
def tDGet(td ty:TE):TE:=fun σ H Q=>td σ H fun x H1=>ty σ H1 fun y H2=>∃ a v,x=.ref a/\DGet H2 a y (some v)/\Q v H2
def Bd(ty td:TE):TE:=fun σ H Q=>ty σ H fun y H1=>td σ H1 fun x H2=>∃ a o,x=.ref a/\DGet H2 a y o/\Q (.bl (!o.isSome)) H2
def sDPut(td ty tv:TE):TS:=fun D σ H=>tv σ H fun v H1=>td σ H1 fun x H2=>ty σ H2 fun y H3=>∃ a H4,x=.ref a/\DPut H3 a y v H4/\D.nx σ H4
section
variable{X:Cx}{o i e value:Expr}{pos pos' tpos:Pos}{td ty tv:TE}
theorem uQ(hu:X.A.units+1<cLine)(ho:PE X o td)(hi:PE X i ty)(hs:NoSl i):PE X (.Subscript o i pos) (tDGet td ty):=by
 intro pins s σ H Q I h
 refine Be PySem.F.slot_dict_getitem.lookup hs (thn (ho pins s σ H _ I h) fun u s1 ⟨x,H1,I1,rx,q1⟩=>thn (hi pins s1 σ H1 _ I1 q1) fun iv s2 ⟨y,H2,I2,ry,a,v,ex,g,q2⟩=>?_)
 subst ex
 obtain rfl:u=Value.ref a:=rx
 exact⟨vy I2 g,zm hu I2 g ry fun w' s3 I3 rw'=>⟨v,H2,I3,rw',q2⟩⟩
theorem yr(hu:X.A.units+1<cLine)(hi:PE X i ty)(ho:PE X o td):PC X .NotIn i o (Bd ty td):=by
 intro pins s σ H Q I h
 refine thn (hi pins s σ H _ I h) fun iv s1 ⟨y,H1,I1,ry,q1⟩=>thn (ho pins s1 σ H1 _ I1 q1) fun u s2 ⟨x,H2,I2,rx,a,ov,ex,g,q2⟩=>?_
 subst ex
 obtain rfl:u=Value.ref a:=rx
 exact BU hu I2 g ry fun s3 I3=>⟨.bl (!ov.isSome),H2,I3,rfl,q2⟩
theorem qB(hu:X.A.units+1<cLine)(ho:PE X o td)(hi:PE X i ty)(hv:PE X value tv)(hs:swapsWith value (some (.Subscript o i pos')) pos.line X.env=pure false) :
  PS X (.Assign [.Subscript o i pos'] value pos) (sDPut td ty tv):=by
 intro pins s σ H D I h
 refine wpAny_Assign_Subscript (thn (hv pins s σ H _ I h) fun r s1 ⟨v,H1,I1,rv,q1⟩=>thn (ho pins s1 σ H1 _ I1 q1) fun u s2 ⟨x,H2,I2,rx,q2⟩=>thn (hi pins s2 σ H2 _ I2 q2) fun iv s3 ⟨y,H3,I3,ry,a,H4,ex,g,q3⟩=>?_) hs
 subst ex
 obtain rfl:u=Value.ref a:=rx
 exact zk hu I3 g ry rv fun s4 I4=>⟨σ,H4,I4,q3⟩
end
theorem Au{P:Program}{w:World}{H:Hp}(h:Heap)(hb:sysModules<h.objs.size):bO P w H (h.push { cls:=.type "dict",data:=.dict #[] }) h.objs.size (.dK []) :=
 ⟨Dm _,beq_eq_false_iff_ne.mpr (Ne.symm (CJ hb)),[],.nil,Heap.DictOf.new h⟩
theorem Aq{P:Program}{w:World}{H:Hp}(h:Heap)(hb:sysModules<h.objs.size):bO P w H (h.push { cls:=.type "dict",data:=.dict #[] }) h.objs.size (.dT []) :=
 ⟨Dm _,beq_eq_false_iff_ne.mpr (Ne.symm (CJ hb)),[],.nil,_,#[],0,Heap.get?_push_size _ rfl,⟨rfl,rfl,rfl⟩,rfl,rfl,Ee⟩
def tDNewK:TE:=fun _ H Q=>∀ p,H p=none->Q (.ref p) (upd H p (.dK []))
def tDNewT:TE:=fun _ H Q=>∀ p,H p=none->Q (.ref p) (upd H p (.dT []))
section
variable{X:Cx}{pos:Pos}
theorem wc:PE X (.Dict [] [] pos) tDNewK:=fun pins s σ H Q I h =>
 wpAny_Dict_empty ⟨.ref s.heap.objs.size,_,I.laid (a:=s.heap.objs.size) (o:=.dK []) (t':=s.toks) (fun _ _ q=>Heap.get?_push_of_some _ q) (Cg _) (Au s.heap I.big),rfl,h _ (I.hok.fresh (Cg _))⟩
theorem zR:PE X (.Dict [] [] pos) tDNewT:=fun pins s σ H Q I h =>
 wpAny_Dict_empty ⟨.ref s.heap.objs.size,_,I.laid (a:=s.heap.objs.size) (o:=.dT []) (t':=s.toks) (fun _ _ q=>Heap.get?_push_of_some _ q) (Cg _) (Aq s.heap I.big),rfl,h _ (I.hok.fresh (Cg _))⟩
end
section
variable{X:Cx}{pins:List (Addr×Obj)}{σ:St}{H:Hp}{s:Shared}{a:Addr}{y d:V}{u r:Value}{o:Option V}{A:Around}{E:Value->Shared->Prop}
end
section
variable{X:Cx}{o e f:Expr}{apos cpos:Pos}{td ty tx:TE}
end
section
variable{X:Cx}{pins:List (Addr×Obj)}{σ:St}{H:Hp}{s:Shared}{a:Addr}{kvs:List (Key×V)}{A:Around}{E:Value->Shared->Prop}
end
section
variable{X:Cx}{pins:List (Addr×Obj)}{σ:St}{H:Hp}{s:Shared}{a:Addr}{y:V}{u:Value}{A:Around}{E:Value->Shared->Prop}
end
end L2
namespace Att
open PySem PySem.W PySem.Calls PyProof.Rows
section
variable{prog:Program}{w:World}{A:Around}{E:Value->Shared->Prop}{s:Shared}{K:Frag}
end
end Att
namespace L2
open PySem PySem.Spec PyProof.Rows
end L2
namespace L2
open PySem PySem.Spec PyProof.Rows
end L2
namespace L2
open PySem PySem.Spec PyProof.Rows
section
variable{P:Program}{w:World}{K:B9}{mg:Str->Option Value}{base:Heap}
end
section
variable{X:Cx}
end
section
variable{κ:Type} [DecidableEq κ]
end
end L2
namespace L2
open PySem PySem.Spec PyProof.Rows
def clOf(env:Env)(fr:List (Str×Nat)):List (Str×Addr):=fr.map fun p=>(p.1,(env.cells.lookup p.1).getD 0)
def frOf(fr:List (Str×Nat))(σ:St):St:=fr.map fun p=>(σ[p.2]?).join
def c7(X:Cx)(scope:Scope)(fr:List (Str×Nat))(x:Str)(C:Addr)(ex:List Addr)(s:Shared)(H:Hp):Cx where
 prog:=X.prog
 w:=X.w
 K:=X.K
 mg:=X.mg
 base:=X.base
 A:=X.A
 N:=x::fr.map (·.1)
 s₀:=s
 H₀:=H
 env:=compEnvC scope (clOf X.env fr) C X.env
 outer:=X.stack
 stack:=X.stack
 ex:=ex
 fn:=fun _=>false
 calm:=X.calm
 pn:=[]
 xe:=fun _ _=>False
structure cQ(X:Cx)(scope:Scope)(fr:List (Str×Nat))(x:Str):Prop where
 clos:closureFor scope X.env=pure (clOf X.env fr)
 cell:∀ y∈scope.names,y.2≠.cell
 kind:scope.kind=.function
 names:∀ y∈scope.names,y.2=.local->scope.names.lookup y.1=some .local
 xl:scope.names.lookup x=some .local
 nd:(x::fr.map (·.1)).Nodup
 slot:∀ p∈fr,X.N[p.2]?=some p.1/\X.env.kindOf p.1=some .cell
 has:∀ y∈(relabel scope X.env).names,(y.2=.cell∨y.2=.free)->y.1∈fr.map (·.1)
 frk:∀ p∈fr,(relabel scope X.env).names.lookup p.1=some .cell
theorem cQ.plain{X:Cx}{scope:Scope}{x:Str}(clos:closureFor scope X.env=pure [])(cell:∀ y∈scope.names,y.2≠.cell)(kind:scope.kind=.function)(names:∀ y∈scope.names,y.2=.local->scope.names.lookup y.1=some .local)
  (hx:scope.names.lookup x=some .local) (nf:∀ y∈scope.names,y.2≠.free):cQ X scope [] x where
 clos:=clos
 cell:=cell
 kind:=kind
 names:=names
 xl:=hx
 nd:=by simp
 slot:=fun p hp=>nomatch hp
 has:=fun y hy hk=>by
  obtain⟨⟨n,k⟩,hz,e⟩:=Dc.mp (show y∈scope.names.map _ from hy)
  have h1:=nf _ hz
  have h2:=cell _ hz
  dsimp only at e h1 h2
  have hf:(k == NameKind.free)=false:=by simpa using h1
  rw[hf]at e
  simp only[DV,Em,if_false]at e
  subst e
  exact(hk.elim h2 h1).elim
 frk:=fun p hp=>nomatch hp
theorem cQ.one{X:Cx}{scope:Scope}{x y:Str}{j:Nat}(clos:closureFor scope X.env=pure (clOf X.env [(y,j)]))(cell:∀ y∈scope.names,y.2≠.cell)(kind:scope.kind=.function)(names:∀ y∈scope.names,y.2=.local->scope.names.lookup y.1=some .local)
  (hx:scope.names.lookup x=some .local) (nd:([x,y]:List Str).Nodup) (hN:X.N[j]?=some y) (hk:X.env.kindOf y=some .cell) (nf:∀ z∈scope.names,z.2=.free->z.1=y) (hr:(relabel scope X.env).names.lookup y=some .cell):cQ X scope [(y,j)] x where
 clos:=clos
 cell:=cell
 kind:=kind
 names:=names
 xl:=hx
 nd:=nd
 slot:=fun p hp=>by
  have e:p=(y,j):=by simpa using hp
  subst e
  exact⟨hN,hk⟩
 has:=fun z hz hk=>by
  obtain⟨⟨n,k⟩,hm,e⟩:=Dc.mp (show z∈scope.names.map _ from hz)
  have h2:=cell _ hm
  dsimp only at e h2
  have hn:z.1=n:=by rw[← e];split<;>rfl
  have hf:k=.free:=by
   by_cases q:k=.free
   ·exact q
   ·have hb:(k == NameKind.free)=false:=by simpa using q
    rw[hb]at e
    simp only[DV,Em,if_false]at e
    subst e
    exact(hk.elim h2 q).elim
  have:=nf _ hm hf
  rw[hn]
  simp[← this]
 frk:=fun p hp=>by
  have e:p=(y,j):=by simpa using hp
  subst e
  exact hr
theorem eE{env:Env}:∀{fr:List (Str×Nat)}{y:Str}{c:Addr},(clOf env fr).lookup y=some c->y∈fr.map (·.1)/\c=(env.cells.lookup y).getD 0
 |[],_,_,h=>by cases h
 |p::r,y,c,h=>by
  unfold clOf at h
  rw[C0,List.lookup_cons]at h
  cases e:y == p.1 with
  |true =>
   rw[e]at h
   have ey:y=p.1:=eq_of_beq e
   cases h
   exact⟨by rw[ey];exact CG,by rw[ey]⟩
  |false =>
   rw[e]at h
   obtain⟨a,b⟩:=eE (env:=env) (fr:=r) h
   exact⟨CN _ a,b⟩
theorem bB{env:Env}:∀{fr:List (Str×Nat)}{y:Str},y∈fr.map (·.1)->(clOf env fr).lookup y=some ((env.cells.lookup y).getD 0)
 |[],_,h=>by cases h
 |p::r,y,h=>by
  unfold clOf
  rw[C0,List.lookup_cons]
  cases e:y == p.1 with
  |true =>
   have ey:y=p.1:=eq_of_beq e
   rw[ey]
  |false =>
   have ny:y≠p.1:=fun z=>by rw[z]at e;simp at e
   rcases Co.mp h with z | z
   ·exact absurd z ny
   ·exact bB (env:=env) (fr:=r) z
section
variable{X:Cx}{pins:List (Addr×Obj)}{σ:St}{H:Hp}{s:Shared}{scope:Scope}{fr:List (Str×Nat)}{x:Str}
theorem cQ.cells(O:cQ X scope fr x)(I:Inv X pins σ H s){y:Str}{c:Addr}(h:(clOf X.env fr).lookup y=some c):X.env.cells.lookup y=some c:=by
 obtain⟨hm,e⟩:=eE h
 obtain⟨p,hp,ep⟩:=Dc.mp hm
 have k:=(O.slot p hp).2
 rw[ep]at k
 obtain⟨c',e'⟩:=I.ok.has y (.inl k)
 rw[e']at e
 rw[e',e]
 rfl
theorem Am{fp:List Addr}(O:cQ X scope fr x)(I:Inv X pins σ H s)(hf:∀ b∈fp,FpOk X pins H b)(hfs:∀ b∈fp,b<s.heap.objs.size){g h':Heap}{tk:Nat}(hg:g=s.heap.push (LCg.lst []))
  (hk:∀ b o,g.get? b=some o->h'.get? b=some o) (hC:h'.Ns g.objs.size fun _=>none) :
  Inv (c7 X scope fr x g.objs.size (s.heap.objs.size::fp) { s with heap:=g } H) (X.pn++pins++[(s.heap.objs.size,LCg.lst [])]) (none::frOf fr σ) H { s with heap:=h',toks:=tk }:=by
 have hsz:g.objs.size=s.heap.objs.size+1:=by rw[hg,Heap.size_push]
 have kp:∀ b o,s.heap.get? b=some o->g.get? b=some o:=fun b o e=>by rw[hg];exact Heap.get?_push_of_some _ e
 have hk0:∀ b o,s.heap.get? b=some o->h'.get? b=some o:=fun b o e=>hk b o (kp b o e)
 have hDo:h'.get? s.heap.objs.size=some (LCg.lst []):=hk _ _ (by rw[hg];exact Heap.get?_push_size _ rfl)
 have neC:∀ b,b<s.heap.objs.size->b≠g.objs.size:=fun b e=>by rw[hsz];exact CJ (DY e)
 have hDC:s.heap.objs.size≠g.objs.size:=by rw[hsz];exact CJ (DF _)
 have hfr:H g.objs.size=none:=I.hok.fresh (by rw[hsz];exact DG _)
 have hfD:H s.heap.objs.size=none:=I.hok.fresh (Cg _)
 have cne:∀ y c,X.env.cells.lookup y=some c->c<s.heap.objs.size:=fun y c e=>by
  obtain⟨v,q⟩:=I.cell y c e
  exact q.lt
 have nst:∀ b,b≠X.env.locals->b∉X.fs->b∉frs X.stack:=fun b h1 h2 z=>(Co.mp (I.stkSub b z)).elim h1 h2
 have nstD:s.heap.objs.size∉frs X.stack:=nst _ (DN I.lt) (I.nofs (Cg _))
 refine⟨⟨I.ok.mod,O.kind,I.ok.glob,I.ok.blt,Cg _,?_,?_,fun _ _ z _=>(by cases z),I.ok.hd,I.ok.frames,.inl rfl,?_,?_,?_,?_,?_,?_,I.stkFree⟩,rfl,I.bare,Un.kept hk,?_,?_,hfr,?_,?_,I.hok.kept hk0,?_⟩
 ·intro y z c h1 h2
  exact I.ok.inj y z c (O.cells I h1) (O.cells I h2)
 ·intro y hy
  have hm:y∈fr.map (·.1):=by
   rcases hy with hy | hy
   ·exact O.has (y,_) (C9 hy) (.inl rfl)
   ·exact O.has (y,_) (C9 hy) (.inr rfl)
  exact⟨_,bB hm⟩
 ·intro b hb
  rcases Co.mp hb with rfl | hb
  ·exact⟨hDC,fun y c e=>CJ (cne y c (O.cells I e))⟩
  ·exact⟨neC b (hfs b hb),fun y c e=>(hf b hb).2.2.2.2.1 y c (O.cells I e)⟩
 ·intro b o e
  exact⟨kp b o (I.bs b o e).1,(I.bs b o e).2⟩
 ·show X.base.objs.size<=g.objs.size
  rw[hsz]
  exact Nat.le_succ_of_le (C6 I.ok.bsz I.sz)
 ·intro b o e hb
  rcases Co.mp hb with z | hb
  ·have:=Heap.lt_size (I.bs b o e).1
   rw[z]at this
   exact C4 _ this
  ·rcases(hf b hb).2.2.2.1 with z | z
   ·exact I.ok.noex b o e z
   ·exact absurd (CI (Heap.lt_size (I.ok.bs b o e).1) z) (C4 _)
 ·intro b hb
  rcases Co.mp hb with z | hb
  ·rw[z];exact nstD
  ·exact nst b (hf b hb).2.1 (hf b hb).2.2.1
 ·exact(I.kept (h':=g) (t':=s.toks) kp).stack
 ·refine⟨_,hC,fun i y v e1 e2 e3=>?_⟩
  cases i with
  |zero=>cases e2
  |succ k =>
   have e1':(fr.map (·.1))[k]?=some y:=e1
   have e2':(frOf fr σ)[k]?=some (some v):=e2
   unfold frOf at e2'
   rw[CH]at e1' e2'
   cases q:fr[k]? with
   |none=>rw[q]at e1';cases e1'
   |some p =>
    rw[q]at e1' e2'
    have ey:p.1=y:=Cz e1'
    have ev:(σ[p.2]?).join=some v:=Cz e2'
    have hp:p∈fr:=Ce q
    obtain⟨hN,hK⟩:=O.slot p hp
    have hkk:=O.frk p hp
    rw[ey]at hN hK hkk
    have ev':σ[p.2]?=some (some v):=by
     cases q2:σ[p.2]? with
     |none=>rw[q2]at ev;cases ev
     |some w=>rw[q2]at ev;exact congrArg some ev
    obtain⟨m,hn,hl⟩:=I.loc
    obtain⟨u,r,l⟩:=hl p.2 y v hN ev' (.inr (.inl hK))
    refine⟨u,r,?_⟩
    rcases l with⟨k1,_⟩ | ⟨_,c,ec,z⟩
    ·rw[hK]at k1;cases k1
    ·have hm:y∈fr.map (·.1):=by rw[← ey];exact Dc.mpr ⟨p,hp,rfl⟩
     have el:=bB (env:=X.env) hm
     rw[ec]at el
     exact .inr ⟨.inl hkk,c,el,by obtain⟨o,ho,hd⟩:=z;exact⟨o,hk0 _ _ ho,hd⟩⟩
 ·intro y c e
  obtain⟨v,o,ho,hd⟩:=I.cell y c (O.cells I e)
  exact⟨v,o,hk0 _ _ ho,hd⟩
 ·intro y c e
  exact I.freeC y c (O.cells I e)
 ·intro p hp
  rcases CA.mp hp with hp | hp
  ·cases hp
  ·rcases CA.mp hp with hp | hp
   ·obtain⟨e,n,ne,nf,d⟩:=I.pin p hp
    exact⟨hk0 _ _ e,n,neC _ (Heap.lt_size e),nst _ ne nf,d⟩
   ·have ep:p=(s.heap.objs.size,LCg.lst []):=by simpa using hp
    subst ep
    exact⟨hDo,hfD,hDC,nstD,fun v z=>by cases z⟩
 ·show(none::frOf fr σ).length=(x::fr.map (·.1)).length
  unfold frOf
  simp
theorem tH{fp:List Addr}{g:Heap}{s':Shared}{H':Hp}{σ':St}{ys:List V}{us:List Value}(I:Inv X pins σ H s)(hf:∀ b∈fp,FpOk X pins H b)(hg:g=s.heap.push (LCg.lst []))
  (J:Inv (c7 X scope fr x g.objs.size (s.heap.objs.size::fp) { s with heap:=g } H) (X.pn++pins++[(s.heap.objs.size,LCg.lst us)]) σ' H' s') (hv:Vals ys us) (hl:ys.length<=sizeLine) :
  Inv X pins σ (upd H' s.heap.objs.size (.lst ys)) s'/\H' s.heap.objs.size=none/\FpOk X pins (upd H' s.heap.objs.size (.lst ys)) g.objs.size/\∃ m,s'.heap.Ns g.objs.size m:=by
 have hsz:g.objs.size=s.heap.objs.size+1:=by rw[hg,Heap.size_push]
 have kp:∀ b o,s.heap.get? b=some o->g.get? b=some o:=fun b o e=>by rw[hg];exact Heap.get?_push_of_some _ e
 obtain⟨eD,nD,_,_,_⟩:=J.pin (s.heap.objs.size,LCg.lst us) (by simp)
 have hDC:g.objs.size≠s.heap.objs.size:=by rw[hsz];exact DN (DF _)
 have nD':∀ b u,H' b=some u->b≠s.heap.objs.size:=fun b u e z=>by rw[z]at e;rw[e]at nD;cases nD
 have hx:∀ b o,s.heap.get? b=some o->b∉fp->b∉s.heap.objs.size::fp:=fun b o e hb z=>by
  rcases Co.mp z with z | z
  ·have:=Heap.lt_size e
   rw[z]at this
   exact C4 _ this
  ·exact hb z
 have bU:Un (frs X.stack) (s.heap.objs.size::fp) H H' g s'.heap:=J.base
 have ltD:∀ b o,s.heap.get? b=some o->b≠s.heap.objs.size:=fun b o e=>CJ (Heap.lt_size e)
 have un:Un (frs X.stack) fp H (upd H' s.heap.objs.size (.lst ys)) s.heap s'.heap:=by
  refine⟨fun b o e n hb he=>bU.keep b o (kp b o e) n hb (hx b o e he),fun b o e n hb he=>bU.slot b o (kp b o e) n hb (hx b o e he),fun b o e n he=>?_,fun b o e he=>bU.there b o (kp b o e) (hx b o e he),fun b xs e=>?_,fun b o u e=>?_,fun b ps e=>?_⟩
  ·rw[ao (ltD b o e)];exact bU.free b o (kp b o e) n (hx b o e he)
  ·have q:=bU.tups b xs e
   rw[ao (nD' b _ q)];exact q
  ·have q:=bU.frzs b o u e
   rw[ao (nD' b _ q)];exact q
  ·obtain⟨more,q⟩:=bU.tbls b ps e
   exact⟨more,by rw[ao (nD' b _ q)];exact q⟩
 have hok:HOk X.prog X.w (upd H' s.heap.objs.size (.lst ys)) s'.heap:=fun b u e=>by
  by_cases hb:b=s.heap.objs.size
  ·rw[hb,ae]at e
   cases e
   rw[hb]
   exact⟨hl,us,us.length,hv,eD⟩
  ·rw[ao hb]at e
   exact(J.hok b u e).stay (fun c v _ q=>q) (fun c q=>by rw[ao (nD' c _ q)];exact q) fun c xs q=>by rw[ao (nD' c _ q)];exact q
 have os:s'.os=s.os:=J.os
 refine⟨I.call' os un hok J.bare fun b hb=>⟨(hf b hb).2.2.2.1,(hf b hb).2.1,(hf b hb).2.2.2.2⟩,nD,?_,?_⟩
 ·refine I.fpOk (H':=upd H' s.heap.objs.size (.lst ys)) (b:=g.objs.size) (by rw[hsz];exact DG _) ?_
  rw[ao hDC]
  exact J.free
 ·obtain⟨m,hn,_⟩:=J.loc
  exact⟨m,hn⟩
end
def su(te:TE)(fv:St)(J:It)(H1:Hp)(QQ:List V->Hp->Prop):Prop :=
 ∃ W:Nat->Nat->List V->Hp->Prop,(∃ m,W 0 m [] H1)/\∀ i m ys H,W i m ys H->ys.length<=sizeLine /\
  ((J.stop i H/\QQ ys H)∨(J.go i H/\∃ N:V->Hp->Prop,(∀ y H2,N y H2->∃ m',m'<m/\W (i+1) m' (ys++[y]) H2)/\∀ x H',J.yld i H x H'->te (some x::fv) H' N))
section
variable{X:Cx}{scope:Scope}{fr:List (Str×Nat)}{x:Str}{elt iter:Expr}{px pos:Pos}{te:TE}{wi:TI}
theorem tQ{pins:List (Addr×Obj)}{σ:St}{H:Hp}{s:Shared}{E:Value->Shared->Prop}{it:Addr}{fp:List Addr}{tn:Nat->Heap->Prop}{J:It}{RR:Value->Addr->Result->Shared->Prop}{QQ:List V->Hp->Prop}(hc:X.calm=true)(O:cQ X scope fr x)
  (he:∀ C ex s H,PE (c7 X scope fr x C ex s H) elt te) (I:Inv X pins σ H s) (T:Turn X.prog X.w X.K (.Name x px) J fp it tn) (st:tn 0 s.heap) (hf:∀ b∈fp,FpOk X pins H b) (hq:su te (frOf fr σ) J H QQ)
  (fin:∀ D C H4 ys s4 m,Inv X pins σ (upd H4 D (.lst ys)) s4->H4 D=none->FpOk X pins (upd H4 D (.lst ys)) C->s4.heap.Ns C m->QQ ys H4->RR (.ref D) C (.ok .next) s4) :
  wpAny (model X.prog X.w) X.A (newList []) (fun acc s₃=>wpAny (model X.prog X.w) X.A (newFunctionEnv scope X.env.globals (clOf X.env fr) [] X.env.qual none .none (some X.env)) (fun cenv s₄ =>
   codeAny (model X.prog X.w) X.A (.compStart (.ListComp elt [⟨.Name x px,iter,[],0⟩] scope pos) 0 (.ref it) acc { cenv with scope:=relabel scope X.env }) (RR acc cenv.locals) s₄) E s₃) E s:=by
 obtain⟨W,⟨m0,w0⟩,turn⟩:=hq
 have hfs:∀ b∈fp,b<s.heap.objs.size:=fun b hb=>by
  obtain⟨o,e,_⟩:=T.obj 0 s.heap st b hb
  exact Heap.lt_size e
 refine wpAny_newObj_type (wpAny_newFunctionEnv O.cell (by intro y hy;simp at hy) (fun h₁ hns₁ hsb₁=>?_) O.kind)
 dsimp only at hns₁ hsb₁ ⊢
 generalize hH2:s.heap.push { cls:=.type "list",dict:=none,data:=.seq ([]:List Value).toArray }=g at hns₁ hsb₁ ⊢
 have hg:g=s.heap.push (LCg.lst []):=hH2.symm
 have hsz:g.objs.size=s.heap.objs.size+1:=by rw[hg,Heap.size_push]
 have hk:∀ b o,g.get? b=some o->h₁.get? b=some o:=fun b o e=>hsb₁.extBut b o (CJ (Heap.lt_size e)) (Heap.get?_push_of_some _ e)
 have kp:∀ b o,s.heap.get? b=some o->h₁.get? b=some o:=fun b o e=>hk b o (by rw[hg];exact Heap.get?_push_of_some _ e)
 have J0:=Am (h':=h₁) (tk:=s.toks+([]:List (Str×Value)).length) O I hf hfs hg hk hns₁
 have stat:∀{H':Hp}{us:List Value},(∀ b∈fp,H' b=none)->∀ b∈fp,FpOk (c7 X scope fr x g.objs.size (s.heap.objs.size::fp) { s with heap:=g } H) (X.pn++pins++[(s.heap.objs.size,LCg.lst us)]) H' b:=fun{H' us} hn b hb=>by
  obtain⟨_,f1,f2,f3,f4,f5⟩:=hf b hb
  refine⟨hn b hb,?_,fun z=>(Co.mp (I.stkSub b z)).elim f1 f2,.inl (CN _ hb),fun y c e=>f4 y c (O.cells I e),fun p hp=>?_⟩
  ·show b≠g.objs.size
   rw[hsz];exact CJ (DY (hfs b hb))
  ·rcases CA.mp hp with hp | hp
   ·cases hp
   ·rcases CA.mp hp with hp | hp
    ·exact f5 p hp
    ·have ep:p=(s.heap.objs.size,LCg.lst us):=by simpa using hp
     rw[ep]
     exact DN (hfs b hb)
 have loop:codeAny (model X.prog X.w) X.A (.compLoop (.ListComp elt [⟨.Name x px,iter,[],0⟩] scope pos) 0 (.ref it) (.ref s.heap.objs.size) (compEnvC scope (clOf X.env fr) g.objs.size X.env))
   (RR (.ref s.heap.objs.size) g.objs.size) { s with heap:=h₁,toks:=s.toks+([]:List (Str×Value)).length }:=by
  refine codeAny_compLoop_tests (fun n s'=>∃ i ys us H',Inv (c7 X scope fr x g.objs.size (s.heap.objs.size::fp) { s with heap:=g } H) (X.pn++pins++[(s.heap.objs.size,LCg.lst us)]) (none::frOf fr σ) H' s'/\Vals ys us/\tn i s'.heap/\(∀ b∈fp,H' b=none)/\W i n ys H') ?_ m0
   ⟨0,[],[],H,J0,.nil,T.keep 0 s.heap h₁ st fun b _ o e=>kp b o e,fun b hb=>(hf b hb).1,w0⟩
  rintro n s3 ⟨i,ys,us,H3,J3,hv,st3,fr3,w3⟩
  obtain⟨hlen,hh⟩:=turn i n ys H3 w3
  have none_err:∀{α:Type}{t:Sem α}{Q:α->Shared->Prop}{E':Value->Shared->Prop}{s:Shared},wpAny (model X.prog X.w) X.A t Q (fun _ _=>False) s->wpAny (model X.prog X.w) X.A t Q E' s:=fun h=>wpAny_mono h (fun _ _ q=>q) fun _ _ z=>z.elim
  rcases hh with⟨stop,qn⟩ | ⟨go,N,hN,step⟩
  ·refine none_err (thn (T.done (c7 X scope fr x g.objs.size (s.heap.objs.size::fp) { s with heap:=g } H) rfl rfl rfl hc i _ s3 _ H3 _ J3 (stat fr3) st3 stop) fun r s4 ⟨hr,J4⟩=>?_)
   subst hr
   obtain⟨I4,nD,fC,m,hn⟩:=tH I hf hg J4 hv hlen
   exact fin _ _ H3 ys s4 m I4 nD fC hn qn
  ·refine none_err (thn (T.item (c7 X scope fr x g.objs.size (s.heap.objs.size::fp) { s with heap:=g } H) rfl rfl rfl hc i _ s3 _ H3 _ J3 (stat fr3) st3 go) fun r s4 ⟨u,hr,h4⟩=>?_)
   subst hr
   have h4':=wpAny_bind (f:=fun _=>assign (.Name x px) (compEnvC scope (clOf X.env fr) g.objs.size X.env) u) (thn h4 (Q':=fun _ s5=>wpAny (model X.prog X.w) X.A (assign (.Name x px) (compEnvC scope (clOf X.env fr) g.objs.size X.env) u) (fun _ s6=>∃(σ6:St)(H6:Hp)(v:V)(s5':Shared)(H5:Hp),Inv (c7 X scope fr x g.objs.size (s.heap.objs.size::fp) { s with heap:=g } H) (X.pn++pins++[(s.heap.objs.size,LCg.lst us)]++sO fp s5'.heap) σ6 H6 s6/\σ6=some v::frOf fr σ/\H6=H5/\J.yld i H3 v H5/\tn (i+1) s5'.heap) (fun _ _=>False) s5) fun _ s5 ⟨v,H5,J5,r5,y5,st5,fr5⟩=>by
    have J5':=J5.pinned (stat fr5) (T.obj _ _ st5)
    have hNd:(c7 X scope fr x g.objs.size (s.heap.objs.size::fp) { s with heap:=g } H).N.Nodup:=O.nd
    have hxl:(c7 X scope fr x g.objs.size (s.heap.objs.size::fp) { s with heap:=g } H).env.scope.names.lookup x=some .local:=lookup_relabel_local O.xl
    exact thn (aG (X:=c7 X scope fr x g.objs.size (s.heap.objs.size::fp) { s with heap:=g } H) (i:=0) hNd rfl (.inl hxl) (.inr hxl) _ s5 _ H5 v u (fun σ6 H6=>σ6=some v::frOf fr σ/\H6=H5) J5' r5 ⟨rfl,rfl⟩) fun _ s6 ⟨σ6,H6,J6,e6,e7⟩=>⟨σ6,H6,v,s5,H5,J6,e6,e7,y5,st5⟩)
   refine none_err (thn h4' fun _ s6 ⟨σ6,H6,v,s5,H5,J6,e6,e7,y5,st5⟩=>?_)
   subst e6 e7
   refine wpAny_tests_nil ?_
   rw[if_pos rfl]
   refine none_err (thn (he _ _ _ _ _ s6 _ H6 _ J6 (step v H6 y5)) fun u7 s7 ⟨v7,H7,J7,r7,q7⟩=>?_)
   obtain⟨m',hm,w7⟩:=hN v7 H7 q7
   obtain⟨eD,nD,dC,dF,dd⟩:=J7.pin (s.heap.objs.size,LCg.lst us) (Cm _ (C1 _ (Cm _ (by simp))))
   have hvl:=hv.length
   refine append_at (hsz:=by show us.toArray.size<=sizeLine;rw[Cy,← hvl];exact hlen) eD fun h8 hs8 hD8=>?_
   have pinD:∀ p∈X.pn++pins,p.1≠s.heap.objs.size:=fun p hp z=>by
    have:=Heap.lt_size (I.pin p hp).1
    rw[z]at this
    exact C4 _ this
   have J7a:Inv (c7 X scope fr x g.objs.size (s.heap.objs.size::fp) { s with heap:=g } H) (X.pn++pins) _ H7 s7:=J7.pins_of fun p hp=>J7.pin p (Cm _ (C1 _ (C1 _ hp)))
   have J8:Inv (c7 X scope fr x g.objs.size (s.heap.objs.size::fp) { s with heap:=g } H) (X.pn++pins) _ H7 { s7 with heap:=h8 }:=J7a.turned (t':=s7.toks) (fun b o hb e=>(hs8.2 b hb).trans e) nD dC (.inl CG) (fun y c e z=>by
    obtain⟨w',q⟩:=I.cell y c (O.cells I e)
    have:=q.lt
    rw[z]at this
    exact C4 _ this) (fun p hp=>(CA.mp hp).elim (fun z=>by cases z) (pinD p))
   have J9:Inv (c7 X scope fr x g.objs.size (s.heap.objs.size::fp) { s with heap:=g } H) (X.pn++pins++[(s.heap.objs.size,LCg.lst (us++[u7]))]) _ H7 { s7 with heap:=h8 }:=J8.pins_of fun p hp=>by
    rcases CA.mp hp with hp | hp
    ·exact J8.pin p (Cm _ hp)
    ·have ep:p=(s.heap.objs.size,LCg.lst (us++[u7])):=by simpa using hp
     subst ep
     exact⟨hD8.trans (congrArg some (LCg.lst_snoc us u7)),nD,dC,dF,fun v z=>by cases z⟩
   have J10:=J9.weak (σ':=none::frOf fr σ) rfl fun i v e=>by
    cases i with
    |zero=>cases e
    |succ k=>exact e
   have pinF:∀ b∈fp,∀ o,s5.heap.get? b=some o->s7.heap.get? b=some o/\H7 b=none:=fun b hb o e=>by
    obtain⟨q1,q2,_⟩:=J7.pin (b,o) (Cm _ (Cm _ (eZ hb e)))
    exact⟨q1,q2⟩
   refine⟨m',hm,i+1,ys++[v7],us++[u7],H7,J10,hv.append (.cons r7 .nil),T.keep _ _ _ st5 fun b hb o e=>(hs8.2 b (CJ (hfs b hb))).trans (pinF b hb o e).1,fun b hb=>?_,w7⟩
   obtain⟨o,e,_⟩:=T.obj _ _ st5 b hb
   exact(pinF b hb o e).2
 exact codeAny_compStart_list loop (T.self X.A 0 _ _ _ (T.keep 0 s.heap h₁ st fun b _ o e=>kp b o e) loop)
def tComp(wi:TI)(te:TE)(fr:List (Str×Nat)):TE:=fun σ H Q=>wi σ H fun J H1=>su te (frOf fr σ) J H1 fun ys H2=>∀ D,H2 D=none->Q (.ref D) (upd H2 D (.lst ys))
theorem qJ(hc:X.calm=true)(O:cQ X scope fr x)(hi:PI X (.Name x px) iter wi)(he:∀ C ex s H,PE (c7 X scope fr x C ex s H) elt te)(hs:∀ x,foldedSetIterable iter X.env x=pure x:=by intro _;rfl) :
  PE X (.ListComp elt [⟨.Name x px,iter,[],0⟩] scope pos) (tComp wi te fr):=by
 intro pins s σ H Q I h
 rw[eval_ListComp]
 refine wpAny_comprehension_free (use:=none) rfl hs O.clos O.kind O.names (thn (hi pins s σ H _ I h) fun xv s1 h1=>thn h1 fun itv s2 h2=>?_)
 obtain⟨it,fp,tn,J,H2,e,I2,T,st2,f2,q2⟩:=h2
 subst e
 refine tQ (RR:=fun acc C=>compPost (model X.prog X.w) X.A X.xe none (EP X pins σ Q) acc C) hc O he I2 T st2 f2 q2 ?_
 intro D C H4 ys s4 m I4 nD fC hn q4
 refine⟨m,hn,fun h' hs'=>?_⟩
 obtain⟨g0,g1,g2,g3,g4,g5⟩:=fC
 exact⟨.ref D,_,I4.turned (t':=s4.toks) (fun b o hb e=>(hs'.2 b hb).trans e) g0 g1 g3 g4 g5,rfl,q4 D nD⟩
def zL(i:Nat)(wi:TI)(te:TE)(fr:List (Str×Nat)):TS:=fun D σ H=>wi σ H fun J H1=>su te (frOf fr σ) J H1 fun ys H2=>∀ a,H2 a=none->D.nx (σ.set i (some (.ref a))) (upd H2 a (.lst ys))
theorem jV{i:Nat}{y:Str}{py spos:Pos}(hc:X.calm=true)(hN:X.N.Nodup)(hi':X.N[i]?=some y)(hy:X.env.scope.names.lookup y=some .local)(O:cQ X scope fr x)(hi:PI X (.Name x px) iter wi)(he:∀ C ex s H,PE (c7 X scope fr x C ex s H) elt te)
  (hsw:swapsWith (.ListComp elt [⟨.Name x px,iter,[],0⟩] scope pos) (some (.Name y py)) spos.line X.env=pure true:=by rfl) (hs:∀ x,foldedSetIterable iter X.env x=pure x:=by intro _;rfl) :
  PS X (.Assign [.Name y py] (.ListComp elt [⟨.Name x px,iter,[],0⟩] scope pos) spos) (zL i wi te fr):=by
 intro pins s σ H D I h
 rw[exec_Assign_Name_used _ _ _ _ hsw]
 refine wpAny_bind (wpAny_standAt (wpAny_bind ?_))
 show wpAny _ X.A (do let _ ← comprehension (.ListComp elt [⟨.Name x px,iter,[],0⟩] scope pos) scope X.env _ (newList []) false (eval iter X.env) (some (assign (.Name y py) X.env))) _ _ s
 refine wpAny_bind (thn (wpAny_comprehension_free (use:=some (assign (.Name y py) X.env)) (Q:=fun _ s'=>SP X pins D .next s') rfl hs O.clos O.kind O.names (thn (hi pins s σ H _ I h) fun xv s1 h1=>thn h1 fun itv s2 h2=>?_)) fun _ s' hq=>wpAny_pure (wpAny_pure hq))
 obtain⟨it,fp,tn,J,H2,e,I2,T,st2,f2,q2⟩:=h2
 subst e
 refine tQ (RR:=fun acc C=>compPost (model X.prog X.w) X.A X.xe (some (assign (.Name y py) X.env)) (fun _ s'=>SP X pins D .next s') acc C) hc O he I2 T st2 f2 q2 ?_
 intro a C H4 ys s4 m I4 nD fC hn q4
 obtain⟨g0,g1,g2,g3,g4,g5⟩:=fC
 obtain⟨oC,eC,hoC⟩:=LCg.ns_obj hn
 have I5:Inv X (pins++[(C,oC)]) σ (upd H4 a (.lst ys)) s4:=I4.pins_of fun p hp=>by
  rcases CA.mp hp with hp | hp
  ·exact I4.pin p (Cm _ hp)
  ·have ep:p=(C,oC):=by simpa using hp
   subst ep
   obtain⟨es,epp,hd,_⟩:=hoC
   exact⟨eC,g0,g1,g2,fun v z=>by rw[hd]at z;cases z⟩
 show wpAny _ X.A (assign (.Name y py) X.env (.ref a)) _ _ _
 refine wpAny_assign_Name (jl I5 hN hi' (.inl hy) (v:=.ref a) rfl (fun s6 I6=>?_) (.inr hy))
 obtain⟨e6,_⟩:=I6.pin (C,oC) (Cm _ (Cm _ (by simp)))
 refine⟨m,hoC.ns e6,fun h' hs'=>?_⟩
 exact⟨_,_,I6.unpinned.turned (t':=s6.toks) (fun b o hb e=>(hs'.2 b hb).trans e) g0 g1 g3 g4 g5,q4 a nD⟩
end
theorem gU{K:B9}{a:Addr}{xs:List V}{te:TE}{fv:St}{H1:Hp}{QQ:List V->Hp->Prop}(Pv:Nat->List V->Hp->Prop)(hz:xs.length<=sizeLine)(h0:Pv 0 [] H1)(hl:∀ i ys H,i<=xs.length->Pv i ys H->SqL K H a xs)
  (hs:∀ i x ys H,xs[i]?=some x->Pv i ys H->te (some x::fv) H fun y H2=>Pv (i+1) (ys++[y]) H2) (hd:∀ ys H,ys.length=xs.length->Pv xs.length ys H->QQ ys H)
  : su te fv (Itl K a) H1 QQ:=by
 refine⟨fun i m ys H=>m=xs.length-i/\i<=xs.length/\ys.length=i/\Pv i ys H,⟨xs.length,by simp,Dm _,rfl,h0⟩,?_⟩
 rintro i m ys H ⟨rfl,hi,hy,p⟩
 have q:=hl i ys H hi p
 refine⟨by omega,?_⟩
 by_cases hlt:i<xs.length
 ·refine .inr ⟨⟨xs,xs[i],q,by simp[hlt]⟩,fun y H2=>Pv (i+1) (ys++[y]) H2,fun y H2 p2=>⟨xs.length-(i+1),by omega,rfl,hlt,by rw[Cb,hy];rfl,p2⟩,fun x H' y=>?_⟩
  obtain⟨e,y⟩:=y
  subst e
  exact hs i x ys _ (y xs q) p
 ·have e:i=xs.length:=by omega
  subst e
  exact .inl ⟨⟨xs,q,Cg _⟩,hd ys H hy p⟩
theorem pR{lo:Int}{n:Nat}{te:TE}{fv:St}{H1:Hp}{QQ:List V->Hp->Prop}(Pv:Nat->List V->Hp->Prop)(hz:n<=sizeLine)(h0:Pv 0 [] H1)
  (hs:∀ i ys H,i<n->Pv i ys H->te (some (.int (lo+i))::fv) H fun y H2=>Pv (i+1) (ys++[y]) H2) (hd:∀ ys H,ys.length=n->Pv n ys H->QQ ys H)
  : su te fv (Itr lo n) H1 QQ:=by
 refine⟨fun i m ys H=>m=n-i/\i<=n/\ys.length=i/\Pv i ys H,⟨n,by simp,Dm _,rfl,h0⟩,?_⟩
 rintro i m ys H ⟨rfl,hi,hy,p⟩
 refine⟨by omega,?_⟩
 by_cases hlt:i<n
 ·refine .inr ⟨hlt,fun y H2=>Pv (i+1) (ys++[y]) H2,fun y H2 p2=>⟨n-(i+1),by omega,rfl,hlt,by rw[Cb,hy];rfl,p2⟩,fun x H' y=>?_⟩
  obtain⟨e,y⟩:=y
  subst e y
  exact hs i ys _ hlt p
 ·have e:i=n:=by omega
  subst e
  exact .inl ⟨Cg _,hd ys H hy p⟩
end L2
namespace L2
open PySem PySem.Spec PyProof.Rows
theorem bt_int:bootBuiltins "int" = some (.type "int"):=by decide +kernel
theorem B4:bootBuiltins "bool" = some (.type "bool"):=by decide +kernel
theorem hJ:bootBuiltins "list" = some (.type "list"):=by decide +kernel
theorem bQ:bootBuiltins "len" = some (.builtin "len"):=by decide +kernel
theorem aM:bootBuiltins "isinstance" = some (.builtin "isinstance"):=by decide +kernel
theorem zA:bootBuiltins "sorted" = some (.builtin "sorted"):=by decide +kernel
theorem tU:bootBuiltins "enumerate" = some (.type "enumerate"):=by decide +kernel
structure Cal(P:Program)(w:World)(K:B9)(mg:Str->Option Value)(base:Heap)(k:Nat)(x:Str)(ps:List Str)(sp:Sp)(f:Addr)(fd:FuncData):Prop where
 ok:FnOk P w K mg base CX0 k f fd ps sp
 bn:lb K fd ps []
 mg:mg x=some (.ref f)
 kp:Cn K (.ref f)=true
structure Mak(P:Program)(w:World)(K:B9)(mg:Str->Option Value)(base:Heap)(k:Nat)(x:Str)(ps:List Str)(sp:Sp)(C f:Addr)(fd:FuncData):Prop where
 mkc:Mk K C f
 ok:FnOk P w K mg base CX0 k f fd ps sp
 bn:lb K fd ps []
 mg:mg x=some (.ref C)
theorem eA{X:Cx}{sts:List Stmt}{t t2:TS}(h:PSs X sts t)(i:∀ D σ H,t2 D σ H->t D σ H):PSs X sts t2:=fun pins s σ H D I q=>h pins s σ H D I (i D σ H q)
section
variable{X:Cx}
def rIsi(K:B9):List V->Hp->VK->Prop:=fun xs H Q=>∃ x c t b u,xs = [x,c]/\TyOf K H x t/\((∃ n,c=.ty n/\u=Value.type n)∨∃ a,c=.ref a/\u=Value.ref a)/\Cw K t u=some b/\Q (.bl b) H
theorem fP:k9 X (.builtin "isinstance") (rIsi X.K):=by
 intro pins s σ H xs us Q I r h
 obtain⟨x,c,t,b,u,rfl,ty,hu,e,q⟩:=h
 obtain⟨v1,v2,rfl,r1,r2⟩:=A9 r
 have e2:v2=u:=by
  rcases hu with⟨n,rfl,rfl⟩ | ⟨a,rfl,rfl⟩
  ·exact r2
  ·exact r2
 subst e2
 exact yO I r1 ty e fun tk=>⟨.bl b,H,I.tok tk,rfl,q⟩
theorem kit_ii(K:B9):Cw K (.type "int") (.type "int")=some true:=by with_unfolding_all rfl
theorem kit_ib(K:B9):Cw K (.type "int") (.type "bool")=some false:=by with_unfolding_all rfl
theorem AN(K:B9):Cw K (.type "list") (.type "list")=some true:=by with_unfolding_all rfl
end
inductive RdD(K:B9)(H:Hp):V->PyData->Prop where
 |non:RdD K H .non .none
 |bl (b:Bool):RdD K H (.bl b) (.bool b)
 |int (i:Int):RdD K H (.int i) (.int i)
 |lst {a:Addr} {xs:List V} {ds:List PyData} (h:SqL K H a xs) (hl:xs.length=ds.length) (r:∀(i:Nat)(x:V)(d:PyData),xs[i]?=some x->ds[i]?=some d->RdD K H x d):RdD K H (.ref a) (.list ds)
 |tup {a:Addr} {xs:List V} {ds:List PyData} (h:SqT K H a xs) (hl:xs.length=ds.length) (r:∀(i:Nat)(x:V)(d:PyData),xs[i]?=some x->ds[i]?=some d->RdD K H x d):RdD K H (.ref a) (.tuple ds)
theorem iR{h:Heap}:∀{xs:List V}{us:List Value}{ds:List PyData},Vals xs us->xs.length=ds.length->(∀(i:Nat) x d,xs[i]?=some x->ds[i]?=some d->∀ u,RelV x u->∃ as,Reads h u d as)->∃ as,ReadsAll h us ds as
 |_,_,[],.nil,_,_=>⟨_,.nil⟩
 |_,_,_::_,.nil,e,_=>by cases e
 |_,_,[],.cons _ _,e,_=>by cases e
 |_,_,d::ds,.cons r rr,e,k=>by
  obtain⟨a1,q1⟩:=k 0 _ d rfl rfl _ r
  obtain⟨a2,q2⟩:=iR rr (Nat.succ.inj e) fun i x d' e1 e2=>k (i+1) x d' e1 e2
  exact⟨_,.cons q1 q2⟩
section
variable{X:Cx}
theorem RdD.reads{pins:List (Addr×Obj)}{σ:St}{H:Hp}{s:Shared}(I:Inv X pins σ H s){x:V}{d:PyData}(r:RdD X.K H x d):∀ u,RelV x u->∃ as,Reads s.heap u d as:=by
 induction r with
 |non=>intro u hu;cases hu;exact⟨_,.none⟩
 |bl b=>intro u hu;cases hu;exact⟨_,.bool b⟩
 |int i=>intro u hu;obtain⟨t,rfl⟩:=hu;exact⟨_,.int i t⟩
 |lst h hl r ih =>
  intro u hu
  cases hu
  obtain⟨its,rv,p,_⟩:=I.list h
  obtain⟨as,q⟩:=iR (h:=s.heap) rv hl ih
  obtain⟨o,n,e,c,_,d⟩:=p
  exact⟨_,.list e c d (by simpa using q)⟩
 |tup h hl r ih =>
  intro u hu
  cases hu
  obtain⟨its,rv,p,_⟩:=I.tuple h
  obtain⟨as,q⟩:=iR (h:=s.heap) rv hl ih
  obtain⟨o,e,c,n,d⟩:=p
  exact⟨_,.tuple e c d (by simpa using q)⟩
def rSame(b:Bool)(K:B9):R2:=fun x y H Q=>∃ d,RdD K H x d/\RdD K H y d/\SeqAt.shaped d=true/\Q (.bl b) H
theorem lx(hu:X.A.units+64<cLine):OpR X (compareOp .Eq) (rSame true X.K):=by
 intro pins s σ H x y v u Q I rx ry h
 obtain⟨d,r1,r2,hs,q⟩:=h
 obtain⟨as,q1⟩:=r1.reads I v rx
 obtain⟨bs,q2⟩:=r2.reads I u ry
 refine eq_dataH q1 q2 hs hs hu ?_
 rw[SeqAt.eqv_refl d (SeqAt.canLay_of_shaped hs)]
 exact⟨.bl true,H,I,rfl,q⟩
theorem op_neD(hu:X.A.units+64<cLine):OpR X (compareOp .NotEq) (rSame false X.K):=by
 intro pins s σ H x y v u Q I rx ry h
 obtain⟨d,r1,r2,hs,q⟩:=h
 obtain⟨as,q1⟩:=r1.reads I v rx
 obtain⟨bs,q2⟩:=r2.reads I u ry
 refine ne_dataH q1 q2 hs hs hu ?_
 rw[SeqAt.eqv_refl d (SeqAt.canLay_of_shaped hs)]
 exact⟨.bl false,H,I,rfl,q⟩
end
section
variable{X:Cx}{tg:Expr}
end
end L2
namespace L2
open PySem PySem.Spec PyProof.Rows
section
variable{P:Program}{w:World}{H:Hp}{h:Heap}{a:Addr}{o:HO}
theorem bO.get(x:bO P w H h a o):∃ ob,h.get? a=some ob:=by
 cases o with
 |lst xs=>obtain⟨_,_,_,_,e⟩:=x;exact⟨_,e⟩
 |tup xs=>obtain⟨_,_,_,ob,e,_⟩:=x;exact⟨_,e⟩
 |dK kvs=>obtain⟨_,_,_,_,o,_,_,e,_⟩:=x;exact⟨_,e⟩
 |dT kvs=>obtain⟨_,_,_,_,o,_,_,e,_⟩:=x;exact⟨_,e⟩
 |set S n=>obtain⟨o,_,_,_,e,_⟩:=x;exact⟨_,e⟩
 |ins C dx fs=>obtain⟨_,_,_,e,_⟩:=x;exact⟨_,e⟩
 |own y=>exact x
 |xd fs=>obtain⟨_,⟨_,_,_,e,_⟩,_⟩:=x;exact⟨_,e⟩
 |rng lo hi=>obtain⟨_,_,_,e⟩:=x;exact⟨_,e⟩
 |frz ob u=>exact⟨_,x.1⟩
 |tbl ps=>exact⟨_,(show h.get? a=some _ from x)⟩
 |met f y=>exact⟨_,(show h.get? a=some _ from x)⟩
 |ext φ=>exact x.2.1
theorem HOk.none_of(x:HOk P w H h)(e:h.get? a=none):H a=none:=by
 cases q:H a with
 |none=>rfl
 |some u =>
  obtain⟨ob,z⟩:=(x a u q).get
  rw[e]at z
  cases z
end
structure XOk(X:Cx)(pins:List (Addr×Obj))(H:Hp)(b:Addr):Prop where
 old:X.s₀.heap.get? b=none
 trk:H b=none
 nl:b≠X.env.locals
 nc:∀ x c,X.env.cells.lookup x=some c->c≠b
 np:∀ p∈X.pn++pins,p.1≠b
section
variable{X:Cx}{pins:List (Addr×Obj)}{σ:St}{H H':Hp}{s s':Shared}{b:Addr}
theorem Inv.xok(I:Inv X pins σ H s)(hx:X.ex = [])(e:s.heap.get? b=none)(n:H' b=none):XOk X pins H' b:=by
 refine⟨?_,n,fun z=>?_,fun x c q z=>?_,fun p hp z=>?_⟩
 ·cases q:X.s₀.heap.get? b with
  |none=>rfl
  |some o =>
   obtain⟨o',e'⟩:=I.base.there b o q (by rw[hx];simp)
   rw[e]at e'
   cases e'
 ·obtain⟨m,⟨o,_,_,ho,_⟩,_⟩:=I.loc
  rw[z,ho]at e
  cases e
 ·obtain⟨v,o,ho,_⟩:=I.cell x c q
  rw[z,e]at ho
  cases ho
 ·have:=(I.pin p hp).1
  rw[z,e]at this
  cases this
theorem Inv.xstep{h':Heap}{ch:List Addr}(I:Inv X pins σ H s)(hch:∀ b∈ch,XOk X pins H b)
  (keep:∀ b o,s.heap.get? b=some o->b∉ch->b∉frs X.stack->h'.get? b=some o)
  (slot:∀ b o,s.heap.get? b=some o->b∉ch->b∈frs X.stack->∃ sl,h'.get? b=some { o with slots:=sl }):Inv X pins σ H { s with heap:=h' }:=by
 have any:∀ b o,s.heap.get? b=some o->b∉ch->∃ sl,h'.get? b=some { o with slots:=sl }:=fun b o e hc=>by
  by_cases hb:b∈frs X.stack
  ·exact slot b o e hc hb
  ·exact⟨o.slots,keep b o e hc hb⟩
 have fsub:∀ b,b∈frs X.stack->b≠X.env.locals->b∈X.fs:=fun b hb n=>(Co.mp (I.stkSub b hb)).elim (fun z=>absurd z n) fun z=>z
 have neL:∀ b o,X.s₀.heap.get? b=some o->b≠X.env.locals:=fun b o e=>CJ (CI (Heap.lt_size e) I.ok.above)
 have neC:∀ b o,X.s₀.heap.get? b=some o->b∉ch:=fun b o e hb=>by
  have:=(hch b hb).old
  rw[e]at this
  cases this
 have cellK:∀ x c,X.env.cells.lookup x=some c->∀ v,s.heap.IsCell c v->h'.IsCell c v:=fun x c e v ⟨o,ho,hd⟩=>by
  obtain⟨sl,q⟩:=any c o ho fun z=>(hch c z).nc x c e rfl
  exact⟨_,q,hd⟩
 refine⟨I.ok,I.os,I.bare,⟨fun b o e n hb hx=>?_,fun b o e n hb hx=>?_,I.base.free,fun b o e hx=>?_,I.base.tups,I.base.frzs,I.base.tbls⟩,?_,fun x c e=>?_,I.free,I.freeC,fun p hp=>?_,fun b u e=>?_,I.len⟩
 ·exact keep b o (I.base.keep b o e n hb hx) (neC b o e) fun z=>hb (fsub b z (neL b o e))
 ·obtain⟨sl,e1⟩:=I.base.slot b o e n hb hx
  obtain⟨sl',e2⟩:=any b _ e1 (neC b o e)
  exact⟨sl',e2⟩
 ·obtain⟨o',e1⟩:=I.base.there b o e hx
  obtain⟨sl,e2⟩:=any b _ e1 (neC b o e)
  exact⟨_,e2⟩
 ·obtain⟨m,⟨o,es,ep,ho,r⟩,hl⟩:=I.loc
  obtain⟨sl,e2⟩:=any _ o ho fun z=>(hch _ z).nl rfl
  refine⟨m,⟨_,es,ep,e2,r⟩,fun i x v e1 e2 e3=>?_⟩
  obtain⟨u,r,l⟩:=hl i x v e1 e2 e3
  refine⟨u,r,?_⟩
  rcases l with l | ⟨k,c,e,z⟩
  ·exact .inl l
  ·exact .inr ⟨k,c,e,cellK x c e _ z⟩
 ·obtain⟨v,z⟩:=I.cell x c e
  exact⟨v,cellK x c e v z⟩
 ·obtain⟨e,n,ne,nf,d⟩:=I.pin p hp
  exact⟨keep p.1 p.2 e (fun z=>(hch p.1 z).np p hp rfl) fun z=>nf (fsub p.1 z ne),n,ne,nf,d⟩
 ·have nof:∀ c u',H c=some u'->c∉ch/\c∉frs X.stack:=fun c u' q=>⟨fun z=>(by rw[(hch c z).trk]at q;exact nomatch q),fun z=>(by rw[I.stkFree c z]at q;exact nomatch q)⟩
  refine(I.hok b u e).stay (fun c v hc q=>?_) (fun _ q=>q) fun _ _ q=>q
  rcases hc with z | z
  ·rw[z]at q ⊢
   exact keep b v q (nof b u e).1 (nof b u e).2
  ·exact keep c v q (nof c _ z).1 (nof c _ z).2
theorem Inv.xtrack{a:Addr}{o:HO}(I:Inv X pins σ H s)(f:XOk X pins H a)(new:bO X.prog X.w (upd H a o) s.heap a o):Inv X pins σ (upd H a o) s:=by
 have ne:∀ b u,H b=some u->b≠a:=fun b u e=>aF e f.trk
 have nb:∀ b u,s.heap.get? b=some u->b≠a->H b=none->upd H a o b=none:=fun b u _ n q=>by rw[ao n];exact q
 refine⟨I.ok,I.os,I.bare,⟨I.base.keep,I.base.slot,fun b ob e n hx=>?_,I.base.there,fun b xs e=>?_,fun b ob xs e=>?_,fun b ps e=>?_⟩,I.loc,I.cell,?_,fun x c e=>?_,fun p hp=>?_,fun b u e=>?_,I.len⟩
 ·rw[ao (fun z=>by rw[z,f.old]at e;cases e)]
  exact I.base.free b ob e n hx
 ·have:=I.base.tups b xs e
  rw[ao (ne _ _ this)]
  exact this
 ·have:=I.base.frzs b ob xs e
  rw[ao (ne _ _ this)]
  exact this
 ·obtain⟨m,q⟩:=I.base.tbls b ps e
  exact⟨m,by rw[ao (ne _ _ q)];exact q⟩
 ·rw[ao (Ne.symm f.nl)]
  exact I.free
 ·rw[ao (f.nc x c e)]
  exact I.freeC x c e
 ·obtain⟨e,n,r⟩:=I.pin p hp
  exact⟨e,by rw[ao (f.np p hp)];exact n,r⟩
 ·by_cases hb:b=a
  ·rw[hb,ae]at e
   cases e
   rw[hb]
   exact new
  ·rw[ao hb]at e
   exact(I.hok b u e).stay (fun c v _ q=>q) (fun c q=>by rw[ao (ne c _ q)];exact q) fun c xs q=>by rw[ao (ne c _ q)];exact q
end
def Trc(h:Heap)(x:Addr)(C:Value)(T:Addr):Prop :=
 ∃ oe vs a0 oT ts,h.get? x=some oe/\oe.cls=C/\vs[0]?=some a0/\oe.data=.fields vs/\vs[1]?=some (.ref T)/\T≠x/\h.get? T=some oT/\oT.data=.fields ts/\ts[3]?=some .none
def Xnw(h:Heap)(x:Addr)(C:Value):Prop:=∃ oe vs a0,h.get? x=some oe/\oe.cls=C/\oe.data=.fields vs/\vs[0]?=some a0/\vs[1]?=some .none
def XA(X:Cx)(pins:List (Addr×Obj))(H:Hp)(s:Shared)(x:Addr)(C:Value):Prop:=XOk X pins H x/\(Xnw s.heap x C∨∃ T,XOk X pins H T/\Trc s.heap x C T)
section
variable{X:Cx}{pins:List (Addr×Obj)}{σ:St}{H:Hp}{s:Shared}{x:Addr}{C:Value}{E:Value->Shared->Prop}
abbrev hidX(X:Cx)(h:Heap)(ch:List Addr):Heap:=PySem.W.hideAll h (ch++frs X.stack)
theorem Inv.hidF(I:Inv X pins σ H s)(ch:List Addr):s.heap.FunFrames (hidX X s.heap ch) X.stack :=
 PySem.W.funFrames_hide I.stack fun env he a hf=>Cm _ (El.mpr ⟨env,he,hf⟩)
theorem yY(ch:List Addr)(h:Heap):(hidX X h ch).StaysIn h:=fun _ _ e=>PySem.W.of_hideAll _ e
theorem jy{ch:List Addr}{h:Heap}{b:Addr}(hb:b∈ch):(hidX X h ch).get? b=none:=PySem.W.hideAll_none _ (C1 _ hb)
theorem Inv.left{h':Heap}{ch:List Addr}{a0:Value}(I:Inv X pins σ H s)(hx:X.ex = [])(hch:∀ b∈ch,XOk X pins H b)(k:(hidX X s.heap ch).StaysIn h')(t:h'.TracedW (hidX X s.heap ch) x C a0)(u:s.heap.UpToSlots h') :
  Inv X pins σ H { s with heap:=h' }/\∃ T,XOk X pins H T/\Trc h' x C T:=by
 have fr:∀ b o,s.heap.get? b=some o->b∈frs X.stack->∃ sl,h'.get? b=some { o with slots:=sl }:=fun b o e hb=>by
  obtain⟨_,o',ho,hd⟩:=I.stack.mem hb
  rw[e]at ho
  cases ho
  exact u b o e hd
 refine⟨I.xstep hch (fun b o e n1 n2=>k b o (Eg _ e fun z=>(CA.mp z).elim n1 n2)) fun b o e _ hb=>fr b o e hb,?_⟩
 obtain⟨oe,vs,T,oT,ts,he,⟨hcls,h0⟩,hd,h1,hnT,hTe,hT,hdT,h3⟩:=t
 refine⟨T,?_,oe,vs,a0,oT,ts,he,hcls,h0,hd,h1,hTe,hT,hdT,h3⟩
 cases q:s.heap.get? T with
 |none=>exact I.xok hx q (I.hok.none_of q)
 |some o =>
  by_cases z:T∈ch
  ·exact hch T z
  ·by_cases z2:T∈frs X.stack
   ·obtain⟨_,o',ho,hd'⟩:=I.stack.mem z2
    obtain⟨sl,e⟩:=fr T o q z2
    rw[hT]at e
    cases e
    rw[q]at ho
    cases ho
    exact absurd hdT (hd' ts)
   ·have:=Eg (ch++frs X.stack) q fun z3=>(CA.mp z3).elim z z2
    rw[hnT]at this
    cases this
theorem Inv.leave{Q:Unit->Shared->Prop}(I:Inv X pins σ H s)(hx:X.ex = [])(hst:X.stack=X.env::X.outer)(hfr:X.env.frame=some X.env.locals)(xa:XA X pins H s x C)
  (h:∀ h' T,Inv X pins σ H { s with heap:=h' }->XOk X pins H x->XOk X pins H T->Trc h' x C T->Q () { s with heap:=h' }):wpAny (model X.prog X.w) X.A (leaving X.env (.ref x)) Q E s:=by
 obtain⟨x1,x2⟩:=xa
 have frm:X.A.frames=some (X.env::X.outer):=by rw[← hst];exact I.ok.frames
 rcases x2 with⟨oe,vs,a0,he,hc,hd,h0,h1⟩ | ⟨T,xT,oe,vs,a0,oT,ts,he,hc,h0,hd,h1,hTe,hT,hdT,h3⟩
 ·have hch:∀ b∈[x],XOk X pins H b:=fun b hb=>by
   have e:b=x:=by simpa using hb
   rw[e]
   exact x1
  refine wpAny_leaving_firstW (base:=hidX X s.heap [x]) frm (hst▸I.hidF [x]) hfr he (yY _ _) (jy (by simp)) hd h1 h0 fun h' L=>?_
  obtain⟨k1,_,k3,k4⟩:=L
  obtain⟨I',T,xT,tr⟩:=I.left hx hch k1 k3 k4
  rw[hc]at tr
  exact h h' T I' x1 xT tr
 ·have hch:∀ b∈[x,T],XOk X pins H b:=fun b hb=>by
   rcases Co.mp hb with e | hb
   ·rw[e]
    exact x1
   ·have e:b=T:=by simpa using hb
    rw[e]
    exact xT
  refine wpAny_leaving_nextW (base:=hidX X s.heap [x,T]) frm (hst▸I.hidF [x,T]) hfr ⟨oe,vs,T,oT,ts,he,⟨hc,h0⟩,hd,h1,jy (by simp),hTe,hT,hdT,h3⟩ (yY _ _) (jy (by simp)) fun h' L=>?_
  obtain⟨k1,_,k3,k4⟩:=L
  obtain⟨I',T',xT',tr⟩:=I.left hx hch k1 k3 k4
  exact h h' T' I' x1 xT' tr
end
section
variable{X:Cx}{k:Nat}{f C:Addr}{fd:FuncData}{ps:List Str}{sp:Sp}{dvs:List V}{ds:List Value}{W:WK}{x m:Str}{p pos apos:Pos}{e o:Expr}{es:List Expr}{ta:TE}{t:TA}
end
end L2
namespace L2
open PySem PySem.Spec PyProof.Rows
abbrev veM:List Value:=[.type "ValueError",.type "Exception",.type "BaseException",.type "object"]
abbrev ExC(K:B9)(C:Addr):Prop:=D3 K C veM "ValueError.__new__" = true
theorem zc{K:B9}{C:Addr}{h:Heap}(e:ExC K C)(X:K.In h):∃ bm N nm qn bs hdct sn sub ab col dd k0 k1 k2 k3 k5 mN,h.get? C=some (excClassObj nm qn C N bs bm hdct sn sub ab col dd k0 k1 k2 k3 k5 "ValueError.__new__")/\h.Ns N mN/\mN "__init__" = none/\OwnTail h veM bm/\∀ B b,CV K C B=some b->(Value.ref C::bm).contains B=b:=by
 have z:=e
 unfold ExC D3 at z
 split at z
 ·rename_i ddx cdx slx hobj
  split at z
  ·rename_i Cx bmx y0 y1 y2 y3 nx y5 hmro hslots
   have zz:=z
   simp only[DO,beq_iff_eq,Bool.not_eq_true']at zz
   obtain⟨⟨⟨⟨⟨eC,eN⟩,edel⟩,etail⟩,ens⟩,einit⟩:=zz
   subst eC
   subst eN
   obtain⟨l⟩:=slx
   have hl:l = [y0,y1,y2,y3,some (.builtin "ValueError.__new__"),y5]:=hslots
   subst hl
   obtain⟨nm,bs,mro,ns,qn,hd,sn,sub,ab,col,del⟩:=cdx
   have hmro':mro=.ref Cx::bmx:=hmro
   have hdel':del=false:=edel
   subst hmro' hdel'
   refine⟨bmx,ns,nm,qn,bs,hd,sn,sub,ab,col,ddx,y0,y1,y2,y3,y5,_,X _ _ hobj,.of_isNs (PySem.W.isNs_of_in X ens),PySem.W.nsMap_none_of_in X ens einit,PySem.W.tail_of_in X etail,fun B b hB=>?_⟩
   unfold CV EL at hB
   rw[hobj]at hB
   simpa using hB
  ·cases z
 ·cases z
section
variable{X:Cx}{pins:List (Addr×Obj)}{σ:St}{H:Hp}{s:Shared}{x:Addr}{C:Value}
def Cx.marked(X:Cx)(v:Value):Cx:={ X with A:=X.A.mark (some v),calm:=false,xe:=fun _ _=>False }
theorem Inv.marked(I:Inv X pins σ H s)(v:Value):Inv (X.marked v) pins σ H s :=
 ⟨⟨I.ok.mod,I.ok.kind,I.ok.glob,I.ok.blt,I.ok.above,I.ok.inj,I.ok.has,I.ok.cab,fun z=>(by cases z),I.ok.frames,I.ok.stk,I.ok.exf,I.ok.bs,I.ok.bsz,I.ok.noex,I.ok.exfs,I.ok.funs,I.ok.frf⟩,I.os,I.bare,I.base,I.loc,I.cell,I.free,I.freeC,I.pin,I.hok,I.len⟩
theorem Inv.unmarked{hd:X.calm=true->X.A.handled=none}{fr:X.A.frames=some X.stack}{v:Value}(I:Inv (X.marked v) pins σ H s):Inv X pins σ H s :=
 ⟨⟨I.ok.mod,I.ok.kind,I.ok.glob,I.ok.blt,I.ok.above,I.ok.inj,I.ok.has,I.ok.cab,hd,fr,I.ok.stk,I.ok.exf,I.ok.bs,I.ok.bsz,I.ok.noex,I.ok.exfs,I.ok.funs,I.ok.frf⟩,I.os,I.bare,I.base,I.loc,I.cell,I.free,I.freeC,I.pin,I.hok,I.len⟩
theorem Inv.gone{i:Nat}{n:Str}{h':Heap}{tk:Nat}{m:Str->Option Value}{v:Option Value}(I:Inv X pins σ H s)(hN:X.N.Nodup)(hi:X.N[i]?=some n)(hm:s.heap.Ns X.env.locals m/\∀ (i:Nat) (x:Str) (v:V),X.N[i]?=some x->σ[i]?=some (some v)->Vis X.env.scope x->∃ u,RelV v u/\Look X.env s.heap m x u)
  (hn:h'.Ns X.env.locals (fun y=>if y=n then v else m y)) (hs:Heap.SameBut X.env.locals s.heap h'):Inv X pins (σ.set i none) H { s with heap:=h',toks:=tk }:=by
 have lo:∀ b o,X.s₀.heap.get? b=some o->b≠X.env.locals:=fun b o e=>CJ (CI (Heap.lt_size e) I.ok.above)
 obtain⟨oL,_,_,hoL,_⟩:=id hm.1
 refine⟨I.ok,I.os,I.bare,⟨fun b o e n1 hb hx=>(hs.2 b (lo b o e)).trans (I.base.keep b o e n1 hb hx),fun b o e n1 hb hx=>?_,I.base.free,fun b o e hx=>?_,I.base.tups,I.base.frzs,I.base.tbls⟩,⟨_,hn,fun j y w' e1 e2 e3=>?_⟩,fun y c e=>?_,I.free,I.freeC,fun p hp=>?_,fun b u e=>?_,by simpa using I.len⟩
 ·obtain⟨sl,q⟩:=I.base.slot b o e n1 hb hx
  exact⟨sl,(hs.2 b (lo b o e)).trans q⟩
 ·obtain⟨o',q⟩:=I.base.there b o e hx
  exact⟨o',(hs.2 b (lo b o e)).trans q⟩
 ·by_cases hj:j=i
  ·subst hj
   rw[Dx]at e2
   split at e2
   ·split at e2<;>cases e2
   ·rename_i z;exact absurd rfl z
  ·rw[Ed (Ne.symm hj)]at e2
   obtain⟨u',r',l'⟩:=hm.2 j y w' e1 e2 e3
   refine⟨u',r',?_⟩
   rcases l' with⟨kk,e⟩ | ⟨kk,c,e,z⟩
   ·refine .inl ⟨kk,?_⟩
    have ny:y≠n:=fun q=>hj (qW hN e1 (q▸hi))
    show(if y=n then v else m y)=some u'
    rw[if_neg ny];exact e
   ·exact .inr ⟨kk,c,e,z.sameBut hs (I.cne y c e)⟩
 ·obtain⟨w2,z⟩:=I.cell y c e
  exact⟨w2,z.sameBut hs (I.cne y c e)⟩
 ·obtain⟨e,n1,ne,nf,d⟩:=I.pin p hp
  exact⟨(hs.2 p.1 ne).trans e,n1,ne,nf,d⟩
 ·refine(I.hok b u e).stay (fun c v2 hc q=>(hs.2 c fun z=>?_).trans q) (fun _ q=>q) fun _ _ q=>q
  have fr:=I.free
  rcases hc with y | y
  ·rw[← y,z,fr]at e;cases e
  ·rw[z,fr]at y;cases y
end
section
variable{M:Model}{A:Around}{E:Value->Shared->Prop}{h:Heap}{g:Array GenState}{d:Drawn}{t:Nat}{os:OsState}
end
def Cx.tried(X:Cx)(pins:List (Addr×Obj))(E:Value->Shared->Prop):Cx:={ X with pn:=X.pn++pins,xe:=E }
section
variable{X:Cx}{pins pins':List (Addr×Obj)}{σ:St}{H:Hp}{s:Shared}{E:Value->Shared->Prop}{b:Addr}
theorem Inv.tried(I:Inv X pins σ H s):Inv (X.tried pins E) [] σ H s :=
 ⟨⟨I.ok.mod,I.ok.kind,I.ok.glob,I.ok.blt,I.ok.above,I.ok.inj,I.ok.has,I.ok.cab,I.ok.hd,I.ok.frames,I.ok.stk,I.ok.exf,I.ok.bs,I.ok.bsz,I.ok.noex,I.ok.exfs,I.ok.funs,I.ok.frf⟩,I.os,I.bare,I.base,I.loc,I.cell,I.free,I.freeC,fun p hp=>I.pin p (by rw[C2]at hp;exact hp),I.hok,I.len⟩
theorem Inv.untried(I:Inv (X.tried pins E) pins' σ H s):Inv X pins σ H s :=
 ⟨⟨I.ok.mod,I.ok.kind,I.ok.glob,I.ok.blt,I.ok.above,I.ok.inj,I.ok.has,I.ok.cab,I.ok.hd,I.ok.frames,I.ok.stk,I.ok.exf,I.ok.bs,I.ok.bsz,I.ok.noex,I.ok.exfs,I.ok.funs,I.ok.frf⟩,I.os,I.bare,I.base,I.loc,I.cell,I.free,I.freeC,fun p hp=>I.pin p (C1 _ hp),I.hok,I.len⟩
theorem XOk.untried(x:XOk (X.tried pins E) pins' H b):XOk X pins H b:=⟨x.old,x.trk,x.nl,x.nc,fun p hp=>x.np p (C1 _ hp)⟩
theorem SP.untried{D:Ends}{f:Flow}(h:SP (X.tried pins E) [] D f s):SP X pins D f s:=by
 cases f with
 |next=>obtain⟨σ',H',I,q⟩:=h;exact⟨σ',H',I.untried,q⟩
 |brk=>obtain⟨σ',H',I,q⟩:=h;exact⟨σ',H',I.untried,q⟩
 |cont=>obtain⟨σ',H',I,q⟩:=h;exact⟨σ',H',I.untried,q⟩
 |ret u=>obtain⟨v,σ',H',I,r,q⟩:=h;exact⟨v,σ',H',I.untried,r,q⟩
end
section
variable{X:Cx}{k:Nat}{f:Addr}{fd:FuncData}{ps:List Str}{sp:Sp}{dvs:List V}{ds:List Value}{W:WK}{x:Str}{p pos:Pos}{e:Expr}{es:List Expr}{t:TA}
end
end L2
namespace L2
open PySem PySem.Spec PyProof.Rows
end L2
namespace L2
open PySem PySem.Spec PyProof.Rows
section
variable{prog:Program}{w:World}{A:Around}{E:Value->Shared->Prop}{s:Shared}
end
end L2
namespace L2
open PySem PySem.Spec PyProof.Rows
section
variable{prog:Program}{w:World}{A:Around}{E:Value->Shared->Prop}{s:Shared}
end
section
variable{X:Cx}
end
end L2
namespace L2
open PySem PySem.Spec PyProof.Rows
section
variable{X:Cx}
end
end L2
namespace L2
open PySem PySem.Spec PyProof.Rows
theorem Inv.turnedL{X:Cx}{pins:List (Addr×Obj)}{σ:St}{H:Hp}{s:Shared}{h':Heap}{t':Nat}{fp:List Addr}(I:Inv X pins σ H s)(k:∀ b o,b∉fp->s.heap.get? b=some o->h'.get? b=some o)(hf:∀ b∈fp,FpOk X pins H b):Inv X pins σ H { s with heap:=h',toks:=t' }:=by
 have nit:∀ b u,H b=some u->b∉fp:=fun b u e z=>by rw[(hf b z).1]at e;cases e
 refine I.step (g':=s.gens) (d':=s.drawn) (ch:=fp) (fun b hb=>?_) (fun b o _ _ hc e _=>k b o hc e) (fun b o _ _ hc e _=>⟨o.slots,k b o hc e⟩) (fun _ _ _ _ n=>n)
  (fun b o hc e=>⟨o,k b o hc e⟩) (fun _ _ e=>e) (fun _ _ _ e=>e) (fun b ps e=>⟨#[],by rw[e];simp⟩) (fun m hm=>?_) (fun b u e=>?_) I.bare
 ·obtain⟨f0,f1,f2,f3,f4,f5⟩:=hf b hb
  exact⟨f3,f1,f4,f5⟩
 ·obtain⟨o,es,ep,ho,r⟩:=hm
  exact⟨o,es,ep,k _ o (fun z=>(hf _ z).2.1 rfl) ho,r⟩
 ·refine(I.hok b u e).stay (fun c v hc q=>k c v ?_ q) (fun _ q=>q) fun _ _ q=>q
  rcases hc with z | z
  ·rw[z];exact nit b u e
  ·exact nit c _ z
def Ite(K:B9)(a:Addr):It :=
 ⟨fun i H=>∃ xs x,SqL K H a xs/\xs[i]?=some x,fun i H v H'=>∃ T x,H T=none/\v=.ref T/\H'=upd H T (.tup [.int (i:Int),x])/\∀ xs,SqL K H a xs->xs[i]?=some x,fun i H=>∃ xs,SqL K H a xs/\xs.length<=i⟩
theorem xQ{P:Program}{w:World}{K:B9}{es:List Expr}{k:Nat}{pos:Pos}(a e it:Addr)(hei:e≠it):Turn P w K (.Tuple es k pos) (Ite K a) [e,it] e (fun i h=>(∃ old,IsEnum h e it ((i:Nat):Int) old)/\h.IsListIter it a i) where
 mem:=by simp
 obj:=fun i h st b hb=>by
  obtain⟨⟨old,he⟩,o,e2,c,d⟩:=st
  rcases Co.mp hb with rfl | hb
  ·exact⟨_,he,fun v z=>by
    have z':Data.fields _=Data.cell v:=z
    cases z'⟩
  ·have e3:b=it:=by simpa using hb
   subst e3
   exact⟨o,e2,fun v z=>by rw[d]at z;cases z⟩
 keep:=fun i h h' st kk=>by
  obtain⟨⟨old,he⟩,hit⟩:=st
  exact⟨⟨old,kk e (by simp) _ he⟩,hit.at fun o q=>kk it (by simp) o q⟩
 item:=by
  intro X hP hw hK hc i pins s σ H E I hf st hg
  subst hP hw hK
  obtain⟨xs,x,hq,hx⟩:=hg
  obtain⟨its,rv,p,hz⟩:=I.list hq
  obtain⟨u,hu,ru⟩:=rv.get hx
  obtain⟨⟨old,he⟩,hit⟩:=st
  refine wpAny_pyNext_enum_item he hit p.isList (x:=u) (by simpa using hu) hei fun h' ho hit' hT hsz hk=>?_
  refine⟨_,rfl,?_⟩
  refine wpAny_letOwnedTupleGo_enum ho fun h2 he2 hs2=>?_
  have hs2':Heap.SameBut e h' h2:=hs2
  have hel:e<s.heap.objs.size:=Heap.lt_size he
  have hil:it<s.heap.objs.size:=by obtain⟨_,q,_⟩:=hit;exact Heap.lt_size q
  have hfr:H s.heap.objs.size=none:=I.hok.fresh (Cg _)
  have I0:Inv X pins σ (upd H s.heap.objs.size (.tup [.int (i:Int),x])) { s with heap:=s.heap.push { cls:=.type "tuple",data:=.seq #[.int (i:Int) s.toks,u] },toks:=s.toks+1 } :=
   I.laid (t':=s.toks+1) (fun b u e=>Heap.get?_push_of_some _ e) (Cg _) ⟨by show 2<=sizeLine;decide,[.int (i:Int) s.toks,u],.cons ⟨_,rfl⟩ (.cons ru .nil),⟨_,Heap.get?_push_size _ rfl,rfl,_,rfl⟩⟩
  have hfb:∀ b∈[e,it],b<s.heap.objs.size:=fun b hb=>by
   rcases Co.mp hb with rfl | hb
   ·exact hel
   ·have e3:b=it:=by simpa using hb
    rw[e3];exact hil
  have hn:∀ b∈[e,it],upd H s.heap.objs.size (.tup [.int (i:Int),x]) b=none:=fun b hb=>by
   rw[ao (CJ (hfb b hb))]
   exact(hf b hb).1
  have I2:Inv X pins σ (upd H s.heap.objs.size (.tup [.int (i:Int),x])) { s with heap:=h2,toks:=s.toks+1 }:=Inv.turnedL (s:={ s with heap:=s.heap.push { cls:=.type "tuple",data:=.seq #[.int (i:Int) s.toks,u] },toks:=s.toks+1 }) (h':=h2) I0 (t':=s.toks+1) (fp:=[e,it]) (fun b o hb q=>by
   have nb:b≠e:=fun z=>hb (by simp[z])
   have nb2:b≠it:=fun z=>hb (by simp[z])
   refine(hs2'.2 b nb).trans ?_
   rcases Heap.get?_push_cases q with⟨z1,z2⟩ | q
   ·rw[z1,z2];exact hT
   ·exact hk b o nb nb2 q) fun b hb=>⟨hn b hb,(hf b hb).2⟩
  refine⟨.ref s.heap.objs.size,_,I2,rfl,⟨s.heap.objs.size,x,hfr,rfl,rfl,fun ys hy=>by rw[I.list_inj hy hq];exact hx⟩,?_,hn⟩
  refine⟨⟨u,?_⟩,hit'.at fun o q=>(hs2'.2 it (Ne.symm hei)).trans q⟩
  have e4:(((i+1:Nat):Nat):Int)=(i:Int)+1:=by omega
  rw[e4]
  exact he2
 done:=by
  intro X hP hw hK hc i pins s σ H E I hf st hg
  subst hP hw hK
  obtain⟨xs,hq,hx⟩:=hg
  obtain⟨its,rv,p,hz⟩:=I.list hq
  obtain⟨⟨old,he⟩,hit⟩:=st
  have hl:=rv.length
  obtain⟨f0,f1,f2,f3,f4,f5⟩:=hf it (by simp)
  exact wpAny_pyNext_enum_end (I.ok.hd hc) he hit p.isList (by simp;omega) fun h' eb=>⟨rfl,I.turned (t':=s.toks) (fun b o hb e=>eb b o hb e) f0 f1 f3 f4 f5⟩
 self:=fun _ _ _ _ _ st h=>by
  obtain⟨⟨old,he⟩,_⟩:=st
  exact wpAny_pyIter_enum he h
section
variable{X:Cx}
def iEnum(K:B9)(ta:TA):TI:=fun σ H R=>ta σ H fun vs H1=>∃ a,vs = [.ref a]/\(∃ xs,SqL K H1 a xs)/\R (Ite K a) H1
theorem mD{l:Expr}{ta:TA}{es:List Expr}{k:Nat}{tp p pos:Pos} (hg:Gl X "enumerate") (hm:X.mg "enumerate" = none) (ha:PA X [l] ta) (hs:starEach [l] X.env = [(false,eval l X.env)]:=by rfl) :
  PI X (.Tuple es k tp) (.Call (.Name "enumerate" p) [l] [] pos) (iEnum X.K ta):=by
 intro pins s σ H R I h
 refine Call_ (tw I hg hm tU (PyProof.Rows.callWith_type1 (thn (ha pos pins s σ H _ I h) fun us s1 ⟨vs,H1,I1,r1,q1⟩=>?_) hs rfl))
 obtain⟨a,e,⟨xs,hq⟩,q⟩:=q1
 subst e
 obtain⟨u,rfl,ru⟩:=xN r1
 cases ru
 obtain⟨its,rv,p,hz⟩:=I1.list hq
 refine call_enumerate_list p.isList fun h' he hit hsz hk=>?_
 refine wpAny_pyIter_enum he ?_
 refine⟨s1.heap.objs.size+1,[s1.heap.objs.size+1,s1.heap.objs.size],_,_,H1,rfl,I1.kept (t':=s1.toks) hk,xQ a _ _ (Nat.succ_ne_self _),⟨⟨_,he⟩,hit⟩,fun b hb=>?_,q⟩
 have hb':s1.heap.objs.size<=b:=by
  rcases Co.mp hb with rfl | hb
  ·exact DG _
  ·have e3:b=s1.heap.objs.size:=by simpa using hb
   rw[e3];exact Cg _
 exact I1.fpOk hb' (I1.hok.fresh hb')
end
theorem rE{K:B9}{a:Addr}{xs:List V}{g:TG}{tb:TS}{D:Ends}{σ:St}{H:Hp}(Pv:Nat->St->Hp->Prop)(h0:Pv 0 σ H)(hl:∀ i σ H,i<=xs.length->Pv i σ H->SqL K H a xs)
  (hs:∀ i x σ H T,xs[i]?=some x->Pv i σ H->H T=none->g (.ref T) σ (upd H T (.tup [.int (i:Int),x])) fun σ2 H2=>tb { D with nx:=Pv (i+1),ct:=Pv (i+1),bk:=D.nx } σ2 H2) (hd:∀ σ H,Pv xs.length σ H->D.nx σ H) :
  ∃ W:Nat->Nat->St->Hp->Prop,(∃ m,W 0 m σ H)/\∀ i m σ H,W i m σ H ->
   ((Ite K a).stop i H/\D.nx σ H)∨((Ite K a).go i H/\∃ N:St->Hp->Prop,(∀ σ' H',N σ' H'->∃ m',m'<m/\W (i+1) m' σ' H')/\∀ x H',(Ite K a).yld i H x H'->g x σ H' fun σ2 H2=>tb { D with nx:=N,ct:=N,bk:=D.nx } σ2 H2):=by
 refine⟨fun i m σ H=>m=xs.length-i/\i<=xs.length/\Pv i σ H,⟨xs.length,by simp,Dm _,h0⟩,?_⟩
 rintro i m σ H ⟨rfl,hi,p⟩
 have q:=hl i σ H hi p
 by_cases hlt:i<xs.length
 ·refine .inr ⟨⟨xs,xs[i],q,by simp[hlt]⟩,Pv (i+1),fun σ' H' p'=>⟨xs.length-(i+1),by omega,rfl,hlt,p'⟩,fun v H' y=>?_⟩
  obtain⟨T,x,hT,rfl,rfl,y⟩:=y
  exact hs i x σ _ T (y xs q) p hT
 ·have e:i=xs.length:=by omega
  subst e
  exact .inl ⟨⟨xs,q,Cg _⟩,hd σ H p⟩
end L2
namespace L2
open PySem PySem.Spec PyProof.Rows
section
variable{X:Cx}
end
theorem mZ{n j:Nat}(h:j<n):ixN n (j:Int)=some j:=by
 unfold ixN
 rw[if_pos (by omega),if_pos (by omega)]
 rfl
end L2
namespace L2
open PySem PySem.Spec PyProof.Rows
theorem eh:∀{ds:List PyData},(∀ d∈ds,d.canLay0=true)->PyData.canLayAll0 ds=true
 |[],_=>by simp[PyData.canLayAll0]
 |d::ds,h=>by
  rw[PyData.canLayAll0,h d (by simp),eh fun x hx=>h x (by simp[hx])]
  rfl
theorem fO{n:Nat}:∀{ds:List PyData},(∀ d∈ds,d.depth<=n)->PyData.depthAll ds<=n
 |[],_=>by simp[PyData.depthAll]
 |d::ds,h=>by
  have h1:=h d (by simp)
  have h2:=fO (ds:=ds) fun x hx=>h x (CN _ hx)
  rw[PyData.depthAll]
  omega
theorem mr{ds:List PyData}(h:∀ d∈ds,d.canLay0=true/\d.depth<=10):SeqAt.shaped (.list ds)=true:=by
 have h1:=eh fun d hd=>(h d hd).1
 have h2:=fO fun d hd=>(h d hd).2
 have h3:PyData.depth (.list ds)<=64:=by simp only[PyData.depth];omega
 show(PyData.canLay0 (.list ds)&&decide (PyData.depth (.list ds)<=64))=true
 rw[DO]
 exact⟨by simp only[PyData.canLay0];exact h1,decide_eq_true h3⟩
end L2
namespace L2
open PySem PySem.Spec PyProof.Rows
def cxG(X:Cx)(scope:Scope)(fr:List (Str×Nat))(xs:List Str)(C:Addr)(ex:List Addr)(s:Shared)(H:Hp):Cx where
 prog:=X.prog
 w:=X.w
 K:=X.K
 mg:=X.mg
 base:=X.base
 A:=X.A
 N:=xs++fr.map (·.1)
 s₀:=s
 H₀:=H
 env:=compEnvC scope (clOf X.env fr) C X.env
 outer:=X.stack
 stack:=X.stack
 ex:=ex
 fn:=fun _=>false
 calm:=X.calm
 pn:=[]
 xe:=fun _ _=>False
structure jO(X:Cx)(scope:Scope)(fr:List (Str×Nat))(xs:List Str):Prop where
 clos:closureFor scope X.env=pure (clOf X.env fr)
 cell:∀ y∈scope.names,y.2≠.cell
 kind:scope.kind=.function
 names:∀ y∈scope.names,y.2=.local->scope.names.lookup y.1=some .local
 slot:∀ p∈fr,X.N[p.2]?=some p.1/\X.env.kindOf p.1=some .cell
 has:∀ y∈(relabel scope X.env).names,(y.2=.cell∨y.2=.free)->y.1∈fr.map (·.1)
 frk:∀ p∈fr,(relabel scope X.env).names.lookup p.1=some .cell
theorem jO.of{X:Cx}{scope:Scope}{fr:List (Str×Nat)}{xs:List Str}(clos:closureFor scope X.env=pure (clOf X.env fr))(cell:∀ y∈scope.names,y.2≠.cell)(kind:scope.kind=.function)(names:∀ y∈scope.names,y.2=.local->scope.names.lookup y.1=some .local)
  (slot:∀ p∈fr,X.N[p.2]?=some p.1/\X.env.kindOf p.1=some .cell) (nf:∀ z∈scope.names,z.2=.free->z.1∈fr.map (·.1)) (frk:∀ p∈fr,(relabel scope X.env).names.lookup p.1=some .cell):jO X scope fr xs where
 clos:=clos
 cell:=cell
 kind:=kind
 names:=names
 slot:=slot
 has:=fun z hz hk=>by
  obtain⟨⟨n,k⟩,hm,e⟩:=Dc.mp (show z∈scope.names.map _ from hz)
  have h2:=cell _ hm
  dsimp only at e h2
  have hn:z.1=n:=by rw[← e];split<;>rfl
  have hf:k=.free:=by
   by_cases q:k=.free
   ·exact q
   ·have hb:(k == NameKind.free)=false:=by simpa using q
    rw[hb]at e
    simp only[DV,Em,if_false]at e
    subst e
    exact(hk.elim h2 q).elim
  have:=nf _ hm hf
  rw[hn]
  exact this
 frk:=frk
abbrev nons(xs:List Str):St:=Ci xs.length none
section
variable{X:Cx}{pins:List (Addr×Obj)}{σ:St}{H:Hp}{s:Shared}{scope:Scope}{fr:List (Str×Nat)}{xs:List Str}
theorem jO.cells(O:jO X scope fr xs)(I:Inv X pins σ H s){y:Str}{c:Addr}(h:(clOf X.env fr).lookup y=some c):X.env.cells.lookup y=some c:=by
 obtain⟨hm,e⟩:=eE h
 obtain⟨p,hp,ep⟩:=Dc.mp hm
 have k:=(O.slot p hp).2
 rw[ep]at k
 obtain⟨c',e'⟩:=I.ok.has y (.inl k)
 rw[e']at e
 rw[e',e]
 rfl
theorem yQ{fp:List Addr}(O:jO X scope fr xs)(I:Inv X pins σ H s)(hf:∀ b∈fp,FpOk X pins H b)(hfs:∀ b∈fp,b<s.heap.objs.size){g h':Heap}{tk:Nat}(hg:g=s.heap.push (LCg.lst []))
  (hk:∀ b o,g.get? b=some o->h'.get? b=some o) (hC:h'.Ns g.objs.size fun _=>none) :
  Inv (cxG X scope fr xs g.objs.size (s.heap.objs.size::fp) { s with heap:=g } H) (X.pn++pins++[(s.heap.objs.size,LCg.lst [])]) (nons xs++frOf fr σ) H { s with heap:=h',toks:=tk }:=by
 have hsz:g.objs.size=s.heap.objs.size+1:=by rw[hg,Heap.size_push]
 have kp:∀ b o,s.heap.get? b=some o->g.get? b=some o:=fun b o e=>by rw[hg];exact Heap.get?_push_of_some _ e
 have hk0:∀ b o,s.heap.get? b=some o->h'.get? b=some o:=fun b o e=>hk b o (kp b o e)
 have hDo:h'.get? s.heap.objs.size=some (LCg.lst []):=hk _ _ (by rw[hg];exact Heap.get?_push_size _ rfl)
 have neC:∀ b,b<s.heap.objs.size->b≠g.objs.size:=fun b e=>by rw[hsz];exact CJ (DY e)
 have hDC:s.heap.objs.size≠g.objs.size:=by rw[hsz];exact CJ (DF _)
 have hfr:H g.objs.size=none:=I.hok.fresh (by rw[hsz];exact DG _)
 have hfD:H s.heap.objs.size=none:=I.hok.fresh (Cg _)
 have cne:∀ y c,X.env.cells.lookup y=some c->c<s.heap.objs.size:=fun y c e=>by
  obtain⟨v,q⟩:=I.cell y c e
  exact q.lt
 have nst:∀ b,b≠X.env.locals->b∉X.fs->b∉frs X.stack:=fun b h1 h2 z=>(Co.mp (I.stkSub b z)).elim h1 h2
 have nstD:s.heap.objs.size∉frs X.stack:=nst _ (DN I.lt) (I.nofs (Cg _))
 refine⟨⟨I.ok.mod,O.kind,I.ok.glob,I.ok.blt,Cg _,?_,?_,fun _ _ z _=>(by cases z),I.ok.hd,I.ok.frames,.inl rfl,?_,?_,?_,?_,?_,?_,I.stkFree⟩,rfl,I.bare,Un.kept hk,?_,?_,hfr,?_,?_,I.hok.kept hk0,?_⟩
 ·intro y z c h1 h2
  exact I.ok.inj y z c (O.cells I h1) (O.cells I h2)
 ·intro y hy
  have hm:y∈fr.map (·.1):=by
   rcases hy with hy | hy
   ·exact O.has (y,_) (C9 hy) (.inl rfl)
   ·exact O.has (y,_) (C9 hy) (.inr rfl)
  exact⟨_,bB hm⟩
 ·intro b hb
  rcases Co.mp hb with rfl | hb
  ·exact⟨hDC,fun y c e=>CJ (cne y c (O.cells I e))⟩
  ·exact⟨neC b (hfs b hb),fun y c e=>(hf b hb).2.2.2.2.1 y c (O.cells I e)⟩
 ·intro b o e
  exact⟨kp b o (I.bs b o e).1,(I.bs b o e).2⟩
 ·show X.base.objs.size<=g.objs.size
  rw[hsz]
  exact Nat.le_succ_of_le (C6 I.ok.bsz I.sz)
 ·intro b o e hb
  rcases Co.mp hb with z | hb
  ·have:=Heap.lt_size (I.bs b o e).1
   rw[z]at this
   exact C4 _ this
  ·rcases(hf b hb).2.2.2.1 with z | z
   ·exact I.ok.noex b o e z
   ·exact absurd (CI (Heap.lt_size (I.ok.bs b o e).1) z) (C4 _)
 ·intro b hb
  rcases Co.mp hb with z | hb
  ·rw[z];exact nstD
  ·exact nst b (hf b hb).2.1 (hf b hb).2.2.1
 ·exact(I.kept (h':=g) (t':=s.toks) kp).stack
 ·refine⟨_,hC,fun i y v e1 e2 e3=>?_⟩
  have e1a:(xs++fr.map (·.1))[i]?=some y:=e1
  by_cases hi:i<xs.length
  ·rw[Cj (by simpa using hi)]at e2
   rw[Dz,if_pos hi]at e2
   cases e2
  ·have e1':(fr.map (·.1))[i-xs.length]?=some y:=by
    rw[Cf (by omega)]at e1a
    exact e1a
   have e2':(frOf fr σ)[i-xs.length]?=some (some v):=by
    rw[Cf (by simp;omega)]at e2
    simpa using e2
   generalize i-xs.length=k at e1' e2'
   unfold frOf at e2'
   rw[CH]at e1' e2'
   cases q:fr[k]? with
   |none=>rw[q]at e1';cases e1'
   |some p =>
    rw[q]at e1' e2'
    have ey:p.1=y:=Cz e1'
    have ev:(σ[p.2]?).join=some v:=Cz e2'
    have hp:p∈fr:=Ce q
    obtain⟨hN,hK⟩:=O.slot p hp
    have hkk:=O.frk p hp
    rw[ey]at hN hK hkk
    have ev':σ[p.2]?=some (some v):=by
     cases q2:σ[p.2]? with
     |none=>rw[q2]at ev;cases ev
     |some w=>rw[q2]at ev;exact congrArg some ev
    obtain⟨m,hn,hl⟩:=I.loc
    obtain⟨u,r,l⟩:=hl p.2 y v hN ev' (.inr (.inl hK))
    refine⟨u,r,?_⟩
    rcases l with⟨k1,_⟩ | ⟨_,c,ec,z⟩
    ·rw[hK]at k1;cases k1
    ·have hm:y∈fr.map (·.1):=by rw[← ey];exact Dc.mpr ⟨p,hp,rfl⟩
     have el:=bB (env:=X.env) hm
     rw[ec]at el
     exact .inr ⟨.inl hkk,c,el,by obtain⟨o,ho,hd⟩:=z;exact⟨o,hk0 _ _ ho,hd⟩⟩
 ·intro y c e
  obtain⟨v,o,ho,hd⟩:=I.cell y c (O.cells I e)
  exact⟨v,o,hk0 _ _ ho,hd⟩
 ·intro y c e
  exact I.freeC y c (O.cells I e)
 ·intro p hp
  rcases CA.mp hp with hp | hp
  ·cases hp
  ·rcases CA.mp hp with hp | hp
   ·obtain⟨e,n,ne,nf,d⟩:=I.pin p hp
    exact⟨hk0 _ _ e,n,neC _ (Heap.lt_size e),nst _ ne nf,d⟩
   ·have ep:p=(s.heap.objs.size,LCg.lst []):=by simpa using hp
    subst ep
    exact⟨hDo,hfD,hDC,nstD,fun v z=>by cases z⟩
 ·show(nons xs++frOf fr σ).length=(xs++fr.map (·.1)).length
  unfold frOf
  simp
theorem rC{fp:List Addr}{g:Heap}{s':Shared}{H':Hp}{σ':St}{ys:List V}{us:List Value}(I:Inv X pins σ H s)(hf:∀ b∈fp,FpOk X pins H b)(hg:g=s.heap.push (LCg.lst []))
  (J:Inv (cxG X scope fr xs g.objs.size (s.heap.objs.size::fp) { s with heap:=g } H) (X.pn++pins++[(s.heap.objs.size,LCg.lst us)]) σ' H' s') (hv:Vals ys us) (hl:ys.length<=sizeLine) :
  Inv X pins σ (upd H' s.heap.objs.size (.lst ys)) s'/\H' s.heap.objs.size=none/\FpOk X pins (upd H' s.heap.objs.size (.lst ys)) g.objs.size/\∃ m,s'.heap.Ns g.objs.size m:=by
 have hsz:g.objs.size=s.heap.objs.size+1:=by rw[hg,Heap.size_push]
 have kp:∀ b o,s.heap.get? b=some o->g.get? b=some o:=fun b o e=>by rw[hg];exact Heap.get?_push_of_some _ e
 obtain⟨eD,nD,_,_,_⟩:=J.pin (s.heap.objs.size,LCg.lst us) (by simp)
 have hDC:g.objs.size≠s.heap.objs.size:=by rw[hsz];exact DN (DF _)
 have nD':∀ b u,H' b=some u->b≠s.heap.objs.size:=fun b u e z=>by rw[z]at e;rw[e]at nD;cases nD
 have hx:∀ b o,s.heap.get? b=some o->b∉fp->b∉s.heap.objs.size::fp:=fun b o e hb z=>by
  rcases Co.mp z with z | z
  ·have:=Heap.lt_size e
   rw[z]at this
   exact C4 _ this
  ·exact hb z
 have bU:Un (frs X.stack) (s.heap.objs.size::fp) H H' g s'.heap:=J.base
 have ltD:∀ b o,s.heap.get? b=some o->b≠s.heap.objs.size:=fun b o e=>CJ (Heap.lt_size e)
 have un:Un (frs X.stack) fp H (upd H' s.heap.objs.size (.lst ys)) s.heap s'.heap:=by
  refine⟨fun b o e n hb he=>bU.keep b o (kp b o e) n hb (hx b o e he),fun b o e n hb he=>bU.slot b o (kp b o e) n hb (hx b o e he),fun b o e n he=>?_,fun b o e he=>bU.there b o (kp b o e) (hx b o e he),fun b xs e=>?_,fun b o u e=>?_,fun b ps e=>?_⟩
  ·rw[ao (ltD b o e)];exact bU.free b o (kp b o e) n (hx b o e he)
  ·have q:=bU.tups b xs e
   rw[ao (nD' b _ q)];exact q
  ·have q:=bU.frzs b o u e
   rw[ao (nD' b _ q)];exact q
  ·obtain⟨more,q⟩:=bU.tbls b ps e
   exact⟨more,by rw[ao (nD' b _ q)];exact q⟩
 have hok:HOk X.prog X.w (upd H' s.heap.objs.size (.lst ys)) s'.heap:=fun b u e=>by
  by_cases hb:b=s.heap.objs.size
  ·rw[hb,ae]at e
   cases e
   rw[hb]
   exact⟨hl,us,us.length,hv,eD⟩
  ·rw[ao hb]at e
   exact(J.hok b u e).stay (fun c v _ q=>q) (fun c q=>by rw[ao (nD' c _ q)];exact q) fun c xs q=>by rw[ao (nD' c _ q)];exact q
 have os:s'.os=s.os:=J.os
 refine⟨I.call' os un hok J.bare fun b hb=>⟨(hf b hb).2.2.2.1,(hf b hb).2.1,(hf b hb).2.2.2.2⟩,nD,?_,?_⟩
 ·refine I.fpOk (H':=upd H' s.heap.objs.size (.lst ys)) (b:=g.objs.size) (by rw[hsz];exact DG _) ?_
  rw[ao hDC]
  exact J.free
 ·obtain⟨m,hn,_⟩:=J.loc
  exact⟨m,hn⟩
end
def PTs(X:Cx)(ifs:List Expr)(t:TT):Prop :=
 ∀(pins:List (Addr×Obj))(s:Shared)(σ:St)(H:Hp)(Q:Bool->Hp->Prop),Inv X pins σ H s->t σ H Q ->
  wpAny (model X.prog X.w) X.A (forIn ifs true fun c r=>if r=true then do let ok ← isTrue c X.env (eval c X.env);pure (ForInStep.yield ok) else pure (ForInStep.yield r)) (fun b s'=>∃ H',Inv X pins σ H' s'/\Q b H') X.xe s
def tYes:TT:=fun _ H Q=>Q true H
theorem jU{X:Cx}:PTs X [] tYes:=fun _ _ _ H _ I h=>wpAny_tests_nil ⟨H,I,h⟩
section
variable{prog:Program}{w:World}{A:Around}{s:Shared}
theorem zp{elt target iter:Expr}{ifs:List Expr}{scope:Scope}{pos:Pos}{it acc:Value}{env:Env}{R:Result->Shared->Prop}(I:Nat->Shared->Prop)
  (turn:∀ n s,I n s->wpAny (model prog w) A (pyNext it) (fun r s₁=>match r with
   |none=>R (.ok .next) s₁
   |some v=>wpAny (model prog w) A (letOwnedTupleGo target it v) (fun _ s₀=>wpAny (model prog w) A (assign target env v) (fun _ s₂ =>
     wpAny (model prog w) A (forIn ifs true fun c r=>if r=true then do let ok ← isTrue c env (eval c env);pure (ForInStep.yield ok) else pure (ForInStep.yield r)) (fun ok s₃=>if ok=true then wpAny (model prog w) A (eval elt env) (fun x s₄ =>
      wpAny (model prog w) A (call (.builtin "list.append") [acc,x]) (fun _ s₅=>∃ m,m<n/\I m s₅) (notedBy (model prog w) A env fun e s'=>R (.error e) s') s₄) (notedBy (model prog w) A env fun e s'=>R (.error e) s') s₃
      else ∃ m,m<n/\I m s₃) (notedBy (model prog w) A env fun e s'=>R (.error e) s') s₂)
     (notedBy (model prog w) A env fun e s'=>R (.error e) s') s₀) (notedBy (model prog w) A env fun e s'=>R (.error e) s') s₁) (notedBy (model prog w) A env fun e s'=>R (.error e) s') s)
  (n:Nat) (h:I n s):codeAny (model prog w) A (.compLoop (.ListComp elt [⟨target,iter,ifs,0⟩] scope pos) 0 it acc env) R s:=by
 refine codeAny_loop rfl I (fun n s hI=>?_) n h
 show wpAny _ A ((compTurn (.ListComp elt [⟨target,iter,ifs,0⟩] scope pos) 0 it acc env).onRaise (fun x=>do noteFrame x env;theTreesLotGoes x)) _ _ s
 refine wpAny_noted ?_
 rw[compTurn_list]
 refine wpAny_bind (wpAny_standAt (wpAny_bind (wpAny_mono (turn n s hI) (fun r s₁ h₁=>?_) fun _ _ h'=>h')))
 cases r with
 |none=>exact wpAny_pure h₁
 |some v =>
  refine wpAny_bind (wpAny_mono h₁ (fun _ s₀ h₀'=>?_) fun _ _ h'=>h')
  refine wpAny_bind (wpAny_mono h₀' (fun _ s₂ h₂=>?_) fun _ _ h'=>h')
  refine wpAny_bind (wpAny_mono h₂ (fun okb s₃ h₃=>?_) fun _ _ h'=>h')
  cases okb with
  |false=>exact wpAny_pure ⟨rfl,h₃⟩
  |true=>exact wpAny_bind (wpAny_bind (wpAny_mono h₃ (fun x s₄ h₄=>wpAny_bind (wpAny_mono h₄ (fun _ s₅ h₅=>wpAny_pure (wpAny_pure ⟨rfl,h₅⟩)) fun _ _ h'=>h')) fun _ _ h'=>h'))
end
def pJ(g:TG)(tt:TT)(te:TE)(n:Nat)(fv:St)(J:It)(H1:Hp)(QQ:List V->Hp->Prop):Prop :=
 ∃ W:Nat->Nat->List V->Hp->Prop,(∃ m,W 0 m [] H1)/\∀ i m ys H,W i m ys H->ys.length<=sizeLine /\
  ((J.stop i H/\QQ ys H)∨(J.go i H/\∃ N:List V->Hp->Prop,(∀ zs H2,N zs H2->∃ m',m'<m/\W (i+1) m' zs H2) /\
   ∀ x H',J.yld i H x H'->g x (Ci n none++fv) H' fun σ2 H2=>σ2.drop n=fv/\tt σ2 H2 fun b H3=>if b=true then te σ2 H3 (fun y H4=>N (ys++[y]) H4) else N ys H3))
section
variable{X:Cx}{scope:Scope}{fr:List (Str×Nat)}{xs:List Str}{elt iter tg:Expr}{ifs:List Expr}{pos:Pos}{te:TE}{tt:TT}{tgt:TG}{wi:TI}
theorem pS{pins:List (Addr×Obj)}{σ:St}{H:Hp}{s:Shared}{E:Value->Shared->Prop}{it:Addr}{fp:List Addr}{tn:Nat->Heap->Prop}{J:It}{RR:Value->Addr->Result->Shared->Prop}{QQ:List V->Hp->Prop}(hc:X.calm=true)(O:jO X scope fr xs)
  (hg0:∀ C ex s H,PG (cxG X scope fr xs C ex s H) tg tgt) (ht:∀ C ex s H,PTs (cxG X scope fr xs C ex s H) ifs tt) (he:∀ C ex s H,PE (cxG X scope fr xs C ex s H) elt te) (I:Inv X pins σ H s) (T:Turn X.prog X.w X.K tg J fp it tn) (st:tn 0 s.heap) (hf:∀ b∈fp,FpOk X pins H b) (hq:pJ tgt tt te xs.length (frOf fr σ) J H QQ)
  (fin:∀ D C H4 ys s4 m,Inv X pins σ (upd H4 D (.lst ys)) s4->H4 D=none->FpOk X pins (upd H4 D (.lst ys)) C->s4.heap.Ns C m->QQ ys H4->RR (.ref D) C (.ok .next) s4) :
  wpAny (model X.prog X.w) X.A (newList []) (fun acc s₃=>wpAny (model X.prog X.w) X.A (newFunctionEnv scope X.env.globals (clOf X.env fr) [] X.env.qual none .none (some X.env)) (fun cenv s₄ =>
   codeAny (model X.prog X.w) X.A (.compStart (.ListComp elt [⟨tg,iter,ifs,0⟩] scope pos) 0 (.ref it) acc { cenv with scope:=relabel scope X.env }) (RR acc cenv.locals) s₄) E s₃) E s:=by
 obtain⟨W,⟨m0,w0⟩,turn⟩:=hq
 have hfs:∀ b∈fp,b<s.heap.objs.size:=fun b hb=>by
  obtain⟨o,e,_⟩:=T.obj 0 s.heap st b hb
  exact Heap.lt_size e
 refine wpAny_newObj_type (wpAny_newFunctionEnv O.cell (by intro y hy;simp at hy) (fun h₁ hns₁ hsb₁=>?_) O.kind)
 dsimp only at hns₁ hsb₁ ⊢
 generalize hH2:s.heap.push { cls:=.type "list",dict:=none,data:=.seq ([]:List Value).toArray }=g at hns₁ hsb₁ ⊢
 have hg:g=s.heap.push (LCg.lst []):=hH2.symm
 have hsz:g.objs.size=s.heap.objs.size+1:=by rw[hg,Heap.size_push]
 have hk:∀ b o,g.get? b=some o->h₁.get? b=some o:=fun b o e=>hsb₁.extBut b o (CJ (Heap.lt_size e)) (Heap.get?_push_of_some _ e)
 have kp:∀ b o,s.heap.get? b=some o->h₁.get? b=some o:=fun b o e=>hk b o (by rw[hg];exact Heap.get?_push_of_some _ e)
 have J0:=yQ (h':=h₁) (tk:=s.toks+([]:List (Str×Value)).length) O I hf hfs hg hk hns₁
 have stat:∀{H':Hp}{us:List Value},(∀ b∈fp,H' b=none)->∀ b∈fp,FpOk (cxG X scope fr xs g.objs.size (s.heap.objs.size::fp) { s with heap:=g } H) (X.pn++pins++[(s.heap.objs.size,LCg.lst us)]) H' b:=fun{H' us} hn b hb=>by
  obtain⟨_,f1,f2,f3,f4,f5⟩:=hf b hb
  refine⟨hn b hb,?_,fun z=>(Co.mp (I.stkSub b z)).elim f1 f2,.inl (CN _ hb),fun y c e=>f4 y c (O.cells I e),fun p hp=>?_⟩
  ·show b≠g.objs.size
   rw[hsz];exact CJ (DY (hfs b hb))
  ·rcases CA.mp hp with hp | hp
   ·cases hp
   ·rcases CA.mp hp with hp | hp
    ·exact f5 p hp
    ·have ep:p=(s.heap.objs.size,LCg.lst us):=by simpa using hp
     rw[ep]
     exact DN (hfs b hb)
 have loop:codeAny (model X.prog X.w) X.A (.compLoop (.ListComp elt [⟨tg,iter,ifs,0⟩] scope pos) 0 (.ref it) (.ref s.heap.objs.size) (compEnvC scope (clOf X.env fr) g.objs.size X.env))
   (RR (.ref s.heap.objs.size) g.objs.size) { s with heap:=h₁,toks:=s.toks+([]:List (Str×Value)).length }:=by
  refine zp (fun n s'=>∃ i ys us H',Inv (cxG X scope fr xs g.objs.size (s.heap.objs.size::fp) { s with heap:=g } H) (X.pn++pins++[(s.heap.objs.size,LCg.lst us)]) (nons xs++frOf fr σ) H' s'/\Vals ys us/\tn i s'.heap/\(∀ b∈fp,H' b=none)/\W i n ys H') ?_ m0
   ⟨0,[],[],H,J0,.nil,T.keep 0 s.heap h₁ st fun b _ o e=>kp b o e,fun b hb=>(hf b hb).1,w0⟩
  rintro n s3 ⟨i,ys,us,H3,J3,hv,st3,fr3,w3⟩
  obtain⟨hlen,hh⟩:=turn i n ys H3 w3
  have none_err:∀{α:Type}{t:Sem α}{Q:α->Shared->Prop}{E':Value->Shared->Prop}{s:Shared},wpAny (model X.prog X.w) X.A t Q (fun _ _=>False) s->wpAny (model X.prog X.w) X.A t Q E' s:=fun h=>wpAny_mono h (fun _ _ q=>q) fun _ _ z=>z.elim
  have weakN:∀{σ6:St},σ6.length=(nons xs++frOf fr σ).length->σ6.drop xs.length=frOf fr σ->∀(i:Nat) v,(nons xs++frOf fr σ)[i]?=some (some v)->σ6[i]?=some (some v):=fun{σ6} hl6 e6 i v e=>by
   by_cases hi:i<xs.length
   ·rw[Cj (by simpa using hi),Dz,if_pos hi]at e
    cases e
   ·rw[Cf (by simp;omega),← e6,List.getElem?_drop]at e
    have:xs.length+(i-(nons xs).length)=i:=by simp;omega
    rw[this]at e
    exact e
  rcases hh with⟨stop,qn⟩ | ⟨go,N,hN,step⟩
  ·refine none_err (thn (T.done (cxG X scope fr xs g.objs.size (s.heap.objs.size::fp) { s with heap:=g } H) rfl rfl rfl hc i _ s3 _ H3 _ J3 (stat fr3) st3 stop) fun r s4 ⟨hr,J4⟩=>?_)
   subst hr
   obtain⟨I4,nD,fC,m,hn⟩:=rC I hf hg J4 hv hlen
   exact fin _ _ H3 ys s4 m I4 nD fC hn qn
  ·refine none_err (thn (T.item (cxG X scope fr xs g.objs.size (s.heap.objs.size::fp) { s with heap:=g } H) rfl rfl rfl hc i _ s3 _ H3 _ J3 (stat fr3) st3 go) fun r s4 ⟨u,hr,h4⟩=>?_)
   subst hr
   refine none_err (thn h4 fun _ s5 ⟨v,H5,J5,r5,y5,st5,fr5⟩=>?_)
   have J5':=J5.pinned (stat fr5) (T.obj _ _ st5)
   refine none_err (thn (hg0 _ _ _ _ _ s5 _ H5 v u _ J5' r5 (step v H5 y5)) fun _ s6 ⟨σ6,H6,J6,e6,q6⟩=>?_)
   refine none_err (thn (ht _ _ _ _ _ s6 σ6 H6 _ J6 q6) fun b s6' ⟨H6',J6',q6'⟩=>?_)
   have hl6:σ6.length=(nons xs++frOf fr σ).length:=J6.len.trans J3.len.symm
   cases b with
   |false =>
    rw[if_neg CM]at q6' ⊢
    obtain⟨m',hm,w7⟩:=hN ys H6' q6'
    have pinF:∀ b∈fp,∀ o,s5.heap.get? b=some o->s6'.heap.get? b=some o/\H6' b=none:=fun b hb o e=>by
     obtain⟨q1,q2,_⟩:=J6'.pin (b,o) (Cm _ (Cm _ (eZ hb e)))
     exact⟨q1,q2⟩
    refine⟨m',hm,i+1,ys,us,H6',J6'.unpinned.weak (σ':=nons xs++frOf fr σ) hl6.symm (weakN hl6 e6),hv,T.keep _ _ _ st5 fun b hb o e=>(pinF b hb o e).1,fun b hb=>?_,w7⟩
    obtain⟨o,e,_⟩:=T.obj _ _ st5 b hb
    exact(pinF b hb o e).2
   |true =>
    rw[if_pos rfl]at q6' ⊢
    refine none_err (thn (he _ _ _ _ _ s6' _ H6' _ J6' q6') fun u7 s7 ⟨v7,H7,J7,r7,q7⟩=>?_)
    obtain⟨m',hm,w7⟩:=hN _ H7 q7
    obtain⟨eD,nD,dC,dF,dd⟩:=J7.pin (s.heap.objs.size,LCg.lst us) (Cm _ (C1 _ (Cm _ (by simp))))
    have hvl:=hv.length
    refine append_at (hsz:=by show us.toArray.size<=sizeLine;rw[Cy,← hvl];exact hlen) eD fun h8 hs8 hD8=>?_
    have pinD:∀ p∈X.pn++pins,p.1≠s.heap.objs.size:=fun p hp z=>by
     have:=Heap.lt_size (I.pin p hp).1
     rw[z]at this
     exact C4 _ this
    have J7a:Inv (cxG X scope fr xs g.objs.size (s.heap.objs.size::fp) { s with heap:=g } H) (X.pn++pins) _ H7 s7:=J7.pins_of fun p hp=>J7.pin p (Cm _ (C1 _ (C1 _ hp)))
    have J8:Inv (cxG X scope fr xs g.objs.size (s.heap.objs.size::fp) { s with heap:=g } H) (X.pn++pins) _ H7 { s7 with heap:=h8 }:=J7a.turned (t':=s7.toks) (fun b o hb e=>(hs8.2 b hb).trans e) nD dC (.inl CG) (fun y c e z=>by
     obtain⟨w',q⟩:=I.cell y c (O.cells I e)
     have:=q.lt
     rw[z]at this
     exact C4 _ this) (fun p hp=>(CA.mp hp).elim (fun z=>by cases z) (pinD p))
    have J9:Inv (cxG X scope fr xs g.objs.size (s.heap.objs.size::fp) { s with heap:=g } H) (X.pn++pins++[(s.heap.objs.size,LCg.lst (us++[u7]))]) _ H7 { s7 with heap:=h8 }:=J8.pins_of fun p hp=>by
     rcases CA.mp hp with hp | hp
     ·exact J8.pin p (Cm _ hp)
     ·have ep:p=(s.heap.objs.size,LCg.lst (us++[u7])):=by simpa using hp
      subst ep
      exact⟨hD8.trans (congrArg some (LCg.lst_snoc us u7)),nD,dC,dF,fun v z=>by cases z⟩
    have J10:=J9.weak (σ':=nons xs++frOf fr σ) hl6.symm (weakN hl6 e6)
    have pinF:∀ b∈fp,∀ o,s5.heap.get? b=some o->s7.heap.get? b=some o/\H7 b=none:=fun b hb o e=>by
     obtain⟨q1,q2,_⟩:=J7.pin (b,o) (Cm _ (Cm _ (eZ hb e)))
     exact⟨q1,q2⟩
    refine⟨m',hm,i+1,ys++[v7],us++[u7],H7,J10,hv.append (.cons r7 .nil),T.keep _ _ _ st5 fun b hb o e=>(hs8.2 b (CJ (hfs b hb))).trans (pinF b hb o e).1,fun b hb=>?_,w7⟩
    obtain⟨o,e,_⟩:=T.obj _ _ st5 b hb
    exact(pinF b hb o e).2
 exact codeAny_compStart_list loop (T.self X.A 0 _ _ _ (T.keep 0 s.heap h₁ st fun b _ o e=>kp b o e) loop)
def tCompE(wi:TI)(g:TG)(tt:TT)(te:TE)(n:Nat)(fr:List (Str×Nat)):TE:=fun σ H Q=>wi σ H fun J H1=>pJ g tt te n (frOf fr σ) J H1 fun ys H2=>∀ D,H2 D=none->Q (.ref D) (upd H2 D (.lst ys))
theorem l7(hc:X.calm=true)(O:jO X scope fr xs)(hi:PI X tg iter wi)(hg0:∀ C ex s H,PG (cxG X scope fr xs C ex s H) tg tgt)(ht:∀ C ex s H,PTs (cxG X scope fr xs C ex s H) ifs tt)(he:∀ C ex s H,PE (cxG X scope fr xs C ex s H) elt te)(hs:∀ x,foldedSetIterable iter X.env x=pure x:=by intro _;rfl) :
  PE X (.ListComp elt [⟨tg,iter,ifs,0⟩] scope pos) (tCompE wi tgt tt te xs.length fr):=by
 intro pins s σ H Q I h
 rw[eval_ListComp]
 refine wpAny_comprehension_free (use:=none) rfl hs O.clos O.kind O.names (thn (hi pins s σ H _ I h) fun xv s1 h1=>thn h1 fun itv s2 h2=>?_)
 obtain⟨it,fp,tn,J,H2,e,I2,T,st2,f2,q2⟩:=h2
 subst e
 refine pS (RR:=fun acc C=>compPost (model X.prog X.w) X.A X.xe none (EP X pins σ Q) acc C) hc O hg0 ht he I2 T st2 f2 q2 ?_
 intro D C H4 ys s4 m I4 nD fC hn q4
 refine⟨m,hn,fun h' hs'=>?_⟩
 obtain⟨g0,g1,g2,g3,g4,g5⟩:=fC
 exact⟨.ref D,_,I4.turned (t':=s4.toks) (fun b o hb e=>(hs'.2 b hb).trans e) g0 g1 g3 g4 g5,rfl,q4 D nD⟩
def xR(i:Nat)(wi:TI)(g:TG)(tt:TT)(te:TE)(n:Nat)(fr:List (Str×Nat)):TS:=fun D σ H=>wi σ H fun J H1=>pJ g tt te n (frOf fr σ) J H1 fun ys H2=>∀ a,H2 a=none->D.nx (σ.set i (some (.ref a))) (upd H2 a (.lst ys))
theorem my{i:Nat}{y:Str}{py spos:Pos}(hc:X.calm=true)(hN:X.N.Nodup)(hi':X.N[i]?=some y)(hy:X.env.scope.names.lookup y=some .local)(O:jO X scope fr xs)(hi:PI X tg iter wi)(hg0:∀ C ex s H,PG (cxG X scope fr xs C ex s H) tg tgt)(ht:∀ C ex s H,PTs (cxG X scope fr xs C ex s H) ifs tt)(he:∀ C ex s H,PE (cxG X scope fr xs C ex s H) elt te)
  (hsw:swapsWith (.ListComp elt [⟨tg,iter,ifs,0⟩] scope pos) (some (.Name y py)) spos.line X.env=pure true:=by rfl) (hs:∀ x,foldedSetIterable iter X.env x=pure x:=by intro _;rfl) :
  PS X (.Assign [.Name y py] (.ListComp elt [⟨tg,iter,ifs,0⟩] scope pos) spos) (xR i wi tgt tt te xs.length fr):=by
 intro pins s σ H D I h
 rw[exec_Assign_Name_used _ _ _ _ hsw]
 refine wpAny_bind (wpAny_standAt (wpAny_bind ?_))
 show wpAny _ X.A (do let _ ← comprehension (.ListComp elt [⟨tg,iter,ifs,0⟩] scope pos) scope X.env _ (newList []) false (eval iter X.env) (some (assign (.Name y py) X.env))) _ _ s
 refine wpAny_bind (thn (wpAny_comprehension_free (use:=some (assign (.Name y py) X.env)) (Q:=fun _ s'=>SP X pins D .next s') rfl hs O.clos O.kind O.names (thn (hi pins s σ H _ I h) fun xv s1 h1=>thn h1 fun itv s2 h2=>?_)) fun _ s' hq=>wpAny_pure (wpAny_pure hq))
 obtain⟨it,fp,tn,J,H2,e,I2,T,st2,f2,q2⟩:=h2
 subst e
 refine pS (RR:=fun acc C=>compPost (model X.prog X.w) X.A X.xe (some (assign (.Name y py) X.env)) (fun _ s'=>SP X pins D .next s') acc C) hc O hg0 ht he I2 T st2 f2 q2 ?_
 intro a C H4 ys s4 m I4 nD fC hn q4
 obtain⟨g0,g1,g2,g3,g4,g5⟩:=fC
 obtain⟨oC,eC,hoC⟩:=LCg.ns_obj hn
 have I5:Inv X (pins++[(C,oC)]) σ (upd H4 a (.lst ys)) s4:=I4.pins_of fun p hp=>by
  rcases CA.mp hp with hp | hp
  ·exact I4.pin p (Cm _ hp)
  ·have ep:p=(C,oC):=by simpa using hp
   subst ep
   obtain⟨es,epp,hd,_⟩:=hoC
   exact⟨eC,g0,g1,g2,fun v z=>by rw[hd]at z;cases z⟩
 show wpAny _ X.A (assign (.Name y py) X.env (.ref a)) _ _ _
 refine wpAny_assign_Name (jl I5 hN hi' (.inl hy) (v:=.ref a) rfl (fun s6 I6=>?_) (.inr hy))
 obtain⟨e6,_⟩:=I6.pin (C,oC) (Cm _ (Cm _ (by simp)))
 refine⟨m,hoC.ns e6,fun h' hs'=>?_⟩
 exact⟨_,_,I6.unpinned.turned (t':=s6.toks) (fun b o hb e=>(hs'.2 b hb).trans e) g0 g1 g3 g4 g5,q4 a nD⟩
end
theorem xy{K:B9}{a:Addr}{xs:List V}{g:TG}{tt:TT}{te:TE}{n:Nat}{fv:St}{H1:Hp}{QQ:List V->Hp->Prop}(Pv:Nat->List V->Hp->Prop)(hz:xs.length<=sizeLine)(h0:Pv 0 [] H1)(hl:∀ i ys H,i<=xs.length->Pv i ys H->SqL K H a xs)
  (hs:∀ i x ys H,xs[i]?=some x->Pv i ys H->g x (Ci n none++fv) H fun σ2 H2=>σ2.drop n=fv/\tt σ2 H2 fun b H3=>if b=true then te σ2 H3 (fun y H4=>Pv (i+1) (ys++[y]) H4) else Pv (i+1) ys H3) (hd:∀ ys H,Pv xs.length ys H->QQ ys H) (hy:∀ i ys H,Pv i ys H->ys.length<=i)
  : pJ g tt te n fv (Itl K a) H1 QQ:=by
 refine⟨fun i m ys H=>m=xs.length-i/\i<=xs.length/\Pv i ys H,⟨xs.length,by simp,Dm _,h0⟩,?_⟩
 rintro i m ys H ⟨rfl,hi,p⟩
 have q:=hl i ys H hi p
 have hyl:=hy i ys H p
 refine⟨by omega,?_⟩
 by_cases hlt:i<xs.length
 ·refine .inr ⟨⟨xs,xs[i],q,by simp[hlt]⟩,fun zs H2=>Pv (i+1) zs H2,fun zs H2 p2=>⟨xs.length-(i+1),by omega,rfl,hlt,p2⟩,fun x H' y=>?_⟩
  obtain⟨e,y⟩:=y
  subst e
  exact hs i x ys _ (y xs q) p
 ·have e:i=xs.length:=by omega
  subst e
  exact .inl ⟨⟨xs,q,Cg _⟩,hd ys H p⟩
theorem jc{lo:Int}{k:Nat}{g:TG}{tt:TT}{te:TE}{n:Nat}{fv:St}{H1:Hp}{QQ:List V->Hp->Prop}(Pv:Nat->List V->Hp->Prop)(hz:k<=sizeLine)(h0:Pv 0 [] H1)
  (hs:∀ i ys H,i<k->Pv i ys H->g (.int (lo+i)) (Ci n none++fv) H fun σ2 H2=>σ2.drop n=fv/\tt σ2 H2 fun b H3=>if b=true then te σ2 H3 (fun y H4=>Pv (i+1) (ys++[y]) H4) else Pv (i+1) ys H3) (hd:∀ ys H,Pv k ys H->QQ ys H) (hy:∀ i ys H,Pv i ys H->ys.length<=i)
  : pJ g tt te n fv (Itr lo k) H1 QQ:=by
 refine⟨fun i m ys H=>m=k-i/\i<=k/\Pv i ys H,⟨k,by simp,Dm _,h0⟩,?_⟩
 rintro i m ys H ⟨rfl,hi,p⟩
 have hyl:=hy i ys H p
 refine⟨by omega,?_⟩
 by_cases hlt:i<k
 ·refine .inr ⟨hlt,fun zs H2=>Pv (i+1) zs H2,fun zs H2 p2=>⟨k-(i+1),by omega,rfl,hlt,p2⟩,fun x H' y=>?_⟩
  obtain⟨e,y⟩:=y
  subst e y
  exact hs i ys _ hlt p
 ·have e:i=k:=by omega
  subst e
  exact .inl ⟨Cg _,hd ys H p⟩
theorem pT{K:B9}{a:Addr}{xs:List V}{g:TG}{tt:TT}{te:TE}{n:Nat}{fv:St}{H1:Hp}{QQ:List V->Hp->Prop}(Pv:Nat->List V->Hp->Prop)(hz:xs.length<=sizeLine)(h0:Pv 0 [] H1)(hl:∀ i ys H,i<=xs.length->Pv i ys H->SqL K H a xs)
  (hs:∀ i x ys H T,xs[i]?=some x->Pv i ys H->H T=none->g (.ref T) (Ci n none++fv) (upd H T (.tup [.int (i:Int),x])) fun σ2 H2=>σ2.drop n=fv/\tt σ2 H2 fun b H3=>if b=true then te σ2 H3 (fun y H4=>Pv (i+1) (ys++[y]) H4) else Pv (i+1) ys H3) (hd:∀ ys H,Pv xs.length ys H->QQ ys H) (hy:∀ i ys H,Pv i ys H->ys.length<=i)
  : pJ g tt te n fv (Ite K a) H1 QQ:=by
 refine⟨fun i m ys H=>m=xs.length-i/\i<=xs.length/\Pv i ys H,⟨xs.length,by simp,Dm _,h0⟩,?_⟩
 rintro i m ys H ⟨rfl,hi,p⟩
 have q:=hl i ys H hi p
 have hyl:=hy i ys H p
 refine⟨by omega,?_⟩
 by_cases hlt:i<xs.length
 ·refine .inr ⟨⟨xs,xs[i],q,by simp[hlt]⟩,fun zs H2=>Pv (i+1) zs H2,fun zs H2 p2=>⟨xs.length-(i+1),by omega,rfl,hlt,p2⟩,fun v H' y=>?_⟩
  obtain⟨T,x,hT,rfl,rfl,y⟩:=y
  exact hs i x ys _ T (y xs q) p hT
 ·have e:i=xs.length:=by omega
  subst e
  exact .inl ⟨⟨xs,q,Cg _⟩,hd ys H p⟩
end L2
namespace L2
open PySem PySem.Spec PyProof.Rows
section
variable{X:Cx}{K:B9}{pos:Pos}
theorem rB(h:X.K=K):IxR X (rIxT K):=h▸cO
theorem yo{es:List Expr}{k:Nat}{t:TGs}{n:Nat}(hK:X.K=K)(hc:X.calm=true)(h:PGs X es t)(hn:(assignEach es X.env).length=n:=by rfl)(hst:(assignEach es X.env).findIdx? (·.1)=none:=by rfl):PG X (.Tuple es k pos) (gTup K n t):=hK▸pO hc h hn hst
theorem fg(h:X.K=K):k9 X (.type "list") (fun xs H Q=>∃ p ys,xs = [.ref p]/\(SqL K H p ys∨SqT K H p ys)/\∀ l,H l=none->Q (.ref l) (upd H l (.lst ys))):=h▸lC
theorem yp{e:Expr}{f:Str}{ta:TE}(h:X.K=K)(he:PE X e ta)(hb:attributeBase e f X.env (eval e X.env)=eval e X.env):PE X (.Attribute e f pos) (tFld K ta f):=h▸bo he hb
end
end L2
namespace L2
open PySem PySem.Spec PyProof.Rows
section
variable{X:Cx}
theorem rD:∀{ns:List Int}{us:List Value},Vals (ns.map V.int) us->IntsAre us ns
 |[],_,.nil=>.nil
 |n::ns,_,.cons r rr=>by
  obtain⟨t,rfl⟩:=r
  exact .cons n t (rD rr)
end
end L2
namespace L2
open PySem PySem.Spec PyProof.Rows
theorem me:∀{ps:List Nat},(∀ p∈ps,p<1000)->PyData.weightAll ((ps.map fun(p:Nat)=>((p:Nat):Int)).map PyData.int)<=12*ps.length
 |[],_=>by simp[PyData.weightAll]
 |p::ps,h=>by
  have ih:=me (ps:=ps) fun x hx=>h x (CN _ hx)
  have hp:=h p (by simp)
  have hw:PyData.weight (.int (p:Int))<=11:=by
   rw[PyData.weight]
   split
   ·exact Dm _
   ·rename_i z
    have z':p≠0:=fun e=>z (by rw[e];rfl)
    have e:((p:Int)).natAbs=p:=rfl
    rw[e]
    have:=(Nat.log2_lt z').mpr (show p<2^10 by omega)
    omega
  rw[C0,C0,PyData.weightAll,Df]
  omega
theorem Af{ps:List Nat}(h:∀ p∈ps,p<1000)(hl:ps.length<=1000):PyData.layable0 (.list ((ps.map fun(p:Nat)=>((p:Nat):Int)).map PyData.int))=true:=by
 have h1:=PySem.W.shaped_ints (ps.map fun(p:Nat)=>((p:Nat):Int))
 have h2:=me h
 have h3:PyData.weight (.list ((ps.map fun(p:Nat)=>((p:Nat):Int)).map PyData.int))<=2^20:=by
  rw[PyData.weight];omega +splitDisjunctions
 unfold PyData.layable0
 unfold SeqAt.shaped at h1
 rw[h1,decide_eq_true h3]
 rfl
section
variable{X:Cx}
def rIndex(K:B9):V->List V->Hp->VK->Prop:=fun x vs H Q=>∃(l:Addr)(ps:List Nat)(k:Nat),x=.ref l/\vs = [.int (k:Int)]/\SqL K H l (ps.map fun(p:Nat)=>V.int (p:Int))/\(∀ p∈ps,p<1000)/\ps.length<=1000/\k∈ps/\Q (.int ((ps.idxOf k:Nat):Int)) H
theorem An{ps:List Nat}{k:Nat}:(ps.map fun(p:Nat)=>((p:Nat):Int)).idxOf (k:Int)=ps.idxOf k:=by
 induction ps with
 |nil=>rfl
 |cons p ps ih =>
  rw[C0,List.idxOf_cons,List.idxOf_cons,ih]
  have e:(((p:Nat):Int) == (k:Int))=(p == k):=by
   by_cases h:p=k
   ·subst h;simp
   ·have h2:¬ (p:Int)=(k:Int):=fun z=>h (by omega)
    rw[beq_eq_false_iff_ne.mpr h,beq_eq_false_iff_ne.mpr h2]
  rw[e]
theorem Ac:MtM X "list.index" (rIndex X.K):=by
 intro pins s σ H x vs v us Q I rx rv h
 obtain⟨l,ps,k,rfl,rfl,hq,hs,hl,hk,q⟩:=h
 cases rx
 obtain⟨u,rfl,ru⟩:=rv.one
 obtain⟨t,rfl⟩:=ru
 have e:(ps.map fun(p:Nat)=>V.int (p:Int))=(ps.map fun(p:Nat)=>((p:Nat):Int)).map V.int:=by rw[List.map_map];rfl
 rw[e]at hq
 obtain⟨its,r,pl,hz⟩:=I.list hq
 refine index_list_ints pl.isList (rD r) (Af hs hl) (Dc.mpr ⟨k,hk,rfl⟩) ?_
 rw[An]
 exact⟨.int _,H,I.tok _,⟨_,rfl⟩,q⟩
theorem AI(hu:X.A.units+64<cLine):OpR X (compareOp .Eq) (fun x y H Q=>∃ d1 d2,RdD X.K H x d1/\RdD X.K H y d2/\SeqAt.shaped d1=true/\SeqAt.shaped d2=true/\Q (.bl (PyData.eqv d1 d2)) H):=by
 intro pins s σ H x y v u Q I rx ry h
 obtain⟨d1,d2,r1,r2,h1,h2,q⟩:=h
 obtain⟨as,q1⟩:=r1.reads I v rx
 obtain⟨bs,q2⟩:=r2.reads I u ry
 exact eq_dataH q1 q2 h1 h2 hu ⟨.bl _,H,I,rfl,q⟩
end
end L2
namespace L2
open PySem PySem.Spec PyProof.Rows
theorem xM:∀{us:List Value}{ns:List Int},IntsAre us ns->Vals (ns.map V.int) us
 |_,_,.nil=>.nil
 |_,_,.cons _ t r=>.cons ⟨t,rfl⟩ (xM r)
section
variable{X:Cx}
def yg(K:B9):List V->Hp->VK->Prop:=fun xs H Q=>∃(p:Addr)(ns:List Int),xs = [.ref p]/\SqL K H p (ns.map V.int)/\ns.length<64/\∀(l:Addr)(out:List Int),H l=none->out.Perm ns->out.Pairwise (·<=·)->Q (.ref l) (upd H l (.lst (out.map V.int)))
theorem vI:k9 X (.builtin "sorted") (yg X.K):=by
 intro pins s σ H xs us Q I r h
 obtain⟨p,ns,rfl,hq,h64,q⟩:=h
 obtain⟨u,rfl,ru⟩:=xN r
 cases ru
 obtain⟨its,rv,pl,hz⟩:=I.list hq
 have hi:=rD rv
 have hl:=rv.length
 rw[Cd]at hl
 refine sorted_ints pl.isList hi (by omega) fun out ns' a1 a2 a3=>?_
 obtain⟨e,he⟩:=sortedAll_at s.heap its out
 refine⟨.ref (s.heap.objs.size+1),_,I.laid (t':=s.toks) (fun _ _=>sortedAll_old) (DG _) (show bO X.prog X.w _ _ _ (.lst (ns'.map V.int)) from⟨?_,out.toList,e,xM a1,?_⟩),rfl,q _ ns' (I.hok.fresh (DG _)) a2 a3⟩
 ·rw[Cd,a2.length_eq]
  exact CQ (ar (by omega))
 ·exact he
theorem tS{K:B9}(h:X.K=K):k9 X (.builtin "sorted") (yg K):=h▸vI
end
end L2
namespace L2
open PySem PySem.Spec PyProof.Rows
section
variable{X:Cx}{tg:Expr}
end
end L2
namespace L2
open PySem PySem.Spec PyProof.Rows
section
variable{X:Cx}
def rCatS(K:B9):R2:=fun x y H Q=>∃ l b xs zs,x=.ref l/\y=.ref b/\SqL K H l xs/\SqL K H b zs/\xs.length+zs.length<=sizeLine/\∀ p,H p=none->Q (.ref p) (upd H p (.lst (xs++zs)))
theorem yt:OpR X (binaryOp .Add) (rCatS X.K):=by
 intro pins s σ H x y v u Q I rx ry h
 obtain⟨l,b,xs,zs,rfl,rfl,hH,hB,hz,q⟩:=h
 cases rx
 cases ry
 obtain⟨its,r,pl,_⟩:=I.list hH
 obtain⟨its2,r2,pl2,_⟩:=I.list hB
 obtain⟨⟨cls,dd,data,sl⟩,ho,hc,n,hd⟩:=pl.isList
 obtain⟨⟨cls2,dd2,data2,sl2⟩,ho2,hc2,n2,hd2⟩:=pl2.isList
 simp only at hc hd hc2 hd2
 subst hc hd hc2 hd2
 have ea:its.toArray++its2.toArray=(its++its2).toArray:=by simp
 have e1:=r.length
 have e2:=r2.length
 refine concat_meets ⟨_,ho,rfl⟩ ⟨_,ho2,rfl⟩ noFill_list_add seq_list_add PySem.F.slot_list_add PySem.F.entry_list_add (PySem.F.args_list_add_2 _ _) (list_addW l b its.toArray its2.toArray n n2 dd dd2 sl sl2 (by rw[Cy,Cy];omega)) ⟨ho,ho2,?_⟩
 rw[ea]
 exact⟨.ref _,_,I.lnew (t':=s.toks) (r.append r2) (by rw[Cb];omega),rfl,q _ I.fresh⟩
end
end L2
namespace L2
open PySem PySem.Spec PyProof.Rows
theorem yesT{σ:St}{H:Hp}{A B:Hp->Prop}(h:A H):tYes σ H fun b H3=>if b=true then A H3 else B H3 :=
 show(if true=true then A H else B H) from iteT (B:=B H) h
section
variable{X:Cx}
end
section
variable{X:Cx}
end
end L2
namespace L2
open PySem PySem.Spec PyProof.Rows
def LsAt{α:Type}(R:Hp->V->α->Prop)(H:Hp)(ys:List V)(xs:List α):Prop:=ys.length=xs.length/\∀(i:Nat)(x:α),xs[i]?=some x->∃ y,ys[i]?=some y/\R H y x
theorem LsAt.nil{α:Type}{R:Hp->V->α->Prop}{H:Hp}:LsAt R H [] []:=⟨rfl,fun i x e=>by simp at e⟩
theorem LsAt.imp{α:Type}{R R':Hp->V->α->Prop}{H H':Hp}{ys:List V}{xs:List α}(h:LsAt R H ys xs)(m:∀ y x,R H y x->R' H' y x):LsAt R' H' ys xs:=⟨h.1,fun i x e=>by
 obtain⟨y,a,b⟩:=h.2 i x e
 exact⟨y,a,m y x b⟩⟩
theorem LsAt.snoc{α:Type}{R:Hp->V->α->Prop}{H:Hp}{ys:List V}{xs:List α}{y:V}{x:α}(h:LsAt R H ys xs)(r:R H y x):LsAt R H (ys++[y]) (xs++[x]):=by
 refine⟨by rw[Cb,Cb,h.1];rfl,fun j k e=>?_⟩
 by_cases hj:j<xs.length
 ·rw[Cj hj]at e
  obtain⟨p,a1,a2⟩:=h.2 j k e
  exact⟨p,by rw[Cj (by rw[h.1];exact hj)];exact a1,a2⟩
 ·rw[Cf (by omega)]at e
  have hj2:j=xs.length:=by
   have:=(Ca.mp e).1
   rw[Cp]at this
   omega
  subst hj2
  rw[CZ]at e
  cases e
  exact⟨y,by rw[← h.1,Cf (Cg _),CZ];rfl,r⟩
theorem LsAt.get{α:Type}{R:Hp->V->α->Prop}{H:Hp}{ys:List V}{xs:List α}{i:Nat}{y:V}(h:LsAt R H ys xs)(e:ys[i]?=some y):∃ x,xs[i]?=some x/\R H y x:=by
 have hi:i<xs.length:=by rw[← h.1];exact(Ca.mp e).1
 obtain⟨z,a,b⟩:=h.2 i _ (Cc hi)
 rw[e]at a
 cases a
 exact⟨_,Cc hi,b⟩
end L2
namespace L2
open PySem PySem.Spec PyProof.Rows
section
variable{X:Cx}
theorem m6:∀(a b:List Int),PyData.eqvAll (a.map PyData.int) (b.map PyData.int)=decide (a=b)
 |[],[]=>by simp[PyData.eqvAll]
 |[],y::b=>by simp[PyData.eqvAll]
 |x::a,[]=>by simp[PyData.eqvAll]
 |x::a,y::b=>by
  rw[C0,C0]
  simp only[PyData.eqvAll,PyData.eqv,m6 a b]
  by_cases h:x=y
  ·by_cases h2:a=b
   ·simp[h,h2]
   ·simp[h,h2]
  ·simp[h]
end
section
variable{X:Cx}{tg:Expr}
end
section
variable{P:Program}{w:World}{K:B9}{mg:Str->Option Value}{base:Heap}
end
end L2
namespace L2
open PySem PySem.Spec PyProof.Rows
section
variable{X:Cx}
end
end L2
namespace L2
open PySem PySem.Spec PyProof.Rows
section
variable{prog:Program}{w:World}{A:Around}{E:Value->Shared->Prop}{s:Shared}{z TI TO i1 i2 l1 l2:Addr}{f0:Value}{f1:Bool}
end
section
variable{X:Cx}
end
end L2
namespace L2
open PySem PySem.Spec PyProof.Rows
section
variable{X:Cx}
end
end L2
namespace L2
open PySem PySem.Spec PyProof.Rows
section
variable{prog:Program}{w:World}{A:Around}{E:Value->Shared->Prop}{s:Shared}{d:Addr}
end
section
variable{X:Cx}{pins:List (Addr×Obj)}{σ:St}{H:Hp}{s:Shared}{d:Addr}{u:HO}{o:Obj}
end
section
variable{X:Cx}
end
end L2
namespace L2
open PySem PySem.Spec PyProof.Rows
section
open PySem.W
end
section
open PySem.W
variable{prog:Program}{w:World}{A:Around}{E:Value->Shared->Prop}{s:Shared}
end
section
variable{X:Cx}
end
section
variable{X:Cx}
end
end L2
namespace L2
open PySem PySem.Spec PyProof.Rows PySem.Calls Builtin Builtin.ObjectAttr Builtin.Getset_descriptor
def nQ(x D:Addr)(h:Heap):Prop:=∃ o,h.get? x=some o/\o.cls=.ref D
theorem nQ.type{x D:Addr}{h:Heap}(M:Model)(I:nQ x D h):D4 M h (typeOf (.ref x)) (.ref D):=by
 obtain⟨o,a,b⟩:=I
 exact b▸(PySem.W.Looks.ld a).andThen .now
structure ErC(K:B9)(D:Addr):Prop where
 ga:Cq K (.ref D) "__getattribute__" = some (some (.builtin "BaseException.__getattribute__"))
 gt:Cq K (.ref D) "__getattr__" = some none
 hb:CV K D (.type "BaseException")=some true
 hd:Di K D=true
 ha:Cq K (.ref D) "__class__" = some (some (.builtin "object.__class__"))
 hn:DW K (.builtin "object.__class__") "__get__" = some (some (.builtin "getset_descriptor.__get__"))
 tk:D8 K (.builtin "object.__class__")=some true
 hm:CV K D (.type "object")=some true
section
variable{prog:Program}{w:World}{A:Around}{E:Value->Shared->Prop}{s:Shared}{K:B9}{x D:Addr}
theorem BK{M:Model}{h:Heap}(X:K.In h)(e:ErC K D):D4 M h (find (.ref x) (.ref D) "__class__") (.bind (.builtin "getset_descriptor.__get__") (.builtin "object.__class__")):=by
 have L1:=DP (M:=M) X e.ha
 have L2:=PySem.W.looks_specialIn (M:=M) X e.hn
 have L3:=PySem.W.looks_takesIn (M:=M) X e.tk
 refine L1.andThen (L2.andThen ?_)
 exact(show D4 M h (dataDescriptor? (some (.builtin "object.__class__")) (some (.builtin "getset_descriptor.__get__"))) (some (.builtin "getset_descriptor.__get__",.builtin "object.__class__")) from L3.andThen .now).andThen (PySem.W.Looks.tag .now)
theorem kd_get{R:Except Value Flow->Shared->Prop}{tp:Value}(X:K.In s.heap)(I:nQ x D s.heap)(e:ErC K D)
  (h:R (.ok (.ret (.ref D))) s):codeAny (model prog w) A (.call (.builtin "getset_descriptor.__get__") ⟨[.builtin "object.__class__",.ref x,tp],[]⟩) R s:=by
 obtain⟨hh,g,dr,t,os⟩:=s
 have L0:=I.type (model prog w)
 have L1:=Ef (M:=model prog w) X e.hm
 refine codeAny_call_builtin PySem.W.KF.slot_gs.plain PySem.W.KF.entry_gs (PySem.W.KF.slot_gs.check _ _ _ _ _ _ _ _ PySem.W.KF.type_class (PySem.W.KF.args_gs _ _ _) ?_)
 unfold Builtin.«getset_descriptor.__get__» descrGet
 rw[PySem.W.dga_obj]
 refine wpAny_bind (wpAny_pure ?_)
 unfold descrGetter descrCheckInstance descrNameAndClass isInstance
 simp only[PySem.W.KF.owner_class]
 repeat lk
 refine⟨Code.quiet_builtin _ (by decide +kernel),codeAny_builtin PySem.W.KF.entry_class ?_⟩
 unfold Builtin.«object.__class__» shownTypeOf
 repeat lk
 exact h
theorem Ak{M:Model}{nameV:Value}{Q:Unit->Shared->Prop}(X:K.In s.heap)(I:nQ x D s.heap)(e:ErC K D)(hq:Q () s):wpAny M A (checkBuiltinCall "BaseException.__getattribute__" ⟨[.ref x,nameV],[]⟩) Q E s:=by
 obtain⟨hh,g,d,t,os⟩:=s
 have hk:builtinKind "BaseException.__getattribute__" = some .slot:=by decide +kernel
 have hsplit:splitId "BaseException.__getattribute__" = some ("BaseException","__getattribute__"):=by decide +kernel
 have ha:=F.args_bexc_ga (.ref x) nameV
 have L0:=I.type M
 have L1:=Ef (M:=M) X e.hb
 have LI:D4 M hh (isInstance (.ref x) (.type "BaseException")) true:=L0.andThen L1
 simp only[checkBuiltinCall,hk,hsplit]
 refine wpAny_bind (LI.at ?_)
 repeat (first | assumption | wp_step)
theorem Ai{tk:Tok}{Q:Fin->Shared->Prop}(X:K.In s.heap)(I:nQ x D s.heap)(e:ErC K D)(h:Q (.done (.ret (.ref D))) s):wpAny (model prog w) A (Builtin.«object.__getattribute__» ⟨[.ref x,.str "__class__" tk],[]⟩) Q E s:=by
 obtain⟨hh,g,d,t,os⟩:=s
 have L0:=I.type (model prog w)
 have L2:=BK (x:=x) (M:=model prog w) X e
 unfold Builtin.«object.__getattribute__»
 repeat (first | assumption | with_reducible refine L0.at ?_ | with_reducible refine L2.at ?_ | with_reducible refine wpAny_call (kd_get (K:=K) X I e ?_) | wp_step)
theorem Aj{Q:Option Value->Shared->Prop}(X:K.In s.heap)(I:nQ x D s.heap)(e:ErC K D)(h:Q (some (.ref D)) { s with toks:=s.toks+1 }):wpAny (model prog w) A (getAttr? (.ref x) "__class__") Q E s:=by
 obtain⟨hh,g,d,t,os⟩:=s
 have L0:=I.type (model prog w)
 have L1:=DP (M:=model prog w) X e.ga
 have L3:=DP (M:=model prog w) X e.gt
 have f3:=F.excAttr_ValueError.ga.bind (.ref x)
 unfold getAttr? getAttrBy? getAttrBy
 refine wpAny_bind (wpAny_mkText (wpAny_bind (wpAny_attempt (wpAny_holding (wpAny_bind (L0.at (wpAny_bind (L1.at ?_))))))))
 show wpAny _ _ (getAttrByItsOwn _ _ _ _ _ _) _ _ _
 unfold getAttrByItsOwn
 refine wpAny_bind (show wpAny _ _ (typeLookup _ _) _ _ _ from L3.at ?_)
 refine wpAny_bind (wpAny_attempt (wpAny_holding ?_))
 show wpAny _ _ (boundAndCalled _ _ _) _ _ _
 unfold boundAndCalled
 rw[f3]
 refine wpAny_bind (wpAny_pure ?_)
 refine wpAny_call (codeAny_call_builtin F.excAttr_ValueError.ga.plain F.entry_bexc_ga (Ak (s:=⟨hh,g,d,t+1,os⟩) X I e (Ai (s:=⟨hh,g,d,t+1,os⟩) X I e ?_)))
 exact wpAny_mono (PySem.W.handed_on rfl (Q:=fun v s'=>v=.ref D/\s'=⟨hh,g,d,t+1,os⟩) ⟨rfl,rfl⟩) (fun v s'' hv=>by obtain⟨rfl,rfl⟩:=hv;exact wpAny_pure h) (fun _ _ z=>z)
theorem wq(e:ErC K D):PySem.W.KitX K (.ref x) (.ref D) (nQ x D) where
 ty:=fun M _ _ I=>I.type M
 it:=fun _ _ X _=>by
  obtain⟨cdD,hcD,_⟩:=Et e.hd
  unfold EL at hcD
  split at hcD
  ·rename_i c' d' cd' sl' ho
   intro A' Q' E' s' k q
   unfold isType loadHead
   exact wpAny_bind (wpAny_loadPart (k _ _ (X _ _ ho)) (wpAny_pure q))
  ·cases hcD
 ne:=fun h tp dd its n sl X htp=>by
  obtain⟨cdD,hcD,_⟩:=Et e.hd
  refine Ep.mpr fun q=>?_
  have e:D=tp:=Value.ref.inj (beq_iff_eq.mp q)
  subst e
  unfold EL at hcD
  split at hcD
  ·rename_i c' d' cd' sl' ho
   have z:=(X _ _ ho).symm.trans htp
   cases z
  ·cases hcD
 ca:=fun X I k=>Aj X I e k
end
end L2
namespace L2
open PySem PySem.Spec PyProof.Rows
structure DK(h h':Heap):Prop where
 le:h.objs.size<=h'.objs.size
 d:∀(e:Addr)(o':Obj),e<h.objs.size->h'.get? e=some o'->∃ o,h.get? e=some o/\o'.dict=o.dict
theorem DK.rfl'(h:Heap):DK h h:=⟨Cg _,fun _ o' _ q=>⟨o',q,rfl⟩⟩
theorem DK.trans{a b c:Heap}(x:DK a b)(y:DK b c):DK a c:=⟨C6 x.le y.le,fun e o' he q=>by
 obtain⟨o1,q1,d1⟩:=y.d e o' (CI he x.le) q
 obtain⟨o,q0,d0⟩:=x.d e o1 he q1
 exact⟨o,q0,d1.trans d0⟩⟩
theorem DK.upd{h:Heap}{a:Addr}{f:Obj->Obj}(ha:(h.get? a).isSome)(hf:∀ o,(f o).dict=o.dict):DK h (h.update a f):=by
 refine⟨Nat.le_of_eq (Heap.size_update ..).symm,fun e o' he q=>?_⟩
 by_cases z:a=e
 ·subst z
  obtain⟨o,q0⟩:=DX.mp ha
  obtain⟨q1,_⟩:=Heap.get?_some_iff.mp q
  obtain⟨q2,_⟩:=Heap.get?_some_iff.mp q0
  refine⟨o,q0,?_⟩
  cases h
  simp only[Heap.update,Array.getElem?_modify,if_true]at q1
  simp only at q2
  rw[q2]at q1
  cases q1
  exact hf o
 ·rw[Heap.get?_update_other _ _ z]at q
  exact⟨o',q,rfl⟩
theorem DK.psh(h:Heap)(o:Obj):DK h (h.push o):=by
 refine⟨by rw[Heap.size_push];exact DG _,fun e o' he q=>?_⟩
 rw[Heap.get?_push_ne _ _ _ (CJ he)]at q
 exact⟨o',q,rfl⟩
def aH{α:Type}:Sem α->Prop
 |.pure _=>True
 |.raise _=>True
 |.unsupported _=>True
 |.finish _=>True
 |.rule _ k=>aH (k ())
 |.at _ k=>aH (k ())
 |.load _ _ k=>∀ o,aH (k o)
 |.update _ _ f k=>(∀ o,(f o).dict=o.dict)/\aH (k ())
 |.alloc _ k=>∀ a,aH (k a)
 |.loadIfAlive _ k=>∀ o,aH (k o)
 |.point _ k=>aH (k ())
 |.register _ _=>True
 |.fresh k=>∀ t,aH (k t)
 |.ask k=>∀ t,aH (k t)
 |.choose _ _ k=>∀ t,aH (k t)
 |.os _ _ k=>∀ t,aH (k t)
 |.call _ _ _ _ _=>False
 |.handled _ k=>∀ t,aH (k t)
 |.newGen _ k=>∀ t,aH (k t)
 |.genState _ k=>∀ t,aH (k t)
 |.resume _ _ _ _=>False
 |.yield _ _ _ _=>True
 |.stack k=>∀ t,aH (k t)
 |.fork _ _=>True
 |.thread k=>∀ t,aH (k t)
 |.await _ _ _ _ _=>True
theorem aH.bind{α β:Type}{m:Sem α}{f:α->Sem β}(hm:aH m)(hf:∀ a,aH (f a)):aH (m >>= f):=by
 show aH (m.bind f)
 induction m with
 |pure a=>exact hf a
 |raise e=>exact True.intro
 |unsupported w=>exact True.intro
 |finish e=>exact True.intro
 |rule t k ih=>exact ih () hm
 | «at» p k ih=>exact ih () hm
 |load a p k ih=>exact fun o=>ih o (hm o)
 |update a p g k ih=>exact⟨hm.1,ih () hm.2⟩
 |alloc o k ih=>exact fun a=>ih a (hm a)
 |loadIfAlive a k ih=>exact fun o=>ih o (hm o)
 |point l k ih=>exact ih () hm
 |register a k ih=>exact True.intro
 |fresh k ih=>exact fun o=>ih o (hm o)
 |ask k ih=>exact fun o=>ih o (hm o)
 |choose s n k ih=>exact fun o=>ih o (hm o)
 |os q l k ih=>exact fun o=>ih o (hm o)
 |call c h g l k ih=>exact hm.elim
 |handled o k ih=>exact fun o=>ih o (hm o)
 |newGen c k ih=>exact fun o=>ih o (hm o)
 |genState g k ih=>exact fun o=>ih o (hm o)
 |resume g r l k ih=>exact hm.elim
 |yield v g l k ih=>exact True.intro
 |stack k ih=>exact fun o=>ih o (hm o)
 |fork c k ih=>exact True.intro
 |thread k ih=>exact fun o=>ih o (hm o)
 |await a t d l k ih=>exact True.intro
theorem Ar{α:Type}{M:Model}{Γ:PySem.Ctx}(m:Sem α)(hm:aH m)(Q:α->Pos->Shared->Prop)(E:Value->Pos->Shared->Prop)(p:Pos)(s:Shared)(h:Sem.wp M Γ m Q E p s) :
  Sem.wp M Γ m (fun a p' s'=>Q a p' s'/\DK s.heap s'.heap) (fun e p' s'=>E e p' s'/\DK s.heap s'.heap) p s:=by
 have go:∀{m:Sem α}{p:Pos}{s s1:Shared},DK s.heap s1.heap->Sem.wp M Γ m (fun a p' s'=>Q a p' s'/\DK s1.heap s'.heap) (fun e p' s'=>E e p' s'/\DK s1.heap s'.heap) p s1->Sem.wp M Γ m (fun a p' s'=>Q a p' s'/\DK s.heap s'.heap) (fun e p' s'=>E e p' s'/\DK s.heap s'.heap) p s1 :=
  fun{m p s s1} d z=>Sem.wp_mono M Γ m (fun a p' s' q=>⟨q.1,d.trans q.2⟩) (fun a p' s' q=>⟨q.1,d.trans q.2⟩) p s1 z
 induction m generalizing p s with
 |pure a=>rw[Sem.wp]at h ⊢;exact⟨h,DK.rfl' _⟩
 |raise e=>rw[Sem.wp]at h ⊢;exact⟨h,DK.rfl' _⟩
 |unsupported w=>rw[Sem.wp]at h;exact h.elim
 |finish e=>rw[Sem.wp]at h;exact h.elim
 |rule t k ih=>rw[Sem.wp]at h ⊢;exact ih () hm p s h
 | «at» p' k ih=>rw[Sem.wp]at h ⊢;exact ih () hm p' s h
 |load a pt k ih=>rw[Sem.wp]at h ⊢;obtain⟨o,e,h⟩:=h;exact⟨o,e,ih o (hm o) p s h⟩
 |update a pt g k ih=>rw[Sem.wp]at h ⊢;exact⟨h.1,go (DK.upd h.1 hm.1) (ih () hm.2 p _ h.2)⟩
 |alloc o k ih=>rw[Sem.wp]at h ⊢;exact go (DK.psh _ _) (ih _ (hm _) p _ h)
 |loadIfAlive a k ih=>rw[Sem.wp]at h ⊢;exact ih _ (hm _) p s h
 |point l k ih=>rw[Sem.wp]at h ⊢;exact ih () hm p s h
 |register a k ih=>rw[Sem.wp]at h;exact h.elim
 |fresh k ih=>rw[Sem.wp]at h ⊢;exact ih _ (hm _) p _ h
 |ask k ih=>rw[Sem.wp]at h ⊢;exact ih _ (hm _) p s h
 |choose sr n k ih=>rw[Sem.wp]at h ⊢;exact⟨h.1,ih _ (hm _) p _ h.2⟩
 |os q l k ih=>rw[Sem.wp]at h ⊢;exact ih _ (hm _) p _ h
 |call c hh g l k ih=>exact hm.elim
 |handled o k ih=>rw[Sem.wp]at h ⊢;exact ih _ (hm _) p s h
 |newGen c k ih=>rw[Sem.wp]at h ⊢;exact ih _ (hm _) p _ h
 |genState g k ih=>rw[Sem.wp]at h ⊢;obtain⟨o,e,h⟩:=h;exact⟨o,e,ih _ (hm _) p s h⟩
 |resume g r l k ih=>exact hm.elim
 |yield v g l k ih=>rw[Sem.wp]at h;exact h.elim
 |stack k ih=>rw[Sem.wp]at h ⊢;exact ih _ (hm _) p s h
 |fork c k ih=>rw[Sem.wp]at h;exact h.elim
 |thread k ih=>rw[Sem.wp]at h ⊢;exact ih _ (hm _) p s h
 |await a t d l k ih=>rw[Sem.wp]at h;exact h.elim
theorem l5{α:Type}{M:Model}{A:Around}{m:Sem α}(hm:aH m){Q:α->Shared->Prop}{E:Value->Shared->Prop}{s:Shared}(h:wpAny M A m Q E s):wpAny M A m (fun a s'=>Q a s'/\DK s.heap s'.heap) (fun e s'=>E e s'/\DK s.heap s'.heap) s :=
 fun Γ p hΓ=>Ar m hm _ _ p s (h Γ p hΓ)
theorem aO{α:Type}(a:α):aH (pure a:Sem α):=True.intro
theorem tJ{α:Type}(w:String):aH (PySem.unsupported w:Sem α):=True.intro
theorem cy{α:Type}{c:Prop} [Decidable c] {a b:Sem α} (ha:aH a) (hb:aH b):aH (if c then a else b):=by split<;>assumption
theorem kG(a:Addr):aH (load a):=fun _=>True.intro
theorem jb:aH stack:=fun _=>True.intro
theorem oU(v:Value):aH (fieldsOf v):=by
 unfold fieldsOf
 cases v with
 |ref a =>
  refine aH.bind (kG a) fun o=>?_
  cases o.data<;>exact True.intro
 |_=>exact True.intro
theorem fN(v:Value)(i:Nat):aH (field v i):=by
 unfold field
 refine aH.bind (oU v) fun vs=>?_
 cases vs[i]?<;>exact True.intro
theorem eJ(v:Value)(i:Nat)(x:Value):aH (setField v i x):=by
 unfold setField
 cases v with
 |ref a =>
  show aH (updateField a i x)
  unfold updateField
  refine aH.bind (kG a) fun o=>?_
  cases o.data with
  |fields vs =>
   refine cy ?_ (tJ _)
   refine⟨fun o=>?_,True.intro⟩
   unfold Obj.mapFields
   split<;>rfl
  |_=>exact True.intro
 |_=>exact True.intro
theorem dG(e:Value)(f:Option Addr):aH (setFlight e f):=by
 unfold setFlight
 refine aH.bind (fN e 1) fun tb=>?_
 exact cy (eJ _ _ _) (aO _)
theorem m7:∀ l:List Env,aH (readyFrames l)
 |[]=>True.intro
 |env::outer=>by
  unfold readyFrames
  cases env.frame with
  |none=>exact True.intro
  |some f =>
   refine aH.bind (kG f) fun o=>?_
   refine cy (aO _) ?_
   refine aH.bind ?_ fun i=>aH.bind ?_ fun b=>aH.bind ⟨fun o=>rfl,True.intro⟩ fun _=>m7 outer
   ·unfold behindIsImport
    refine cy (aO _) (cy (aO _) (aH.bind (fN _ _) fun _=>aO _))
   ·unfold keptBack
    cases outer with
    |nil=>exact cy (aO _) (aH.bind (by unfold underTheClaimsCaller;exact aH.bind jb fun _=>aO _) fun _=>aO _)
    |cons c r=>exact aO _
theorem rH(env:Env):aH (EK env):=by
 unfold EK frameObject frameEnvs
 refine aH.bind (aH.bind jb fun _=>aO _) fun l=>aH.bind ?_ fun o=>?_
 ·cases (l.dropWhile fun x=>x.frame != env.frame) with
  |nil=>exact aO _
  |cons e r=>exact aH.bind (m7 _) fun _=>aO _
 ·cases o<;>exact True.intro
theorem vx(f:Addr)(b:Bool):aH (entryPlaceOf f b):=by
 unfold entryPlaceOf
 refine aH.bind jb fun acts=>?_
 split<;>exact True.intro
theorem gT(e:Value)(env:Env):aH (noteFrame e env):=by
 unfold noteFrame
 cases env.frame with
 |none=>exact True.intro
 |some f =>
  refine aH.bind (fN _ _) fun head=>?_
  have last:aH (do
    let a ← EK env
    let pl ← entryPlaceOf f (head != .none)
    let b ← EntryCells.newEntry head a .none (rawInt f) .none pl
    setField e 1 b):=by
   refine aH.bind (rH env) fun a=>aH.bind (vx _ _) fun pl=>aH.bind ?_ fun b=>eJ _ _ _
   unfold EntryCells.newEntry newFields newObj
   dsimp only
   have nw:∀ d:Data,aH (newObjAsIs (.type "traceback") d):=fun d=>aH.bind (fun _=>True.intro) fun _=>aO _
   exact cy (aH.bind (tJ _) fun _=>nw _) (nw _)
  refine cy (aH.bind (fN _ _) fun z=>cy (aO _) (aH.bind (eJ _ _ _) fun _=>last)) last
theorem rG(env:Env)(e:Value):aH (leaving env e):=aH.bind (gT e env) fun _=>dG e none
end L2
namespace L2
open PySem PySem.Spec PyProof.Rows
def Xd(h:Heap)(x:Addr)(d:Option Addr):Prop:=∃ oe,h.get? x=some oe/\oe.dict=d
theorem Xd.dk{h h':Heap}{x:Addr}{d:Option Addr}(z:Xd h x d)(k:DK h h')(ex:∃ o,h'.get? x=some o):Xd h' x d:=by
 obtain⟨oe,e,hd⟩:=z
 obtain⟨o',e'⟩:=ex
 obtain⟨o,e2,d2⟩:=k.d x o' (Heap.lt_size e) e'
 rw[e]at e2
 cases e2
 exact⟨o',e',d2.trans hd⟩
theorem Trc.there{h:Heap}{x T:Addr}{C:Value}(t:Trc h x C T):∃ o,h.get? x=some o:=by
 obtain⟨oe,_,_,_,_,he,_⟩:=t
 exact⟨oe,he⟩
def CXd(P:Program)(w:World):CXT:=fun outer H s E e s'=>∃(x:Addr)(C:Value)(T:Addr)(H':Hp)(d:Option Addr),e=.ref x/\s'.os=s.os/\AllBare s'.gens/\Un (frs outer) [] H H' s.heap s'.heap/\HOk P w H' s'.heap /\
 s.heap.get? x=none/\s.heap.get? T=none/\H' x=none/\H' T=none/\Trc s'.heap x C T/\Xd s'.heap x d/\E C d H'
abbrev WKD:=Value->Option Addr->St->Hp->Prop
def WshD(X:Cx)(W:WKD):Prop:=∀(pins:List (Addr×Obj))(σ:St)(H:Hp)(s:Shared)(x:Addr)(C:Value)(d:Option Addr),Inv X pins σ H s->XA X pins H s x C->Xd s.heap x d->W C d σ H->X.xe (.ref x) s
theorem gw{P:Program}{w:World}{K:B9}{mg:Str->Option Value}{base:Heap}{N:List Str}{qual:Str}{scope:Scope}{f:Addr}{cd:Value}{A:Around}{outer:List Env}{s₀:Shared}{H₀:Hp}{E:XK} :
  WshD (cxOf (CXd P w) P w K mg base N qual scope f cd A outer s₀ H₀ E) (fun C d _ H=>E C d H):=fun pins σ H s x C d I xa z hE=>by
 show wpAny (model P w) (A.deeper (envOfC qual scope s₀.heap.objs.size f cd)) (leaving (envOfC qual scope s₀.heap.objs.size f cd) (.ref x)) _ _ s
 refine wpAny_mono (l5 (rG _ _) (Inv.leave (Q:=fun _ s'=>∃ h' T,s'={ s with heap:=h' }/\Inv (cxOf (CXd P w) P w K mg base N qual scope f cd A outer s₀ H₀ E) pins σ H { s with heap:=h' }/\XOk (cxOf (CXd P w) P w K mg base N qual scope f cd A outer s₀ H₀ E) pins H x/\XOk (cxOf (CXd P w) P w K mg base N qual scope f cd A outer s₀ H₀ E) pins H T/\Trc h' x C T) (E:=fun _ _=>False) I rfl rfl rfl xa fun h' T I' x1 xT tr=>⟨h',T,rfl,I',x1,xT,tr⟩)) ?_ (fun _ _ q=>q.1.elim)
 rintro _ s' ⟨⟨h',T,rfl,I',x1,xT,tr⟩,dk⟩
 exact⟨x,C,T,H,d,rfl,I'.os,I'.bare,I'.base,I'.hok,x1.old,xT.old,x1.trk,xT.trk,tr,z.dk dk tr.there,hE⟩
theorem pass0d{P:Program}{w:World}{X:Cx}:pY (CXd P w) X E0:=fun _ _ _ _ _ _ _ ⟨_,_,_,_,_,_,_,_,_,_,_,_,_,_,_,_,z⟩=>z.elim
structure CalD(P:Program)(w:World)(K:B9)(mg:Str->Option Value)(base:Heap)(k:Nat)(x:Str)(ps:List Str)(sp:Sp)(f:Addr)(fd:FuncData):Prop where
 ok:FnOk P w K mg base (CXd P w) k f fd ps sp
 bn:lb K fd ps []
 mg:mg x=some (.ref f)
 kp:Cn K (.ref f)=true
theorem Fun.okD{P:Program}{w:World}{K:B9}{mg:Str->Option Value}{base:Heap}{x qual:Str}{st:Stmt}{f:Addr}{fd:FuncData}{N ps:List Str}{k:Nat}{sp:Sp}(F:Fun K x qual st f fd)(S:aE N ps (ak st))(len:∀ vs H Q E,sp vs H Q E->vs.length=ps.length)
  (hbody:∀(cdv:Value)(A:Around)(outer:List Env)(s:Shared)(H:Hp)(vs:List V)(Q:VK)(E:XK),Room k (A.deeper (envOfC qual (ak st) s.heap.objs.size f cdv))->sp vs H Q E ->
   ∃ t,PSs (cxOf (CXd P w) P w K mg base N qual (ak st) f cdv A outer s H E) (aB st) t/\t { nx:=fun _ H'=>Q .non H',rt:=Q } (qg N vs) H):FnOk P w K mg base (CXd P w) (k+1) f fd ps sp:=by
 obtain⟨oc,od,kV,doc,pm,an,cdv,ct,osl,rfl,lk,hcd⟩:=F.ex
 exact fn_of lk hcd S len fun A outer s H vs Q E hr hsp=>hbody cdv A outer s H vs Q E hr hsp
section
variable{X:Cx}{k:Nat}{f C:Addr}{fd:FuncData}{ps:List Str}{sp:Sp}{dvs:List V}{ds:List Value}{W:WKD}{x m:Str}{p pos apos:Pos}{e o:Expr}{es:List Expr}{ta:TE}{t:TA}
theorem WshD.of{pins:List (Addr×Obj)}{σ:St}{H:Hp}{s s':Shared}{v:Value}(ws:WshD X W)(hx:X.ex = [])(I:Inv X pins σ H s)(h:CXd X.prog X.w X.stack H s (fun C d H'=>W C d σ H') v s'):X.xe v s':=by
 obtain⟨x,C,T,H',d,rfl,os,bare,un,hok,nx,nT,tx,tT,tr,z,q⟩:=h
 have I':Inv X pins σ H' s':=I.call' os un hok bare fun b z=>absurd z (by simp)
 exact ws pins σ H' s' x C d I' ⟨I.xok hx nx tx,.inr ⟨T,I.xok hx nT tT,tr⟩⟩ z q
theorem Bm{pins:List (Addr×Obj)}{σ:St}{H:Hp}{s:Shared}{Q:VK}{us:List Value}{vs:List V}(F:FnOk X.prog X.w X.K X.mg X.base (CXd X.prog X.w) k f fd ps sp)(hr:Room k X.A)(hb:lb X.K fd ps ds)(hd:Vals dvs ds)(ws:WshD X W)(hx:X.ex = [])
  (I:Inv X pins σ H s) (r:Vals vs us) (h:sp (vs++dvs) H Q (fun C d H'=>W C d σ H')):wpAny (model X.prog X.w) X.A (call (.ref f) us) (EP X pins σ Q) X.xe s:=by
 have r2:Vals (vs++dvs) (us++ds):=r.append hd
 have hl:(us++ds).length=ps.length:=by rw[← r2.length];exact F.len _ _ _ _ h
 refine wpAny_call (codeAny_mono (F.run X.A X.stack s H ⟨us,[]⟩ (us++ds) (vs++dvs) Q _ hr I.env0 (hb s us I.kIn hl) r2 h) fun r s' hq=>?_)
 cases r with
 |error e=>exact ws.of hx I hq
 |ok fl =>
  cases fl with
  |ret u=>exact I.after hq
  |next=>exact False.elim hq
  |brk=>exact False.elim hq
  |cont=>exact False.elim hq
def AB(sp:Sp)(dvs:List V)(W:WKD)(t:TA):TE:=fun σ H Q=>t σ H fun vs H1=>sp (vs++dvs) H1 Q fun C d H'=>W C d σ H'
theorem wd(F:FnOk X.prog X.w X.K X.mg X.base (CXd X.prog X.w) k f fd ps sp)(hr:Room k X.A)(hg:Gl X x)(hm:X.mg x=some (.ref f))(hk:Cn X.K (.ref f)=true)(hb:lb X.K fd ps ds)(hd:Vals dvs ds)(ws:WshD X W)(hx:X.ex = [])
  (ha:PA X (e::es) t) (hdb:(x == ("__debug__" : Str))=false:=by decide) (he:starEach (e::es) X.env=(false,eval e X.env)::starEach es X.env:=by rfl) (hpl:(backTo pos (starEach es X.env)).any (·.1)=false:=by rfl) :
  PE X (.Call (.Name x p) (e::es) [] pos) (AB sp dvs W t):=by
 intro pins s σ H Q I h
 refine wpAny_Call_Name_kw (kg I hg hm ?_ hdb)
 refine DT (h₀:=X.base) I.ok.mod.kin hk (thn (ha pos pins s σ H _ I h) fun us s1 ⟨vs,H1,I1,r,q⟩=>⟨I1.kIn,?_⟩) he hpl
 exact Bm F hr hb hd ws hx I1 r q
end
def Bb(C:Addr)(W:WKD)(t:TA):TS:=fun _ σ H=>t σ H fun vs H1=>vs.length<=sizeLine/\W (.ref C) none σ H1
theorem eX{X:Cx}{x:Str}{C:Addr}{e:Expr}{es:List Expr}{t:TA}{W:WKD}{np cpos pos:Pos}(ec:ExC X.K C)(hm:X.mg x=some (.ref C))(hg:Gl X x)(ws:WshD X W)(hx:X.ex = [])(hc:X.calm=true)(ha:PA X (e::es) t)
  (he:starEach (e::es) X.env=(false,eval e X.env)::starEach es X.env:=by rfl) (hpl:(backTo cpos (starEach es X.env)).any (·.1)=false:=by rfl) (hdb:(x == ("__debug__" : Str))=false:=by decide) :
  PS X (.Raise (some (.Call (.Name x np) (e::es) [] cpos)) none pos) (Bb C W t):=by
 intro pins s σ H D I h
 obtain⟨tl,N,nm,qn,bs,hdct,sn,sub,ab,col,dd,k0,k1,k2,k3,k5,mN,hC,hN,hni,T,_⟩:=zc ec I.ok.mod.kin
 have hpl2:(backTo cpos (starEach (e::es) X.env)).any (·.1)=false:=by
  rw[he]
  show(false||(backTo cpos (starEach es X.env)).any (·.1))=false
  rw[hpl];rfl
 refine wpAny_Raise_call_subT (C:=C) (nm:=nm) (q:=qn) (N:=N) (bs:=bs) (bm:=tl) (hdct:=hdct) (sn:=sn) (sub:=sub) (ab:=ab) (col:=col) (dd:=dd) (k0:=k0) (k1:=k1) (k2:=k2) (k3:=k3) (k5:=k5) EC (mN:=mN) (T.hasType EC.hasBase) (I.ok.hd hc) hpl2 hni (kg I hg hm ⟨rfl,?_⟩ hdb)
 have z:=ha cpos pins s σ H _ I h
 rw[he]at z ⊢
 refine Calls.evalArgs_plain (wpAny_mono z (fun us s2 zz=>?_) fun _ _ y=>y)
 obtain⟨vs,H1,I2,r,hz,q⟩:=zz
 refine⟨rfl,by rw[← r.length];exact hz,I2.bk _ _ hC,hN.keeps I2.bk,T.keeps I2.bk,fun h' e' hme=>?_⟩
 obtain⟨t0,ht0,_,_⟩:=hme.there
 have I3:Inv X pins σ H1 { s2 with heap:=h' }:=I2.kept (t':=s2.toks) hme.keeps
 exact ws pins σ H1 _ e' (.ref C) none I3 ⟨I2.xok hx hme.new (I2.hok.none_of hme.new),.inl ⟨_,_,_,ht0,rfl,rfl,rfl,rfl⟩⟩ ⟨_,ht0,rfl⟩ q
def WshTD(X:Cx)(W:WKD):Prop:=∀(pins:List (Addr×Obj))(σ:St)(H:Hp)(s:Shared)(x T:Addr)(C:Value)(d:Option Addr),Inv X pins σ H s->XOk X pins H x->XOk X pins H T->Trc s.heap x C T->Xd s.heap x d->W C d σ H->X.xe (.ref x) s
section
variable{X:Cx}{k:Nat}{f:Addr}{fd:FuncData}{ps:List Str}{sp:Sp}{dvs:List V}{ds:List Value}{W:WKD}{x:Str}{p pos:Pos}{e:Expr}{es:List Expr}{t:TA}
theorem yq(F:FnOk X.prog X.w X.K X.mg X.base (CXd X.prog X.w) k f fd ps sp)(hr:Room k X.A)(hg:Gl X x)(hm:X.mg x=some (.ref f))(hk:Cn X.K (.ref f)=true)(hb:lb X.K fd ps ds)(hd:Vals dvs ds)(ws:WshTD X W)(hx:X.ex = [])
  (ha:PA X (e::es) t) (hdb:(x == ("__debug__" : Str))=false:=by decide) (he:starEach (e::es) X.env=(false,eval e X.env)::starEach es X.env:=by rfl) (hpl:(backTo pos (starEach es X.env)).any (·.1)=false:=by rfl) :
  PE X (.Call (.Name x p) (e::es) [] pos) (AB sp dvs W t):=by
 intro pins s σ H Q I h
 refine wpAny_Call_Name_kw (kg I hg hm ?_ hdb)
 refine DT (h₀:=X.base) I.ok.mod.kin hk (thn (ha pos pins s σ H _ I h) fun us s1 ⟨vs,H1,I1,r,q⟩=>⟨I1.kIn,?_⟩) he hpl
 have r2:Vals (vs++dvs) (us++ds):=r.append hd
 have hl:(us++ds).length=ps.length:=by rw[← r2.length];exact F.len _ _ _ _ q
 refine wpAny_call (codeAny_mono (F.run X.A X.stack s1 H1 ⟨us,[]⟩ (us++ds) (vs++dvs) Q _ hr I1.env0 (hb s1 us I1.kIn hl) r2 q) fun r s' hq=>?_)
 cases r with
 |error e =>
  obtain⟨x,C,T,H',d,rfl,os,bare,un,hok,nx,nT,tx,tT,tr,z,q'⟩:=hq
  have I':Inv X pins σ H' s':=I1.call' os un hok bare fun b z=>absurd z (by simp)
  exact ws pins σ H' s' x T C d I' (I1.xok hx nx tx) (I1.xok hx nT tT) tr z q'
 |ok fl =>
  cases fl with
  |ret u=>exact I1.after hq
  |next=>exact False.elim hq
  |brk=>exact False.elim hq
  |cont=>exact False.elim hq
end
section
variable{M:Model}{A:Around}{E:Value->Shared->Prop}{h:Heap}{g:Array GenState}{d:Drawn}{t:Nat}{os:OsState}
theorem BR{C D:Addr}{nm2 qn2:Str}{N2:Addr}{bs2 bm2:List Value}{hdct2:Bool}{sn2:List Str}{sub2:List Value}{ab2:Bool}{col2:Option Bool}{dd2:Option Addr}{j0 j1 j2 j3 j5:Option Value}{id2:String}{x:Addr}{ob:Obj}{Q:Bool->Shared->Prop}
  (hD:h.get? D=some (excClassObj nm2 qn2 D N2 bs2 bm2 hdct2 sn2 sub2 ab2 col2 dd2 j0 j1 j2 j3 j5 id2)) (hob:h.get? x=some ob) (hcl:ob.cls=.ref C)
  (hDB:(Value.ref D::bm2).contains (.type "BaseException")=true) (lk:D4 M h (isSubtype (.ref C) (.ref D)) true) (hq:Q true ⟨h,g,d,t,os⟩):wpAny M A (excMatches (.ref x) (.ref D)) Q E ⟨h,g,d,t,os⟩:=by
 have ntup:=tc_notTuple
 unfold excMatches
 repeat (first | (with_reducible refine wpAny_loadPart_at hob ?_;rw[hcl]) | with_reducible refine wpAny_loadPart_at hD ?_ | (with_reducible refine wpAny_isSubtype_exc hD ?_;rw[hDB]) | with_reducible refine lk.at ?_ | wp_step)
 exact hq
end
def excD(x C:Addr)(d:Option Addr):HO:=.ext fun h=>∃ o,h.get? x=some o/\o.cls=.ref C/\o.dict=d/\ED o=true
def Ba(ie:Nat)(Cs:Addr->Prop)(tb:WKD->TS)(ts:TS):TS:=fun Ds σ H=>tb (fun C d σ1 H1=>∃ c,C=.ref c/\Cs c/\∀ x,H1 x=none->ts { nx:=fun σ2 H2=>Ds.nx (σ2.set ie none) H2,rt:=fun _ _=>False } (σ1.set ie (some (.ref x))) (upd H1 x (excD x c d))) Ds σ H
theorem yi{X:Cx}{body:List Stmt}{b0:Stmt}{suite:List Stmt}{dn en:Str}{np hpos pos:Pos}{D:Addr}{ie:Nat}{Cs:Addr->Prop}{tb:WKD->TS}{ts:TS}(hx:X.ex = [])(hst:X.stack=X.env::X.outer)(hfr:X.env.frame=some X.env.locals)(hN:X.N.Nodup)(hi:X.N[ie]?=some en)(hl:X.env.kindOf en=some .local)
  (hgD:Gl X dn) (hmD:X.mg dn=some (.ref D)) (eD:ExC X.K D) (hCs:∀ c,Cs c->CV X.K c (.ref D)=some true)
  (hb:∀ pins XE W,WshTD (X.tried pins XE) W->PSs (X.tried pins XE) body (tb W)) (hs:∀ v,PSs (X.marked v) (b0::suite) ts) (hdb:(dn == ("__debug__" : Str))=false:=by decide) :
  PS X (.Try body [.ExceptHandler (some (.Name dn np)) (some en) (b0::suite) hpos] [] [] pos) (Ba ie Cs tb ts):=by
 intro pins s σ H Ds I h
 refine wpAny_Try_except ?_
 refine wpAny_mono (hb pins (fun e s₁=>wpAny (model X.prog X.w) X.A (noteFrame e X.env) (fun _ s₂=>wpAny (model X.prog X.w) X.A (setFlight e none) (fun _ s₃=>wpAny (model X.prog X.w) X.A (handleBy e X.env [.ExceptHandler (some (.Name dn np)) (some en) (b0::suite) hpos]) (SP X pins Ds) X.xe s₃) X.xe s₂) X.xe s₁) _ ?_ [] s σ H Ds I.tried h) (fun f s1 q=>?_) fun _ _ z=>z
 ·intro pins' σ1 H1 s1 x T C d I1 xx xT tr zd hw
  obtain⟨c,rfl,hc,hts⟩:=hw
  have I2:Inv X pins σ1 H1 s1:=I1.untried
  have x2:XOk X pins H1 x:=xx.untried
  have T2:XOk X pins H1 T:=xT.untried
  have frm:X.A.frames=some (X.env::X.outer):=by rw[← hst];exact I2.ok.frames
  have fly:∀{h:Heap}{T:Addr},Inv X pins σ1 H1 { s1 with heap:=h }->Trc h x (.ref c) T->∃ a0,Heap.FlyingW (hidX X h [x,T]) (X.env::X.outer) x (.ref c) a0 h:=fun{h T} J tr=>by
   obtain⟨oe,vs,a0,oT,ts,he,hcl,h0,hd,h1,hTe,hT,hdT,h3⟩:=tr
   exact⟨a0,yY _ _,jy (by simp),hst▸J.hidF [x,T],⟨oe,vs,T,oT,ts,he,⟨hcl,h0⟩,hd,h1,jy (by simp),hTe,hT,hdT,h3⟩⟩
  have two:∀{T:Addr},XOk X pins H1 T->∀ b∈[x,T],XOk X pins H1 b:=fun{T} hT b hb=>by
   rcases Co.mp hb with e | hb
   ·rw[e];exact x2
   ·have e:b=T:=by simpa using hb
    rw[e];exact hT
  obtain⟨a0,fl⟩:=fly (h:=s1.heap) I2 tr
  refine wpAny_mono (l5 (gT _ _) (wpAny_looks_onW (Q:=fun _ s'=>∃ h4,s'={ s1 with heap:=h4 }/\Heap.HeldW (hidX X s1.heap [x,T]) (X.env::X.outer) x (.ref c) a0 X.env.locals h4/\s1.heap.UpToSlots h4) (E:=fun _ _=>False) frm hfr fl fun h4 a b=>⟨h4,rfl,a,b⟩)) ?_ (fun _ _ q=>q.1.elim)
  rintro _ s4 ⟨⟨h4,rfl,held4,up4⟩,dk4⟩
  refine wpAny_mono (l5 (dG _ _) (wpAny_landsW (Q:=fun _ s'=>∃ h5,s'={ s1 with heap:=h5 }/\Heap.FlyingW (hidX X s1.heap [x,T]) (X.env::X.outer) x (.ref c) a0 h5/\h4.UpToSlots h5) (E:=fun _ _=>False) held4 fun h5 a b=>⟨h5,rfl,a,b⟩)) ?_ (fun _ _ q=>q.1.elim)
  rintro _ s5 ⟨⟨h5,rfl,fl5,up5⟩,dk5⟩
  obtain⟨I5,T5,xT5,tr5⟩:=I2.left hx (two T2) fl5.1 fl5.2.2.2 (up4.trans up5)
  have z5:Xd h5 x d:=zd.dk (DK.trans (b:=h4) dk4 dk5) tr5.there
  refine wpAny_handleBy_cons (codeAny_handlers_test (Calls.Name_function_global I5.ok.kind hgD (Calls.loadGlobal_global (by rw[I5.ok.glob];exact I5.mod.glob.keeps I5.bk) hmD ?_) hdb)) (by intro q;cases q)
  obtain⟨_,_,_,_,_,_,_,_,_,_,_,_,_,_,_,_,_,hD,_,_,TD,_⟩:=zc eD I5.kIn
  have hDB:=TD.hasType (X:="BaseException") (b:=true) rfl
  obtain⟨ob,_,_,_,_,hob,hcl,_⟩:=id tr5
  refine BR hD hob hcl (by rw[List.contains_cons,hDB,Bool.or_true]) (Ef I5.kIn (hCs c hc)) ?_
  refine codeAny_handlers_suite_as ?_
  obtain⟨a5,fl5'⟩:=fly I5 tr5
  refine wpAny_mono (l5 (dG _ _) (lands_againW (Q:=fun _ s'=>∃ h6,s'={ s1 with heap:=h6 }/\Heap.FlyingW (hidX X h5 [x,T5]) (X.env::X.outer) x (.ref c) a5 h6/\h5.UpToSlots h6) (E:=fun _ _=>False) (s:={ s1 with heap:=h5 }) fl5' fun h6 a b=>⟨h6,rfl,a,b⟩)) ?_ (fun _ _ q=>q.1.elim)
  rintro _ s6 ⟨⟨h6,rfl,fl6,up6⟩,dk6⟩
  obtain⟨I6,T6,xT6,tr6⟩:=I5.left hx (two xT5) fl6.1 fl6.2.2.2 up6
  have z6:Xd h6 x d:=z5.dk dk6 tr6.there
  obtain⟨oe,vs6,_,_,_,he,hcl6,_,hd6,_⟩:=id tr6
  have hnc:ED oe=true:=by unfold ED;rw[hd6]
  have hdd:oe.dict=d:=by
   obtain⟨o2,e2,d2⟩:=z6
   rw[he]at e2
   cases e2
   exact d2
  have I7:=I6.xtrack (o:=excD x c d) x2 ⟨⟨oe,he,hcl6,hdd,hnc⟩,⟨oe,he⟩,fun h1 h2 ⟨o,z1,z2⟩ kk=>⟨o,kk o z1,z2⟩⟩
  refine jl I7 hN hi (.inl hl) (v:=.ref x) rfl (fun s8 I8=>?_) (.inr hl)
  refine wpAny_mono (hs (.ref x) pins s8 _ _ _ (I8.marked _) (hts x x2.trk)) (fun f s9 q9=>?_) fun _ _ z=>z.elim
  cases f with
  |next =>
   obtain⟨σ9,H9,I9,q9⟩:=q9
   have I9':Inv X pins σ9 H9 s9:=Inv.unmarked (hd:=I2.ok.hd) (fr:=I2.ok.frames) I9
   obtain⟨m,hm⟩:=I9'.loc
   refine wpAny_nameGoes_keeps hl hm.1 (by rw[I9'.ok.kind];rfl) fun h' v hn hss=>?_
   exact⟨_,_,I9'.gone hN hi hm hn hss,q9⟩
  |brk=>obtain⟨_,_,_,z⟩:=q9;exact z.elim
  |cont=>obtain⟨_,_,_,z⟩:=q9;exact z.elim
  |ret u=>obtain⟨_,_,_,_,_,z⟩:=q9;exact z.elim
 ·have q':=SP.untried q
  cases f with
  |next=>exact wpAny_execs_nil q'
  |brk=>exact q'
  |cont=>exact q'
  |ret u=>exact q'
end L2
namespace L2
open PySem PySem.Spec PyProof.Rows PySem.Calls Builtin Builtin.ObjectAttr
section
variable{prog:Program}{w:World}{A:Around}{E:Value->Shared->Prop}{h:Heap}{g:Array GenState}{d:Drawn}{t:Nat}{os:OsState}
variable{nm q:Str}{C N:Addr}{bs bm bmB:List Value}{hdct:Bool}{sn:List Str}{sub:List Value}{ab:Bool}{col:Option Bool}{dd:Option Addr}{k0 k1 k2 k3 k5:Option Value}{B newId initId:String}
end
section
variable{prog:Program}{w:World}{A:Around}{E:Value->Shared->Prop}{s:Shared}{K:B9}{x C fI:Addr}{name:Str}{v:Value}
end
section
variable{X:Cx}{pins:List (Addr×Obj)}{σ:St}{H:Hp}{s:Shared}{A:Around}{E:Value->Shared->Prop}{a C fI:Addr}{f:Str}
end
section
variable{prog:Program}{w:World}{A:Around}{E:Value->Shared->Prop}{s:Shared}{env:Env}
variable{nm q:Str}{C N:Addr}{bs bm bmB:List Value}{hdct:Bool}{sn:List Str}{sub:List Value}{ab:Bool}{col:Option Bool}{dd:Option Addr}{k0 k1 k2 k3 k5:Option Value}{B newId initId:String}
end
theorem zx{X:Cx}:k9 X (.builtin "isinstance") (fun xs H Q=>∃ x c dx d b,xs = [.ref x,.ref d]/\H x=some (excD x c dx)/\ErC X.K c/\Cw X.K (.ref c) (.ref d)=some b/\Q (.bl b) H):=by
 intro pins s σ H xs us Q I r h
 obtain⟨x,c,dx,d,b,rfl,hx,ec,ek,q⟩:=h
 obtain⟨v1,v2,rfl,r1,r2⟩:=A9 r
 cases r1
 cases r2
 obtain⟨⟨o,p1,p2,_⟩,_,_⟩:=(show bO X.prog X.w H s.heap x (excD x c dx) from I.hok x _ hx)
 exact C5 (wq ec) I.kIn ⟨o,p1,p2⟩ ek (fun z=>nomatch z) fun tk=>⟨.bl b,H,I.tok tk,rfl,q⟩
theorem xA{X:Cx}:k9 X (.builtin "isinstance") (fun xs H Q=>∃ x c dx T b,xs = [.ref x,.ty T]/\H x=some (excD x c dx)/\ErC X.K c/\Cw X.K (.ref c) (.type T)=some b/\Q (.bl b) H):=by
 intro pins s σ H xs us Q I r h
 obtain⟨x,c,dx,T,b,rfl,hx,ec,ek,q⟩:=h
 obtain⟨v1,v2,rfl,r1,r2⟩:=A9 r
 cases r1
 cases r2
 obtain⟨⟨o,p1,p2,_⟩,_,_⟩:=(show bO X.prog X.w H s.heap x (excD x c dx) from I.hok x _ hx)
 exact C5 (wq ec) I.kIn ⟨o,p1,p2⟩ ek (fun z=>nomatch z) fun tk=>⟨.bl b,H,I.tok tk,rfl,q⟩
end L2
namespace L2
open PySem PySem.Spec PyProof.Rows
section
variable{X:Cx}{pins:List (Addr×Obj)}{σ:St}{H H':Hp}{s s':Shared}{b:Addr}
end
section
variable{M:Model}{A:Around}{E:Value->Shared->Prop}{s:Shared}
end
section
variable{X:Cx}{pins:List (Addr×Obj)}{σ:St}{H:Hp}{s:Shared}{x T:Addr}{C:Value}{E:Value->Shared->Prop}
end
section
variable{X:Cx}{k:Nat}{f:Addr}{fd:FuncData}{ps:List Str}{sp:Sp}{dvs:List V}{ds:List Value}{W:WKD}{x:Str}{p pos:Pos}{e:Expr}{es:List Expr}{t:TA}
end
section
variable{X:Cx}{pins:List (Addr×Obj)}{σ:St}{H:Hp}{s:Shared}{x T L:Addr}{C:Value}{d:Option Addr}{R:Value->Shared->Prop}{fenv cenv:Env}{outer:List Env}
end
section
variable{X:Cx}{scope:Scope}{fr:List (Str×Nat)}{xs:List Str}{elt iter tg:Expr}{ifs:List Expr}{pos:Pos}{tt:TT}{tgt:TG}{wi:TI}
end
end L2
namespace L2
open PySem PySem.Spec PyProof.Rows
end L2
namespace L2
theorem len_0{α:Type}{l:List α}(h:l.length=0):l = []:=List.length_eq_zero_iff.mp h
theorem xg{α:Type}{l:List α}{n:Nat}(h:l.length=n+1):∃ x r,l=x::r/\r.length=n:=by
 cases l with
 |nil=>cases h
 |cons x r=>exact⟨x,r,rfl,Nat.succ.inj h⟩
theorem xh{α:Type}{l:List α}(h:l.length=1):∃ a,l = [a]:=by
 obtain⟨a,r,rfl,e⟩:=xg h
 exact⟨a,by rw[len_0 e]⟩
theorem ju{α:Type}{l:List α}(h:l.length=2):∃ a b,l = [a,b]:=by
 obtain⟨a,r,rfl,e⟩:=xg h
 obtain⟨b,rfl⟩:=xh e
 exact⟨a,b,rfl⟩
theorem oK{α:Type}{l:List α}(h:l.length=3):∃ a b c,l = [a,b,c]:=by
 obtain⟨a,r,rfl,e⟩:=xg h
 obtain⟨b,c,rfl⟩:=ju e
 exact⟨a,b,c,rfl⟩
theorem yH{α:Type}{l:List α}(h:l.length=4):∃ a b c d,l = [a,b,c,d]:=by
 obtain⟨a,r,rfl,e⟩:=xg h
 obtain⟨b,c,d,rfl⟩:=oK e
 exact⟨a,b,c,d,rfl⟩
theorem len_5{α:Type}{l:List α}(h:l.length=5):∃ a b c d e,l = [a,b,c,d,e]:=by
 obtain⟨a,r,rfl,z⟩:=xg h
 obtain⟨b,c,d,e,rfl⟩:=yH z
 exact⟨a,b,c,d,e,rfl⟩
theorem len_6{α:Type}{l:List α}(h:l.length=6):∃ a b c d e f,l = [a,b,c,d,e,f]:=by
 obtain⟨a,r,rfl,z⟩:=xg h
 obtain⟨b,c,d,e,f,rfl⟩:=len_5 z
 exact⟨a,b,c,d,e,f,rfl⟩
end L2
namespace K8
theorem AD:∀{a b:List Nat},a.Nodup->(∀ x∈a,x∈b)->a.length<=b.length
 |[],_,_,_=>Dm _
 |x::a,b,nd,h=>by
  obtain⟨n1,n2⟩:=Dw.mp nd
  have hx:=h x (by simp)
  have ih:=AD (a:=a) (b:=b.erase x) n2 fun y hy=>(List.mem_erase_of_ne (fun e:y=x=>n1 (e▸hy))).mpr (h y (CN _ hy))
  rw[List.length_erase_of_mem hx]at ih
  have:0<b.length:=D6 hx
  rw[Df]
  omega
theorem ly{a:List Nat}{N:Nat}(nd:a.Nodup)(h:∀ x∈a,x<N):a.length<=N:=by
 have:=AD (b:=Ct N) nd fun x hx=>DU.mpr (h x hx)
 rwa[CU]at this
theorem AJ{l:List Nat}(nd:l.Nodup){i j x:Nat}(hi:l[i]?=some x)(hj:l[j]?=some x):i=j:=by
 have p:=EG.mp nd
 obtain⟨h1,e1⟩:=Ca.mp hi
 obtain⟨h2,e2⟩:=Ca.mp hj
 rcases Nat.lt_trichotomy i j with z | z | z
 ·exact absurd (e1.trans e2.symm) (p i j h1 h2 z)
 ·exact z
 ·exact absurd (e2.trans e1.symm) (p j i h2 h1 z)
abbrev En:=List (Nat×Nat)
structure gq(m:Nat)(es:En)(ts:List (List Nat)):Prop where
 len:ts.length=m
 ends:∀ e∈es,e.1<m/\e.2<m/\e.1≠e.2
 nd:∀(p:Nat)(l:List Nat),ts[p]?=some l->l.Nodup
 mem:∀(p:Nat)(l:List Nat),ts[p]?=some l->∀ t,t∈l↔∃ e,es[t]?=some e/\(e.1=p∨e.2=p)
theorem zK(m:Nat):gq m [] (Ci m []) where
 len:=by simp
 ends:=fun e h=>by cases h
 nd:=fun p l h=>by
  rw[Dz]at h
  split at h
  ·cases h;exact Ee
  ·cases h
 mem:=fun p l h t=>by
  rw[Dz]at h
  split at h
  ·cases h;simp
  ·cases h
def ins(l:List Nat)(k x:Nat):List Nat:=l.take k++x::l.drop k
theorem yT{l:List Nat}{k x y:Nat}:y∈ins l k x↔y=x∨y∈l:=by
 unfold ins
 rw[CA,Co]
 have:=Eb k l
 constructor
 ·rintro(h | h | h)
  ·exact .inr (List.mem_of_mem_take h)
  ·exact .inl h
  ·exact .inr (List.mem_of_mem_drop h)
 ·rintro(h | h)
  ·exact .inr (.inl h)
  ·rw[← this]at h
   rcases CA.mp h with z | z
   ·exact .inl z
   ·exact .inr (.inr z)
theorem AQ{l:List Nat}{k x:Nat}(nd:l.Nodup)(h:x∉l):(ins l k x).Nodup:=by
 unfold ins
 have e:=Eb k l
 rw[← e]at nd
 obtain⟨a,b,c⟩:=DD.mp nd
 refine DD.mpr ⟨a,Dw.mpr ⟨fun z=>h (List.mem_of_mem_drop z),b⟩,fun y hy z hz=>?_⟩
 rcases Co.mp hz with q | q
 ·intro w
  exact h (by rw[← q,← w];exact List.mem_of_mem_take hy)
 ·exact c y hy z q
theorem gq.put{m:Nat}{es:En}{ts:List (List Nat)}{one two k j:Nat}{l l':List Nat}(w:gq m es ts)(h1:one<m)(h2:two<m)(hn:one≠two)(e1:ts[one]?=some l)(e2:ts[two]?=some l') :
  gq m (es++[(one,two)]) ((ts.set one (ins l k es.length)).set two (ins l' j es.length)):=by
 have old:∀{p l},ts[p]?=some l->es.length∉l:=fun{p l} e z=>by
  obtain⟨x,hx,_⟩:=(w.mem p l e es.length).mp z
  have:=(Ca.mp hx).1
  omega
 have get:∀ p q,((ts.set one (ins l k es.length)).set two (ins l' j es.length))[p]?=some q->(p=two/\q=ins l' j es.length)∨(p=one/\p≠two/\q=ins l k es.length)∨(p≠one/\p≠two/\ts[p]?=some q):=fun p q e=>by
  have L:two<(ts.set one (ins l k es.length)).length:=by rw[Dl,w.len];exact h2
  have L1:one<ts.length:=by rw[w.len];exact h1
  rw[Dx]at e
  by_cases z:two=p
  ·rw[if_pos z,if_pos L]at e
   exact .inl ⟨z.symm,(Cz e).symm⟩
  ·rw[if_neg z,Dx]at e
   by_cases y:one=p
   ·rw[if_pos y,if_pos L1]at e
    exact .inr (.inl ⟨y.symm,Ne.symm z,(Cz e).symm⟩)
   ·rw[if_neg y]at e
    exact .inr (.inr ⟨Ne.symm y,Ne.symm z,e⟩)
 have esg:∀ t x,(es++[(one,two)])[t]?=some x↔(es[t]?=some x)∨(t=es.length/\x=(one,two)):=fun t x=>by
  by_cases z:t<es.length
  ·rw[Cj z]
   constructor
   ·exact .inl
   ·rintro(y | y)
    ·exact y
    ·omega
  ·rw[Cf (by omega)]
   constructor
   ·intro y
    have hl:=(Ca.mp y).1
    rw[Cp]at hl
    have ht:t=es.length:=by omega
    subst ht
    rw[CZ]at y
    cases y
    exact .inr ⟨rfl,rfl⟩
   ·rintro(y | ⟨y,rfl⟩)
    ·have:=(Ca.mp y).1;omega
    ·rw[y,CZ];rfl
 refine⟨by rw[Dl,Dl];exact w.len,fun e he=>?_,fun p q e=>?_,fun p q e t=>?_⟩
 ·rcases CA.mp he with z | z
  ·exact w.ends e z
  ·have:e=(one,two):=by simpa using z
   subst this
   exact⟨h1,h2,hn⟩
 ·rcases get p q e with⟨_,rfl⟩ | ⟨_,_,rfl⟩ | ⟨_,_,y⟩
  ·exact AQ (w.nd two l' e2) (old e2)
  ·exact AQ (w.nd one l e1) (old e1)
  ·exact w.nd p q y
 ·rcases get p q e with⟨rfl,rfl⟩ | ⟨rfl,np,rfl⟩ | ⟨n1,n2,y⟩
  ·rw[yT,w.mem p l' e2 t]
   constructor
   ·rintro(z | ⟨x,hx,hp⟩)
    ·exact⟨(one,p),(esg _ _).mpr (.inr ⟨z,rfl⟩),.inr rfl⟩
    ·exact⟨x,(esg _ _).mpr (.inl hx),hp⟩
   ·rintro⟨x,hx,hp⟩
    rcases(esg _ _).mp hx with z | ⟨z,_⟩
    ·exact .inr ⟨x,z,hp⟩
    ·exact .inl z
  ·rw[yT,w.mem p l e1 t]
   constructor
   ·rintro(z | ⟨x,hx,hp⟩)
    ·exact⟨(p,two),(esg _ _).mpr (.inr ⟨z,rfl⟩),.inl rfl⟩
    ·exact⟨x,(esg _ _).mpr (.inl hx),hp⟩
   ·rintro⟨x,hx,hp⟩
    rcases(esg _ _).mp hx with z | ⟨z,_⟩
    ·exact .inr ⟨x,z,hp⟩
    ·exact .inl z
  ·rw[w.mem p q y t]
   constructor
   ·rintro⟨x,hx,hp⟩
    exact⟨x,(esg _ _).mpr (.inl hx),hp⟩
   ·rintro⟨x,hx,hp⟩
    rcases(esg _ _).mp hx with z | ⟨z,rfl⟩
    ·exact⟨x,z,hp⟩
    ·rcases hp with hp | hp
     ·exact absurd hp.symm n1
     ·exact absurd hp.symm n2
def hd(es:En)(d:Nat):Nat:=match es[d/2]? with | some e=>if d%2=0 then e.2 else e.1 | none=>0
def tl(es:En)(d:Nat):Nat:=match es[d/2]? with | some e=>if d%2=0 then e.1 else e.2 | none=>0
def leave(es:En)(t p:Nat):Nat:=match es[t]? with | some e=>if e.1=p then 2*t else 2*t+1 | none=>0
def nxt(l:List Nat)(t:Nat):Nat:=(l[(l.idxOf t+1)%l.length]?).getD 0
def fol(es:En)(ts:List (List Nat))(d:Nat):Nat:=leave es (nxt ((ts[hd es d]?).getD []) (d/2)) (hd es d)
section
variable{m:Nat}{es:En}{ts:List (List Nat)}
theorem yW{l:List Nat}{t:Nat}(h:t∈l):l[l.idxOf t]?=some t:=by
 have hl:=DZ.mpr h
 rw[Cc hl,List.getElem_idxOf]
theorem qV{l:List Nat}{t:Nat}(h:t∈l):l[(l.idxOf t+1)%l.length]?=some (nxt l t):=by
 have hl:0<l.length:=D6 h
 have:=Nat.mod_lt (l.idxOf t+1) hl
 unfold nxt
 rw[Cc this]
 rfl
theorem gq.at(w:gq m es ts){d:Nat}(h:d<2*es.length):∃ e l,es[d/2]?=some e/\hd es d=(if d%2=0 then e.2 else e.1)/\tl es d=(if d%2=0 then e.1 else e.2)/\hd es d<m/\ts[hd es d]?=some l/\d/2∈l:=by
 have hl:d/2<es.length:=by omega
 have e1:es[d/2]?=some es[d/2]:=Cc hl
 have q:=w.ends _ (Ce e1)
 generalize es[d/2]=e at e1 q
 have h1:hd es d=(if d%2=0 then e.2 else e.1):=by unfold hd;rw[e1]
 have h2:tl es d=(if d%2=0 then e.1 else e.2):=by unfold tl;rw[e1]
 have h3:hd es d<m:=by rw[h1];split<;>omega
 have h4:ts[hd es d]?=some (ts[hd es d]'(by rw[w.len];exact h3)):=Cc _
 refine⟨e,_,e1,h1,h2,h3,h4,(w.mem _ _ h4 _).mpr ⟨e,e1,?_⟩⟩
 rw[h1]
 split
 ·exact .inr rfl
 ·exact .inl rfl
theorem gq.foll(w:gq m es ts){d:Nat}(h:d<2*es.length):∃ l e,ts[hd es d]?=some l/\d/2∈l/\es[nxt l (d/2)]?=some e/\(e.1=hd es d∨e.2=hd es d)/\e.1≠e.2/\fol es ts d=(if e.1=hd es d then 2*nxt l (d/2) else 2*nxt l (d/2)+1)/\fol es ts d<2*es.length/\fol es ts d/2=nxt l (d/2)/\tl es (fol es ts d)=hd es d:=by
 obtain⟨e0,l,h1,h2,h3,h4,h5,h6⟩:=w.at h
 have hn:=qV h6
 obtain⟨e,he,hp⟩:=(w.mem _ _ h5 _).mp (Ce hn)
 have hlt:=(Ca.mp he).1
 have hne:=(w.ends e (Ce he)).2.2
 have hf:fol es ts d=(if e.1=hd es d then 2*nxt l (d/2) else 2*nxt l (d/2)+1):=by
  unfold fol
  rw[h5]
  show leave es (nxt l (d/2)) (hd es d)=_
  unfold leave
  rw[he]
 refine⟨l,e,h5,h6,he,hp,hne,hf,?_,?_,?_⟩
 ·rw[hf];split<;>omega
 ·rw[hf];split<;>omega
 ·rw[hf]
  by_cases z:e.1=hd es d
  ·have a1:2*nxt l (d/2)/2=nxt l (d/2):=by omega
   have a2:2*nxt l (d/2)%2=0:=by omega
   rw[if_pos z]
   unfold tl
   rw[a1,he]
   show(if 2*nxt l (d/2)%2=0 then e.1 else e.2)=_
   rw[if_pos a2,z]
  ·have a1:(2*nxt l (d/2)+1)/2=nxt l (d/2):=by omega
   have a2:¬ (2*nxt l (d/2)+1)%2=0:=by omega
   rw[if_neg z]
   unfold tl
   rw[a1,he]
   show(if(2*nxt l (d/2)+1)%2=0 then e.1 else e.2)=_
   rw[if_neg a2]
   exact hp.elim (fun y=>absurd y z) id
theorem gq.inj(w:gq m es ts){a b:Nat}(ha:a<2*es.length)(hb:b<2*es.length)(h:fol es ts a=fol es ts b):a=b:=by
 obtain⟨l,e,p1,p2,_,_,_,_,_,p3,p4⟩:=w.foll ha
 obtain⟨l',e',q1,q2,_,_,_,_,_,q3,q4⟩:=w.foll hb
 have hh:hd es a=hd es b:=by rw[← p4,← q4,h]
 rw[hh,q1]at p1
 cases p1
 have hx:nxt l (a/2)=nxt l (b/2):=by rw[← p3,← q3,h]
 have g1:=qV p2
 have g2:=qV q2
 rw[hx]at g1
 have ii:=AJ (w.nd _ _ q1) g1 g2
 have i1:=DZ.mpr p2
 have i2:=DZ.mpr q2
 have ix:l.idxOf (a/2)=l.idxOf (b/2):=by
  generalize l.idxOf (a/2)=x at *
  generalize l.idxOf (b/2)=y at *
  by_cases z1:x+1=l.length
  ·by_cases z2:y+1=l.length
   ·omega
   ·rw[z1,Er,DA (by omega)]at ii;omega
  ·by_cases z2:y+1=l.length
   ·rw[z2,Er,DA (by omega)]at ii;omega
   ·rw[DA (by omega),DA (by omega)]at ii;omega
 have ht:a/2=b/2:=by
  have g3:=yW p2
  have g4:=yW q2
  rw[ix,g4]at g3
  exact(Cz g3).symm
 obtain⟨e1,_,r1,r2,_,_,_,_⟩:=w.at ha
 obtain⟨e2,_,s1,s2,_,_,_,_⟩:=w.at hb
 rw[ht,s1]at r1
 have ee:e2=e1:=Cz r1
 rw[ee]at s1 s2
 have hne:=(w.ends e1 (Ce s1)).2.2
 rw[r2,s2]at hh
 have:a%2=b%2:=by
  by_cases z1:a%2=0<;>by_cases z2:b%2=0
  ·omega
  ·rw[if_pos z1,if_neg z2]at hh;exact absurd hh.symm hne
  ·rw[if_neg z1,if_pos z2]at hh;exact absurd hh hne
  ·omega
 omega
end
structure zI(f:Nat->Nat)(N:Nat):Prop where
 lt:∀ d,d<N->f d<N
 inj:∀ a b,a<N->b<N->f a=f b->a=b
structure Path(f:Nat->Nat)(N first:Nat)(r:List Nat):Prop where
 hd:r[0]?=some first
 lt:∀ d∈r,d<N
 nd:r.Nodup
 nx:∀ i x y,r[i]?=some x->r[i+1]?=some y->y=f x
theorem zS{f:Nat->Nat}{N d:Nat}(h:d<N):Path f N d [d] where
 hd:=rfl
 lt:=fun x hx=>by have:x=d:=by simpa using hx
                  rw[this];exact h
 nd:=by simp
 nx:=fun i x y h1 h2=>by
  have:=(Ca.mp h2).1
  rw[Cp]at this
  omega
theorem Path.snoc{f:Nat->Nat}{N d x:Nat}{r:List Nat}(p:zI f N)(h:Path f N d (r++[x]))(hn:f x≠d):Path f N d (r++[x]++[f x]) where
 hd:=by rw[Cj (by rw[Cb,Cp];omega)];exact h.hd
 lt:=fun y hy=>by
  rcases CA.mp hy with z | z
  ·exact h.lt y z
  ·have:y=f x:=by simpa using z
   rw[this];exact p.lt x (h.lt x (by simp))
 nd:=by
  refine DD.mpr ⟨h.nd,by simp,fun a ha b hb e=>?_⟩
  have eb:b=f x:=by simpa using hb
  subst eb
  obtain⟨i,hi⟩:=Dk.mp ha
  rw[e]at hi
  have hil:=(Ca.mp hi).1
  rw[Cb,Cp]at hil
  cases i with
  |zero =>
   rw[h.hd]at hi
   exact hn (Cz hi).symm
  |succ i =>
   have gi:(r++[x])[i]?=some ((r++[x])[i]'(by rw[Cb,Cp];omega)):=Cc _
   have:=h.nx i _ _ gi hi
   have mi:=h.lt _ (Ce gi)
   have mx:=h.lt x (by simp)
   have e2:=p.inj _ _ mx mi this
   rw[← e2]at gi
   have gx:(r++[x])[r.length]?=some x:=by rw[Cf (Cg _),CZ];rfl
   have:=AJ h.nd gi gx
   omega
 nx:=fun i a b h1 h2=>by
  have h2l:=(Ca.mp h2).1
  rw[Cb,Cb,Cp,Cp]at h2l
  rw[Cj (by rw[Cb,Cp];omega)]at h1
  by_cases z:i+1<(r++[x]).length
  ·rw[Cj z]at h2
   exact h.nx i a b h1 h2
  ·rw[Cb,Cp]at z
   have ei:i=r.length:=by omega
   subst ei
   rw[Cf (by rw[Cb,Cp];omega)]at h2
   have:r.length+1-(r++[x]).length=0:=by rw[Cb,Cp];omega
   rw[this]at h2
   rw[Cf (Cg _),CZ]at h1
   have e1:x=a:=Cz h1
   have e2:f x=b:=Cz h2
   rw[← e2,e1]
structure Ring(f:Nat->Nat)(N:Nat)(r:List Nat):Prop where
 lt:∀ d∈r,d<N
 nd:r.Nodup
 ne:0<r.length
 nx:∀ i x,r[i]?=some x->r[(i+1)%r.length]?=some (f x)
theorem Path.ring{f:Nat->Nat}{N d x:Nat}{r:List Nat}(p:zI f N)(h:Path f N d (r++[x]))(he:f x=d):Ring f N (r++[x]) where
 lt:=h.lt
 nd:=h.nd
 ne:=by rw[Cb,Cp];omega
 nx:=fun i y hy=>by
  have hl:=(Ca.mp hy).1
  by_cases z:i+1=(r++[x]).length
  ·rw[z,Er]
   have:i=r.length:=by rw[Cb,Cp]at z;omega
   subst this
   rw[Cf (Cg _),CZ]at hy
   have:x=y:=Cz hy
   subst this
   rw[he];exact h.hd
  ·have l2:i+1<(r++[x]).length:=by omega
   rw[DA l2]
   have g:=Cc l2
   rw[g,h.nx i _ _ hy g]
theorem Ring.back{f:Nat->Nat}{N a:Nat}{r:List Nat}(p:zI f N)(h:Ring f N r)(ha:a<N)(hf:f a∈r):a∈r:=by
 obtain⟨i,hi⟩:=Dk.mp hf
 have hl:=(Ca.mp hi).1
 have key:∃ j,j<r.length/\(j+1)%r.length=i:=by
  cases i with
  |zero=>exact⟨r.length-1,by have:=h.ne;omega,by have:=h.ne;rw[show r.length-1+1=r.length by omega,Er]⟩
  |succ i=>exact⟨i,by omega,DA hl⟩
 obtain⟨j,hj,ej⟩:=key
 have g:=Cc hj
 have q:=h.nx j _ g
 rw[ej,hi]at q
 have mj:=h.lt _ (Ce g)
 have:=p.inj _ _ ha mj (Cz q)
 rw[this]
 exact Ce g
structure dN(f:Nat->Nat)(N i:Nat)(rs:List (List Nat)):Prop where
 ring:∀ r∈rs,Ring f N r
 hdl:∀ r∈rs,∀ h,r[0]?=some h->h<i/\∀ d∈r,h<=d
 asc:∀(a b:Nat)(r r':List Nat)(h h':Nat),a<b->rs[a]?=some r->rs[b]?=some r'->r[0]?=some h->r'[0]?=some h'->h<h'
 nd:rs.flatten.Nodup
 all:∀ d,d<i->d∈rs.flatten
theorem wI(f:Nat->Nat)(N:Nat):dN f N 0 [] where
 ring:=fun r h=>by cases h
 hdl:=fun r h=>by cases h
 asc:=fun a b r r' h h' _ e=>by cases e
 nd:=by simp
 all:=fun d h=>by omega
theorem dN.skip{f:Nat->Nat}{N i:Nat}{rs:List (List Nat)}(w:dN f N i rs)(h:i∈rs.flatten):dN f N (i+1) rs where
 ring:=w.ring
 hdl:=fun r hr x hx=>⟨by have:=(w.hdl r hr x hx).1;omega,(w.hdl r hr x hx).2⟩
 asc:=w.asc
 nd:=w.nd
 all:=fun d hd=>by
  by_cases z:d=i
  ·rw[z];exact h
  ·exact w.all d (by omega)
theorem dN.put{f:Nat->Nat}{N i:Nat}{rs:List (List Nat)}{r:List Nat}(p:zI f N)(w:dN f N i rs)(h:i∉rs.flatten)(hi:i<N)(hr:Ring f N r)(pa:Path f N i r):dN f N (i+1) (rs++[r]):=by
 have apart:∀(k x:Nat),r[k]?=some x->x∉rs.flatten:=fun k=>by
  induction k with
  |zero =>
   intro x hx
   rw[pa.hd]at hx
   cases hx
   exact h
  |succ k ih =>
   intro x hx z
   have hl:=(Ca.mp hx).1
   have g:=Cc (show k<r.length by omega)
   have e:=pa.nx k _ _ g hx
   obtain⟨q,hq,zq⟩:=De.mp z
   rw[e]at zq
   exact ih _ g (De.mpr ⟨q,hq,(w.ring q hq).back p (hr.lt _ (Ce g)) zq⟩)
 have least:∀ d∈r,i<=d:=fun d hd=>by
  obtain⟨k,hk⟩:=Dk.mp hd
  by_cases z:i<=d
  ·exact z
  ·exact absurd (w.all d (by omega)) (apart k d hk)
 refine⟨fun q hq=>?_,fun q hq x hx=>?_,fun a b q q' x x' hab ha hb hx hx'=>?_,?_,fun d hd=>?_⟩
 ·rcases CA.mp hq with z | z
  ·exact w.ring q z
  ·have:q=r:=by simpa using z
   rw[this];exact hr
 ·rcases CA.mp hq with z | z
  ·have:=w.hdl q z x hx
   exact⟨by omega,this.2⟩
  ·have e:q=r:=by simpa using z
   subst e
   rw[pa.hd]at hx
   cases hx
   exact⟨by omega,least⟩
 ·have bl:=(Ca.mp hb).1
  rw[Cb,Cp]at bl
  rw[Cj (by omega)]at ha
  by_cases z:b<rs.length
  ·rw[Cj z]at hb
   exact w.asc a b q q' x x' hab ha hb hx hx'
  ·have eb:b=rs.length:=by omega
   subst eb
   rw[Cf (Cg _),CZ]at hb
   have e:r=q':=Cz hb
   subst e
   rw[pa.hd]at hx'
   cases hx'
   exact(w.hdl q (Ce ha) x hx).1
 ·rw[DH]
  have e : [r].flatten=r:=by simp
  rw[e]
  refine DD.mpr ⟨w.nd,hr.nd,fun a ha b hb e=>?_⟩
  obtain⟨k,hk⟩:=Dk.mp hb
  exact apart k b hk (e▸ha)
 ·rw[DH,CA]
  by_cases z:d=i
  ·right
   rw[z]
   simp
   exact Ce pa.hd
  ·exact .inl (w.all d (by omega))
theorem BP{rs:List (List Nat)}(nd:rs.flatten.Nodup){a b:Nat}{r r':List Nat}{d:Nat}(ha:rs[a]?=some r)(hb:rs[b]?=some r')(h1:d∈r)(h2:d∈r'):a=b:=by
 induction rs generalizing a b with
 |nil=>cases ha
 |cons q rs ih =>
  rw[Dn]at nd
  obtain⟨_,n2,n3⟩:=DD.mp nd
  cases a with
  |zero =>
   cases b with
   |zero=>rfl
   |succ b =>
    have e:q=r:=Cz ha
    subst e
    exact absurd rfl (n3 d h1 d (De.mpr ⟨r',Ce hb,h2⟩))
  |succ a =>
   cases b with
   |zero =>
    have e:q=r':=Cz hb
    subst e
    exact absurd rfl (n3 d h2 d (De.mpr ⟨r,Ce ha,h1⟩))
   |succ b=>exact congrArg Nat.succ (ih n2 ha hb)
end K8
namespace K8
def nv(f:Nat->Nat):Nat->List Nat->Nat->Prop
 |x,[],z=>f x=z
 |x,y::l,z=>f x=y/\nv f y l z
theorem jd{f:Nat->Nat}:∀{x:Nat}{l:List Nat}{y:Nat}{k:List Nat}{z:Nat},nv f x (l++y::k) z↔nv f x l y/\nv f y k z
 |x,[],y,k,z=>Iff.rfl
 |x,a::l,y,k,z=>by
  show(f x=a/\nv f a (l++y::k) z)↔(f x=a/\nv f a l y)/\nv f y k z
  rw[jd,and_assoc]
theorem nu{f:Nat->Nat}{S:Nat->Prop}:∀{x:Nat}{l:List Nat}{z:Nat},nv f x l z->(∀ t∈x::l,S t->S (f t))->S x->S z/\∀ t∈l,S t
 |x,[],z,h,k,s=>⟨by have:=k x (CG ..) s;rwa[show f x=z from h]at this,fun t ht=>nomatch ht⟩
 |x,a::l,z,h,k,s=>by
  have s1:S a:=by have:=k x (CG ..) s;rwa[h.1]at this
  obtain⟨h1,h2⟩:=nu h.2 (fun t ht=>k t (CN _ ht)) s1
  refine⟨h1,fun t ht=>?_⟩
  rcases Co.mp ht with y | y
  ·rw[y];exact s1
  ·exact h2 t y
structure CR(f:Nat->Nat)(N:Nat)(r:List Nat):Prop where
 ch:∃ x l,r=x::l/\nv f x l x
 lt:∀ d∈r,d<N
 nd:r.Nodup
theorem CR.closed{f:Nat->Nat}{N:Nat}{r:List Nat}(h:CR f N r):∀ d∈r,f d∈r:=by
 obtain⟨x,l,rfl,c⟩:=h.ch
 intro d hd
 rcases Co.mp hd with y | y
 ·subst y
  cases l with
  |nil=>rw[show f d=d from c];exact CG ..
  |cons a l=>rw[c.1];simp
 ·obtain⟨A,B,rfl⟩:=List.append_of_mem y
  have c2:=(jd.mp c).2
  cases B with
  |nil=>rw[show f d=x from c2];exact CG ..
  |cons a B=>rw[c2.1];simp
theorem CR.sub{f:Nat->Nat}{N:Nat}{r:List Nat}{S:Nat->Prop}(h:CR f N r)(k:∀ t∈r,S t->S (f t)){d:Nat}(hd:d∈r)(s:S d):∀ t∈r,S t:=by
 obtain⟨x,l,rfl,c⟩:=h.ch
 have fromx:S x->∀ t∈x::l,S t:=fun sx t ht=>by
  rcases Co.mp ht with y | y
  ·rw[y];exact sx
  ·exact(nu c k sx).2 t y
 rcases Co.mp hd with y | y
 ·exact fromx (y▸s)
 ·obtain⟨A,B,rfl⟩:=List.append_of_mem y
  have c2:=(jd.mp c).2
  exact fromx (nu c2 (fun t ht=>k t (by simp only[Co,CA]at ht ⊢;rcases ht with z | z<;>simp[z])) s).1
theorem CR.same{f:Nat->Nat}{N:Nat}{r r':List Nat}(h:CR f N r)(h':CR f N r'){d:Nat}(h1:d∈r)(h2:d∈r'):∀ t∈r,t∈r':=h.sub (S:=fun t=>t∈r') (fun t _=>h'.closed t) h1 h2
theorem CR.ne{f:Nat->Nat}{N:Nat}{r:List Nat}(h:CR f N r):∃ d,d∈r:=by
 obtain⟨x,l,rfl,_⟩:=h.ch
 exact⟨x,CG ..⟩
structure Part(f:Nat->Nat)(N:Nat)(rs:List (List Nat)):Prop where
 cr:∀ r∈rs,CR f N r
 nd:rs.flatten.Nodup
 all:∀ d,d<N->d∈rs.flatten
theorem Part.same:∀{rs qs:List (List Nat)}{f:Nat->Nat}{N:Nat},Part f N rs->Part f N qs->rs.length=qs.length:=by
 have le:∀(k:Nat){rs qs:List (List Nat)}{f:Nat->Nat}{N:Nat},Part f N rs->Part f N qs->rs.length<=qs.length:=by
  intro _ rs qs f N p q
  have g:∀ r∈rs,∃ i,i<qs.length/\∃ r',qs[i]?=some r'/\∀ t∈r',t∈r:=fun r hr=>by
   have c:=p.cr r hr
   obtain⟨d,hd⟩:=c.ne
   obtain⟨r',m1,m2⟩:=De.mp (q.all d (c.lt d hd))
   obtain⟨i,hi⟩:=Dk.mp m1
   exact⟨i,(Ca.mp hi).1,r',hi,(q.cr r' m1).same c m2 hd⟩
  have:∀(l:List (List Nat)),(∀ r∈l,r∈rs)->l.flatten.Nodup->∃ is:List Nat,is.length=l.length/\is.Nodup/\∀ i∈is,i<qs.length/\∃ r∈l,∃ r',qs[i]?=some r'/\∀ t∈r',t∈r:=fun l=>by
   induction l with
   |nil=>intro _ _;exact⟨[],rfl,Ee,fun i hi=>nomatch hi⟩
   |cons r l ih =>
    intro h nd
    rw[Dn]at nd
    obtain⟨n1,n2,n3⟩:=DD.mp nd
    obtain⟨is,e1,e2,e3⟩:=ih (fun r hr=>h r (CN _ hr)) n2
    obtain⟨i,h1,r',h2,h3⟩:=g r (h r (CG ..))
    refine⟨i::is,by simp[e1],Dw.mpr ⟨fun z=>?_,e2⟩,fun j hj=>?_⟩
    ·obtain⟨_,r2,m2,r3,m3,m4⟩:=e3 i z
     rw[h2]at m3
     cases m3
     obtain⟨d,hd⟩:=(q.cr r' (Ce h2)).ne
     exact n3 d (h3 d hd) d (De.mpr ⟨r2,m2,m4 d hd⟩) rfl
    ·rcases Co.mp hj with z | z
     ·subst z;exact⟨h1,r,CG ..,r',h2,h3⟩
     ·obtain⟨k1,r2,k2,k3⟩:=e3 j z
      exact⟨k1,r2,CN _ k2,k3⟩
  obtain⟨is,e1,e2,e3⟩:=this rs (fun _ h=>h) p.nd
  rw[← e1]
  exact ly e2 fun i hi=>(e3 i hi).1
 intro rs qs f N p q
 exact Nat.le_antisymm (le 0 p q) (le 0 q p)
theorem Ring.cr{f:Nat->Nat}{N:Nat}{r:List Nat}(h:Ring f N r):CR f N r:=by
 refine⟨?_,h.lt,h.nd⟩
 have ne:=h.ne
 match r,h,ne with
 |x::l,h,_ =>
  refine⟨x,l,rfl,?_⟩
  have key:∀(k i:Nat)(y:Nat),i+k+1=(x::l).length->(x::l)[i]?=some y->nv f y ((x::l).drop (i+1)) x:=fun k=>by
   induction k with
   |zero =>
    intro i y hi hy
    have e:=h.nx i y hy
    rw[show(i+1)%(x::l).length=0 by rw[← hi];simp]at e
    rw[List.drop_of_length_le (by omega)]
    exact(Cz e).symm
   |succ k ih =>
    intro i y hi hy
    have e:=h.nx i y hy
    rw[DA (by omega)]at e
    obtain⟨hl,e2⟩:=Ca.mp e
    rw[List.drop_eq_getElem_cons hl,e2]
    exact⟨rfl,ih (i+1) (f y) (by omega) e⟩
  exact key l.length 0 x (by simp) rfl
theorem dN.part{f:Nat->Nat}{N:Nat}{rs:List (List Nat)}(w:dN f N N rs):Part f N rs:=⟨fun r hr=>(w.ring r hr).cr,w.nd,w.all⟩
end K8
namespace K8
end K8
namespace K8
structure Gr(m:Nat)(es:En)(ts:List (List Nat)):Prop where
 w:gq m es ts
 part:∃ rs,Part (fol es ts) (2*es.length) rs/\m+rs.length=es.length+2
 conn:∀ S:Nat->Prop,(∀ e∈es,S e.1↔S e.2)->∀ p q,p<m->q<m->S p->S q
end K8
namespace K8
end K8
namespace K8
section
variable{m:Nat}{es es2:En}{ts ts2:List (List Nat)}{π σ:Nat->Nat}
theorem AK(w:gq m es ts){p:Nat}{l:List Nat}(h:ts[p]?=some l){t:Nat}(ht:t∈l):t<es.length:=by
 obtain⟨x,hx,_⟩:=(w.mem p l h t).mp ht
 exact(Ca.mp hx).1
end
end K8
namespace K8
open PySem L2
local macro_rules | `(tactic| walk_at "cc") => `(tactic| first | exact ⟨by decide, by decide⟩ | (show (0 : Int) < _; decide) | (show (0 : Int) < _; omega) | (show (0 : Int) ≤ _; omega) | exact ⟨by decide, by decide, by decide⟩ | exact ⟨by omega, by omega, by decide⟩ | exact Or.inl ⟨by decide, by decide⟩ | exact Or.inl ⟨by omega, by omega⟩)
local macro_rules | `(tactic| walk_at "rd") => `(tactic| repeat (first | refine ⟨_, rfl, ?_⟩ | refine ⟨_, _, rfl, rfl, ?_⟩ | refine ⟨rfl, ?_⟩ | (refine ⟨?cc, ?_⟩; (case cc => walk_at "cc"))))
def top(i:Nat):Stmt:=PySem.Challenge.pw_spinfloor_k58_strips_as_webs.main.body.getD i (.Pass ⟨0,0,0,0⟩)
abbrev eU:Stmt:=top 10
abbrev cf:Stmt:=yV (top 12) 0
abbrev ic:Stmt:=top 15
abbrev pN:Stmt:=top 17
abbrev eV:Stmt:=top 18
abbrev dA:Stmt:=top 19
abbrev b7:Stmt:=top 20
abbrev cC:Stmt:=top 21
abbrev dw:Stmt:=top 22
abbrev bG:Stmt:=top 24
abbrev br:Stmt:=top 25
abbrev ba:Stmt:=top 26
abbrev b9:Stmt:=yV (top 27) 0
abbrev aZ:Stmt:=top 31
abbrev a4:Stmt:=top 32
abbrev eS:Stmt:=top 33
abbrev b6:Stmt:=top 36
abbrev bH:Stmt:=top 37
abbrev bF:Stmt:=top 38
abbrev cB:Stmt:=top 39
abbrev dz:Stmt:=top 41
abbrev cD:Stmt:=top 42
abbrev b8:Stmt:=top 43
abbrev bK:Stmt:=top 44
abbrev a6:Stmt:=top 45
abbrev bL:Stmt:=top 46
abbrev dy:Stmt:=top 47
abbrev bw:Stmt:=top 48
abbrev bu:Stmt:=top 49
abbrev bJ:Stmt:=top 50
abbrev bI:Stmt:=top 51
abbrev qz:Stmt:=top 52
def tf(a b s:Int):List (Str×V):=putF "strength" (.int s) (putF "two" (.int b) (putF "one" (.int a) []))
theorem iB(a b s:Int):(tf a b s).lookup ("one" : Str)=some (.int a):=by
 unfold tf
 rw[ax,if_neg (by decide +kernel),ax,if_neg (by decide +kernel),ax,if_pos rfl]
theorem lg(a b s:Int):(tf a b s).lookup ("two" : Str)=some (.int b):=by
 unfold tf
 rw[ax,if_neg (by decide +kernel),ax,if_pos rfl]
theorem Az(a b s:Int):(tf a b s).lookup ("strength" : Str)=some (.int s):=by
 unfold tf
 rw[ax,if_pos rfl]
theorem f1_len(a:Int):(putF "one" (.int a) []).length<1000:=by show 1<1000;decide
theorem f2_len(a b:Int):(putF "two" (.int b) (putF "one" (.int a) [])).length<1000:=by
 have e:(putF "two" (.int b) (putF "one" (.int a) []):List (Str×V))=([("one",.int a),("two",.int b)]:List (Str×V)):=by
  show(if("one" : Str) = "two" then[(("one" : Str),V.int b)] else(("one" : Str),V.int a)::putF "two" (V.int b) [])=_
  rw[if_neg (by decide +kernel)]
  all_goals rfl
 rw[e]
 show 2<1000
 decide
structure CT(K:B9)(C:Addr):Prop where
 cl:Cls K C
 n1:et K C "one"
 n2:et K C "two"
 n3:et K C "strength"
def pK(K:B9):Sp:=fun vs H Q _=>∃(p C dx:Addr)(a b s:Int),vs = [.ref p,.int a,.int b,.int s]/\H p=some (.ins C dx [])/\CT K C/\a≠b/\0<=a/\0<=b/\0<=s /\
 ∀ H',H' p=some (.ins C dx (tf a b s))->(∀ q o,H q=some o->q≠p->H' q=some o)->Q .non H'
theorem ai{H:Hp}{p:Addr}(h:H p=none)(o:HO):Same H (upd H p o):=fun b u q=>by rw[ao (aF q h)];exact q
theorem aQ{H H2:Hp}{l:Addr}(h:Same H H2)(hl:H l=none)(o:HO):Same H (upd H2 l o):=fun b u q=>by rw[ao (aF q hl)];exact h b u q
def iV(p:Nat):V:=.int (p:Int)
theorem iV_at{hs:List Nat}{k x:Nat}(h:hs[k]?=some x):atI (hs.map iV) (k:Int)=some (iV x):=aP (by rw[CH,h];rfl)
def lJ(H:Hp)(ys:List V)(es:En):Prop:=ys.length=es.length/\∀(i:Nat)(e:Nat×Nat),es[i]?=some e->∃ p,ys[i]?=some (.ref p)/\H p=some (.tup [iV e.1,iV e.2])
theorem lJ.mono{H H':Hp}{ys:List V}{es:En}(h:lJ H ys es)(s:Same H H'):lJ H' ys es:=⟨h.1,fun i e q=>by
 obtain⟨p,a,b⟩:=h.2 i e q
 exact⟨p,a,s _ _ b⟩⟩
def cP(K:B9)(H:Hp)(xs:List V)(es:En):Prop:=xs.length=es.length/\∀(i:Nat)(e:Nat×Nat),es[i]?=some e->∃ p C dx s,xs[i]?=some (.ref p)/\H p=some (.ins C dx (tf (e.1:Int) (e.2:Int) s))/\CT K C
theorem cP.mono{K:B9}{H H':Hp}{xs:List V}{es:En}(t:cP K H xs es)(h:Same H H'):cP K H' xs es:=⟨t.1,fun i e q=>by
 obtain⟨p,C,dx,s,a,b,d⟩:=t.2 i e q
 exact⟨p,C,dx,s,a,h _ _ b,d⟩⟩
def cA(H:Hp)(xs:List V)(ts:List (List Nat)):Prop:=xs.length=ts.length/\∀(i:Nat)(l:List Nat),ts[i]?=some l->∃ p,xs[i]?=some (.ref p)/\H p=some (.lst (l.map iV))
theorem cA.mono{H H':Hp}{xs:List V}{ts:List (List Nat)}(h:cA H xs ts)(s:Same H H'):cA H' xs ts:=⟨h.1,fun i e q=>by
 obtain⟨p,a,b⟩:=h.2 i e q
 exact⟨p,a,s _ _ b⟩⟩
theorem cA.snoc{H:Hp}{xs:List V}{ts:List (List Nat)}{q:Addr}{l:List Nat}(h:cA H xs ts)(e:H q=some (.lst (l.map iV))):cA H (xs++[.ref q]) (ts++[l]):=by
 refine⟨by rw[Cb,Cb,h.1];rfl,fun j k ej=>?_⟩
 by_cases hj:j<ts.length
 ·rw[Cj hj]at ej
  obtain⟨p,a1,a2⟩:=h.2 j k ej
  exact⟨p,by rw[Cj (by rw[h.1];exact hj)];exact a1,a2⟩
 ·rw[Cf (by omega)]at ej
  have hj2:j=ts.length:=by
   have:=(Ca.mp ej).1
   rw[Cp]at this
   omega
  subst hj2
  rw[CZ]at ej
  cases ej
  exact⟨q,by rw[← h.1,Cf (Cg _),CZ];rfl,e⟩
def dM(S:Addr->Prop)(H:Hp)(xs:List V)(ts:List (List Nat)):Prop:=xs.length=ts.length/\∀(i:Nat)(l:List Nat),ts[i]?=some l->∃ p,xs[i]?=some (.ref p)/\¬ S p/\H p=some (.lst (l.map iV))
theorem dM.mono{S:Addr->Prop}{H H':Hp}{xs:List V}{ts:List (List Nat)}(h:dM S H xs ts)(s:∀ b u,¬ S b->H b=some u->H' b=some u):dM S H' xs ts:=⟨h.1,fun i e q=>by
 obtain⟨p,a,n,b⟩:=h.2 i e q
 exact⟨p,a,n,s _ _ n b⟩⟩
theorem dM.off{S:Addr->Prop}{H:Hp}{xs:List V}{ts:List (List Nat)}(h:dM S H xs ts):cA H xs ts:=⟨h.1,fun i e q=>by
 obtain⟨p,a,n,b⟩:=h.2 i e q
 exact⟨p,a,b⟩⟩
theorem dM.snoc{S:Addr->Prop}{H:Hp}{xs:List V}{ts:List (List Nat)}{q:Addr}{l:List Nat}(h:dM S H xs ts)(n:¬ S q)(e:H q=some (.lst (l.map iV))):dM S H (xs++[.ref q]) (ts++[l]):=by
 refine⟨by rw[Cb,Cb,h.1];rfl,fun j k ej=>?_⟩
 by_cases hj:j<ts.length
 ·rw[Cj hj]at ej
  obtain⟨p,a1,a2⟩:=h.2 j k ej
  exact⟨p,by rw[Cj (by rw[h.1];exact hj)];exact a1,a2⟩
 ·rw[Cf (by omega)]at ej
  have hj2:j=ts.length:=by
   have:=(Ca.mp ej).1
   rw[Cp]at this
   omega
  subst hj2
  rw[CZ]at ej
  cases ej
  exact⟨q,by rw[← h.1,Cf (Cg _),CZ];rfl,n,e⟩
theorem rF{f:Nat->Nat}{N i:Nat}{rs:List (List Nat)}(w:dN f N i rs):rs.flatten.length<=N:=ly w.nd fun x hx=>by
 obtain⟨r,h1,h2⟩:=De.mp hx
 exact(w.ring r h1).lt x h2
theorem zO{f:Nat->Nat}{N i:Nat}{rs:List (List Nat)}(w:dN f N i rs):rs.length<=N:=by
 have h:∀(l:List (List Nat)),(∀ r∈l,0<r.length)->l.length<=l.flatten.length:=fun l=>by
  induction l with
  |nil=>intro _;exact Cg _
  |cons a l ih =>
   intro h
   rw[Dn,Cb,Df]
   have h1:=h a (CG ..)
   have h2:=ih fun r hr=>h r (CN _ hr)
   omega
 exact C6 (h rs fun r hr=>(w.ring r hr).ne) (rF w)
structure TT(K:B9)(H:Hp)(a b:Addr)(m:Nat)(es:En)(ts:List (List Nat)):Prop where
 xs:∃ xs,SqL K H a xs/\cP K H xs es
 ys:∃ ys,SqL K H b ys/\cA H ys ts
 w:gq m es ts
 few:es.length<=62
theorem TT.mono{K:B9}{H H':Hp}{a b:Addr}{m:Nat}{es:En}{ts:List (List Nat)}(t:TT K H a b m es ts)(s:Same H H'):TT K H' a b m es ts:=by
 obtain⟨⟨xs,h1,h2⟩,⟨ys,h3,h4⟩,w,f⟩:=t
 exact⟨⟨xs,s.seq h1,h2.mono s⟩,⟨ys,s.seq h3,h4.mono s⟩,w,f⟩
theorem wz{m:Nat}{es:En}{ts:List (List Nat)}(w:gq m es ts)(f:es.length<=62){p:Nat}{l:List Nat}(h:ts[p]?=some l):(∀ t∈l,t<62)/\l.length<=62:=by
 have a:∀ t∈l,t<es.length:=fun t ht=>by
  obtain⟨e,he,_⟩:=(w.mem p l h t).mp ht
  exact(Ca.mp he).1
 exact⟨fun t ht=>by have:=a t ht;omega,C6 (ly (w.nd p l h) a) f⟩
theorem perm{m:Nat}{es:En}{ts:List (List Nat)}(w:gq m es ts):zI (fol es ts) (2*es.length):=⟨fun d h=>by
 obtain⟨_,_,_,_,_,_,_,_,z,_⟩:=w.foll h
 exact z,fun a b ha hb h=>w.inj ha hb h⟩
def x5(K:B9):Sp:=fun vs H Q _=>∃(a:Addr)(xs:List V)(es:En)(d:Nat),vs = [.ref a,.int (d:Int)]/\SqL K H a xs/\cP K H xs es/\d<2*es.length/\Q (iV (hd es d)) H
def xZ(K:B9):Sp:=fun vs H Q _=>∃(a:Addr)(xs:List V)(es:En)(t p:Nat)(e:Nat×Nat),vs = [.ref a,.int (t:Int),.int (p:Int)]/\SqL K H a xs/\cP K H xs es/\es[t]?=some e/\Q (iV (if e.1=p then 2*t else 2*t+1)) H
def Bg(K:B9):Sp:=fun vs H Q _=>∃(a b:Addr)(m:Nat)(es:En)(ts:List (List Nat))(d:Nat),vs = [.ref a,.ref b,.int (d:Int)]/\TT K H a b m es ts/\d<2*es.length/\Q (iV (fol es ts d)) H
def x8(K:B9):Sp:=fun vs H Q _=>∃(a b:Addr)(m:Nat)(es:En)(ts:List (List Nat))(d:Nat),vs = [.ref a,.ref b,.int (d:Int)]/\TT K H a b m es ts/\d<2*es.length /\
 ∀ q r H',Same H H'->H q=none->H' q=some (.lst (r.map iV))->Path (fol es ts) (2*es.length) d r->Ring (fol es ts) (2*es.length) r->Q (.ref q) H'
def qk(K:B9):Sp:=fun vs H Q _=>∃(a b:Addr)(m:Nat)(es:En)(ts:List (List Nat)),vs = [.ref a,.ref b]/\TT K H a b m es ts /\
 ∀ q ys rs H',Same H H'->H' q=some (.lst ys)->cA H' ys rs->dN (fol es ts) (2*es.length) (2*es.length) rs->Q (.ref q) H'
def k8(H:Hp)(ys:List V)(n:Nat)(rs:List (List Nat)):Prop:=ys.length=n/\∀ i,i<n->∃ p a b r r',ys[i]?=some (.ref p)/\H p=some (.tup [iV a,iV b])/\rs[a]?=some r/\2*i∈r/\rs[b]?=some r'/\2*i+1∈r'
def uk(K:B9):Sp:=fun vs H Q _=>∃(a b:Addr)(xs ys:List V)(es:En)(f:Nat->Nat)(rs:List (List Nat)),vs = [.ref a,.ref b]/\SqL K H a xs/\cP K H xs es/\es.length<=62/\SqL K H b ys/\cA H ys rs/\dN f (2*es.length) (2*es.length) rs /\
 ∀ q zs H',Same H H'->H' q=some (.lst zs)->k8 H' zs es.length rs->Q (.ref q) H'
def gp(ns:List Int)(k:Nat):Int:=ns.getD k 0
def vY(K:B9):Sp:=fun vs H Q _=>∃(a:Addr)(k:Nat)(ns:List Int),vs = [.ref a,.int (k:Int)]/\SqL K H a (ns.map V.int)/\Q (.int (gp ns k)) H
def zM:Sp:=fun vs H Q _=>∃ i:Int,vs = [.int i]/\Q (.bl true) H
structure Txt(mg:Str->Option Value):Prop where
 n_max:mg "max" = none
 n_all:mg "all" = none
 n_zip:mg "zip" = none
 n_any:mg "any" = none
 n_len:mg "len" = none
 n_int:mg "int" = none
 n_bool:mg "bool" = none
 n_list:mg "list" = none
 n_tuple:mg "tuple" = none
 n_range:mg "range" = none
 n_enumerate:mg "enumerate" = none
 n_isinstance:mg "isinstance" = none
 n_min:mg "min" = none
 n_sum:mg "sum" = none
 n_sorted:mg "sorted" = none
section
variable{P:Program}{w:World}{K:B9}{mg:Str->Option Value}{base:Heap}
theorem yd:aE ["ties","dart","tie"] ["ties","dart"] (ak pN):=⟨rfl,rfl,rfl,by decide +kernel,rfl,by decide +kernel,by decide +kernel⟩
theorem BA{f:Addr}{fd:FuncData} (F:Fun K "head" "head" pN f fd):FnOk P w K mg base CX0 1 f fd ["ties","dart"] (x5 K):=by
 refine F.ok yd (fun vs H Q E h=>?_) (fun cdv A outer s H vs Q E hr h=>?_)
 ·obtain⟨a,xs,es,d,rfl,_⟩:=h
  rfl
 obtain⟨a,xs,es,d,rfl,hS,hT,hdl,k⟩:=h
 have hl:d/2<es.length:=by omega
 have e1:es[d/2]?=some es[d/2]:=Cc hl
 obtain⟨p,C,dx,s',x1,x2,x3⟩:=hT.2 _ _ e1
 have hh:hd es d=if d%2=0 then es[d/2].2 else es[d/2].1:=by unfold hd;rw[e1]
 have ed:(d:Int)/2=((d/2:Nat):Int):=by omega
 refine⟨_,(af (aI (i:=2) yd.nd rfl (Or.inl rfl) (aV aN (pv 0) (aq cE (pv 1) ah) (fun _ _=>rfl)))
   (aj (aJ (wb (au fu (aq aU (pv 1) ah) ah (av _)) (bo (pv 2) rfl) (bo (pv 2) rfl))))),?_⟩
 refine⟨_,rfl,_,rfl,_,_,rfl,rfl,⟨by decide,by decide⟩,a,xs,_,_,rfl,rfl,hS,(by rw[ed];exact aP x1),?_⟩
 refine⟨_,rfl,_,_,rfl,rfl,(by show(0:Int)<2;decide),rfl,_,rfl,?_⟩
 refine ite2 (fun q=>?_) (fun q=>?_)
 ·have q':(d:Int)%2=0:=V.int.inj (of_decide_eq_true q)
  refine⟨_,rfl,p,C,dx,_,_,rfl,x2,x3.cl,x3.n2,lg _ _ _,?_⟩
  rw[hh,if_pos (by omega)]at k
  exact k
 ·have q':¬ (d:Int)%2=0:=fun z=>q (decide_eq_true (congrArg V.int z))
  refine⟨_,rfl,p,C,dx,_,_,rfl,x2,x3.cl,x3.n1,iB _ _ _,?_⟩
  rw[hh,if_neg (by omega)]at k
  exact k
theorem wH:aE ["ties","number","place"] ["ties","number","place"] (ak eV):=⟨rfl,rfl,rfl,by decide +kernel,rfl,by decide +kernel,by decide +kernel⟩
theorem wQ{f:Addr}{fd:FuncData} (F:Fun K "leaving" "leaving" eV f fd):FnOk P w K mg base CX0 1 f fd ["ties","number","place"] (xZ K):=by
 refine F.ok wH (fun vs H Q E h=>?_) (fun cdv A outer s H vs Q E hr h=>?_)
 ·obtain⟨a,xs,es,t,p,e,rfl,_⟩:=h
  rfl
 obtain⟨a,xs,es,t,pl,e,rfl,hS,hT,he,k⟩:=h
 obtain⟨p,C,dx,s',x1,x2,x3⟩:=hT.2 _ _ he
 have m2:CMul 2 (t:Int):=.inl ⟨by decide,by decide⟩
 refine⟨_,(aj (aJ (wb (au fu (bo (aV aN (pv 0) (pv 1) (fun _ _=>rfl)) rfl) (pv 2) (av _)) (aq cz ah (pv 1)) (aq aL (aq cz ah (pv 1)) ah)))),?_⟩
 refine⟨_,rfl,_,rfl,a,xs,_,_,rfl,rfl,hS,aP x1,p,C,dx,_,_,rfl,x2,x3.cl,x3.n1,iB _ _ _,_,rfl,rfl,_,rfl,?_⟩
 refine ite2 (fun q=>?_) (fun q=>?_)
 ·have q':(e.1:Int)=(pl:Int):=V.int.inj (of_decide_eq_true q)
  refine⟨_,rfl,_,_,rfl,rfl,m2,?_⟩
  rw[if_pos (by omega)]at k
  exact k
 ·have q':¬ (e.1:Int)=(pl:Int):=fun z=>q (decide_eq_true (congrArg V.int z))
  refine⟨_,rfl,_,_,rfl,rfl,m2,_,_,rfl,rfl,?_⟩
  rw[if_neg (by omega)]at k
  exact k
theorem fq:aE ["ties","turns","dart","place","about","behind"] ["ties","turns","dart"] (ak dA):=⟨rfl,rfl,rfl,by decide +kernel,rfl,by decide +kernel,by decide +kernel⟩
theorem uR{f fh fl:Addr}{fd fdh fdl:FuncData} (F:Fun K "follower" "follower" dA f fd) (T:Txt mg) (G_head:Cal P w K mg base 1 "head" ["ties","dart"] (x5 K) fh fdh) (G_leaving:Cal P w K mg base 1 "leaving" ["ties","number","place"] (xZ K) fl fdl):FnOk P w K mg base CX0 2 f fd ["ties","turns","dart"] (Bg K):=by
 refine F.ok fq (fun vs H Q E h=>?_) (fun cdv A outer s H vs Q E hr h=>?_)
 ·obtain⟨a,b,m,es,ts,d,rfl,_⟩:=h
  rfl
 obtain⟨a,b,m,es,ts,d,rfl,tt,hdl,k⟩:=h
 obtain⟨⟨xs,h1,h2⟩,⟨ys,h3,h4⟩,w',few⟩:=tt
 obtain⟨l,e,p1,p2,p3,p4,p5,p6,p7,p8,p9⟩:=w'.foll hdl
 obtain⟨small,len⟩:=wz w' few p1
 obtain⟨q,y1,y2⟩:=h4.2 _ _ p1
 have ed:(d:Int)/2=((d/2:Nat):Int):=by omega
 refine⟨_,(af (aI (i:=3) fq.nd rfl (Or.inl rfl) (aA G_head.ok (hr.mono (by decide)) rfl G_head.mg G_head.kp G_head.bn .nil a9 (aa (pv 0) (aa (pv 2) ag))))
   (af (aI (i:=4) fq.nd rfl (Or.inl rfl) (aV aN (pv 1) (pv 3) (fun _ _=>rfl)))
   (af (aI (i:=5) fq.nd rfl (Or.inl rfl) (aq aU (aq aL (gB CD PySem.F.slot_list_index PySem.F.type_list_index Ac (pv 4) (aa (aq cE (pv 2) ah) ag)) ah) (az aw (by rfl) T.n_len bQ (aa (pv 4) ag))))
   (aj (aJ (aA G_leaving.ok (hr.mono (by decide)) rfl G_leaving.mg G_leaving.kp G_leaving.bn .nil a9 (aa (pv 0) (aa (aV aN (pv 4) (pv 5) (fun _ _=>rfl)) (aa (pv 3) ag))))))))),?_⟩
 refine⟨_,rfl,_,rfl,a,xs,es,d,rfl,h1,h2,hdl,?_⟩
 refine⟨_,rfl,_,rfl,b,ys,_,_,rfl,rfl,h3,aP y1,?_⟩
 have hlen:(l.map iV).length=l.length:=Cd _
 have hl0:0<l.length:=D6 p2
 have hmod:(((l.idxOf (d/2):Nat):Int)+1)%((l.map iV).length:Int)=(((l.idxOf (d/2)+1)%l.length:Nat):Int):=by rw[hlen];rfl
 refine⟨_,rfl,.inl ⟨rfl,_,SqL.of y2⟩,_,rfl,_,_,rfl,rfl,⟨by decide,by decide⟩,q,l,d/2,rfl,congrArg (fun z=>[V.int z]) ed,SqL.of y2,fun p hp=>by have:=small p hp;omega,by omega,p2,_,_,rfl,rfl,_,rfl,q,_,rfl,.inl (SqL.of y2),_,_,rfl,rfl,(by show(0:Int)<((l.map iV).length:Int);rw[hlen];omega),?_⟩
 refine⟨_,rfl,_,rfl,_,rfl,q,_,_,_,rfl,rfl,SqL.of y2,(by rw[hmod];exact iV_at (qV p2)),_,rfl,a,xs,es,nxt l (d/2),hd es d,e,rfl,h1,h2,p3,?_⟩
 rw[p6]at k
 exact k
theorem c8:aE ["ties","turns","first","row","dart"] ["ties","turns","first"] (ak b7):=⟨rfl,rfl,rfl,by decide +kernel,rfl,by decide +kernel,by decide +kernel⟩
theorem BB{f ff:Addr}{fd fdf:FuncData} (F:Fun K "round_from" "round_from" b7 f fd) (G_follower:Cal P w K mg base 2 "follower" ["ties","turns","dart"] (Bg K) ff fdf):FnOk P w K mg base CX0 3 f fd ["ties","turns","first"] (x8 K):=by
 refine F.ok c8 (fun vs H Q E h=>?_) (fun cdv A outer s H vs Q E hr h=>?_)
 ·obtain⟨a,b,m,es,ts,d,rfl,_⟩:=h
  rfl
 obtain⟨a,b,m,es,ts,d,rfl,tt,hdl,k⟩:=h
 have pm:=perm tt.w
 refine⟨_,(af (aI (i:=3) c8.nd rfl (Or.inl rfl) (bc (aa (pv 2) ag)))
   (af (aI (i:=4) c8.nd rfl (Or.inl rfl) (aA G_follower.ok (hr.mono (by decide)) rfl G_follower.mg G_follower.kp G_follower.bn .nil a9 (aa (pv 0) (aa (pv 1) (aa (pv 2) ag)))))
   (af (v9 PassesOwn.never (au qK (pv 4) (pv 2) (av _)) (af (aY (gB CD CL CK a7 (pv 3) (aa (pv 4) ag)))
   (aj (aI (i:=4) c8.nd rfl (Or.inl rfl) (aA G_follower.ok (hr.mono (by decide)) rfl G_follower.mg G_follower.kp G_follower.bn .nil a9 (aa (pv 0) (aa (pv 1) (aa (pv 4) ag))))))))
   (aj (aJ (pv 3)))))),?_⟩
 refine⟨_,rfl,(by show 1<=sizeLine;decide),fun q hq=>?_⟩
 have s1:=ai hq (.lst [.int (d:Int)])
 refine⟨_,rfl,_,rfl,_,rfl,a,b,m,es,ts,d,rfl,tt.mono s1,hdl,?_⟩
 refine vU (fun σ H2=>∃(r:List Nat)(x:Nat),σ = [some (.ref a),some (.ref b),some (.int (d:Int)),some (.ref q),some (iV (fol es ts x))]/\Same H H2/\H2 q=some (.lst ((r++[x]).map iV))/\Path (fol es ts) (2*es.length) d (r++[x]))
  (fun σ H2=>match H2 q with | some (.lst xs)=>200-xs.length | _=>0) ⟨[],d,rfl,s1,ae,zS hdl⟩ ?_ ?_
 ·rintro σ H2 ⟨r,x,rfl,s2,hq2,pa⟩
  refine⟨_,rfl,_,rfl,rfl,_,rfl,?_⟩
  have few:=tt.few
  have hlen:=ly pa.nd pa.lt
  refine ite2 (fun c=>?_) (fun c=>?_)
  ·have c':fol es ts x≠d:=fun z=>by
    rw[decide_eq_true (show iV (fol es ts x)=V.int (d:Int) by rw[z];rfl)]at c
    cases c
   have pa2:=pa.snoc pm c'
   have hlen2:=ly pa2.nd pa2.lt
   have lt2:fol es ts x<2*es.length:=pa2.lt _ (by simp)
   refine⟨_,rfl,.inl ⟨rfl,_,SqL.of hq2⟩,_,rfl,q,_,_,rfl,rfl,hq2,ar (by rw[Cd];omega),?_⟩
   have s3:=aQ s2 hq (.lst ((r++[x]).map iV++[iV (fol es ts x)]))
   refine⟨_,rfl,_,rfl,_,rfl,a,b,m,es,ts,fol es ts x,rfl,tt.mono s3,lt2,?_⟩
   refine⟨⟨r++[x],fol es ts x,rfl,s3,?_,pa2⟩,?_⟩
   ·rw[ae,show((r++[x]++[fol es ts x]).map iV)=(r++[x]).map iV++[iV (fol es ts x)] from by rw[CP];rfl]
   ·show(match(upd H2 q (.lst ((r++[x]).map iV++[iV (fol es ts x)]))) q with | some (.lst xs)=>200-xs.length | _=>0)<(match H2 q with | some (.lst xs)=>200-xs.length | _=>0)
    rw[ae,hq2]
    show 200-((r++[x]).map iV++[iV (fol es ts x)]).length<200-((r++[x]).map iV).length
    rw[Cb,Cd,Cp]
    omega
  ·have c':fol es ts x=d:=by
    by_cases z:fol es ts x=d
    ·exact z
    ·exact absurd (by rw[decide_eq_false (fun y=>z (by have:=V.int.inj y;omega))];rfl) c
   refine⟨_,rfl,?_⟩
   exact k q _ H2 s2 hq hq2 pa (pa.ring pm c')
 ·rintro σ H2 Q1 Q2 hi ⟨v',e,b',e2,z1,c',e3,q'⟩
  exact⟨v',e,b',e2,z1,c',e3,hi _ _ q'⟩
theorem b4:aE ["ties","turns","rounds","seen","dart","row","gone"] ["ties","turns"] (ak cC):=⟨rfl,rfl,rfl,by decide +kernel,rfl,by decide +kernel,by decide +kernel⟩
theorem yw{f ff:Addr}{fd fdf:FuncData} (F:Fun K "rounds_of" "rounds_of" cC f fd) (T:Txt mg) (G_round_from:Cal P w K mg base 3 "round_from" ["ties","turns","first"] (x8 K) ff fdf):FnOk P w K mg base CX0 4 f fd ["ties","turns"] (qk K):=by
 refine F.ok b4 (fun vs H Q E h=>?_) (fun cdv A outer s H vs Q E hr h=>?_)
 ·obtain⟨a,b,m,es,ts,rfl,_⟩:=h
  rfl
 obtain⟨a,b,m,es,ts,rfl,tt,k⟩:=h
 have hu:=BN hr
 have pm:=perm tt.w
 have few:=tt.few
 obtain⟨xs,h1,h2⟩:=tt.xs
 refine⟨_,(af (aI (i:=2) b4.nd rfl (Or.inl rfl) (bc ag))
   (af (aI (i:=3) b4.nd rfl (Or.inl rfl) wc)
   (af (cp PassesOwn.never rfl (aT rfl T.n_range (aa (aq cz ah (az aw (by rfl) T.n_len bQ (aa (pv 0) ag))) ag)) (aG (i:=4) b4.nd rfl (Or.inl rfl)) (aj (aX (pt_cmp (yr hu (pv 4) (pv 3))) (af (aI (i:=5) b4.nd rfl (Or.inl rfl) (aA G_round_from.ok (hr.mono (by decide)) rfl G_round_from.mg G_round_from.kp G_round_from.bn .nil a9 (aa (pv 0) (aa (pv 1) (aa (pv 4) ag)))))
   (af (aY (gB CD CL CK a7 (pv 2) (aa (pv 5) ag)))
   (aj (cp PassesOwn.never rfl (cR (pv 5)) (aG (i:=6) b4.nd rfl (Or.inl rfl)) (aj (qB hu (pv 3) (pv 6) iU rfl)))))) ay)))
   (aj (aJ (pv 2)))))),?_⟩
 refine⟨(by show 0<=sizeLine;decide),fun qr hqr=>fun qs hqs=>?_⟩
 have s1:=(ai hqr (.lst [])).trans (ai hqs (.dK []))
 have hqs0:H qs=none:=by
  cases z:H qs with
  |none=>rfl
  |some o=>rw[ai hqr (.lst []) qs o z]at hqs;cases hqs
 have hne:qr≠qs:=fun z=>by rw[← z,ae]at hqs;cases hqs
 have hxl:xs.length=es.length:=h2.1
 have hN:(2*(xs.length:Int)).toNat=2*es.length:=by omega
 refine⟨_,rfl,a,xs,rfl,.inl (s1.seq h1),_,_,rfl,rfl,.inl ⟨by decide,by decide⟩,_,rfl,by omega,by omega,bP (n:=(2*(xs.length:Int)).toNat) (fun i σ H2=>∃ v4 v5 v6 ys rs kvs,σ = [some (.ref a),some (.ref b),some (.ref qr),some (.ref qs),v4,v5,v6]/\Same H H2/\H2 qr=some (.lst ys)/\dM (fun p=>p=qr∨p=qs) H2 ys rs/\H2 qs=some (.dK kvs)/\kvs.length<=rs.flatten.length/\(∀ d:Nat,(valV kvs (Sum.inl (d:Int))).isSome=true↔d∈rs.flatten)/\dN (fol es ts) (2*es.length) i rs)
  ⟨_,_,_,[],[],[],rfl,s1,by rw[ao hne,ae],⟨rfl,fun i l e=>by simp at e⟩,ae,Cg _,fun d=>by simp[valV],wI _ _⟩ ?_ ?_⟩
 ·rintro i σ H2 hi ⟨v4,v5,v6,ys,rs,kvs,rfl,s2,e1,rx,e2,kl,km,ro⟩
  rw[hN]at hi
  have e0:(0:Int)+(i:Int)=(i:Int):=Dg _
  rw[e0]
  have fl:=rF ro
  have rl:=zO ro
  refine⟨_,rfl,_,rfl,_,_,rfl,DGet.k (k:=Sum.inl (i:Int)) e2,_,rfl,?_⟩
  refine ite2 (fun c=>?_) (fun c=>?_)
  ·have hni:i∉rs.flatten:=fun z=>by
    rw[(km i).mpr z]at c
    cases c
   refine⟨_,rfl,_,rfl,_,rfl,a,b,m,es,ts,i,rfl,tt.mono s2,hi,fun q r H3 s3 hq hq3 pa ri=>?_⟩
   have s23:=s2.trans s3
   have nq:¬ (q=qr∨q=qs):=by
    rintro(z | z)
    ·rw[z,e1]at hq;cases hq
    ·rw[z,e2]at hq;cases hq
   refine⟨_,rfl,.inl ⟨rfl,_,SqL.of (s3 _ _ e1)⟩,_,rfl,qr,_,_,rfl,rfl,s3 _ _ e1,ar (by rw[rx.1];omega),?_⟩
   have s4:=aQ s23 hqr (.lst (ys++[.ref q]))
   have hrq:∀{H5:Hp},dM (fun p=>p=qr∨p=qs) H5 (ys++[.ref q]) (rs++[r])->H5 q=some (.lst (r.map iV)):=fun h=>by
    obtain⟨p,z1,_,z2⟩:=h.2 rs.length r (by rw[Cf (Cg _),CZ];rfl)
    rw[← rx.1,Cf (Cg _),CZ]at z1
    cases z1
    exact z2
   have rx4:dM (fun p=>p=qr∨p=qs) (upd H3 qr (.lst (ys++[.ref q]))) (ys++[.ref q]) (rs++[r]):=by
    refine(rx.mono fun p o n z=>?_).snoc nq ?_
    ·rw[ao (fun z=>n (.inl z))];exact s3 _ _ z
    ·rw[ao (fun z=>nq (.inl z))];exact hq3
   have rl:r.length<=2*es.length:=ly ri.nd ri.lt
   refine⟨_,rfl,q,rfl,⟨_,SqL.of (hrq rx4)⟩,ir (xs:=r.map iV) (fun j σ H5=>∃ v6 kvs',σ = [some (.ref a),some (.ref b),some (.ref qr),some (.ref qs),some (.int (i:Int)),some (.ref q),v6]/\Same H H5/\H5 qr=some (.lst (ys++[.ref q]))/\dM (fun p=>p=qr∨p=qs) H5 (ys++[.ref q]) (rs++[r])/\H5 qs=some (.dK kvs')/\kvs'.length<=rs.flatten.length+j/\∀ d:Nat,(valV kvs' (Sum.inl (d:Int))).isSome=true↔d∈rs.flatten∨d∈r.take j)
    ⟨_,kvs,rfl,s4,ae,rx4,by rw[ao hne.symm];exact s3 _ _ e2,kl,fun d=>by rw[km d];simp⟩ (fun j σ H5 _ p=>?_) ?_ ?_⟩
   ·obtain⟨_,_,_,_,_,z,_⟩:=p
    exact SqL.of (hrq z)
   ·rintro j x σ H5 hx ⟨v6,kvs',rfl,s5,f1,rx5,f2,kl5,km5⟩
    rw[CH]at hx
    obtain⟨g,hg,rfl⟩:=Dh.mp hx
    have hjl:j<r.length:=(Ca.mp hg).1
    refine⟨_,rfl,_,rfl,qs,_,rfl,DPut.k (k:=Sum.inl (g:Int)) f2 (ar (by omega)),?_⟩
    refine⟨_,_,rfl,aQ s5 hqs0 _,by rw[ao hne];exact f1,rx5.mono fun p o n z=>by rw[ao (fun z=>n (.inr z))];exact z,ae,by have:=fx kvs' (Sum.inl (g:Int)) (V.bl true);omega,fun d=>?_⟩
    rw[fo]
    have tk:r.take (j+1)=r.take j++[g]:=by rw[CY,hg];rfl
    rw[tk]
    by_cases z:d=g
    ·subst z
     simp
    ·rw[if_neg (fun y=>z (by have:=Sum.inl.inj y;omega)),km5 d]
     simp[z]
   ·rintro σ H5 ⟨v6,kvs',rfl,s5,f1,rx5,f2,kl5,km5⟩
    rw[Cd]at kl5 km5
    refine⟨_,_,_,_,rs++[r],kvs',rfl,s5,f1,rx5,f2,by rw[DH,Cb];simpa using kl5,fun d=>?_,ro.put pm hni hi ri pa⟩
    rw[km5 d,C7,DH,CA]
    simp
  ·have hii:i∈rs.flatten:=(km i).mp (by
    cases z:(valV kvs (Sum.inl (i:Int))).isSome with
    |true=>rfl
    |false=>exact absurd (by rw[z];rfl) c)
   exact⟨_,_,_,ys,rs,kvs,rfl,s2,e1,rx,e2,kl,km,ro.skip hii⟩
 ·rintro σ H2 ⟨v4,v5,v6,ys,rs,kvs,rfl,s2,e1,rx,e2,kl,km,ro⟩
  rw[hN]at ro
  exact⟨_,rfl,k qr ys rs H2 s2 e1 rx.off ro⟩
theorem dB:aE ["ties","rounds","number_at","number","row","dart"] ["ties","rounds"] (ak dw):=⟨rfl,rfl,rfl,by decide +kernel,rfl,by decide +kernel,by decide +kernel⟩
theorem zY{f:Addr}{fd:FuncData} (F:Fun K "sides_of" "sides_of" dw f fd) (T:Txt mg):FnOk P w K mg base CX0 1 f fd ["ties","rounds"] (uk K):=by
 refine F.ok dB (fun vs H Q E h=>?_) (fun cdv A outer s H vs Q E hr h=>?_)
 ·obtain⟨a,b,xs,ys,es,g,rs,rfl,_⟩:=h
  rfl
 obtain⟨a,b,xs,ys,es,g,rs,rfl,hS,hT,few,hB,hR,ro,k⟩:=h
 have hu:=BN hr
 have fl:=rF ro
 refine⟨_,(af (aI (i:=2) dB.nd rfl (Or.inr rfl) wc)
   (af (cp PassesOwn.never rfl (mD rfl T.n_enumerate (aa (pv 1) ag)) (pO rfl (bz (aG (i:=3) dB.nd rfl (Or.inl rfl)) (bz (aG (i:=4) dB.nd rfl (Or.inl rfl)) iT))) (aj (cp PassesOwn.never rfl (cR (pv 4)) (aG (i:=5) dB.nd rfl (Or.inl rfl)) (aj (qB hu (pv 2) (pv 5) (pv 3) rfl)))))
   (aj (aJ (qJ rfl (fr:=[("number_at",2)]) (by exact cQ.one (by rfl) (by decide +kernel) (by rfl) (by decide +kernel) (by rfl) (by decide +kernel) (by rfl) (by rfl) (by decide +kernel) (by rfl)) (aT rfl T.n_range (aa (az aw (by rfl) T.n_len bQ (aa (pv 0) ag)) ag)) (fun C ex s H=>(cq (aa (uQ hu (pv 1) (aq cz ah (pv 0)) (fun _ _=>rfl)) (aa (uQ hu (pv 1) (aq aL (aq cz ah (pv 0)) ah) (fun _ _=>rfl)) ag))))))))),?_⟩
 intro q hq
 have s1:=ai hq (.dK [])
 have kF:∀ i,(rs.take i).flatten.length<=rs.flatten.length:=fun i=>by
  have:=congrArg (fun z=>z.flatten.length) (Eb i rs)
  simp only[DH,Cb]at this
  omega
 refine⟨_,rfl,b,rfl,⟨_,s1.seq hB⟩,rE (K:=K) (xs:=ys) (fun i σ H2=>∃ v3 v4 v5 kvs,σ = [some (.ref a),some (.ref b),some (.ref q),v3,v4,v5]/\Same H H2/\H2 q=some (.dK kvs)/\kvs.length<=(rs.take i).flatten.length/\∀(d c:Nat)(r:List Nat),c<i->rs[c]?=some r->d∈r->valV kvs (Sum.inl (d:Int))=some (iV c))
  ⟨_,_,_,[],rfl,s1,ae,Dm _,fun d c r z=>absurd z (Ea _)⟩ (fun i σ H2 _ ⟨_,_,_,_,_,s2,_⟩=>s2.seq hB) ?_ ?_⟩
 ·rintro i x σ H2 T2 hx ⟨v3,v4,v5,kvs,rfl,s2,e1,kl,km⟩ hT2
  have hil:i<rs.length:=by
   have:=(Ca.mp hx).1
   rw[hR.1]at this
   exact this
  have hr':rs[i]?=some rs[i]:=Cc hil
  obtain⟨p,x1,x2⟩:=hR.2 i _ hr'
  rw[hx]at x1
  cases x1
  generalize rs[i]=r at hr' x2
  have s3:Same H (upd H2 T2 (.tup [.int (i:Int),.ref p])):=s2.trans (ai hT2 _)
  have f1:(rs.take (i+1)).flatten=(rs.take i).flatten++r:=by rw[CY,hr'];simp
  have f2:=kF (i+1)
  rw[f1,Cb]at f2
  refine⟨T2,_,rfl,SqT.of ae,rfl,_,_,rfl,_,_,rfl,rfl,?_⟩
  refine⟨_,rfl,p,rfl,⟨_,SqL.of (s3 _ _ x2)⟩,ir (xs:=r.map iV) (fun j σ H5=>∃ v5 kvs',σ = [some (.ref a),some (.ref b),some (.ref q),some (.int (i:Int)),some (.ref p),v5]/\Same H H5/\H5 q=some (.dK kvs')/\kvs'.length<=(rs.take i).flatten.length+j/\(∀(d c:Nat)(r:List Nat),c<i->rs[c]?=some r->d∈r->valV kvs' (Sum.inl (d:Int))=some (iV c))/\∀ d∈r.take j,valV kvs' (Sum.inl (d:Int))=some (iV i))
   ⟨_,kvs,rfl,s3,ai hT2 _ _ _ e1,kl,km,fun d hd=>by simp at hd⟩ (fun j σ H5 _ ⟨_,_,_,z,_⟩=>SqL.of (z _ _ x2)) ?_ ?_⟩
  ·rintro j x σ H5 hx2 ⟨v5,kvs',rfl,s5,g1,kl5,km5,kn5⟩
   rw[CH]at hx2
   obtain⟨g,hg,rfl⟩:=Dh.mp hx2
   have hjl:j<r.length:=(Ca.mp hg).1
   refine⟨_,rfl,_,rfl,_,rfl,q,_,rfl,DPut.k (k:=Sum.inl (g:Int)) g1 (ar (by omega)),?_⟩
   refine⟨_,_,rfl,aQ s5 hq _,ae,by have:=fx kvs' (Sum.inl (g:Int)) (V.int (i:Int));omega,fun d c r' hc hrc hd=>?_,fun d hd=>?_⟩
   ·rw[fo,if_neg (fun z=>?_)]
    ·exact km5 d c r' hc hrc hd
    ·have z':d=g:=by have:=Sum.inl.inj z;omega
     subst z'
     have:=BP ro.nd hrc hr' hd (Ce hg)
     omega
   ·rw[fo]
    by_cases z:d=g
    ·subst z
     rw[if_pos rfl]
     rfl
    ·rw[if_neg (fun y=>z (by have:=Sum.inl.inj y;omega))]
     refine kn5 d ?_
     rw[CY,hg]at hd
     simpa[z] using hd
  ·rintro σ H5 ⟨v5,kvs',rfl,s5,g1,kl5,km5,kn5⟩
   rw[Cd]at kl5 kn5
   rw[C7]at kn5
   refine⟨_,_,_,kvs',rfl,s5,g1,by rw[f1,Cb];exact kl5,fun d c r' hc hrc hd=>?_⟩
   by_cases z:c=i
   ·subst z
    rw[hr']at hrc
    cases hrc
    exact kn5 d hd
   ·exact km5 d c r' (by omega) hrc hd
 ·rintro σ H2 ⟨v3,v4,v5,kvs,rfl,s2,e1,kl,km⟩
  rw[hR.1]at km
  have get:∀ d,d<2*es.length->∃ c r,rs[c]?=some r/\d∈r/\valV kvs (Sum.inl (d:Int))=some (iV c):=fun d hd=>by
   obtain⟨r,z1,z2⟩:=De.mp (ro.all d hd)
   obtain⟨c,z3⟩:=Dk.mp z1
   exact⟨c,r,z3,z2,km d c r (Ca.mp z3).1 z3 z2⟩
  have hxl:xs.length=es.length:=hT.1
  refine⟨_,rfl,a,xs,rfl,.inl (s2.seq hS),_,rfl,by omega,by omega,pR (fun i zs H3=>Same H2 H3/\k8 H3 zs i rs) (by rw[CF,hxl];exact CQ (ar (by omega))) ⟨fun _ _ e=>e,rfl,fun i hi=>absurd hi (Ea _)⟩ ?_ ?_⟩
  ·rintro i zs H3 hi ⟨s3,sd⟩
   have e0:(0:Int)+(i:Int)=(i:Int):=Dg _
   rw[e0]
   rw[CF,hxl]at hi
   obtain⟨c1,r1,z1,z2,z3⟩:=get (2*i) (by omega)
   obtain⟨c2,r2,y1,y2,y3⟩:=get (2*i+1) (by omega)
   have m2:CMul 2 (i:Int):=.inl ⟨by decide,by decide⟩
   have d1:DGet H3 q (V.int (2*(i:Int))) (some (iV c1)):=by
    rw[← z3,show((2*i:Nat):Int)=2*(i:Int) by omega]
    exact DGet.k (k:=Sum.inl (2*(i:Int))) (s3 _ _ e1)
   have d2:DGet H3 q (V.int (2*(i:Int)+1)) (some (iV c2)):=by
    rw[← y3,show((2*i+1:Nat):Int)=2*(i:Int)+1 by omega]
    exact DGet.k (k:=Sum.inl (2*(i:Int)+1)) (s3 _ _ e1)
   refine⟨_,rfl,_,rfl,_,_,rfl,rfl,m2,q,_,rfl,d1,_,rfl,_,rfl,_,_,rfl,rfl,m2,_,_,rfl,rfl,q,_,rfl,d2,(by show 2<=sizeLine;decide),fun t ht=>?_⟩
   have s4:=ai ht (.tup [iV c1,iV c2])
   refine⟨s3.trans s4,by rw[Cb,sd.1];rfl,fun j hj=>?_⟩
   by_cases z:j=i
   ·subst z
    exact⟨t,c1,c2,r1,r2,by rw[← sd.1,Cf (Cg _),CZ];rfl,ae,z1,z2,y1,y2⟩
   ·obtain⟨p,a',b',r,r',w1,w2,w3⟩:=sd.2 j (by omega)
    exact⟨p,a',b',r,r',by rw[Cj (by rw[sd.1];omega)];exact w1,s4 _ _ w2,w3⟩
  ·rintro zs H3 hzl ⟨s3,sd⟩ D hD
   rw[CF,hxl]at sd
   exact k D zs _ ((s2.trans s3).trans (ai hD _)) ae ⟨sd.1,fun i hi=>by
    obtain⟨p,a',b',r,r',w1,w2,w3⟩:=sd.2 i hi
    exact⟨p,a',b',r,r',w1,ai hD _ _ _ w2,w3⟩⟩
theorem qy:aE ["self","one","two","strength"] ["self","one","two","strength"] (ak cf):=⟨rfl,rfl,rfl,by decide +kernel,rfl,by decide +kernel,by decide +kernel⟩
theorem Bz{f:Addr}{fd:FuncData} (F:Fun K "__init__" "Tie.__init__" cf f fd):FnOk P w K mg base CX0 1 f fd ["self","one","two","strength"] (pK K):=by
 refine F.ok qy (fun vs H Q E h=>?_) (fun cdv A outer s H vs Q E hr h=>?_)
 ·obtain⟨p,C,dx,a,b,s,rfl,_⟩:=h
  rfl
 obtain⟨p,C,dx,a,b,st,rfl,hp,T,hne,ha,hb,hs,k⟩:=h
 refine⟨_,(af (aX (au fu (pv 1) (pv 2) (av _)) (aj ft) ay)
   (af (aX (PW.pt (iS (au jq (pv 1) ah (av _)) (eW (au jq (pv 2) ah (av _))))) (aj ft) ay)
   (af (aX (au jq (pv 3) ah (av _)) (aj ft) ay)
   (af (lr (pv 0) (pv 1) rfl)
   (af (lr (pv 0) (pv 2) rfl)
   (aj (lr (pv 0) (pv 3) rfl))))))),?_⟩
 walk_at "rd"
 refine ite2 (fun c=>absurd (V.int.inj (of_decide_eq_true c)) hne) (fun _=>?_)
 walk_at "rd"
 refine ite2 (fun c=>absurd (of_decide_eq_true c) (by omega)) (fun _=>?_)
 walk_at "rd"
 refine ite2 (fun c=>absurd (of_decide_eq_true c) (by omega)) (fun _=>?_)
 walk_at "rd"
 refine ite2 (fun c=>absurd (of_decide_eq_true c) (by omega)) (fun _=>?_)
 refine⟨_,rfl,_,rfl,p,C,dx,[],rfl,hp,T.cl,T.n1,(by show 0<1000;decide),?_⟩
 refine⟨_,rfl,_,rfl,p,C,dx,_,rfl,ae,T.cl,T.n2,f1_len a,?_⟩
 refine⟨_,rfl,_,rfl,p,C,dx,_,rfl,ae,T.cl,T.n3,f2_len a b,?_⟩
 exact k _ ae fun q o e hq=>by rw[ao hq,ao hq,ao hq];exact e
theorem uC:aE ["script","k"] ["script","k"] (ak dz):=⟨rfl,rfl,rfl,by decide +kernel,rfl,by decide +kernel,by decide +kernel⟩
theorem BD{f:Addr}{fd:FuncData} (F:Fun K "_law_cell" "_law_cell" dz f fd) (T:Txt mg):FnOk P w K mg base CX0 1 f fd ["script","k"] (vY K):=by
 refine F.ok uC (fun vs H Q E h=>?_) (fun cdv A outer s H vs Q E hr h=>?_)
 ·obtain⟨a,k,ns,rfl,_⟩:=h
  rfl
 obtain⟨a,k,ns,rfl,hS,q⟩:=h
 refine⟨_,(af (aX (au jq (pv 1) (az aw (by rfl) T.n_len bQ (aa (pv 0) ag)) (av _)) (aj (aJ (aV aN (pv 0) (pv 1) (fun _ _=>rfl)))) ay)
   (aj (aJ ah))),?_⟩
 refine⟨_,rfl,_,rfl,a,_,rfl,.inl hS,_,_,rfl,rfl,_,rfl,?_⟩
 refine ite2 (fun c=>?_) (fun c=>?_)
 ·have c':(k:Int)<((ns.map V.int).length:Int):=of_decide_eq_true c
  rw[Cd]at c'
  have hk:k<ns.length:=by omega
  have hat:atI (ns.map V.int) (k:Int)=some (.int (gp ns k)):=aP (by rw[CH,Cc hk];unfold gp;rw[Dr,Cc hk];rfl)
  exact⟨_,rfl,_,rfl,a,_,_,_,rfl,rfl,hS,hat,q⟩
 ·have c':¬ (k:Int)<((ns.map V.int).length:Int):=fun z=>c (decide_eq_true z)
  rw[Cd]at c'
  have e:gp ns k=0:=by unfold gp;rw[Dr,List.getElem?_eq_none (by omega)];rfl
  rw[e]at q
  exact q
theorem at0{u v:V}:atI [u,v] 0=some u:=rfl
theorem at1{u v:V}:atI [u,v] 1=some v:=rfl
theorem BI{H:Hp}{a:Addr}{ps:List Nat}(h:SqL K H a (ps.map iV)):RdD K H (.ref a) (.list ((ps.map fun(p:Nat)=>((p:Nat):Int)).map PyData.int)):=by
 refine RdD.lst h (by simp) fun i x d e1 e2=>?_
 rw[CH]at e1
 rw[CH,CH]at e2
 cases z:ps[i]? with
 |none=>rw[z]at e1;cases e1
 |some n =>
  rw[z]at e1 e2
  cases e1
  cases e2
  exact .int _
theorem yS(l:List Int):(PyData.list (l.map PyData.int)).canLay0=true/\(PyData.list (l.map PyData.int)).depth<=10:=by
 have h1:∀ d∈l.map PyData.int,d.canLay0=true/\d.depth<=1:=fun d hd=>by
  obtain⟨x,_,rfl⟩:=Dc.mp hd
  exact⟨by simp[PyData.canLay0],by simp[PyData.depth]⟩
 have h2:=eh fun d hd=>(h1 d hd).1
 have h3:=fO fun d hd=>(h1 d hd).2
 exact⟨by simp only[PyData.canLay0];exact h2,by simp only[PyData.depth];omega⟩
theorem lJ.snoc{H:Hp}{xs:List V}{es:En}{e:Nat×Nat}{p:Addr}(t:lJ H xs es)(h:H p=some (.tup [iV e.1,iV e.2])):lJ H (xs++[.ref p]) (es++[e]):=by
 refine⟨by rw[Cb,Cb,t.1];rfl,fun j k ej=>?_⟩
 by_cases hj:j<es.length
 ·rw[Cj hj]at ej
  obtain⟨p,a1,a2⟩:=t.2 j k ej
  exact⟨p,by rw[Cj (by rw[t.1];exact hj)];exact a1,a2⟩
 ·rw[Cf (by omega)]at ej
  have hj2:j=es.length:=by
   have:=(Ca.mp ej).1
   rw[Cp]at this
   omega
  subst hj2
  rw[CZ]at ej
  cases ej
  exact⟨p,by rw[← t.1,Cf (Cg _),CZ];rfl,h⟩
def Dist(xs:List V):Prop:=∀(i j:Nat)(p:Addr),xs[i]?=some (.ref p)->xs[j]?=some (.ref p)->i=j
theorem dM.set{S:Addr->Prop}{H:Hp}{xs:List V}{ts:List (List Nat)}{i:Nat}{p:Addr}{l':List Nat}(h:dM S H xs ts)(D:Dist xs)(e:xs[i]?=some (.ref p)):dM S (upd H p (.lst (l'.map iV))) xs (ts.set i l'):=by
 refine⟨by rw[Dl];exact h.1,fun j l z=>?_⟩
 have hi:i<ts.length:=by rw[← h.1];exact(Ca.mp e).1
 rw[Dx]at z
 by_cases hj:i=j
 ·subst hj
  rw[if_pos rfl,if_pos hi]at z
  cases z
  obtain⟨p',a1,a2,a3⟩:=h.2 i _ (Cc hi)
  rw[e]at a1
  cases a1
  exact⟨p,e,a2,ae⟩
 ·rw[if_neg hj]at z
  obtain⟨p',a1,a2,a3⟩:=h.2 j l z
  exact⟨p',a1,a2,by rw[ao (fun y=>by rw[y]at a1;exact hj (D i j p e a1))];exact a3⟩
theorem qA{H:Hp}{a:Addr}{xs:List V}{ts:List (List Nat)}(h:SqL K H a xs)(hR:cA H xs ts):RdD K H (.ref a) (.list (ts.map fun l=>PyData.list ((l.map fun(p:Nat)=>((p:Nat):Int)).map PyData.int))):=by
 refine RdD.lst h (by rw[Cd];exact hR.1) fun i x d e1 e2=>?_
 rw[CH]at e2
 obtain⟨l,hl,rfl⟩:=Dh.mp e2
 obtain⟨p,a1,a2⟩:=hR.2 i l hl
 rw[e1]at a1
 cases a1
 exact BI (SqL.of a2)
theorem mv(ts:List (List Nat)):SeqAt.shaped (.list (ts.map fun l=>PyData.list ((l.map fun(p:Nat)=>((p:Nat):Int)).map PyData.int)))=true:=mr fun d hd=>by
 obtain⟨l,_,rfl⟩:=Dc.mp hd
 exact yS _
end
end K8
namespace K8
open PySem L2
local macro_rules | `(tactic| walk_at "cc") => `(tactic| first | exact ⟨by decide, by decide⟩ | (show (0 : Int) < _; decide) | (show (0 : Int) < _; omega) | (show (0 : Int) ≤ _; omega) | exact ⟨by decide, by decide, by decide⟩ | exact ⟨by omega, by omega, by decide⟩ | exact Or.inl ⟨by decide, by decide⟩ | exact Or.inl ⟨by omega, by omega⟩)
local macro_rules | `(tactic| walk_at "rd") => `(tactic| repeat (first | refine ⟨_, rfl, ?_⟩ | refine ⟨_, _, rfl, rfl, ?_⟩ | refine ⟨rfl, ?_⟩ | (refine ⟨?cc, ?_⟩; (case cc => walk_at "cc"))))
theorem ze{S:Addr->Prop}{H:Hp}{xs:List V}{ts:List (List Nat)}{q:Addr}(h:dM S H xs ts)(D:Dist xs)(hq:H q=none):Dist (xs++[.ref q]):=by
 have old:∀(j:Nat)(p:Addr),j<xs.length->(xs++[V.ref q])[j]?=some (.ref p)->xs[j]?=some (.ref p)/\p≠q:=fun j p hj e=>by
  rw[Cj hj]at e
  obtain⟨p',a1,_,a3⟩:=h.2 j _ (Cc (by rw[← h.1];exact hj))
  rw[e]at a1
  cases a1
  exact⟨e,aF a3 hq⟩
 have new:∀(j:Nat)(p:Addr),¬ j<xs.length->(xs++[V.ref q])[j]?=some (.ref p)->j=xs.length/\p=q:=fun j p hj e=>by
  have:=(Ca.mp e).1
  rw[Cb,Cp]at this
  have hj2:j=xs.length:=by omega
  subst hj2
  rw[Cf (Cg _),CZ]at e
  cases e
  exact⟨rfl,rfl⟩
 intro j k p e1 e2
 by_cases hj:j<xs.length
 ·obtain⟨u1,u2⟩:=old j p hj e1
  by_cases hk:k<xs.length
  ·exact D j k p u1 (old k p hk e2).1
  ·exact absurd (new k p hk e2).2 u2
 ·obtain⟨u1,u2⟩:=new j p hj e1
  by_cases hk:k<xs.length
  ·exact absurd u2 (old k p hk e2).2
  ·rw[u1,(new k p hk e2).1]
theorem gr_few{m:Nat}{es:En}{ts:List (List Nat)}(g:Gr m es ts):m<=es.length+2:=by
 obtain⟨rs,_,c⟩:=g.part
 omega
abbrev Kn:=List (Int×Int)
theorem Gr.two{m:Nat}{es:En}{ts:List (List Nat)}(g:Gr m es ts)(h:0<es.length):2<=m:=by
 obtain⟨a,b,c⟩:=g.w.ends _ (Ce (Cc h))
 omega
end K8
namespace K8
open PySem L2
local macro_rules | `(tactic| walk_at "cc") => `(tactic| first | exact ⟨by decide, by decide⟩ | (show (0 : Int) < _; decide) | (show (0 : Int) < _; omega) | (show (0 : Int) ≤ _; omega) | exact ⟨by decide, by decide, by decide⟩ | exact ⟨by omega, by omega, by decide⟩ | exact Or.inl ⟨by decide, by decide⟩ | exact Or.inl ⟨by omega, by omega⟩)
local macro_rules | `(tactic| walk_at "rd") => `(tactic| repeat (first | refine ⟨_, rfl, ?_⟩ | refine ⟨_, _, rfl, rfl, ?_⟩ | refine ⟨rfl, ?_⟩ | (refine ⟨?cc, ?_⟩; (case cc => walk_at "cc"))))
theorem andN(a b:Nat):Builtin.bitAnd (a:Int) (b:Int)=((a&&&b:Nat):Int):=by
 rw[PyProof.Rows.bitAnd_pp (Int.natCast_nonneg _) (Int.natCast_nonneg _),CF,CF]
theorem orN(a b:Nat):Builtin.bitOr (a:Int) (b:Int)=((a|||b:Nat):Int):=by
 rw[PyProof.Rows.bitOr_and,andN]
 have q:=PyProof.Rows.nat_or_add_and a b
 omega
theorem shlN(p:Nat):(1:Int)*2^((p:Nat):Int).toNat=((2^p:Nat):Int):=by
 rw[Int.one_mul,CF,Int.natCast_pow]
 rfl
theorem zJ{M p q:Nat}:(M&&&(2^p|||2^q)=0↔M.testBit p=false/\M.testBit q=false)/\(M|||(2^p|||2^q)=M->M.testBit p=true/\M.testBit q=true):=by
 have b1:∀ i,(2^p|||2^q).testBit i=(decide (p=i)||decide (q=i)):=fun i=>by rw[EF,Nat.testBit_two_pow,Nat.testBit_two_pow]
 refine⟨⟨fun h=>?_,fun⟨h1,h2⟩=>?_⟩,fun h=>?_⟩
 ·have h1:=congrArg (fun z=>Ez z p) h
  have h2:=congrArg (fun z=>Ez z q) h
  simp only[Nat.testBit_and,b1,Nat.zero_testBit]at h1 h2
  constructor
  ·simpa using h1
  ·simpa using h2
 ·refine Nat.eq_of_testBit_eq fun i=>?_
  rw[Nat.testBit_and,b1,Nat.zero_testBit]
  by_cases z1:p=i
  ·subst z1;rw[h1];rfl
  ·by_cases z2:q=i
   ·subst z2;rw[h2];rfl
   ·simp[z1,z2]
 ·have h1:=congrArg (fun z=>Ez z p) h
  have h2:=congrArg (fun z=>Ez z q) h
  simp only[EF (x:=M),b1]at h1 h2
  constructor
  ·simpa using h1.symm
  ·simpa using h2.symm
theorem y9{M m:Nat}(h:M<2^m)(k:∀ p,p<m->M.testBit p=true):M=2^m-1:=by
 refine Nat.eq_of_testBit_eq fun i=>?_
 rw[Nat.testBit_two_pow_sub_one]
 by_cases z:i<m
 ·rw[k i z,decide_eq_true z]
 ·rw[decide_eq_false z]
  exact Nat.testBit_lt_two_pow (CI h (Nat.pow_le_pow_right (by decide) (by omega)))
def uq(K:B9):Sp:=fun vs H Q _=>∃(a:Addr)(ys:List V)(m:Nat)(es:En)(ts:List (List Nat)),vs = [.int 0,.ref a]/\SqL K H a ys/\lJ H ys es/\Gr m es ts/\2<=m/\m<=40/\Q (.int ((2^m-1:Nat):Int)) H
section
variable{P:Program}{w:World}{K:B9}{mg:Str->Option Value}{base:Heap}
theorem b5:aE ["start","pairs","mask","ahead","one","two","ends"] ["start","pairs"] (ak eU):=⟨rfl,rfl,rfl,by decide +kernel,rfl,by decide +kernel,by decide +kernel⟩
theorem wO{f:Addr}{fd:FuncData} (F:Fun K "reached" "reached" eU f fd):FnOk P w K mg base CX0 1 f fd ["start","pairs"] (uq K):=by
 refine F.ok b5 (fun vs H Q E h=>?_) (fun cdv A outer s H vs Q E hr h=>?_)
 ·obtain⟨a,ys,m,es,ts,rfl,_⟩:=h
  rfl
 obtain⟨a,ys,m,es,ts,rfl,hS,hE,g,m2,m40,kk⟩:=h
 refine⟨_,(af (aI (i:=2) b5.nd rfl (Or.inl rfl) (aq wj ah (pv 0)))
   (af (aI (i:=3) b5.nd rfl (Or.inl rfl) ah)
   (af (v9 PassesOwn.never (au qK (pv 2) (pv 3) (av _)) (af (aI (i:=3) b5.nd rfl (Or.inl rfl) (pv 2))
   (aj (cp PassesOwn.never rfl (cR (pv 1)) (pO rfl (bz (aG (i:=4) b5.nd rfl (Or.inl rfl)) (bz (aG (i:=5) b5.nd rfl (Or.inl rfl)) iT))) (af (aI (i:=6) b5.nd rfl (Or.inl rfl) (aq op_or (aq wj ah (pv 4)) (aq wj ah (pv 5))))
   (aj (aX (au qK (aq op_and (pv 2) (pv 6)) ah (av _)) (aj (aI (i:=2) b5.nd rfl (Or.inl rfl) (aq op_or (pv 2) (pv 6)))) ay)))))))
   (aj (aJ (pv 2)))))),?_⟩
 refine⟨_,rfl,_,_,rfl,rfl,⟨by decide,by decide,by decide⟩,?_⟩
 have p2:∀ p,p<m->2^p<2^m:=fun p hp=>Nat.pow_lt_pow_right (by decide) hp
 refine vU (fun σ H2=>∃(M Ah:Nat),∃ v4 v5 v6,H2=H/\σ = [some (.int 0),some (.ref a),some (.int (M:Int)),some (.int (Ah:Int)),v4,v5,v6]/\M.testBit 0=true/\M<2^m/\(M=Ah->∀ e∈es,M.testBit e.1=M.testBit e.2))
  (fun σ _=>match σ with | [_,_,some (.int M),some (.int Ah),_,_,_]=>2*((2^m:Nat)-M).toNat+(if M=Ah then 0 else 1) | _=>0) ⟨1,0,_,_,_,rfl,rfl,by decide,Nat.one_lt_two_pow (by omega),fun z=>absurd z (by decide)⟩ ?_ ?_
 ·rintro σ H2 ⟨M,Ah,v4,v5,v6,rfl,rfl,b0,hM,cl⟩
  refine⟨_,rfl,_,rfl,rfl,_,rfl,?_⟩
  refine ite2 (fun c=>?_) (fun c=>?_)
  ·have c':M≠Ah:=fun z=>by
    rw[decide_eq_true (show V.int (M:Int)=V.int (Ah:Int) by rw[z])]at c
    cases c
   refine⟨_,rfl,?_⟩
   refine⟨_,rfl,a,rfl,⟨_,hS⟩,ir (K:=K) (xs:=ys) (fun i σ H3=>∃(M':Nat),∃ v4 v5 v6,H3=H2/\σ = [some (.int 0),some (.ref a),some (.int (M':Int)),some (.int (M:Int)),v4,v5,v6]/\M'.testBit 0=true/\M'<2^m/\M<=M'/\(M'=M->∀(j:Nat)(e:Nat×Nat),j<i->es[j]?=some e->M.testBit e.1=M.testBit e.2)) ⟨M,_,_,_,rfl,rfl,b0,hM,Cg _,fun _ j e z=>absurd z (Ea _)⟩ (fun i σ H3 _ ⟨_,_,_,_,z,_⟩=>z▸hS) ?_ ?_⟩
   ·rintro i x σ H3 hx ⟨M',v4,v5,v6,rfl,rfl,b0',hM',hle,cl'⟩
    have hi:i<es.length:=by rw[← hE.1];exact(Ca.mp hx).1
    obtain⟨e,he⟩:∃ e,es[i]?=some e:=⟨_,Cc hi⟩
    obtain⟨p,x1,x2⟩:=hE.2 i e he
    rw[hx]at x1
    cases x1
    obtain⟨e1,e2,_⟩:=g.w.ends e (Ce he)
    obtain⟨t1,t2⟩:=zJ (M:=M') (p:=e.1) (q:=e.2)
    refine⟨p,_,rfl,SqT.of x2,rfl,_,_,rfl,_,_,rfl,rfl,?_⟩
    refine⟨_,rfl,_,_,rfl,rfl,⟨by omega,by omega,by decide⟩,_,rfl,_,_,rfl,rfl,⟨by omega,by omega,by decide⟩,_,_,rfl,rfl,?_⟩
    have eo:Builtin.bitOr (1*2^((e.1:Nat):Int).toNat) (1*2^((e.2:Nat):Int).toNat)=((2^e.1|||2^e.2:Nat):Int):=by rw[shlN,shlN,orN]
    refine⟨_,rfl,_,rfl,_,_,rfl,rfl,rfl,_,rfl,?_⟩
    have step:∀ M'':Nat,M'<=M''->(M''=M'->M'.testBit e.1=M'.testBit e.2)->M''=M->∀(j:Nat)(x:Nat×Nat),j<i+1->es[j]?=some x->M.testBit x.1=M.testBit x.2:=fun M'' h1 h2 h3 j x hj hx'=>by
     have e3:M'=M:=by omega
     by_cases z:j=i
     ·subst z
      rw[he]at hx'
      cases hx'
      have:=h2 (by omega)
      rwa[e3]at this
     ·exact cl' e3 j x (by omega) hx'
    refine ite2 (fun c=>?_) (fun c=>?_)
    ·refine⟨_,rfl,_,rfl,_,_,rfl,rfl,?_⟩
     refine⟨M'|||(2^e.1|||2^e.2),some (iV e.1),some (iV e.2),some (V.int (Builtin.bitOr (1*2^((e.1:Nat):Int).toNat) (1*2^((e.2:Nat):Int).toNat))),rfl,?_,?_,Nat.or_lt_two_pow hM' (Nat.or_lt_two_pow (p2 _ e1) (p2 _ e2)),C6 hle Nat.left_le_or,step _ Nat.left_le_or fun z=>?_⟩
     ·show[some (V.int 0),some (V.ref a),some (V.int (Builtin.bitOr (M':Int) (Builtin.bitOr (1*2^((e.1:Nat):Int).toNat) (1*2^((e.2:Nat):Int).toNat)))),some (V.int (M:Int)),some (iV e.1),some (iV e.2),some (V.int (Builtin.bitOr (1*2^((e.1:Nat):Int).toNat) (1*2^((e.2:Nat):Int).toNat)))]=_
      rw[eo,orN]
     ·rw[EF,b0'];rfl
     ·obtain⟨u1,u2⟩:=t2 z
      rw[u1,u2]
    ·refine⟨M',_,_,_,rfl,rfl,b0',hM',hle,step M' (Cg _) fun _=>?_⟩
     have c3:M'&&&(2^e.1|||2^e.2)=0:=by
      by_cases z:M'&&&(2^e.1|||2^e.2)=0
      ·exact z
      ·refine absurd ?_ c
       rw[decide_eq_false (fun y=>z ?_)]
       ·rfl
       ·have y':=V.int.inj y
        rw[eo,andN]at y'
        omega
     obtain⟨u1,u2⟩:=t1.mp c3
     rw[u1,u2]
   ·rintro σ H3 ⟨M',v4,v5,v6,rfl,rfl,b0',hM',hle,cl'⟩
    rw[hE.1]at cl'
    refine⟨⟨M',M,_,_,_,rfl,rfl,b0',hM',fun z e he=>?_⟩,?_⟩
    ·obtain⟨j,hj⟩:=Dk.mp he
     have:=cl' z j e (Ca.mp hj).1 hj
     rw[z]
     exact this
    ·show 2*(((2^m:Nat):Int)-(M':Int)).toNat+(if(M':Int)=(M:Int) then 0 else 1)<2*(((2^m:Nat):Int)-(M:Int)).toNat+(if(M:Int)=(Ah:Int) then 0 else 1)
     rw[if_neg (show ¬ (M:Int)=(Ah:Int) from fun z=>c' (by omega))]
     have hMi:(M':Int)<((2^m:Nat):Int):=by exact_mod_cast hM'
     have hMj:(M:Int)<=(M':Int):=by omega
     generalize ((2^m:Nat):Int)=Z at hMi ⊢
     split<;>omega
  ·have c':M=Ah:=by
    by_cases z:M=Ah
    ·exact z
    ·exact absurd (by rw[decide_eq_false (fun y=>z (by have:=V.int.inj y;omega))];rfl) c
   have full:=y9 hM fun p hp=>by
    have:=g.conn (fun x=>M.testBit x=true) (fun e he=>by rw[cl c' e he]) 0 p (by omega) hp b0
    exact this
   refine⟨_,rfl,?_⟩
   rw[full]
   exact kk
 ·rintro σ H2 Q1 Q2 hi ⟨v',e,b',e2,z1,c',e3,q'⟩
  exact⟨v',e,b',e2,z1,c',e3,hi _ _ q'⟩
end
end K8
namespace K8
open PySem L2
local macro_rules | `(tactic| walk_at "cc") => `(tactic| first | exact ⟨by decide, by decide⟩ | (show (0 : Int) < _; decide) | (show (0 : Int) < _; omega) | (show (0 : Int) ≤ _; omega) | exact ⟨by decide, by decide, by decide⟩ | exact ⟨by omega, by omega, by decide⟩ | exact Or.inl ⟨by decide, by decide⟩ | exact Or.inl ⟨by omega, by omega⟩)
local macro_rules | `(tactic| walk_at "rd") => `(tactic| repeat (first | refine ⟨_, rfl, ?_⟩ | refine ⟨_, _, rfl, rfl, ?_⟩ | refine ⟨rfl, ?_⟩ | (refine ⟨?cc, ?_⟩; (case cc => walk_at "cc"))))
theorem pL:∀{a b:List Int},a.Perm b->a.Pairwise (·<=·)->b.Pairwise (·<=·)->a=b
 |[],b,h,_,_=>(List.nil_perm.mp h).symm▸rfl
 |x::a,[],h,_,_=>absurd h.length_eq (by simp)
 |x::a,y::b,h,pa,pb=>by
  obtain⟨a1,a2⟩:=List.pairwise_cons.mp pa
  obtain⟨b1,b2⟩:=List.pairwise_cons.mp pb
  have h1:x<=y:=by
   rcases Co.mp (h.mem_iff.mpr (CG ..):y∈x::a)with z | z
   ·rw[z];exact Int.le_refl _
   ·exact a1 y z
  have h2:y<=x:=by
   rcases Co.mp (h.mem_iff.mp (CG ..):x∈y::b)with z | z
   ·rw[z];exact Int.le_refl _
   ·exact b1 x z
  have e:x=y:=Int.le_antisymm h1 h2
  subst e
  rw[pL (List.Perm.cons_inv h) a2 b2]
def cI(l:List Nat):List Int:=l.map fun(p:Nat)=>((p:Nat):Int)
theorem cI_V(l:List Nat):(cI l).map V.int=l.map iV:=by unfold cI;rw[List.map_map];rfl
theorem Bh{l r:List Nat}{out:List Int}(hp:out.Perm (cI l))(hs:out.Pairwise (·<=·))(nl:l.Nodup)(pr:r.Pairwise (· < ·))(hm:∀ t,t∈l↔t∈r):out=cI r:=by
 have nr:r.Nodup:=pr.imp fun h=>CJ h
 have q:(cI l).Perm (cI r):=((List.perm_ext_iff_of_nodup nl nr).mpr hm).map _
 refine pL (hp.trans q) hs ?_
 unfold cI
 exact List.Pairwise.map _ (fun a b h=>by omega) pr
theorem yU{l:List Nat}{n:Nat}:ins l l.length n=l++[n]:=by
 unfold ins
 rw[C7,List.drop_length]
def uu(K:B9):Sp:=fun vs H Q _=>∃(a:Addr)(xs:List V)(m:Nat)(es:En),vs = [.int (m:Int),.ref a]/\SqL K H a xs/\cP K H xs es/\(∀ e∈es,e.1<m/\e.2<m)/\Q .non H
def ql(K:B9):Sp:=fun vs H Q _=>∃(a b:Addr)(xs zs:List V)(m:Nat)(es:En)(ts:List (List Nat)),vs = [.int (m:Int),.ref a,.ref b]/\SqL K H a xs/\cP K H xs es/\SqL K H b zs/\cA H zs ts/\gq m es ts/\es.length<=62/\m<=40/\∀ H',Same H H'->Q .non H'
def ur(K:B9):Sp:=fun vs H Q _=>∃(a:Addr)(xs:List V)(m:Nat)(es:En)(ts:List (List Nat)),vs = [.int (m:Int),.ref a]/\SqL K H a xs/\cP K H xs es/\Gr m es ts/\2<=m/\m<=40/\es.length<=62/\∀ H',Same H H'->Q .non H'
section
variable{P:Program}{w:World}{K:B9}{mg:Str->Option Value}{base:Heap}
theorem iC:aE ["many","ties","tie"] ["many","ties"] (ak bG):=⟨rfl,rfl,rfl,by decide +kernel,rfl,by decide +kernel,by decide +kernel⟩
theorem z9{f:Addr}{fd:FuncData} (F:Fun K "refuse_ends" "refuse_ends" bG f fd):FnOk P w K mg base CX0 1 f fd ["many","ties"] (uu K):=by
 refine F.ok iC (fun vs H Q E h=>?_) (fun cdv A outer s H vs Q E hr h=>?_)
 ·obtain⟨a,xs,m,es,rfl,_⟩:=h
  rfl
 obtain⟨a,xs,m,es,rfl,hS,hT,hm,k⟩:=h
 refine⟨_,(aj (cp PassesOwn.never rfl (cR (pv 1)) (aG (i:=2) iC.nd rfl (Or.inl rfl)) (aj (aX (PW.pt (iS (au zT (bo (pv 2) rfl) (pv 0) (av _)) (eW (au zT (bo (pv 2) rfl) (pv 0) (av _))))) (aj ft) ay)))),?_⟩
 refine⟨_,rfl,a,rfl,⟨_,hS⟩,ir (K:=K) (xs:=xs) (fun i σ H2=>∃ v2,σ = [some (.int (m:Int)),some (.ref a),v2]/\H2=H) ⟨_,rfl,rfl⟩ (fun i σ H2 _ ⟨_,_,z⟩=>z▸hS) ?_ ?_⟩
 ·rintro i x σ H2 hx ⟨v2,rfl,rfl⟩
  have hi:i<es.length:=by rw[← hT.1];exact(Ca.mp hx).1
  obtain⟨e,he⟩:∃ e,es[i]?=some e:=⟨_,Cc hi⟩
  obtain⟨p,C,dx,st,x1,x2,x3⟩:=hT.2 i e he
  rw[hx]at x1
  cases x1
  obtain⟨e1,e2⟩:=hm e (Ce he)
  refine⟨_,rfl,p,C,dx,_,_,rfl,x2,x3.cl,x3.n1,iB _ _ _,_,rfl,_,_,rfl,rfl,_,rfl,?_⟩
  refine ite2 (fun c=>absurd (of_decide_eq_true c) (by omega)) (fun _=>?_)
  refine⟨_,rfl,p,C,dx,_,_,rfl,x2,x3.cl,x3.n2,lg _ _ _,_,rfl,_,_,rfl,rfl,_,rfl,?_⟩
  refine ite2 (fun c=>absurd (of_decide_eq_true c) (by omega)) (fun _=>?_)
  exact⟨_,rfl,rfl⟩
 ·rintro σ H2 ⟨v2,rfl,rfl⟩
  exact k
theorem cn:aE ["many","ties","turns","ending","number","tie"] ["many","ties","turns"] (ak br):=⟨rfl,rfl,rfl,by decide +kernel,rfl,by decide +kernel,by decide +kernel⟩
theorem yv{f:Addr}{fd:FuncData} (F:Fun K "refuse_turns" "refuse_turns" br f fd) (T:Txt mg):FnOk P w K mg base CX0 1 f fd ["many","ties","turns"] (ql K):=by
 refine F.ok cn (fun vs H Q E h=>?_) (fun cdv A outer s H vs Q E hr h=>?_)
 ·obtain⟨a,b,xs,zs,m,es,ts,rfl,_⟩:=h
  rfl
 obtain⟨a,b,xs,zs,m,es,ts,rfl,hS,hT,hB,hR,w',few,m40,kk⟩:=h
 have hu64:=hr.units
 refine⟨_,(af (jV (i:=3) rfl cn.nd rfl rfl (fr:=[]) (by exact cQ.plain (by rfl) (by decide +kernel) (by rfl) (by decide +kernel) (by rfl) (by decide +kernel)) (aT rfl T.n_range (aa (pv 0) ag)) (fun C ex s H=>(bc ag)))
   (af (cp PassesOwn.never rfl (mD rfl T.n_enumerate (aa (pv 1) ag)) (pO rfl (bz (aG (i:=4) cn.nd rfl (Or.inl rfl)) (bz (aG (i:=5) cn.nd rfl (Or.inl rfl)) iT))) (af (aY (gB CD CL CK a7 (aV aN (pv 3) (bo (pv 5) rfl) (fun _ _=>rfl)) (aa (pv 4) ag)))
   (aj (aY (gB CD CL CK a7 (aV aN (pv 3) (bo (pv 5) rfl) (fun _ _=>rfl)) (aa (pv 4) ag))))))
   (aj (aX (au (op_neD hu64) (qJ rfl (fr:=[]) (by exact cQ.plain (by rfl) (by decide +kernel) (by rfl) (by decide +kernel) (by rfl) (by decide +kernel)) (cR (pv 2)) (fun C ex s H=>(az (tS (K:=K) rfl) (by rfl) T.n_sorted zA (aa (pv 0) ag)))) (pv 3) (av _)) (aj ft) ay)))),?_⟩
 refine⟨_,rfl,_,rfl,by omega,by omega,pR (n:=(m:Int).toNat) (fun i ys H2=>Same H H2/\dM (fun p=>H p≠none) H2 ys (Ci i [])/\Dist ys) (by rw[CF];exact CQ (ar (by omega))) ⟨fun _ _ e=>e,⟨rfl,fun i l e=>by simp at e⟩,fun i j p e=>by simp at e⟩ ?_ ?_⟩
 ·rintro i ys H2 hi ⟨s2,rx,D⟩
  refine⟨(by show 0<=sizeLine;decide),fun l hl=>?_⟩
  have s3:=ai hl (.lst [])
  refine⟨s2.trans s3,?_,ze rx D hl⟩
  rw[List.replicate_succ']
  refine(rx.mono fun b u _ z=>s3 _ _ z).snoc (fun z=>z ?_) ae
  cases y:H l with
  |none=>rfl
  |some o=>rw[s2 _ _ y]at hl;cases hl
 rintro ys H2 hyl ⟨s2,rx,D⟩ pn hpn
 rw[CF]at rx
 have s3:=ai hpn (.lst ys)
 have hpn0:H pn=none:=by
  cases y:H pn with
  |none=>rfl
  |some o=>rw[s2 _ _ y]at hpn;cases hpn
 have rx3:dM (fun p=>p=pn∨H p≠none) (upd H2 pn (.lst ys)) ys (Ci m []):=⟨rx.1,fun i l z=>by
  obtain⟨p,a1,a2,a3⟩:=rx.2 i l z
  have n2:p≠pn:=aF a3 hpn
  exact⟨p,a1,by rintro(y | y);exact n2 y;exact a2 y,s3 _ _ a3⟩⟩
 refine⟨_,rfl,a,rfl,⟨_,(s2.trans s3).seq hS⟩,rE (K:=K) (xs:=xs) (fun i σ H5=>∃ v4 v5 rows,σ = [some (.int (m:Int)),some (.ref a),some (.ref b),some (.ref pn),v4,v5]/\Same H H5/\H5 pn=some (.lst ys)/\dM (fun p=>p=pn∨H p≠none) H5 ys rows/\gq m (es.take i) rows/\∀ r∈rows,r.Pairwise (· < ·))
  ⟨_,_,_,rfl,s2.trans s3,ae,rx3,zK m,fun r hr=>by rw[(List.mem_replicate.mp hr).2];exact List.Pairwise.nil⟩ (fun i σ H5 _ ⟨_,_,_,_,z,_⟩=>z.seq hS) ?_ ?_⟩
 ·rintro i x σ H5 T2 hx ⟨v4,v5,rows,rfl,s5,hpn5,rx5,w5,pw⟩ hT2
  have hi:i<es.length:=by rw[← hT.1];exact(Ca.mp hx).1
  obtain⟨e,he⟩:∃ e,es[i]?=some e:=⟨_,Cc hi⟩
  obtain⟨p,C,dx,st,x1,x2,x3⟩:=hT.2 i e he
  rw[hx]at x1
  cases x1
  have sT:=ai hT2 (.tup [.int (i:Int),.ref p])
  have s6:=s5.trans sT
  have x6:=s6 _ _ x2
  obtain⟨e1,e2,e3⟩:=w'.ends e (Ce he)
  have til:(es.take i).length=i:=by rw[Dt];omega
  have rlen:=w5.len
  obtain⟨l,hl⟩:∃ l,rows[e.1]?=some l:=⟨_,Cc (by omega)⟩
  obtain⟨l',hl'⟩:∃ l,rows[e.2]?=some l:=⟨_,Cc (by omega)⟩
  have rx6:dM (fun p=>p=pn∨H p≠none) (upd H5 T2 (.tup [.int (i:Int),.ref p])) ys rows:=rx5.mono fun b u _ z=>sT _ _ z
  obtain⟨p1,y1,y2,y3⟩:=rx6.2 _ _ hl
  obtain⟨p2,z1,z2,z3⟩:=rx6.2 _ _ hl'
  have no_S:∀{p:Addr},¬ (p=pn∨H p≠none)->H p=none/\p≠pn:=fun{p} n=>by
   refine⟨?_,fun z=>n (.inl z)⟩
   cases y:H p with
   |none=>rfl
   |some o=>exact absurd (.inr (by rw[y];exact fun z=>nomatch z)) n
  obtain⟨hp1,np1⟩:=no_S y2
  obtain⟨hp2,np2⟩:=no_S z2
  have n12:p2≠p1:=fun y=>by rw[y]at z1;exact e3 (D _ _ p1 y1 z1)
  have ll:∀{q:Nat}{r:List Nat},rows[q]?=some r->∀ t∈r,t<i:=fun{q r} h t ht=>by
   have:=AK w5 h ht
   omega
  have lle:∀{q:Nat}{r:List Nat},rows[q]?=some r->r.length<=62:=fun{q r} h=>by
   have:=ly (w5.nd _ _ h) (ll h)
   omega
  have f1:=lle hl
  have f2:=lle hl'
  have hpn6:=sT _ _ hpn5
  refine⟨T2,_,rfl,SqT.of ae,rfl,_,_,rfl,_,_,rfl,rfl,?_⟩
  refine⟨_,rfl,_,rfl,p,C,dx,_,_,rfl,x6,x3.cl,x3.n1,iB _ _ _,pn,ys,_,_,rfl,rfl,SqL.of hpn6,aP y1,.inl ⟨rfl,_,SqL.of y3⟩,_,rfl,p1,_,_,rfl,rfl,y3,ar (by rw[Cd];omega),?_⟩
  have e1':(l.map iV)++[V.int (i:Int)]=(l++[i]).map iV:=by rw[CP];rfl
  rw[e1']
  have x7:(upd (upd H5 T2 (.tup [.int (i:Int),.ref p])) p1 (.lst ((l++[i]).map iV))) p=some (.ins C dx (tf (e.1:Int) (e.2:Int) st)):=by rw[ao (fun z=>by rw[z]at x2;rw[x2]at hp1;cases hp1)];exact x6
  have hpn7:(upd (upd H5 T2 (.tup [.int (i:Int),.ref p])) p1 (.lst ((l++[i]).map iV))) pn=some (.lst ys):=by rw[ao np1.symm];exact hpn6
  have z7:(upd (upd H5 T2 (.tup [.int (i:Int),.ref p])) p1 (.lst ((l++[i]).map iV))) p2=some (.lst (l'.map iV)):=by rw[ao n12];exact z3
  refine⟨_,rfl,_,rfl,p,C,dx,_,_,rfl,x7,x3.cl,x3.n2,lg _ _ _,pn,ys,_,_,rfl,rfl,SqL.of hpn7,aP z1,.inl ⟨rfl,_,SqL.of z7⟩,_,rfl,p2,_,_,rfl,rfl,z7,ar (by rw[Cd];omega),?_⟩
  have e2':(l'.map iV)++[V.int (i:Int)]=(l'++[i]).map iV:=by rw[CP];rfl
  rw[e2']
  refine⟨_,_,(rows.set e.1 (l++[i])).set e.2 (l'++[i]),rfl,aQ (aQ s6 hp1 _) hp2 _,by rw[ao np2.symm];exact hpn7,(rx6.set D y1).set D z1,?_,fun r hr=>?_⟩
  ·have q:=w5.put (k:=l.length) (j:=l'.length) e1 e2 e3 hl hl'
   rw[yU,yU,til]at q
   rw[CY,he]
   exact q
  ·have app:∀{q:Nat}{r:List Nat},rows[q]?=some r->(r++[i]).Pairwise (· < ·):=fun{q r} h=>List.pairwise_append.mpr ⟨pw r (Ce h),List.pairwise_singleton _ _,fun x hx y hy=>by
    have:=ll h x hx
    have:y=i:=by simpa using hy
    omega⟩
   rcases EH hr with z | z
   ·rcases EH z with z | z
    ·exact pw r z
    ·rw[z];exact app hl
   ·rw[z];exact app hl'
 rintro σ H5 ⟨v4,v5,rows,rfl,s5,hpn5,rx5,w5,pw⟩
 rw[hT.1,C7]at w5
 have hzl:zs.length=m:=by rw[hR.1,w'.len]
 refine⟨_,rfl,b,rfl,⟨_,s5.seq hB⟩,gU (K:=K) (xs:=zs) (fun i vs H6=>Same H5 H6/\cA H6 vs (rows.take i)) (CQ (ar (by omega))) ⟨fun _ _ e=>e,rfl,fun i l e=>by simp at e⟩ (fun i vs H6 _ z=>(s5.trans z.1).seq hB) ?_ ?_⟩
 ·rintro i x vs H6 hx ⟨s6,rz⟩
  have hi:i<ts.length:=by rw[← hR.1];exact(Ca.mp hx).1
  obtain⟨l,hl⟩:∃ l,ts[i]?=some l:=⟨_,Cc hi⟩
  obtain⟨r,hr'⟩:∃ r,rows[i]?=some r:=⟨_,Cc (by rw[w5.len,← w'.len];exact hi)⟩
  obtain⟨p,a1,a2⟩:=(hR.mono (s5.trans s6)).2 i l hl
  rw[hx]at a1
  cases a1
  have hll:l.length<=62:=C6 (ly (w'.nd _ _ hl) fun t ht=>AK w' hl ht) few
  refine⟨_,rfl,p,cI l,rfl,(by rw[cI_V];exact SqL.of a2),(by unfold cI;rw[Cd];omega),fun q out hq hp hs=>?_⟩
  have eo:=Bh hp hs (w'.nd _ _ hl) (pw r (Ce hr')) fun t=>(w'.mem i l hl t).trans (w5.mem i r hr' t).symm
  subst eo
  have s7:=ai hq (.lst ((cI r).map V.int))
  refine⟨s6.trans s7,?_⟩
  rw[show rows.take (i+1)=rows.take i++[r] by rw[CY,hr'];rfl]
  exact(rz.mono s7).snoc (by rw[ae,cI_V])
 rintro vs H6 _ ⟨s6,rz⟩ D' hD'
 rw[hzl,← w5.len,C7]at rz
 have s7:=ai hD' (.lst vs)
 have s67:=s6.trans s7
 refine⟨_,rfl,_,qA (SqL.of ae) (rz.mono s7),qA (SqL.of (s67 _ _ hpn5)) (rx5.off.mono s67),mv rows,_,rfl,iteF ?_⟩
 exact kk _ (s5.trans s67)
theorem lN:aE ["many","ties"] ["many","ties"] (ak ba):=⟨rfl,rfl,rfl,by decide +kernel,rfl,by decide +kernel,by decide +kernel⟩
theorem z8{f fr:Addr}{fd fdr:FuncData} (F:Fun K "refuse_parted" "refuse_parted" ba f fd) (G_reached:Cal P w K mg base 1 "reached" ["start","pairs"] (uq K) fr fdr):FnOk P w K mg base CX0 2 f fd ["many","ties"] (ur K):=by
 refine F.ok lN (fun vs H Q E h=>?_) (fun cdv A outer s H vs Q E hr h=>?_)
 ·obtain⟨a,xs,m,es,ts,rfl,_⟩:=h
  rfl
 obtain⟨a,xs,m,es,ts,rfl,hS,hT,g,m2,m40,few,kk⟩:=h
 have hul:xs.length=es.length:=hT.1
 refine⟨_,(aj (aX (au qK (aA G_reached.ok (hr.mono (by decide)) rfl G_reached.mg G_reached.kp G_reached.bn .nil a9 (aa ah (aa (qJ rfl (fr:=[]) (by exact cQ.plain (by rfl) (by decide +kernel) (by rfl) (by decide +kernel) (by rfl) (by decide +kernel)) (cR (pv 1)) (fun C ex s H=>(cq (aa (yp (K:=K) rfl (pv 0) rfl) (aa (yp (K:=K) rfl (pv 0) rfl) ag))))) ag))) (aq dR (aq wj ah (pv 0)) ah) (av _)) (aj ft) ay)),?_⟩
 refine⟨_,rfl,a,rfl,⟨_,hS⟩,gU (K:=K) (xs:=xs) (fun i zs H11=>Same H H11/\lJ H11 zs (es.take i)) (CQ (ar (by omega))) ⟨fun _ _ e=>e,rfl,fun i l e=>by simp at e⟩ (fun i zs H11 _ z=>z.1.seq hS) ?_ ?_⟩
 ·rintro i x zs H11 hx ⟨s11,ez⟩
  have hi:i<es.length:=by rw[← hT.1];exact(Ca.mp hx).1
  obtain⟨e,he⟩:∃ e,es[i]?=some e:=⟨_,Cc hi⟩
  obtain⟨p,C,dx,st,a1,a2,a3⟩:=(hT.mono s11).2 i e he
  rw[hx]at a1
  cases a1
  refine⟨_,rfl,p,C,dx,_,_,rfl,a2,a3.cl,a3.n1,iB _ _ _,_,rfl,p,C,dx,_,_,rfl,a2,a3.cl,a3.n2,lg _ _ _,(by show 2<=sizeLine;decide),fun g hg=>?_⟩
  have s12:=ai hg (.tup [iV e.1,iV e.2])
  refine⟨s11.trans s12,?_⟩
  rw[show es.take (i+1)=es.take i++[e] by rw[CY,he];rfl]
  exact(ez.mono s12).snoc ae
 rintro zs H11 _ ⟨s11,ez⟩ D hD
 rw[hT.1,C7]at ez
 have s12:=ai hD (.lst zs)
 refine⟨D,zs,m,es,ts,rfl,SqL.of ae,ez.mono s12,g,m2,m40,_,rfl,_,_,rfl,rfl,⟨by omega,by omega,by decide⟩,_,_,rfl,rfl,rfl,_,rfl,?_⟩
 refine xn ?_ (kk _ (s11.trans s12))
 show V.int _=V.int _
 rw[shlN]
 have:=Nat.two_pow_pos m
 congr 1
 omega
end
end K8
namespace K8
open PySem L2
local macro_rules | `(tactic| walk_at "cc") => `(tactic| first | exact ⟨by decide, by decide⟩ | (show (0 : Int) < _; decide) | (show (0 : Int) < _; omega) | (show (0 : Int) ≤ _; omega) | exact ⟨by decide, by decide, by decide⟩ | exact ⟨by omega, by omega, by decide⟩ | exact Or.inl ⟨by decide, by decide⟩ | exact Or.inl ⟨by omega, by omega⟩)
local macro_rules | `(tactic| walk_at "rd") => `(tactic| repeat (first | refine ⟨_, rfl, ?_⟩ | refine ⟨_, _, rfl, rfl, ?_⟩ | refine ⟨rfl, ?_⟩ | (refine ⟨?cc, ?_⟩; (case cc => walk_at "cc"))))
def cls(PL PS:Addr)(push:Bool):Addr:=if push=true then PS else PL
def dJ(PL PS:Addr)(H:Hp)(xs:List V)(es:En)(ks:Kn):Prop:=xs.length=es.length/\∀(i:Nat)(e:Nat×Nat)(k:Int×Int),es[i]?=some e->ks[i]?=some k->∃ p dx,xs[i]?=some (.ref p)/\H p=some (.ins (cls PL PS (decide (k.1=1))) dx (tf (e.1:Int) (e.2:Int) k.2))
theorem dJ.mono{PL PS:Addr}{H H':Hp}{xs:List V}{es:En}{ks:Kn}(t:dJ PL PS H xs es ks)(h:Same H H'):dJ PL PS H' xs es ks:=⟨t.1,fun i e k q r=>by
 obtain⟨p,dx,a,b⟩:=t.2 i e k q r
 exact⟨p,dx,a,h _ _ b⟩⟩
structure CW(K:B9)(C:Addr):Prop where
 cl:Cls K C
 n1:et K C "many"
 n2:et K C "ties"
 n3:et K C "turns"
 n4:et K C "rounds"
 n5:et K C "sides"
theorem ig(k:Str)(v:V):∀ fs:List (Str×V),(putF k v fs).length<=fs.length+1
 |[]=>Cg _
 | (a,b)::r=>by
  show(if a=k then(a,v)::r else(a,b)::putF k v r).length<=_
  have:=ig k v r
  split<;>simp only[Df]<;>omega
theorem none_of{H H':Hp}{b:Addr}(s:Same H H')(z:H' b=none):H b=none:=by
 cases y:H b with
 |none=>rfl
 |some o=>rw[s _ _ y]at z;cases z
structure WebG(S:Addr->Prop)(H:Hp)(fs:List (Str×V))(m:Nat)(es:En)(ts rs:List (List Nat)):Prop where
 many:fs.lookup ("many" : Str)=some (.int (m:Int))
 turns:∃ q z,fs.lookup ("turns" : Str)=some (.ref q)/\¬ S q/\H q=some (.lst z)/\dM S H z ts
 rounds:∃ q z,fs.lookup ("rounds" : Str)=some (.ref q)/\H q=some (.lst z)/\cA H z rs
 sides:∃ q z,fs.lookup ("sides" : Str)=some (.ref q)/\H q=some (.lst z)/\k8 H z es.length rs
 part:dN (fol es ts) (2*es.length) (2*es.length) rs
theorem k8.mono{H H':Hp}{z:List V}{n:Nat}{rs:List (List Nat)}(h:k8 H z n rs)(s:Same H H'):k8 H' z n rs:=⟨h.1,fun i hi=>by
 obtain⟨t,a,b,r,r',y1,y2,y3⟩:=h.2 i hi
 exact⟨t,a,b,r,r',y1,s _ _ y2,y3⟩⟩
theorem WebG.mono{S S':Addr->Prop}{H H':Hp}{fs:List (Str×V)}{m:Nat}{es:En}{ts rs:List (List Nat)}(h:WebG S H fs m es ts rs)(s:Same H H')(i:∀ a,S' a->S a):WebG S' H' fs m es ts rs:=by
 obtain⟨a,⟨q,z,b1,b0,b2,b3⟩,⟨q',z',c1,c2,c3⟩,⟨q2,z2,d1,d2,d3⟩,e⟩:=h
 refine⟨a,⟨q,z,b1,fun y=>b0 (i _ y),s _ _ b2,b3.1,fun j l y=>?_⟩,⟨q',z',c1,s _ _ c2,c3.mono s⟩,⟨q2,z2,d1,s _ _ d2,d3.mono s⟩,e⟩
 obtain⟨r,y1,y2,y3⟩:=b3.2 j l y
 exact⟨r,y1,fun x=>y2 (i _ x),s _ _ y3⟩
def qi(K:B9):Sp:=fun vs H Q _=>∃(p C dx qt qh:Addr)(m:Nat)(xs zs:List V)(es:En)(ts:List (List Nat)),vs = [.ref p,.int (m:Int),.ref qt,.ref qh]/\H p=some (.ins C dx [])/\CW K C/\H qt=some (.lst xs)/\cP K H xs es/\H qh=some (.lst zs)/\cA H zs ts/\Gr m es ts/\0<es.length/\es.length<=62/\m<=40 /\
 ∀(fs:List (Str×V))(q1:Addr)(rs:List (List Nat))(H':Hp),H' p=some (.ins C dx fs)->WebG (fun a=>H a≠none) H' fs m es ts rs->H q1=none->fs.lookup ("ties" : Str)=some (.ref q1)->H' q1=some (.lst xs)->(∀ q o,H q=some o->q≠p->H' q=some o)->Q .non H'
theorem cP.keep{K:B9}{H G:Hp}{xs:List V}{es:En}{p C dx:Addr}(t:cP K H xs es)(hp:H p=some (.ins C dx []))(k:∀ q u,q≠p->H q=some u->G q=some u):cP K G xs es:=⟨t.1,fun i e z=>by
 obtain⟨q,C',dx',s,a,b,d⟩:=t.2 i e z
 refine⟨q,C',dx',s,a,k _ _ (fun z=>?_) b,d⟩
 rw[z,hp]at b
 have e1:([]:List (Str×V))=tf (e.1:Int) (e.2:Int) s:=by
  injection b with b
  injection b
 have e2:=iB (e.1:Int) (e.2:Int) s
 rw[← e1]at e2
 cases e2⟩
section
variable{P:Program}{w:World}{K:B9}{mg:Str->Option Value}{base:Heap}
theorem jo:aE ["self","many","ties","turns","rounds"] ["self","many","ties","turns"] (ak b9):=⟨rfl,rfl,rfl,by decide +kernel,rfl,by decide +kernel,by decide +kernel⟩
theorem zU{f f1 f2 f3 f4 f5:Addr}{fd d1 d2 d3 d4 d5:FuncData} (F:Fun K "__init__" "Web.__init__" b9 f fd) (T:Txt mg) (G_refuse_ends:Cal P w K mg base 1 "refuse_ends" ["many","ties"] (uu K) f1 d1) (G_refuse_turns:Cal P w K mg base 1 "refuse_turns" ["many","ties","turns"] (ql K) f2 d2) (G_refuse_parted:Cal P w K mg base 2 "refuse_parted" ["many","ties"] (ur K) f3 d3) (G_rounds_of:Cal P w K mg base 4 "rounds_of" ["ties","turns"] (qk K) f4 d4) (G_sides_of:Cal P w K mg base 1 "sides_of" ["ties","rounds"] (uk K) f5 d5) :
  FnOk P w K mg base CX0 5 f fd ["self","many","ties","turns"] (qi K):=by
 refine F.ok jo (fun vs H Q E h=>?_) (fun cdv A outer s H vs Q E hr h=>?_)
 ·obtain⟨p,C,dx,qt,qh,m,xs,zs,es,ts,rfl,_⟩:=h
  rfl
 obtain⟨p,C,dx,qt,qh,m,xs,zs,es,ts,rfl,hp,cw,hqt,hT,hqh,hR,g,e0,few,m40,kk⟩:=h
 have w':=g.w
 have m2:=g.two e0
 have mf:=gr_few g
 have hul:xs.length=es.length:=hT.1
 have hzl:zs.length=m:=by rw[hR.1,w'.len]
 have pl:∀{q:Addr}{ys:List V},H q=some (.lst ys)->q≠p:=fun{q ys} h z=>by rw[z,hp]at h;cases h
 refine⟨_,(af (aY (aA G_refuse_ends.ok (hr.mono (by decide)) rfl G_refuse_ends.mg G_refuse_ends.kp G_refuse_ends.bn .nil a9 (aa (pv 1) (aa (pv 2) ag))))
   (af (aY (aA G_refuse_turns.ok (hr.mono (by decide)) rfl G_refuse_turns.mg G_refuse_turns.kp G_refuse_turns.bn .nil a9 (aa (pv 1) (aa (pv 2) (aa (pv 3) ag)))))
   (af (aY (aA G_refuse_parted.ok (hr.mono (by decide)) rfl G_refuse_parted.mg G_refuse_parted.kp G_refuse_parted.bn .nil a9 (aa (pv 1) (aa (pv 2) ag))))
   (af (aI (i:=4) jo.nd rfl (Or.inl rfl) (aA G_rounds_of.ok (hr.mono (by decide)) rfl G_rounds_of.mg G_rounds_of.kp G_rounds_of.bn .nil a9 (aa (pv 2) (aa (pv 3) ag))))
   (af (aX (au qK (aq aL (aq dR (pv 1) (az aw (by rfl) T.n_len bQ (aa (pv 2) ag))) (az aw (by rfl) T.n_len bQ (aa (pv 4) ag))) ah (av _)) (aj ft) ay)
   (af (lr (pv 0) (pv 1) rfl)
   (af (lr (pv 0) (eY lC (by rfl) T.n_list hJ (aa (pv 2) ag)) rfl)
   (af (lr (pv 0) (qJ rfl (fr:=[]) (by exact cQ.plain (by rfl) (by decide +kernel) (by rfl) (by decide +kernel) (by rfl) (by decide +kernel)) (cR (pv 3)) (fun C ex s H=>(eY (fg (K:=K) rfl) (by rfl) T.n_list hJ (aa (pv 0) ag)))) rfl)
   (af (lr (pv 0) (pv 4) rfl)
   (aj (lr (pv 0) (aA G_sides_of.ok (hr.mono (by decide)) rfl G_sides_of.mg G_sides_of.kp G_sides_of.bn .nil a9 (aa (pv 2) (aa (pv 4) ag))) rfl))))))))))),?_⟩
 refine⟨_,rfl,_,rfl,qt,xs,m,es,rfl,SqL.of hqt,hT,fun e he=>⟨(w'.ends e he).1,(w'.ends e he).2.1⟩,?_⟩
 refine⟨_,rfl,_,rfl,_,rfl,qt,qh,xs,zs,m,es,ts,rfl,SqL.of hqt,hT,SqL.of hqh,hR,w',few,by omega,fun H1 s1=>?_⟩
 refine⟨_,rfl,_,rfl,qt,xs,m,es,ts,rfl,SqL.of (s1 _ _ hqt),hT.mono s1,g,m2,by omega,few,fun H2 s2=>?_⟩
 have s12:=s1.trans s2
 refine⟨_,rfl,_,rfl,qt,qh,m,es,ts,rfl,⟨⟨xs,SqL.of (s12 _ _ hqt),hT.mono s12⟩,⟨zs,SqL.of (s12 _ _ hqh),hR.mono s12⟩,w',by omega⟩,fun qr vs rs H3 s3 hqr hrs ro=>?_⟩
 have s13:=s12.trans s3
 have cnt:m+rs.length=es.length+2:=by
  obtain⟨rs',p',c⟩:=g.part
  rw[← p'.same ro.part]
  exact c
 have hvl:vs.length=rs.length:=hrs.1
 refine⟨_,rfl,_,rfl,qt,xs,rfl,.inl (SqL.of (s13 _ _ hqt)),_,_,rfl,rfl,_,rfl,qr,vs,rfl,.inl (SqL.of hqr),_,_,rfl,rfl,rfl,_,rfl,?_⟩
 refine xn (congrArg V.int (by omega)) ?_
 have hp3:=s13 _ _ hp
 refine⟨_,rfl,_,rfl,p,C,dx,[],rfl,hp3,cw.cl,cw.n1,(by show 0<1000;decide),?_⟩
 have keep:∀{G:Hp}{o:HO}{q:Addr}{u:HO},q≠p->G q=some u->(upd G p o) q=some u:=fun n z=>by rw[ao n];exact z
 refine⟨_,rfl,qt,xs,rfl,.inl (SqL.of (keep (pl hqt) (s13 _ _ hqt))),fun q1 hq1=>?_⟩
 have n1p:q1≠p:=fun z=>by rw[z,ae]at hq1;cases hq1
 have t4:=ai hq1 (.lst xs)
 refine⟨_,rfl,p,C,dx,_,rfl,t4 _ _ ae,cw.cl,cw.n2,?_,?_⟩
 ·have:=ig "many" (.int (m:Int)) ([]:List (Str×V));simp only[DJ]at this;omega
 have t1:∀ q u,q≠p->H3 q=some u->(upd (upd (upd H3 p (.ins C dx (putF "many" (.int (m:Int)) []))) q1 (.lst xs)) p (.ins C dx (putF "ties" (.ref q1) (putF "many" (.int (m:Int)) [])))) q=some u:=fun q u n z=>keep n (t4 _ _ (keep n z))
 have q1a:(upd (upd (upd H3 p (.ins C dx (putF "many" (.int (m:Int)) []))) q1 (.lst xs)) p (.ins C dx (putF "ties" (.ref q1) (putF "many" (.int (m:Int)) [])))) q1=some (.lst xs):=keep n1p ae
 have pa:(upd (upd (upd H3 p (.ins C dx (putF "many" (.int (m:Int)) []))) q1 (.lst xs)) p (.ins C dx (putF "ties" (.ref q1) (putF "many" (.int (m:Int)) [])))) p=some (.ins C dx (putF "ties" (.ref q1) (putF "many" (.int (m:Int)) []))):=ae
 generalize upd (upd (upd H3 p (.ins C dx (putF "many" (.int (m:Int)) []))) q1 (.lst xs)) p (.ins C dx (putF "ties" (.ref q1) (putF "many" (.int (m:Int)) [])))=H4 at t1 q1a pa
 have lk:(putF "ties" (.ref q1) (putF "many" (.int (m:Int)) []):List (Str×V)).lookup ("ties" : Str)=some (.ref q1):=by rw[ax,if_pos rfl]
 have ln:(putF "ties" (.ref q1) (putF "many" (.int (m:Int)) []):List (Str×V)).length<=2:=by
  have a1:=ig "many" (.int (m:Int)) ([]:List (Str×V))
  have a2:=ig "ties" (.ref q1) (putF "many" (.int (m:Int)) ([]:List (Str×V)))
  simp only[DJ]at a1
  omega
 have lkm:(putF "ties" (.ref q1) (putF "many" (.int (m:Int)) []):List (Str×V)).lookup ("many" : Str)=some (.int (m:Int)):=by rw[ax,if_neg (by decide +kernel),ax,if_pos rfl]
 generalize (putF "ties" (.ref q1) (putF "many" (.int (m:Int)) []):List (Str×V))=fs at pa lk ln lkm
 have hqh4:=t1 _ _ (pl hqh) (s13 _ _ hqh)
 have new4:∀{b:Addr},H4 b=none->H b=none:=fun{b} z=>by
  cases y:H b with
  |none=>rfl
  |some o =>
   by_cases n:b=p
   ·rw[n,pa]at z;cases z
   ·rw[t1 _ _ n (s13 _ _ y)]at z;cases z
 have new1:H q1=none:=by
  cases y:H q1 with
  |none=>rfl
  |some o=>rw[keep n1p (s13 _ _ y)]at hq1;cases hq1
 refine⟨_,rfl,qh,rfl,⟨_,SqL.of hqh4⟩,gU (K:=K) (xs:=zs) (fun i ys H5=>Same H4 H5/\dM (fun a=>H a≠none) H5 ys (ts.take i)) (CQ (ar (by omega))) ⟨fun _ _ e=>e,rfl,fun i l e=>by simp at e⟩ (fun i _ H5 _ z=>SqL.of (z.1 _ _ hqh4)) ?_ ?_⟩
 ·rintro i x ys H5 hx ⟨s5,rz⟩
  have hi:i<ts.length:=by rw[← hR.1];exact(Ca.mp hx).1
  obtain⟨l,hl⟩:∃ l,ts[i]?=some l:=⟨_,Cc hi⟩
  obtain⟨r,a1,a2⟩:=hR.2 i l hl
  rw[hx]at a1
  cases a1
  refine⟨_,rfl,r,_,rfl,.inl (SqL.of (s5 _ _ (t1 _ _ (pl a2) (s13 _ _ a2)))),fun g hg=>⟨s5.trans (ai hg _),?_⟩⟩
  rw[show ts.take (i+1)=ts.take i++[l] by rw[CY,hl];rfl]
  exact(rz.mono fun b u _ z=>ai hg _ _ _ z).snoc (fun z=>z (new4 (none_of s5 hg))) ae
 rintro ys H5 _ ⟨s5,rz⟩ D hD
 rw[hR.1,C7]at rz
 have hDp:D≠p:=fun z=>by rw[z,s5 _ _ pa]at hD;cases hD
 have s6:=s5.trans (ai hD (.lst ys))
 refine⟨_,rfl,p,C,dx,fs,rfl,s6 _ _ pa,cw.cl,cw.n3,by omega,?_⟩
 have ln1:=ig "turns" (.ref D) fs
 have lk1:(putF "turns" (.ref D) fs).lookup ("ties" : Str)=some (.ref q1):=by rw[ax,if_neg (by decide +kernel)];exact lk
 refine⟨_,rfl,_,rfl,p,C,dx,_,rfl,ae,cw.cl,cw.n4,by omega,?_⟩
 have ln2:=ig "rounds" (.ref qr) (putF "turns" (.ref D) fs)
 have lk2:(putF "rounds" (.ref qr) (putF "turns" (.ref D) fs)).lookup ("ties" : Str)=some (.ref q1):=by rw[ax,if_neg (by decide +kernel)];exact lk1
 have t7:∀ q u,q≠p->H3 q=some u->(upd (upd (upd H5 D (.lst ys)) p (.ins C dx (putF "turns" (.ref D) fs))) p (.ins C dx (putF "rounds" (.ref qr) (putF "turns" (.ref D) fs)))) q=some u:=fun q u n z=>keep n (keep n (s6 _ _ (t1 q u n z)))
 have q17:(upd (upd (upd H5 D (.lst ys)) p (.ins C dx (putF "turns" (.ref D) fs))) p (.ins C dx (putF "rounds" (.ref qr) (putF "turns" (.ref D) fs)))) q1=some (.lst xs):=keep n1p (keep n1p (s6 _ _ q1a))
 have p7:(upd (upd (upd H5 D (.lst ys)) p (.ins C dx (putF "turns" (.ref D) fs))) p (.ins C dx (putF "rounds" (.ref qr) (putF "turns" (.ref D) fs)))) p=some (.ins C dx (putF "rounds" (.ref qr) (putF "turns" (.ref D) fs))):=ae
 have D7:(upd (upd (upd H5 D (.lst ys)) p (.ins C dx (putF "turns" (.ref D) fs))) p (.ins C dx (putF "rounds" (.ref qr) (putF "turns" (.ref D) fs)))) D=some (.lst ys):=keep hDp (keep hDp ae)
 have u7:∀ q u,q≠p->H5 q=some u->(upd (upd (upd H5 D (.lst ys)) p (.ins C dx (putF "turns" (.ref D) fs))) p (.ins C dx (putF "rounds" (.ref qr) (putF "turns" (.ref D) fs)))) q=some u:=fun q u n z=>keep n (keep n (ai hD _ _ _ z))
 generalize upd (upd (upd H5 D (.lst ys)) p (.ins C dx (putF "turns" (.ref D) fs))) p (.ins C dx (putF "rounds" (.ref qr) (putF "turns" (.ref D) fs)))=H7 at t7 q17 p7 D7 u7
 have pl3:∀{q:Addr}{ys:List V},H3 q=some (.lst ys)->q≠p:=fun{q ys} h z=>by rw[z,hp3]at h;cases h
 have rs7:cA H7 vs rs:=⟨hrs.1,fun i l z=>by
  obtain⟨r,a1,a2⟩:=hrs.2 i l z
  exact⟨r,a1,t7 _ _ (pl3 a2) a2⟩⟩
 have T7:cP K H7 xs es:=(hT.mono s13).keep hp3 t7
 refine⟨_,rfl,_,rfl,qt,qr,xs,vs,es,_,rs,rfl,SqL.of (t7 _ _ (pl hqt) (s13 _ _ hqt)),T7,by omega,SqL.of (t7 _ _ (pl3 hqr) hqr),rs7,ro,fun q5 z5 H8 s8 hq5 hs5=>?_⟩
 refine⟨_,rfl,p,C,dx,_,rfl,s8 _ _ p7,cw.cl,cw.n5,by omega,?_⟩
 have n5p:q5≠p:=fun z=>by rw[z,s8 _ _ p7]at hq5;cases hq5
 have hqr7:=t7 _ _ (pl3 hqr) hqr
 refine kk _ q1 rs _ ae ⟨?_,⟨D,ys,?_,fun z=>z (new4 (none_of s5 hD)),keep hDp (s8 _ _ D7),rz.1,fun i l z=>?_⟩,⟨qr,vs,?_,keep (pl3 hqr) (s8 _ _ hqr7),hrs.1,fun i l z=>?_⟩,⟨q5,z5,?_,keep n5p hq5,hs5.1,fun i hi=>?_⟩,ro⟩ new1 (by rw[ax,if_neg (by decide +kernel)];exact lk2) (keep n1p (s8 _ _ q17)) fun q o z n=>keep n (s8 _ _ (t7 q o n (s13 _ _ z)))
 ·rw[ax,if_neg (by decide +kernel),ax,if_neg (by decide +kernel),ax,if_neg (by decide +kernel)]
  exact lkm
 ·rw[ax,if_neg (by decide +kernel),ax,if_neg (by decide +kernel),ax,if_pos rfl]
 ·obtain⟨r,a1,a0,a2⟩:=rz.2 i l z
  have nr:r≠p:=fun z=>by rw[z,s5 _ _ pa]at a2;cases a2
  exact⟨r,a1,a0,keep nr (s8 _ _ (u7 r _ nr a2))⟩
 ·rw[ax,if_neg (by decide +kernel),ax,if_pos rfl]
 ·obtain⟨r,a1,a2⟩:=hrs.2 i l z
  exact⟨r,a1,keep (pl3 a2) (s8 _ _ (t7 _ _ (pl3 a2) a2))⟩
 ·rw[ax,if_pos rfl]
 ·obtain⟨t,a,b,r,r',y1,y2,y3⟩:=hs5.2 i hi
  exact⟨t,a,b,r,r',y1,keep (fun z=>by rw[z,s8 _ _ p7]at y2;cases y2) y2,y3⟩
theorem dJ.at{PL PS:Addr}{H:Hp}{xs:List V}{es:En}{ks:Kn}(t:dJ PL PS H xs es ks)(kl:ks.length=es.length)(TL:CT K PL)(TS:CT K PS):cP K H xs es:=⟨t.1,fun i e z=>by
 have hi:=(Ca.mp z).1
 obtain⟨k,hk⟩:∃ k,ks[i]?=some k:=⟨_,Cc (by omega)⟩
 obtain⟨p,dx,a,b⟩:=t.2 i e k z hk
 refine⟨p,_,dx,k.2,a,b,?_⟩
 unfold cls
 split
 ·exact TS
 ·exact TL⟩
def WebF(S:Addr->Prop)(PL PS WC:Addr)(H:Hp)(p:Addr)(m:Nat)(es:En)(ts rs:List (List Nat))(ks:Kn):Prop:=∃ dx fs q1 xs,H p=some (.ins WC dx fs)/\WebG S H fs m es ts rs/\¬ S q1/\fs.lookup ("ties" : Str)=some (.ref q1)/\H q1=some (.lst xs)/\dJ PL PS H xs es ks
theorem WebF.mono{S S':Addr->Prop}{PL PS WC p:Addr}{H H':Hp}{m:Nat}{es:En}{ts rs:List (List Nat)}{ks:Kn}(h:WebF S PL PS WC H p m es ts rs ks)(s:Same H H')(i:∀ a,S' a->S a):WebF S' PL PS WC H' p m es ts rs ks:=by
 obtain⟨dx,fs,q1,xs,a,b,n,c,d,e⟩:=h
 exact⟨dx,fs,q1,xs,s _ _ a,b.mono s i,fun y=>n (i _ y),c,s _ _ d,e.mono s⟩
end
end K8
namespace K8
open PySem L2
local macro_rules | `(tactic| walk_at "cc") => `(tactic| first | exact ⟨by decide, by decide⟩ | (show (0 : Int) < _; decide) | (show (0 : Int) < _; omega) | (show (0 : Int) ≤ _; omega) | exact ⟨by decide, by decide, by decide⟩ | exact ⟨by omega, by omega, by decide⟩ | exact Or.inl ⟨by decide, by decide⟩ | exact Or.inl ⟨by omega, by omega⟩)
local macro_rules | `(tactic| walk_at "rd") => `(tactic| repeat (first | refine ⟨_, rfl, ?_⟩ | refine ⟨_, _, rfl, rfl, ?_⟩ | refine ⟨rfl, ?_⟩ | (refine ⟨?cc, ?_⟩; (case cc => walk_at "cc"))))
abbrev Col:=List Int×List Int
structure Good(r:Nat)(pat:List Col):Prop where
 p0:0<pat.length
 p6:pat.length<=6
 r1:1<=r
 r3:r<=3
 al:∀ c∈pat,c.2.length=r/\c.1.length+1=r
theorem qI{X:Cx}{x:Str}{n:Int}{pos:Pos}(hg:Gl X x)(hm:∃ t,X.mg x=some (.int n t)) (hd:(x == ("__debug__" : Str))=false:=by decide):PE X (.Name x pos) (tC (.int n)):=by
 obtain⟨t,h⟩:=hm
 exact jZ hg h ⟨t,rfl⟩ hd
def bC(H:Hp)(v:V)(c:Col):Prop:=∃ t a b,v=.ref t/\H t=some (.tup [.ref a,.ref b])/\H a=some (.lst (c.1.map V.int))/\H b=some (.lst (c.2.map V.int))
def iA(H:Hp)(v:V)(pat:List Col):Prop:=∃ a ys,v=.ref a/\H a=some (.lst ys)/\LsAt bC H ys pat
theorem bC.mono{H H':Hp}{v:V}{c:Col}(h:bC H v c)(s:Same H H'):bC H' v c:=by
 obtain⟨t,a,b,e,h1,h2,h3⟩:=h
 exact⟨t,a,b,e,s _ _ h1,s _ _ h2,s _ _ h3⟩
theorem iA.mono{H H':Hp}{v:V}{pat:List Col}(h:iA H v pat)(s:Same H H'):iA H' v pat:=by
 obtain⟨a,ys,e,z,l⟩:=h
 exact⟨a,ys,e,s _ _ z,l.imp fun _ _ q=>q.mono s⟩
structure TxtS(mg:Str->Option Value)(B TW:Addr):Prop extends Txt mg where
 g_most:∃ t,mg "MOST_IN_PATTERN" = some (.int 6 t)
 g_rows:∃ t,mg "MOST_ROWS" = some (.int 3 t)
 g_places:∃ t,mg "MOST_PLACES" = some (.int 40 t)
 g_BadStrip:mg "BadStrip" = some (.ref B)
 g_TooWide:mg "TooWide" = some (.ref TW)
def Bad(pat:List Col):Prop:=∀ r,¬ Good r pat
def sv:Sp:=fun vs H Q _=>∃(v:V)(c:Col)(pat:List Col),vs = [v]/\iA H v (c::pat)/\Q (.int (c.2.length:Int)) H
def xX(B:Addr):Sp:=fun vs H Q E=>∃(v:V)(pat:List Col),vs = [v]/\iA H v pat/\(∀ r,Good r pat->Q .non H)/\(Bad pat->E (.ref B) none H)
def uo(B:Addr):Sp:=fun vs H Q E=>∃ c:Int,vs = [.int c]/\((1<=c/\c<=10^18)->Q .non H)/\(¬ (1<=c/\c<=10^18)->E (.ref B) none H)
def ui(PL PS:Addr):Sp:=fun vs H Q _=>∃(a b g:Int),vs = [.int a,.int b,.int g]/\a≠b/\0<=a/\0<=b/\∀(x dx:Addr)(H':Hp),Same H H'->H' x=some (.ins (cls PL PS (decide (g<0))) dx (tf a b (if g<0 then -g else g)))->Q (.ref x) H'
section
variable{P:Program}{w:World}{K:B9}{mg:Str->Option Value}{base:Heap}
theorem wG:aE ["pattern"] ["pattern"] (ak eS):=⟨rfl,rfl,rfl,by decide +kernel,rfl,by decide +kernel,by decide +kernel⟩
theorem Bu{f:Addr}{fd:FuncData} (F:Fun K "rows_of" "rows_of" eS f fd) (T:Txt mg):FnOk P w K mg base CX0 1 f fd ["pattern"] sv:=by
 refine F.ok wG (fun vs H Q E h=>?_) (fun cdv A outer s H vs Q E hr h=>?_)
 ·obtain⟨v,c,pat,rfl,_⟩:=h
  rfl
 obtain⟨v,c,pat,rfl,⟨a,ys,rfl,hA,hL⟩,kk⟩:=h
 obtain⟨y,hy,t,a1,b1,rfl,ht,ha,hb⟩:=hL.2 0 c rfl
 refine⟨_,(aj (aJ (az aw (by rfl) T.n_len bQ (aa (aV cO (aV aN (pv 0) ah (fun _ _=>rfl)) ah (fun _ _=>rfl)) ag)))),?_⟩
 refine⟨_,rfl,a,_,_,_,rfl,rfl,SqL.of hA,aP (j:=0) hy,t,_,1,_,rfl,rfl,SqT.of ht,at1,b1,_,rfl,.inl (SqL.of hb),?_⟩
 rw[Cd]
 exact kk
theorem jT:aE ["columns"] ["columns"] (ak a4):=⟨rfl,rfl,rfl,by decide +kernel,rfl,by decide +kernel,by decide +kernel⟩
theorem Aa{f B TW:Addr}{fd:FuncData} (F:Fun K "refuse_columns" "refuse_columns" a4 f fd) (T:TxtS mg B TW) (ecB:ExC K B):FnOk P w K mg base (CXd P w) 1 f fd ["columns"] (uo B):=by
 refine F.okD jT (fun vs H Q E h=>?_) (fun cdv A outer s H vs Q E hr h=>?_)
 ·obtain⟨c,rfl,_⟩:=h
  rfl
 obtain⟨c,rfl,kq,ke⟩:=h
 refine⟨_,(aj (aX (PW.pt (iS (au jq (pv 0) ah (av _)) (eW (au sQ (pv 0) (aq lu ah ah) (av _))))) (aj (eX ecB T.g_BadStrip rfl gw rfl rfl (aa pP ag))) ay)),?_⟩
 refine⟨_,rfl,_,_,rfl,rfl,_,rfl,ite2 (fun z=>?_) (fun z=>?_)⟩
 ·have z':c<1:=of_decide_eq_true z
  exact iteT ⟨(by decide:(1:Nat)<=sizeLine),ke fun e=>by omega⟩
 have z':¬ c<1:=fun e=>z (decide_eq_true e)
 refine⟨_,rfl,_,_,rfl,rfl,⟨by decide,by decide,by decide⟩,_,_,rfl,rfl,_,rfl,ite2 (fun y=>?_) (fun y=>?_)⟩
 ·have y':c > 10^18:=of_decide_eq_true y
  exact⟨(by decide:(1:Nat)<=sizeLine),ke fun e=>by omega⟩
 ·have y':¬ c > 10^18:=fun e=>y (decide_eq_true e)
  exact kq ⟨by omega,by omega⟩
theorem bE:aE ["pattern","rows","across","along"] ["pattern"] (ak aZ):=⟨rfl,rfl,rfl,by decide +kernel,rfl,by decide +kernel,by decide +kernel⟩
theorem Bw{f f1 B TW:Addr}{fd fd1:FuncData} (F:Fun K "refuse_pattern" "refuse_pattern" aZ f fd) (T:TxtS mg B TW) (ecB:ExC K B) (G_rows_of:Cal P w K mg base 1 "rows_of" ["pattern"] sv f1 fd1):FnOk P w K mg base (CXd P w) 2 f fd ["pattern"] (xX B):=by
 refine F.okD bE (fun vs H Q E h=>?_) (fun cdv A outer s H vs Q E hr h=>?_)
 ·obtain⟨v,pat,rfl,_⟩:=h
  rfl
 obtain⟨v,pat,rfl,hP,kq,ke⟩:=h
 obtain⟨a,ys,rfl,hA,hL⟩:=id hP
 have yl:=hL.1
 have one:(1:Nat)<=sizeLine:=by decide
 refine⟨_,(af (aX (PW.pt (iS (au jq (az aw (by rfl) T.n_len bQ (aa (pv 0) ag)) ah (av _)) (eW (au sQ (az aw (by rfl) T.n_len bQ (aa (pv 0) ag)) (qI rfl T.g_most) (av _))))) (aj (eX ecB T.g_BadStrip rfl gw rfl rfl (aa pP ag))) ay)
   (af (aI (i:=1) bE.nd rfl (Or.inl rfl) (aA G_rows_of.ok (hr.mono (by decide)) rfl G_rows_of.mg G_rows_of.kp G_rows_of.bn .nil a9 (aa (pv 0) ag)))
   (af (aX (PW.pt (iS (au jq (pv 1) ah (av _)) (eW (au sQ (pv 1) (qI rfl T.g_rows) (av _))))) (aj (eX ecB T.g_BadStrip rfl gw rfl rfl (aa pP ag))) ay)
   (aj (cp PassesOwn.leaving rfl (cR (pv 0)) (pO rfl (bz (aG (i:=2) bE.nd rfl (Or.inl rfl)) (bz (aG (i:=3) bE.nd rfl (Or.inl rfl)) iT))) (af (aX (au qK (az aw (by rfl) T.n_len bQ (aa (pv 3) ag)) (pv 1) (av _)) (aj (eX ecB T.g_BadStrip rfl gw rfl rfl (aa pP ag))) ay)
   (aj (aX (au qK (az aw (by rfl) T.n_len bQ (aa (pv 2) ag)) (aq dR (pv 1) ah) (av _)) (aj (eX ecB T.g_BadStrip rfl gw rfl rfl (aa pP ag))) ay)))))))),?_⟩
 refine⟨_,rfl,a,_,rfl,.inl (SqL.of hA),_,_,rfl,rfl,_,rfl,ite2 (fun z=>?_) (fun z=>?_)⟩
 ·have z':(ys.length:Int)<1:=of_decide_eq_true z
  exact iteT ⟨one,ke fun r g=>by have:=g.p0;omega⟩
 have g0:0<pat.length:=by
  by_cases e:0<pat.length
  ·exact e
  ·exact absurd (decide_eq_true (show(ys.length:Int)<1 by omega)) z
 refine⟨_,rfl,a,_,rfl,.inl (SqL.of hA),_,_,rfl,rfl,_,rfl,ite2 (fun z=>?_) (fun z=>?_)⟩
 ·have z':(ys.length:Int) > 6:=of_decide_eq_true z
  exact⟨one,ke fun r g=>by have:=g.p6;omega⟩
 have g6:pat.length<=6:=by
  by_cases e:pat.length<=6
  ·exact e
  ·exact absurd (decide_eq_true (show(ys.length:Int) > 6 by omega)) z
 obtain⟨c,pt,rfl⟩:∃ c pt,pat=c::pt:=by
  match pat,g0 with
  |c::pt,_=>exact⟨c,pt,rfl⟩
 have bad:∀ r,Good r (c::pt)->r=c.2.length:=fun r g=>(g.al c (CG ..)).1.symm
 refine⟨_,rfl,.ref a,c,pt,rfl,hP,?_⟩
 generalize hr0:c.2.length=r at bad
 refine⟨_,rfl,_,_,rfl,rfl,_,rfl,ite2 (fun z=>?_) (fun z=>?_)⟩
 ·have z':(r:Int)<1:=of_decide_eq_true z
  exact iteT ⟨one,ke fun q g=>by have:=g.r1;have:=bad q g;omega⟩
 have g1:1<=r:=by
  by_cases e:1<=r
  ·exact e
  ·exact absurd (decide_eq_true (show(r:Int)<1 by omega)) z
 refine⟨_,rfl,_,_,rfl,rfl,_,rfl,ite2 (fun z=>?_) (fun z=>?_)⟩
 ·have z':(r:Int) > 3:=of_decide_eq_true z
  exact⟨one,ke fun q g=>by have:=g.r3;have:=bad q g;omega⟩
 have g3:r<=3:=by
  by_cases e:r<=3
  ·exact e
  ·exact absurd (decide_eq_true (show(r:Int) > 3 by omega)) z
 refine⟨_,rfl,a,rfl,⟨_,SqL.of hA⟩,ir (K:=K) (xs:=ys) (fun i σ H2=>∃ v2 v3,σ = [some (.ref a),some (.int (r:Int)),v2,v3]/\H2=H/\∀ d∈(c::pt).take i,d.2.length=r/\d.1.length+1=r) ⟨_,_,rfl,rfl,fun d hd=>by rw[List.take_zero]at hd;cases hd⟩ (fun i σ H2 _ z=>?_) ?_ ?_⟩
 ·obtain⟨_,_,_,rfl,_⟩:=z
  exact SqL.of hA
 ·rintro i x σ H2 hx ⟨v2,v3,rfl,rfl,hal⟩
  obtain⟨d,hd,t,a1,b1,rfl,ht,ha,hb⟩:=hL.get hx
  refine⟨t,_,rfl,SqT.of ht,rfl,_,_,rfl,_,_,rfl,rfl,?_⟩
  refine⟨_,rfl,b1,_,rfl,.inl (SqL.of hb),_,rfl,rfl,_,rfl,?_⟩
  rw[Cd]
  by_cases q1:d.2.length=r
  ·refine xn (congrArg V.int (by rw[q1])) ?_
   refine⟨_,rfl,a1,_,rfl,.inl (SqL.of ha),_,rfl,_,_,rfl,rfl,rfl,_,rfl,?_⟩
   rw[Cd]
   by_cases q2:d.1.length+1=r
   ·refine xn (congrArg V.int (by omega)) ?_
    refine⟨_,_,rfl,rfl,fun e he=>?_⟩
    rw[CY,hd]at he
    rcases CA.mp he with he | he
    ·exact hal e he
    ·have:e=d:=by simpa using he
     rw[this];exact⟨q1,q2⟩
   ·refine ite2 (fun _=>?_) (fun y=>?_)
    ·exact⟨one,ke fun q g=>by have:=(g.al d (Ce hd)).2;have:=bad q g;omega⟩
    ·exfalso
     refine y ?_
     have:¬ V.int ((d.1.length:Nat):Int)=V.int ((r:Int)-1):=fun w=>q2 (by have:=V.int.inj w;omega)
     show(!decide (V.int ((d.1.length:Nat):Int)=V.int ((r:Int)-1)))=true
     rw[decide_eq_false this]
     rfl
  ·refine ite2 (fun _=>?_) (fun y=>?_)
   ·exact⟨one,ke fun q g=>by have:=(g.al d (Ce hd)).1;have:=bad q g;omega⟩
   ·exfalso
    refine y ?_
    have:¬ V.int ((d.2.length:Nat):Int)=V.int (r:Int):=fun w=>q1 (by have:=V.int.inj w;omega)
    show(!decide (V.int ((d.2.length:Nat):Int)=V.int (r:Int)))=true
    rw[decide_eq_false this]
    rfl
 ·rintro σ H2 ⟨v2,v3,rfl,rfl,hal⟩
  rw[yl,C7]at hal
  exact kq r ⟨g0,g6,g1,g3,hal⟩
theorem yc:aE ["one","two","signed"] ["one","two","signed"] (ak ic):=⟨rfl,rfl,rfl,by decide +kernel,rfl,by decide +kernel,by decide +kernel⟩
theorem ok_of{f fI PL PS:Addr}{fd fdI:FuncData} (F:Fun K "tie_of" "tie_of" ic f fd) (M_Pull:Mak P w K mg base 1 "Pull" ["self","one","two","strength"] (pK K) PL fI fdI) (M_Push:Mak P w K mg base 1 "Push" ["self","one","two","strength"] (pK K) PS fI fdI) (TL:CT K PL) (TS:CT K PS) :
  FnOk P w K mg base CX0 3 f fd ["one","two","signed"] (ui PL PS):=by
 refine F.ok yc (fun vs H Q E h=>?_) (fun cdv A outer s H vs Q E hr h=>?_)
 ·obtain⟨a,b,g,rfl,_⟩:=h
  rfl
 obtain⟨a,b,g,rfl,n1,n2,n3,k⟩:=h
 refine⟨_,(af (aX (au jq (pv 2) ah (av _)) (aj (aJ (uP M_Push.mkc M_Push.ok (hr.mono (by decide)) rfl M_Push.mg M_Push.bn .nil a9 (aa (pv 0) (aa (pv 1) (aa (Bq xO (pv 2)) ag)))))) ay)
   (aj (aJ (uP M_Pull.mkc M_Pull.ok (hr.mono (by decide)) rfl M_Pull.mg M_Pull.bn .nil a9 (aa (pv 0) (aa (pv 1) (aa (pv 2) ag))))))),?_⟩
 walk_at "rd"
 refine ite2 (fun c=>?_) (fun c=>?_)
 ·have c':g<0:=of_decide_eq_true c
  refine⟨_,rfl,_,rfl,_,rfl,_,rfl,?_⟩
  intro x dx nx ndx nex
  have sn:Same H (upd (upd H dx (.own x)) x (.ins PS dx [])):=fun q o e=>by rw[ao (aF e nx),ao (aF e ndx)];exact e
  refine⟨x,PS,dx,a,b,-g,rfl,ae,TS,n1,n2,n3,by omega,fun H' h1 h2=>⟨rfl,k x dx H' (fun q o e=>h2 q o (sn q o e) (aF e nx)) ?_⟩⟩
  rw[decide_eq_true c',if_pos c']
  exact h1
 ·have c':¬ g<0:=fun z=>c (decide_eq_true z)
  refine⟨_,rfl,_,rfl,_,rfl,?_⟩
  intro x dx nx ndx nex
  have sn:Same H (upd (upd H dx (.own x)) x (.ins PL dx [])):=fun q o e=>by rw[ao (aF e nx),ao (aF e ndx)];exact e
  refine⟨x,PL,dx,a,b,g,rfl,ae,TL,n1,n2,n3,by omega,fun H' h1 h2=>⟨rfl,k x dx H' (fun q o e=>h2 q o (sn q o e) (aF e nx)) ?_⟩⟩
  rw[decide_eq_false c',if_neg c']
  exact h1
end
end K8
namespace K8
open PySem L2
local macro_rules | `(tactic| walk_at "cc") => `(tactic| first | exact ⟨by decide, by decide⟩ | (show (0 : Int) < _; decide) | (show (0 : Int) < _; omega) | (show (0 : Int) ≤ _; omega) | exact ⟨by decide, by decide, by decide⟩ | exact ⟨by omega, by omega, by decide⟩ | exact Or.inl ⟨by decide, by decide⟩ | exact Or.inl ⟨by omega, by omega⟩)
local macro_rules | `(tactic| walk_at "rd") => `(tactic| repeat (first | refine ⟨_, rfl, ?_⟩ | refine ⟨_, _, rfl, rfl, ?_⟩ | refine ⟨rfl, ?_⟩ | (refine ⟨?cc, ?_⟩; (case cc => walk_at "cc"))))
def sE(r c:Nat):En:=(Ct c).flatMap fun k=>((Ct (r-1)).map fun i=>(k*r+i,k*r+i+1))++(if k+1<c then(Ct r).map fun i=>(k*r+i,k*r+r+i) else[])
def jr(r c p:Nat):List Nat:=(if 0<p%r then[p-1] else[])++(if p/r+1<c then[p+r] else[])++(if p%r+1<r then[p+1] else[])++(if r<=p then[p-r] else[])
def isE(a b:Nat)(e:Nat×Nat):Bool:=(DC e.1 a&&DC e.2 b)||(DC e.1 b&&DC e.2 a)
def nof(es:En)(a b:Nat):Nat:=es.findIdx (isE a b)
def sT(r c:Nat):List (List Nat):=(Ct (r*c)).map fun p=>(jr r c p).map (nof (sE r c) p)
def chB(f:Nat->Nat):Nat->List Nat->Nat->Bool
 |x,[],y=>DC (f x) y
 |x,a::l,y=>DC (f x) a&&chB f a l y
def memB(x:Nat):List Nat->Bool
 |[]=>false
 |y::l=>bif DC x y then true else memB x l
def goR(f:Nat->Nat)(s:Nat):Nat->Nat->List Nat
 |0,_=>[]
 |n+1,d=>bif DC d s then[] else d::goR f s n (f d)
def rgR(f:Nat->Nat):List Nat->List Nat->Nat->List (List Nat)
 |[],_,_=>[]
 |d::ds,seen,n=>bif memB d seen then rgR f ds seen n else(d::goR f d n (f d))::rgR f ds (d::goR f d n (f d)++seen) n
def rsR(es:En)(ts:List (List Nat)):List (List Nat):=rgR (fol es ts) (Ct (2*es.length)) [] (2*es.length)
def ndB:List Nat->Bool
 |[]=>true
 |y::l=>bif memB y l then false else ndB l
def okS(m:Nat)(es:En)(ts rs:List (List Nat)):Bool :=
 DC ts.length m&&es.all (fun e=>Eh (e.1+1) e.2&&Eh (e.2+1) m)&&ndB (es.map fun e=>e.1*64+e.2)
 && ts.all ndB&&(Ct m).all (fun p=>(ts.getD p []).all fun t=>match es[t]? with | some e=>DC e.1 p||DC e.2 p | none=>false)
 && (Ct es.length).all (fun t=>match es[t]? with | some e=>memB t (ts.getD e.1 [])&&memB t (ts.getD e.2 []) | none=>false)
 && (Ct m).all (fun p=>DC p 0||es.any fun e=>DC e.2 p)
 && rs.all (fun r=>match r with | []=>false | x::l=>chB (fol es ts) x l x)
 && rs.flatten.all (fun d=>Eh (d+1) (2*es.length))&&ndB rs.flatten&&(Ct (2*es.length)).all (fun d=>memB d rs.flatten)
 && DC (m+rs.length) (es.length+2)&&Eh es.length 62
def eqB:List Nat->List Nat->Bool
 |[],[]=>true
 |x::a,y::b=>bif DC x y then eqB a b else false
 |_,_=>false
def hitS(r p k:Nat)(e:Nat×Nat):Bool:=match k with
 |0=>Eh 1 p&&isE p (p-1) e
 |1=>isE p (p+r) e
 |2=>isE p (p+1) e
 |_=>Eh r p&&isE p (p-r) e
def lawR(r:Nat)(es:En)(p:Nat):List Nat:=(Ct 4).flatMap fun k=>if 1<r∨k%2=1 then(Ct es.length).filter fun t=>match es[t]? with | some e=>hitS r p k e | none=>false else[]
def okT(r:Nat)(es:En)(ts:List (List Nat))(m:Nat):Bool:=(Ct m).all fun p=>eqB (lawR r es p) (ts.getD p [])
def okRC(r c:Nat):Bool:=okS (r*c) (sE r c) (sT r c) (rsR (sE r c) (sT r c))&&okT r (sE r c) (sT r c) (r*c)
def chk(r lo n:Nat):Bool:=(Ct n).all fun i=>okRC r (lo+i)
theorem e8{r lo n c:Nat}(h:chk r lo n=true)(h1:lo<=c)(h2:c<lo+n):okRC r c=true:=by
 have:=Ew.mp h (c-lo) (DU.mpr (by omega))
 rw[show lo+(c-lo)=c by omega]at this
 exact this
theorem chk1_2:chk 1 2 14=true:=by decide +kernel
theorem B2:chk 1 16 11=true:=by decide +kernel
theorem B1:chk 1 27 7=true:=by decide +kernel
theorem B0:chk 1 34 7=true:=by decide +kernel
theorem chk2_1:chk 2 1 8=true:=by decide +kernel
theorem chk2_9:chk 2 9 5=true:=by decide +kernel
theorem BZ:chk 2 14 4=true:=by decide +kernel
theorem BY:chk 2 18 3=true:=by decide +kernel
theorem chk3_1:chk 3 1 5=true:=by decide +kernel
theorem chk3_6:chk 3 6 3=true:=by decide +kernel
theorem chk3_9:chk 3 9 2=true:=by decide +kernel
theorem BX:chk 3 11 2=true:=by decide +kernel
theorem BW:chk 3 13 1=true:=by decide +kernel
theorem zu{r c:Nat}(hr:1<=r)(r3:r<=3)(h40:r*c<=40)(h2:2<=r*c):okRC r c=true:=by
 have rr:r=1∨r=2∨r=3:=by omega
 rcases rr with e | e | e<;>subst e
 ·by_cases c0:c<16
  ·exact e8 chk1_2 (by omega) (by omega)
  by_cases c1:c<27
  ·exact e8 B2 (by omega) (by omega)
  by_cases c2:c<34
  ·exact e8 B1 (by omega) (by omega)
  exact e8 B0 (by omega) (by omega)
 ·by_cases c0:c<9
  ·exact e8 chk2_1 (by omega) (by omega)
  by_cases c1:c<14
  ·exact e8 chk2_9 (by omega) (by omega)
  by_cases c2:c<18
  ·exact e8 BZ (by omega) (by omega)
  exact e8 BY (by omega) (by omega)
 ·by_cases c0:c<6
  ·exact e8 chk3_1 (by omega) (by omega)
  by_cases c1:c<9
  ·exact e8 chk3_6 (by omega) (by omega)
  by_cases c2:c<11
  ·exact e8 chk3_9 (by omega) (by omega)
  by_cases c3:c<13
  ·exact e8 BX (by omega) (by omega)
  exact e8 BW (by omega) (by omega)
theorem jt{x:Nat}:∀{l:List Nat},memB x l=true↔x∈l
 |[]=>by simp[memB]
 |y::l=>by
  unfold memB
  cases h:DC x y with
  |true=>simp[CO h]
  |false =>
   have:=Nat.ne_of_beq_eq_false h
   simp[this,jt (l:=l)]
theorem wm:∀{l:List Nat},ndB l=true->l.Nodup
 |[],_=>Ee
 |y::l,h=>by
  unfold ndB at h
  cases z:memB y l with
  |true=>rw[z]at h;cases h
  |false =>
   rw[z]at h
   exact Dw.mpr ⟨fun w=>(by rw[jt.mpr w]at z;cases z),wm h⟩
theorem ch_of{f:Nat->Nat}:∀{x:Nat}{l:List Nat}{y:Nat},chB f x l y=true->nv f x l y
 |x,[],y,h=>CO h
 |x,a::l,y,h=>by
  obtain⟨h1,h2⟩:=Du.mp h
  exact⟨CO h1,ch_of h2⟩
structure OkS(m:Nat)(es:En)(ts rs:List (List Nat)):Prop where
 gr:Gr m es ts
 up:∀ e∈es,e.1<e.2
 nd:es.Nodup
 few:es.length<=62
theorem okS.is{m:Nat}{es:En}{ts rs:List (List Nat)}(h:okS m es ts rs=true):OkS m es ts rs:=by
 unfold okS at h
 simp only[DO,Ew,DU]at h
 obtain⟨⟨⟨⟨⟨⟨⟨⟨⟨⟨⟨⟨h1,h2'⟩,h3'⟩,h4'⟩,h5⟩,h6⟩,h7⟩,h8⟩,h9'⟩,h10'⟩,h11'⟩,h12'⟩,h13'⟩:=h
 have h1:=CO h1
 have h2:∀ e∈es,e.1<e.2/\e.2<m:=fun e he=>⟨DB (h2' e he).1,DB (h2' e he).2⟩
 have h4:∀ l∈ts,l.Nodup:=fun l hl=>wm (h4' l hl)
 have h9:∀ d∈rs.flatten,d<2*es.length:=fun d hd=>DB (h9' d hd)
 have h10:=wm h10'
 have h12:=CO h12'
 have h3:es.Nodup:=List.Pairwise.imp (fun h z=>h (by rw[z])) (List.pairwise_map.mp (wm h3'))
 have rowAt:∀{p:Nat}{l:List Nat},ts[p]?=some l->ts.getD p []=l:=fun{p l} hp=>by rw[Dr,hp];rfl
 have w:gq m es ts:=by
  refine⟨h1,fun e he=>⟨by have:=h2 e he;omega,(h2 e he).2,by have:=h2 e he;omega⟩,fun p l hp=>h4 l (Ce hp),fun p l hp t=>⟨fun ht=>?_,fun⟨e,he,hpe⟩=>?_⟩⟩
  ·have pm:p<m:=by rw[← h1];exact(Ca.mp hp).1
   have z:=h5 p pm t (by rw[rowAt hp];exact ht)
   cases u:es[t]? with
   |none=>rw[u]at z;cases z
   |some e =>
    rw[u]at z
    refine⟨e,rfl,?_⟩
    rcases Ej.mp z with y | y
    ·exact .inl (CO y)
    ·exact .inr (CO y)
  ·have tl:=(Ca.mp he).1
   have z:=h6 t tl
   rw[he]at z
   obtain⟨z1,z2⟩:=Du.mp z
   rcases hpe with y | y
   ·rw[y,rowAt hp]at z1;exact jt.mp z1
   ·rw[y,rowAt hp]at z2;exact jt.mp z2
 refine⟨⟨w,⟨rs,⟨fun r hr=>?_,h10,fun d hd=>jt.mp (h11' d hd)⟩,h12⟩,fun S hS=>?_⟩,fun e he=>(h2 e he).1,h3,DB h13'⟩
 ·have z:=h8 r hr
  cases r with
  |nil=>cases z
  |cons x l=>exact⟨⟨x,l,rfl,ch_of z⟩,fun d hd=>h9 d (De.mpr ⟨_,hr,hd⟩),List.Nodup.sublist (List.sublist_flatten_of_mem hr) h10⟩
 ·have zero:∀ n p,p<=n->p<m->(S p↔S 0):=fun n=>by
   induction n with
   |zero=>intro p hp _;rw[show p=0 by omega]
   |succ n ih =>
    intro p hp hm
    have z:=h7 p hm
    rcases Ej.mp z with y | y
    ·rw[CO y]
    ·obtain⟨e,he,ee⟩:=List.any_eq_true.mp y
     have e2:e.2=p:=CO ee
     have:=(h2 e he).1
     rw[← e2,← hS e he]
     exact ih e.1 (by omega) (by omega)
  exact fun p q hp hq hs=>(zero q q (Cg _) hq).mpr ((zero p p (Cg _) hp).mp hs)
theorem AS:∀{a b:List Nat},eqB a b=true->a=b
 |[],[],_=>rfl
 |x::a,y::b,h=>by
  unfold eqB at h
  cases z:DC x y with
  |true =>
   rw[z]at h
   rw[CO z,AS h]
  |false=>rw[z]at h;cases h
 |[],y::b,h=>by cases h
 |x::a,[],h=>by cases h
theorem qf{r c:Nat}(hr:1<=r)(r3:r<=3)(h40:r*c<=40)(h2:2<=r*c):OkS (r*c) (sE r c) (sT r c) (rsR (sE r c) (sT r c)):=okS.is (Du.mp (zu hr r3 h40 h2)).1
theorem xS{r c:Nat}(hr:1<=r)(r3:r<=3)(h40:r*c<=40)(h2:2<=r*c){p:Nat}(hp:p<r*c):lawR r (sE r c) p=(sT r c).getD p [] :=
 AS (Ew.mp (Du.mp (zu hr r3 h40 h2)).2 p (DU.mpr hp))
end K8
namespace K8
open PySem L2
local macro_rules | `(tactic| walk_at "cc") => `(tactic| first | exact ⟨by decide, by decide⟩ | (show (0 : Int) < _; decide) | (show (0 : Int) < _; omega) | (show (0 : Int) ≤ _; omega) | exact ⟨by decide, by decide, by decide⟩ | exact ⟨by omega, by omega, by decide⟩ | exact Or.inl ⟨by decide, by decide⟩ | exact Or.inl ⟨by omega, by omega⟩)
local macro_rules | `(tactic| walk_at "rd") => `(tactic| repeat (first | refine ⟨_, rfl, ?_⟩ | refine ⟨_, _, rfl, rfl, ?_⟩ | refine ⟨rfl, ?_⟩ | (refine ⟨?cc, ?_⟩; (case cc => walk_at "cc"))))
def kOf(g:Int):Int×Int:=(if g<0 then 1 else 0,if g<0 then -g else g)
def bM(pat:List Col)(k:Nat):Col:=pat.getD (k%pat.length) ([],[])
def colE(r c k:Nat):En:=((Ct (r-1)).map fun i=>(k*r+i,k*r+i+1))++(if k+1<c then(Ct r).map fun i=>(k*r+i,k*r+r+i) else[])
def colG(pat:List Col)(c k:Nat):List Int:=(bM pat k).1++(if k+1<c then(bM pat k).2 else[])
def gS(pat:List Col)(c:Nat):List Int:=(Ct c).flatMap (colG pat c)
theorem a8{α:Type}(f:Nat->List α)(k:Nat):(Ct (k+1)).flatMap f=(Ct k).flatMap f++f k:=by
 rw[DI,List.flatMap_append]
 simp
theorem Good.col{r:Nat}{pat:List Col}(g:Good r pat)(k:Nat):pat[k%pat.length]?=some (bM pat k)/\(bM pat k).2.length=r/\(bM pat k).1.length+1=r:=by
 have hl:=Nat.mod_lt k g.p0
 have e:pat[k%pat.length]?=some (bM pat k):=by
  unfold bM
  rw[Dr,Cc hl]
  rfl
 exact⟨e,g.al _ (Ce e)⟩
def um(PL PS:Addr):Sp:=fun vs H Q _=>∃(v:V)(pat:List Col)(r c:Nat),vs = [v,.int (c:Int)]/\iA H v pat/\Good r pat/\2<=r*c/\r*c<=40 /\
 ∀(q:Addr)(us:List V)(H':Hp),Same H H'->H q=none->H' q=some (.lst us)->dJ PL PS H' us (sE r c) ((gS pat c).map kOf)->Q (.ref q) H'
theorem dJ.app{PL PS:Addr}{H:Hp}{us vs:List V}{es fs:En}{ks js:Kn}(h:dJ PL PS H us es ks)(h':dJ PL PS H vs fs js)(kl:ks.length=es.length):dJ PL PS H (us++vs) (es++fs) (ks++js):=by
 have ul:=h.1
 refine⟨by rw[Cb,Cb,h.1,h'.1],fun i e k he hk=>?_⟩
 by_cases c:i<es.length
 ·rw[Cj c]at he
  rw[Cj (by omega)]at hk
  obtain⟨p,dx,a,b⟩:=h.2 i e k he hk
  exact⟨p,dx,by rw[Cj (by omega)];exact a,b⟩
 ·rw[Cf (by omega)]at he hk
  rw[kl]at hk
  obtain⟨p,dx,a,b⟩:=h'.2 _ e k he hk
  exact⟨p,dx,by rw[Cf (by omega),ul];exact a,b⟩
theorem dJ.put{PL PS:Addr}{H:Hp}{us zs:List V}{es:En}{ks:Kn}{q:Addr}{o:HO}(t:dJ PL PS H us es ks)(h:H q=some (.lst zs)):dJ PL PS (upd H q o) us es ks:=⟨t.1,fun i e k he hk=>by
 obtain⟨p,dx,a,b⟩:=t.2 i e k he hk
 exact⟨p,dx,a,by rw[ao (fun z=>by rw[z,h]at b;cases b)];exact b⟩⟩
theorem dJ.one{PL PS:Addr}{H:Hp}{x dx:Addr}{e:Nat×Nat}{g:Int}(h:H x=some (.ins (cls PL PS (decide (g<0))) dx (tf (e.1:Int) (e.2:Int) (if g<0 then -g else g)))):dJ PL PS H [.ref x] [e] [kOf g]:=⟨rfl,fun i e' k he hk=>by
 match i,he,hk with
 |0,he,hk =>
  cases he;cases hk
  refine⟨x,dx,rfl,?_⟩
  have:decide ((kOf g).1=1)=decide (g<0):=by
   unfold kOf
   by_cases c:g<0
   ·rw[if_pos c,decide_eq_true c];rfl
   ·rw[if_neg c,decide_eq_false c];rfl
  rw[this]
  exact h
 |i+1,he,_=>cases he⟩
section
variable{P:Program}{w:World}{K:B9}{mg:Str->Option Value}{base:Heap}
theorem bD:aE ["pattern","columns","rows","ties","column","strengths","first"] ["pattern","columns"] (ak b6):=⟨rfl,rfl,rfl,by decide +kernel,rfl,by decide +kernel,by decide +kernel⟩
theorem zW{f f1 f2 PL PS B TW:Addr}{fd d1 d2:FuncData} (F:Fun K "strip_ties" "strip_ties" b6 f fd) (T:TxtS mg B TW) (G_rows_of:Cal P w K mg base 1 "rows_of" ["pattern"] sv f1 d1) (G_tie_of:Cal P w K mg base 3 "tie_of" ["one","two","signed"] (ui PL PS) f2 d2):FnOk P w K mg base CX0 4 f fd ["pattern","columns"] (um PL PS):=by
 refine F.ok bD (fun vs H Q E h=>?_) (fun cdv A outer s H vs Q E hr h=>?_)
 ·obtain⟨v,pat,r,c,rfl,_⟩:=h
  rfl
 obtain⟨v,pat,r,c,rfl,hP,gd,rc2,rc40,kk⟩:=h
 obtain⟨a,ys,rfl,hA,hL⟩:=id hP
 have p0:=gd.p0
 obtain⟨c0,pt,rfl⟩:∃ c pt,pat=c::pt:=by
  match pat,p0 with
  |c::pt,_=>exact⟨c,pt,rfl⟩
 have r0:c0.2.length=r:=(gd.al c0 (CG ..)).1
 have r1:=gd.r1
 have r3:=gd.r3
 refine⟨_,(af (aI (i:=2) bD.nd rfl (Or.inr rfl) (aA G_rows_of.ok (hr.mono (by decide)) rfl G_rows_of.mg G_rows_of.kp G_rows_of.bn .nil a9 (aa (pv 0) ag)))
   (af (aI (i:=3) bD.nd rfl (Or.inl rfl) (bc ag))
   (af (cp PassesOwn.never rfl (aT rfl T.n_range (aa (pv 1) ag)) (aG (i:=4) bD.nd rfl (Or.inl rfl)) (af (aI (i:=5) bD.nd rfl (Or.inl rfl) (aV aN (pv 0) (aq aU (pv 4) (az aw (by rfl) T.n_len bQ (aa (pv 0) ag))) (fun _ _=>rfl)))
   (af (aI (i:=6) bD.nd rfl (Or.inr rfl) (aq cz (pv 4) (pv 2)))
   (af (aY (gB CD EJ EI sY (pv 3) (aa (l7 rfl (fr:=[("first",6)]) (xs:=["row","signed"]) (jO.of (by rfl) (by decide +kernel) (by rfl) (by decide +kernel) (by intro p hp;simp only[Co,C8,or_false]at hp;rcases hp with rfl<;>exact⟨rfl,rfl⟩) (by decide +kernel) (by intro p hp;simp only[Co,C8,or_false]at hp;rcases hp with rfl<;>rfl)) (mD rfl T.n_enumerate (aa (aV cO (pv 5) ah (fun _ _=>rfl)) ag)) (fun C ex s H=>(yo (n:=2) (K:=K) rfl rfl (bz (aG (i:=0) (show(["row","signed","first"]:List Str).Nodup from by decide +kernel) rfl (Or.inl rfl)) (bz (aG (i:=1) (show(["row","signed","first"]:List Str).Nodup from by decide +kernel) rfl (Or.inl rfl)) iT)))) (fun C ex s H=>jU) (fun C ex s H=>(aA G_tie_of.ok (hr.mono (by decide)) rfl G_tie_of.mg G_tie_of.kp G_tie_of.bn .nil a9 (aa (aq aL (pv 2) (pv 0)) (aa (aq aL (aq aL (pv 2) (pv 0)) ah) (aa (pv 1) ag)))))) ag)))
   (aj (aX (au jq (aq aL (pv 4) ah) (pv 1) (av _)) (aj (aY (gB CD EJ EI sY (pv 3) (aa (l7 rfl (fr:=[("rows",2),("first",6)]) (xs:=["row","signed"]) (jO.of (by rfl) (by decide +kernel) (by rfl) (by decide +kernel) (by intro p hp;simp only[Co,C8,or_false]at hp;rcases hp with rfl | rfl<;>exact⟨rfl,rfl⟩) (by decide +kernel) (by intro p hp;simp only[Co,C8,or_false]at hp;rcases hp with rfl | rfl<;>rfl)) (mD rfl T.n_enumerate (aa (aV cO (pv 5) ah (fun _ _=>rfl)) ag)) (fun C ex s H=>(yo (n:=2) (K:=K) rfl rfl (bz (aG (i:=0) (show(["row","signed","rows","first"]:List Str).Nodup from by decide +kernel) rfl (Or.inl rfl)) (bz (aG (i:=1) (show(["row","signed","rows","first"]:List Str).Nodup from by decide +kernel) rfl (Or.inl rfl)) iT)))) (fun C ex s H=>jU) (fun C ex s H=>(aA G_tie_of.ok (hr.mono (by decide)) rfl G_tie_of.mg G_tie_of.kp G_tie_of.bn .nil a9 (aa (aq aL (pv 3) (pv 0)) (aa (aq aL (aq aL (pv 3) (pv 2)) (pv 0)) (aa (pv 1) ag)))))) ag)))) ay))))))
   (aj (aJ (pv 3)))))),?_⟩
 refine⟨_,rfl,_,c0,pt,rfl,hP,(by show 0<=sizeLine;decide),fun q hq=>?_⟩
 rw[r0]
 have s1:=ai hq (.lst [])
 have c40:c<=40:=by have:=DQ c r1;omega
 refine⟨_,rfl,_,rfl,by omega,by omega,bP (n:=(c:Int).toNat) (fun k σ H2=>∃ v4 v5 v6 us,σ = [some (.ref a),some (.int (c:Int)),some (.int (r:Int)),some (.ref q),v4,v5,v6]/\Same H H2/\H2 q=some (.lst us)/\dJ PL PS H2 us ((Ct k).flatMap (colE r c)) (((Ct k).flatMap (colG (c0::pt) c)).map kOf)) ⟨_,_,_,[],rfl,s1,ae,⟨rfl,fun i e k z=>by simp at z⟩⟩ ?_ ?_⟩
 ·rintro k σ H2 hk ⟨v4,v5,v6,us,rfl,s2,hq2,tt⟩
  rw[CF]at hk
  have e0:(0:Int)+(k:Int)=(k:Int):=Dg _
  rw[e0]
  obtain⟨hc,cl2,cl1⟩:=gd.col k
  have hA2:=s2 _ _ hA
  have yl:ys.length=(c0::pt).length:=hL.1
  obtain⟨y,hy,t,a1,b1,rfl,ht,ha,hb⟩:=hL.2 _ _ hc
  have km:(k:Int)%(ys.length:Int)=((k%(c0::pt).length:Nat):Int):=by rw[yl];omega
  have hat:atI ys ((k:Int)%(ys.length:Int))=some (.ref t):=by rw[km];exact aP hy
  refine⟨_,rfl,_,rfl,_,rfl,a,ys,rfl,.inl (SqL.of hA2),_,_,rfl,rfl,(by omega),a,ys,_,_,rfl,rfl,SqL.of hA2,hat,?_⟩
  have kr:(k:Int)*(r:Int)=((k*r:Nat):Int):=(Dy k r).symm
  refine⟨_,rfl,_,rfl,_,_,rfl,rfl,.inl ⟨by omega,by omega⟩,?_⟩
  show y8 6 (V.int ((k:Int)*(r:Int))) _ _ _
  rw[kr]
  have krl:k*r<=40:=by have:=DQ r (CQ hk);rw[Nat.mul_comm c r]at this;omega
  have tkl:∀ n,n<=c->(((Ct n).flatMap (colG (c0::pt) c)).map kOf).length=((Ct n).flatMap (colE r c)).length:=fun n=>by
   induction n with
   |zero=>intro _;rfl
   |succ n ih =>
    intro hn
    have:=ih (by omega)
    obtain⟨_,d2,d1⟩:=gd.col n
    rw[a8,a8,CP,Cb,Cb,this]
    unfold colG colE
    rw[Cd,Cb,Cb,Cd,CU]
    split
    ·rw[Cd,CU];omega
    ·simp only[DJ];omega
  have ul:us.length<=240:=by
   have e5:∀ n,((Ct n).flatMap (colE r c)).length<=5*n:=fun n=>by
    induction n with
    |zero=>exact Cg _
    |succ n ih =>
     rw[a8,Cb]
     have:(colE r c n).length<=5:=by
      unfold colE
      rw[Cb,Cd,CU]
      split
      ·rw[Cd,CU];omega
      ·simp only[DJ];omega
     omega
   rw[tt.1]
   have:=e5 k
   omega
  have lo:∀{H5:Hp}{zs:List V}{i:Nat}{x dx:Addr}{z:Int}{ls:List Int}{d:Nat->Nat×Nat}{H':Hp},dJ PL PS H5 zs ((Ct i).map d) ((ls.take i).map kOf)->ls[i]?=some z->Same H5 H'->H' x=some (.ins (cls PL PS (decide (z<0))) dx (tf ((d i).1:Int) ((d i).2:Int) (if z<0 then -z else z)))->dJ PL PS H' (zs++[.ref x]) ((Ct (i+1)).map d) ((ls.take (i+1)).map kOf):=fun{H5 zs i x dx z ls d H'} h hz s' hx=>by
   have il:=(Ca.mp hz).1
   rw[DI,CP,CY,hz,CP]
   exact dJ.app (h.mono s') (dJ.one hx) (by rw[Cd,Cd,Dt,CU];omega)
  have l1:((bM (c0::pt) k).1.map V.int).length=r-1:=by rw[Cd];omega
  refine⟨_,rfl,.inl ⟨rfl,_,SqL.of hq2⟩,_,rfl,t,_,0,_,rfl,rfl,SqT.of (s2 _ _ ht),at0,a1,rfl,⟨_,SqL.of (s2 _ _ ha)⟩,pT (K:=K) (xs:=(bM (c0::pt) k).1.map V.int) (fun i zs H3=>Same H2 H3/\dJ PL PS H3 zs ((Ct i).map fun j=>(k*r+j,k*r+j+1)) (((bM (c0::pt) k).1.take i).map kOf)) (CQ (ar (by omega))) ⟨fun _ _ e=>e,rfl,fun i e k z=>by simp at z⟩ (fun i zs H3 _ z=>SqL.of (z.1 _ _ (s2 _ _ ha))) ?_ ?_ ?_⟩
  ·rintro i x zs H3 T2 hx ⟨s3,tz⟩ hT2
   rw[CH]at hx
   obtain⟨z,hz,rfl⟩:=Dh.mp hx
   have s4:=ai hT2 (.tup [.int (i:Int),.int z])
   refine⟨T2,_,rfl,SqT.of ae,rfl,_,_,rfl,_,_,rfl,rfl,rfl,yesT ?_⟩
   refine⟨_,rfl,_,rfl,_,_,rfl,rfl,_,rfl,_,rfl,_,_,rfl,rfl,_,_,rfl,rfl,_,rfl,_,_,z,rfl,by omega,by omega,by omega,fun x dx H' s5 h5=>⟨s3.trans (s4.trans s5),lo (dx:=dx) tz hz (s4.trans s5) ?_⟩⟩
   rw[show((k*r+i,k*r+i+1):Nat×Nat).1=k*r+i from rfl,show((k*r+i,k*r+i+1):Nat×Nat).2=k*r+i+1 from rfl,C3,C3,C3]
   exact h5
  ·rintro zs H3 ⟨s3,tz⟩ D hD
   rw[l1]at tz
   rw[show(bM (c0::pt) k).1.take (r-1)=(bM (c0::pt) k).1 from Dq (by omega)]at tz
   have zl:zs.length<=3:=by rw[tz.1,Cd,CU];omega
   have sD:=ai hD (.lst zs)
   have hq3:=(s3.trans sD) _ _ hq2
   refine⟨q,D,us,zs,rfl,rfl,hq3,ae,CQ (ar (by omega)),?_⟩
   have t4:=(((tt.mono (s3.trans sD)).app (tz.mono sD) (tkl k (by omega))).put (o:=.lst (us++zs)) hq3)
   have s4:=aQ (s2.trans (s3.trans sD)) hq (.lst (us++zs))
   have g4:(upd (upd H3 D (.lst zs)) q (.lst (us++zs))) q=some (.lst (us++zs)):=ae
   generalize upd (upd H3 D (.lst zs)) q (.lst (us++zs))=H4 at t4 s4 g4
   refine⟨_,rfl,_,_,rfl,rfl,_,rfl,_,_,rfl,rfl,_,rfl,ite2 (fun cc=>?_) (fun cc=>?_)⟩
   ·have c1:k+1<c:=by have:=of_decide_eq_true cc;omega
    have l2:((bM (c0::pt) k).2.map V.int).length=r:=by rw[Cd];exact cl2
    refine⟨_,rfl,.inl ⟨rfl,_,SqL.of g4⟩,_,rfl,t,_,1,_,rfl,rfl,SqT.of (s4 _ _ ht),at1,b1,rfl,⟨_,SqL.of (s4 _ _ hb)⟩,pT (K:=K) (xs:=(bM (c0::pt) k).2.map V.int) (fun i zs H3=>Same H4 H3/\dJ PL PS H3 zs ((Ct i).map fun j=>(k*r+j,k*r+r+j)) (((bM (c0::pt) k).2.take i).map kOf)) (CQ (ar (by omega))) ⟨fun _ _ e=>e,rfl,fun i e k z=>by simp at z⟩ (fun i zs H3 _ z=>SqL.of (z.1 _ _ (s4 _ _ hb))) ?_ ?_ ?_⟩
    ·rintro i x zs H3 T2 hx ⟨s3,tz⟩ hT2
     rw[CH]at hx
     obtain⟨z,hz,rfl⟩:=Dh.mp hx
     have s6:=ai hT2 (.tup [.int (i:Int),.int z])
     refine⟨T2,_,rfl,SqT.of ae,rfl,_,_,rfl,_,_,rfl,rfl,rfl,yesT ?_⟩
     refine⟨_,rfl,_,rfl,_,_,rfl,rfl,_,rfl,_,rfl,_,_,rfl,rfl,_,rfl,_,_,rfl,rfl,_,rfl,_,_,z,rfl,by omega,by omega,by omega,fun x dx H' s5 h5=>⟨s3.trans (s6.trans s5),lo (dx:=dx) tz hz (s6.trans s5) ?_⟩⟩
     rw[show((k*r+i,k*r+r+i):Nat×Nat).1=k*r+i from rfl,show((k*r+i,k*r+r+i):Nat×Nat).2=k*r+r+i from rfl,C3,C3,C3]
     exact h5
    ·rintro zs2 H5 ⟨s5,tz2⟩ D2 hD2
     rw[l2]at tz2
     rw[show(bM (c0::pt) k).2.take r=(bM (c0::pt) k).2 from Dq (by omega)]at tz2
     have zl2:zs2.length<=3:=by rw[tz2.1,Cd,CU];omega
     have sD2:=ai hD2 (.lst zs2)
     have hq5:=(s5.trans sD2) _ _ g4
     refine⟨q,D2,us++zs,zs2,rfl,rfl,hq5,ae,CQ (ar (by rw[Cb];omega)),?_⟩
     refine⟨_,_,_,_,rfl,aQ (s4.trans (s5.trans sD2)) hq _,ae,?_⟩
     rw[a8,a8]
     have e1:colE r c k=((Ct (r-1)).map fun i=>(k*r+i,k*r+i+1))++((Ct r).map fun i=>(k*r+i,k*r+r+i)):=by unfold colE;rw[if_pos c1]
     have e2:colG (c0::pt) c k=(bM (c0::pt) k).1++(bM (c0::pt) k).2:=by unfold colG;rw[if_pos c1]
     rw[e1,e2,← Dd,← Dd,CP,CP]
     exact((t4.mono (s5.trans sD2)).app (tz2.mono sD2) (by rw[Cb,Cb,tkl k (by omega),Cd,Cd,CU];omega)).put hq5
    ·rintro i zs H3 ⟨_,tz⟩
     rw[tz.1,Cd,CU]
     exact Cg _
   ·have c1:¬ k+1<c:=fun z=>cc (decide_eq_true (by omega))
    refine⟨_,_,_,_,rfl,s4,g4,?_⟩
    rw[a8,a8]
    have e1:colE r c k=(Ct (r-1)).map fun i=>(k*r+i,k*r+i+1):=by unfold colE;rw[if_neg c1,C2]
    have e2:colG (c0::pt) c k=(bM (c0::pt) k).1:=by unfold colG;rw[if_neg c1,C2]
    rw[e1,e2,CP]
    exact t4
  ·rintro i zs H3 ⟨_,tz⟩
   rw[tz.1,Cd,CU]
   exact Cg _
 rintro σ H2 ⟨v4,v5,v6,us,rfl,s2,hq2,tt⟩
 rw[CF]at tt
 exact⟨_,rfl,kk q us H2 s2 hq hq2 tt⟩
end
end K8
namespace K8
open PySem L2
local macro_rules | `(tactic| walk_at "cc") => `(tactic| first | exact ⟨by decide, by decide⟩ | (show (0 : Int) < _; decide) | (show (0 : Int) < _; omega) | (show (0 : Int) ≤ _; omega) | exact ⟨by decide, by decide, by decide⟩ | exact ⟨by omega, by omega, by decide⟩ | exact Or.inl ⟨by decide, by decide⟩ | exact Or.inl ⟨by omega, by omega⟩)
local macro_rules | `(tactic| walk_at "rd") => `(tactic| repeat (first | refine ⟨_, rfl, ?_⟩ | refine ⟨_, _, rfl, rfl, ?_⟩ | refine ⟨rfl, ?_⟩ | (refine ⟨?cc, ?_⟩; (case cc => walk_at "cc"))))
def xY:Sp:=fun vs H Q _=>∃(r c p:Nat),vs = [.int (r:Int),.int (c:Int),.int (p:Int)]/\1<=r/\r<=3/\∀(q:Addr)(H':Hp),Same H H'->H' q=some (.lst ((jr r c p).map iV))->Q (.ref q) H'
def BH(H:Hp)(r c p:Nat)(l:List Nat):TS:=fun D σ Hc=>∃ q,σ = [some (.int (r:Int)),some (.int (c:Int)),some (.int (p:Int)),some (.ref q)]/\Same H Hc/\H q=none/\Hc q=some (.lst (l.map iV))/\l.length<=4/\∀ H',Same H H'->H' q=some (.lst ((jr r c p).map iV))->D.rt (.ref q) H'
def n1L(r p:Nat):List Nat:=if 0<p%r then[p-1] else[]
def n2L(r c p:Nat):List Nat:=n1L r p++(if p/r+1<c then[p+r] else[])
def n3L(r c p:Nat):List Nat:=n2L r c p++(if p%r+1<r then[p+1] else[])
theorem u6(r c p:Nat):jr r c p=n3L r c p++(if r<=p then[p-r] else[]):=rfl
theorem n_len(r c p:Nat):(n1L r p).length<=1/\(n2L r c p).length<=2/\(n3L r c p).length<=3:=by
 have a:(n1L r p).length<=1:=by unfold n1L;split<;>simp
 have b:(n2L r c p).length<=2:=by unfold n2L;rw[Cb];split<;>simp<;>omega
 exact⟨a,b,by unfold n3L;rw[Cb];split<;>simp<;>omega⟩
section
variable{P:Program}{w:World}{K:B9}{mg:Str->Option Value}{base:Heap}
theorem iD:aE ["rows","columns","place","found"] ["rows","columns","place"] (ak bH):=⟨rfl,rfl,rfl,by decide +kernel,rfl,by decide +kernel,by decide +kernel⟩
theorem Bx{f:Addr}{fd:FuncData} (F:Fun K "near_places" "near_places" bH f fd):FnOk P w K mg base CX0 1 f fd ["rows","columns","place"] xY:=by
 refine F.ok iD (fun vs H Q E h=>?_) (fun cdv A outer s H vs Q E hr h=>?_)
 ·obtain⟨r,c,p,rfl,_⟩:=h
  rfl
 obtain⟨r,c,p,rfl,r1,r3,kk⟩:=h
 have rp:(0:Int)<(r:Int):=by omega
 have em:(p:Int)%(r:Int)=((p%r:Nat):Int):=(Int.natCast_emod p r).symm
 have ed:(p:Int)/(r:Int)=((p/r:Nat):Int):=(Int.natCast_ediv p r).symm
 obtain⟨l1,l2,l3⟩:=n_len r c p
 refine⟨_,(af (aI (i:=3) iD.nd rfl (Or.inl rfl) (bc ag))
   (af (aX (au sQ (aq aU (pv 2) (pv 0)) ah (av _)) (aj (aY (gB CD CL CK a7 (pv 3) (aa (aq dR (pv 2) ah) ag)))) ay)
   (eA (t2:=(BH H r c p (n1L r p))) (af (aX (au jq (aq aL (aq cE (pv 2) (pv 0)) ah) (pv 1) (av _)) (aj (aY (gB CD CL CK a7 (pv 3) (aa (aq aL (pv 2) (pv 0)) ag)))) ay)
   (eA (t2:=(BH H r c p (n2L r c p))) (af (aX (au jq (aq aL (aq aU (pv 2) (pv 0)) ah) (pv 0) (av _)) (aj (aY (gB CD CL CK a7 (pv 3) (aa (aq aL (pv 2) ah) ag)))) ay)
   (eA (t2:=(BH H r c p (n3L r c p))) (af (aX (au zT (pv 2) (pv 0) (av _)) (aj (aY (gB CD CL CK a7 (pv 3) (aa (aq dR (pv 2) (pv 0)) ag)))) ay)
   (aj (aJ (pv 3)))) (fun D0 S0 H0 h0=>?n4))) (fun D0 S0 H0 h0=>?n3))) (fun D0 S0 H0 h0=>?n2)))),?_⟩
 case n4 =>
  obtain⟨q,rfl,s2,hq,hq2,ll,kr⟩:=h0
  refine⟨_,rfl,_,rfl,_,_,rfl,rfl,_,rfl,ite2 (fun z=>?_) (fun z=>?_)⟩
  ·have z':r<=p:=by have:=of_decide_eq_true z;omega
   refine⟨_,rfl,.inl ⟨rfl,_,SqL.of hq2⟩,_,rfl,_,rfl,_,_,rfl,rfl,q,_,_,rfl,rfl,hq2,ar (by rw[Cd];omega),?_⟩
   refine⟨_,rfl,kr _ (aQ s2 hq _) ?_⟩
   rw[ae,u6,if_pos z',CP]
   show some (HO.lst (_++[V.int ((p:Int)-(r:Int))]))=_
   rw[show(p:Int)-(r:Int)=((p-r:Nat):Int) by omega]
   rfl
  ·have z':¬ r<=p:=fun y=>z (decide_eq_true (by omega))
   refine⟨_,rfl,kr _ s2 ?_⟩
   rw[u6,if_neg z',C2]
   exact hq2
 case n3 =>
  obtain⟨q,rfl,s2,hq,hq2,ll,kr⟩:=h0
  refine⟨_,rfl,_,rfl,_,_,rfl,rfl,rp,_,_,rfl,rfl,_,rfl,_,_,rfl,rfl,_,rfl,ite2 (fun z=>?_) (fun z=>?_)⟩
  ·have z':p%r+1<r:=by have:=of_decide_eq_true z;omega
   refine⟨_,rfl,.inl ⟨rfl,_,SqL.of hq2⟩,_,rfl,_,_,rfl,rfl,q,_,_,rfl,rfl,hq2,ar (by rw[Cd];omega),?_⟩
   refine⟨q,rfl,aQ s2 hq _,hq,?_,by omega,kr⟩
   rw[ae]
   unfold n3L
   rw[if_pos z',CP]
   rfl
  ·have z':¬ p%r+1<r:=fun y=>z (decide_eq_true (by omega))
   refine⟨q,rfl,s2,hq,?_,by omega,kr⟩
   unfold n3L
   rw[if_neg z',C2]
   exact hq2
 case n2 =>
  obtain⟨q,rfl,s2,hq,hq2,ll,kr⟩:=h0
  refine⟨_,rfl,_,rfl,_,_,rfl,rfl,⟨rp,by omega +splitDisjunctions⟩,_,_,rfl,rfl,_,rfl,_,_,rfl,rfl,_,rfl,ite2 (fun z=>?_) (fun z=>?_)⟩
  ·have z':p/r+1<c:=by have:=of_decide_eq_true z;omega
   refine⟨_,rfl,.inl ⟨rfl,_,SqL.of hq2⟩,_,rfl,_,rfl,_,_,rfl,rfl,q,_,_,rfl,rfl,hq2,ar (by rw[Cd];omega),?_⟩
   refine⟨q,rfl,aQ s2 hq _,hq,?_,by omega,kr⟩
   rw[ae]
   unfold n2L
   rw[if_pos z',CP]
   rfl
  ·have z':¬ p/r+1<c:=fun y=>z (decide_eq_true (by omega))
   refine⟨q,rfl,s2,hq,?_,by omega,kr⟩
   unfold n2L
   rw[if_neg z',C2]
   exact hq2
 refine⟨(by show 0<=sizeLine;decide),fun q hq=>?_⟩
 have s1:=ai hq (.lst [])
 refine⟨_,rfl,_,rfl,_,_,rfl,rfl,rp,_,_,rfl,rfl,_,rfl,ite2 (fun z=>?_) (fun z=>?_)⟩
 ·have z':0<p%r:=by have:=of_decide_eq_true z;omega
  have p1:1<=p:=by
   cases p with
   |zero=>rw[Nat.zero_mod]at z';omega
   |succ p=>omega
  refine⟨_,rfl,.inl ⟨rfl,_,SqL.of ae⟩,_,rfl,_,_,rfl,rfl,q,[],_,rfl,rfl,ae,ar (by decide),?_⟩
  refine⟨q,rfl,aQ s1 hq _,hq,?_,by omega,fun H' s' h'=>kk q H' s' h'⟩
  rw[ae]
  unfold n1L
  rw[if_pos z']
  show some (HO.lst [V.int ((p:Int)-1)])=_
  rw[show(p:Int)-1=((p-1:Nat):Int) by omega]
  rfl
 ·have z':¬ 0<p%r:=fun y=>z (decide_eq_true (by omega))
  refine⟨q,rfl,s1,hq,?_,by omega,fun H' s' h'=>kk q H' s' h'⟩
  rw[ae]
  unfold n1L
  rw[if_neg z']
  rfl
end
end K8
namespace K8
open PySem L2
local macro_rules | `(tactic| walk_at "cc") => `(tactic| first | exact ⟨by decide, by decide⟩ | (show (0 : Int) < _; decide) | (show (0 : Int) < _; omega) | (show (0 : Int) ≤ _; omega) | exact ⟨by decide, by decide, by decide⟩ | exact ⟨by omega, by omega, by decide⟩ | exact Or.inl ⟨by decide, by decide⟩ | exact Or.inl ⟨by omega, by omega⟩)
local macro_rules | `(tactic| walk_at "rd") => `(tactic| repeat (first | refine ⟨_, rfl, ?_⟩ | refine ⟨_, _, rfl, rfl, ?_⟩ | refine ⟨rfl, ?_⟩ | (refine ⟨?cc, ?_⟩; (case cc => walk_at "cc"))))
def key(s t:Nat):List Key:=[Sum.inl (s:Int),Sum.inl (t:Int)]
theorem kx{a b c d:Nat}(h:key a b=key c d):a=c/\b=d:=by
 unfold key at h
 injection h with h1 h2
 injection h2 with h2 _
 have e1:=Sum.inl.inj h1
 have e2:=Sum.inl.inj h2
 omega
theorem vZ{κ:Type} [DecidableEq κ] (kvs:List (κ×V)) (k:κ) (v:V):(putK kvs k v).length<=kvs.length+1:=by
 unfold putK
 split
 ·rw[Cd];omega
 ·rw[Cb];exact Cg _
def NmAt(kvs:List (List Key×V))(es:En)(n:Nat):Prop:=∀(t:Nat)(e:Nat×Nat),t<n->es[t]?=some e->valV kvs (key e.1 e.2)=some (iV t)/\valV kvs (key e.2 e.1)=some (iV t)
def qj(K:B9):Sp:=fun vs H Q _=>∃(q:Addr)(xs:List V)(r c:Nat),vs = [.ref q,.int (r:Int),.int (c:Int)]/\H q=some (.lst xs)/\cP K H xs (sE r c)/\1<=r/\r<=3/\2<=r*c/\r*c<=40 /\
 ∀(p:Addr)(zs:List V)(H':Hp),Same H H'->H p=none->H' p=some (.lst zs)->cA H' zs (sT r c)->Q (.ref p) H'
theorem NmAt.put{kvs:List (List Key×V)}{es:En}{i:Nat}{e:Nat×Nat}(h:NmAt kvs es i)(up:∀ e∈es,e.1<e.2)(nd:es.Nodup)(he:es[i]?=some e):NmAt (putK (putK kvs (key e.1 e.2) (iV i)) (key e.2 e.1) (iV i)) es (i+1):=fun t e' ht he'=>by
 have u1:=up e (Ce he)
 have u2:=up e' (Ce he')
 rw[fo,fo,fo,fo]
 by_cases c:t=i
 ·subst c
  rw[he]at he'
  cases he'
  exact⟨by rw[if_neg (fun z=>by have:=kx z;omega),if_pos rfl],by rw[if_pos rfl]⟩
 ·have ne:¬ (e'.1=e.1/\e'.2=e.2):=fun z=>c (by
   have:e'=e:=Prod.ext z.1 z.2
   subst this
   have a:=(Ca.mp he)
   have b:=(Ca.mp he')
   obtain⟨a1,a2⟩:=a
   obtain⟨b1,b2⟩:=b
   have pw:=EG.mp nd
   rcases Nat.lt_trichotomy t i with z | z | z
   ·exact absurd (b2.trans a2.symm) (pw t i b1 a1 z)
   ·exact z
   ·exact absurd (a2.trans b2.symm) (pw i t a1 b1 z))
  obtain⟨o1,o2⟩:=h t e' (by omega) he'
  exact⟨by rw[if_neg (fun z=>by have:=kx z;omega),if_neg (fun z=>ne (kx z))];exact o1,by rw[if_neg (fun z=>ne ⟨(kx z).2,(kx z).1⟩),if_neg (fun z=>by have:=kx z;omega)];exact o2⟩
theorem AF(r c:Nat):(sT r c).length=r*c:=by unfold sT;rw[Cd,CU]
theorem sT_at{r c p:Nat}(h:p<r*c):(sT r c)[p]?=some ((jr r c p).map (nof (sE r c) p)):=by
 unfold sT
 rw[CH,List.getElem?_range h]
 rfl
theorem OkS.val{r c p x:Nat}{rs:List (List Nat)}{kvs:List (List Key×V)}(ok:OkS (r*c) (sE r c) (sT r c) rs)(nm:NmAt kvs (sE r c) (sE r c).length)(hp:p<r*c)(hx:x∈jr r c p):valV kvs (key p x)=some (iV (nof (sE r c) p x)):=by
 have hm:nof (sE r c) p x∈(jr r c p).map (nof (sE r c) p):=Dc.mpr ⟨x,hx,rfl⟩
 obtain⟨e,he,_⟩:=(ok.gr.w.mem p _ (sT_at hp) _).mp hm
 have il:=(Ca.mp he).1
 have hb:isE p x ((sE r c)[nof (sE r c) p x]'il)=true:=List.findIdx_getElem (p:=isE p x) (xs:=sE r c) (w:=il)
 have ee:(sE r c)[nof (sE r c) p x]'il=e:=by
  obtain⟨a,b⟩:=Ca.mp he
  exact b
 rw[ee]at hb
 obtain⟨v1,v2⟩:=nm _ e il he
 rcases Ej.mp hb with z | z
 ·obtain⟨z1,z2⟩:=Du.mp z
  rw[CO z1,CO z2]at v1
  exact v1
 ·obtain⟨z1,z2⟩:=Du.mp z
  rw[CO z1,CO z2]at v2
  exact v2
section
variable{P:Program}{w:World}{K:B9}{mg:Str->Option Value}{base:Heap}
theorem bp:aE ["ties","rows","columns","number_of","number","tie","turns","place"] ["ties","rows","columns"] (ak bF):=⟨rfl,rfl,rfl,by decide +kernel,rfl,by decide +kernel,by decide +kernel⟩
theorem yu{f f1:Addr}{fd d1:FuncData} (F:Fun K "strip_turns" "strip_turns" bF f fd) (T:Txt mg) (G_near_places:Cal P w K mg base 1 "near_places" ["rows","columns","place"] xY f1 d1):FnOk P w K mg base CX0 2 f fd ["ties","rows","columns"] (qj K):=by
 refine F.ok bp (fun vs H Q E h=>?_) (fun cdv A outer s H vs Q E hr h=>?_)
 ·obtain⟨q,xs,r,c,rfl,_⟩:=h
  rfl
 obtain⟨q,xs,r,c,rfl,hq,tA,r1,r3,rc2,rc40,kk⟩:=h
 have hu:=BN hr
 have ok:=qf r1 r3 rc40 rc2
 refine⟨_,(af (aI (i:=3) bp.nd rfl (Or.inr rfl) zR)
   (af (cp PassesOwn.never rfl (mD rfl T.n_enumerate (aa (pv 0) ag)) (pO rfl (bz (aG (i:=4) bp.nd rfl (Or.inl rfl)) (bz (aG (i:=5) bp.nd rfl (Or.inl rfl)) iT))) (af (qB hu (pv 3) (cq (aa (bo (pv 5) rfl) (aa (bo (pv 5) rfl) ag))) (pv 4) rfl)
   (aj (qB hu (pv 3) (cq (aa (bo (pv 5) rfl) (aa (bo (pv 5) rfl) ag))) (pv 4) rfl))))
   (af (aI (i:=6) bp.nd rfl (Or.inl rfl) (bc ag))
   (af (cp PassesOwn.never rfl (aT rfl T.n_range (aa (aq cz (pv 1) (pv 2)) ag)) (aG (i:=7) bp.nd rfl (Or.inr rfl)) (aj (aY (gB CD CL CK a7 (pv 6) (aa (l7 rfl (fr:=[("place",7),("number_of",3)]) (xs:=["there"]) (jO.of (by rfl) (by decide +kernel) (by rfl) (by decide +kernel) (by intro p hp;simp only[Co,C8,or_false]at hp;rcases hp with rfl | rfl<;>exact⟨rfl,rfl⟩) (by decide +kernel) (by intro p hp;simp only[Co,C8,or_false]at hp;rcases hp with rfl | rfl<;>rfl)) (cR (aA G_near_places.ok (hr.mono (by decide)) rfl G_near_places.mg G_near_places.kp G_near_places.bn .nil a9 (aa (pv 1) (aa (pv 2) (aa (pv 7) ag))))) (fun C ex s H=>(aG (i:=0) (show(["there","place","number_of"]:List Str).Nodup from by decide +kernel) rfl (Or.inl rfl))) (fun C ex s H=>jU) (fun C ex s H=>(uQ hu (pv 2) (cq (aa (pv 1) (aa (pv 0) ag))) (fun _ _=>rfl)))) ag)))))
   (aj (aJ (pv 6))))))),?_⟩
 intro d hd
 have s1:=ai hd (.dT [])
 have xl:=tA.1
 refine⟨_,rfl,q,rfl,⟨_,SqL.of (s1 _ _ hq)⟩,rE (K:=K) (xs:=xs) (fun i σ H2=>∃ v4 v5 kvs,σ = [some (.ref q),some (.int (r:Int)),some (.int (c:Int)),some (.ref d),v4,v5,none,none]/\Same H H2/\H2 d=some (.dT kvs)/\NmAt kvs (sE r c) i/\kvs.length<=2*i) ⟨_,_,[],rfl,s1,ae,fun t e z=>absurd z (Ea _),Cg _⟩ (fun i σ H2 _ ⟨_,_,_,_,z,_⟩=>SqL.of (z _ _ hq)) ?_ ?_⟩
 ·rintro i x σ H2 T2 hx ⟨v4,v5,kvs,rfl,s2,hd2,nm,kl⟩ hT2
  have il:i<(sE r c).length:=by rw[← xl];exact(Ca.mp hx).1
  obtain⟨e,he⟩:∃ e,(sE r c)[i]?=some e:=⟨_,Cc il⟩
  obtain⟨p,C,dx,sg,a1,a2,ct⟩:=tA.2 i e he
  rw[hx]at a1
  cases a1
  have sT:=ai hT2 (.tup [.int (i:Int),.ref p])
  have hp2:=sT _ _ (s2 _ _ a2)
  have hd3:=sT _ _ hd2
  refine⟨T2,_,rfl,SqT.of ae,rfl,_,_,rfl,_,_,rfl,rfl,?_⟩
  refine⟨_,rfl,_,rfl,_,rfl,p,C,dx,_,_,rfl,hp2,ct.cl,ct.n1,iB _ _ _,_,rfl,p,C,dx,_,_,rfl,hp2,ct.cl,ct.n2,lg _ _ _,(by show 2<=sizeLine;decide),fun b hb=>?_⟩
  have sb:=ai hb (.tup [.int (e.1:Int),.int (e.2:Int)])
  have hb1:(upd (upd H2 T2 (.tup [.int (i:Int),.ref p])) b (.tup [.int (e.1:Int),.int (e.2:Int)])) b=some (.tup ((key e.1 e.2).map kV)):=ae
  have hd4:=sb _ _ hd3
  have k64:kvs.length<1000:=by have:=ok.few;omega
  refine⟨d,_,rfl,DPut.t hd4 hb1 (ar (by omega)),?_⟩
  have s5:Same H (upd (upd (upd H2 T2 (.tup [.int (i:Int),.ref p])) b (.tup [.int (e.1:Int),.int (e.2:Int)])) d (.dT (putK kvs (key e.1 e.2) (iV i)))):=aQ ((s2.trans sT).trans sb) hd _
  have hd5:(upd (upd (upd H2 T2 (.tup [.int (i:Int),.ref p])) b (.tup [.int (e.1:Int),.int (e.2:Int)])) d (.dT (putK kvs (key e.1 e.2) (iV i)))) d=some (.dT (putK kvs (key e.1 e.2) (iV i))):=ae
  refine⟨_,rfl,_,rfl,_,rfl,p,C,dx,_,_,rfl,s5 _ _ a2,ct.cl,ct.n2,lg _ _ _,_,rfl,p,C,dx,_,_,rfl,s5 _ _ a2,ct.cl,ct.n1,iB _ _ _,(by show 2<=sizeLine;decide),fun b2 hb2=>?_⟩
  have sb2:=ai hb2 (.tup [.int (e.2:Int),.int (e.1:Int)])
  have pl1:=vZ kvs (key e.1 e.2) (iV i)
  have pl2:=vZ (putK kvs (key e.1 e.2) (iV i)) (key e.2 e.1) (iV i)
  exact⟨d,_,rfl,DPut.t (k:=key e.2 e.1) (sb2 _ _ hd5) ae (ar (by omega)),_,_,_,rfl,aQ (s5.trans sb2) hd _,ae,nm.put ok.up ok.nd he,C6 pl2 (by omega)⟩
 rintro σ H2 ⟨v4,v5,kvs,rfl,s2,hd2,nm,kl⟩
 refine⟨(by show 0<=sizeLine;decide),fun pz hpz=>?_⟩
 have s3:=ai hpz (.lst [])
 have hz:H pz=none:=none_of s2 hpz
 have rc:(r:Int)*(c:Int)=((r*c:Nat):Int):=(Dy r c).symm
 rw[xl]at nm
 refine⟨_,rfl,_,rfl,_,_,rfl,rfl,.inl ⟨by omega,by omega⟩,_,rfl,by omega,by omega,bP (n:=((r:Int)*(c:Int)).toNat) (fun i σ H3=>∃ v7 zs,σ = [some (.ref q),some (.int (r:Int)),some (.int (c:Int)),some (.ref d),v4,v5,some (.ref pz),v7]/\Same H2 H3/\H3 pz=some (.lst zs)/\dM (fun p=>p=pz) H3 zs ((sT r c).take i)) ⟨_,[],rfl,s3,ae,rfl,fun i l z=>by simp at z⟩ ?_ ?_⟩
 ·rintro i σ H3 hi ⟨v7,zs,rfl,s3',hz3,rz⟩
  rw[rc,CF]at hi
  have e0:(0:Int)+(i:Int)=(i:Int):=Dg _
  rw[e0]
  have zl:zs.length=i:=by rw[rz.1,Dt,AF];omega
  refine⟨_,rfl,.inl ⟨rfl,_,SqL.of hz3⟩,_,rfl,_,rfl,_,rfl,r,c,i,rfl,r1,r3,fun b H4 s4 hb=>?_⟩
  have nl:((jr r c i).map iV).length<=4:=by
   rw[Cd,u6,Cb]
   have:=(n_len r c i).2.2
   split<;>simp<;>omega
  refine⟨b,rfl,⟨_,SqL.of hb⟩,xy (K:=K) (xs:=(jr r c i).map iV) (fun j ys H5=>Same H4 H5/\ys=(((jr r c i).take j).map (nof (sE r c) i)).map iV) (CQ (ar (by omega))) ⟨fun _ _ e=>e,rfl⟩ (fun j ys H5 _ z=>SqL.of (z.1 _ _ hb)) ?_ ?_ ?_⟩
  ·rintro j x ys H5 hx ⟨s5,rfl⟩
   rw[CH]at hx
   obtain⟨x',hx',rfl⟩:=Dh.mp hx
   have hv:=ok.val nm hi (Ce hx')
   refine⟨rfl,yesT ⟨_,rfl,_,rfl,_,rfl,(by show 2<=sizeLine;decide),fun t ht=>?_⟩⟩
   have st:=ai ht (.tup [.int (i:Int),.int (x':Int)])
   have hd5:=((s3'.trans s4).trans (s5.trans st)) _ _ hd2
   have g:=DGet.t (k:=key i x') (b:=t) hd5 ae
   rw[hv]at g
   refine⟨d,_,rfl,g,s5.trans st,?_⟩
   rw[CY,hx',CP,CP]
   rfl
  ·rintro ys H5 ⟨s5,rfl⟩ D hD
   rw[show((jr r c i).map iV).length=(jr r c i).length from Cd _,C7]
   have sD:=ai hD (.lst (((jr r c i).map (nof (sE r c) i)).map iV))
   have s6:=s4.trans (s5.trans sD)
   have hz6:=s6 _ _ hz3
   refine⟨pz,zs,_,rfl,rfl,hz6,ar (by omega),?_⟩
   refine⟨_,_,rfl,aQ (s3'.trans s6) hpz _,ae,?_⟩
   rw[CY,sT_at hi]
   have rr:=(rz.mono (fun b u _ z=>s6 _ _ z)).snoc (q:=D) (l:=(jr r c i).map (nof (sE r c) i)) (fun z=>by rw[z,(s4.trans s5) _ _ hz3]at hD;cases hD) ae
   exact rr.mono fun b u n z=>by rw[ao n];exact z
  ·rintro j ys H5 ⟨_,rfl⟩
   rw[Cd,Cd,Dt]
   omega
 rintro σ H3 ⟨v7,zs,rfl,s3',hz3,rz⟩
 rw[rc,CF,← AF r c,C7]at rz
 exact⟨_,rfl,kk pz zs H3 (s2.trans s3') hz hz3 rz.off⟩
end
end K8
namespace K8
open PySem L2
local macro_rules | `(tactic| walk_at "cc") => `(tactic| first | exact ⟨by decide, by decide⟩ | (show (0 : Int) < _; decide) | (show (0 : Int) < _; omega) | (show (0 : Int) ≤ _; omega) | exact ⟨by decide, by decide, by decide⟩ | exact ⟨by omega, by omega, by decide⟩ | exact Or.inl ⟨by decide, by decide⟩ | exact Or.inl ⟨by omega, by omega⟩)
local macro_rules | `(tactic| walk_at "rd") => `(tactic| repeat (first | refine ⟨_, rfl, ?_⟩ | refine ⟨_, _, rfl, rfl, ?_⟩ | refine ⟨rfl, ?_⟩ | (refine ⟨?cc, ?_⟩; (case cc => walk_at "cc"))))
theorem AR{r:Nat}{pat:List Col}(gd:Good r pat)(c:Nat):((gS pat c).map kOf).length=(sE r c).length:=by
 have tkl:∀ n,(((Ct n).flatMap (colG pat c)).map kOf).length=((Ct n).flatMap (colE r c)).length:=fun n=>by
  induction n with
  |zero=>rfl
  |succ n ih =>
   obtain⟨_,d2,d1⟩:=gd.col n
   rw[a8,a8,CP,Cb,Cb,ih]
   unfold colG colE
   rw[Cd,Cb,Cb,Cd,CU]
   split
   ·rw[Cd,CU];omega
   ·simp only[DJ];omega
 exact tkl c
def vX(B TW PL PS WC:Addr):Sp:=fun vs H Q E=>∃(v:V)(pat:List Col)(cols:Int),vs = [v,.int cols]/\iA H v pat/\(Bad pat->E (.ref B) none H)/\(∀ r,Good r pat->¬ (1<=cols/\cols<=10^18)->E (.ref B) none H)/\(∀ r:Nat,Good r pat->1<=cols->cols<=10^18->((r:Int)*cols > 40∨(r:Int)*cols=1)->E (.ref TW) none H) /\
 ∀ r c:Nat,Good r pat->cols=(c:Int)->2<=r*c->r*c<=40->∀(p:Addr)(rs:List (List Nat))(H':Hp),Same H H'->WebF (fun a=>H a≠none) PL PS WC H' p (r*c) (sE r c) (sT r c) rs ((gS pat c).map kOf)->Q (.ref p) H'
section
variable{P:Program}{w:World}{K:B9}{mg:Str->Option Value}{base:Heap}
theorem dP:aE ["pattern","columns","rows","many","ties"] ["pattern","columns"] (ak cB):=⟨rfl,rfl,rfl,by decide +kernel,rfl,by decide +kernel,by decide +kernel⟩
theorem Bs{f f1 f2 f3 f4 f5 fW B TW PL PS WC:Addr}{fd d1 d2 d3 d4 d5 dW:FuncData} (F:Fun K "strip_web" "strip_web" cB f fd) (T:TxtS mg B TW) (ecT:ExC K TW) (cw:CW K WC) (TL:CT K PL) (TS:CT K PS) (G_refuse_pattern:CalD P w K mg base 2 "refuse_pattern" ["pattern"] (xX B) f1 d1) (G_refuse_columns:CalD P w K mg base 1 "refuse_columns" ["columns"] (uo B) f2 d2) (G_rows_of:Cal P w K mg base 1 "rows_of" ["pattern"] sv f3 d3) (G_strip_ties:Cal P w K mg base 4 "strip_ties" ["pattern","columns"] (um PL PS) f4 d4) (G_strip_turns:Cal P w K mg base 2 "strip_turns" ["ties","rows","columns"] (qj K) f5 d5) (M_Web:Mak P w K mg base 5 "Web" ["self","many","ties","turns"] (qi K) WC fW dW):FnOk P w K mg base (CXd P w) 7 f fd ["pattern","columns"] (vX B TW PL PS WC):=by
 refine F.okD dP (fun vs H Q E h=>?_) (fun cdv A outer s H vs Q E hr h=>?_)
 ·obtain⟨v,pat,cols,rfl,_⟩:=h
  rfl
 obtain⟨v,pat,cols,rfl,hP,kb,kc,kt,kk⟩:=h
 refine⟨_,(af (aY (wd G_refuse_pattern.ok (hr.mono (by decide)) rfl G_refuse_pattern.mg G_refuse_pattern.kp G_refuse_pattern.bn .nil gw rfl (aa (pv 0) ag)))
   (af (aY (wd G_refuse_columns.ok (hr.mono (by decide)) rfl G_refuse_columns.mg G_refuse_columns.kp G_refuse_columns.bn .nil gw rfl (aa (pv 1) ag)))
   (af (aI (i:=2) dP.nd rfl (Or.inl rfl) (aA G_rows_of.ok (hr.mono (by decide)) rfl G_rows_of.mg G_rows_of.kp G_rows_of.bn .nil a9 (aa (pv 0) ag)))
   (af (aI (i:=3) dP.nd rfl (Or.inl rfl) (aq cz (pv 2) (pv 1)))
   (af (aX (PW.pt (iS (au sQ (pv 3) (qI rfl T.g_places) (av _)) (eW (au fu (pv 3) ah (av _))))) (aj (eX ecT T.g_TooWide rfl gw rfl rfl (aa pP ag))) ay)
   (af (aI (i:=4) dP.nd rfl (Or.inl rfl) (aA G_strip_ties.ok (hr.mono (by decide)) rfl G_strip_ties.mg G_strip_ties.kp G_strip_ties.bn .nil a9 (aa (pv 0) (aa (pv 1) ag))))
   (aj (aJ (uP M_Web.mkc M_Web.ok (hr.mono (by decide)) rfl M_Web.mg M_Web.bn .nil a9 (aa (pv 3) (aa (pv 4) (aa (aA G_strip_turns.ok (hr.mono (by decide)) rfl G_strip_turns.mg G_strip_turns.kp G_strip_turns.bn .nil a9 (aa (pv 4) (aa (pv 2) (aa (pv 1) ag)))) ag)))))))))))),?_⟩
 refine⟨_,rfl,v,pat,rfl,hP,fun r gd=>?_,kb⟩
 refine⟨_,rfl,cols,rfl,fun hc=>?_,kc r gd⟩
 have p0:=gd.p0
 obtain⟨c0,pt,rfl⟩:∃ c pt,pat=c::pt:=by
  match pat,p0 with
  |c::pt,_=>exact⟨c,pt,rfl⟩
 have r0:c0.2.length=r:=(gd.al c0 (CG ..)).1
 have r1:=gd.r1
 have r3:=gd.r3
 refine⟨_,rfl,v,c0,pt,rfl,hP,?_⟩
 rw[r0]
 refine⟨_,rfl,_,rfl,_,_,rfl,rfl,.inl ⟨by omega,by omega⟩,?_⟩
 have one:(1:Nat)<=sizeLine:=by decide
 refine⟨_,rfl,_,_,rfl,rfl,_,rfl,ite2 (fun z=>?_) (fun z=>?_)⟩
 ·have z':(r:Int)*cols > 40:=of_decide_eq_true z
  exact iteT ⟨one,kt r gd hc.1 hc.2 (.inl z')⟩
 have z1:¬ (r:Int)*cols > 40:=fun e=>z (decide_eq_true e)
 refine⟨_,rfl,rfl,_,rfl,ite2 (fun z=>?_) (fun z=>?_)⟩
 ·have z':(r:Int)*cols=1:=V.int.inj (of_decide_eq_true z)
  exact⟨one,kt r gd hc.1 hc.2 (.inr z')⟩
 have z2:¬ (r:Int)*cols=1:=fun e=>z (decide_eq_true (congrArg V.int e))
 obtain⟨c,rfl⟩:∃ c:Nat,cols=(c:Int):=⟨cols.toNat,by omega⟩
 have rc:(r:Int)*(c:Int)=((r*c:Nat):Int):=(Dy r c).symm
 rw[rc]at z1 z2
 have rc40:r*c<=40:=by omega
 have rc1:1<=r*c:=Nat.mul_le_mul r1 (show 1<=c by omega)
 have rc2:2<=r*c:=by omega
 have ok:=qf r1 r3 rc40 rc2
 have kl:=AR gd c
 refine⟨_,rfl,_,rfl,v,c0::pt,r,c,rfl,hP,gd,rc2,rc40,fun q us H1 s1 nq hq tt=>?_⟩
 refine⟨_,rfl,_,rfl,_,rfl,_,rfl,_,rfl,q,us,r,c,rfl,hq,tt.at kl TL TS,r1,r3,rc2,rc40,fun pz zs H2 s2 nz hz rz=>?_⟩
 intro x dx nx ndx nex
 have up:Same H2 (upd (upd H2 dx (.own x)) x (.ins WC dx [])):=fun b o z=>by rw[ao (aF z nx),ao (aF z ndx)];exact z
 have s2u:=s2.trans up
 refine⟨x,WC,dx,q,pz,r*c,us,zs,sE r c,sT r c,(by show[V.ref x,V.int ((r:Int)*(c:Int)),V.ref q,V.ref pz]=_;rw[rc]),ae,cw,s2u _ _ hq,(tt.at kl TL TS).mono s2u,up _ _ hz,rz.mono up,ok.gr,?_,ok.few,rc40,fun fs q1 rs H' h1 hg hn h2 h3 h4=>⟨rfl,?_⟩⟩
 ·obtain⟨rs,_,cnt⟩:=ok.gr.part
  obtain⟨d,hd⟩:∃ d,d<2*(sE r c).length:=by
   by_cases e:0<(sE r c).length
   ·exact⟨0,by omega⟩
   ·exfalso
    have l0:(sE r c) = []:=Eu (by omega)
    have:=ok.gr.conn (fun p=>p=0) (fun e he=>by rw[l0]at he;cases he) 0 1 (by omega) (by omega) rfl
    omega
  omega
 have s5:Same H1 H':=fun b o z=>h4 b o (s2u _ _ z) (aF (s2 _ _ z) nx)
 have nn:∀ a,H a≠none->(upd (upd H2 dx (.own x)) x (.ins WC dx [])) a≠none:=fun a z y=>z (by
  cases u:H a with
  |none=>rfl
  |some o=>rw[(s1.trans s2u) _ _ u]at y;cases y)
 exact kk r c gd rfl rc2 rc40 x rs H' (s1.trans s5) ⟨dx,fs,q1,us,h1,hg.mono (fun _ _ z=>z) nn,fun z=>nn _ z hn,h2,h3,tt.mono s5⟩
end
end K8
namespace K8
open PySem L2
local macro_rules | `(tactic| walk_at "cc") => `(tactic| first | exact ⟨by decide, by decide⟩ | (show (0 : Int) < _; decide) | (show (0 : Int) < _; omega) | (show (0 : Int) ≤ _; omega) | exact ⟨by decide, by decide, by decide⟩ | exact ⟨by omega, by omega, by decide⟩ | exact Or.inl ⟨by decide, by decide⟩ | exact Or.inl ⟨by omega, by omega⟩)
local macro_rules | `(tactic| walk_at "rd") => `(tactic| repeat (first | refine ⟨_, rfl, ?_⟩ | refine ⟨_, _, rfl, rfl, ?_⟩ | refine ⟨rfl, ?_⟩ | (refine ⟨?cc, ?_⟩; (case cc => walk_at "cc"))))
def sgC(c:Int):Int:=if c%2=1 then -(c/2%(10^(30:Int).toNat+1)) else c/2%(10^(30:Int).toNat+1)
def Bf:Sp:=fun vs H Q _=>∃ c:Int,vs = [.int c]/\Q (.int (sgC c)) H
def x4(K:B9):Sp:=fun vs H Q _=>∃(a:Addr)(ns:List Int)(fi r pd:Nat),vs = [.ref a,.int (fi:Int),.int (r:Int),.int (pd:Int)]/\SqL K H a (ns.map V.int)/\fi<=10/\1<=r/\r<=3/\1<=pd/\pd<=6 /\
 ∀(v:V)(pat:List Col)(H':Hp),Same H H'->iA H' v pat->Good r pat->pat.length=pd->Q v H'
def ColN(q:Addr)(H:Hp)(v:V)(c:Col):Prop:=∃ t a b,v=.ref t/\t≠q/\a≠q/\b≠q/\H t=some (.tup [.ref a,.ref b])/\H a=some (.lst (c.1.map V.int))/\H b=some (.lst (c.2.map V.int))
theorem ColN.off{q:Addr}{H:Hp}{v:V}{c:Col}(h:ColN q H v c):bC H v c:=by
 obtain⟨t,a,b,e,_,_,_,h1,h2,h3⟩:=h
 exact⟨t,a,b,e,h1,h2,h3⟩
theorem ColN.step{q:Addr}{H H':Hp}{v:V}{c:Col}{o:HO}(h:ColN q H v c)(s:Same H H'):ColN q (upd H' q o) v c:=by
 obtain⟨t,a,b,e,n1,n2,n3,h1,h2,h3⟩:=h
 exact⟨t,a,b,e,n1,n2,n3,by rw[ao n1];exact s _ _ h1,by rw[ao n2];exact s _ _ h2,by rw[ao n3];exact s _ _ h3⟩
section
variable{P:Program}{w:World}{K:B9}{mg:Str->Option Value}{base:Heap}
theorem qx:aE ["cell"] ["cell"] (ak b8):=⟨rfl,rfl,rfl,by decide +kernel,rfl,by decide +kernel,by decide +kernel⟩
theorem ok_sgn{f:Addr}{fd:FuncData} (F:Fun K "_law_signed" "_law_signed" b8 f fd):FnOk P w K mg base CX0 1 f fd ["cell"] Bf:=by
 refine F.ok qx (fun vs H Q E h=>?_) (fun cdv A outer s H vs Q E hr h=>?_)
 ·obtain⟨c,rfl,_⟩:=h
  rfl
 obtain⟨c,rfl,kk⟩:=h
 have p30:(0:Int)<10^(30:Int).toNat+1:=by decide
 refine⟨_,(af (aX (au fu (aq aU (pv 0) ah) ah (av _)) (aj (aJ (Bq xO (aq aU (aq cE (pv 0) ah) (aq aL (aq lu ah ah) ah))))) ay)
   (aj (aJ (aq aU (aq cE (pv 0) ah) (aq aL (aq lu ah ah) ah))))),?_⟩
 refine⟨_,rfl,_,_,rfl,rfl,(by decide:(0:Int)<2),rfl,_,rfl,ite2 (fun z=>?_) (fun z=>?_)⟩
 ·have z':c%2=1:=V.int.inj (of_decide_eq_true z)
  rw[show sgC c = -(c/2%(10^(30:Int).toNat+1)) from if_pos z']at kk
  exact⟨_,rfl,_,_,rfl,rfl,⟨by decide,by decide⟩,_,_,rfl,rfl,⟨by decide,by decide,by decide⟩,_,_,rfl,rfl,_,_,rfl,rfl,p30,_,rfl,kk⟩
 ·have z':¬ c%2=1:=fun e=>z (decide_eq_true (congrArg V.int e))
  rw[show sgC c=c/2%(10^(30:Int).toNat+1) from if_neg z']at kk
  exact⟨_,rfl,_,_,rfl,rfl,⟨by decide,by decide⟩,_,_,rfl,rfl,⟨by decide,by decide,by decide⟩,_,_,rfl,rfl,_,_,rfl,rfl,p30,kk⟩
theorem bq:aE ["script","first","rows","period","pattern","c","at","across","along"] ["script","first","rows","period"] (ak bK):=⟨rfl,rfl,rfl,by decide +kernel,rfl,by decide +kernel,by decide +kernel⟩
theorem By{f f1 f2:Addr}{fd d1 d2:FuncData} (F:Fun K "_law_pattern" "_law_pattern" bK f fd) (T:Txt mg) (G_law_signed:Cal P w K mg base 1 "_law_signed" ["cell"] Bf f1 d1) (G_law_cell:Cal P w K mg base 1 "_law_cell" ["script","k"] (vY K) f2 d2):FnOk P w K mg base CX0 2 f fd ["script","first","rows","period"] (x4 K):=by
 refine F.ok bq (fun vs H Q E h=>?_) (fun cdv A outer s H vs Q E hr h=>?_)
 ·obtain⟨a,ns,fi,r,pd,rfl,_⟩:=h
  rfl
 obtain⟨a,ns,fi,r,pd,rfl,hS,f10,r1,r3,p1,p6,kk⟩:=h
 refine⟨_,(af (aI (i:=4) bq.nd rfl (Or.inl rfl) (bc ag))
   (af (cp PassesOwn.never rfl (aT rfl T.n_range (aa (pv 3) ag)) (aG (i:=5) bq.nd rfl (Or.inl rfl)) (af (aI (i:=6) bq.nd rfl (Or.inr rfl) (aq aL (pv 1) (aq cz (pv 5) (aq dR (aq cz ah (pv 2)) ah))))
   (af (my (i:=7) rfl bq.nd rfl rfl (fr:=[("script",0),("at",6)]) (xs:=["r"]) (jO.of (by rfl) (by decide +kernel) (by rfl) (by decide +kernel) (by intro p hp;simp only[Co,C8,or_false]at hp;rcases hp with rfl | rfl<;>exact⟨rfl,rfl⟩) (by decide +kernel) (by intro p hp;simp only[Co,C8,or_false]at hp;rcases hp with rfl | rfl<;>rfl)) (aT rfl T.n_range (aa (aq dR (pv 2) ah) ag)) (fun C ex s H=>(aG (i:=0) (show(["r","script","at"]:List Str).Nodup from by decide +kernel) rfl (Or.inl rfl))) (fun C ex s H=>jU) (fun C ex s H=>(aA G_law_signed.ok (hr.mono (by decide)) rfl G_law_signed.mg G_law_signed.kp G_law_signed.bn .nil a9 (aa (aA G_law_cell.ok (hr.mono (by decide)) rfl G_law_cell.mg G_law_cell.kp G_law_cell.bn .nil a9 (aa (pv 1) (aa (aq aL (pv 2) (pv 0)) ag))) ag))))
   (af (my (i:=8) rfl bq.nd rfl rfl (fr:=[("script",0),("rows",2),("at",6)]) (xs:=["r"]) (jO.of (by rfl) (by decide +kernel) (by rfl) (by decide +kernel) (by intro p hp;simp only[Co,C8,or_false]at hp;rcases hp with rfl | rfl | rfl<;>exact⟨rfl,rfl⟩) (by decide +kernel) (by intro p hp;simp only[Co,C8,or_false]at hp;rcases hp with rfl | rfl | rfl<;>rfl)) (aT rfl T.n_range (aa (pv 2) ag)) (fun C ex s H=>(aG (i:=0) (show(["r","script","rows","at"]:List Str).Nodup from by decide +kernel) rfl (Or.inl rfl))) (fun C ex s H=>jU) (fun C ex s H=>(aA G_law_signed.ok (hr.mono (by decide)) rfl G_law_signed.mg G_law_signed.kp G_law_signed.bn .nil a9 (aa (aA G_law_cell.ok (hr.mono (by decide)) rfl G_law_cell.mg G_law_cell.kp G_law_cell.bn .nil a9 (aa (pv 1) (aa (aq aL (aq dR (aq aL (pv 3) (pv 2)) ah) (pv 0)) ag))) ag))))
   (aj (aY (gB CD CL CK a7 (pv 4) (aa (cq (aa (pv 7) (aa (pv 8) ag))) ag))))))))
   (aj (aJ (pv 4))))),?_⟩
 refine⟨(by show 0<=sizeLine;decide),fun q hq=>?_⟩
 have s1:=ai hq (.lst [])
 refine⟨_,rfl,_,rfl,by omega,by omega,bP (n:=(pd:Int).toNat) (fun i σ H2=>∃ v5 v6 v7 v8 ys pat,σ = [some (.ref a),some (.int (fi:Int)),some (.int (r:Int)),some (.int (pd:Int)),some (.ref q),v5,v6,v7,v8]/\Same H H2/\H2 q=some (.lst ys)/\LsAt (ColN q) H2 ys pat/\pat.length=i/\(∀ c∈pat,c.2.length=r/\c.1.length+1=r)) ⟨_,_,_,_,[],[],rfl,s1,ae,LsAt.nil,rfl,fun c hc=>nomatch hc⟩ ?_ ?_⟩
 ·rintro i σ H2 hi ⟨v5,v6,v7,v8,ys,pat,rfl,s2,hq2,la,pl,al⟩
  rw[CF]at hi
  have e0:(0:Int)+(i:Int)=(i:Int):=Dg _
  rw[e0]
  obtain⟨at_,hat⟩:∃ at_:Nat,(fi:Int)+(i:Int)*(2*(r:Int)-1)=(at_:Int):=⟨fi+i*(2*r-1),by
   rw[C3,Dy,show((2*r-1:Nat):Int)=2*(r:Int)-1 by omega]⟩
  refine⟨_,rfl,_,rfl,_,rfl,_,_,rfl,rfl,.inl ⟨by decide,by decide⟩,_,_,rfl,rfl,_,_,rfl,rfl,.inl ⟨by omega,by omega⟩,_,_,rfl,rfl,?_⟩
  show y8 6 (V.int ((fi:Int)+(i:Int)*(2*(r:Int)-1))) _ _ _
  rw[hat]
  have tk1:∀(f:Nat->Int)(j:Nat),((Ct (j+1)).map f).map V.int=((Ct j).map f).map V.int++[V.int (f j)]:=fun f j=>by
   rw[DI,CP,CP];rfl
  refine⟨_,rfl,_,_,rfl,rfl,_,rfl,by omega,by omega,jc (fun j ys H3=>H3=H2/\ys=((Ct j).map fun x=>sgC (gp ns (at_+x))).map V.int) (CQ (ar (by omega))) ⟨rfl,rfl⟩ ?_ ?_ ?_⟩
  ·rintro j ys' H3 hj ⟨rfl,rfl⟩
   rw[Dg]
   refine⟨rfl,yesT ⟨_,rfl,_,rfl,_,rfl,_,_,rfl,rfl,a,at_+j,ns,(by rw[C3];rfl),s2.seq hS,_,rfl,rfl,?_⟩⟩
   rw[tk1]
  rotate_left
  ·rintro j ys' H3 ⟨_,rfl⟩
   rw[Cd,Cd,CU]
   exact Cg _
  rintro ys1 H3 ⟨rfl,rfl⟩ D1 hD1
  have e1:((r:Int)-1).toNat=r-1:=by omega
  have sD1:=ai hD1 (.lst (((Ct ((r:Int)-1).toNat).map fun x=>sgC (gp ns (at_+x))).map V.int))
  have g1:(upd H3 D1 (.lst (((Ct ((r:Int)-1).toNat).map fun x=>sgC (gp ns (at_+x))).map V.int))) D1=some (.lst (((Ct ((r:Int)-1).toNat).map fun x=>sgC (gp ns (at_+x))).map V.int)):=ae
  generalize hl1:((Ct ((r:Int)-1).toNat).map fun x=>sgC (gp ns (at_+x)))=L1 at sD1 g1 ⊢
  have ll1:L1.length+1=r:=by rw[← hl1,Cd,CU,e1];omega
  refine⟨_,rfl,_,rfl,by omega,by omega,jc (fun j ys H4=>H4=upd H3 D1 (.lst (L1.map V.int))/\ys=((Ct j).map fun x=>sgC (gp ns (at_+r-1+x))).map V.int) (CQ (ar (by omega))) ⟨rfl,rfl⟩ ?_ ?_ ?_⟩
  ·rintro j ys' H4 hj ⟨rfl,rfl⟩
   rw[Dg]
   refine⟨rfl,yesT ⟨_,rfl,_,rfl,_,rfl,_,_,rfl,rfl,_,_,rfl,rfl,_,rfl,_,_,rfl,rfl,a,at_+r-1+j,ns,(by show[V.ref a,V.int ((at_:Int)+(r:Int)-1+(j:Int))]=_;rw[show(at_:Int)+(r:Int)-1+(j:Int)=((at_+r-1+j:Nat):Int) by omega]),(s2.trans sD1).seq hS,_,rfl,rfl,?_⟩⟩
   rw[tk1]
  rotate_left
  ·rintro j ys' H4 ⟨_,rfl⟩
   rw[Cd,Cd,CU]
   exact Cg _
  rintro ys2 H4 ⟨rfl,rfl⟩ D2 hD2
  rw[CF]
  generalize hl2:((Ct r).map fun x=>sgC (gp ns (at_+r-1+x)))=L2'
  have ll2:L2'.length=r:=by rw[← hl2,Cd,CU]
  have sD2:=ai hD2 (.lst (L2'.map V.int))
  refine⟨_,rfl,.inl ⟨rfl,_,SqL.of ((sD1.trans sD2) _ _ hq2)⟩,_,rfl,_,rfl,(by show 2<=sizeLine;decide),fun t ht=>?_⟩
  have st:=ai ht (.tup [.ref D1,.ref D2])
  have s4:=(sD1.trans sD2).trans st
  have hq4:=s4 _ _ hq2
  have yl:=la.1
  refine⟨q,ys,_,rfl,rfl,hq4,ar (by omega),?_⟩
  have nq:∀{b:Addr},H3 b=none->b≠q:=fun n z=>by rw[z,hq2]at n;cases n
  have colA:ColN q (upd (upd (upd (upd H3 D1 (.lst (L1.map V.int))) D2 (.lst (L2'.map V.int))) t (.tup [.ref D1,.ref D2])) q (.lst (ys++[.ref t]))) (.ref t) (L1,L2'):=by
   have q1:=nq (none_of (sD1.trans sD2) ht)
   have q2:=nq hD1
   have q3:=nq (none_of sD1 hD2)
   exact⟨t,D1,D2,rfl,q1,q2,q3,by rw[ao q1];exact ae,by rw[ao q2];exact(sD2.trans st) _ _ g1,by rw[ao q3];exact st _ _ ae⟩
  refine⟨_,_,_,_,_,pat++[(L1,L2')],rfl,aQ (s2.trans s4) hq _,ae,?_,by rw[Cb,pl];rfl,fun c hc=>?_⟩
  ·exact LsAt.snoc (la.imp fun v c h=>h.step s4) colA
  ·rcases CA.mp hc with z | z
   ·exact al c z
   ·rw[List.mem_singleton.mp z];exact⟨ll2,ll1⟩
 rintro σ H2 ⟨v5,v6,v7,v8,ys,pat,rfl,s2,hq2,la,pl,al⟩
 rw[CF]at pl
 exact⟨_,rfl,kk _ pat H2 s2 ⟨q,ys,rfl,hq2,la.imp fun _ _ h=>h.off⟩ ⟨by omega,by omega,r1,r3,al⟩ pl⟩
end
end K8
namespace K8
open PySem L2
local macro_rules | `(tactic| walk_at "cc") => `(tactic| first | exact ⟨by decide, by decide⟩ | (show (0 : Int) < _; decide) | (show (0 : Int) < _; omega) | (show (0 : Int) ≤ _; omega) | exact ⟨by decide, by decide, by decide⟩ | exact ⟨by omega, by omega, by decide⟩ | exact Or.inl ⟨by decide, by decide⟩ | exact Or.inl ⟨by omega, by omega⟩)
local macro_rules | `(tactic| walk_at "rd") => `(tactic| repeat (first | refine ⟨_, rfl, ?_⟩ | refine ⟨_, _, rfl, rfl, ?_⟩ | refine ⟨rfl, ?_⟩ | (refine ⟨?cc, ?_⟩; (case cc => walk_at "cc"))))
def T3At(H:Hp)(xs:List V)(es:En)(gs:List Int):Prop:=xs.length=es.length/\gs.length=es.length/\∀(i:Nat)(e:Nat×Nat)(g:Int),es[i]?=some e->gs[i]?=some g->∃ t,xs[i]?=some (.ref t)/\H t=some (.tup [.int (e.1:Int),.int (e.2:Int),.int g])
theorem T3At.mono{H H':Hp}{xs:List V}{es:En}{gs:List Int}(h:T3At H xs es gs)(s:Same H H'):T3At H' xs es gs:=⟨h.1,h.2.1,fun i e g a b=>by
 obtain⟨t,c,d⟩:=h.2.2 i e g a b
 exact⟨t,c,s _ _ d⟩⟩
theorem T3At.snoc{H:Hp}{xs zs:List V}{es:En}{gs:List Int}{t q:Addr}{e:Nat×Nat}{g:Int}{o:HO}(h:T3At H xs es gs)(ht:H t=some (.tup [.int (e.1:Int),.int (e.2:Int),.int g]))(hq:H q=some (.lst zs)):T3At (upd H q o) (xs++[.ref t]) (es++[e]) (gs++[g]):=by
 obtain⟨a,b,c⟩:=h
 have nq:∀{t:Addr}{vs:List V},H t=some (.tup vs)->t≠q:=fun z y=>by rw[y,hq]at z;cases z
 refine⟨by rw[Cb,Cb,a];rfl,by rw[Cb,Cb,b];rfl,fun i e' g' he hg=>?_⟩
 by_cases z:i<es.length
 ·rw[Cj z]at he
  rw[Cj (by omega)]at hg
  obtain⟨t',u,v⟩:=c i e' g' he hg
  exact⟨t',by rw[Cj (by omega)];exact u,by rw[ao (nq v)];exact v⟩
 ·have il:=(Ca.mp he).1
  rw[Cb]at il
  have e0:i=es.length:=by have:i<es.length+1:=il;omega
  subst e0
  rw[Cf (Cg _),CZ]at he
  rw[← b,Cf (Cg _),CZ]at hg
  cases he
  cases hg
  exact⟨t,by rw[← a,Cf (Cg _),CZ];rfl,by rw[ao (nq ht)];exact ht⟩
def uv(K:B9):Sp:=fun vs H Q _=>∃(v:V)(pat:List Col)(r c:Nat),vs = [v,.int (r:Int),.int (c:Int)]/\iA H v pat/\Good r pat/\2<=r*c/\r*c<=40 /\
 ∀(q:Addr)(us:List V)(H':Hp),Same H H'->H' q=some (.lst us)->T3At H' us (sE r c) (gS pat c)->Q (.ref q) H'
section
variable{P:Program}{w:World}{K:B9}{mg:Str->Option Value}{base:Heap}
theorem aS:aE ["pattern","rows","columns","ties","c","part","r"] ["pattern","rows","columns"] (ak a6):=⟨rfl,rfl,rfl,by decide +kernel,rfl,by decide +kernel,by decide +kernel⟩
theorem Ab{f:Addr}{fd:FuncData} (F:Fun K "_law_strip_ties" "_law_strip_ties" a6 f fd) (T:Txt mg):FnOk P w K mg base CX0 1 f fd ["pattern","rows","columns"] (uv K):=by
 refine F.ok aS (fun vs H Q E h=>?_) (fun cdv A outer s H vs Q E hr h=>?_)
 ·obtain⟨v,pat,r,c,rfl,_⟩:=h
  rfl
 obtain⟨v,pat,r,c,rfl,hP,gd,rc2,rc40,kk⟩:=h
 obtain⟨a,ys,rfl,hA,hL⟩:=id hP
 have r1:=gd.r1
 have r3:=gd.r3
 have c40:c<=40:=by have:=DQ c r1;omega
 have yl:ys.length=pat.length:=hL.1
 have p0:=gd.p0
 refine⟨_,(af (aI (i:=3) aS.nd rfl (Or.inl rfl) (bc ag))
   (af (cp PassesOwn.never rfl (aT rfl T.n_range (aa (pv 2) ag)) (aG (i:=4) aS.nd rfl (Or.inl rfl)) (af (aI (i:=5) aS.nd rfl (Or.inl rfl) (aV aN (pv 0) (aq aU (pv 4) (az aw (by rfl) T.n_len bQ (aa (pv 0) ag))) (fun _ _=>rfl)))
   (af (cp PassesOwn.never rfl (aT rfl T.n_range (aa (aq dR (pv 1) ah) ag)) (aG (i:=6) aS.nd rfl (Or.inl rfl)) (aj (aY (gB CD CL CK a7 (pv 3) (aa (cq (aa (aq aL (aq cz (pv 4) (pv 1)) (pv 6)) (aa (aq aL (aq aL (aq cz (pv 4) (pv 1)) (pv 6)) ah) (aa (aV aN (aV cO (pv 5) ah (fun _ _=>rfl)) (pv 6) (fun _ _=>rfl)) ag)))) ag)))))
   (aj (aX (au jq (pv 4) (aq dR (pv 2) ah) (av _)) (aj (cp PassesOwn.never rfl (aT rfl T.n_range (aa (pv 1) ag)) (aG (i:=6) aS.nd rfl (Or.inl rfl)) (aj (aY (gB CD CL CK a7 (pv 3) (aa (cq (aa (aq aL (aq cz (pv 4) (pv 1)) (pv 6)) (aa (aq aL (aq aL (aq cz (pv 4) (pv 1)) (pv 6)) (pv 1)) (aa (aV aN (aV cO (pv 5) ah (fun _ _=>rfl)) (pv 6) (fun _ _=>rfl)) ag)))) ag)))))) ay)))))
   (aj (aJ (pv 3))))),?_⟩
 refine⟨(by show 0<=sizeLine;decide),fun q hq=>?_⟩
 have s1:=ai hq (.lst [])
 refine⟨_,rfl,_,rfl,by omega,by omega,bP (n:=(c:Int).toNat) (fun k σ H2=>∃ v4 v5 v6 us,σ = [some (.ref a),some (.int (r:Int)),some (.int (c:Int)),some (.ref q),v4,v5,v6]/\Same H H2/\H2 q=some (.lst us)/\T3At H2 us ((Ct k).flatMap (colE r c)) ((Ct k).flatMap (colG pat c))/\us.length<=6*k) ⟨_,_,_,[],rfl,s1,ae,⟨rfl,rfl,fun i e g z=>by simp at z⟩,Cg _⟩ ?_ ?_⟩
 ·rintro k σ H2 hk ⟨v4,v5,v6,us,rfl,s2,hq2,tt,ul⟩
  rw[CF]at hk
  have e0:(0:Int)+(k:Int)=(k:Int):=Dg _
  rw[e0]
  obtain⟨hc,cl2,cl1⟩:=gd.col k
  obtain⟨y,hy,t,a1,b1,rfl,ht,ha,hb⟩:=hL.2 _ _ hc
  have hA2:=s2 _ _ hA
  have km:(k:Int)%(ys.length:Int)=((k%pat.length:Nat):Int):=by rw[yl];omega
  have hat:atI ys ((k:Int)%(ys.length:Int))=some (.ref t):=by rw[km];exact aP hy
  refine⟨_,rfl,_,rfl,_,rfl,a,ys,rfl,.inl (SqL.of hA2),_,_,rfl,rfl,(by omega),a,ys,_,_,rfl,rfl,SqL.of hA2,hat,?_⟩
  have kr:(k:Int)*(r:Int)=((k*r:Nat):Int):=(Dy k r).symm
  have mc:CMul (k:Int) (r:Int):=.inl ⟨by omega,by omega⟩
  refine⟨_,rfl,_,_,rfl,rfl,_,rfl,by omega,by omega,bP (n:=((r:Int)-1).toNat) (fun j σ H3=>∃ v6 us,σ = [some (.ref a),some (.int (r:Int)),some (.int (c:Int)),some (.ref q),some (.int (k:Int)),some (.ref t),v6]/\Same H H3/\H3 q=some (.lst us)/\T3At H3 us ((Ct k).flatMap (colE r c)++(Ct j).map fun i=>(k*r+i,k*r+i+1)) ((Ct k).flatMap (colG pat c)++(bM pat k).1.take j)/\us.length<=6*k+j) ⟨_,us,rfl,s2,hq2,(by simpa using tt),ul⟩ ?_ ?_⟩
  ·rintro j σ H3 hj ⟨v6,us,rfl,s3,hq3,t3,ul3⟩
   have e1:(0:Int)+(j:Int)=(j:Int):=Dg _
   rw[e1]
   obtain⟨g,hg⟩:∃ g,(bM pat k).1[j]?=some g:=⟨_,Cc (by omega)⟩
   have hgV:((bM pat k).1.map V.int)[j]?=some (.int g):=by rw[CH,hg];rfl
   refine⟨_,rfl,.inl ⟨rfl,_,SqL.of hq3⟩,_,rfl,_,rfl,_,_,rfl,rfl,mc,_,rfl,_,_,rfl,rfl,_,rfl,_,rfl,_,_,rfl,rfl,mc,_,rfl,_,_,rfl,rfl,_,_,rfl,rfl,_,rfl,t,_,0,_,rfl,rfl,SqT.of (s3 _ _ ht),at0,_,rfl,a1,_,_,_,rfl,rfl,SqL.of (s3 _ _ ha),aP hgV,(by show 3<=sizeLine;decide),fun t2 ht2=>?_⟩
   have st:=ai ht2 (.tup [.int ((k:Int)*(r:Int)+(j:Int)),.int ((k:Int)*(r:Int)+(j:Int)+1),.int g])
   have gt:(upd H3 t2 (.tup [.int ((k:Int)*(r:Int)+(j:Int)),.int ((k:Int)*(r:Int)+(j:Int)+1),.int g])) t2=some (.tup [.int (((k*r+j,k*r+j+1):Nat×Nat).1:Int),.int (((k*r+j,k*r+j+1):Nat×Nat).2:Int),.int g]):=by
    rw[ae,kr]
    show some (HO.tup [V.int (((k*r:Nat):Int)+(j:Int)),V.int (((k*r:Nat):Int)+(j:Int)+1),V.int g])=some (HO.tup [V.int ((k*r+j:Nat):Int),V.int ((k*r+j+1:Nat):Int),V.int g])
    rw[C3,C3,C3]
    rfl
   refine⟨q,us,_,rfl,rfl,st _ _ hq3,ar (by omega),_,us++[.ref t2],rfl,aQ (s3.trans st) hq _,ae,?_,by rw[Cb,Cp];omega⟩
   rw[DI,CP,CY,hg,← Dd,← Dd]
   exact(t3.mono st).snoc gt (st _ _ hq3)
  rintro σ H3 ⟨v6,us,rfl,s3,hq3,t3,ul3⟩
  rw[show((r:Int)-1).toNat=r-1 by omega,show(bM pat k).1.take (r-1)=(bM pat k).1 from Dq (by omega)]at t3
  refine⟨_,rfl,_,rfl,_,_,rfl,rfl,_,_,rfl,rfl,_,rfl,ite2 (fun z=>?_) (fun z=>?_)⟩
  ·have c1:k+1<c:=by have:=of_decide_eq_true z;omega
   refine⟨_,rfl,_,rfl,by omega,by omega,bP (n:=(r:Int).toNat) (fun j σ H4=>∃ v6 us,σ = [some (.ref a),some (.int (r:Int)),some (.int (c:Int)),some (.ref q),some (.int (k:Int)),some (.ref t),v6]/\Same H H4/\H4 q=some (.lst us)/\T3At H4 us ((Ct k).flatMap (colE r c)++((Ct (r-1)).map fun i=>(k*r+i,k*r+i+1))++(Ct j).map fun i=>(k*r+i,k*r+r+i)) ((Ct k).flatMap (colG pat c)++(bM pat k).1++(bM pat k).2.take j)/\us.length<=6*k+(r-1)+j) ⟨_,us,rfl,s3,hq3,(by rw[List.range_zero,Es,C2,List.take_zero,C2];exact t3),(by omega)⟩ ?_ ?_⟩
   ·rintro j σ H4 hj ⟨v6,us,rfl,s4,hq4,t4,ul4⟩
    have e1:(0:Int)+(j:Int)=(j:Int):=Dg _
    rw[e1]
    obtain⟨g,hg⟩:∃ g,(bM pat k).2[j]?=some g:=⟨_,Cc (by omega)⟩
    have hgV:((bM pat k).2.map V.int)[j]?=some (.int g):=by rw[CH,hg];rfl
    refine⟨_,rfl,.inl ⟨rfl,_,SqL.of hq4⟩,_,rfl,_,rfl,_,_,rfl,rfl,mc,_,rfl,_,_,rfl,rfl,_,rfl,_,rfl,_,_,rfl,rfl,mc,_,rfl,_,_,rfl,rfl,_,rfl,_,_,rfl,rfl,_,rfl,t,_,1,_,rfl,rfl,SqT.of (s4 _ _ ht),at1,_,rfl,b1,_,_,_,rfl,rfl,SqL.of (s4 _ _ hb),aP hgV,(by show 3<=sizeLine;decide),fun t2 ht2=>?_⟩
    have st:=ai ht2 (.tup [.int ((k:Int)*(r:Int)+(j:Int)),.int ((k:Int)*(r:Int)+(j:Int)+(r:Int)),.int g])
    have gt:(upd H4 t2 (.tup [.int ((k:Int)*(r:Int)+(j:Int)),.int ((k:Int)*(r:Int)+(j:Int)+(r:Int)),.int g])) t2=some (.tup [.int (((k*r+j,k*r+r+j):Nat×Nat).1:Int),.int (((k*r+j,k*r+r+j):Nat×Nat).2:Int),.int g]):=by
     rw[ae,kr]
     show some (HO.tup [V.int (((k*r:Nat):Int)+(j:Int)),V.int (((k*r:Nat):Int)+(j:Int)+(r:Int)),V.int g])=some (HO.tup [V.int ((k*r+j:Nat):Int),V.int ((k*r+r+j:Nat):Int),V.int g])
     rw[show k*r+r+j=k*r+j+r from Nat.add_right_comm _ _ _,C3,C3,C3]
    refine⟨q,us,_,rfl,rfl,st _ _ hq4,ar (by omega),_,us++[.ref t2],rfl,aQ (s4.trans st) hq _,ae,?_,by rw[Cb,Cp];omega⟩
    rw[DI,CP,CY,hg,← Dd,← Dd]
    exact(t4.mono st).snoc gt (st _ _ hq4)
   rintro σ H4 ⟨v6,us,rfl,s4,hq4,t4,ul4⟩
   rw[CF,show(bM pat k).2.take r=(bM pat k).2 from Dq (by omega)]at t4
   refine⟨_,_,_,us,rfl,s4,hq4,?_,by omega⟩
   rw[a8,a8]
   have e1:colE r c k=((Ct (r-1)).map fun i=>(k*r+i,k*r+i+1))++((Ct r).map fun i=>(k*r+i,k*r+r+i)):=by unfold colE;rw[if_pos c1]
   have e2:colG pat c k=(bM pat k).1++(bM pat k).2:=by unfold colG;rw[if_pos c1]
   rw[e1,e2,← Dd,← Dd]
   exact t4
  ·have c1:¬ k+1<c:=fun y=>z (decide_eq_true (by omega))
   refine⟨_,_,_,us,rfl,s3,hq3,?_,by omega⟩
   rw[a8,a8]
   have e1:colE r c k=(Ct (r-1)).map fun i=>(k*r+i,k*r+i+1):=by unfold colE;rw[if_neg c1,C2]
   have e2:colG pat c k=(bM pat k).1:=by unfold colG;rw[if_neg c1,C2]
   rw[e1,e2]
   exact t3
 rintro σ H2 ⟨v4,v5,v6,us,rfl,s2,hq2,tt,ul⟩
 rw[CF]at tt
 exact⟨_,rfl,kk q us H2 s2 hq2 tt⟩
end
end K8
namespace K8
open PySem L2
local macro_rules | `(tactic| walk_at "cc") => `(tactic| first | exact ⟨by decide, by decide⟩ | (show (0 : Int) < _; decide) | (show (0 : Int) < _; omega) | (show (0 : Int) ≤ _; omega) | exact ⟨by decide, by decide, by decide⟩ | exact ⟨by omega, by omega, by decide⟩ | exact Or.inl ⟨by decide, by decide⟩ | exact Or.inl ⟨by omega, by omega⟩)
local macro_rules | `(tactic| walk_at "rd") => `(tactic| repeat (first | refine ⟨_, rfl, ?_⟩ | refine ⟨_, _, rfl, rfl, ?_⟩ | refine ⟨rfl, ?_⟩ | (refine ⟨?cc, ?_⟩; (case cc => walk_at "cc"))))
structure TxtA(mg:Str->Option Value):Prop extends Txt mg where
 n_abs:mg "abs" = none
def x9:Sp:=fun vs H Q _=>∃(c:Int)(r:Nat),vs = [.int c,.int (r:Int)]/\1<=r/\r<=3/\∀(v:Int)(H':Hp),Same H H'->Q (.int v) H'
theorem md(a b c d:Int):PyData.eqv (.tuple [.int a,.int b]) (.tuple [.int c,.int d])=decide (a=c/\b=d):=by
 have:=m6 [a,b] [c,d]
 have e:PyData.eqv (.tuple [.int a,.int b]) (.tuple [.int c,.int d])=PyData.eqvAll ([a,b].map PyData.int) ([c,d].map PyData.int):=by simp only[PyData.eqv,C0,Es]
 rw[e,this]
 simp
theorem l8{K:B9}{H:Hp}{p:Addr}{a b:Int}(h:H p=some (.tup [.int a,.int b])):RdD K H (.ref p) (.tuple [.int a,.int b]):=by
 refine RdD.tup (SqT.of h) rfl fun j x d' q1 q2=>?_
 match j with
 |0=>cases q1;cases q2;exact .int _
 |1=>cases q1;cases q2;exact .int _
 |j+2=>cases q1
theorem dQ(a b:Int):SeqAt.shaped (.tuple [.int a,.int b])=true:=by
 simp[SeqAt.shaped,PyData.canLay0,PyData.canLayAll0,PyData.depth,PyData.depthAll]
def jm(r p k:Nat):Int:=if k=0 then(p:Int)-1 else if k=1 then(p:Int)+(r:Int) else if k=2 then(p:Int)+1 else(p:Int)-(r:Int)
theorem hit_is(r p k:Nat)(e:Nat×Nat)(k4:k<4):hitS r p k e=(decide ((e.1:Int)=(p:Int)/\(e.2:Int)=jm r p k)||decide ((e.1:Int)=jm r p k/\(e.2:Int)=(p:Int))):=by
 have key:∀ s:Nat,isE p s e=(decide ((e.1:Int)=(p:Int)/\(e.2:Int)=(s:Int))||decide ((e.1:Int)=(s:Int)/\(e.2:Int)=(p:Int))):=fun s=>by
  unfold isE
  have q:∀ a b:Nat,DC a b=decide ((a:Int)=(b:Int)):=fun a b=>by
   cases z:DC a b with
   |true=>rw[CO z];simp
   |false=>have:=Nat.ne_of_beq_eq_false z;rw[decide_eq_false (by omega)]
  rw[q,q,q,q,Bool.decide_and,Bool.decide_and]
 have low:∀(d:Nat)(st:Int),st=(p:Int)-(d:Int)->(Eh d p&&isE p (p-d) e)=(decide ((e.1:Int)=(p:Int)/\(e.2:Int)=st)||decide ((e.1:Int)=st/\(e.2:Int)=(p:Int))):=fun d st hst=>by
  by_cases c:d<=p
  ·rw[Nat.ble_eq_true_of_le c,Bool.true_and,key,hst,show((p-d:Nat):Int)=(p:Int)-(d:Int) by omega]
  ·have cb:Eh d p=false:=by
    cases z:Eh d p with
    |false=>rfl
    |true=>exact absurd (DB z) c
   rw[cb,DV,decide_eq_false (by omega),decide_eq_false (by omega)]
   rfl
 match k,k4 with
 |0,_=>exact low 1 _ rfl
 |1,_=>exact(key (p+r)).trans (by rw[show((p+r:Nat):Int)=jm r p 1 by unfold jm;simp])
 |2,_=>exact(key (p+1)).trans (by rw[show((p+1:Nat):Int)=jm r p 2 by unfold jm;simp])
 |3,_=>exact low r _ rfl
def hitN(r p k:Nat)(es:En)(t:Nat):Bool:=match es[t]? with | some e=>hitS r p k e | none=>false
def rowK(r p k:Nat)(es:En)(n:Nat):List Nat:=if 1<r∨k%2=1 then(Ct n).filter (hitN r p k es) else[]
theorem yf(r p k:Nat)(es:En)(n:Nat):rowK r p k es (n+1)=rowK r p k es n++(if(1<r∨k%2=1)/\hitN r p k es n=true then[n] else[]):=by
 unfold rowK
 by_cases c:1<r∨k%2=1
 ·rw[if_pos c,if_pos c,DI,List.filter_append]
  congr 1
  by_cases h:hitN r p k es n=true
  ·rw[if_pos ⟨c,h⟩];simp[h]
  ·rw[if_neg (fun z=>h z.2)];simp[h]
 ·rw[if_neg c,if_neg c,if_neg (fun z=>c z.1)]
  rfl
def xV:Sp:=fun vs H Q _=>∃(q:Addr)(us:List V)(es:En)(gs:List Int)(p r:Nat),vs = [.ref q,.int (p:Int),.int (r:Int)]/\H q=some (.lst us)/\T3At H us es gs/\es.length<=62/\∀(b:Addr)(H':Hp),Same H H'->H' b=some (.lst ((lawR r es p).map iV))->Q (.ref b) H'
def rTb:TS:=fun D σ H2=>∃(q b st:Addr)(p r k n:Nat)(L:List Nat),σ = [some (.ref q),some (.int (p:Int)),some (.int (r:Int)),some (.ref b),some (.ref st),some (.int (k:Int)),some (.int (n:Int))]/\H2 b=some (.lst (L.map iV))/\L.length<=900/\(¬ (1<r∨k%2=1)->D.nx σ H2)/\((1<r∨k%2=1)->D.nx σ (upd H2 b (.lst ((L++[n]).map iV))))
section
variable{P:Program}{w:World}{K:B9}{mg:Str->Option Value}{base:Heap}
theorem sI:aE ["found"] ["found"] (ak cD):=⟨rfl,rfl,rfl,by decide +kernel,rfl,by decide +kernel,by decide +kernel⟩
theorem zV{f:Addr}{fd:FuncData} (F:Fun K "_law_whole" "_law_whole" cD f fd) (T:Txt mg):FnOk P w K mg base CX0 1 f fd ["found"] zM:=by
 refine F.ok sI (fun vs H Q E h=>?_) (fun cdv A outer s H vs Q E hr h=>?_)
 ·obtain⟨i,rfl,_⟩:=h
  rfl
 obtain⟨i,rfl,k⟩:=h
 refine⟨_,(aj (aJ (we (az fP (by rfl) T.n_isinstance aM (aa (pv 0) (aa (mE (v:=.ty "int") rfl T.n_int bt_int rfl) ag))) (wa (pe_not (az fP (by rfl) T.n_isinstance aM (aa (pv 0) (aa (mE (v:=.ty "bool") rfl T.n_bool B4 rfl) ag)))))))),?_⟩
 refine⟨_,rfl,_,_,_,_,_,rfl,TyOf.int i,Or.inl ⟨_,rfl,rfl⟩,kit_ii K,_,rfl,iteT ?_⟩
 exact⟨_,rfl,_,_,_,_,_,rfl,TyOf.int i,Or.inl ⟨_,rfl,rfl⟩,kit_ib K,_,rfl,k⟩
theorem iE:aE ["cell","rows","far"] ["cell","rows"] (ak bL):=⟨rfl,rfl,rfl,by decide +kernel,rfl,by decide +kernel,by decide +kernel⟩
theorem BC{f:Addr}{fd:FuncData} (F:Fun K "_law_columns" "_law_columns" bL f fd):FnOk P w K mg base CX0 1 f fd ["cell","rows"] x9:=by
 refine F.ok iE (fun vs H Q E h=>?_) (fun cdv A outer s H vs Q E hr h=>?_)
 ·obtain⟨c,r,rfl,_⟩:=h
  rfl
 obtain⟨c,r,rfl,r1,r3,kk⟩:=h
 have same0:Same H H:=fun _ _ e=>e
 have p40:(0:Int)<10^(40:Int).toNat:=by decide
 have r0:(0:Int)<40/(r:Int):=by
  have rr:r=1∨r=2∨r=3:=by omega
  rcases rr with e | e | e<;>subst e<;>decide
 refine⟨_,(af (aI (i:=2) iE.nd rfl (Or.inl rfl) (aq aU (aq cE (pv 0) ah) (aq lu ah ah)))
   (af (aX (au fu (aq aU (pv 0) ah) ah (av _)) (aj (aJ (aq aL ah (aq aU (pv 2) (aq cE ah (pv 1)))))) ay)
   (af (aX (au fu (aq aU (pv 0) ah) ah (av _)) (aj (aJ (aq aU (pv 2) ah))) ay)
   (af (aX (au fu (aq aU (pv 0) ah) ah (av _)) (aj (aJ (aq aL ah (aq aU (pv 2) (aq cE ah (pv 1)))))) ay)
   (aj (aJ (aV aN (bc (aa (aq aL (aq aL (aq lu ah ah) ah) (pv 2)) (aa (Bq xO (pv 2)) (aa (aq aL ah (aq aU (pv 2) (aq dR (aq lu ah ah) ah))) (aa (aq lu ah ah) ag))))) (aq aU (pv 2) ah) (fun _ _=>rfl)))))))),?_⟩
 refine⟨_,rfl,_,_,rfl,rfl,⟨by decide,by decide⟩,_,_,rfl,rfl,⟨by decide,by decide,by decide⟩,_,_,rfl,rfl,p40,?_⟩
 have fn:=EB (c/4) (show(10:Int)^(40:Int).toNat≠0 by decide)
 refine⟨_,rfl,_,_,rfl,rfl,(by decide:(0:Int)<4),rfl,_,rfl,ite2 (fun z=>?_) (fun z=>?_)⟩
 ·exact⟨_,rfl,_,rfl,_,_,rfl,rfl,⟨by omega,by omega +splitDisjunctions⟩,_,_,rfl,rfl,r0,_,_,rfl,rfl,kk _ _ same0⟩
 refine⟨_,rfl,_,_,rfl,rfl,(by decide:(0:Int)<4),rfl,_,rfl,ite2 (fun z=>?_) (fun z=>?_)⟩
 ·exact⟨_,rfl,_,_,rfl,rfl,(by decide:(0:Int)<46),kk _ _ same0⟩
 refine⟨_,rfl,_,_,rfl,rfl,(by decide:(0:Int)<4),rfl,_,rfl,ite2 (fun z=>?_) (fun z=>?_)⟩
 ·exact⟨_,rfl,_,rfl,_,_,rfl,rfl,⟨by omega,by omega +splitDisjunctions⟩,_,_,rfl,rfl,r0,_,_,rfl,rfl,kk _ _ same0⟩
 refine⟨_,_,rfl,rfl,⟨by decide,by decide,by decide⟩,_,_,rfl,rfl,_,rfl,_,_,rfl,rfl,_,rfl,_,rfl,_,rfl,_,_,rfl,rfl,⟨by decide,by decide,by decide⟩,_,_,rfl,rfl,_,_,rfl,rfl,(by show(0:Int)<10^(18:Int).toNat-41;decide),_,_,rfl,rfl,_,_,rfl,rfl,⟨by decide,by decide,by decide⟩,(by show 4<=sizeLine;decide),fun l hl=>?_⟩
 have at4:∀(x0 x1 x2 x3 m:Int),∃ v:Int,atI [V.int x0,V.int x1,V.int x2,V.int x3] (m%4)=some (.int v):=fun x0 x1 x2 x3 m=>by
  obtain⟨j,ej,hj⟩:∃ j:Nat,m%4=(j:Int)/\(j=0∨j=1∨j=2∨j=3):=⟨(m%4).toNat,by omega,by omega⟩
  rw[ej]
  rcases hj with e | e | e | e<;>subst e
  ·exact⟨x0,rfl⟩
  ·exact⟨x1,rfl⟩
  ·exact⟨x2,rfl⟩
  ·exact⟨x3,rfl⟩
 obtain⟨v,hv⟩:=at4 _ _ _ _ _
 exact⟨_,rfl,_,_,rfl,rfl,(by decide:(0:Int)<4),l,_,_,_,rfl,rfl,SqL.of ae,hv,kk v _ (ai hl _)⟩
theorem dD:aE ["ties","place","rows","row","steps","k","number"] ["ties","place","rows"] (ak dy):=⟨rfl,rfl,rfl,by decide +kernel,rfl,by decide +kernel,by decide +kernel⟩
theorem Br{f:Addr}{fd:FuncData} (F:Fun K "_law_turn" "_law_turn" dy f fd) (T:Txt mg):FnOk P w K mg base CX0 1 f fd ["ties","place","rows"] xV:=by
 refine F.ok dD (fun vs H Q E h=>?_) (fun cdv A outer s H vs Q E hr h=>?_)
 ·obtain⟨q,us,es,gs,p,r,rfl,_⟩:=h
  rfl
 obtain⟨q,us,es,gs,p,r,rfl,hq,t3,few,kk⟩:=h
 have hu64:=hr.units
 have ul:=t3.1
 refine⟨_,(af (aI (i:=3) dD.nd rfl (Or.inl rfl) (bc ag))
   (af (aI (i:=4) dD.nd rfl (Or.inl rfl) (bc (aa (aq dR (pv 1) ah) (aa (aq aL (pv 1) (pv 2)) (aa (aq aL (pv 1) ah) (aa (aq dR (pv 1) (pv 2)) ag))))))
   (af (cp PassesOwn.never rfl (aT rfl T.n_range (aa ah ag)) (aG (i:=5) dD.nd rfl (Or.inl rfl)) (aj (cp PassesOwn.never rfl (aT rfl T.n_range (aa (az aw (by rfl) T.n_len bQ (aa (pv 0) ag)) ag)) (aG (i:=6) dD.nd rfl (Or.inl rfl)) (aj (aX (PW.pt (iS (au (AI hu64) (qH AE (aV aN (pv 0) (pv 6) (fun _ _=>rfl)) uG (uF ah)) (cq (aa (pv 1) (aa (aV aN (pv 4) (pv 5) (fun _ _=>rfl)) ag))) (av _)) (eW (au (AI hu64) (qH AE (aV aN (pv 0) (pv 6) (fun _ _=>rfl)) uG (uF ah)) (cq (aa (aV aN (pv 4) (pv 5) (fun _ _=>rfl)) (aa (pv 1) ag))) (av _))))) (eA (t2:=rTb) (aj (aX (PW.pt (iS (au sQ (pv 2) ah (av _)) (eW (au fu (aq aU (pv 5) ah) ah (av _))))) (aj (aY (gB CD CL CK a7 (pv 3) (aa (pv 6) ag)))) ay)) (fun D0 S0 H0 h0=>?restb)) ay)))))
   (aj (aJ (pv 3)))))),?_⟩
 case restb =>
  obtain⟨q,b,st,p,r,k,n,L,rfl,hb,lL,kn,ky⟩:=h0
  have em:(L++[n]).map iV=L.map iV++[V.int (n:Int)]:=by rw[CP];rfl
  rw[em]at ky
  refine⟨_,rfl,_,_,rfl,rfl,_,rfl,ite2 (fun z=>?_) (fun z=>?_)⟩
  ·have c:1<r:=by have:=of_decide_eq_true z;omega
   exact iteT ⟨_,rfl,.inl ⟨rfl,_,SqL.of hb⟩,_,rfl,b,_,_,rfl,rfl,hb,ar (by rw[Cd];omega),ky (.inl c)⟩
  have c:¬ 1<r:=fun e=>z (decide_eq_true (by omega))
  refine⟨_,rfl,_,_,rfl,rfl,(by decide:(0:Int)<2),rfl,_,rfl,ite2 (fun y=>?_) (fun y=>?_)⟩
  ·have d:(k:Int)%2=1:=V.int.inj (of_decide_eq_true y)
   exact⟨_,rfl,.inl ⟨rfl,_,SqL.of hb⟩,_,rfl,b,_,_,rfl,rfl,hb,ar (by rw[Cd];omega),ky (.inr (by omega))⟩
  ·have d:¬ (k:Int)%2=1:=fun e=>y (decide_eq_true (congrArg V.int e))
   exact kn (by omega)
 refine⟨(by show 0<=sizeLine;decide),fun b hb=>?_⟩
 have s1:=ai hb (.lst [])
 refine⟨_,rfl,_,_,rfl,rfl,_,rfl,_,rfl,_,_,rfl,rfl,_,rfl,_,_,rfl,rfl,_,rfl,_,rfl,_,_,rfl,rfl,(by show 4<=sizeLine;decide),fun st hst=>?_⟩
 generalize hS : [V.int ((p:Int)-1),V.int ((p:Int)+(r:Int)),V.int ((p:Int)+1),V.int ((p:Int)-(r:Int))]=S
 have stp:∀ k,k<4->S[k]?=some (.int (jm r p k)):=fun k hk=>by
  rw[← hS]
  match k,hk with
  |0,_=>rfl
  |1,_=>rfl
  |2,_=>rfl
  |3,_=>rfl
 have s2:=ai hst (.lst S)
 refine⟨_,rfl,by decide,by decide,bP (n:=(4:Int).toNat) (fun k σ H2=>∃ v5 v6 L,σ = [some (.ref q),some (.int (p:Int)),some (.int (r:Int)),some (.ref b),some (.ref st),v5,v6]/\Same H H2/\H2 b=some (.lst (L.map iV))/\H2 st=some (.lst S)/\L=((Ct k).flatMap fun k=>rowK r p k es es.length)/\L.length<=62*k) ⟨_,_,[],rfl,s1.trans s2,s2 _ _ ae,ae,rfl,Cg _⟩ ?_ ?_⟩
 ·rintro k σ H2 hk ⟨v5,v6,L,rfl,sH,hb2,hst2,eL,lL⟩
  have hk4:k<4:=hk
  have e0:(0:Int)+(k:Int)=(k:Int):=Dg _
  rw[e0]
  refine⟨_,rfl,q,us,rfl,.inl (SqL.of (sH _ _ hq)),_,rfl,by omega,by omega,bP (n:=(us.length:Int).toNat) (fun n σ H3=>∃ v6 L3,σ = [some (.ref q),some (.int (p:Int)),some (.int (r:Int)),some (.ref b),some (.ref st),some (.int (k:Int)),v6]/\Same H H3/\H3 b=some (.lst (L3.map iV))/\H3 st=some (.lst S)/\L3=L++rowK r p k es n/\L3.length<=62*k+n) ⟨_,L,rfl,sH,hb2,hst2,?_,lL⟩ ?_ ?_⟩
  ·unfold rowK
   rw[List.range_zero,List.filter_nil,ite_self,C2]
  ·rintro n σ H3 hn ⟨v6,L3,rfl,s3,hb3,hst3,e3,l3⟩
   have e1:(0:Int)+(n:Int)=(n:Int):=Dg _
   rw[e1]
   have hn':n<es.length:=by omega
   obtain⟨e,he⟩:∃ e,es[n]?=some e:=⟨_,Cc hn'⟩
   obtain⟨g,hg⟩:∃ g,gs[n]?=some g:=⟨_,Cc (by rw[t3.2.1];exact hn')⟩
   obtain⟨t,ht,hT⟩:=t3.2.2 n e g he hg
   have hit:hitN r p k es n=(decide ((e.1:Int)=(p:Int)/\(e.2:Int)=jm r p k)||decide ((e.1:Int)=jm r p k/\(e.2:Int)=(p:Int))):=by
    unfold hitN
    rw[he]
    exact hit_is r p k e hk4
   have nw:¬ (HT.sIx 3 0 none=0/\HT.sIx 3 3 (some 2)=3):=by decide
   have rs:=yf r p k es n
   have no:hitN r p k es n=false->∀ H4,Same H3 H4->∃ v6 L4,[some (V.ref q),some (.int (p:Int)),some (.int (r:Int)),some (.ref b),some (.ref st),some (.int (k:Int)),some (.int (n:Int))] = [some (.ref q),some (.int (p:Int)),some (.int (r:Int)),some (.ref b),some (.ref st),some (.int (k:Int)),v6]/\Same H H4/\H4 b=some (.lst (L4.map iV))/\H4 st=some (.lst S)/\L4=L++rowK r p k es (n+1)/\L4.length<=62*k+(n+1):=fun hf H4 s4=>⟨_,L3,rfl,s3.trans s4,s4 _ _ hb3,s4 _ _ hst3,by rw[rs,hf,if_neg (fun z=>Bool.noConfusion z.2),C2];exact e3,by omega⟩
   have yes:hitN r p k es n=true->∀(H4:Hp)(D:Ends),Same H3 H4->(∀ H5,(∃ v6 L4,[some (V.ref q),some (.int (p:Int)),some (.int (r:Int)),some (.ref b),some (.ref st),some (.int (k:Int)),some (.int (n:Int))] = [some (.ref q),some (.int (p:Int)),some (.int (r:Int)),some (.ref b),some (.ref st),some (.int (k:Int)),v6]/\Same H H5/\H5 b=some (.lst (L4.map iV))/\H5 st=some (.lst S)/\L4=L++rowK r p k es (n+1)/\L4.length<=62*k+(n+1))->D.nx [some (V.ref q),some (.int (p:Int)),some (.int (r:Int)),some (.ref b),some (.ref st),some (.int (k:Int)),some (.int (n:Int))] H5)->rTb D [some (V.ref q),some (.int (p:Int)),some (.int (r:Int)),some (.ref b),some (.ref st),some (.int (k:Int)),some (.int (n:Int))] H4:=fun ht H4 D s4 nx=>by
    refine⟨q,b,st,p,r,k,n,L3,rfl,s4 _ _ hb3,by omega,fun c=>nx _ ⟨_,L3,rfl,s3.trans s4,s4 _ _ hb3,s4 _ _ hst3,by rw[rs,if_neg (fun z=>c z.1),C2];exact e3,by omega⟩,fun c=>nx _ ⟨_,L3++[n],rfl,aQ (s3.trans s4) hb _,ae,?_,by rw[rs,if_pos ⟨c,ht⟩,e3,Dd],by rw[Cb,Cp];omega⟩⟩
    rw[ao (fun z=>by rw[z]at hst;exact absurd (show(upd H b (.lst [])) b=none from hst) (by rw[ae];simp))]
    exact s4 _ _ hst3
   refine⟨_,rfl,_,rfl,q,us,_,_,rfl,rfl,SqL.of (s3 _ _ hq),aP ht,_,rfl,t,_,rfl,SqT.of (s3 _ _ hT),nw,fun c1 hc1=>?_⟩
   have sc1:=ai hc1 (.tup (cutV [V.int (e.1:Int),V.int (e.2:Int),V.int g] none (some 2)))
   have cut:cutV [V.int (e.1:Int),V.int (e.2:Int),V.int g] none (some 2) = [V.int (e.1:Int),V.int (e.2:Int)]:=rfl
   rw[cut]at sc1
   refine⟨_,rfl,_,rfl,_,rfl,st,S,_,_,rfl,rfl,SqL.of (sc1 _ _ hst3),aP (stp k hk4),(by show 2<=sizeLine;decide),fun d1 hd1=>?_⟩
   have sd1:=ai hd1 (.tup [.int (p:Int),.int (jm r p k)])
   refine⟨_,_,l8 (sd1 _ _ ae),l8 ae,dQ _ _,dQ _ _,_,rfl,ite2 (fun z=>?_) (fun z=>?_)⟩
   ·rw[md]at z
    have hh:hitN r p k es n=true:=by rw[hit,z];rfl
    refine iteT (yes hh _ _ (sc1.trans sd1) fun H5 z=>z)
   have z1:decide ((e.1:Int)=(p:Int)/\(e.2:Int)=jm r p k)=false:=by rw[md]at z;exact Ep.mpr z
   have s34:=sc1.trans sd1
   generalize upd (upd H3 c1 (.tup (cutV [V.int (e.1:Int),V.int (e.2:Int),V.int g] none (some 2)))) d1 (.tup [.int (p:Int),.int (jm r p k)])=H4 at s34
   refine⟨_,rfl,_,rfl,q,us,_,_,rfl,rfl,SqL.of ((s3.trans s34) _ _ hq),aP ht,_,rfl,t,_,rfl,SqT.of ((s3.trans s34) _ _ hT),nw,fun c2 hc2=>?_⟩
   have sc2:=ai hc2 (.tup [V.int (e.1:Int),V.int (e.2:Int)])
   refine⟨_,rfl,_,rfl,st,S,_,_,rfl,rfl,SqL.of (sc2 _ _ (s34 _ _ hst3)),aP (stp k hk4),_,rfl,(by show 2<=sizeLine;decide),fun d2 hd2=>?_⟩
   have sd2:=ai hd2 (.tup [.int (jm r p k),.int (p:Int)])
   refine⟨_,_,l8 (sd2 _ _ ae),l8 ae,dQ _ _,dQ _ _,_,rfl,ite2 (fun z=>?_) (fun z=>?_)⟩
   ·rw[md]at z
    have hh:hitN r p k es n=true:=by rw[hit,z,Bool.or_true]
    exact yes hh _ _ (s34.trans (sc2.trans sd2)) fun H5 z=>z
   ·have z2:decide ((e.1:Int)=jm r p k/\(e.2:Int)=(p:Int))=false:=by rw[md]at z;exact Ep.mpr z
    exact no (by rw[hit,z1,z2];rfl) _ (s34.trans (sc2.trans sd2))
  rintro σ H3 ⟨v6,L3,rfl,s3,hb3,hst3,e3,l3⟩
  rw[CF,ul]at e3 l3
  refine⟨_,_,L3,rfl,s3,hb3,hst3,?_,by omega⟩
  rw[e3,a8,eL]
 rintro σ H2 ⟨v5,v6,L,rfl,sH,hb2,hst2,eL,lL⟩
 subst eL
 exact⟨_,rfl,kk b H2 sH hb2⟩
end
end K8
namespace K8
open PySem L2
local macro_rules | `(tactic| walk_at "cc") => `(tactic| first | exact ⟨by decide, by decide⟩ | (show (0 : Int) < _; decide) | (show (0 : Int) < _; omega) | (show (0 : Int) ≤ _; omega) | exact ⟨by decide, by decide, by decide⟩ | exact ⟨by omega, by omega, by decide⟩ | exact Or.inl ⟨by decide, by decide⟩ | exact Or.inl ⟨by omega, by omega⟩)
local macro_rules | `(tactic| walk_at "rd") => `(tactic| repeat (first | refine ⟨_, rfl, ?_⟩ | refine ⟨_, _, rfl, rfl, ?_⟩ | refine ⟨rfl, ?_⟩ | (refine ⟨?cc, ?_⟩; (case cc => walk_at "cc"))))
structure IsW(K:B9)(PL PS WC:Addr):Prop where
 hL:Cq K (.ref PL) "__class__" = some (some (.builtin "object.__class__"))
 hS:Cq K (.ref PS) "__class__" = some (some (.builtin "object.__class__"))
 hW:Cq K (.ref WC) "__class__" = some (some (.builtin "object.__class__"))
 hn:DW K (.builtin "object.__class__") "__get__" = some (some (.builtin "getset_descriptor.__get__"))
 htk:D8 K (.builtin "object.__class__")=some true
 mL:CV K PL (.type "object")=some true
 mS:CV K PS (.type "object")=some true
 mW:CV K WC (.type "object")=some true
 ll:Cw K (.ref PL) (.ref PL)=some true
 ss:Cw K (.ref PS) (.ref PS)=some true
 ls:Cw K (.ref PL) (.ref PS)=some false
 sl:Cw K (.ref PS) (.ref PL)=some false
 ww:Cw K (.ref WC) (.ref WC)=some true
structure TxtB(mg:Str->Option Value)(PL PS WC:Addr):Prop extends TxtA mg where
 g_Pull:mg "Pull" = some (.ref PL)
 g_Push:mg "Push" = some (.ref PS)
 g_Web:mg "Web" = some (.ref WC)
theorem at30{a b c:V}:atI [a,b,c] 0=some a:=rfl
theorem at31{a b c:V}:atI [a,b,c] 1=some b:=rfl
theorem at32{a b c:V}:atI [a,b,c] 2=some c:=rfl
theorem bt_abs:bootBuiltins "abs" = some (.builtin "abs"):=by decide +kernel
theorem vW{K:B9}{H:Hp}{p:Addr}{a b c:Int}(h:H p=some (.tup [.int a,.int b,.int c])):RdD K H (.ref p) (.tuple [.int a,.int b,.int c]):=by
 refine RdD.tup (SqT.of h) rfl fun j x d' q1 q2=>?_
 match j with
 |0=>cases q1;cases q2;exact .int _
 |1=>cases q1;cases q2;exact .int _
 |2=>cases q1;cases q2;exact .int _
 |j+3=>cases q1
theorem sq(a b c:Int):SeqAt.shaped (.tuple [.int a,.int b,.int c])=true:=by
 simp[SeqAt.shaped,PyData.canLay0,PyData.canLayAll0,PyData.depth,PyData.depthAll]
def ml(PL PS:Addr):Sp:=fun vs H Q _=>∃(x dx t:Addr)(a b g:Int),vs = [.ref x,.ref t]/\H x=some (.ins (cls PL PS (decide (g<0))) dx (tf a b (if g<0 then -g else g)))/\H t=some (.tup [.int a,.int b,.int g])/\∀ H',Same H H'->Q (.bl true) H'
def mh(PL PS WC:Addr):Sp:=fun vs H Q _=>∃(S:Addr->Prop)(p q:Addr)(us:List V)(pat:List Col)(r c:Nat)(rs:List (List Nat)),vs = [.ref p,.ref q,.int (r:Int),.int (c:Int)]/\Good r pat/\2<=r*c/\r*c<=40/\WebF S PL PS WC H p (r*c) (sE r c) (sT r c) rs ((gS pat c).map kOf)/\H q=some (.lst us)/\T3At H us (sE r c) (gS pat c)/\∀ H',Same H H'->Q (.bl true) H'
def rSt(K:B9):TS:=fun D σ H=>∃(x C dx t:Addr)(a b g:Int),σ = [some (.ref x),some (.ref t),none]/\H x=some (.ins C dx (tf a b (if g<0 then -g else g)))/\CT K C/\H t=some (.tup [.int a,.int b,.int g])/\∀ H',Same H H'->D.rt (.bl true) H'
section
variable{P:Program}{w:World}{K:B9}{mg:Str->Option Value}{base:Heap}
theorem gz:aE ["found","tie","number"] ["found","tie"] (ak bw):=⟨rfl,rfl,rfl,by decide +kernel,rfl,by decide +kernel,by decide +kernel⟩
theorem Bt{f fn PL PS WC:Addr}{fd dn:FuncData} (F:Fun K "_law_same_tie" "_law_same_tie" bw f fd) (T:TxtB mg PL PS WC) (IC:IsW K PL PS WC) (TL:CT K PL) (TS:CT K PS) (G_law_whole:Cal P w K mg base 1 "_law_whole" ["found"] zM fn dn):FnOk P w K mg base CX0 2 f fd ["found","tie"] (ml PL PS):=by
 refine F.ok gz (fun vs H Q E h=>?_) (fun cdv A outer s H vs Q E hr h=>?_)
 ·obtain⟨x,dx,t,a,b,g,rfl,_⟩:=h
  rfl
 obtain⟨x,dx,t,a,b,g,rfl,hx,ht,kk⟩:=h
 have hu64:=hr.units
 obtain⟨C,hx',CC,fc,mc,kL,kS⟩:∃ C:Addr,H x=some (.ins C dx (tf a b (if g<0 then -g else g)))/\CT K C/\Cq K (.ref C) "__class__" = some (some (.builtin "object.__class__"))/\CV K C (.type "object")=some true/\Cw K (.ref C) (.ref PL)=some (!decide (g<0))/\Cw K (.ref C) (.ref PS)=some (decide (g<0)):=by
  by_cases z:g<0
  ·rw[decide_eq_true z]at hx ⊢
   exact⟨PS,hx,TS,IC.hS,IC.mS,IC.sl,IC.ss⟩
  ·rw[decide_eq_false z]at hx ⊢
   exact⟨PL,hx,TL,IC.hL,IC.mL,IC.ll,IC.ls⟩
 have ty:=TyOf.ins hx' CC.cl fc IC.hn IC.htk mc
 refine⟨_,(af (aX (PW.pt (iS (PW.pt (AG (lq (lp (az fP (by rfl) T.n_isinstance aM (aa (pv 0) (aa (jZ (v:=.ref _) rfl T.g_Pull rfl) ag))))) (yh (au zT (aV cO (pv 1) ah (fun _ _=>rfl)) ah (av _))))) (eW (PW.pt (AG (lq (lp (az fP (by rfl) T.n_isinstance aM (aa (pv 0) (aa (jZ (v:=.ref _) rfl T.g_Push rfl) ag))))) (yh (au jq (aV cO (pv 1) ah (fun _ _=>rfl)) ah (av _)))))))) (aj (aJ iU)) ay)
   (eA (t2:=rSt K) (af (cp PassesOwn.never rfl (cR (bc (aa (bo (pv 0) rfl) (aa (bo (pv 0) rfl) (aa (bo (pv 0) rfl) ag))))) (aG (i:=2) gz.nd rfl (Or.inl rfl)) (aj (aX (lq (lp (aA G_law_whole.ok (hr.mono (by decide)) rfl G_law_whole.mg G_law_whole.kp G_law_whole.bn .nil a9 (aa (pv 2) ag)))) (aj (aJ iU)) ay)))
   (aj (aJ (gA (lx hu64) (cq (aa (bo (pv 0) rfl) (aa (bo (pv 0) rfl) (aa (bo (pv 0) rfl) ag)))) (cq (aa (aV cO (pv 1) ah (fun _ _=>rfl)) (aa (aV cO (pv 1) ah (fun _ _=>rfl)) (aa (az Aw (by rfl) T.n_abs bt_abs (aa (aV cO (pv 1) ah (fun _ _=>rfl)) ag)) ag)))) (av _))))) (fun D0 S0 H0 h0=>?restc))),?_⟩
 case restc =>
  obtain⟨x,C,dx,t,a,b,g,rfl,hx,CC,ht,kk⟩:=h0
  refine⟨_,rfl,x,C,dx,_,_,rfl,hx,CC.cl,CC.n1,iB _ _ _,_,rfl,x,C,dx,_,_,rfl,hx,CC.cl,CC.n2,lg _ _ _,_,rfl,x,C,dx,_,_,rfl,hx,CC.cl,CC.n3,Az _ _ _,(by show 3<=sizeLine;decide),fun l hl=>?_⟩
  have sl:=ai hl (.lst [.int a,.int b,.int (if g<0 then -g else g)])
  refine⟨l,rfl,⟨_,SqL.of ae⟩,ir (K:=K) (xs:=[.int a,.int b,.int (if g<0 then -g else g)]) (fun i σ H2=>(∃ v2,σ = [some (.ref x),some (.ref t),v2])/\H2=upd H0 l (.lst [.int a,.int b,.int (if g<0 then -g else g)])) ⟨⟨_,rfl⟩,rfl⟩ (fun i σ H2 _ z=>by rw[z.2];exact SqL.of ae) ?_ ?_⟩
  ·rintro i y σ H2 hy ⟨⟨v2,rfl⟩,rfl⟩
   obtain⟨n,rfl⟩:∃ n:Int,y=.int n:=by
    match i,hy with
    |0,hy=>exact⟨_,(Cz hy).symm⟩
    |1,hy=>exact⟨_,(Cz hy).symm⟩
    |2,hy=>exact⟨_,(Cz hy).symm⟩
    |i+3,hy=>simp at hy
   exact⟨_,rfl,n,rfl,_,rfl,iteF ⟨⟨_,rfl⟩,rfl⟩⟩
  rintro σ H2 ⟨⟨v2,rfl⟩,rfl⟩
  have hx2:=sl _ _ hx
  refine⟨_,rfl,x,C,dx,_,_,rfl,hx2,CC.cl,CC.n1,iB _ _ _,_,rfl,x,C,dx,_,_,rfl,hx2,CC.cl,CC.n2,lg _ _ _,_,rfl,x,C,dx,_,_,rfl,hx2,CC.cl,CC.n3,Az _ _ _,(by show 3<=sizeLine;decide),fun t1 ht1=>?_⟩
  have st1:=ai ht1 (.tup [.int a,.int b,.int (if g<0 then -g else g)])
  have ht3:=st1 _ _ (sl _ _ ht)
  refine⟨_,rfl,t,_,0,_,rfl,rfl,SqT.of ht3,at30,_,rfl,t,_,1,_,rfl,rfl,SqT.of ht3,at31,_,rfl,t,_,2,_,rfl,rfl,SqT.of ht3,at32,g,rfl,(by show 3<=sizeLine;decide),fun t2 ht2=>?_⟩
  have st2:=ai ht2 (.tup [.int a,.int b,.int (if g<0 then -g else g)])
  exact⟨_,vW (st2 _ _ ae),vW ae,sq _ _ _,kk _ (sl.trans (st1.trans st2))⟩
 have tail:∀ D:Ends,D.rt=Q->rSt K D [some (V.ref x),some (.ref t),none] H:=fun D hD=>⟨x,C,dx,t,a,b,g,rfl,hx',CC,ht,fun H' s'=>by rw[hD];exact kk _ s'⟩
 by_cases z:g<0
 ·rw[decide_eq_true z]at kL kS
  refine⟨_,rfl,_,_,_,_,_,rfl,ty,Or.inr ⟨_,rfl,rfl⟩,kL,_,rfl,iteT ?_⟩
  refine⟨_,rfl,t,_,2,_,rfl,rfl,SqT.of ht,at32,_,_,rfl,rfl,_,rfl,ite2 (fun y=>absurd (of_decide_eq_true y) (by omega)) (fun _=>?_)⟩
  refine⟨_,rfl,_,_,_,_,_,rfl,ty,Or.inr ⟨_,rfl,rfl⟩,kS,_,rfl,iteF ?_⟩
  exact tail _ rfl
 ·rw[decide_eq_false z]at kL kS
  refine⟨_,rfl,_,_,_,_,_,rfl,ty,Or.inr ⟨_,rfl,rfl⟩,kL,_,rfl,iteF ?_⟩
  refine⟨_,rfl,_,_,_,_,_,rfl,ty,Or.inr ⟨_,rfl,rfl⟩,kS,_,rfl,iteT ?_⟩
  refine⟨_,rfl,t,_,2,_,rfl,rfl,SqT.of ht,at32,_,_,rfl,rfl,_,rfl,ite2 (fun y=>absurd (of_decide_eq_true y) (by omega)) (fun _=>?_)⟩
  exact tail _ rfl
theorem gy:aE ["web","ties","rows","columns","k"] ["web","ties","rows","columns"] (ak bu):=⟨rfl,rfl,rfl,by decide +kernel,rfl,by decide +kernel,by decide +kernel⟩
theorem zZ{f f1 f2 f3 PL PS WC:Addr}{fd d1 d2 d3:FuncData} (F:Fun K "_law_same_web" "_law_same_web" bu f fd) (T:TxtB mg PL PS WC) (IC:IsW K PL PS WC) (cw:CW K WC) (G_law_whole:Cal P w K mg base 1 "_law_whole" ["found"] zM f1 d1) (G_law_same_tie:Cal P w K mg base 2 "_law_same_tie" ["found","tie"] (ml PL PS) f2 d2) (G_law_turn:Cal P w K mg base 1 "_law_turn" ["ties","place","rows"] xV f3 d3):FnOk P w K mg base CX0 3 f fd ["web","ties","rows","columns"] (mh PL PS WC):=by
 refine F.ok gy (fun vs H Q E h=>?_) (fun cdv A outer s H vs Q E hr h=>?_)
 ·obtain⟨S,p,q,us,pat,r,c,rs,rfl,_⟩:=h
  rfl
 obtain⟨S,p,q,us,pat,r,c,rs,rfl,gd,rc2,rc40,wf,hq,t3,kk⟩:=h
 have hu64:=hr.units
 refine⟨_,(af (aX (PW.pt (iS (lq (lp (az fP (by rfl) T.n_isinstance aM (aa (pv 0) (aa (jZ (v:=.ref _) rfl T.g_Web rfl) ag))))) (iS (lq (lp (aA G_law_whole.ok (hr.mono (by decide)) rfl G_law_whole.mg G_law_whole.kp G_law_whole.bn .nil a9 (aa (bo (pv 0) rfl) ag)))) (eW (au qK (bo (pv 0) rfl) (aq cz (pv 2) (pv 3)) (av _)))))) (aj (aJ iU)) ay)
   (af (aX (PW.pt (iS (lq (lp (az fP (by rfl) T.n_isinstance aM (aa (bo (pv 0) rfl) (aa (mE (v:=.ty "list") rfl T.n_list hJ rfl) ag))))) (iS (au qK (az aw (by rfl) T.n_len bQ (aa (bo (pv 0) rfl) ag)) (az aw (by rfl) T.n_len bQ (aa (pv 1) ag)) (av _)) (eW (lq (lp (az fP (by rfl) T.n_isinstance aM (aa (bo (pv 0) rfl) (aa (mE (v:=.ty "list") rfl T.n_list hJ rfl) ag))))))))) (aj (aJ iU)) ay)
   (af (cp PassesOwn.never rfl (aT rfl T.n_range (aa (az aw (by rfl) T.n_len bQ (aa (pv 1) ag)) ag)) (aG (i:=4) gy.nd rfl (Or.inl rfl)) (aj (aX (lq (lp (aA G_law_same_tie.ok (hr.mono (by decide)) rfl G_law_same_tie.mg G_law_same_tie.kp G_law_same_tie.bn .nil a9 (aa (aV aN (bo (pv 0) rfl) (pv 4) (fun _ _=>rfl)) (aa (aV aN (pv 1) (pv 4) (fun _ _=>rfl)) ag))))) (aj (aJ iU)) ay)))
   (aj (aJ (gA (lx hu64) (bo (pv 0) rfl) (l7 rfl (fr:=[("ties",1),("rows",2)]) (xs:=["place"]) (jO.of (by rfl) (by decide +kernel) (by rfl) (by decide +kernel) (by intro p hp;simp only[Co,C8,or_false]at hp;rcases hp with rfl | rfl<;>exact⟨rfl,rfl⟩) (by decide +kernel) (by intro p hp;simp only[Co,C8,or_false]at hp;rcases hp with rfl | rfl<;>rfl)) (aT rfl T.n_range (aa (aq cz (pv 2) (pv 3)) ag)) (fun C ex s H=>(aG (i:=0) (show(["place","ties","rows"]:List Str).Nodup from by decide +kernel) rfl (Or.inl rfl))) (fun C ex s H=>jU) (fun C ex s H=>(aA G_law_turn.ok (hr.mono (by decide)) rfl G_law_turn.mg G_law_turn.kp G_law_turn.bn .nil a9 (aa (pv 1) (aa (pv 0) (aa (pv 2) ag)))))) (av _))))))),?_⟩
 have rc:(r:Int)*(c:Int)=((r*c:Nat):Int):=(Dy r c).symm
 have r1:=gd.r1
 have r3:=gd.r3
 have ok:=qf r1 r3 rc40 rc2
 have few:=ok.few
 have ul:=t3.1
 have kl:=AR gd c
 have hgl:(gS pat c).length=(sE r c).length:=t3.2.1
 obtain⟨dx,fs,q1,xs,hp,wg,_,lk,hq1,tk⟩:=wf
 obtain⟨q3,z3,l3,_,h3,rw3⟩:=wg.turns
 have xl:=tk.1
 have ty:=TyOf.ins hp cw.cl IC.hW IC.hn IC.htk IC.mW
 refine⟨_,rfl,_,_,_,_,_,rfl,ty,Or.inr ⟨_,rfl,rfl⟩,IC.ww,_,rfl,iteF ?_⟩
 refine⟨_,rfl,p,WC,dx,fs,_,rfl,hp,cw.cl,cw.n1,wg.many,_,rfl,_,rfl,iteF ?_⟩
 refine⟨_,rfl,p,WC,dx,fs,_,rfl,hp,cw.cl,cw.n1,wg.many,_,rfl,_,rfl,_,_,rfl,rfl,.inl ⟨by omega,by omega⟩,rfl,_,rfl,xn (congrArg V.int rc.symm) ?_⟩
 refine⟨_,rfl,p,WC,dx,fs,_,rfl,hp,cw.cl,cw.n2,lk,_,_,_,_,_,rfl,TyOf.lst hq1,Or.inl ⟨_,rfl,rfl⟩,AN K,_,rfl,iteF ?_⟩
 refine⟨_,rfl,p,WC,dx,fs,_,rfl,hp,cw.cl,cw.n2,lk,q1,xs,rfl,.inl (SqL.of hq1),_,rfl,q,us,rfl,.inl (SqL.of hq),rfl,_,rfl,xn (congrArg V.int (by omega)) ?_⟩
 refine⟨_,rfl,p,WC,dx,fs,_,rfl,hp,cw.cl,cw.n3,l3,_,_,_,_,_,rfl,TyOf.lst h3,Or.inl ⟨_,rfl,rfl⟩,AN K,_,rfl,iteF ?_⟩
 refine⟨_,rfl,q,us,rfl,.inl (SqL.of hq),_,rfl,by omega,by omega,bP (n:=(us.length:Int).toNat) (fun i σ H2=>Same H H2/\∃ v4,σ = [some (.ref p),some (.ref q),some (.int (r:Int)),some (.int (c:Int)),v4]) ⟨fun _ _ e=>e,_,rfl⟩ ?_ ?_⟩
 ·rintro i σ H2 hi ⟨s2,v4,rfl⟩
  rw[CF,ul]at hi
  have e0:(0:Int)+(i:Int)=(i:Int):=Dg _
  rw[e0]
  obtain⟨e,he⟩:∃ e,(sE r c)[i]?=some e:=⟨_,Cc hi⟩
  obtain⟨g,hg⟩:∃ g,(gS pat c)[i]?=some g:=⟨_,Cc (by omega)⟩
  obtain⟨t,ht,hT⟩:=t3.2.2 i e g he hg
  obtain⟨x,dx',hx,hX⟩:=tk.2 i e (kOf g) he (by rw[CH,hg];rfl)
  have kd:decide ((kOf g).1=1)=decide (g<0):=by
   unfold kOf
   by_cases c:g<0
   ·rw[if_pos c,decide_eq_true c];rfl
   ·rw[if_neg c,decide_eq_false c];rfl
  rw[kd]at hX
  refine⟨_,rfl,p,WC,dx,fs,_,rfl,s2 _ _ hp,cw.cl,cw.n2,lk,_,rfl,q1,xs,_,_,rfl,rfl,SqL.of (s2 _ _ hq1),aP hx,_,rfl,_,rfl,q,us,_,_,rfl,rfl,SqL.of (s2 _ _ hq),aP ht,x,dx',t,_,_,g,rfl,s2 _ _ hX,s2 _ _ hT,fun H3 s3=>⟨_,rfl,iteF ⟨s2.trans s3,_,rfl⟩⟩⟩
 rintro σ H2 ⟨s2,v4,rfl⟩
 refine⟨_,rfl,p,WC,dx,fs,_,rfl,s2 _ _ hp,cw.cl,cw.n3,l3,?_⟩
 refine⟨_,rfl,_,rfl,_,_,rfl,rfl,.inl ⟨by omega,by omega⟩,_,rfl,by omega,by omega,jc (fun j ys H3=>Same H2 H3/\cA H3 ys ((sT r c).take j)) (CQ (ar (by omega))) ⟨fun _ _ e=>e,rfl,fun i l e=>by simp at e⟩ ?_ ?_ ?_⟩
 ·rintro j ys H3 hj ⟨s3,ra⟩
  rw[Dg]
  have hj':j<r*c:=by omega
  refine⟨rfl,yesT ⟨_,rfl,_,rfl,_,rfl,q,us,sE r c,gS pat c,j,r,rfl,(s2.trans s3) _ _ hq,t3.mono (s2.trans s3),few,fun b H' s4 hb=>⟨s3.trans s4,?_⟩⟩⟩
  have lj:lawR r (sE r c) j=(sT r c).getD j []:=xS r1 r3 rc40 rc2 hj'
  have tl:(sT r c).length=r*c:=ok.gr.w.len
  have te:(sT r c)[j]?=some ((sT r c).getD j []):=by rw[Dr,Cc (by omega)];rfl
  rw[CY,te]
  rw[lj]at hb
  exact(ra.mono s4).snoc hb
 ·rintro ys H3 ⟨s3,ra⟩ D hD
  have sD:=ai hD (.lst ys)
  have tl:(sT r c).length=r*c:=ok.gr.w.len
  rw[Dq (by omega)]at ra
  exact⟨_,qA (SqL.of ((s2.trans (s3.trans sD)) _ _ h3)) (rw3.off.mono (s2.trans (s3.trans sD))),qA (SqL.of ae) (ra.mono sD),mv _,kk _ (s2.trans (s3.trans sD))⟩
 ·rintro j ys H3 ⟨_,ra⟩
  rw[ra.1,Dt]
  omega
end
end K8
namespace K8
open PySem L2
local macro_rules | `(tactic| walk_at "cc") => `(tactic| first | exact ⟨by decide, by decide⟩ | (show (0 : Int) < _; decide) | (show (0 : Int) < _; omega) | (show (0 : Int) ≤ _; omega) | exact ⟨by decide, by decide, by decide⟩ | exact ⟨by omega, by omega, by decide⟩ | exact Or.inl ⟨by decide, by decide⟩ | exact Or.inl ⟨by omega, by omega⟩)
local macro_rules | `(tactic| walk_at "rd") => `(tactic| repeat (first | refine ⟨_, rfl, ?_⟩ | refine ⟨_, _, rfl, rfl, ?_⟩ | refine ⟨rfl, ?_⟩ | (refine ⟨?cc, ?_⟩; (case cc => walk_at "cc"))))
structure SeF(K:B9)(B TW FE:Addr):Prop where
 eB:ErC K B
 eT:ErC K TW
 uB:CV K B (.ref FE)=some true
 uT:CV K TW (.ref FE)=some true
 bb:Cw K (.ref B) (.ref B)=some true
 bt:Cw K (.ref B) (.ref TW)=some false
 tb:Cw K (.ref TW) (.ref B)=some false
 tt:Cw K (.ref TW) (.ref TW)=some true
 vB:Cw K (.ref B) (.type "ValueError")=some true
 vT:Cw K (.ref TW) (.type "ValueError")=some true
structure TxtF(mg:Str->Option Value)(B TW FE:Addr):Prop extends TxtS mg B TW where
 n_ValueError:mg "ValueError" = none
 g_FloorError:mg "FloorError" = some (.ref FE)
theorem rV:bootBuiltins "ValueError" = some (.type "ValueError"):=by decide +kernel
theorem pX{X:Cx}{K:B9}(hK:X.K=K):k9 X (.builtin "isinstance") (fun xs H Q=>∃ x c dx d b,xs = [.ref x,.ref d]/\H x=some (excD x c dx)/\ErC K c/\Cw K (.ref c) (.ref d)=some b/\Q (.bl b) H):=by subst hK;exact zx
theorem vJ{X:Cx}{K:B9}(hK:X.K=K):k9 X (.builtin "isinstance") (fun xs H Q=>∃ x c dx T b,xs = [.ref x,.ty T]/\H x=some (excD x c dx)/\ErC K c/\Cw K (.ref c) (.type T)=some b/\Q (.bl b) H):=by subst hK;exact xA
theorem Good.uniq{r r':Nat}{pat:List Col}(g:Good r pat)(g':Good r' pat):r=r':=by
 have p0:=g.p0
 match pat,p0 with
 |c::pt,_=>exact(g.al c (CG ..)).1.symm.trans (g'.al c (CG ..)).1
def Ref(pat:List Col)(cols:Int):Bool->Prop
 |true=>Bad pat∨∃ r,Good r pat/\¬ (1<=cols/\cols<=10^18)
 |false=>∃ r:Nat,Good r pat/\1<=cols/\cols<=10^18/\((r:Int)*cols > 40∨(r:Int)*cols=1)
def xW:Sp:=fun vs H Q _=>∃(v:V)(pat:List Col)(cols:Int)(b:Bool),vs = [v,.int cols]/\iA H v pat/\Ref pat cols b/\∀(q:Addr)(H':Hp),Same H H'->H' q=some (.lst [.bl b,.bl (!b),.bl true])->Q (.ref q) H'
section
variable{P:Program}{w:World}{K:B9}{mg:Str->Option Value}{base:Heap}
theorem cG:aE ["pattern","columns","signs","e"] ["pattern","columns"] (ak bJ):=⟨rfl,rfl,rfl,by decide +kernel,rfl,by decide +kernel,by decide +kernel⟩
theorem Bv{f f1 B TW FE PL PS WC:Addr}{fd d1:FuncData} (F:Fun K "_law_refused" "_law_refused" bJ f fd) (T:TxtF mg B TW FE) (ecF:ExC K FE) (ef:SeF K B TW FE) (G_strip_web:CalD P w K mg base 7 "strip_web" ["pattern","columns"] (vX B TW PL PS WC) f1 d1):FnOk P w K mg base CX0 8 f fd ["pattern","columns"] xW:=by
 have hCs:∀ x,(x=B∨x=TW)->CV K x (.ref FE)=some true:=fun x e=>by
  rcases e with e | e
  ·subst e;exact ef.uB
  ·subst e;exact ef.uT
 refine F.ok cG (fun vs H Q E h=>?_) (fun cdv A outer s H vs Q E hr h=>?_)
 ·obtain⟨v,pat,cols,b,rfl,_⟩:=h
  rfl
 obtain⟨v,pat,cols,b,rfl,hP,rf,kk⟩:=h
 refine⟨_,(af (aI (i:=2) cG.nd rfl (Or.inl rfl) (bc ag))
   (af (yi (ie:=3) (Cs:=(fun c=>c=B∨c=TW)) rfl rfl rfl cG.nd rfl rfl rfl T.g_FloorError ecF hCs (fun pins XE W ws=>(aj (aY (yq G_strip_web.ok (hr.mono (by decide)) rfl G_strip_web.mg G_strip_web.kp G_strip_web.bn .nil ws rfl (aa (pv 0) (aa (pv 1) ag)))))) (fun v=>(aj (aI (i:=2) cG.nd rfl (Or.inl rfl) (bc (aa (az (pX (K:=K) rfl) (by rfl) T.n_isinstance aM (aa (pv 3) (aa (jZ (v:=.ref _) rfl T.g_BadStrip rfl) ag))) (aa (az (pX (K:=K) rfl) (by rfl) T.n_isinstance aM (aa (pv 3) (aa (jZ (v:=.ref _) rfl T.g_TooWide rfl) ag))) (aa (az (vJ (K:=K) rfl) (by rfl) T.n_isinstance aM (aa (pv 3) (aa (mE (v:=.ty "ValueError") rfl T.n_ValueError rV rfl) ag))) ag))))))))
   (aj (aJ (pv 2))))),?_⟩
 refine⟨(by show 0<=sizeLine;decide),fun q hq=>?_⟩
 have s1:=ai hq (.lst [])
 have hP1:=hP.mono s1
 refine⟨_,rfl,_,rfl,v,pat,cols,rfl,hP1,fun hb=>?_,fun r gd hc=>?_,fun r gd h1 h2 h3=>?_,fun r c gd ec h2 h40 p rs H' s' wf=>?_⟩
 ·have b1:b=true:=by
   cases b with
   |true=>rfl
   |false=>obtain⟨r,g,_⟩:=rf;exact absurd g (hb r)
  subst b1
  refine⟨B,rfl,.inl rfl,fun x hx=>?_⟩
  have sx:=ai hx (excD x B none)
  refine⟨_,rfl,x,B,none,B,_,rfl,ae,ef.eB,ef.bb,_,rfl,x,B,none,TW,_,rfl,ae,ef.eB,ef.bt,_,rfl,x,B,none,"ValueError",_,rfl,ae,ef.eB,ef.vB,(by show 3<=sizeLine;decide),fun l hl=>?_⟩
  exact⟨_,rfl,kk l _ (s1.trans (sx.trans (ai hl _))) ae⟩
 ·have b1:b=true:=by
   cases b with
   |true=>rfl
   |false=>obtain⟨r',g,c1,c2,_⟩:=rf;exact absurd ⟨c1,c2⟩ hc
  subst b1
  refine⟨B,rfl,.inl rfl,fun x hx=>?_⟩
  have sx:=ai hx (excD x B none)
  refine⟨_,rfl,x,B,none,B,_,rfl,ae,ef.eB,ef.bb,_,rfl,x,B,none,TW,_,rfl,ae,ef.eB,ef.bt,_,rfl,x,B,none,"ValueError",_,rfl,ae,ef.eB,ef.vB,(by show 3<=sizeLine;decide),fun l hl=>?_⟩
  exact⟨_,rfl,kk l _ (s1.trans (sx.trans (ai hl _))) ae⟩
 ·have b1:b=false:=by
   cases b with
   |false=>rfl
   |true =>
    rcases rf with z | ⟨r',_,z⟩
    ·exact absurd gd (z r)
    ·exact absurd ⟨h1,h2⟩ z
  subst b1
  refine⟨TW,rfl,.inr rfl,fun x hx=>?_⟩
  have sx:=ai hx (excD x TW none)
  refine⟨_,rfl,x,TW,none,B,_,rfl,ae,ef.eT,ef.tb,_,rfl,x,TW,none,TW,_,rfl,ae,ef.eT,ef.tt,_,rfl,x,TW,none,"ValueError",_,rfl,ae,ef.eT,ef.vT,(by show 3<=sizeLine;decide),fun l hl=>?_⟩
  exact⟨_,rfl,kk l _ (s1.trans (sx.trans (ai hl _))) ae⟩
 ·exfalso
  have c1:1<=c:=by
   by_cases z:1<=c
   ·exact z
   ·rw[show c=0 by omega]at h2;omega
  have c40:c<=40:=by have:=DQ c gd.r1;omega
  cases b with
  |true =>
   rcases rf with z | ⟨r',_,z⟩
   ·exact z r gd
   ·exact z ⟨by omega,by rw[ec];exact Int.le_trans (show(c:Int)<=40 by omega) (by decide)⟩
  |false =>
   obtain⟨r',g,_,_,z⟩:=rf
   have:=gd.uniq g
   subst this
   rw[ec,← Dy]at z
   omega
end
end K8
namespace K8
open PySem L2
local macro_rules | `(tactic| walk_at "cc") => `(tactic| first | exact ⟨by decide, by decide⟩ | (show (0 : Int) < _; decide) | (show (0 : Int) < _; omega) | (show (0 : Int) ≤ _; omega) | exact ⟨by decide, by decide, by decide⟩ | exact ⟨by omega, by omega, by decide⟩ | exact Or.inl ⟨by decide, by decide⟩ | exact Or.inl ⟨by omega, by omega⟩)
local macro_rules | `(tactic| walk_at "rd") => `(tactic| repeat (first | refine ⟨_, rfl, ?_⟩ | refine ⟨_, _, rfl, rfl, ?_⟩ | refine ⟨rfl, ?_⟩ | (refine ⟨?cc, ?_⟩; (case cc => walk_at "cc"))))
theorem AX{H:Hp}{q:Addr}{ys:List V}{bad:List Col}(hL:LsAt bC H ys bad)(h0:0<bad.length)(hq:H q=some (.lst ys)){a:Addr}{ns:List Int}(ha:H a=some (.lst (ns.map V.int))):a≠q:=fun e=>by
 rw[e,hq]at ha
 obtain⟨y,hy,t,_,_,rfl,_⟩:=hL.2 0 bad[0] (Cc h0)
 have:ys=ns.map V.int:=by cases ha;rfl
 rw[this,CH]at hy
 cases z:ns[0]? with
 |none=>rw[z]at hy;cases hy
 |some w=>rw[z]at hy;cases hy
theorem bC.put{H:Hp}{q:Addr}{us zs:List V}{v:V}{c:Col}(hne:∀ (a:Addr) (ns:List Int),H a=some (.lst (ns.map V.int))->a≠q)(hq:H q=some (.lst us))(h:bC H v c):bC (upd H q (.lst zs)) v c:=by
 obtain⟨t,a,b,e,h1,h2,h3⟩:=h
 exact⟨t,a,b,e,by rw[ao (fun y=>by rw[y,hq]at h1;cases h1)];exact h1,by rw[ao (hne _ _ h2)];exact h2,by rw[ao (hne _ _ h3)];exact h3⟩
theorem qe{a b:List Int}(h:a.map V.int=b.map V.int):a=b:=by
 induction a generalizing b with
 |nil=>cases b with
  |nil=>rfl
  |cons y b=>cases h
 |cons x a ih=>cases b with
  |nil=>cases h
  |cons y b =>
   rw[C0,C0]at h
   injection h with h1 h2
   rw[V.int.inj h1,ih h2]
theorem bC.uniq{H:Hp}{v:V}{c d:Col}(h:bC H v c)(k:bC H v d):c=d:=by
 obtain⟨t,a,b,rfl,h1,h2,h3⟩:=h
 obtain⟨t',a',b',e,k1,k2,k3⟩:=k
 cases e
 rw[h1]at k1
 cases k1
 rw[h2]at k2
 rw[h3]at k3
 have e1:c.1.map V.int=d.1.map V.int:=by injection k2 with z;injection z
 have e2:c.2.map V.int=d.2.map V.int:=by injection k3 with z;injection z
 exact Prod.ext (qe e1) (qe e2)
theorem bC.grow{H:Hp}{p:Addr}{old new:List Int}(hp:H p=some (.lst (old.map V.int))){v:V}{c:Col}(h:bC H v c):∃ c',bC (upd H p (.lst (new.map V.int))) v c':=by
 obtain⟨t,a,b,rfl,h1,h2,h3⟩:=h
 have ht:(upd H p (.lst (new.map V.int))) t=some (.tup [.ref a,.ref b]):=by rw[ao (fun y=>by rw[y,hp]at h1;cases h1)];exact h1
 by_cases za:a=p
 ·subst za
  by_cases zb:b=a
  ·subst zb
   exact⟨(new,new),t,b,b,rfl,ht,ae,ae⟩
  ·exact⟨(new,c.2),t,a,b,rfl,ht,ae,by rw[ao zb];exact h3⟩
 ·by_cases zb:b=p
  ·subst zb
   exact⟨(c.1,new),t,a,b,rfl,ht,by rw[ao za];exact h2,ae⟩
  ·exact⟨c,t,a,b,rfl,ht,by rw[ao za];exact h2,by rw[ao zb];exact h3⟩
open Classical in
noncomputable def colH (H:Hp) (y:V):Col:=if h:∃ c,bC H y c then Classical.choose h else([],[])
theorem zr{H:Hp}{y:V}{c:Col}(h:bC H y c):colH H y=c:=by
 unfold colH
 have e:∃ c,bC H y c:=⟨c,h⟩
 rw[dif_pos e]
 exact(Classical.choose_spec e).uniq h
theorem LsAt.ofAll{H:Hp}{ys:List V}(h:∀ (i:Nat) (y:V),ys[i]?=some y->∃ c,bC H y c):LsAt bC H ys (ys.map (colH H)) :=
 ⟨by rw[Cd],fun i x e=>by
  rw[CH]at e
  cases z:ys[i]? with
  |none=>rw[z]at e;cases e
  |some y =>
   rw[z]at e
   cases e
   obtain⟨c,hc⟩:=h i y z
   exact⟨y,rfl,by rw[zr hc];exact hc⟩⟩
theorem LsAt.set{α:Type}{R:Hp->V->α->Prop}{H:Hp}{ys:List V}{xs:List α}{i:Nat}{y:V}{x:α}(h:LsAt R H ys xs)(r:R H y x):LsAt R H (ys.set i y) (xs.set i x) :=
 ⟨by rw[Dl,Dl,h.1],fun j z e=>by
  rw[Dx]at e ⊢
  by_cases w:i=j
  ·subst w
   rw[if_pos rfl]at e ⊢
   split at e
   ·rename_i q
    rw[if_pos (by rw[h.1];exact q)]
    cases e
    exact⟨y,rfl,r⟩
   ·cases e
  ·rw[if_neg w]at e ⊢
   exact h.2 j z e⟩
theorem mw(k:Nat)(x:Int):(Ci k [V.int x]).flatten=(Ci k x).map V.int:=by
 induction k with
 |zero=>rfl
 |succ k ih=>rw[Dp,Dn,ih,Dp];rfl
theorem nI{bad:List Col}{c:Col}(hm:c∈bad)(h:c.2.length=0∨3<c.2.length∨c.1.length+1≠c.2.length):Bad bad:=fun r g=>by
 obtain⟨a,b⟩:=g.al c hm
 have:=g.r1
 have:=g.r3
 omega
theorem B5{bad:List Col}{c d:Col}(hc:c∈bad)(hd:d∈bad)(h:c.2.length≠d.2.length):Bad bad:=fun r g=>by
 obtain⟨a,_⟩:=g.al c hc
 obtain⟨b,_⟩:=g.al d hd
 omega
theorem sZ{α:Type}{l:List α}{i:Nat}{x:α}(h:i<l.length):x∈l.set i x:=by
 refine Ce (i:=i) ?_
 rw[Dx,if_pos rfl,if_pos h]
theorem Av(xs:List V):cutV xs (some 1) none=xs.drop 1:=by
 unfold cutV
 have q:=HT.sIx_nat xs.length 0 1
 rw[show((1:Nat):Int)=(1:Int) from rfl]at q
 rw[q,HT.sIx_none]
 rw[Dq (by rw[D5];omega)]
 by_cases h:1<=xs.length
 ·rw[Nat.min_eq_left h]
 ·have e:xs = []:=Eu (by omega)
  subst e
  simp
theorem mF{H:Hp}{q t:Addr}{ys:List V}{bad:List Col}{c:Col}{x:Nat}(hL:LsAt bC H ys bad)(hq:H q=some (.lst ys))(hn:bC H (.ref t) c)(h0:0<bad.length):LsAt bC (upd H q (.lst (ys.set x (.ref t)))) (ys.set x (.ref t)) (bad.set x c) :=
 (LsAt.set hL hn).imp fun _ _ y=>y.put (fun a ns h=>AX hL h0 hq h) hq
def uj:Sp:=fun vs H Q _=>∃(v:V)(r:Nat)(pat:List Col)(c:Int),vs = [v,.int c]/\iA H v pat/\Good r pat/\∀ u H' bad,iA H' u bad->Bad bad->Q u H'
def wJ(j:Int)(pat:List Col)(c:Int)(x:Nat):TS:=fun D σ H=>∃(v:V)(q:Addr)(ys:List V)(bad:List Col),σ = [some v,some (.int c),some (.ref q),some (.int (x:Int))]/\H q=some (.lst ys)/\LsAt bC H ys bad/\(c%7<j->Bad bad)/\(j<=c%7->bad=pat)/\∀ u H' bad,iA H' u bad->Bad bad->D.rt u H'
section
variable{P:Program}{w:World}{K:B9}{mg:Str->Option Value}{base:Heap}
theorem eu:aE ["pattern","cell","some","at"] ["pattern","cell"] (ak bI):=⟨rfl,rfl,rfl,by decide +kernel,rfl,by decide +kernel,by decide +kernel⟩
theorem zX{f:Addr}{fd:FuncData} (F:Fun K "_law_spoiled" "_law_spoiled" bI f fd) (T:Txt mg):FnOk P w K mg base CX0 1 f fd ["pattern","cell"] uj:=by
 refine F.ok eu (fun vs H Q E h=>?_) (fun cdv A outer s H vs Q E hr h=>?_)
 ·obtain⟨v,r,pat,c,rfl,_⟩:=h
  rfl
 obtain⟨v,r,pat,c,rfl,hP,g,kk⟩:=h
 have g0:=g.p0
 have g6:=g.p6
 have g1:=g.r1
 have g3:=g.r3
 obtain⟨x,ex,hx⟩:∃ x:Nat,c/7%(pat.length:Int)=(x:Int)/\x<pat.length:=by
  have h1:=EB (c/7) (show(pat.length:Int)≠0 by omega)
  have h2:=Int.emod_lt_of_pos (c/7) (show(0:Int)<(pat.length:Int) by omega)
  exact⟨(c/7%(pat.length:Int)).toNat,by omega,by omega⟩
 have s7:(0:Int)<7:=by decide
 have one:1<=sizeLine:=by decide
 have two:2<=sizeLine:=by decide
 refine⟨_,(af (jV (i:=2) rfl eu.nd rfl rfl (fr:=[]) (by exact cQ.plain (by rfl) (by decide +kernel) (by rfl) (by decide +kernel) (by rfl) (by decide +kernel)) (cR (pv 0)) (fun C ex s H=>(cq (aa (eY (fg (K:=K) rfl) (by rfl) T.n_list hJ (aa (aV (rB (K:=K) rfl) (pv 0) ah (fun _ _=>rfl)) ag)) (aa (eY (fg (K:=K) rfl) (by rfl) T.n_list hJ (aa (aV (rB (K:=K) rfl) (pv 0) ah (fun _ _=>rfl)) ag)) ag)))))
   (af (aI (i:=3) eu.nd rfl (Or.inl rfl) (aq aU (aq cE (pv 1) ah) (az aw (by rfl) T.n_len bQ (aa (pv 2) ag))))
   (af (aX (au fu (aq aU (pv 1) ah) ah (av _)) (aj (aJ (bc ag))) ay)
   (af (aX (au fu (aq aU (pv 1) ah) ah (av _)) (aj (aJ (aq yt (pv 2) (aq pQ (bc (aa (aV aN (pv 2) (pv 3) (fun _ _=>rfl)) ag)) (aq dR ah (az aw (by rfl) T.n_len bQ (aa (pv 2) ag))))))) ay)
   (af (aX (au fu (aq aU (pv 1) ah) ah (av _)) (aj (aY (gB CD CL CK a7 (aV cO (aV aN (pv 2) (pv 3) (fun _ _=>rfl)) ah (fun _ _=>rfl)) (aa (aq aU (aq cE (pv 1) ah) ah) ag)))) ay)
   (eA (t2:=wJ 3 pat c x) (af (aX (au fu (aq aU (pv 1) ah) ah (av _)) (af (sJ (cq (aa (aq pQ (bc (aa ah ag)) (az aw (by rfl) T.n_len bQ (aa (aV cO (aV aN (pv 2) (pv 3) (fun _ _=>rfl)) ah (fun _ _=>rfl)) ag))) (aa (aq yt (aV cO (aV aN (pv 2) (pv 3) (fun _ _=>rfl)) ah (fun _ _=>rfl)) (bc (aa ah ag))) ag))) (sP (pv 2) (pv 3) jn))
   (aj (aX (au fu (az aw (by rfl) T.n_len bQ (aa (pv 2) ag)) ah (av _)) (aj (sJ (cq (aa (aq pQ (bc (aa ah ag)) ah) (aa (aq pQ (bc (aa ah ag)) ah) ag))) (sP (pv 2) (pv 3) jn))) ay))) ay)
   (eA (t2:=wJ 4 pat c x) (af (aX (au fu (aq aU (pv 1) ah) ah (av _)) (aj (sJ (cq (aa (aV cO (aV aN (pv 2) (pv 3) (fun _ _=>rfl)) ah (fun _ _=>rfl)) (aa (bc ag) ag))) (sP (pv 2) (pv 3) jn))) ay)
   (eA (t2:=wJ 5 pat c x) (af (aX (au fu (aq aU (pv 1) ah) ah (av _)) (aj (sJ (cq (aa (aV cO (aV aN (pv 2) (pv 3) (fun _ _=>rfl)) ah (fun _ _=>rfl)) (aa (qH Bi (aV cO (aV aN (pv 2) (pv 3) (fun _ _=>rfl)) ah (fun _ _=>rfl)) (uF ah) uG) ag))) (sP (pv 2) (pv 3) jn))) ay)
   (eA (t2:=wJ 6 pat c x) (af (aX (au fu (aq aU (pv 1) ah) ah (av _)) (aj (sJ (cq (aa (aq pQ (bc (aa ah ag)) ah) (aa (aq pQ (bc (aa ah ag)) ah) ag))) (sP (pv 2) (pv 3) jn))) ay)
   (eA (t2:=wJ 7 pat c x) (aj (aJ (pv 2))) (fun D0 S0 H0 h0=>?rest7))) (fun D0 S0 H0 h0=>?rest6))) (fun D0 S0 H0 h0=>?rest5))) (fun D0 S0 H0 h0=>?rest4))) (fun D0 S0 H0 h0=>?rest3))))))),?_⟩
 case rest7 =>
  obtain⟨v,q,ys,bad,rfl,hq,hL,hb,_,kr⟩:=h0
  exact⟨_,rfl,kr _ _ bad ⟨q,ys,rfl,hq,hL⟩ (hb (by omega))⟩
 case rest6 =>
  obtain⟨v,q,ys,bad,rfl,hq,hL,hb,he,kr⟩:=h0
  refine⟨_,rfl,_,_,rfl,rfl,s7,rfl,_,rfl,ite2 (fun z=>?_) (fun z=>?_)⟩
  ·have z':c%7=6:=V.int.inj (of_decide_eq_true z)
   have e:=he (by omega)
   subst e
   have yl:=hL.1
   refine⟨one,fun p1 hp1=>?_⟩
   have s1:=ai hp1 (.lst [.int 0])
   refine⟨p1,3,[.int 0],rfl,rfl,ae,by decide,by decide,CQ (ar (by decide)),fun p2 hp2=>?_⟩
   rw[show((3:Int)).toNat=3 from rfl,mw]
   have s2:=s1.trans (ai hp2 (.lst ((Ci 3 (0:Int)).map V.int)))
   have k2:(upd (upd H0 p1 (.lst [.int 0])) p2 (.lst ((Ci 3 (0:Int)).map V.int))) p2=some (.lst ((Ci 3 (0:Int)).map V.int)):=ae
   generalize upd (upd H0 p1 (.lst [.int 0])) p2 (.lst ((Ci 3 (0:Int)).map V.int))=H2 at s2 k2
   refine⟨one,fun p3 hp3=>?_⟩
   have s3:=ai hp3 (.lst [.int 0])
   refine⟨p3,4,[.int 0],rfl,rfl,ae,by decide,by decide,CQ (ar (by decide)),fun p4 hp4=>?_⟩
   rw[show((4:Int)).toNat=4 from rfl,mw]
   have s4:=s3.trans (ai hp4 (.lst ((Ci 4 (0:Int)).map V.int)))
   have k4:(upd (upd H2 p3 (.lst [.int 0])) p4 (.lst ((Ci 4 (0:Int)).map V.int))) p4=some (.lst ((Ci 4 (0:Int)).map V.int)):=ae
   generalize upd (upd H2 p3 (.lst [.int 0])) p4 (.lst ((Ci 4 (0:Int)).map V.int))=H4 at s4 k4
   refine⟨two,fun t5 ht5=>?_⟩
   have s5:=ai ht5 (.tup [.ref p2,.ref p4])
   have sA:=s2.trans (s4.trans s5)
   have hn:bC (upd H4 t5 (.tup [.ref p2,.ref p4])) (.ref t5) (Ci 3 (0:Int),Ci 4 (0:Int)):=⟨t5,p2,p4,rfl,ae,(s4.trans s5) _ _ k2,s5 _ _ k4⟩
   exact⟨_,rfl,_,rfl,q,ys,_,x,rfl,rfl,sA _ _ hq,mZ (by omega),v,q,_,_,rfl,ae,mF (hL.imp fun _ _ y=>y.mono sA) (sA _ _ hq) hn g0,fun _=>nI (sZ hx) (.inr (.inl (by decide))),fun e=>by omega,kr⟩
  ·have z':¬ c%7=6:=fun e=>z (decide_eq_true (congrArg V.int e))
   exact⟨v,q,ys,bad,rfl,hq,hL,fun e=>hb (by omega),fun e=>by omega,kr⟩
 case rest5 =>
  obtain⟨v,q,ys,bad,rfl,hq,hL,hb,he,kr⟩:=h0
  refine⟨_,rfl,_,_,rfl,rfl,s7,rfl,_,rfl,ite2 (fun z=>?_) (fun z=>?_)⟩
  ·have z':c%7=5:=V.int.inj (of_decide_eq_true z)
   have e:=he (by omega)
   subst e
   have yl:=hL.1
   obtain⟨d,hd⟩:∃ d,bad[x]?=some d:=⟨_,Cc hx⟩
   obtain⟨y,hy,t,c1,c2,rfl,ht,h1,h2⟩:=hL.2 x d hd
   obtain⟨al1,al2⟩:=g.al d (Ce hd)
   refine⟨_,rfl,_,rfl,q,_,_,_,rfl,rfl,SqL.of hq,aP hy,t,_,0,_,rfl,rfl,SqT.of ht,at0,_,rfl,_,rfl,q,_,_,_,rfl,rfl,SqL.of hq,aP hy,t,_,1,_,rfl,rfl,SqT.of ht,at1,_,rfl,c2,_,rfl,SqL.of h2,fun p hp=>?_⟩
   have ecut:cutV (d.2.map V.int) (some 1) none=(d.2.drop 1).map V.int:=(Av _).trans (List.map_drop ..).symm
   rw[ecut]
   have sp:=ai hp (.lst ((d.2.drop 1).map V.int))
   refine⟨two,fun t5 ht5=>?_⟩
   have st:=ai ht5 (.tup [.ref c1,.ref p])
   have sA:=sp.trans st
   have hn:bC (upd (upd H0 p (.lst ((d.2.drop 1).map V.int))) t5 (.tup [.ref c1,.ref p])) (.ref t5) (d.1,d.2.drop 1):=⟨t5,c1,p,rfl,ae,sA _ _ h1,st _ _ ae⟩
   refine⟨_,rfl,_,rfl,q,ys,_,x,rfl,rfl,sA _ _ hq,mZ (by omega),v,q,_,_,rfl,ae,mF (hL.imp fun _ _ y=>y.mono sA) (sA _ _ hq) hn g0,fun _=>nI (sZ hx) ?_,fun e=>by omega,kr⟩
   show(d.2.drop 1).length=0∨3<(d.2.drop 1).length∨d.1.length+1≠(d.2.drop 1).length
   rw[D5];omega
  ·have z':¬ c%7=5:=fun e=>z (decide_eq_true (congrArg V.int e))
   exact⟨v,q,ys,bad,rfl,hq,hL,fun e=>hb (by omega),fun e=>he (by omega),kr⟩
 case rest4 =>
  obtain⟨v,q,ys,bad,rfl,hq,hL,hb,he,kr⟩:=h0
  refine⟨_,rfl,_,_,rfl,rfl,s7,rfl,_,rfl,ite2 (fun z=>?_) (fun z=>?_)⟩
  ·have z':c%7=4:=V.int.inj (of_decide_eq_true z)
   have e:=he (by omega)
   subst e
   have yl:=hL.1
   obtain⟨d,hd⟩:∃ d,bad[x]?=some d:=⟨_,Cc hx⟩
   obtain⟨y,hy,t,c1,c2,rfl,ht,h1,h2⟩:=hL.2 x d hd
   refine⟨_,rfl,_,rfl,q,_,_,_,rfl,rfl,SqL.of hq,aP hy,t,_,0,_,rfl,rfl,SqT.of ht,at0,(by show 0<=sizeLine;decide),fun p hp=>?_⟩
   have sp:=ai hp (.lst [])
   refine⟨two,fun t5 ht5=>?_⟩
   have st:=ai ht5 (.tup [.ref c1,.ref p])
   have sA:=sp.trans st
   have hn:bC (upd (upd H0 p (.lst [])) t5 (.tup [.ref c1,.ref p])) (.ref t5) (d.1,[]):=⟨t5,c1,p,rfl,ae,sA _ _ h1,st _ _ ae⟩
   exact⟨_,rfl,_,rfl,q,ys,_,x,rfl,rfl,sA _ _ hq,mZ (by omega),v,q,_,_,rfl,ae,mF (hL.imp fun _ _ y=>y.mono sA) (sA _ _ hq) hn g0,fun _=>nI (sZ hx) (.inl rfl),fun e=>by omega,kr⟩
  ·have z':¬ c%7=4:=fun e=>z (decide_eq_true (congrArg V.int e))
   exact⟨v,q,ys,bad,rfl,hq,hL,fun e=>hb (by omega),fun e=>he (by omega),kr⟩
 case rest3 =>
  obtain⟨v,q,ys,bad,rfl,hq,hL,hb,he,kr⟩:=h0
  refine⟨_,rfl,_,_,rfl,rfl,s7,rfl,_,rfl,ite2 (fun z=>?_) (fun z=>?_)⟩
  ·have z':c%7=3:=V.int.inj (of_decide_eq_true z)
   have e:=he (by omega)
   subst e
   have yl:=hL.1
   obtain⟨d,hd⟩:∃ d,bad[x]?=some d:=⟨_,Cc hx⟩
   obtain⟨y,hy,t,c1,c2,rfl,ht,h1,h2⟩:=hL.2 x d hd
   obtain⟨al1,al2⟩:=g.al d (Ce hd)
   refine⟨one,fun p1 hp1=>?_⟩
   have s1:=ai hp1 (.lst [.int 0])
   refine⟨_,rfl,_,rfl,q,_,_,_,rfl,rfl,SqL.of (s1 _ _ hq),aP hy,t,_,1,_,rfl,rfl,SqT.of (s1 _ _ ht),at1,c2,_,rfl,.inl (SqL.of (s1 _ _ h2)),?_⟩
   refine⟨p1,_,[.int 0],rfl,rfl,ae,by omega,by rw[Cd];omega +splitDisjunctions,CQ (ar (by rw[Cd,CF];show 1*_<=1000;omega)),fun p2 hp2=>?_⟩
   rw[Cd,CF,mw]
   have s2:=s1.trans (ai hp2 (.lst ((Ci d.2.length (0:Int)).map V.int)))
   have k2:(upd (upd H0 p1 (.lst [.int 0])) p2 (.lst ((Ci d.2.length (0:Int)).map V.int))) p2=some (.lst ((Ci d.2.length (0:Int)).map V.int)):=ae
   generalize upd (upd H0 p1 (.lst [.int 0])) p2 (.lst ((Ci d.2.length (0:Int)).map V.int))=H2 at s2 k2
   refine⟨_,rfl,_,rfl,q,_,_,_,rfl,rfl,SqL.of (s2 _ _ hq),aP hy,t,_,1,_,rfl,rfl,SqT.of (s2 _ _ ht),at1,one,fun p3 hp3=>?_⟩
   have s3:=ai hp3 (.lst [.int 1])
   refine⟨c2,p3,_,_,rfl,rfl,SqL.of (s3 _ _ (s2 _ _ h2)),SqL.of ae,CQ (ar (by rw[Cd];show _+1<=1000;omega)),fun p4 hp4=>?_⟩
   have ecat:d.2.map V.int++[V.int 1]=(d.2++[1]).map V.int:=by rw[CP];rfl
   rw[ecat]
   have s4:=s3.trans (ai hp4 (.lst ((d.2++[1]).map V.int)))
   have k4:(upd (upd H2 p3 (.lst [.int 1])) p4 (.lst ((d.2++[1]).map V.int))) p4=some (.lst ((d.2++[1]).map V.int)):=ae
   generalize upd (upd H2 p3 (.lst [.int 1])) p4 (.lst ((d.2++[1]).map V.int))=H4 at s4 k4
   refine⟨two,fun t5 ht5=>?_⟩
   have s5:=ai ht5 (.tup [.ref p2,.ref p4])
   have sA:=s2.trans (s4.trans s5)
   have hn:bC (upd H4 t5 (.tup [.ref p2,.ref p4])) (.ref t5) (Ci d.2.length (0:Int),d.2++[1]):=⟨t5,p2,p4,rfl,ae,(s4.trans s5) _ _ k2,s5 _ _ k4⟩
   have hL5:=mF (x:=x) (hL.imp fun _ _ y=>y.mono sA) (sA _ _ hq) hn g0
   have hqA:=sA _ _ hq
   generalize upd H4 t5 (.tup [.ref p2,.ref p4])=H5 at hL5 hqA
   refine⟨_,rfl,_,rfl,q,ys,_,x,rfl,rfl,hqA,mZ (by omega),?_⟩
   have hq6:(upd H5 q (.lst (ys.set x (.ref t5)))) q=some (.lst (ys.set x (.ref t5))):=ae
   generalize upd H5 q (.lst (ys.set x (.ref t5)))=H6 at hL5 hq6
   have ysl:(ys.set x (.ref t5)).length=ys.length:=Dl ..
   refine⟨_,rfl,q,_,rfl,.inl (SqL.of hq6),rfl,_,rfl,ite2 (fun y=>?_) (fun y=>?_)⟩
   ·refine⟨one,fun o1 ho1=>?_⟩
    have u1:=ai ho1 (.lst [.int 0])
    refine⟨o1,3,[.int 0],rfl,rfl,ae,by decide,by decide,CQ (ar (by decide)),fun o2 ho2=>?_⟩
    rw[show((3:Int)).toNat=3 from rfl,mw]
    have u2:=u1.trans (ai ho2 (.lst ((Ci 3 (0:Int)).map V.int)))
    have j2:(upd (upd H6 o1 (.lst [.int 0])) o2 (.lst ((Ci 3 (0:Int)).map V.int))) o2=some (.lst ((Ci 3 (0:Int)).map V.int)):=ae
    generalize upd (upd H6 o1 (.lst [.int 0])) o2 (.lst ((Ci 3 (0:Int)).map V.int))=H7 at u2 j2
    refine⟨one,fun o3 ho3=>?_⟩
    have u3:=ai ho3 (.lst [.int 1])
    refine⟨o3,4,[.int 1],rfl,rfl,ae,by decide,by decide,CQ (ar (by decide)),fun o4 ho4=>?_⟩
    rw[show((4:Int)).toNat=4 from rfl,mw]
    have u4:=u3.trans (ai ho4 (.lst ((Ci 4 (1:Int)).map V.int)))
    have j4:(upd (upd H7 o3 (.lst [.int 1])) o4 (.lst ((Ci 4 (1:Int)).map V.int))) o4=some (.lst ((Ci 4 (1:Int)).map V.int)):=ae
    generalize upd (upd H7 o3 (.lst [.int 1])) o4 (.lst ((Ci 4 (1:Int)).map V.int))=H8 at u4 j4
    refine⟨two,fun o5 ho5=>?_⟩
    have u5:=ai ho5 (.tup [.ref o2,.ref o4])
    have uA:=u2.trans (u4.trans u5)
    have hn':bC (upd H8 o5 (.tup [.ref o2,.ref o4])) (.ref o5) (Ci 3 (0:Int),Ci 4 (1:Int)):=⟨o5,o2,o4,rfl,ae,(u4.trans u5) _ _ j2,u5 _ _ j4⟩
    have l0:0<(bad.set x (Ci d.2.length (0:Int),d.2++[1])).length:=by rw[Dl];exact g0
    exact⟨_,rfl,_,rfl,q,_,_,x,rfl,rfl,uA _ _ hq6,mZ (by omega),v,q,_,_,rfl,ae,mF (hL5.imp fun _ _ y=>y.mono uA) (uA _ _ hq6) hn' l0,fun _=>nI (sZ (by rw[Dl];exact hx)) (.inr (.inl (by decide))),fun e=>by omega,kr⟩
   ·have y':¬ ys.length=1:=fun e=>y (decide_eq_true (congrArg V.int (by rw[ysl,e];rfl)))
    obtain⟨i,hi,ni⟩:∃ i,i<bad.length/\i≠x:=by
     by_cases x0:x=0
     ·exact⟨1,by omega,by omega⟩
     ·exact⟨0,by omega,by omega⟩
    obtain⟨o,ho⟩:∃ o,bad[i]?=some o:=⟨_,Cc hi⟩
    refine⟨v,q,_,_,rfl,hq6,hL5,fun _=>B5 (c:=o) (d:=(Ci d.2.length (0:Int),d.2++[1])) (Ce (i:=i) (by rw[Dx,if_neg (fun e=>ni e.symm)];exact ho)) (sZ hx) ?_,fun e=>by omega,kr⟩
    have:=(g.al o (Ce ho)).1
    show o.2.length≠(d.2++[1]).length
    rw[Cb,Cp]
    omega
  ·have z':¬ c%7=3:=fun e=>z (decide_eq_true (congrArg V.int e))
   exact⟨v,q,ys,bad,rfl,hq,hL,fun e=>hb (by omega),fun e=>he (by omega),kr⟩
 obtain⟨a,ys0,rfl,hA,hL0⟩:=hP
 have yl0:=hL0.1
 refine⟨_,rfl,a,rfl,⟨_,SqL.of hA⟩,gU (K:=K) (xs:=ys0) (fun i zs H2=>Same H H2/\LsAt bC H2 zs (pat.take i)) (CQ (ar (by omega))) ⟨fun _ _ e=>e,LsAt.nil⟩ (fun i zs H2 _ z=>SqL.of (z.1 _ _ hA)) ?_ ?_⟩
 ·rintro i y zs H2 hy ⟨s2,hZ⟩
  obtain⟨d,hd,t,a1,b1,rfl,ht,ha,hb⟩:=hL0.get hy
  refine⟨_,rfl,t,_,0,_,rfl,rfl,SqT.of (s2 _ _ ht),at0,a1,_,rfl,.inl (SqL.of (s2 _ _ ha)),fun p hp=>?_⟩
  have s3:=ai hp (.lst (d.1.map V.int))
  have s23:=s2.trans s3
  refine⟨_,rfl,t,_,1,_,rfl,rfl,SqT.of (s23 _ _ ht),at1,b1,_,rfl,.inl (SqL.of (s23 _ _ hb)),fun q hq=>?_⟩
  have s4:=ai hq (.lst (d.2.map V.int))
  refine⟨two,fun t5 ht5=>?_⟩
  have s5:=ai ht5 (.tup [.ref p,.ref q])
  have s35:=s3.trans (s4.trans s5)
  refine⟨s2.trans s35,?_⟩
  rw[CY,hd]
  exact(hZ.imp fun _ _ y=>y.mono s35).snoc ⟨t5,p,q,rfl,ae,s5 _ _ (s4 _ _ ae),s5 _ _ ae⟩
 rintro ys H2 _ ⟨s2,hZ⟩ q hq
 rw[yl0,C7]at hZ
 have sD:=ai hq (.lst ys)
 have hL:=hZ.imp (R':=bC) fun _ _ y=>y.mono sD
 have hq:(upd H2 q (.lst ys)) q=some (.lst ys):=ae
 generalize upd H2 q (.lst ys)=H1 at hL hq
 have yl:=hL.1
 refine⟨_,rfl,_,_,rfl,rfl,⟨by decide,by decide⟩,_,rfl,q,ys,rfl,.inl (SqL.of hq),_,_,rfl,rfl,(by omega),?_⟩
 have ex':c/7%(ys.length:Int)=(x:Int):=by rw[yl];exact ex
 simp only[ex']
 refine⟨_,rfl,_,_,rfl,rfl,s7,rfl,_,rfl,ite2 (fun z=>?_) (fun z=>?_)⟩
 ·refine⟨(by show 0<=sizeLine;decide),fun p hp=>?_⟩
  exact kk _ _ [] ⟨p,[],rfl,ae,LsAt.nil⟩ fun r g=>absurd g.p0 (C4 _)
 have z0:¬ c%7=0:=fun e=>z (decide_eq_true (congrArg V.int e))
 refine⟨_,rfl,_,_,rfl,rfl,s7,rfl,_,rfl,ite2 (fun z=>?_) (fun z=>?_)⟩
 ·obtain⟨d,hd⟩:∃ d,pat[x]?=some d:=⟨_,Cc hx⟩
  obtain⟨y,hy,hY⟩:=hL.2 x d hd
  refine⟨_,rfl,_,rfl,_,rfl,q,ys,_,_,rfl,rfl,SqL.of hq,aP hy,one,fun p1 hp1=>?_⟩
  have s1:=ai hp1 (.lst [y])
  refine⟨_,rfl,q,ys,rfl,.inl (SqL.of (s1 _ _ hq)),_,_,rfl,rfl,p1,_,[y],rfl,rfl,ae,by omega,by omega,CQ (ar (by show 1*_<=1000;omega)),fun p2 hp2=>?_⟩
  have s2:=s1.trans (ai hp2 (.lst (Ci ((7:Int)-(ys.length:Int)).toNat [y]).flatten))
  have fl:=yG [y] ((7:Int)-(ys.length:Int)).toNat
  rw[Cp,Nat.mul_one]at fl
  refine⟨q,p2,ys,_,rfl,rfl,SqL.of (s2 _ _ hq),SqL.of ae,CQ (ar (by omega)),fun p3 hp3=>?_⟩
  have s3:=s2.trans (ai hp3 (.lst (ys++(Ci ((7:Int)-(ys.length:Int)).toNat [y]).flatten)))
  refine kk _ _ _ ⟨p3,_,rfl,ae,LsAt.ofAll fun i u hu=>?_⟩ fun r' g'=>?_
  ·rcases CA.mp (Ce hu)with m | m
   ·obtain⟨k,hk,e⟩:=List.getElem_of_mem m
    obtain⟨d',_,hD⟩:=hL.get (show ys[k]?=some u by rw[Cc hk,e])
    exact⟨d',hD.mono s3⟩
   ·obtain⟨l,hl,hu'⟩:=De.mp m
    rw[(List.mem_replicate.mp hl).2]at hu'
    rw[List.mem_singleton.mp hu']
    exact⟨d,hY.mono s3⟩
  ·have:=g'.p6
   rw[Cd,Cb,fl]at this
   omega
 have z1:¬ c%7=1:=fun e=>z (decide_eq_true (congrArg V.int e))
 refine⟨_,rfl,_,_,rfl,rfl,s7,rfl,_,rfl,ite2 (fun z=>?_) (fun z=>?_)⟩
 ·have z2:c%7=2:=V.int.inj (of_decide_eq_true z)
  obtain⟨d,hd⟩:∃ d,pat[x]?=some d:=⟨_,Cc hx⟩
  obtain⟨y,hy,t,c1,c2,rfl,ht,h1,h2⟩:=hL.2 x d hd
  obtain⟨al1,al2⟩:=g.al d (Ce hd)
  refine⟨_,rfl,_,rfl,q,_,_,_,rfl,rfl,SqL.of hq,aP hy,t,_,0,_,rfl,rfl,SqT.of ht,at0,.inl ⟨rfl,_,SqL.of h1⟩,_,rfl,_,_,rfl,rfl,⟨by decide,by decide⟩,_,_,rfl,rfl,(by decide:(0:Int)<5),c1,_,_,rfl,rfl,h1,ar (by rw[Cd];omega),?_⟩
  show wJ 3 pat c x _ _ (upd H1 c1 (.lst (d.1.map V.int++[V.int (c/49%5)])))
  generalize c/49%5=mo
  have ea:d.1.map V.int++[V.int mo]=(d.1++[mo]).map V.int:=by rw[CP];rfl
  rw[ea]
  have nq:q≠c1:=(AX hL g0 hq h1).symm
  have n12:c2≠c1:=fun e=>by
   rw[e,h1]at h2
   have:=qe (show d.1.map V.int=d.2.map V.int by injection h2 with u;injection u)
   rw[← this]at al1;omega
  have hn:bC (upd H1 c1 (.lst ((d.1++[mo]).map V.int))) (.ref t) (d.1++[mo],d.2):=⟨t,c1,c2,rfl,by rw[ao (fun y=>by rw[y,h1]at ht;cases ht)];exact ht,ae,by rw[ao n12];exact h2⟩
  have hA:=LsAt.ofAll (H:=upd H1 c1 (.lst ((d.1++[mo]).map V.int))) (ys:=ys) fun i y hi=>by
   obtain⟨e,he,hE⟩:=hL.get hi
   exact hE.grow h1
  refine⟨_,q,ys,_,rfl,by rw[ao nq];exact hq,hA,fun _=>?_,fun e=>by omega,kk⟩
  refine nI (c:=(d.1++[mo],d.2)) ?_ ?_
  ·exact Dc.mpr ⟨.ref t,Ce hy,zr hn⟩
  ·show d.2.length=0∨3<d.2.length∨(d.1++[mo]).length+1≠d.2.length
   rw[Cb]
   show _∨_∨d.1.length+1+1≠d.2.length
   omega
 ·have z2:¬ c%7=2:=fun e=>z (decide_eq_true (congrArg V.int e))
  exact⟨_,q,ys,pat,rfl,hq,hL,fun e=>by have:=EB c (show(7:Int)≠0 by decide);omega,fun _=>rfl,kk⟩
end
end K8
namespace K8
open PySem L2
local macro_rules | `(tactic| walk_at "cc") => `(tactic| first | exact ⟨by decide, by decide⟩ | (show (0 : Int) < _; decide) | (show (0 : Int) < _; omega) | (show (0 : Int) ≤ _; omega) | exact ⟨by decide, by decide, by decide⟩ | exact ⟨by omega, by omega, by decide⟩ | exact Or.inl ⟨by decide, by decide⟩ | exact Or.inl ⟨by omega, by omega⟩)
local macro_rules | `(tactic| walk_at "rd") => `(tactic| repeat (first | refine ⟨_, rfl, ?_⟩ | refine ⟨_, _, rfl, rfl, ?_⟩ | refine ⟨rfl, ?_⟩ | (refine ⟨?cc, ?_⟩; (case cc => walk_at "cc"))))
section
variable{K:B9}
theorem yR{H:Hp}{a:Addr}{ns:List Int}(h:H a=some (.lst (ns.map V.int))):RdD K H (.ref a) (.list (ns.map PyData.int)):=by
 refine RdD.lst (SqL.of h) (by rw[Cd,Cd]) fun i x d e1 e2=>?_
 rw[CH]at e1 e2
 cases q:ns[i]? with
 |none=>rw[q]at e1;cases e1
 |some z=>rw[q]at e1 e2;cases e1;cases e2;exact .int _
def dCol(c:Col):PyData:=.tuple [.list (c.1.map PyData.int),.list (c.2.map PyData.int)]
theorem bC.rd{H:Hp}{v:V}{c:Col}(h:bC H v c):RdD K H v (dCol c):=by
 obtain⟨t,a,b,rfl,ht,ha,hb⟩:=h
 refine RdD.tup (SqT.of ht) rfl fun j x d q1 q2=>?_
 match j with
 |0=>cases q1;cases q2;exact yR ha
 |1=>cases q1;cases q2;exact yR hb
 |j+2=>cases q1
theorem iA.rd{H:Hp}{v:V}{pat:List Col}(h:iA H v pat):RdD K H v (.list (pat.map dCol)):=by
 obtain⟨a,ys,rfl,ha,hL⟩:=h
 refine RdD.lst (SqL.of ha) (by rw[Cd];exact hL.1) fun i x d e1 e2=>?_
 rw[CH]at e2
 obtain⟨p,hp,hx⟩:=hL.get e1
 rw[hp]at e2
 cases e2
 exact hx.rd
theorem flatI(ns:List Int):PyData.canLayAll0 (ns.map PyData.int)=true/\PyData.depthAll (ns.map PyData.int)<=2:=by
 refine⟨eh fun d hd=>?_,fO fun d hd=>?_⟩
 ·obtain⟨p,_,rfl⟩:=Dc.mp hd
  simp[PyData.canLay0]
 ·obtain⟨p,_,rfl⟩:=Dc.mp hd
  simp[PyData.depth]
theorem Bk(pat:List Col):SeqAt.shaped (.list (pat.map dCol))=true:=by
 refine mr fun d hd=>?_
 obtain⟨c,_,rfl⟩:=Dc.mp hd
 obtain⟨a1,a2⟩:=flatI c.1
 obtain⟨b1,b2⟩:=flatI c.2
 unfold dCol
 constructor
 ·simp[PyData.canLay0,PyData.canLayAll0,a1,b1]
 ·simp only[PyData.depth,PyData.depthAll]
  omega
end
theorem iM{K:B9}{H:Hp}{a:Addr}{x y z:Bool}(h:H a=some (.lst [.bl x,.bl y,.bl z])):RdD K H (.ref a) (.list [.bool x,.bool y,.bool z]):=by
 refine RdD.lst (SqL.of h) rfl fun j u d q1 q2=>?_
 match j with
 |0=>cases q1;cases q2;exact .bl _
 |1=>cases q1;cases q2;exact .bl _
 |2=>cases q1;cases q2;exact .bl _
 |j+3=>cases q1
theorem fj(x y z:Bool):SeqAt.shaped (.list [.bool x,.bool y,.bool z])=true:=by
 simp[SeqAt.shaped,PyData.canLay0,PyData.canLayAll0,PyData.depth,PyData.depthAll]
def qm(K:B9):Sp:=fun vs H Q _=>∃(a:Addr)(ns:List Int),vs = [.ref a]/\SqL K H a (ns.map V.int)/\ns.length<=63/\∀ H',Q (.bl true) H'
section
variable{P:Program}{w:World}{K:B9}{mg:Str->Option Value}{base:Heap}
theorem lh:aE ["script","rows","pattern","handed","columns","spoiled","web","ties"] ["script"] (ak qz):=⟨rfl,rfl,rfl,by decide +kernel,rfl,by decide +kernel,by decide +kernel⟩
theorem ok_law{f f1 f2 f3 f4 f5 f6 f7 f8 B TW PL PS WC:Addr}{fd d1 d2 d3 d4 d5 d6 d7 d8:FuncData} (F:Fun K "law" "law" qz f fd) (T:Txt mg) (G_law_cell:Cal P w K mg base 1 "_law_cell" ["script","k"] (vY K) f1 d1) (G_law_pattern:Cal P w K mg base 2 "_law_pattern" ["script","first","rows","period"] (x4 K) f2 d2) (G_law_columns:Cal P w K mg base 1 "_law_columns" ["cell","rows"] x9 f3 d3) (G_law_spoiled:Cal P w K mg base 1 "_law_spoiled" ["pattern","cell"] uj f4 d4) (G_law_refused:Cal P w K mg base 8 "_law_refused" ["pattern","columns"] xW f5 d5) (G_strip_web:CalD P w K mg base 7 "strip_web" ["pattern","columns"] (vX B TW PL PS WC) f6 d6) (G_law_strip_ties:Cal P w K mg base 1 "_law_strip_ties" ["pattern","rows","columns"] (uv K) f7 d7) (G_law_same_web:Cal P w K mg base 3 "_law_same_web" ["web","ties","rows","columns"] (mh PL PS WC) f8 d8):FnOk P w K mg base CX0 9 f fd ["script"] (qm K):=by
 refine F.ok lh (fun vs H Q E h=>?_) (fun cdv A outer s H vs Q E hr h=>?_)
 ·obtain⟨a,ns,rfl,_⟩:=h
  rfl
 obtain⟨a,ns,rfl,hS,h63,kq⟩:=h
 have hu64:=hr.units
 refine⟨_,(af (aI (i:=1) lh.nd rfl (Or.inl rfl) (aq aL ah (aq aU (aA G_law_cell.ok (hr.mono (by decide)) rfl G_law_cell.mg G_law_cell.kp G_law_cell.bn .nil a9 (aa (pv 0) (aa ah ag))) ah)))
   (af (aI (i:=2) lh.nd rfl (Or.inl rfl) (aA G_law_pattern.ok (hr.mono (by decide)) rfl G_law_pattern.mg G_law_pattern.kp G_law_pattern.bn .nil a9 (aa (pv 0) (aa ah (aa (pv 1) (aa (aq aL ah (aq aU (aq cE (aA G_law_cell.ok (hr.mono (by decide)) rfl G_law_cell.mg G_law_cell.kp G_law_cell.bn .nil a9 (aa (pv 0) (aa ah ag))) ah) ah)) ag))))))
   (af (jV (i:=3) rfl lh.nd rfl rfl (fr:=[]) (by exact cQ.plain (by rfl) (by decide +kernel) (by rfl) (by decide +kernel) (by rfl) (by decide +kernel)) (cR (pv 2)) (fun C ex s H=>(cq (aa (eY (fg (K:=K) rfl) (by rfl) T.n_list hJ (aa (aV (rB (K:=K) rfl) (pv 0) ah (fun _ _=>rfl)) ag)) (aa (eY (fg (K:=K) rfl) (by rfl) T.n_list hJ (aa (aV (rB (K:=K) rfl) (pv 0) ah (fun _ _=>rfl)) ag)) ag)))))
   (af (aI (i:=4) lh.nd rfl (Or.inl rfl) (aA G_law_columns.ok (hr.mono (by decide)) rfl G_law_columns.mg G_law_columns.kp G_law_columns.bn .nil a9 (aa (aA G_law_cell.ok (hr.mono (by decide)) rfl G_law_cell.mg G_law_cell.kp G_law_cell.bn .nil a9 (aa (pv 0) (aa ah ag))) (aa (pv 1) ag))))
   (af (aX (au fu (aq aU (aq cE (aA G_law_cell.ok (hr.mono (by decide)) rfl G_law_cell.mg G_law_cell.kp G_law_cell.bn .nil a9 (aa (pv 0) (aa ah ag))) ah) ah) ah (av _)) (af (aI (i:=5) lh.nd rfl (Or.inl rfl) (aA G_law_spoiled.ok (hr.mono (by decide)) rfl G_law_spoiled.mg G_law_spoiled.kp G_law_spoiled.bn .nil a9 (aa (pv 2) (aa (aq cE (aA G_law_cell.ok (hr.mono (by decide)) rfl G_law_cell.mg G_law_cell.kp G_law_cell.bn .nil a9 (aa (pv 0) (aa ah ag))) ah) ag))))
   (aj (aJ (gA (lx hu64) (aA G_law_refused.ok (hr.mono (by decide)) rfl G_law_refused.mg G_law_refused.kp G_law_refused.bn .nil a9 (aa (pv 5) (aa (pv 4) ag))) (bc (aa iU (aa iU (aa iU ag)))) (av _))))) ay)
   (af (aX (PW.pt (iS (au jq (pv 4) ah (av _)) (eW (au sQ (pv 4) (aq lu ah ah) (av _))))) (aj (aJ (we (gA (lx hu64) (aA G_law_refused.ok (hr.mono (by decide)) rfl G_law_refused.mg G_law_refused.kp G_law_refused.bn .nil a9 (aa (pv 3) (aa (pv 4) ag))) (bc (aa iU (aa iU (aa iU ag)))) (av _)) (wa (gA (lx hu64) (pv 3) (pv 2) (av _)))))) ay)
   (af (aX (PW.pt (iS (au sQ (aq cz (pv 1) (pv 4)) ah (av _)) (eW (au fu (aq cz (pv 1) (pv 4)) ah (av _))))) (aj (aJ (we (gA (lx hu64) (aA G_law_refused.ok (hr.mono (by decide)) rfl G_law_refused.mg G_law_refused.kp G_law_refused.bn .nil a9 (aa (pv 3) (aa (pv 4) ag))) (bc (aa iU (aa iU (aa iU ag)))) (av _)) (wa (gA (lx hu64) (pv 3) (pv 2) (av _)))))) ay)
   (af (aI (i:=6) lh.nd rfl (Or.inl rfl) (aA G_strip_web.ok (hr.mono (by decide)) rfl G_strip_web.mg G_strip_web.kp G_strip_web.bn .nil pass0d (aa (pv 3) (aa (pv 4) ag))))
   (af (aI (i:=7) lh.nd rfl (Or.inl rfl) (aA G_law_strip_ties.ok (hr.mono (by decide)) rfl G_law_strip_ties.mg G_law_strip_ties.kp G_law_strip_ties.bn .nil a9 (aa (pv 2) (aa (pv 1) (aa (pv 4) ag)))))
   (aj (aJ (we (gA (lx hu64) (pv 3) (pv 2) (av _)) (wa (aA G_law_same_web.ok (hr.mono (by decide)) rfl G_law_same_web.mg G_law_same_web.kp G_law_same_web.bn .nil a9 (aa (pv 6) (aa (pv 7) (aa (pv 1) (aa (pv 4) ag)))))))))))))))))),?_⟩
 have three:3<=sizeLine:=by decide
 obtain⟨r,er,r1,r3⟩:∃ r:Nat,1+gp ns 0%3=(r:Int)/\1<=r/\r<=3:=⟨(1+gp ns 0%3).toNat,by omega +splitDisjunctions,by omega +splitDisjunctions,by omega +splitDisjunctions⟩
 obtain⟨pd,ep,p1,p6⟩:∃ r:Nat,1+gp ns 0/3%6=(r:Int)/\1<=r/\r<=6:=⟨(1+gp ns 0/3%6).toNat,by omega +splitDisjunctions,by omega +splitDisjunctions,by omega +splitDisjunctions⟩
 refine⟨_,rfl,a,0,ns,rfl,hS,_,_,rfl,rfl,(by decide:(0:Int)<3),_,_,rfl,rfl,?_⟩
 show y8 1 (V.int (1+gp ns 0%3)) _ _ _
 rw[er]
 refine⟨_,rfl,_,rfl,_,rfl,a,0,ns,rfl,hS,_,_,rfl,rfl,⟨by decide,by decide⟩,_,_,rfl,rfl,(by decide:(0:Int)<6),_,_,rfl,rfl,a,ns,2,r,pd,(by show[V.ref a,V.int 2,V.int (r:Int),V.int (1+gp ns 0/3%6)]=_;rw[ep];rfl),hS,by decide,r1,r3,p1,p6,fun v pat H1 s1 hP gd pl=>?_⟩
 have hP0:=hP
 obtain⟨pa,ys,rfl,hA,hL⟩:=hP
 have yl:=hL.1
 refine⟨_,rfl,pa,rfl,⟨_,SqL.of hA⟩,gU (K:=K) (xs:=ys) (fun i zs H2=>Same H1 H2/\LsAt bC H2 zs (pat.take i)) (CQ (ar (by omega +splitDisjunctions))) ⟨fun _ _ e=>e,LsAt.nil⟩ (fun i zs H2 _ z=>SqL.of (z.1 _ _ hA)) ?_ ?_⟩
 ·rintro i y zs H2 hy ⟨s2,hZ⟩
  obtain⟨d,hd,t,a1,b1,rfl,ht,ha,hb⟩:=hL.get hy
  refine⟨_,rfl,t,_,0,_,rfl,rfl,SqT.of (s2 _ _ ht),at0,a1,_,rfl,.inl (SqL.of (s2 _ _ ha)),fun p hp=>?_⟩
  have s3:=ai hp (.lst (d.1.map V.int))
  have s23:=s2.trans s3
  refine⟨_,rfl,t,_,1,_,rfl,rfl,SqT.of (s23 _ _ ht),at1,b1,_,rfl,.inl (SqL.of (s23 _ _ hb)),fun q hq=>?_⟩
  have s4:=ai hq (.lst (d.2.map V.int))
  refine⟨(by show 2<=sizeLine;decide),fun t5 ht5=>?_⟩
  have s5:=ai ht5 (.tup [.ref p,.ref q])
  have s35:=s3.trans (s4.trans s5)
  refine⟨s2.trans s35,?_⟩
  rw[CY,hd]
  exact(hZ.imp fun _ _ y=>y.mono s35).snoc ⟨t5,p,q,rfl,ae,s5 _ _ (s4 _ _ ae),s5 _ _ ae⟩
 rintro zs H2 _ ⟨s2,hZ⟩ D hD
 rw[yl,C7]at hZ
 have sD:=s2.trans (ai hD (.lst zs))
 have hH:iA (upd H2 D (.lst zs)) (.ref D) pat:=⟨D,zs,rfl,ae,hZ.imp fun _ _ y=>y.mono (ai hD (.lst zs))⟩
 generalize upd H2 D (.lst zs)=H3 at sD hH
 have s13:=s1.trans sD
 refine⟨_,rfl,a,1,ns,rfl,s13.seq hS,_,rfl,_,r,rfl,r1,r3,fun cols H4 s4=>?_⟩
 have hP4:=hP0.mono (sD.trans s4)
 have hH4:=hH.mono s4
 have hS4:=(s13.trans s4).seq hS
 have fin:∀ H5,Same H4 H5->∃ d,RdD K H5 (.ref D) d/\RdD K H5 (.ref pa) d/\SeqAt.shaped d=true:=fun H5 s5=>⟨_,(hH4.mono s5).rd,(hP4.mono s5).rd,Bk pat⟩
 refine⟨_,rfl,a,0,ns,rfl,hS4,_,_,rfl,rfl,⟨by decide,by decide⟩,_,_,rfl,rfl,(by decide:(0:Int)<5),rfl,_,rfl,ite2 (fun _=>?_) (fun _=>?_)⟩
 ·refine⟨_,rfl,_,rfl,a,0,ns,rfl,hS4,_,_,rfl,rfl,⟨by decide,by decide⟩,.ref pa,r,pat,_,rfl,hP4,gd,fun u H5 bad hb isb=>?_⟩
  refine⟨_,rfl,_,rfl,u,bad,cols,true,rfl,hb,.inl isb,fun q H6 _ hq=>⟨three,fun l hl=>?_⟩⟩
  exact⟨_,iM (ai hl _ _ _ hq),iM ae,fj _ _ _,kq _⟩
 refine⟨_,rfl,_,_,rfl,rfl,_,rfl,ite2 (fun z=>?_) (fun z=>?_)⟩
 ·have z':cols<1:=of_decide_eq_true z
  refine iteT ⟨_,rfl,_,rfl,.ref D,pat,cols,true,rfl,hH4,.inr ⟨r,gd,by omega +splitDisjunctions⟩,fun q H6 s6 hq=>⟨three,fun l hl=>?_⟩⟩
  have sl:=ai hl (.lst [.bl true,.bl false,.bl true])
  obtain⟨d,q1,q2,q3⟩:=fin _ (s6.trans sl)
  exact⟨_,iM (sl _ _ hq),iM ae,fj _ _ _,_,rfl,iteT ⟨_,rfl,_,rfl,d,q1,q2,q3,kq _⟩⟩
 have z1:¬ cols<1:=fun e=>z (decide_eq_true e)
 refine⟨_,rfl,_,_,rfl,rfl,⟨by decide,by decide,by decide⟩,_,_,rfl,rfl,_,rfl,ite2 (fun z=>?_) (fun z=>?_)⟩
 ·have z':cols > 10^(18:Int).toNat:=of_decide_eq_true z
  have z':cols > 10^18:=z'
  refine⟨_,rfl,_,rfl,.ref D,pat,cols,true,rfl,hH4,.inr ⟨r,gd,by omega +splitDisjunctions⟩,fun q H6 s6 hq=>⟨three,fun l hl=>?_⟩⟩
  have sl:=ai hl (.lst [.bl true,.bl false,.bl true])
  obtain⟨d,q1,q2,q3⟩:=fin _ (s6.trans sl)
  exact⟨_,iM (sl _ _ hq),iM ae,fj _ _ _,_,rfl,iteT ⟨_,rfl,_,rfl,d,q1,q2,q3,kq _⟩⟩
 have z2:¬ cols > 10^18:=fun e=>z (decide_eq_true e)
 have mc:CMul (r:Int) cols:=.inl ⟨by omega +splitDisjunctions,by omega +splitDisjunctions⟩
 refine⟨_,rfl,_,rfl,_,_,rfl,rfl,mc,_,_,rfl,rfl,_,rfl,ite2 (fun z=>?_) (fun z=>?_)⟩
 ·have z':(r:Int)*cols > 40:=of_decide_eq_true z
  refine iteT ⟨_,rfl,_,rfl,.ref D,pat,cols,false,rfl,hH4,⟨r,gd,by omega +splitDisjunctions,by omega +splitDisjunctions,.inl z'⟩,fun q H6 s6 hq=>⟨three,fun l hl=>?_⟩⟩
  have sl:=ai hl (.lst [.bl false,.bl true,.bl true])
  obtain⟨d,q1,q2,q3⟩:=fin _ (s6.trans sl)
  exact⟨_,iM (sl _ _ hq),iM ae,fj _ _ _,_,rfl,iteT ⟨_,rfl,_,rfl,d,q1,q2,q3,kq _⟩⟩
 have z3:¬ (r:Int)*cols > 40:=fun e=>z (decide_eq_true e)
 refine⟨_,rfl,_,rfl,_,_,rfl,rfl,mc,rfl,_,rfl,ite2 (fun z=>?_) (fun z=>?_)⟩
 ·have z':(r:Int)*cols=1:=V.int.inj (of_decide_eq_true z)
  refine⟨_,rfl,_,rfl,.ref D,pat,cols,false,rfl,hH4,⟨r,gd,by omega +splitDisjunctions,by omega +splitDisjunctions,.inr z'⟩,fun q H6 s6 hq=>⟨three,fun l hl=>?_⟩⟩
  have sl:=ai hl (.lst [.bl false,.bl true,.bl true])
  obtain⟨d,q1,q2,q3⟩:=fin _ (s6.trans sl)
  exact⟨_,iM (sl _ _ hq),iM ae,fj _ _ _,_,rfl,iteT ⟨_,rfl,_,rfl,d,q1,q2,q3,kq _⟩⟩
 have z4:¬ (r:Int)*cols=1:=fun e=>z (decide_eq_true (congrArg V.int e))
 obtain⟨c,rfl⟩:∃ c:Nat,cols=(c:Int):=⟨cols.toNat,by omega +splitDisjunctions⟩
 have rc:(r:Int)*(c:Int)=((r*c:Nat):Int):=(Dy r c).symm
 rw[rc]at z3 z4
 have rc40:r*c<=40:=by omega +splitDisjunctions
 have rc1:1<=r*c:=Nat.mul_le_mul r1 (show 1<=c by omega +splitDisjunctions)
 have rc2:2<=r*c:=by omega +splitDisjunctions
 refine⟨_,rfl,_,rfl,.ref D,pat,(c:Int),rfl,hH4,fun bd=>absurd gd (bd r),fun _ _ no=>absurd ⟨by omega +splitDisjunctions,by omega +splitDisjunctions⟩ no,fun r' g' _ _ h=>?_,fun r' c' g' ec h2 h40 p rs H5 s5 wf=>?_⟩
 ·have:=gd.uniq g'
  subst this
  exact absurd h (by omega +splitDisjunctions)
 have:=gd.uniq g'
 subst this
 have ec':c=c':=by omega +splitDisjunctions
 subst ec'
 refine⟨_,rfl,_,rfl,_,rfl,.ref pa,pat,r,c,rfl,hP4.mono s5,gd,rc2,rc40,fun q us H6 s6 hq t3=>?_⟩
 obtain⟨d,q1,q2,q3⟩:=fin _ (s5.trans s6)
 refine⟨_,rfl,_,rfl,d,q1,q2,q3,_,rfl,iteT ?_⟩
 exact⟨_,rfl,_,rfl,_,rfl,_,rfl,_,p,q,us,pat,r,c,rs,rfl,gd,rc2,rc40,wf.mono s6 fun _ z=>z,hq,t3,fun H' _=>kq _⟩
end
end K8
namespace K8
open PySem L2
theorem all_mk{l:Ey}{w:World}{K:B9}{h:Heap}{mg:Str->Option Value}{fa cj aC aK bh bg dO jA bf ma wu jB iz d9 fL iu dj cL cx cg bV bW jz dZ dm di fK iy fM eg du bX dv iw cN cM dt dq BQ:Addr}(X:K.In h)(G:h.Ns mainGlobals mg) (hfa:mg "law" = some (.ref fa))
  {wU xG qP sj yy zF BF B7 wV xH uW vQ qM sf sS ub uS vN oo pD mG nK lP l4 qO si j6 kT j7 kU wR xF qL se oq pE om pC sR ua uV vP sU uc qN sh ow pH j8 kW ox pI uU vO mI nM mH nL ou pG ot pF od_law AY:Option Addr} {wC qw ya Bj wD uz qq sF uw nW mm lM qv jQ jR wB qp nX nV sC uy sG qu n0 jS n6 ux mq mn nZ nY sl_law:Array (Option Value)} {wX xk xq wL pV xu qU rA rN qG jG rS yz yM zi ym tR zo BG BM BS Bp zw BV wY xm xr wM pW xw u0 vm vD uM nE vH qR rm rK qD jD rP sW tE tL sM lA tO uX vi vz uJ nA vE oz oN oW n9 iG o9 mJ mV m8 mz gW nj lQ lU lV lO gj lW qT rq rM qF jF rR j9 kz kH jW e9 kK ka kA kI jX fb kM wW xj xp wK pU xt qQ rk rJ qC jC rO oA oO oX oa iH pe oy oM oV n8 iF o8 sV tD tK sL lz tN uZ vk vC uL nC vG sX tF tM sN lB tP qS rn rL qE jE rQ oF oR o6 oi iK pj kf kB kJ jY fe kN oG oS o7 oj iL pk uY vj vA uK nB vF mM mY ng mC gY nt mK mX m9 mB gX nk oE oQ oZ oh iJ ph oB oP oY og iI pf oc_law AO AV AH zv AW:Value}
  {ti_most ti_mrows ti_places:Tok}
  (gh:Ck K mainGlobals "FloorError" = some (some (.ref cj)))
  (jk:Ck K mainGlobals "BadStrip" = some (some (.ref aC)))
  (k7:Ck K mainGlobals "TooWide" = some (some (.ref aK)))
  (vS:Ck K mainGlobals "Pull" = some (some (.ref bh)))
  (vR:Ck K mainGlobals "Push" = some (some (.ref bg)))
  (zH:Ck K mainGlobals "Web" = some (some (.ref dO)))
  (gF:Cq K (.ref bh) "__init__" = some (some (.ref bf)))
  (gE:Cq K (.ref bg) "__init__" = some (some (.ref bf)))
  (i4:Cq K (.ref dO) "__init__" = some (some (.ref cg)))
  (nO:Ck K mainGlobals "reached" = some (some (.ref jA)))
  (mR:K.lookup jA=some ⟨wX,wU,.func (CB "reached" "reached" (aD eU) (aB eU) (ak eU) .none xk xq wL xG pV xu),wC⟩)
  (nG:Cv K pV "reached" = true)
  (jw:Cn K (.ref jA)=true)
  (gK:K.lookup bf=some ⟨qU,qP,.func (CB "__init__" "Tie.__init__" (aD cf) (aB cf) (ak cf) .none rA rN qG sj jG rS),qw⟩)
  (hG:Cv K jG "Tie.__init__" = true)
  (gQ:Cn K (.ref bf)=true)
  (dY:PySem.W.isFn K (.ref bf)=true)
  (sk:Ck K mainGlobals "tie_of" = some (some (.ref ma)))
  (rj:K.lookup ma=some ⟨yz,yy,.func (CB "tie_of" "tie_of" (aD ic) (aB ic) (ak ic) .none yM zi ym zF tR zo),ya⟩)
  (rT:Cv K tR "tie_of" = true)
  (l9:Cn K (.ref ma)=true)
  (zG:Ck K mainGlobals "head" = some (some (.ref wu)))
  (yI:K.lookup wu=some ⟨BG,BF,.func (CB "head" "head" (aD pN) (aB pN) (ak pN) .none BM BS Bp B7 zw BV),Bj⟩)
  (zy:Cv K zw "head" = true)
  (k_head:Cn K (.ref wu)=true)
  (nP:Ck K mainGlobals "leaving" = some (some (.ref jB)))
  (mT:K.lookup jB=some ⟨wY,wV,.func (CB "leaving" "leaving" (aD eV) (aB eV) (ak eV) .none xm xr wM xH pW xw),wD⟩)
  (nH:Cv K pW "leaving" = true)
  (jx:Cn K (.ref jB)=true)
  (k6:Ck K mainGlobals "follower" = some (some (.ref iz)))
  (ko:K.lookup iz=some ⟨u0,uW,.func (CB "follower" "follower" (aD dA) (aB dA) (ak dA) .none vm vD uM vQ nE vH),uz⟩)
  (kR:Cv K nE "follower" = true)
  (iq:Cn K (.ref iz)=true)
  (hV:Ck K mainGlobals "round_from" = some (some (.ref d9)))
  (gH:K.lookup d9=some ⟨qR,qM,.func (CB "round_from" "round_from" (aD b7) (aB b7) (ak b7) .none rm rK qD sf jD rP),qq⟩)
  (g7:Cv K jD "round_from" = true)
  (dU:Cn K (.ref d9)=true)
  (ji:Ck K mainGlobals "rounds_of" = some (some (.ref fL)))
  (i6:K.lookup fL=some ⟨sW,sS,.func (CB "rounds_of" "rounds_of" (aD cC) (aB cC) (ak cC) .none tE tL sM ub lA tO),sF⟩)
  (jf:Cv K lA "rounds_of" = true)
  (fH:Cn K (.ref fL)=true)
  (kX:Ck K mainGlobals "sides_of" = some (some (.ref iu)))
  (kh:K.lookup iu=some ⟨uX,uS,.func (CB "sides_of" "sides_of" (aD dw) (aB dw) (ak dw) .none vi vz uJ vN nA vE),uw⟩)
  (kO:Cv K nA "sides_of" = true)
  (ij:Cn K (.ref iu)=true)
  (fZ:Ck K mainGlobals "refuse_ends" = some (some (.ref dj)))
  (fz:K.lookup dj=some ⟨oz,oo,.func (CB "refuse_ends" "refuse_ends" (aD bG) (aB bG) (ak bG) .none oN oW n9 pD iG o9),nW⟩)
  (fR:Cv K iG "refuse_ends" = true)
  (da:Cn K (.ref dj)=true)
  (eP:Ck K mainGlobals "refuse_turns" = some (some (.ref cL)))
  (eF:K.lookup cL=some ⟨mJ,mG,.func (CB "refuse_turns" "refuse_turns" (aD br) (aB br) (ak br) .none mV m8 mz nK gW nj),mm⟩)
  (eK:Cv K gW "refuse_turns" = true)
  (cH:Cn K (.ref cL)=true)
  (dI:Ck K mainGlobals "refuse_parted" = some (some (.ref cx)))
  (dE:K.lookup cx=some ⟨lQ,lP,.func (CB "refuse_parted" "refuse_parted" (aD ba) (aB ba) (ak ba) .none lU lV lO l4 gj lW),lM⟩)
  (dH:Cv K gj "refuse_parted" = true)
  (cv:Cn K (.ref cx)=true)
  (gJ:K.lookup cg=some ⟨qT,qO,.func (CB "__init__" "Web.__init__" (aD b9) (aB b9) (ak b9) .none rq rM qF si jF rR),qv⟩)
  (g9:Cv K jF "Web.__init__" = true)
  (gP:Cn K (.ref cg)=true)
  (gR:PySem.W.isFn K (.ref cg)=true)
  (c4:Ck K mainGlobals "refuse_pattern" = some (some (.ref bV)))
  (cU:K.lookup bV=some ⟨j9,j6,.func (CB "refuse_pattern" "refuse_pattern" (aD aZ) (aB aZ) (ak aZ) .none kz kH jW kT e9 kK),jQ⟩)
  (cX:Cv K e9 "refuse_pattern" = true)
  (bR:Cn K (.ref bV)=true)
  (c5:Ck K mainGlobals "refuse_columns" = some (some (.ref bW)))
  (cV:K.lookup bW=some ⟨ka,j7,.func (CB "refuse_columns" "refuse_columns" (aD a4) (aB a4) (ak a4) .none kA kI jX kU fb kM),jR⟩)
  (cY:Cv K fb "refuse_columns" = true)
  (bS:Cn K (.ref bW)=true)
  (nN:Ck K mainGlobals "rows_of" = some (some (.ref jz)))
  (mQ:K.lookup jz=some ⟨wW,wR,.func (CB "rows_of" "rows_of" (aD eS) (aB eS) (ak eS) .none xj xp wK xF pU xt),wB⟩)
  (nF:Cv K pU "rows_of" = true)
  (jv:Cn K (.ref jz)=true)
  (hU:Ck K mainGlobals "strip_ties" = some (some (.ref dZ)))
  (gG:K.lookup dZ=some ⟨qQ,qL,.func (CB "strip_ties" "strip_ties" (aD b6) (aB b6) (ak b6) .none rk rJ qC se jC rO),qp⟩)
  (gZ:Cv K jC "strip_ties" = true)
  (dS:Cn K (.ref dZ)=true)
  (f9:Ck K mainGlobals "near_places" = some (some (.ref dm)))
  (fA:K.lookup dm=some ⟨oA,oq,.func (CB "near_places" "near_places" (aD bH) (aB bH) (ak bH) .none oO oX oa pE iH pe),nX⟩)
  (fS:Cv K iH "near_places" = true)
  (dc:Cn K (.ref dm)=true)
  (fY:Ck K mainGlobals "strip_turns" = some (some (.ref di)))
  (fy:K.lookup di=some ⟨oy,om,.func (CB "strip_turns" "strip_turns" (aD bF) (aB bF) (ak bF) .none oM oV n8 pC iF o8),nV⟩)
  (fQ:Cv K iF "strip_turns" = true)
  (c9:Cn K (.ref di)=true)
  (jh:Ck K mainGlobals "strip_web" = some (some (.ref fK)))
  (i5:K.lookup fK=some ⟨sV,sR,.func (CB "strip_web" "strip_web" (aD cB) (aB cB) (ak cB) .none tD tK sL ua lz tN),sC⟩)
  (je:Cv K lz "strip_web" = true)
  (fG:Cn K (.ref fK)=true)
  (kZ:Ck K mainGlobals "_law_cell" = some (some (.ref iy)))
  (kj:K.lookup iy=some ⟨uZ,uV,.func (CB "_law_cell" "_law_cell" (aD dz) (aB dz) (ak dz) .none vk vC uL vP nC vG),uy⟩)
  (kQ:Cv K nC "_law_cell" = true)
  (ip:Cn K (.ref iy)=true)
  (jj:Ck K mainGlobals "_law_whole" = some (some (.ref fM)))
  (i7:K.lookup fM=some ⟨sX,sU,.func (CB "_law_whole" "_law_whole" (aD cD) (aB cD) (ak cD) .none tF tM sN uc lB tP),sG⟩)
  (jg:Cv K lB "_law_whole" = true)
  (fJ:Cn K (.ref fM)=true)
  (ia:Ck K mainGlobals "_law_signed" = some (some (.ref eg)))
  (gI:K.lookup eg=some ⟨qS,qN,.func (CB "_law_signed" "_law_signed" (aD b8) (aB b8) (ak b8) .none rn rL qE sh jE rQ),qu⟩)
  (g8:Cv K jE "_law_signed" = true)
  (dX:Cn K (.ref eg)=true)
  (gf:Ck K mainGlobals "_law_pattern" = some (some (.ref du)))
  (fE:K.lookup du=some ⟨oF,ow,.func (CB "_law_pattern" "_law_pattern" (aD bK) (aB bK) (ak bK) .none oR o6 oi pH iK pj),n0⟩)
  (fV:Cv K iK "_law_pattern" = true)
  (dg:Cn K (.ref du)=true)
  (c6:Ck K mainGlobals "_law_strip_ties" = some (some (.ref bX)))
  (cW:K.lookup bX=some ⟨kf,j8,.func (CB "_law_strip_ties" "_law_strip_ties" (aD a6) (aB a6) (ak a6) .none kB kJ jY kW fe kN),jS⟩)
  (cZ:Cv K fe "_law_strip_ties" = true)
  (bT:Cn K (.ref bX)=true)
  (gg:Ck K mainGlobals "_law_columns" = some (some (.ref dv)))
  (fF:K.lookup dv=some ⟨oG,ox,.func (CB "_law_columns" "_law_columns" (aD bL) (aB bL) (ak bL) .none oS o7 oj pI iL pk),n6⟩)
  (fX:Cv K iL "_law_columns" = true)
  (dh:Cn K (.ref dv)=true)
  (kY:Ck K mainGlobals "_law_turn" = some (some (.ref iw)))
  (ki:K.lookup iw=some ⟨uY,uU,.func (CB "_law_turn" "_law_turn" (aD dy) (aB dy) (ak dy) .none vj vA uK vO nB vF),ux⟩)
  (kP:Cv K nB "_law_turn" = true)
  (ik:Cn K (.ref iw)=true)
  (eR:Ck K mainGlobals "_law_same_tie" = some (some (.ref cN)))
  (eI:K.lookup cN=some ⟨mM,mI,.func (CB "_law_same_tie" "_law_same_tie" (aD bw) (aB bw) (ak bw) .none mY ng mC nM gY nt),mq⟩)
  (eO:Cv K gY "_law_same_tie" = true)
  (cK:Cn K (.ref cN)=true)
  (eQ:Ck K mainGlobals "_law_same_web" = some (some (.ref cM)))
  (eG:K.lookup cM=some ⟨mK,mH,.func (CB "_law_same_web" "_law_same_web" (aD bu) (aB bu) (ak bu) .none mX m9 mB nL gX nk),mn⟩)
  (eM:Cv K gX "_law_same_web" = true)
  (cJ:Cn K (.ref cM)=true)
  (gc:Ck K mainGlobals "_law_refused" = some (some (.ref dt)))
  (fD:K.lookup dt=some ⟨oE,ou,.func (CB "_law_refused" "_law_refused" (aD bJ) (aB bJ) (ak bJ) .none oQ oZ oh pG iJ ph),nZ⟩)
  (fU:Cv K iJ "_law_refused" = true)
  (df:Cn K (.ref dt)=true)
  (gb:Ck K mainGlobals "_law_spoiled" = some (some (.ref dq)))
  (fB:K.lookup dq=some ⟨oB,ot,.func (CB "_law_spoiled" "_law_spoiled" (aD bI) (aB bI) (ak bI) .none oP oY og pF iI pf),nY⟩)
  (fT:Cv K iI "_law_spoiled" = true)
  (de:Cn K (.ref dq)=true)
  (Ay:Ck K mainGlobals "law" = some (some (.ref BQ)))
  (BJ:K.lookup BQ=some ⟨oc_law,od_law,.func (CB "law" "law" (aD qz) (aB qz) (ak qz) .none AO AV AH AY zv AW),sl_law⟩)
  (B3:Cv K zv "law" = true)
  (BL:Cn K (.ref BQ)=true)
  (fk:D3 K cj veM "ValueError.__new__" = true)
  (fm:D3 K aC veM "ValueError.__new__" = true)
  (bx:CV K aC (.ref cj)=some true)
  (ga_BadStrip:Cq K (.ref aC) "__getattribute__" = some (some (.builtin "BaseException.__getattribute__")))
  (gt_BadStrip:Cq K (.ref aC) "__getattr__" = some none)
  (hb_BadStrip:CV K aC (.type "BaseException")=some true)
  (i9:Di K aC=true)
  (ja:Cq K (.ref aC) "__class__" = some (some (.builtin "object.__class__")))
  (i8:CV K aC (.type "object")=some true)
  (bN:Cw K (.ref aC) (.ref aC)=some true)
  (bZ:Cw K (.ref aC) (.ref aK)=some false)
  (jP:D3 K aK veM "ValueError.__new__" = true)
  (bA:CV K aK (.ref cj)=some true)
  (ga_TooWide:Cq K (.ref aK) "__getattribute__" = some (some (.builtin "BaseException.__getattribute__")))
  (gt_TooWide:Cq K (.ref aK) "__getattr__" = some none)
  (hb_TooWide:CV K aK (.type "BaseException")=some true)
  (kD:Di K aK=true)
  (kE:Cq K (.ref aK) "__class__" = some (some (.builtin "object.__class__")))
  (kC:CV K aK (.type "object")=some true)
  (bY:Cw K (.ref aK) (.ref aC)=some false)
  (cu:Cw K (.ref aK) (.ref aK)=some true)
  (uO:DE K bh Str.empty=true)
  (vt:Di K bh=true)
  (uI:DM K bh=true)
  (uE:Cq K (.ref bh) "__setattr__" = some (some (.builtin "object.__setattr__")))
  (va:DR K bh=true)
  (vh:Cn K (.ref bh)=true)
  (i3:Cq K (.ref bh) "one" = some none)
  (i0:Cq K (.ref bh) "two" = some none)
  (cT:Cq K (.ref bh) "strength" = some none)
  (vw:Cq K (.ref bh) "__class__" = some (some (.builtin "object.__class__")))
  (vp:CV K bh (.type "object")=some true)
  (gO:Cw K (.ref bh) (.ref bh)=some true)
  (gN:Cw K (.ref bh) (.ref bg)=some false)
  (uN:DE K bg Str.empty=true)
  (vq:Di K bg=true)
  (uH:DM K bg=true)
  (uD:Cq K (.ref bg) "__setattr__" = some (some (.builtin "object.__setattr__")))
  (u9:DR K bg=true)
  (vg:Cn K (.ref bg)=true)
  (iZ:Cq K (.ref bg) "one" = some none)
  (iY:Cq K (.ref bg) "two" = some none)
  (cS:Cq K (.ref bg) "strength" = some none)
  (vv:Cq K (.ref bg) "__class__" = some (some (.builtin "object.__class__")))
  (vo:CV K bg (.type "object")=some true)
  (gM:Cw K (.ref bg) (.ref bh)=some false)
  (gL:Cw K (.ref bg) (.ref bg)=some true)
  (yn:DE K dO Str.empty=true)
  (y4:Di K dO=true)
  (yk:DM K dO=true)
  (ye:Cq K (.ref dO) "__setattr__" = some (some (.builtin "object.__setattr__")))
  (yA:DR K dO=true)
  (yL:Cn K (.ref dO)=true)
  (iX:Cq K (.ref dO) "many" = some none)
  (iW:Cq K (.ref dO) "ties" = some none)
  (gC:Cq K (.ref dO) "turns" = some none)
  (fw:Cq K (.ref dO) "rounds" = some none)
  (gD:Cq K (.ref dO) "sides" = some none)
  (y7:Cq K (.ref dO) "__class__" = some (some (.builtin "object.__class__")))
  (yX:CV K dO (.type "object")=some true)
  (ku:Cw K (.ref dO) (.ref dO)=some true)
  (hn_:DW K (.builtin "object.__class__") "__get__" = some (some (.builtin "getset_descriptor.__get__")))
  (htk_:D8 K (.builtin "object.__class__")=some true)
  (gi_most:Ck K mainGlobals "MOST_IN_PATTERN" = some (some (.int 6 ti_most)))
  (gi_mrows:Ck K mainGlobals "MOST_ROWS" = some (some (.int 3 ti_mrows)))
  (gi_places:Ck K mainGlobals "MOST_PLACES" = some (some (.int 40 ti_places)))
  (kvB_:Cw K (.ref aC) (.type "ValueError")=some true)
  (kvT_:Cw K (.ref aK) (.type "ValueError")=some true)
  (A4:Ck K mainGlobals "len" = some none)
  (A5:Ck K mainGlobals "int" = some none)
  (xK:Ck K mainGlobals "bool" = some none)
  (xJ:Ck K mainGlobals "list" = some none)
  (ug:Ck K mainGlobals "tuple" = some none)
  (uh:Ck K mainGlobals "range" = some none)
  (iQ:Ck K mainGlobals "enumerate" = some none)
  (gu:Ck K mainGlobals "isinstance" = some none)
  (A2:Ck K mainGlobals "min" = some none)
  (A1:Ck K mainGlobals "sum" = some none)
  (qd:Ck K mainGlobals "sorted" = some none)
  (A3:Ck K mainGlobals "max" = some none)
  (A7:Ck K mainGlobals "all" = some none)
  (A0:Ck K mainGlobals "zip" = some none)
  (A6:Ck K mainGlobals "any" = some none)
  (A8:Ck K mainGlobals "abs" = some none)
  (gv:Ck K mainGlobals "ValueError" = some none)
  : ∃ fd:FuncData,(∀(s:Shared)(v:Value),BindsTo s fd ⟨[v],[]⟩ [("script",v)])/\∀ base:Heap,K.In base->base.Ns mainGlobals mg->FnOk l.prog w K mg base CX0 9 fa fd ["script"] (qm K):=by
 have e:=hfa.symm.trans (Cu X G Ay)
 cases e
 have ue:=aR (st:=eU) mR nG jw
 have zC:=ue.binds (ps:=["start","pairs"]) fun _ _ _ _ _ _ us hl=>by obtain⟨x0,x1,rfl⟩:=ju hl;rfl
 have lI:=aR (st:=cf) gK hG gQ
 have lD:=lI.binds (ps:=["self","one","two","strength"]) fun _ _ _ _ _ _ us hl=>by obtain⟨x0,x1,x2,x3,rfl⟩:=yH hl;rfl
 have wy:=aR (st:=ic) rj rT l9
 have Ax:=wy.binds (ps:=["one","two","signed"]) fun _ _ _ _ _ _ us hl=>by obtain⟨x0,x1,x2,rfl⟩:=oK hl;rfl
 have AZ:=aR (st:=pN) yI zy k_head
 have b_head:=AZ.binds (ps:=["ties","dart"]) fun _ _ _ _ _ _ us hl=>by obtain⟨x0,x1,rfl⟩:=ju hl;rfl
 have uf:=aR (st:=eV) mT nH jx
 have zD:=uf.binds (ps:=["ties","number","place"]) fun _ _ _ _ _ _ us hl=>by obtain⟨x0,x1,x2,rfl⟩:=oK hl;rfl
 have qc:=aR (st:=dA) ko kR iq
 have xE:=qc.binds (ps:=["ties","turns","dart"]) fun _ _ _ _ _ _ us hl=>by obtain⟨x0,x1,x2,rfl⟩:=oK hl;rfl
 have lF:=aR (st:=b7) gH g7 dU
 have t6:=lF.binds (ps:=["ties","turns","first"]) fun _ _ _ _ _ _ us hl=>by obtain⟨x0,x1,x2,rfl⟩:=oK hl;rfl
 have nS:=aR (st:=cC) i6 jf fH
 have vL:=nS.binds (ps:=["ties","turns"]) fun _ _ _ _ _ _ us hl=>by obtain⟨x0,x1,rfl⟩:=ju hl;rfl
 have pZ:=aR (st:=dw) kh kO ij
 have xB:=pZ.binds (ps:=["ties","rounds"]) fun _ _ _ _ _ _ us hl=>by obtain⟨x0,x1,rfl⟩:=ju hl;rfl
 have jI:=aR (st:=bG) fz fR da
 have rX:=jI.binds (ps:=["many","ties"]) fun _ _ _ _ _ _ us hl=>by obtain⟨x0,x1,rfl⟩:=ju hl;rfl
 have iN:=aR (st:=br) eF eK cH
 have pq:=iN.binds (ps:=["many","ties","turns"]) fun _ _ _ _ _ _ us hl=>by obtain⟨x0,x1,x2,rfl⟩:=oK hl;rfl
 have ib:=aR (st:=ba) dE dH cv
 have nJ:=ib.binds (ps:=["many","ties"]) fun _ _ _ _ _ _ us hl=>by obtain⟨x0,x1,rfl⟩:=ju hl;rfl
 have lH:=aR (st:=b9) gJ g9 gP
 have t9:=lH.binds (ps:=["self","many","ties","turns"]) fun _ _ _ _ _ _ us hl=>by obtain⟨x0,x1,x2,x3,rfl⟩:=yH hl;rfl
 have gk:=aR (st:=aZ) cU cX bR
 have lX:=gk.binds (ps:=["pattern"]) fun _ _ _ _ _ _ us hl=>by obtain⟨x0,rfl⟩:=xh hl;rfl
 have gm:=aR (st:=a4) cV cY bS
 have lY:=gm.binds (ps:=["columns"]) fun _ _ _ _ _ _ us hl=>by obtain⟨x0,rfl⟩:=xh hl;rfl
 have ud:=aR (st:=eS) mQ nF jv
 have zB:=ud.binds (ps:=["pattern"]) fun _ _ _ _ _ _ us hl=>by obtain⟨x0,rfl⟩:=xh hl;rfl
 have lE:=aR (st:=b6) gG gZ dS
 have tZ:=lE.binds (ps:=["pattern","columns"]) fun _ _ _ _ _ _ us hl=>by obtain⟨x0,x1,rfl⟩:=ju hl;rfl
 have jJ:=aR (st:=bH) fA fS dc
 have rY:=jJ.binds (ps:=["rows","columns","place"]) fun _ _ _ _ _ _ us hl=>by obtain⟨x0,x1,x2,rfl⟩:=oK hl;rfl
 have jH:=aR (st:=bF) fy fQ c9
 have rW:=jH.binds (ps:=["ties","rows","columns"]) fun _ _ _ _ _ _ us hl=>by obtain⟨x0,x1,x2,rfl⟩:=oK hl;rfl
 have nR:=aR (st:=cB) i5 je fG
 have vK:=nR.binds (ps:=["pattern","columns"]) fun _ _ _ _ _ _ us hl=>by obtain⟨x0,x1,rfl⟩:=ju hl;rfl
 have qb:=aR (st:=dz) kj kQ ip
 have xD:=qb.binds (ps:=["script","k"]) fun _ _ _ _ _ _ us hl=>by obtain⟨x0,x1,rfl⟩:=ju hl;rfl
 have nU:=aR (st:=cD) i7 jg fJ
 have vM:=nU.binds (ps:=["found"]) fun _ _ _ _ _ _ us hl=>by obtain⟨x0,rfl⟩:=xh hl;rfl
 have lG:=aR (st:=b8) gI g8 dX
 have t8:=lG.binds (ps:=["cell"]) fun _ _ _ _ _ _ us hl=>by obtain⟨x0,rfl⟩:=xh hl;rfl
 have jM:=aR (st:=bK) fE fV dg
 have r8:=jM.binds (ps:=["script","first","rows","period"]) fun _ _ _ _ _ _ us hl=>by obtain⟨x0,x1,x2,x3,rfl⟩:=yH hl;rfl
 have gn:=aR (st:=a6) cW cZ bT
 have lZ:=gn.binds (ps:=["pattern","rows","columns"]) fun _ _ _ _ _ _ us hl=>by obtain⟨x0,x1,x2,rfl⟩:=oK hl;rfl
 have jN:=aR (st:=bL) fF fX dh
 have r9:=jN.binds (ps:=["cell","rows"]) fun _ _ _ _ _ _ us hl=>by obtain⟨x0,x1,rfl⟩:=ju hl;rfl
 have qa:=aR (st:=dy) ki kP ik
 have xC:=qa.binds (ps:=["ties","place","rows"]) fun _ _ _ _ _ _ us hl=>by obtain⟨x0,x1,x2,rfl⟩:=oK hl;rfl
 have iP:=aR (st:=bw) eI eO cK
 have pB:=iP.binds (ps:=["found","tie"]) fun _ _ _ _ _ _ us hl=>by obtain⟨x0,x1,rfl⟩:=ju hl;rfl
 have iO:=aR (st:=bu) eG eM cJ
 have pA:=iO.binds (ps:=["web","ties","rows","columns"]) fun _ _ _ _ _ _ us hl=>by obtain⟨x0,x1,x2,x3,rfl⟩:=yH hl;rfl
 have jL:=aR (st:=bJ) fD fU df
 have r6:=jL.binds (ps:=["pattern","columns"]) fun _ _ _ _ _ _ us hl=>by obtain⟨x0,x1,rfl⟩:=ju hl;rfl
 have jK:=aR (st:=bI) fB fT de
 have rZ:=jK.binds (ps:=["pattern","cell"]) fun _ _ _ _ _ _ us hl=>by obtain⟨x0,x1,rfl⟩:=ju hl;rfl
 have F_law:=aR (st:=qz) BJ B3 BL
 refine⟨CB "law" "law" (aD qz) (aB qz) (ak qz) .none AO AV AH AY zv AW,fun s v=>.of_eq rfl,fun base _ _=>?_⟩
 have yC:=Cu X G nO
 have Ae:=Cu X G sk
 have m_head:=Cu X G zG
 have yD:=Cu X G nP
 have xc:=Cu X G k6
 have tm:=Cu X G hV
 have ve:=Cu X G ji
 have w8:=Cu X G kX
 have qY:=Cu X G fZ
 have oH:=Cu X G eP
 have mO:=Cu X G dI
 have lR:=Cu X G c4
 have lS:=Cu X G c5
 have yB:=Cu X G nN
 have tj:=Cu X G hU
 have qZ:=Cu X G f9
 have qX:=Cu X G fY
 have vd:=Cu X G jh
 have xb:=Cu X G kZ
 have vf:=Cu X G jj
 have tq:=Cu X G ia
 have rg:=Cu X G gf
 have lT:=Cu X G c6
 have rh:=Cu X G gg
 have w9:=Cu X G kY
 have oJ:=Cu X G eR
 have oI:=Cu X G eQ
 have rb:=Cu X G gc
 have q8:=Cu X G gb
 have m_law:=Cu X G Ay
 have tu:=Cu X G gh
 have xf:=Cu X G jk
 have yE:=Cu X G k7
 have AM:=Cu X G vS
 have AL:=Cu X G vR
 have m_Web:=Cu X G zH
 have most:=Cu X G gi_most
 have mrows:=Cu X G gi_mrows
 have places:=Cu X G gi_places
 have n_len:=CS X G A4
 have n_int:=CS X G A5
 have n_bool:=CS X G xK
 have n_list:=CS X G xJ
 have n_tuple:=CS X G ug
 have n_range:=CS X G uh
 have n_enumerate:=CS X G iQ
 have n_isinstance:=CS X G gu
 have n_min:=CS X G A2
 have n_sum:=CS X G A1
 have n_sorted:=CS X G qd
 have n_max:=CS X G A3
 have n_all:=CS X G A7
 have n_zip:=CS X G A0
 have n_any:=CS X G A6
 have n_abs:=CS X G A8
 have n_ValueError:=CS X G gv
 have TL:CT K bh:=⟨⟨uO,vt,uI,uE⟩,i3,i0,cT⟩
 have TS:CT K bg:=⟨⟨uN,vq,uH,uD⟩,iZ,iY,cS⟩
 have cw:CW K dO:=⟨⟨yn,y4,yk,ye⟩,iX,iW,gC,fw,gD⟩
 have T:Txt mg:=⟨n_max,n_all,n_zip,n_any,n_len,n_int,n_bool,n_list,n_tuple,n_range,n_enumerate,n_isinstance,n_min,n_sum,n_sorted⟩
 have GI:FnOk l.prog w K mg base CX0 1 bf _ _ (pK K):=Bz lI
 have ML:Mak l.prog w K mg base 1 "Pull" _ (pK K) bh bf _:=⟨⟨va,gF,dY,vh⟩,GI,lD,AM⟩
 have MS:Mak l.prog w K mg base 1 "Push" _ (pK K) bg bf _:=⟨⟨u9,gE,dY,vg⟩,GI,lD,AL⟩
 have Gh:Cal l.prog w K mg base 1 "head" _ (x5 K) wu _:=⟨BA AZ,b_head,m_head,k_head⟩
 have Gl:Cal l.prog w K mg base 1 "leaving" _ (xZ K) jB _:=⟨wQ uf,zD,yD,jx⟩
 have Gf:Cal l.prog w K mg base 2 "follower" _ (Bg K) iz _:=⟨uR qc T Gh Gl,xE,xc,iq⟩
 have Gr:Cal l.prog w K mg base 3 "round_from" _ (x8 K) d9 _:=⟨BB lF Gf,t6,tm,dU⟩
 have GR:Cal l.prog w K mg base 4 "rounds_of" _ (qk K) fL _:=⟨yw nS T Gr,vL,ve,fH⟩
 have GS:Cal l.prog w K mg base 1 "sides_of" _ (uk K) iu _:=⟨zY pZ T,xB,w8,ij⟩
 have Ga:Cal l.prog w K mg base 1 "reached" _ (uq K) jA _:=⟨wO ue,zC,yC,jw⟩
 have R1:Cal l.prog w K mg base 1 "refuse_ends" _ (uu K) dj _:=⟨z9 jI,rX,qY,da⟩
 have R2:Cal l.prog w K mg base 1 "refuse_turns" _ (ql K) cL _:=⟨yv iN T,pq,oH,cH⟩
 have R3:Cal l.prog w K mg base 2 "refuse_parted" _ (ur K) cx _:=⟨z8 ib Ga,nJ,mO,cv⟩
 have WI:FnOk l.prog w K mg base CX0 5 cg _ _ (qi K):=zU lH T R1 R2 R3 GR GS
 have MW:Mak l.prog w K mg base 5 "Web" _ (qi K) dO cg _:=⟨⟨yA,i4,gR,yL⟩,WI,t9,m_Web⟩
 have Gc:Cal l.prog w K mg base 1 "_law_cell" _ (vY K) iy _:=⟨BD qb T,xD,xb,ip⟩
 have L9:Cal l.prog w K mg base 1 "_law_whole" _ zM fM _:=⟨zV nU T,vM,vf,fJ⟩
 have TXS:TxtS mg aC aK:={ T with g_most:=⟨_,most⟩,g_rows:=⟨_,mrows⟩,g_places:=⟨_,places⟩,g_BadStrip:=xf,g_TooWide:=yE }
 have TXF:TxtF mg aC aK cj:={ TXS with n_ValueError:=n_ValueError,g_FloorError:=tu }
 have TXB:TxtB mg bh bg dO:={ T with n_abs:=n_abs,g_Pull:=AM,g_Push:=AL,g_Web:=m_Web }
 have IC:IsW K bh bg dO:=⟨vw,vv,y7,hn_,htk_,vp,vo,yX,gO,gL,gN,gM,ku⟩
 have eB:ErC K aC:=⟨ga_BadStrip,gt_BadStrip,hb_BadStrip,i9,ja,hn_,htk_,i8⟩
 have eT:ErC K aK:=⟨ga_TooWide,gt_TooWide,hb_TooWide,kD,kE,hn_,htk_,kC⟩
 have ef:SeF K aC aK cj:=⟨eB,eT,bx,bA,bN,bZ,bY,cu,kvB_,kvT_⟩
 have S1:Cal l.prog w K mg base 1 "rows_of" _ sv jz _:=⟨Bu ud T,zB,yB,jv⟩
 have S2:CalD l.prog w K mg base 2 "refuse_pattern" _ (xX aC) bV _:=⟨Bw gk TXS fm S1,lX,lR,bR⟩
 have S3:CalD l.prog w K mg base 1 "refuse_columns" _ (uo aC) bW _:=⟨Aa gm TXS fm,lY,lS,bS⟩
 have S4:Cal l.prog w K mg base 3 "tie_of" _ (ui bh bg) ma _:=⟨ok_of wy ML MS TL TS,Ax,Ae,l9⟩
 have S5:Cal l.prog w K mg base 4 "strip_ties" _ (um bh bg) dZ _:=⟨zW lE TXS S1 S4,tZ,tj,dS⟩
 have S6:Cal l.prog w K mg base 1 "near_places" _ xY dm _:=⟨Bx jJ,rY,qZ,dc⟩
 have S7:Cal l.prog w K mg base 2 "strip_turns" _ (qj K) di _:=⟨yu jH T S6,rW,qX,c9⟩
 have S8:CalD l.prog w K mg base 7 "strip_web" _ (vX aC aK bh bg dO) fK _:=⟨Bs nR TXS jP cw TL TS S2 S3 S1 S5 S7 MW,vK,vd,fG⟩
 have L1:Cal l.prog w K mg base 1 "_law_signed" _ Bf eg _:=⟨ok_sgn lG,t8,tq,dX⟩
 have L2:Cal l.prog w K mg base 2 "_law_pattern" _ (x4 K) du _:=⟨By jM T L1 Gc,r8,rg,dg⟩
 have L3:Cal l.prog w K mg base 1 "_law_strip_ties" _ (uv K) bX _:=⟨Ab gn T,lZ,lT,bT⟩
 have L4:Cal l.prog w K mg base 1 "_law_columns" _ x9 dv _:=⟨BC jN,r9,rh,dh⟩
 have L5:Cal l.prog w K mg base 1 "_law_turn" _ xV iw _:=⟨Br qa T,xC,w9,ik⟩
 have L6:Cal l.prog w K mg base 2 "_law_same_tie" _ (ml bh bg) cN _:=⟨Bt iP TXB IC TL TS L9,pB,oJ,cK⟩
 have L7:Cal l.prog w K mg base 3 "_law_same_web" _ (mh bh bg dO) cM _:=⟨zZ iO TXB IC cw L9 L6 L5,pA,oI,cJ⟩
 have L8:Cal l.prog w K mg base 8 "_law_refused" _ xW dt _:=⟨Bv jL TXF fk ef S8,r6,rb,df⟩
 have LA:Cal l.prog w K mg base 1 "_law_spoiled" _ uj dq _:=⟨zX jK T,rZ,q8,de⟩
 exact ok_law F_law T Gc L2 L4 LA L8 S8 L3 L7
theorem walk{l:Ey}{q:Program}{loose:List Str}{XP:(Str->Option Value)->Heap->Prop}{YP:World->Heap->Prop}{d:DefRec}{K:Params->B9}(hn:l.most=some 63)(hdf:d.params.defaults = [])
  (hY:∀(w:World)(h:Heap),YP w h->(K w.params).In h)
  (F:∀(w:World)(mg:Str->Option Value)(fa:Addr)(h:Heap),(K w.params).In h->h.Ns mainGlobals mg->mg d.name=some (.ref fa) ->
   ∃ fd:FuncData,(∀(s:Shared)(u:Value),BindsTo s fd ⟨[u],[]⟩ [("script",u)])/\∀ base:Heap,(K w.params).In base->base.Ns mainGlobals mg->FnOk l.prog w (K w.params) mg base CX0 9 fa fd ["script"] (qm (K w.params))) :
  PySem.W.WalkO q loose XP YP l.row.toRowW d [] (fun f vs=>PySem.call f vs) :=
 L2.walk_of (n:=63) (k:=9) (x:="script") (CX:=fun _=>CX0) (sp:=fun w=>qm (K w.params)) hn (by decide) hdf ⟨rfl,by decide,by decide⟩ hY F (fun _ _ a ns hl _ hS=>⟨a,ns,rfl,hS,hl,fun _=>rfl⟩) fun _ _ _ _ _ z=>z
end K8
def PySem.W.Fast.tw4165399048514709281:Nat:=0
def PySem.W.Fast.tw16455846654763969574:Nat:=0
def PySem.W.Fast.tw3493185598620930471:Nat:=0
def PySem.W.Fast.tw99908277956826023:Nat:=0
def PySem.W.Fast.tw15765313332522207561:Nat:=0
def PySem.W.Fast.tw9223116471373502635:Nat:=0
def PySem.W.Fast.tw5474646528501627276:Nat:=0
def PySem.W.Fast.tw3559736220579379471:Nat:=0
def PySem.W.Fast.tw12501229735437128143:Nat:=0
def PySem.W.Fast.tw8933227666606875632:Nat:=0
def PySem.W.Fast.tw8964645586737795153:Nat:=0
def PySem.W.Fast.tw491083592714723698:Nat:=0
def PySem.W.Fast.tw7410745182684373492:Nat:=0
def PySem.W.Fast.tw14282324337951716790:Nat:=0
def PySem.W.Fast.tw3242908751552665851:Nat:=0
def PySem.W.Fast.tw12841509336138936635:Nat:=0
def PySem.W.Fast.tw13280383168747968348:Nat:=0
def PySem.W.Fast.tw537290609215253949:Nat:=0
namespace PySem.W.Fast
def tw11050765536951928896:=0
def tw11302800334038808640:=0
def tw12040437019206222976:=0
def tw8580932943179795648:=0
def tw13349356026321253600:=0
def tw14884183554673960192:=0
def tw2077685622775591232:=0
def tw9608345672202909024:=0
def tw13969297740627861248:=0
def tw14563172821177288480:=0
def tw10685945215951385376:=0
def tw18350417738750105504:=0
def tw2047863503987179553:=0
def tw16643360992503245953:=0
def tw5968765414236529825:=0
def tw11850010194121438369:=0
def tw10030729951435743457:=0
def tw9383855849907196161:=0
def tw14419158302887807297:=0
def tw5121552278670277953:=0
def tw7006058783244848641:=0
def tw9719254619913401921:=0
def tw13675861883818442401:=0
def tw9106787241980920545:=0
def tw1964531164131317697:=0
def tw12142751150283836482:=0
def tw12022909229702473826:=0
def tw11937018035743050914:=0
def tw7349847190476344610:=0
def tw6008695395225677154:=0
def tw9054579289165346306:=0
def tw17286295065197332002:=0
def tw11350838105615454786:=0
def tw15996534252135681666:=0
def tw12022003439215065762:=0
def tw11992014615585887970:=0
def tw12063567407248551810:=0
def tw17949860153520355202:=0
def tw14485222493748105122:=0
def tw5322130800802257826:=0
def tw954108866976201666:=0
def tw3957584945424167011:=0
def tw4033865779439115491:=0
def tw14253593521899687171:=0
def tw13710137150862369123:=0
def tw8907974619945724259:=0
def tw2006986614021410211:=0
def tw2936433270589400483:=0
def tw15539469640890535363:=0
def tw220161958343740867:=0
def tw10177507041630719491:=0
def tw17738369204487911971:=0
def tw3189385794699441763:=0
def tw5656280727399596675:=0
def tw885263232585049859:=0
def tw9438867994728564547:=0
def tw4894468991416992707:=0
def tw11199688135171096547:=0
def tw17547401801945657348:=0
def tw2873757391123467492:=0
def tw14330859559497143620:=0
def tw7999163678039627204:=0
def tw18429500430679873028:=0
def tw4766872736046150148:=0
def tw9431788866966671940:=0
def tw13979008910205504100:=0
def tw13891554456873005860:=0
def tw3473523641903755076:=0
def tw15054888799042808644:=0
def tw9625056755335068612:=0
def tw16931942708877950948:=0
def tw7885997521228865541:=0
def tw15206526661805175845:=0
def tw1820076742922088581:=0
def tw8389863677614942341:=0
def tw307311247549230309:=0
def tw13878948223140355301:=0
def tw13788866978087453029:=0
def tw10904753004884365829:=0
def tw17015802617431184933:=0
def tw2995236822868982309:=0
def tw3922284787621866181:=0
def tw9765991208059621093:=0
def tw15350124543837838085:=0
def tw13913495438481171301:=0
def tw9454061846637390757:=0
def tw16256674226744066054:=0
def tw13462606197581487110:=0
def tw11409542763538977894:=0
def tw7345685115255430310:=0
def tw4958009527378554054:=0
def tw6109524976139873510:=0
def tw10340143694156898630:=0
def tw15915149061547001222:=0
def tw2776655784913031590:=0
def tw9769833815734165958:=0
def tw6919193410489460262:=0
def tw4054072526462902918:=0
def tw847505764722500262:=0
def tw16839501356043544262:=0
def tw13207151381427886790:=0
def tw6725898005877274470:=0
def tw13583270054179432358:=0
def tw8587844233874004966:=0
def tw17113217409433946215:=0
def tw12971461787708133479:=0
def tw4453621270058693799:=0
def tw5013986277861783751:=0
def tw12563282153590750471:=0
def tw16742978096063045895:=0
def tw9587904797128399271:=0
def tw6234974619791096231:=0
def tw18325914142987663911:=0
def tw18413281119951014439:=0
def tw9771300336278883879:=0
def tw1904365908333375175:=0
def tw7686423901780929287:=0
def tw13569578460776014663:=0
def tw9444606403191716775:=0
def tw17897958738191669159:=0
def tw16674486020709639079:=0
def tw7978889618190025671:=0
def tw10738365551949936615:=0
def tw9850296876003254280:=0
def tw9715371655185055816:=0
def tw14648466249136393320:=0
def tw11640782799393363048:=0
def tw8602622479599157416:=0
def tw15295767498359243976:=0
def tw11597899809368203496:=0
def tw4989595924562608392:=0
def tw9946207454162499848:=0
def tw4629334273204166952:=0
def tw10057574460381221256:=0
def tw7654379532986109384:=0
def tw2592689584549715432:=0
def tw8188269567247917576:=0
def tw2177895117184883240:=0
def tw8556662484936291880:=0
def tw10483903257454365288:=0
def tw3327900189316914856:=0
def tw1600412575570984840:=0
def tw10556710451411078120:=0
def tw13617792731304607945:=0
def tw14757190757614037289:=0
def tw17721882297745306985:=0
def tw16377275396340350441:=0
def tw8482342458273221193:=0
def tw3591248812171097673:=0
def tw2334617570386382537:=0
def tw4130030517850144489:=0
def tw4674408187613061865:=0
def tw6869285840102354665:=0
def tw18299375215142793:=0
def tw9084547862764127274:=0
def tw498391791816180874:=0
def tw9154030775266620650:=0
def tw2195981544508508490:=0
def tw10959315589679916458:=0
def tw8555708193329817034:=0
def tw16286993903009685994:=0
def tw14585639583972881994:=0
def tw9897050488587295402:=0
def tw14995181658583087818:=0
def tw18302602283660252906:=0
def tw10411509171469792042:=0
def tw8692492537621233450:=0
def tw16110223829435668298:=0
def tw4363251616689301354:=0
def tw1342699664079682442:=0
def tw13608737128309953514:=0
def tw4891544800260363403:=0
def tw7592502820991745195:=0
def tw14289442550169109707:=0
def tw17963255081288980843:=0
def tw4748495995195709835:=0
def tw2796935792888211915:=0
def tw17072938452977767947:=0
def tw2271601592198044267:=0
def tw191128589552913067:=0
def tw17412364968559835851:=0
def tw18306426007191407307:=0
def tw12455007489991638795:=0
def tw17430578352438881195:=0
def tw1424170457008094123:=0
def tw15647854918032706507:=0
def tw1230099383349589004:=0
def tw2824691770504455244:=0
def tw14113598275880049740:=0
def tw7370815291167138988:=0
def tw16141874321506057388:=0
def tw17136166768506678636:=0
def tw2490969482500077964:=0
def tw18165592311992882604:=0
def tw15108031789538837964:=0
def tw14622645735028639308:=0
def tw12604204291710420588:=0
def tw18172805034410358380:=0
def tw10969483308210721484:=0
def tw2903475856290909932:=0
def tw1984698653587733517:=0
def tw16200134369203092557:=0
def tw16880285312046709869:=0
def tw4452767899296551053:=0
def tw10722716802947516621:=0
def tw9614098043838380237:=0
def tw1571362663744696653:=0
def tw9013709455108309389:=0
def tw2469405121765754253:=0
def tw10530609901097906669:=0
def tw331758205873403405:=0
def tw3742525746048721485:=0
def tw7142034581727470221:=0
def tw1968606026858524301:=0
def tw7246010892848180941:=0
def tw10698595309383858925:=0
def tw10865770446209974029:=0
def tw15476666761331885901:=0
def tw7476053896321364845:=0
def tw2759456895226981325:=0
def tw17783677526634219598:=0
def tw6253275516127253646:=0
def tw13949210420355597486:=0
def tw13694064438746658126:=0
def tw8302849737568374158:=0
def tw15541713212799441326:=0
def tw3368418182841292430:=0
def tw14620493697670054638:=0
def tw18115300726939388654:=0
def tw8134329649067979598:=0
def tw2149835327630278542:=0
def tw8273284118947527662:=0
def tw11298349599064924175:=0
def tw11708539832964444175:=0
def tw867314675964607503:=0
def tw2871377163151021103:=0
def tw16717895986817420367:=0
def tw516029859804974639:=0
def tw494612038656297615:=0
def tw8682714464107942831:=0
def tw9545731824864346063:=0
def tw14728446461170444239:=0
def tw15920948792724715696:=0
def tw9248571294063193456:=0
def tw17258004721033876880:=0
def tw14202340741099263536:=0
def tw3077710274021873360:=0
def tw108969821149544176:=0
def tw13385062556686567248:=0
def tw2786063920252837776:=0
def tw985727398265671600:=0
def tw17598797049474853872:=0
def tw10343535143582650449:=0
def tw9024536955560962577:=0
def tw6535910103179561617:=0
def tw760337390295797425:=0
def tw3500165528184980337:=0
def tw15053102443974463345:=0
def tw6921855758425779153:=0
def tw6302764783603755058:=0
def tw9775522023766603858:=0
def tw12387222698485427282:=0
def tw9799804442677888178:=0
def tw733100620650041586:=0
def tw2252189905188597042:=0
def tw4181278499097935154:=0
def tw2674640554632856018:=0
def tw12798487720099330546:=0
def tw12487439835913233970:=0
def tw13577747481406077682:=0
def tw8171812450062008114:=0
def tw3667255793844186962:=0
def tw11890620573490565010:=0
def tw16543136680485522354:=0
def tw11476209666047139794:=0
def tw4295020904255302803:=0
def tw6170710456775227539:=0
def tw16696954887581316275:=0
def tw12355467713470874867:=0
def tw18070765502340211027:=0
def tw4445045022247737715:=0
def tw4299339157059828211:=0
def tw16046986905048946195:=0
def tw7931882798357190259:=0
def tw16969048667286142611:=0
def tw1786788825559512915:=0
def tw7344367656196755379:=0
def tw12572513790431627219:=0
def tw17044330613840410579:=0
def tw1542236875521156148:=0
def tw10760833228484387892:=0
def tw9101664076239599668:=0
def tw9483054400404011156:=0
def tw7671905589629895988:=0
def tw1754057611679557940:=0
def tw4055059859777200564:=0
def tw7284008015196739124:=0
def tw567879353655377556:=0
def tw1535936789449163412:=0
def tw12433639345618811764:=0
def tw8377799324144134036:=0
def tw8992635402071973812:=0
def tw4018831601789146036:=0
def tw17870235910801105013:=0
def tw8002829355311193333:=0
def tw6236557267608890773:=0
def tw4532176801586799189:=0
def tw1082287020993206965:=0
def tw1011417514637317845:=0
def tw2187457533495060405:=0
def tw65738105481256917:=0
def tw3629833747870189525:=0
def tw9978279339622564982:=0
def tw6855131084460349558:=0
def tw10970891313088819350:=0
def tw17026812962102600886:=0
def tw11643928269631781078:=0
def tw3573518171309175030:=0
def tw8271781238081451254:=0
def tw12180568233134128406:=0
def tw5638559598150134358:=0
def tw16234160478940941974:=0
def tw754678305031724694:=0
def tw6767792320271895190:=0
def tw807063702672424822:=0
def tw11569633044601884566:=0
def tw13900591539568385974:=0
def tw16244896638109735926:=0
def tw3193638410648737975:=0
def tw8086563956413403383:=0
def tw14752188267685279063:=0
def tw5690049517462839991:=0
def tw10811348213183838903:=0
def tw12306002925879568151:=0
def tw8130682357426095927:=0
def tw15745312370646781879:=0
def tw9390766900586780696:=0
def tw4237430497691464760:=0
def tw12585027164087669848:=0
def tw10931072998193309880:=0
def tw17631320083780151640:=0
def tw14289745539281132888:=0
def tw16448041101641040248:=0
def tw13321714760833910200:=0
def tw3615941810740936376:=0
def tw5582986455284404313:=0
def tw17414283275256908889:=0
def tw11902193460407107737:=0
def tw7939418516773910745:=0
def tw1930200651011400985:=0
def tw13163930173081232761:=0
def tw11065140843962054009:=0
def tw6250910578569033177:=0
def tw17954553606191144441:=0
def tw7209491452670903865:=0
def tw6179364853279228537:=0
def tw16474673795000839833:=0
def tw3117295703715738265:=0
def tw1165756593232001785:=0
def tw1944816915828573977:=0
def tw11582187251118259129:=0
def tw292579120646609946:=0
def tw12036262945757857914:=0
def tw5922011589521618330:=0
def tw5222281791211793818:=0
def tw7198904334325518842:=0
def tw17697914363185770010:=0
def tw16841840709719314074:=0
def tw14003019361411694266:=0
def tw7797552024305568442:=0
def tw13813474097519222522:=0
def tw13312006264073196314:=0
def tw3450981216901175098:=0
def tw13402147401145483162:=0
def tw1616853550911047578:=0
def tw9517551188336321434:=0
def tw11819379423838480346:=0
def tw5453561944036269083:=0
def tw10638080077317100603:=0
def tw5833126989227059259:=0
def tw16037998803537356859:=0
def tw3376108842456662171:=0
def tw6179179862189010107:=0
def tw12436341955148204251:=0
def tw16849653570314812635:=0
def tw6457564113072829851:=0
def tw7571060352855143931:=0
def tw8066191865989750331:=0
def tw8083685049465257563:=0
def tw11873441847523401307:=0
def tw16812286950304852603:=0
def tw10671480688556029563:=0
def tw10101687446235859579:=0
def tw8474150469419308731:=0
def tw10183105117682802363:=0
def tw18386062385456859867:=0
def tw14261606536796179291:=0
def tw6721208989976207259:=0
def tw3863455491667707803:=0
def tw2671767719125474203:=0
def tw5267434540502549435:=0
def tw9123690537211727803:=0
def tw10166052571136677819:=0
def tw17319272867480487996:=0
def tw16502888625044143548:=0
def tw12178075083030845980:=0
def tw11238389765020558012:=0
def tw16054546519126950684:=0
def tw16488199776279534396:=0
def tw16839850428305512509:=0
def tw15355090050127960189:=0
def tw13572026228749031645:=0
def tw434135879124769085:=0
def tw3451668227940502877:=0
def tw8570557146672204221:=0
def tw4675647863364272605:=0
def tw11212670516909719005:=0
def tw5136100168517375485:=0
def tw3794304861817603613:=0
def tw13136312750977370749:=0
def tw6507009269489714845:=0
def tw15153381443841075901:=0
def tw8790077284187271965:=0
def tw1684946145420490782:=0
def tw3753525015137294366:=0
def tw8979924173784702014:=0
def tw18258162800154783806:=0
def tw16598781755078722878:=0
def tw13407618476916756926:=0
def tw9665840609442608670:=0
def tw3947739490488960606:=0
def tw15811051238821775998:=0
def tw5041011805315231390:=0
def tw7992880000170716894:=0
def tw2678737989978336158:=0
def tw16215384652530786238:=0
def tw9768079787496524927:=0
def tw4537027689694351679:=0
def tw3857582997984985503:=0
def tw15003742431513269695:=0
def tw6068248756593400287:=0
def tw15343545045818143487:=0
def tw10062908379347034047:=0
def tw10715064498654638047:=0
def tw3436095243268204332:=0
end PySem.W.Fast
open PySem PySem.W PyProof.Rows
set_option maxRecDepth 100000 in
set_option maxHeartbeats 0 in
theorem PySem.Challenge.cw_spinfloor_k58_strips_as_webs_holds : PySem.Challenge.rw_spinfloor_k58_strips_as_webs.Holds := by
 w_on;o_law;k_head;(case hw=>w_witness2)
 k_fill
 refine K8.walk (l:=PySem.Challenge.rw_spinfloor_k58_strips_as_webs) rfl rfl (fun w h Y=>PySem.W.kIn_of Y) ?F
 case F =>
  intro w mg fa h KX G hmg
  refine' K8.all_mk KX G hmg ?gh ?jk ?k7 ?vS ?vR ?zH ?gF ?gE ?i4 ?nO ?mR ?nG ?jw ?gK ?hG ?gQ ?dY ?sk ?rj ?rT ?l9 ?zG ?yI ?zy ?k_head ?nP ?mT ?nH ?jx ?k6 ?ko ?kR ?iq ?hV ?gH ?g7 ?dU ?ji ?i6 ?jf ?fH ?kX ?kh ?kO ?ij ?fZ ?fz ?fR ?da ?eP ?eF ?eK ?cH ?dI ?dE ?dH ?cv ?gJ ?g9 ?gP ?gR ?c4 ?cU ?cX ?bR ?c5 ?cV ?cY ?bS ?nN ?mQ ?nF ?jv ?hU ?gG ?gZ ?dS ?f9 ?fA ?fS ?dc ?fY ?fy ?fQ ?c9 ?jh ?i5 ?je ?fG ?kZ ?kj ?kQ ?ip ?jj ?i7 ?jg ?fJ ?ia ?gI ?g8 ?dX ?gf ?fE ?fV ?dg ?c6 ?cW ?cZ ?bT ?gg ?fF ?fX ?dh ?kY ?ki ?kP ?ik ?eR ?eI ?eO ?cK ?eQ ?eG ?eM ?cJ ?gc ?fD ?fU ?df ?gb ?fB ?fT ?de ?Ay ?BJ ?B3 ?BL ?fk ?fm ?bx ?ga_BadStrip ?gt_BadStrip ?hb_BadStrip ?i9 ?ja ?i8 ?bN ?bZ ?jP ?bA ?ga_TooWide ?gt_TooWide ?hb_TooWide ?kD ?kE ?kC ?bY ?cu ?uO ?vt ?uI ?uE ?va ?vh ?i3 ?i0 ?cT ?vw ?vp ?gO ?gN ?uN ?vq ?uH ?uD ?u9 ?vg ?iZ ?iY ?cS ?vv ?vo ?gM ?gL ?yn ?y4 ?yk ?ye ?yA ?yL ?iX ?iW ?gC ?fw ?gD ?y7 ?yX ?ku ?hn_ ?htk_ ?gi_most ?gi_mrows ?gi_places ?kvB_ ?kvT_ ?A4 ?A5 ?xK ?xJ ?ug ?uh ?iQ ?gu ?A2 ?A1 ?qd ?A3 ?A7 ?A0 ?A6 ?A8 ?gv
  (case gh=>k_is)
  (case jk=>k_is)
  (case k7=>k_is)
  (case vS=>k_is)
  (case vR=>k_is)
  (case zH=>k_is)
  (case gF=>k_is)
  (case gE=>k_is)
  (case i4=>k_is)
  (case nO=>k_is)
  (case mR=>k_is)
  (case nG=>k_is)
  (case jw=>k_is)
  (case gK=>k_is)
  (case hG=>k_is)
  (case gQ=>k_is)
  (case dY=>k_is)
  (case sk=>k_is)
  (case rj=>k_is)
  (case rT=>k_is)
  (case l9=>k_is)
  (case zG=>k_is)
  (case yI=>k_is)
  (case zy=>k_is)
  (case k_head=>k_is)
  (case nP=>k_is)
  (case mT=>k_is)
  (case nH=>k_is)
  (case jx=>k_is)
  (case k6=>k_is)
  (case ko=>k_is)
  (case kR=>k_is)
  (case iq=>k_is)
  (case hV=>k_is)
  (case gH=>k_is)
  (case g7=>k_is)
  (case dU=>k_is)
  (case ji=>k_is)
  (case i6=>k_is)
  (case jf=>k_is)
  (case fH=>k_is)
  (case kX=>k_is)
  (case kh=>k_is)
  (case kO=>k_is)
  (case ij=>k_is)
  (case fZ=>k_is)
  (case fz=>k_is)
  (case fR=>k_is)
  (case da=>k_is)
  (case eP=>k_is)
  (case eF=>k_is)
  (case eK=>k_is)
  (case cH=>k_is)
  (case dI=>k_is)
  (case dE=>k_is)
  (case dH=>k_is)
  (case cv=>k_is)
  (case gJ=>k_is)
  (case g9=>k_is)
  (case gP=>k_is)
  (case gR=>k_is)
  (case c4=>k_is)
  (case cU=>k_is)
  (case cX=>k_is)
  (case bR=>k_is)
  (case c5=>k_is)
  (case cV=>k_is)
  (case cY=>k_is)
  (case bS=>k_is)
  (case nN=>k_is)
  (case mQ=>k_is)
  (case nF=>k_is)
  (case jv=>k_is)
  (case hU=>k_is)
  (case gG=>k_is)
  (case gZ=>k_is)
  (case dS=>k_is)
  (case f9=>k_is)
  (case fA=>k_is)
  (case fS=>k_is)
  (case dc=>k_is)
  (case fY=>k_is)
  (case fy=>k_is)
  (case fQ=>k_is)
  (case c9=>k_is)
  (case jh=>k_is)
  (case i5=>k_is)
  (case je=>k_is)
  (case fG=>k_is)
  (case kZ=>k_is)
  (case kj=>k_is)
  (case kQ=>k_is)
  (case ip=>k_is)
  (case jj=>k_is)
  (case i7=>k_is)
  (case jg=>k_is)
  (case fJ=>k_is)
  (case ia=>k_is)
  (case gI=>k_is)
  (case g8=>k_is)
  (case dX=>k_is)
  (case gf=>k_is)
  (case fE=>k_is)
  (case fV=>k_is)
  (case dg=>k_is)
  (case c6=>k_is)
  (case cW=>k_is)
  (case cZ=>k_is)
  (case bT=>k_is)
  (case gg=>k_is)
  (case fF=>k_is)
  (case fX=>k_is)
  (case dh=>k_is)
  (case kY=>k_is)
  (case ki=>k_is)
  (case kP=>k_is)
  (case ik=>k_is)
  (case eR=>k_is)
  (case eI=>k_is)
  (case eO=>k_is)
  (case cK=>k_is)
  (case eQ=>k_is)
  (case eG=>k_is)
  (case eM=>k_is)
  (case cJ=>k_is)
  (case gc=>k_is)
  (case fD=>k_is)
  (case fU=>k_is)
  (case df=>k_is)
  (case gb=>k_is)
  (case fB=>k_is)
  (case fT=>k_is)
  (case de=>k_is)
  (case Ay=>k_is)
  (case BJ=>k_is)
  (case B3=>k_is)
  (case BL=>k_is)
  (case fk=>k_exc)
  (case fm=>k_exc)
  (case bx=>k_is)
  (case ga_BadStrip=>k_is)
  (case gt_BadStrip=>k_is)
  (case hb_BadStrip=>k_is)
  (case i9=>k_is)
  (case ja=>k_is)
  (case i8=>k_is)
  (case bN=>kit_is)
  (case bZ=>kit_is)
  (case jP=>k_exc)
  (case bA=>k_is)
  (case ga_TooWide=>k_is)
  (case gt_TooWide=>k_is)
  (case hb_TooWide=>k_is)
  (case kD=>k_is)
  (case kE=>k_is)
  (case kC=>k_is)
  (case bY=>kit_is)
  (case cu=>kit_is)
  (case uO=>k_is)
  (case vt=>k_is)
  (case uI=>k_is)
  (case uE=>k_is)
  (case va=>k_is)
  (case vh=>k_is)
  (case i3=>k_is)
  (case i0=>k_is)
  (case cT=>k_is)
  (case vw=>k_is)
  (case vp=>k_is)
  (case gO=>kit_is)
  (case gN=>kit_is)
  (case uN=>k_is)
  (case vq=>k_is)
  (case uH=>k_is)
  (case uD=>k_is)
  (case u9=>k_is)
  (case vg=>k_is)
  (case iZ=>k_is)
  (case iY=>k_is)
  (case cS=>k_is)
  (case vv=>k_is)
  (case vo=>k_is)
  (case gM=>kit_is)
  (case gL=>kit_is)
  (case yn=>k_is)
  (case y4=>k_is)
  (case yk=>k_is)
  (case ye=>k_is)
  (case yA=>k_is)
  (case yL=>k_is)
  (case iX=>k_is)
  (case iW=>k_is)
  (case gC=>k_is)
  (case fw=>k_is)
  (case gD=>k_is)
  (case y7=>k_is)
  (case yX=>k_is)
  (case ku=>kit_is)
  (case hn_=>k_is)
  (case htk_=>k_is)
  (case gi_most=>k_is)
  (case gi_mrows=>k_is)
  (case gi_places=>k_is)
  (case kvB_=>kernel_rfl)
  (case kvT_=>kernel_rfl)
  (case A4=>k_is)
  (case A5=>k_is)
  (case xK=>k_is)
  (case xJ=>k_is)
  (case ug=>k_is)
  (case uh=>k_is)
  (case iQ=>k_is)
  (case gu=>k_is)
  (case A2=>k_is)
  (case A1=>k_is)
  (case qd=>k_is)
  (case A3=>k_is)
  (case A7=>k_is)
  (case A0=>k_is)
  (case A6=>k_is)
  (case A8=>k_is)
  (case gv=>k_is)
