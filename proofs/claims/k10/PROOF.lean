import PyProof.Rows.All
import Wide.All
import OpenK.AllK
import Wide.FinOn
import Lean
import PyProof.EqAt
import PyProof.EqKinds
import PyProof.TupleCall
import KE.KTryMore
import KE.KRevIter
import PyProof.CollectIter
import PyProof.P3Eq
import PyProof.MinMaxWalk
import PyProof.StrCalls2
import PyProof.FactsAll.set_2
import KE.KSortTup
import PyProof.Rows.CallKwBuiltin
import PyProof.P3Statements
import PySem.Challenge.RW_oddjoins_k10_all_even_sets
set_option compiler.extract_closed false
set_option Elab.async false
set_option linter.all false
set_option maxRecDepth 100000
set_option maxHeartbeats 8000000
open PySem renaming wpAny_bind→aa, PyData→ad, Value→ae, wpAny_pure→ai, Shared→aq, sizeLine→ax, wpAny→ay, NameKind→aM, Program→aO, mainGlobals→aR, wpAny_newObj_type→bh, FuncData→bF, wpAny_mono→bJ
open List renaming getElem?_cons_zero→af, getElem?_cons_succ→ag, length_map→aj, map_cons→ak, mem_cons_of_mem→ao, length_cons→ap, mem_cons_self→ar, mem_cons→au, mem_singleton→av, set_cons_zero→aw, set_cons_succ→az, mem_append→aB, getElem?_map→aC, size_toArray→aD, getD_eq_getElem?_getD→aE, append_assoc→aF, length_append→aG, mem_append_right→aJ, getElem?_set_ne→aK, nil_append→aQ, getElem?_eq_getElem→aV, mem_filter→aW, replicate_succ→aX, getElem?_eq_some_iff→aY, mem_map→a5, mem_append_left→a6, length_set→a7, map_append→a9, count_append→bf, length_nil→bg, cons_append→bj, append_nil→bn, length_singleton→bo, getElem?_eq_none→bp, map_nil→bq, replicate_zero→bu, map_map→bv, drop_eq_getElem_cons→bw, not_mem_nil→bB, take_of_length_le→bC, length_filter_le→bG, getElem?_append_right→bK, getElem?_append_left→bM, nodup_cons→bN, length_take→bO, mem_of_getElem?→bP, find?_cons→bQ, lookup_cons→bS, getElem_mem→bT, filterMap_cons→bW, pairwise_cons→bY, length_range→b9, getElem_of_mem→cb, take_succ_cons→cc, getElem?_set_self→ce, perm_ext_iff_of_nodup→cg, pairwise_iff_getElem→cm, extract_eq_take_drop→cp, foldl_cons→cq, pairwise_map→cu, nodup_append→cv, map_congr_left→cy, mem_range→cz, getElem?_replicate→cA, mapM_cons→cB, filter_cons_of_pos→cC, filter_cons_of_neg→cD, drop_of_length_le→cE, filter_append→cH, count_pos_iff→cI, any_cons→cJ, perm_append_comm→cK, flatten_cons→cL, length_drop→cO, toArray→cP, countP_cons→cR, filter_cons→cS, count_cons→cT, range_succ_eq_map→cY, length_replicate→cZ, mem_reverse→c6, eq_nil_iff_forall_not_mem→c7, lookup→c9, mem_filterMap→df, reverse_cons→di, reverse_perm→dl, take_add_one→dm, all_eq_true→dn, ext_getElem→du, any_eq_true→dv, foldl→dz
open PySem.Heap renaming get?_push_of_some→ah, lt_size→aA, get?_push_size→aH, get?_update_other→aI, get?_update_self→aS, size_push→bV, get?_update_ne→de, get?_push_ne→dk
open Nat renaming le_refl→am, lt_of_lt_of_le→aL, ne_of_lt→aN, le_trans→aU, lt_irrefl→bt, zero_le→bL, lt_of_succ_lt_succ→bR, le_succ→b8, ne_of_gt→cf, lt_succ_of_lt→cr, lt_or_ge→cF, pow_le_pow_right→cN, lt_of_le_of_lt→cU, add_sub_cancel_left→cV, zero_add→cW, lt_succ_self→dq, le_of_lt→dw, le_of_eq→dA, lt_trans→dB, not_lt→dC, not_lt_zero→dE
open Array renaming toList_append→aP, length_toList→aT, getElem?_toList→a8, getElem_mem→be, size_extract→bi, getElem_toList→bE, toList_reverse→bU, perm_iff_toList_perm→cj, getElem_extract→ck, getElem?_eq_none→cG, toList_extract→cM, toList_inj→cQ, getElem?_eq_some_iff→dg, toList_push→dj
open Bool renaming false_ne_true→aZ, and_eq_true→bA, false_eq_true→bX, not_true→c8, eq_iff_iff→dD
open Int renaming toNat_natCast→br, le_trans→bD, le_of_lt→cw, le_refl→dc, emod_lt_of_pos→dh, emod_nonneg→dF
open Option renaming map_some→bH, isSome_iff_exists→bZ
set_option hygiene false
local macro_rules |`(tactic|rw[$n:num])=>match n.getNat with
|3=>`(tactic|(intro _;rfl))
|999=>`(tactic|(intro _ _ _ _ _ _ us hl;first | (obtain⟨_,rfl⟩:=Ar hl;rfl) | (obtain⟨_,_,rfl⟩:=Ea hl;rfl) | (obtain⟨_,_,_,rfl⟩:=GJ hl;rfl) | (obtain⟨_,_,_,_,rfl⟩:=NZ hl;rfl) | (obtain⟨_,_,_,_,_,rfl⟩:=len5 hl;rfl) | (obtain⟨_,_,_,_,_,_,rfl⟩:=len6 hl;rfl) | (cases us<;>first | rfl | cases hl)))
|_=>Lean.Macro.throwUnsupported
local macro_rules |`(!$n:num)=>match n.getNat with
|1=>`(by omega)
|2=>`(by decide)
|3=>`(by decide +kernel)
|4=>`(by simp)
|_=>Lean.Macro.throwUnsupported
noncomputable section
namespace L2
open PySem PySem.Spec PyProof.Rows
noncomputable abbrev Key:=Sum Int Str
noncomputable def qR:Key->ae->Bool
 | .inl k,v=>ae.isInt k v
 | .inr x,v=>ae.isStrOf x v
noncomputable def S8 (w:World):Key->Int
 | .inl k=>hashInt k
 | .inr x=>hashStr w x
theorem fB:∀{k:Key} {v:ae},qR k v=true->(∃i t,k=Sum.inl i/\v=ae.int i t)\/(∃x t,k=Sum.inr x/\v=ae.str x t)
 | .inl i,v,h=>by
  obtain⟨t,e⟩:=ae.isInt_shape (k:=i) (v:=v) h;exact .inl ⟨i,t,rfl,e⟩
 | .inr x,v,h=>by
  obtain⟨t,e⟩:=ae.isStrOf_shape (x:=x) (v:=v) h;exact .inr ⟨x,t,rfl,e⟩
theorem C8 (i:Int)(t:Tok):qR (.inl i) (.int i t)=true:=by simp[qR,ae.isInt]
theorem C9 (x:Str)(t:Tok):qR (.inr x) (.str x t)=true:=by simp[qR,ae.isStrOf]
theorem LC (a b:Int):decide ((Sum.inl a:Key)=Sum.inl b)=(a == b):=by
 by_cases e:a=b
 .subst e;simp
 .have h:¬ (Sum.inl a:Key)=Sum.inl b:=λq=>e (Sum.inl.inj q)
  rw[decide_eq_false h];exact (beq_eq_false_iff_ne.mpr e).symm
theorem LD (a b:Str):decide ((Sum.inr a:Key)=Sum.inr b)=decide (a=b):=by
 by_cases e:a=b
 .subst e;simp
 .have h:¬ (Sum.inr a:Key)=Sum.inr b:=λq=>e (Sum.inr.inj q)
  rw[decide_eq_false h,decide_eq_false e]
theorem LG (a:Int)(b:Str):decide ((Sum.inl a:Key)=Sum.inr b)=false:=decide_eq_false (λq=>nomatch q)
theorem LH (a:Str)(b:Int):decide ((Sum.inr a:Key)=Sum.inl b)=false:=decide_eq_false (λq=>nomatch q)
noncomputable def fG (prog:aO)(w:World):PySem.KeyKind prog w Key where
 is:=qR
 hash:=S8 w
 inj:=λv a b ha hb=>by
  rcases fB ha with⟨i,t,rfl,rfl⟩ | ⟨x,t,rfl,rfl⟩
  .rcases fB hb with⟨j,u,rfl,e⟩ | ⟨y,u,rfl,e⟩
   .injection e with e1 _;rw[e1]
   .exact nomatch e
  .rcases fB hb with⟨j,u,rfl,e⟩ | ⟨y,u,rfl,e⟩
   .exact nomatch e
   .injection e with e1 _;rw[e1]
 byValue:=λk v h=>by
  rcases fB h with⟨i,t,rfl,rfl⟩ | ⟨x,t,rfl,rfl⟩<;>rfl
 pyHash:=λhv h=>by
  rcases fB hv with⟨i,t,rfl,rfl⟩ | ⟨x,t,rfl,rfl⟩
  .exact wpAny_pyHash_int h
  .exact wpAny_pyHash_str h
 eqBool:=λhu hv h=>by
  rcases fB hu with⟨i,t,rfl,rfl⟩ | ⟨x,t,rfl,rfl⟩
  .rcases fB hv with⟨j,u,rfl,rfl⟩ | ⟨y,u,rfl,rfl⟩
   .rw[LC] at h;exact wpAny_eqBool_int h
   .rw[LG] at h;exact SeqAt.EqAt.int_str i t y u _ _ _ _ h
  .rcases fB hv with⟨j,u,rfl,rfl⟩ | ⟨y,u,rfl,rfl⟩
   .rw[LH] at h;exact SeqAt.EqAt.str_int x t j u _ _ _ _ h
   .rw[LD] at h;exact wpAny_eqBool_str h
 «strs»:=λk x t v h=>by
  rcases fB h with⟨i,u,rfl,e⟩ | ⟨y,u,rfl,e⟩
  .exact nomatch e
  .injection e with e1 _
   subst e1;cases v<;>rfl
theorem wY (prog:aO)(w:World)(i:Int)(t:Tok):(fG prog w).is (.inl i) (.int i t)=true:=C8 i t
theorem wZ (prog:aO)(w:World)(x:Str)(t:Tok):(fG prog w).is (.inr x) (.str x t)=true:=C9 x t
inductive V where
 | gB | bl (b:Bool) | int (i:Int) | str (x:Str) | EH (b:Array UInt8) | LJ (b:UInt64) | ref (a:Addr) | ty (n:String)
 deriving DecidableEq
noncomputable def RelV:V->ae->Prop
 | .gB,u=>u=ae.none
 | .bl b,u=>u=ae.bool b
 | .int i,u=>∃t,u=ae.int i t
 | .str x,u=>∃t,u=ae.str x t
 | .EH b,u=>∃t,u=ae.bytes b t
 | .LJ b,u=>∃t,u=ae.float b t
 | .ref a,u=>u=ae.ref a
 | .ty n,u=>u=ae.type n
noncomputable abbrev ee:List V->List ae->Prop:=Paired RelV
theorem ee.length (r:ee xs us):xs.length=us.length:=Paired.length r
theorem ee.get:∀{xs:List V} {us:List ae} {i:Nat} {x:V},ee xs us->xs[i]? = some x->∃u,us[i]? = some u/\RelV x u
 | _,_,_,_,.nil,e=>by simp at e
 | _,_,0,_,.cons r _,e=>by simp at e;subst e;exact⟨_,rfl,r⟩
 | _,_,i+1,x,.cons _ t,e=>by
  obtain⟨u,h1,h2⟩:=ee.get (i:=i) (x:=x) t (by simpa using e);exact⟨u,by simpa using h1,h2⟩
theorem ee.set (r:RelV x u):∀{xs:List V} {us:List ae} (i:Nat),ee xs us->ee (xs.set i x) (us.set i u)
 | _,_,_,.nil=>.nil
 | _,_,0,.cons _ t=>.cons r t
 | _,_,i+1,.cons q t=>.cons q (ee.set r i t)
theorem ee.append:∀{xs ys:List V} {us ws:List ae},ee xs us->ee ys ws->ee (xs++ys) (us++ws)
 | _,_,_,_,.nil,s=>s
 | _,_,_,_,.cons r t,s=>.cons r (ee.append t s)
theorem ee.take:∀{xs:List V} {us:List ae} (n:Nat),ee xs us->ee (xs.take n) (us.take n)
 | _,_,0,_=>.nil
 | _,_,_+1,.nil=>.nil
 | _,_,n+1,.cons r t=>.cons r (ee.take n t)
theorem ee.drop:∀{xs:List V} {us:List ae} (n:Nat),ee xs us->ee (xs.drop n) (us.drop n)
 | _,_,0,r=>r
 | _,_,_+1,.nil=>.nil
 | _,_,n+1,.cons _ t=>ee.drop n t
noncomputable def mF:Option V->Option ae->Prop
 | some v,some u=>RelV v u
 | none,none=>True
 | _,_=>False
noncomputable def KV {κ:Type}:List (κ × V)->List (κ × ae)->Prop:=Paired λ(p:κ × V) (q:κ × ae)=>p.1=q.1/\RelV p.2 q.2
noncomputable def kV:Key->V
 | .inl i=>.int i
 | .inr x=>.str x
inductive HO where
 | lst (xs:List V)
 | tup (xs:List V)
 | dK (kvs:List (Key × V)) | dT (kvs:List (List Key × V))
 | set (S:Int->Bool) (n:Nat)
 | ins (C dx:Addr) (fs:List (Str × V))
 | own (x:Addr)
 | xd (fs:List (Str × V))
 | met (f x:Addr)
 | Kg (lo hi:Int)
 | qS (o:Obj) (u:HO)
 | LK (ps:Array ae)
 | ext (φ:Heap->Prop)
noncomputable abbrev Hp:=Addr->Option HO
noncomputable def eR (H:Hp)(a:Addr)(o:HO):Hp:=λb=>if b=a then some o else H b
theorem dM:eR H a o a=some o:=by unfold eR;rw[if_pos rfl]
theorem dS (h:b≠a):eR H a o b=H b:=by unfold eR;rw[if_neg h]
theorem O5 {H:Hp}{a b:Addr}{o u:HO}(h:H a=some o)(h':H b=some u)(d:o≠u):a≠b:=by
 intro e;subst e;rw[h] at h';exact d (Option.some.inj h')
theorem eF {H:Hp}{a b:Addr}{o:HO}(h:H a=some o)(h':H b=none):a≠b:=by
 intro e;subst e;rw[h] at h';cases h'
section
variable (P:aO)(w:World)
noncomputable def vx (h:Heap)(a:Addr)(items:Array ae):Prop:=∃o,h.get? a=some o/\o.cls=.type "tuple" /\ ∃n,o.data=.seq items n/\o.dict=none
omit P w in
theorem vx.tup (p:vx h a items):IsTup h a items:=let ⟨o,e,c,n,d,_⟩:=p;⟨o,e,c,n,d⟩
omit P w in
theorem vx.new (h:Heap)(items:Array ae):vx (h.push { cls:=.type "tuple",data:=.seq items }) h.objs.size items:=⟨_,aH _ rfl,rfl,_,rfl,rfl⟩
noncomputable def fu (H:Hp)(h:Heap)(a:Addr):HO->Prop
 | .lst xs=>xs.length<=ax/\∃(its:List ae) (n:Nat),ee xs its/\h.get? a=some { cls:=.type "list",data:=.seq its.toArray n }
 | .tup xs=>xs.length<=ax/\∃its:List ae,ee xs its/\vx h a its.toArray
 | .dK kvs=>kvs.length<=ax/\(a == sysModules)=false/\∃vs,KV kvs vs/\h.DictOf (fG P w) a vs
 | .dT kvs=>kvs.length<=ax/\(a == sysModules)=false/\∃xs:List (List Key × Addr × ae),
   Paired (λ(p:List Key × V) (q:List Key × Addr × ae)=>p.1=q.1/\H q.2.1=some (.tup (p.1.map kV))/\RelV p.2 q.2.2) kvs xs /\
   ∃o es ep,h.get? a=some o/\o.ExactDict/\o.data=.dict es ep/\es.toList=xs.map (entryOfKey (tupleKind (fG P w)))/\(xs.map (·.1)).Nodup
 | .set S n=>h.SetOf (intKind P w) a S n
 | .ins C dx fs=>H dx=some (.own a)/\fs.length<=1000/\dx≠a/\h.get? a=some (W.instObj C dx) /\
   ∃mA,h.Ns1 dx mA/\(∀f,mF (fs.lookup f) (mA f))/\PySem.Within mA (fs.map (·.1))
 | .own _=>∃o,h.get? a=some o
 | .xd fs=>∃mA,h.Ns1 a mA/\∀f,mF (fs.lookup f) (mA f)
 | .Kg lo hi=>∃t u v,h.get? a=some { cls:=.type "range",data:=.fields #[.int lo t,.int hi u,.int 1 v] }
 | .qS o u=>h.get? a=some o/\fu H h a u
 | .LK ps=>h.get? a=some { cls:=.none,data:=.fields ps }
 | .met f x=>h.get? a=some (W.methodObj (.ref f) (.ref x))
 | .ext φ=>φ h/\(∃o,h.get? a=some o)/\∀h1 h2:Heap,φ h1->(∀o,h1.get? a=some o->h2.get? a=some o)->φ h2
noncomputable def jT (H:Hp)(h:Heap):Prop:=∀a o,H a=some o->fu P w H h a o
end
section
variable {P:aO}{w:World}{H H':Hp}{h h':Heap}{a:Addr}{o:HO}
theorem fu.lt (x:fu P w H h a o):a<h.objs.size:=by
 cases o with
 | lst xs=>obtain⟨_,_,_,_,e⟩:=x;exact aA e
 | tup xs=>obtain⟨_,_,_,p⟩:=x;exact p.tup.lt
 | dK kvs=>obtain⟨_,_,_,_,o,_,_,e,_⟩:=x;exact aA e
 | dT kvs=>obtain⟨_,_,_,_,o,_,_,e,_⟩:=x;exact aA e
 | set S n=>obtain⟨o,_,_,_,e,_⟩:=x;exact aA e
 | ins C dx fs=>obtain⟨_,_,_,e,_⟩:=x;exact aA e
 | own y=>obtain⟨_,e⟩:=x;exact aA e
 | xd fs=>obtain⟨_,⟨_,_,_,e,_⟩,_⟩:=x;exact aA e
 | Kg lo hi=>obtain⟨_,_,_,e⟩:=x;exact aA e
 | qS ob u=>obtain⟨e,_⟩:=x;exact aA e
 | LK ps=>exact aA (show h.get? a=some _ from x)
 | met f y=>exact aA (show h.get? a=some _ from x)
 | ext φ=>obtain⟨_,⟨_,e⟩,_⟩:=x;exact aA e
theorem Paired.LL {α β:Type}{F G:α->β->Prop}:∀{l₁:List α} {l₂:List β},Paired F l₁ l₂->(∀a b,F a b->G a b)->Paired G l₁ l₂
 | _,_,.nil,_=>.nil
 | _,_,.cons r t,f=>.cons (f _ _ r) (Paired.LL t f)
theorem fu.w4 (x:fu P w H h a o)(k:∀b u,(b=a\/H b=some (.own a))->h.get? b=some u->h'.get? b=some u)
  (ho:∀b,H b=some (.own a)->H' b=some (.own a)) (ht:∀b xs,H b=some (.tup xs)->H' b=some (.tup xs)):fu P w H' h' a o:=by
 induction o with
 | lst xs=>obtain⟨z,its,n,r,e⟩:=x;exact⟨z,its,n,r,k _ _ (.inl rfl) e⟩
 | tup xs=>obtain⟨z,its,r,ob,e,c⟩:=x;exact⟨z,its,r,ob,k _ _ (.inl rfl) e,c⟩
 | dK kvs=>obtain⟨z,y,vs,r,ob,es,ep,e,c⟩:=x;exact⟨z,y,vs,r,ob,es,ep,k _ _ (.inl rfl) e,c⟩
 | dT kvs =>
  obtain⟨z,y,xs,r,ob,es,ep,e,c⟩:=x;exact⟨z,y,xs,Paired.LL r λp q z=>⟨z.1,ht _ _ z.2.1,z.2.2⟩,ob,es,ep,k _ _ (.inl rfl) e,c⟩
 | set S n=>obtain⟨ob,es,ep,t,e,c⟩:=x;exact⟨ob,es,ep,t,k _ _ (.inl rfl) e,c⟩
 | ins C dx fs =>
  obtain⟨d,z,ne,e,mA,⟨od,es,ep,e2,c⟩,r⟩:=x;exact⟨ho _ d,z,ne,k _ _ (.inl rfl) e,mA,⟨od,es,ep,k _ _ (.inr d) e2,c⟩,r⟩
 | own y=>obtain⟨ob,e⟩:=x;exact⟨ob,k _ _ (.inl rfl) e⟩
 | xd fs=>obtain⟨mA,⟨od,es,ep,e,c⟩,r⟩:=x;exact⟨mA,⟨od,es,ep,k _ _ (.inl rfl) e,c⟩,r⟩
 | Kg lo hi=>obtain⟨t,u,v,e⟩:=x;exact⟨t,u,v,k _ _ (.inl rfl) e⟩
 | qS ob u ih=>obtain⟨e,q⟩:=x;exact⟨k _ _ (.inl rfl) e,ih q⟩
 | LK ps =>
  have e:h.get? a=some { cls:=.none,data:=.fields ps }:=x;show h'.get? a=some { cls:=.none,data:=.fields ps };exact k a _ (.inl rfl) e
 | met f y =>
  have e:h.get? a=some (W.methodObj (.ref f) (.ref y)):=x;show h'.get? a=some (W.methodObj (.ref f) (.ref y));exact k a _ (.inl rfl) e
 | ext φ=>obtain⟨p,⟨o,e⟩,st⟩:=x;exact⟨st _ _ p λo q=>k _ _ (.inl rfl) q,⟨o,k _ _ (.inl rfl) e⟩,st⟩
theorem jT.lt (x:jT P w H h)(e:H a=some o):a<h.objs.size:=(x a o e).lt
theorem jT.fresh (x:jT P w H h)(e:h.objs.size<=a):H a=none:=by
 cases q:H a with
 | none=>rfl
 | some u=>exact absurd (aL (x.lt q) e) (bt _)
theorem jT.kept (x:jT P w H h)(k:∀b u,h.get? b=some u->h'.get? b=some u):jT P w H h':=λa o e =>
 (x a o e).w4 (λb u _ q=>k b u q) (λ_ q=>q) λ_ _ q=>q
theorem jT.laid (x:jT P w H h)(k:∀b u,h.get? b=some u->h'.get? b=some u)(hp:h.objs.size<=a)(new:fu P w (eR H a o) h' a o):jT P w (eR H a o) h':=λb u e=>by
 have hn:=x.fresh hp;by_cases hb:b=a
 .subst hb;rw[dM] at e;cases e;exact new
 .rw[dS hb] at e
  exact (x b u e).w4 (λc v _ q=>k c v q) (λc q=>by rw[dS (eF q hn)];exact q) λc xs q=>by rw[dS (eF q hn)];exact q
end
noncomputable def Rd (H:Hp)(a:Addr)(u:HO):Prop:=H a=some u\/∃o,H a=some (.qS o u)
theorem Rd.ok (r:Rd H a u)(x:jT P w H h):fu P w H h a u:=by
 rcases r with r | ⟨o,r⟩
 .exact x a u r
 .obtain⟨_,q⟩:=x a _ r
  exact q
noncomputable def O6:Option HO->Prop
 | some (.lst _)=>True
 | some (.dK _)=>True
 | some (.dT _)=>True
 | some (.set _ _)=>True
 | some (.ins _ _ _)=>True
 | some (.ext _)=>True
 | _=>False
section
theorem jT.write (ok:jT P w H h)(mu:O6 (H x))(he:e=x\/H e=some (.own x))(k:∀b u,b≠e->h.get? b=some u->h'.get? b=some u)(OD:∃u,h'.get? e=some u)
  (new:fu P w (eR H x o') h' x o'):jT P w (eR H x o') h':=λb u q=>by
 have O7:∀c y,H c=some (.own y)->c≠x:=λc y r z=>by subst z;rw[r] at mu;exact mu
 have S9:∀c xs,H c=some (.tup xs)->c≠x:=λc xs r z=>by subst z;rw[r] at mu;exact mu
 by_cases hb:b=x
 .subst hb;rw[dM] at q;cases q;exact new
 .rw[dS hb] at q
  by_cases LM:b=e
  .have q':H b=some (.own x):=by
    rcases he with z | z
    .exact absurd (LM.trans z) hb
    .rw[LM];exact z
   rw[q] at q';cases q';obtain⟨v,hv⟩:=OD;exact⟨v,by rw[LM];exact hv⟩
  .refine (ok b u q).w4 (λc v hc r=>k c v ?_ r) (λc r=>by rw[dS (O7 c b r)];exact r) λc xs r=>by rw[dS (S9 c xs r)];exact r
   rcases hc with rfl | hc
   .exact LM
   .rintro rfl
    rcases he with z | z
    .exact O7 c b hc z
    .rw[hc] at z;cases z;exact hb rfl
end
structure Un (fs ex:List Addr) (H H':Hp) (h h':Heap):Prop where
 keep:∀b o,h.get? b=some o->H b=none->b ∉ fs->b ∉ ex->h'.get? b=some o
 slot:∀b o,h.get? b=some o->H b=none->b∈fs->b ∉ ex->∃sl,h'.get? b=some { o with slots:=sl }
 free:∀b o,h.get? b=some o->H b=none->b ∉ ex->H' b=none
 there:∀b o,h.get? b=some o->b ∉ ex->∃o',h'.get? b=some o'
 tu:∀b xs,H b=some (.tup xs)->H' b=some (.tup xs)
 qT:∀b o u,H b=some (.qS o u)->H' b=some (.qS o u)
 tw:∀b ps,H b=some (.LK ps)->∃more,H' b=some (.LK (ps++more))
section
variable {fs ZS ex ZT:List Addr}{H H1 H2:Hp}{h h1 h2 h':Heap}{a x e:Addr}{o:HO}
theorem Un.any (u:Un fs ex H H1 h h1)(q:h.get? b=some ob)(n:H b=none)(hx:b ∉ ex):∃sl,h1.get? b=some { ob with slots:=sl }:=by
 by_cases hb:b∈fs
 .exact u.slot b ob q n hb hx
 .exact⟨ob.slots,u.keep b ob q n hb hx⟩
theorem Un.kept (k:∀b u,h.get? b=some u->h'.get? b=some u):Un fs ex H H h h' :=
 ⟨λb ob q _ _ _=>k b ob q,λb ob q _ _ _=>⟨ob.slots,k b ob q⟩,λ_ _ _ n _=>n,λb ob q _=>⟨ob,k b ob q⟩,λ_ _ q=>q,λ_ _ _ q=>q,λ_ ps q=>⟨#[],by rw[q];simp⟩⟩
theorem Un.refl:Un fs ex H H h h:=Un.kept λ_ _ q=>q
theorem Un.laid (k:∀b u,h.get? b=some u->h'.get? b=some u)(hp:h.objs.size<=a)(hn:H a=none):Un fs ex H (eR H a o) h h' where
 keep:=λb u q _ _ _=>k b u q
 slot:=λb u q _ _ _=>⟨u.slots,k b u q⟩
 free:=λb u q n _=>by rw[dS (aN (aL (aA q) hp))];exact n
 there:=λb u q _=>⟨u,k b u q⟩
 tu:=λb xs q=>by rw[dS (eF q hn)];exact q
 qT:=λb u xs q=>by rw[dS (eF q hn)];exact q
 tw:=λb ps q=>⟨#[],by rw[dS (eF q hn),q];simp⟩
theorem Un.write (mu:O6 (H x))(he:e=x\/H e=some (.own x))(k:∀b u,b≠e->h.get? b=some u->h'.get? b=some u)(OD:∃u,h'.get? e=some u):Un fs ex H (eR H x o) h h':=by
 have hx:∀b,H b=none->b≠x:=λb n z=>by subst z;rw[n] at mu;exact mu
 have hb:∀b,H b=none->b≠e:=λb n z=>by
  subst z;rcases he with r | r
  .exact hx b n r
  .rw[n] at r;cases r
 have hm:∀b u,H b=some u->¬ O6 (some u)->b≠x:=λb u q nm z=>by subst z;rw[q] at mu;exact nm mu
 refine⟨λb u q n _ _=>k b u (hb b n) q,λb u q n _ _=>⟨u.slots,k b u (hb b n) q⟩,λb u q n _=>by rw[dS (hx b n)];exact n,λb u q _=>?_,
  λb xs q=>by rw[dS (hm b _ q λz=>z)];exact q,λb u xs q=>by rw[dS (hm b _ q λz=>z)];exact q,λb ps q=>⟨#[],by rw[dS (hm b _ q λz=>z),q];simp⟩⟩
 by_cases LM:b=e
 .subst LM;exact OD
 .exact⟨u,k b u LM q⟩
end
noncomputable def R9 (h:Heap)(H:Hp):List Addr:=(List.range h.objs.size).filter λa=>(H a).isSome
noncomputable def vy (h:Heap)(H:Hp):Heap:=W.hideAll h (R9 h H)
theorem C' (h:Heap)(H:Hp):(vy h H).objs.size=h.objs.size:=W.hideAll_size _ _
theorem ES (e:h.get? b=some o)(n:H b=none):(vy h H).get? b=some o :=
 W.hideAll_get _ e λhm=>by
  have q:(H b).isSome=true:=(aW.mp hm).2;rw[n] at q;simp at q
theorem Ia (e:(vy h H).get? b=some o):h.get? b=some o/\H b=none:=by
 have e':h.get? b=some o:=W.of_hideAll (R9 h H) e;refine⟨e',?_⟩
 cases q:H b with
 | none=>rfl
 | some x =>
  have hm:b∈R9 h H:=aW.mpr ⟨cz.mpr (aA e'),by simp[q]⟩;have z:(vy h H).get? b=none:=W.hideAll_none (R9 h H) hm;rw[z] at e;cases e
structure Mod (K:W.Frag) (mg:Str->Option ae) (base:Heap):Prop where
 O8:K.In base
 glob:base.Ns aR mg
 blt:∃mb,base.Ns builtinsNs mb/\∀x:Str,x ≠ "__name__" -> mb x=bootBuiltins x
 nolimit:base.NoLimit
structure Cx where
 prog:aO
 w:World
 K:W.Frag
 mg:Str->Option ae
 base:Heap
 A:Around
 N:List Str
 s₀:aq
 H₀:Hp
 env:Env
 outer:List Env
 stack:List Env
 ex:List Addr
 fn:Str->Bool
 calm:Bool
 pn:List (Addr × Obj)
 xe:ae->aq->Prop
noncomputable def mS (l:List Env):List Addr:=l.filterMap (·.frame)
noncomputable abbrev Cx.fs (X:Cx):List Addr:=mS X.outer
noncomputable def s9 (sc:Scope)(x:Str):Prop:=sc.names.lookup x=some .local\/sc.names.lookup x=some .cell\/sc.names.lookup x=some .free
noncomputable def Loc (sc:Scope)(x:Str):Prop:=sc.names.lookup x=some .local\/sc.names.lookup x=some .cell
noncomputable def Look (env:Env)(h:Heap)(m:Str->Option ae)(x:Str)(u:ae):Prop :=
 (env.kindOf x=some .local/\m x=some u)\/((env.kindOf x=some .cell\/env.kindOf x=some .free)/\∃c,env.cells.lookup x=some c/\h.IsCell c (some u))
structure Cx.Ok (X:Cx):Prop where
 mod:Mod X.K X.mg X.base
 kind:X.env.scope.kind=.function
 glob:X.env.globals=aR
 blt:X.env.builtins=builtinsNs
 above:X.s₀.heap.objs.size<=X.env.locals
 inj:∀x y c,X.env.cells.lookup x=some c->X.env.cells.lookup y=some c->x=y
 has:∀x,(X.env.kindOf x=some .cell\/X.env.kindOf x=some .free)->∃c,X.env.cells.lookup x=some c
 OE:∀x c,X.fn x=true->X.env.cells.lookup x=some c->X.s₀.heap.objs.size<=c
 hd:X.calm=true->X.A.handled=none
 frames:X.A.frames=some X.stack
 O9:X.stack=X.outer\/(X.stack=X.env::X.outer/\X.env.frame=some X.env.locals)
 Ta:∀b∈X.ex,b≠X.env.locals/\∀x c,X.env.cells.lookup x=some c->c≠b
 bs:∀b o,X.base.get? b=some o->X.s₀.heap.get? b=some o/\X.H₀ b=none
 Ib:X.base.objs.size<=X.s₀.heap.objs.size
 Dc:∀b o,X.base.get? b=some o->b ∉ X.ex
 ET:∀b∈X.ex,b ∉ X.fs
 o4:X.s₀.heap.FunFrames X.base X.outer
 Kh:∀b∈X.fs,X.H₀ b=none
structure Inv (X:Cx) (pins:List (Addr × Obj)) (σ:List (Option V)) (H:Hp) (s:aq):Prop where
 ok:X.Ok
 os:s.os=X.s₀.os
 bare:AllBare s.gens
 base:Un X.fs X.ex X.H₀ H X.s₀.heap s.heap
 loc:∃m,s.heap.Ns X.env.locals m/\∀(i:Nat) (x:Str) (v:V),X.N[i]? = some x->σ[i]? = some (some v)->s9 X.env.scope x->∃u,RelV v u/\Look X.env s.heap m x u
 cell:∀x c,X.env.cells.lookup x=some c->∃v,s.heap.IsCell c v
 free:H X.env.locals=none
 freeC:∀x c,X.env.cells.lookup x=some c->H c=none
 pin:∀p∈X.pn++pins,s.heap.get? p.1=some p.2/\H p.1=none/\p.1≠X.env.locals/\p.1 ∉ X.fs/\∀v,p.2.data≠.cell v
 hok:jT X.prog X.w H s.heap
 len:σ.length=X.N.length
section
variable {X:Cx}{pins:List (Addr × Obj)}{σ:List (Option V)}{H H':Hp}{s:aq}{h':Heap}
theorem Cx.Ok.Tb (ok:X.Ok){b:Addr}{o:Obj}(e:X.base.get? b=some o):b ∉ X.fs:=λhb=>by
 have:=(ok.o4.mem hb).1;rw[e] at this;cases this
theorem Inv.bs (I:Inv X pins σ H s):∀b o,X.base.get? b=some o->s.heap.get? b=some o/\H b=none:=λb o e =>
 ⟨I.base.keep b o (I.ok.bs b o e).1 (I.ok.bs b o e).2 (I.ok.Tb e) (I.ok.Dc b o e),I.base.free b o (I.ok.bs b o e).1 (I.ok.bs b o e).2 (I.ok.Dc b o e)⟩
theorem Inv.bk (I:Inv X pins σ H s):∀b o,X.base.get? b=some o->s.heap.get? b=some o:=λb o e=>(I.bs b o e).1
theorem Inv.mod (I:Inv X pins σ H s):Mod X.K X.mg X.base:=I.ok.mod
theorem Inv.mT (I:Inv X pins σ H s):X.K.In s.heap:=I.ok.mod.O8.keeps I.bk
theorem Inv.lt (I:Inv X pins σ H s):X.env.locals<s.heap.objs.size:=let ⟨_,hn,_⟩:=I.loc;hn.lt
theorem Inv.sz (I:Inv X pins σ H s):X.s₀.heap.objs.size<=s.heap.objs.size:=aU I.ok.above (dw I.lt)
theorem Inv.O' (I:Inv X pins σ H s)(h:s.heap.objs.size<=a):a ∉ X.fs:=λhb=>by
 obtain⟨_,o,ho,_⟩:=I.ok.o4.mem hb;exact absurd (aL (aA ho) (aU I.sz h)) (bt _)
theorem Inv.EU (I:Inv X pins σ H s):∀x c,X.env.cells.lookup x=some c->c≠X.env.locals:=λx c e z=>by
 obtain⟨v,o,ho,hd⟩:=I.cell x c e;obtain⟨m,⟨o',es,ep,HG,LN,_⟩,_⟩:=I.loc;rw[z,HG] at ho;cases ho;rw[LN] at hd;cases hd
theorem Inv.o4 (I:Inv X pins σ H s):s.heap.FunFrames X.base X.outer:=by
 have all:∀(l:List Env),(∀b∈mS l,b∈X.fs)->X.s₀.heap.FunFrames X.base l->s.heap.FunFrames X.base l:=by
  intro l
  induction l with
  | nil=>intro _ _;trivial
  | cons env r ih =>
   intro hs hl;obtain⟨hk,⟨L,o,hf,hn,ho,hd⟩,hr⟩:=hl;have hL:L∈X.fs:=hs L (by unfold mS;rw[bW,hf];exact ar);obtain⟨sl,e⟩:=I.base.slot L o ho (I.ok.Kh L hL) hL λz=>I.ok.ET L z hL;exact⟨hk,⟨L,_,hf,hn,e,hd⟩,ih (λb hb=>hs b (by unfold mS;rw[bW,hf];exact ao _ hb)) hr⟩
 exact all X.outer (λ_ hb=>hb) I.ok.o4
theorem Inv.stack (I:Inv X pins σ H s):s.heap.FunFrames X.base X.stack:=by
 rcases I.ok.O9 with e | ⟨e,hf⟩
 .rw[e];exact I.o4
 .rw[e]
  obtain⟨m,hn,_⟩:=I.loc;refine .cons (by rw[I.ok.kind];decide) hf hn ?_ I.o4;exact Heap.get?_none_of_le (aU I.ok.Ib I.ok.above)
theorem Inv.qU (I:Inv X pins σ H s):∀b∈mS X.stack,b∈X.env.locals::X.fs:=λb hb=>by
 rcases I.ok.O9 with e | ⟨e,hf⟩
 .rw[e] at hb;exact ao _ hb
 .rw[e] at hb
  unfold mS at hb;rw[bW,hf] at hb;exact hb
theorem Inv.qw (I:Inv X pins σ H s):∀b∈mS X.stack,H b=none:=λb hb=>by
 rcases au.mp (I.qU b hb) with e | hb
 .rw[e];exact I.free
 .obtain⟨_,o,ho,_⟩:=I.ok.o4.mem hb
  exact I.base.free b o ho (I.ok.Kh b hb) λz=>I.ok.ET b z hb
theorem Inv.step {g':Array GenState}{t':Nat}{d':Drawn}{ch:List Addr}(I:Inv X pins σ H s)
  (BB:∀b∈ch,(b∈X.ex\/X.s₀.heap.objs.size<=b)/\b≠X.env.locals/\(∀x c,X.env.cells.lookup x=some c->c≠b)/\∀p∈X.pn++pins,p.1≠b)
  (keep:∀b o,b≠X.env.locals->b ∉ X.fs->b ∉ ch->s.heap.get? b=some o->H b=none->h'.get? b=some o)
  (slot:∀b o,b≠X.env.locals->b∈X.fs->b ∉ ch->s.heap.get? b=some o->H b=none->∃sl,h'.get? b=some { o with slots:=sl }) (free:∀b o,b ∉ ch->s.heap.get? b=some o->H b=none->H' b=none)
  (there:∀b o,b ∉ ch->s.heap.get? b=some o->∃o',h'.get? b=some o')
  (tu:∀b xs,H b=some (.tup xs)->H' b=some (.tup xs)) (qT:∀b o u,H b=some (.qS o u)->H' b=some (.qS o u)) (tw:∀b ps,H b=some (.LK ps)->∃more,H' b=some (.LK (ps++more)))
  (ns:∀m,s.heap.Ns X.env.locals m->h'.Ns X.env.locals m) (hok:jT X.prog X.w H' h') (hg:AllBare g') :
  Inv X pins σ H' { s with heap:=h',gens:=g',drawn:=d',toks:=t' }:=by
 have VM:∀b o,X.s₀.heap.get? b=some o->b≠X.env.locals:=λb o e=>aN (aL (aA e) I.ok.above)
 have R':∀b o,X.s₀.heap.get? b=some o->b ∉ X.ex->b ∉ ch:=λb o e hx hb=>by
  rcases (BB b hb).1 with z | z
  .exact hx z
  .exact absurd (aL (aA e) z) (bt _)
 have Ki:∀x c,X.env.cells.lookup x=some c->∀v,s.heap.IsCell c v->h'.IsCell c v:=λx c e v ⟨o,ho,hd⟩=>by
  have Pa:c ∉ ch:=λz=>(BB c z).2.2.1 x c e rfl;by_cases hc:c∈X.fs
  .obtain⟨sl,q⟩:=slot c o (I.EU x c e) hc Pa ho (I.freeC x c e)
   exact⟨_,q,hd⟩
  .exact⟨o,keep c o (I.EU x c e) hc Pa ho (I.freeC x c e),hd⟩
 refine⟨I.ok,I.os,hg,⟨λb o e n hb hx=>?_,λb o e n hb hx=>?_,λb o e n hx=>?_,λb o e hx=>?_,λb xs e=>tu b xs (I.base.tu b xs e),λb o xs e=>qT b o xs (I.base.qT b o xs e),λb ps e=>?_⟩,?_,λx c e=>?_,?_,λx c e=>?_,λp hp=>?_,hok,I.len⟩
 .exact keep b o (VM b o e) hb (R' b o e hx) (I.base.keep b o e n hb hx) (I.base.free b o e n hx)
 .obtain⟨sl,e1⟩:=I.base.slot b o e n hb hx
  obtain⟨Tc,e2⟩:=slot b _ (VM b o e) hb (R' b o e hx) e1 (I.base.free b o e n hx);exact⟨Tc,e2⟩
 .obtain⟨o',e1⟩:=I.base.there b o e hx
  exact free b o' (R' b o e hx) e1 (I.base.free b o e n hx)
 .obtain⟨o',e1⟩:=I.base.there b o e hx
  exact there b o' (R' b o e hx) e1
 .obtain⟨m1,e1⟩:=I.base.tw b ps e
  obtain⟨m2,e2⟩:=tw b _ e1;exact⟨m1++m2,by rw[e2,Array.append_assoc]⟩
 .obtain⟨m,hn,hl⟩:=I.loc
  refine⟨m,ns m hn,λi x v e1 e2 e3=>?_⟩;obtain⟨u,r,l⟩:=hl i x v e1 e2 e3;refine⟨u,r,?_⟩;rcases l with l | ⟨k,c,e,z⟩
  .exact .inl l
  .exact .inr ⟨k,c,e,Ki x c e _ z⟩
 .obtain⟨v,z⟩:=I.cell x c e
  exact⟨v,Ki x c e v z⟩
 .obtain⟨m,⟨o,_,_,ho,_⟩,_⟩:=I.loc
  exact free _ o (λz=>(BB _ z).2.1 rfl) ho I.free
 .obtain⟨v,o,ho,hd⟩:=I.cell x c e
  exact free c o (λz=>(BB c z).2.2.1 x c e rfl) ho (I.freeC x c e)
 .obtain⟨e,n,ne,nf,d⟩:=I.pin p hp
  have Pa:p.1 ∉ ch:=λz=>(BB p.1 z).2.2.2 p hp rfl;exact⟨keep p.1 p.2 ne nf Pa e n,free p.1 p.2 Pa e n,ne,nf,d⟩
theorem Inv.un {t':Nat}(I:Inv X pins σ H s)(u:Un X.fs [] H H' s.heap h')(hok:jT X.prog X.w H' h'):Inv X pins σ H' { s with heap:=h',toks:=t' }:=by
 obtain⟨m,⟨o,es,ep,ho,r⟩,_⟩:=id I.loc;obtain⟨sl,hL⟩:=u.any ho I.free (!4)
 exact I.step (g':=s.gens) (d':=s.drawn) (ch:=[]) (λ_ z=>nomatch z) (λb o _ hb _ e n=>u.keep b o e n hb (!4)) (λb o _ hb _ e n=>u.slot b o e n hb (!4)) (λb o _ e n=>u.free b o e n (!4)) (λb o _ e=>u.there b o e (!4)) u.tu u.qT u.tw (λm' hm=>by
  obtain⟨o',ji,Sa,HG,r'⟩:=hm;rw[ho] at HG;cases HG;exact⟨_,ji,Sa,hL,r'⟩) hok I.bare
theorem Inv.call {g':Array GenState}{t':Nat}{d':Drawn}{ch:List Addr}(I:Inv X pins σ H s)(u:Un (mS X.stack) ch H H' s.heap h')(hok:jT X.prog X.w H' h')(hg:AllBare g')
  (BB:∀b∈ch,(b∈X.ex\/X.s₀.heap.objs.size<=b)/\b≠X.env.locals/\(∀x c,X.env.cells.lookup x=some c->c≠b)/\∀p∈X.pn++pins,p.1≠b) :
  Inv X pins σ H' { s with heap:=h',gens:=g',drawn:=d',toks:=t' }:=by
 obtain⟨m,⟨o,es,ep,ho,r⟩,_⟩:=id I.loc;obtain⟨sl,hL⟩:=u.any ho I.free λz=>(BB _ z).2.1 rfl
 exact I.step (ch:=ch) BB (λb o hL hb hc e n=>u.keep b o e n (λz=>(au.mp (I.qU b z)).elim hL hb) hc) (λb o _ _ hc e n=>u.any e n hc) (λb o hc e n=>u.free b o e n hc) (λb o hc e=>u.there b o e hc) u.tu u.qT u.tw (λm' hm=>by
  obtain⟨o',ji,Sa,HG,r'⟩:=hm;rw[ho] at HG;cases HG;exact⟨_,ji,Sa,hL,r'⟩) hok hg
theorem Inv.turned {t':Nat}{it:Addr}(I:Inv X pins σ H s)(k:∀b o,b≠it->s.heap.get? b=some o->h'.get? b=some o)(hn:H it=none)(hL:it≠X.env.locals)
  (h1:it∈X.ex\/X.s₀.heap.objs.size<=it) (h2:∀x c,X.env.cells.lookup x=some c->c≠it) (h3:∀p∈X.pn++pins,p.1≠it):Inv X pins σ H { s with heap:=h',toks:=t' }:=by
 have Kj:∀b u,H b=some u->b≠it:=λb u e z=>by rw[z,hn] at e;cases e
 refine I.step (g':=s.gens) (d':=s.drawn) (ch:=[it]) (λb hb=>?_) (λb o _ _ hc e _=>k b o (λz=>hc (by simp[z])) e) (λb o _ _ hc e _=>⟨o.slots,k b o (λz=>hc (by simp[z])) e⟩) (λ_ _ _ _ n=>n)
  (λb o hc e=>⟨o,k b o (λz=>hc (by simp[z])) e⟩) (λ_ _ e=>e) (λ_ _ _ e=>e) (λb ps e=>⟨#[],by rw[e];simp⟩) (λm hm=>?_) (λb u e=>?_) I.bare
 .have e:b=it:=by simpa using hb
  subst e;exact⟨h1,hL,h2,h3⟩
 .obtain⟨o,es,ep,ho,r⟩:=hm
  exact⟨o,es,ep,k _ o (Ne.symm hL) ho,r⟩
 .refine (I.hok b u e).w4 (λc v hc q=>k c v ?_ q) (λ_ q=>q) λ_ _ q=>q
  rcases hc with z | z
  .rw[z];exact Kj b u e
  .exact Kj c _ z
theorem Inv.tok (I:Inv X pins σ H s)(t:Nat):Inv X pins σ H { s with toks:=t }:=I.un (h':=s.heap) (t':=t) Un.refl I.hok
theorem Inv.kept {t':Nat}(I:Inv X pins σ H s)(k:∀b u,s.heap.get? b=some u->h'.get? b=some u):Inv X pins σ H { s with heap:=h',toks:=t' }:=I.un (Un.kept k) (I.hok.kept k)
theorem Inv.laid {a:Addr}{o:HO}{t':Nat}(I:Inv X pins σ H s)(k:∀b u,s.heap.get? b=some u->h'.get? b=some u)(hp:s.heap.objs.size<=a)(new:fu X.prog X.w (eR H a o) h' a o) :
  Inv X pins σ (eR H a o) { s with heap:=h',toks:=t' }:=I.un (Un.laid k hp (I.hok.fresh hp)) (I.hok.laid k hp new)
theorem Inv.write {x e:Addr}{o:HO}{t':Nat}(I:Inv X pins σ H s)(mu:O6 (H x))(he:e=x\/H e=some (.own x))(k:∀b u,b≠e->s.heap.get? b=some u->h'.get? b=some u)(OD:∃u,h'.get? e=some u)
  (new:fu X.prog X.w (eR H x o) h' x o):Inv X pins σ (eR H x o) { s with heap:=h',toks:=t' }:=I.un (Un.write mu he k OD) (I.hok.write mu he k OD new)
theorem Inv.qx (I:Inv X pins σ H s)(h:∀p∈Pb,s.heap.get? p.1=some p.2/\H p.1=none/\p.1≠X.env.locals/\p.1 ∉ X.fs/\∀v,p.2.data≠.cell v):Inv X Pb σ H s :=
 ⟨I.ok,I.os,I.bare,I.base,I.loc,I.cell,I.free,I.freeC,λp hp=>(aB.mp hp).elim (λz=>I.pin p (a6 _ z)) (h p),I.hok,I.len⟩
theorem qV {N:List Str}(hN:N.Nodup){i j:Nat}{x:Str}(a:N[i]? = some x)(b:N[j]? = some x):i=j:=by
 obtain⟨h1,e1⟩:=aY.mp a;obtain⟨h2,e2⟩:=aY.mp b;exact (List.getElem_inj hN).mp (e1.trans e2.symm)
theorem tX {M:Model}{A:Around}{E:ae->aq->Prop}{i:Nat}{x:Str}{v:V}{u:ae}{Q:Unit->aq->Prop}(I:Inv X pins σ H s)(hN:X.N.Nodup)(hi:X.N[i]? = some x)(hx:Loc X.env.scope x)(r:RelV v u)
  (h:∀s',Inv X pins (σ.set i (some v)) H s'->(∃a,Heap.SameBut a s.heap s'.heap/\(a=X.env.locals\/X.env.cells.lookup x=some a))->Q () s') (hf:X.fn x=true\/X.env.scope.names.lookup x=some .local:=by (first | exact .inl rfl | exact .inr rfl | assumption)):ay M A (storeName X.env x u) Q E s:=by
 obtain⟨m,hn,hl⟩:=id I.loc;have Td:(X.env.scope.kind == .class || (X.env.scope.kind == .module && X.env.locals != X.env.globals))=false:=by rw[I.ok.kind];rfl
 have Pc:i<σ.length:=by rw[I.len];exact (aY.mp hi).1
 have EU:=I.EU
 have BC:∀{a:Addr} {h':Heap},(∃o,s.heap.get? a=some o/\H a=none)->Heap.SameBut a s.heap h'->jT X.prog X.w H h':=λ{a h'} ha hs b ob e=>by
  obtain⟨_,_,BE⟩:=ha;refine (I.hok b ob e).w4 (λc w' hc q=>(hs.2 c ?_).trans q) (λ_ q=>q) λ_ _ q=>q;rintro rfl;rcases hc with rfl | hc
  .rw[BE] at e;cases e
  .rw[BE] at hc;cases hc
 rcases hx with hk | hk
 .refine wpAny_storeName_local hk hn (λh' w5 hs=>?_) Td
  obtain⟨oL,_,_,EI,_⟩:=id hn;refine h _ ⟨I.ok,I.os,I.bare,⟨λb o e n hb hx=>?_,λb o e n hb hx=>?_,I.base.free,λb o e hx=>?_,I.base.tu,I.base.qT,I.base.tw⟩,⟨_,w5,λj y v' e1 e2 e3=>?_⟩,λy c e=>?_,I.free,I.freeC,λp hp=>?_,BC ⟨oL,EI,I.free⟩ hs,by simpa using I.len⟩ ⟨_,hs,.inl rfl⟩
  .exact (hs.2 b (aN (aL (aA e) I.ok.above))).trans (I.base.keep b o e n hb hx)
  .obtain⟨sl,e1⟩:=I.base.slot b o e n hb hx
   exact⟨sl,(hs.2 b (aN (aL (aA e) I.ok.above))).trans e1⟩
  .obtain⟨o',e1⟩:=I.base.there b o e hx
   exact⟨o',(hs.2 b (aN (aL (aA e) I.ok.above))).trans e1⟩
  .by_cases hj:j=i
   .subst hj
    rw[hi] at e1;cases e1;rw[ce Pc] at e2;cases e2;exact⟨u,r,.inl ⟨hk,!4⟩⟩
   .rw[aK (Ne.symm hj)] at e2
    obtain⟨u',r',q⟩:=hl j y v' e1 e2 e3;refine⟨u',r',?_⟩;rcases q with⟨k,e⟩ | ⟨k,c,e,z⟩
    .refine .inl ⟨k,?_⟩
     have:y≠x:=λe=>hj (qV hN e1 (e ▸ hi));simp[this,e]
    .exact .inr ⟨k,c,e,z.sameBut hs (EU y c e)⟩
  .obtain⟨w',z⟩:=I.cell y c e
   exact⟨w',z.sameBut hs (EU y c e)⟩
  .obtain⟨e,n,ne,nf,d⟩:=I.pin p hp
   exact⟨(hs.2 p.1 ne).trans e,n,ne,nf,d⟩
 .have Te:X.fn x=true:=by
   rcases hf with z | z
   .exact z
   .rw[z] at hk;cases hk
  obtain⟨c,hc⟩:=I.ok.has x (.inl hk);obtain⟨w',z⟩:=I.cell x c hc;refine wpAny_storeName_cell I.ok.kind hk hc z (λh' Dd hs=>?_);obtain⟨oc,VN,Tf⟩:=id z;refine h { s with heap:=h' } ⟨I.ok,I.os,I.bare,⟨λb o e n hb hx=>?_,λb o e n hb hx=>?_,I.base.free,λb o e hx=>?_,I.base.tu,I.base.qT,I.base.tw⟩,⟨m,hn.sameBut hs (Ne.symm (EU x c hc)),λj y v' e1 e2 e3=>?_⟩,λy c' e=>?_,I.free,I.freeC,λp hp=>?_,BC ⟨oc,VN,I.freeC x c hc⟩ hs,by simpa using I.len⟩ ⟨c,hs,.inr hc⟩
  .exact (hs.2 b (aN (aL (aA e) (I.ok.OE x c Te hc)))).trans (I.base.keep b o e n hb hx)
  .obtain⟨sl,e1⟩:=I.base.slot b o e n hb hx
   exact⟨sl,(hs.2 b (aN (aL (aA e) (I.ok.OE x c Te hc)))).trans e1⟩
  .obtain⟨o',e1⟩:=I.base.there b o e hx
   exact⟨o',(hs.2 b (aN (aL (aA e) (I.ok.OE x c Te hc)))).trans e1⟩
  .by_cases hj:j=i
   .subst hj
    rw[hi] at e1;cases e1;rw[ce Pc] at e2;cases e2;exact⟨u,r,.inr ⟨.inl hk,c,hc,Dd⟩⟩
   .rw[aK (Ne.symm hj)] at e2
    obtain⟨u',r',q⟩:=hl j y v' e1 e2 e3;refine⟨u',r',?_⟩;rcases q with q | ⟨k,c',e,z'⟩
    .exact .inl q
    .refine .inr ⟨k,c',e,z'.sameBut hs ?_⟩
     rintro rfl;exact hj (qV hN e1 (I.ok.inj _ _ _ e hc ▸ hi))
  .by_cases Pd:c'=c
   .subst Pd;exact⟨_,Dd⟩
   .obtain⟨w2,z2⟩:=I.cell y c' e
    exact⟨w2,z2.sameBut hs Pd⟩
  .obtain⟨e,n,ne,nf,d⟩:=I.pin p hp
   refine⟨(hs.2 p.1 ?_).trans e,n,ne,nf,d⟩;intro q;rw[q,VN] at e;have q':oc=p.2:=Option.some.inj e;exact d w' (by rw[<- q'];exact Tf)
theorem qW (I:Inv X pins σ H s)(hN:X.N.Nodup)(hi:X.N[i]? = some x)(hx:Loc X.env.scope x)(r:RelV v u)
  (h:∀s',Inv X pins (σ.set i (some v)) H s'->Q () s') (hf:X.fn x=true\/X.env.scope.names.lookup x=some .local:=by (first | exact .inl rfl | exact .inr rfl | assumption)):ay M A (storeName X.env x u) Q E s :=
 tX I hN hi hx r (λs' I' _=>h s' I') hf
theorem Inv.Kk {s':aq}{ch:List Addr}(I:Inv X pins σ H s)(ho:s'.os=s.os)(u:Un (mS X.stack) ch H H' s.heap s'.heap)(hok:jT X.prog X.w H' s'.heap)(hg:AllBare s'.gens)
  (BB:∀b∈ch,(b∈X.ex\/X.s₀.heap.objs.size<=b)/\b≠X.env.locals/\(∀x c,X.env.cells.lookup x=some c->c≠b)/\∀p∈X.pn++pins,p.1≠b):Inv X pins σ H' s':=by
 obtain⟨h',g',d',t',o'⟩:=s';have e:o'=s.os:=ho;subst e;exact I.call (g':=g') (t':=t') (d':=d') u hok hg BB
end
noncomputable abbrev XK:=ae->Option Addr->Hp->Prop
noncomputable abbrev St:=List (Option V)
noncomputable abbrev VK:=V->Hp->Prop
noncomputable abbrev TE:=St->Hp->VK->Prop
noncomputable abbrev TT:=St->Hp->(Bool->Hp->Prop)->Prop
noncomputable abbrev TA:=St->Hp->(List V->Hp->Prop)->Prop
structure Ends where
 nx:St->Hp->Prop
 rt:VK
 bk:St->Hp->Prop:=λ_ _=>False
 ct:St->Hp->Prop:=λ_ _=>False
noncomputable abbrev TS:=Ends->St->Hp->Prop
noncomputable def EP (X:Cx)(pins:List (Addr × Obj))(σ:St)(Q:VK)(u:ae)(s':aq):Prop:=∃v H',Inv X pins σ H' s'/\RelV v u/\Q v H'
noncomputable def TP (X:Cx)(pins:List (Addr × Obj))(σ:St)(Q:Bool->Hp->Prop)(b:Bool)(s':aq):Prop:=∃H',Inv X pins σ H' s'/\Q b H'
noncomputable def AP (X:Cx)(pins:List (Addr × Obj))(σ:St)(Q:List V->Hp->Prop)(us:List ae)(s':aq):Prop:=∃vs H',Inv X pins σ H' s'/\ee vs us/\Q vs H'
noncomputable def SP (X:Cx)(pins:List (Addr × Obj))(D:Ends)(f:Flow)(s':aq):Prop :=
 match f with
 | .next=>∃σ' H',Inv X pins σ' H' s'/\D.nx σ' H'
 | .brk=>∃σ' H',Inv X pins σ' H' s'/\D.bk σ' H'
 | .cont=>∃σ' H',Inv X pins σ' H' s'/\D.ct σ' H'
 | .ret u=>∃v σ' H',Inv X pins σ' H' s'/\RelV v u/\D.rt v H'
noncomputable def PE (X:Cx)(e:Expr)(t:TE):Prop :=
 ∀(pins:List (Addr × Obj)) (s:aq) (σ:St) (H:Hp) (Q:VK),Inv X pins σ H s->t σ H Q->ay (model X.prog X.w) X.A (eval e X.env) (EP X pins σ Q) X.xe s
noncomputable def PT (X:Cx)(e:Expr)(t:TT):Prop :=
 ∀(pins:List (Addr × Obj)) (s:aq) (σ:St) (H:Hp) (Q:Bool->Hp->Prop),Inv X pins σ H s->t σ H Q->ay (model X.prog X.w) X.A (isTrue e X.env (eval e X.env)) (TP X pins σ Q) X.xe s
noncomputable def PW (X:Cx)(e:Expr)(t:TT):Prop :=
 ∀(mK:Sem ae) (pins:List (Addr × Obj)) (s:aq) (σ:St) (H:Hp) (Q:Bool->Hp->Prop),Inv X pins σ H s->t σ H Q->ay (model X.prog X.w) X.A (isTrue e X.env mK) (TP X pins σ Q) X.xe s
theorem PW.pt (h:PW X e t):PT X e t:=h _
noncomputable def PA (X:Cx)(es:List Expr)(t:TA):Prop :=
 ∀(pos:Pos) (pins:List (Addr × Obj)) (s:aq) (σ:St) (H:Hp) (Q:List V->Hp->Prop),Inv X pins σ H s->t σ H Q->ay (model X.prog X.w) X.A (spliced (backTo pos (starEach es X.env))) (AP X pins σ Q) X.xe s
noncomputable def PS (X:Cx)(st:Stmt)(t:TS):Prop :=
 ∀(pins:List (Addr × Obj)) (s:aq) (σ:St) (H:Hp) (D:Ends),Inv X pins σ H s->t D σ H->ay (model X.prog X.w) X.A (exec st X.env) (SP X pins D) X.xe s
noncomputable def ze (X:Cx)(st:List Stmt)(t:TS):Prop :=
 ∀(pins:List (Addr × Obj)) (s:aq) (σ:St) (H:Hp) (D:Ends),Inv X pins σ H s->t D σ H->ay (model X.prog X.w) X.A (execs st X.env) (SP X pins D) X.xe s
theorem fN {α:Type}{t:Sem α}{Q Q':α->aq->Prop}{M:Model}{A:Around}{E:ae->aq->Prop}{s:aq}(h:ay M A t Q E s)(hQ:∀a s,Q a s->Q' a s):ay M A t Q' E s:=bJ h hQ λ_ _ x=>x
section
variable {X:Cx}
noncomputable def LO (i:Nat):TE:=λσ H Q=>∃v,σ[i]? = some (some v)/\Q v H
noncomputable def tC (v:V):TE:=λ_ H Q=>Q v H
theorem LP (hN:X.N[i]? = some x)(hv:s9 X.env.scope x)(hd:(x == ("__debug__" : Str))=false:=by decide)(gP:(x == ("__classdict__" : Str))=false:=by decide):PE X (.Name x pos) (LO i):=by
 intro pins s σ H Q I h;obtain⟨v,e,h⟩:=h;obtain⟨m,hn,hl⟩:=I.loc;obtain⟨u,r,l⟩:=hl i x v hN e hv;have fin:EP X pins σ Q u s:=⟨v,H,I,r,h⟩;rcases l with⟨hk,hm⟩ | ⟨hk,c,hc,Km⟩
 .exact wpAny_Name (wpAny_loadName_local I.ok.kind hk hn hm fin) hd
 .rcases hk with hk | hk
  .exact wpAny_Name (wpAny_loadName_cell I.ok.kind hk hc Km fin) hd
  .exact wpAny_Name (wpAny_loadName_free I.ok.kind hk hc Km fin gP) hd
theorem LQ {i j pos}:PE X (.Constant (.int i) j pos) (tC (.int i)):=λ_ _ _ H _ I h=>wpAny_Constant_int ⟨.int i,H,I.tok _,⟨_,rfl⟩,h⟩
theorem Pe {b j pos}:PE X (.Constant (.bool b) j pos) (tC (.bl b)):=λ_ _ _ H _ I h=>Constant_bool ⟨.bl b,H,I,rfl,h⟩
theorem LR {j pos}:PE X (.Constant .none j pos) (tC .gB):=λ_ _ _ H _ I h=>Constant_none ⟨.gB,H,I,rfl,h⟩
theorem LS {x j pos}:PE X (.Constant (.str x) j pos) (tC (.str x)):=λ_ _ _ H _ I h=>Calls.Constant_str ⟨.str x,H,I.tok _,⟨_,rfl⟩,h⟩
noncomputable def Gl (X:Cx)(x:Str):Prop:=X.env.kindOf x=some .globalImplicit
theorem nQ (I:Inv X pins σ H s)(hg:Gl X x)(hm:X.mg x=some u)(h:Q u s)
  (hd:(x == ("__debug__" : Str))=false:=by decide):ay (model X.prog X.w) X.A (eval (.Name x pos) X.env) Q E s :=
 Calls.Name_function_global I.ok.kind hg (Calls.loadGlobal_global (by rw[I.ok.glob];exact I.mod.glob.keeps I.bk) hm h) hd
theorem qX (I:Inv X pins σ H s)(hg:Gl X x)(hm:X.mg x=none)(hv:bootBuiltins x=some u)(h:Q u s)
  (hn:x ≠ "__name__" := by decide) (hd:(x == ("__debug__" : Str))=false:=by decide):ay (model X.prog X.w) X.A (eval (.Name x pos) X.env) Q E s:=by
 obtain⟨mb,h1,h2⟩:=I.mod.blt;exact Calls.Name_function_global I.ok.kind hg (Calls.loadGlobal_builtin (by rw[I.ok.glob];exact I.mod.glob.keeps I.bk) hm (by rw[I.ok.blt];exact h1.keeps I.bk) ((h2 x hn).trans hv) h) hd
theorem BF {x:Str}{v:V}{u:ae}{pos:Pos}(hg:Gl X x)(hm:X.mg x=some u)(r:RelV v u)(hd:(x == ("__debug__" : Str))=false:=by decide):PE X (.Name x pos) (tC v) :=
 λ_ _ _ H _ I h=>nQ I hg hm ⟨v,H,I,r,h⟩ hd
theorem Ic (hg:Gl X x)(hm:X.mg x=none)(hv:bootBuiltins x=some u)(r:RelV v u)(hn:x ≠ "__name__" := by decide)(hd:(x == ("__debug__" : Str))=false:=by decide):PE X (.Name x pos) (tC v) :=
 λ_ _ _ H _ I h=>qX I hg hm hv ⟨v,H,I,r,h⟩ hn hd
variable {a b:Expr}{ta tb:TE}{pos:Pos}
noncomputable def PC (X:Cx)(op:CmpOp)(a b:Expr)(t:TE):Prop :=
 ∀(pins:List (Addr × Obj)) (s:aq) (σ:St) (H:Hp) (Q:VK),Inv X pins σ H s->t σ H Q ->
  ay (model X.prog X.w) X.A (eval a X.env) (λv s₁=>ay (model X.prog X.w) X.A (eval b X.env) (λu s₂=>ay (model X.prog X.w) X.A (compareOp op v u) (EP X pins σ Q) X.xe s₂) X.xe s₁) X.xe s
noncomputable def tB (t:TE):TT:=λσ H Q=>t σ H λx H1=>∃c,x=.bl c/\Q c H1
theorem LU (h:PC X op a b t)(h1:behindInMarks op b=false:=by first | exact EV _ (!2) (!2) | rfl):PE X (.Compare a [op] [b] pos) t:=λpins s σ H Q I hw=>wpAny_Compare1 (h pins s σ H Q I hw) h1
theorem LV (h:PC X op a b t)(h1:behindInMarks op b=false:=by first | exact EV _ (!2) (!2) | rfl):PT X (.Compare a [op] [b] pos) (tB t):=by
 intro pins s σ H Q I hw;refine wpAny_isTrue_Compare1 (fN (h pins s σ H _ I hw) λv s1 h1=>fN h1 λu s2 h2=>fN h2 λc s3 ⟨x,H1,I1,r1,q1⟩=>?_) h1;obtain⟨d,rfl,q⟩:=q1;cases r1;exact wpAny_truthy_bool ⟨H1,I1,q⟩
theorem LW {e:Expr}{t:TE}(h:PE X e t)(he:∀mK,isTrue e X.env mK=(do let v <- mK;standAt e.pos;holding [v] (truthy v)):=by rw[3]):PT X e (tB t):=by
 intro pins s σ H Q I hw;refine isTrue_plain (fN (h pins s σ H _ I hw) λv s1 ⟨x,H1,I1,r1,q1⟩=>?_) (he _);obtain⟨d,rfl,q⟩:=q1;cases r1;exact wpAny_truthy_bool ⟨H1,I1,q⟩
variable {tA Ie:TT}{rest:List Expr}
noncomputable def Pf (t u:TT):TT:=λσ H Q=>t σ H λc H1=>if c=true then u σ H1 Q else Q false H1
noncomputable def VO (t u:TT):TT:=λσ H Q=>t σ H λc H1=>if c=true then Q true H1 else u σ H1 Q
noncomputable def Pg (t:TT):TT:=λσ H Q=>t σ H λc H1=>Q (!c) H1
theorem pw_and1 (ha:PT X a tA):PW X (.BoolOp .And [a] pos) tA:=by
 intro wh pins s σ H Q I h;refine isTrue_and (fN (ha pins s σ H Q I h) λc s1 e=>?_)
 cases c with
 | true=>exact isTrue_and_nil e
 | false=>exact e
theorem pw_or1 (ha:PT X a tA):PW X (.BoolOp .Or [a] pos) tA:=by
 intro wh pins s σ H Q I h;refine isTrue_or (fN (ha pins s σ H Q I h) λc s1 e=>?_)
 cases c with
 | false=>exact isTrue_or_nil e
 | true=>exact e
theorem pw_and (ha:PT X a tA)(hb:PW X (.BoolOp .And (b::rest) pos) Ie):PW X (.BoolOp .And (a::b::rest) pos) (Pf tA Ie):=by
 intro wh pins s σ H Q I h;refine isTrue_and (fN (ha pins s σ H _ I h) λc s1 ⟨H1,I1,q1⟩=>?_)
 cases c with
 | true=>exact hb wh pins s1 σ H1 Q I1 q1
 | false=>exact⟨H1,I1,q1⟩
theorem pw_or (ha:PT X a tA)(hb:PW X (.BoolOp .Or (b::rest) pos) Ie):PW X (.BoolOp .Or (a::b::rest) pos) (VO tA Ie):=by
 intro wh pins s σ H Q I h;refine isTrue_or (fN (ha pins s σ H _ I h) λc s1 ⟨H1,I1,q1⟩=>?_)
 cases c with
 | true=>exact⟨H1,I1,q1⟩
 | false=>exact hb wh pins s1 σ H1 Q I1 q1
theorem LX (ha:PT X a tA):PT X (.UnaryOp .Not a pos) (Pg tA):=by
 intro pins s σ H Q I h;exact isTrue_not (ha pins s σ H (λc H1=>Q (!c) H1) I h)
noncomputable def Kn (ta:TE):TE:=λσ H Q=>ta σ H λx H1=>∃c,x=.bl c/\Q (.bl (!c)) H1
theorem LY (ha:PE X a ta):PE X (.UnaryOp .Not a pos) (Kn ta):=by
 intro pins s σ H Q I h;refine UnaryOp_ (fN (ha pins s σ H _ I h) λv s1 ⟨x,H1,I1,r1,q1⟩=>?_);obtain⟨c,rfl,q1⟩:=q1;cases r1;exact not_of (wpAny_truthy_bool ⟨.bl (!c),H1,I1,rfl,q1⟩)
noncomputable def VP (t:TT)(ta tb:TE):TE:=λσ H Q=>t σ H λc H1=>if c=true then ta σ H1 Q else tb σ H1 Q
theorem EW (hc:PT X c tA)(ha:PE X a ta)(hb:PE X b tb):PE X (.IfExp c a b pos) (VP tA ta tb):=by
 intro pins s σ H Q I h;refine wpAny_IfExp (fN (hc pins s σ H _ I h) λd s1 ⟨H1,I1,q1⟩=>?_)
 cases d with
 | true=>exact ha pins s1 σ H1 Q I1 q1
 | false=>exact hb pins s1 σ H1 Q I1 q1
end
noncomputable def gn (K:W.Frag)(H:Hp)(a:Addr)(xs:List V):Prop :=
 Rd H a (.lst xs) \/
  ∃(o:Obj) (its:Array ae) (n:Nat),K.lookup a=some o/\o.cls=.type "list" /\ o.dict=none/\o.data=.seq its n/\its.size<=ax/\ee xs its.toList
noncomputable def iW (K:W.Frag)(H:Hp)(a:Addr)(xs:List V):Prop :=
 Rd H a (.tup xs) \/
  ∃(o:Obj) (its:Array ae) (n:Nat),K.lookup a=some o/\o.cls=.type "tuple" /\ o.data=.seq its n/\its.size<=ax/\ee xs its.toList
noncomputable def Tg:ae->Option V
 | .none=>some .gB
 | .bool b=>some (.bl b)
 | .int i _=>some (.int i)
 | .str x _=>some (.str x)
 | .bytes b _=>some (.EH b)
 | .float b _=>some (.LJ b)
 | .ref a=>some (.ref a)
 | .type n=>some (.ty n)
 | _=>none
theorem RelV.abs (r:RelV x u):Tg u=some x:=by
 cases x with
 | gB=>cases r;rfl
 | bl _=>cases r;rfl
 | int _=>obtain⟨t,rfl⟩:=r;rfl
 | str _=>obtain⟨t,rfl⟩:=r;rfl
 | EH _=>obtain⟨t,rfl⟩:=r;rfl
 | LJ _=>obtain⟨t,rfl⟩:=r;rfl
 | ref _=>cases r;rfl
 | ty _=>cases r;rfl
theorem RelV.inj (r:RelV x u)(q:RelV y u):x=y:=Option.some.inj (r.abs.symm.trans q.abs)
theorem ee.inj:∀{xs ys:List V} {us:List ae},ee xs us->ee ys us->xs=ys
 | _,_,_,.nil,.nil=>rfl
 | _,_,_,.cons r t,.cons r' t'=>by rw[r.inj r',ee.inj t t']
section
theorem gn.of {K:W.Frag}(h:H a=some (.lst xs)):gn K H a xs:=.inl (.inl h)
theorem iW.of {K:W.Frag}(h:H a=some (.tup xs)):iW K H a xs:=.inl (.inl h)
theorem Inv.list (I:Inv X pins σ H s)(h:gn X.K H a xs):∃its:List ae,ee xs its/\PlainL s.heap a its.toArray/\xs.length<=ax:=by
 rcases h with h | ⟨o,its,n,hk,hc,hd,hs,hz,r⟩
 .obtain⟨z,its,n,r,e⟩:=h.ok I.hok
  exact⟨its,r,⟨_,n,e,rfl,rfl,rfl⟩,z⟩
 .refine⟨its.toList,r,⟨o,n,I.mT a o hk,hc,hd,by simpa using hs⟩,?_⟩
  have e:=r.length;simp only[aT] at e;omega
theorem Inv.tuple (I:Inv X pins σ H s)(h:iW X.K H a xs):∃its:List ae,ee xs its/\IsTup s.heap a its.toArray/\xs.length<=ax:=by
 rcases h with h | ⟨o,its,n,hk,hc,hs,hz,r⟩
 .obtain⟨z,its,r,p⟩:=h.ok I.hok
  exact⟨its,r,p.tup,z⟩
 .refine⟨its.toList,r,⟨o,I.mT a o hk,hc,n,by simpa using hs⟩,?_⟩
  have e:=r.length;simp only[aT] at e;omega
theorem Inv.w6 (I:Inv X pins σ H s)(h:gn X.K H a xs)(h':gn X.K H a ys):xs=ys:=by
 obtain⟨its,r,⟨o,n,e,_,_,d⟩,_⟩:=I.list h;obtain⟨its',r',⟨o',n',e',_,_,d'⟩,_⟩:=I.list h';rw[e] at e';cases e';rw[d] at d';injection d' with d1 _;have:its=its':=by simpa using congrArg Array.toList d1
 subst this;exact r.inj r'
theorem Inv.tY (I:Inv X pins σ H s)(h:iW X.K H a xs)(h':iW X.K H a ys):xs=ys:=by
 obtain⟨its,r,⟨o,e,_,n,d⟩,_⟩:=I.tuple h;obtain⟨its',r',⟨o',e',_,n',d'⟩,_⟩:=I.tuple h';rw[e] at e';cases e';rw[d] at d';injection d' with d1 _;have:its=its':=by simpa using congrArg Array.toList d1
 subst this;exact r.inj r'
end
noncomputable abbrev Cx.o5 (X:Cx)(E:ae->aq->Prop):Cx:={ X with xe:=E }
noncomputable abbrev Cx.De (X:Cx):Cx:=X.o5 λ_ _=>False
theorem Cx.Ok.o5 {X:Cx}(ok:X.Ok)(E:ae->aq->Prop):(X.o5 E).Ok :=
 ⟨ok.mod,ok.kind,ok.glob,ok.blt,ok.above,ok.inj,ok.has,ok.OE,ok.hd,ok.frames,ok.O9,ok.Ta,ok.bs,ok.Ib,ok.Dc,ok.ET,ok.o4,ok.Kh⟩
theorem Cx.Ok.jL {X:Cx}{E:ae->aq->Prop}(ok:(X.o5 E).Ok):X.Ok :=
 ⟨ok.mod,ok.kind,ok.glob,ok.blt,ok.above,ok.inj,ok.has,ok.OE,ok.hd,ok.frames,ok.O9,ok.Ta,ok.bs,ok.Ib,ok.Dc,ok.ET,ok.o4,ok.Kh⟩
section
variable {X:Cx}{pins:List (Addr × Obj)}{σ:St}{H:Hp}{s:aq}{E:ae->aq->Prop}
theorem Inv.o5 (I:Inv X pins σ H s)(E:ae->aq->Prop):Inv (X.o5 E) pins σ H s:=⟨I.ok.o5 E,I.os,I.bare,I.base,I.loc,I.cell,I.free,I.freeC,I.pin,I.hok,I.len⟩
theorem Inv.jL (I:Inv (X.o5 E) pins σ H s):Inv X pins σ H s:=⟨I.ok.jL,I.os,I.bare,I.base,I.loc,I.cell,I.free,I.freeC,I.pin,I.hok,I.len⟩
theorem SP.jL (h:SP (X.o5 E) pins D f s'):SP X pins D f s':=by
 cases f with
 | next=>obtain⟨σ',H',I,q⟩:=h;exact⟨σ',H',I.jL,q⟩
 | brk=>obtain⟨σ',H',I,q⟩:=h;exact⟨σ',H',I.jL,q⟩
 | cont=>obtain⟨σ',H',I,q⟩:=h;exact⟨σ',H',I.jL,q⟩
 | ret u=>obtain⟨v,σ',H',I,r,q⟩:=h;exact⟨v,σ',H',I.jL,r,q⟩
theorem ze.De {st:List Stmt}{t:TS}(h:ze X.De st t):ze X st t:=λpins s σ H D I hw =>
 bJ (h pins s σ H D (I.o5 _) hw) (λ_ _ q=>q.jL) λ_ _ z=>False.elim z
end
section
variable {X:Cx}{st:Stmt}{rest:List Stmt}{t u:TS}{e:Expr}{te:TE}{pos:Pos}
noncomputable def Ko:TS:=λD σ H=>D.nx σ H
noncomputable def Ph (t u:TS):TS:=λD σ H=>t { D with nx:=u D } σ H
theorem Ig:ze X [] Ko:=λ_ _ σ H _ I h=>wpAny_execs_nil ⟨σ,H,I,h⟩
theorem EX (h1:PS X st t)(h2:ze X rest u):ze X (st::rest) (Ph t u):=by
 intro pins s σ H D I h;refine wpAny_execs_cons (fN (h1 pins s σ H { D with nx:=u D } I h) λf s1 q=>?_)
 cases f with
 | next =>
  obtain⟨σ',H',I',q⟩:=q;exact h2 pins s1 σ' H' D I' q
 | ret v=>exact q
 | brk=>exact q
 | cont=>exact q
theorem Ih (h1:PS X st t):ze X [st] t:=by
 intro pins s σ H D I h;refine wpAny_execs_cons (fN (h1 pins s σ H D I h) λf s1 q=>?_)
 cases f with
 | next=>exact wpAny_execs_nil q
 | ret v=>exact q
 | brk=>exact q
 | cont=>exact q
theorem Inv.quiet {pins:List (Addr × Obj)}{σ:St}{H:Hp}{s:aq}(I:Inv X pins σ H s):interactive X.env=false:=by simp[interactive,I.ok.kind]
noncomputable def Kp (te:TE):TS:=λD σ H=>te σ H λ_ H1=>D.nx σ H1
theorem Ii (he:PE X e te)(hs:swapsWith e none pos.line X.env=pure false:=by rfl):PS X (.Expr e pos) (Kp te):=by
 intro pins s σ H D I h;exact wpAny_Expr_any (fN (he pins s σ H _ I h) λv s1 ⟨x,H1,I1,r1,q1⟩=>⟨σ,H1,I1,q1⟩) I.quiet hs
noncomputable def Pj (te:TE):TS:=λD σ H=>te σ H D.rt
theorem LZ (he:PE X e te):PS X (.Return (some e) pos) (Pj te):=by
 intro pins s σ H D I h;exact wpAny_Return_some (fN (he pins s σ H _ I h) λv s1 ⟨x,H1,I1,r1,q1⟩=>⟨x,σ,H1,I1,r1,q1⟩)
noncomputable def Pk (c:TT)(t u:TS):TS:=λD σ H=>c σ H λb H1=>if b=true then t D σ H1 else u D σ H1
theorem Pm (hc:PT X c tc)(ha:ze X a t)(hb:ze X b u):PS X (.If c a b pos) (Pk tc t u):=by
 intro pins s σ H D I h;refine wpAny_If (fN (hc pins s σ H _ I h) λd s1 ⟨H1,I1,q1⟩=>?_)
 cases d with
 | true=>exact ha pins s1 σ H1 D I1 q1
 | false=>exact hb pins s1 σ H1 D I1 q1
end
noncomputable abbrev TG:=V->St->Hp->(St->Hp->Prop)->Prop
noncomputable abbrev L7:=List V->St->Hp->(St->Hp->Prop)->Prop
noncomputable def PG (X:Cx)(target:Expr)(t:TG):Prop :=
 ∀(pins:List (Addr × Obj)) (s:aq) (σ:St) (H:Hp) (v:V) (u:ae) (Q:St->Hp->Prop),Inv X pins σ H s->RelV v u->t v σ H Q ->
  ay (model X.prog X.w) X.A (assign target X.env u) (λ_ s'=>∃σ' H',Inv X pins σ' H' s'/\Q σ' H') X.xe s
noncomputable def Pn (X:Cx)(ts:List Expr)(t:L7):Prop :=
 ∀(pins:List (Addr × Obj)) (s:aq) (σ:St) (H:Hp) (vs:List V) (us:List ae) (Q:St->Hp->Prop),Inv X pins σ H s->ee vs us->t vs σ H Q ->
  ay (model X.prog X.w) X.A (assignInOrder ((assignEach ts X.env).map (·.2)) us) (λ_ s'=>∃σ' H',Inv X pins σ' H' s'/\Q σ' H') X.xe s
noncomputable abbrev Po:=V->V->V->Hp->(Hp->Prop)->Prop
noncomputable def L8 (X:Cx)(t:Po):Prop :=
 ∀(pins:List (Addr × Obj)) (s:aq) (σ:St) (H:Hp) (o i v:V) (ov iv u:ae) (Q:Hp->Prop),Inv X pins σ H s->RelV o ov->RelV i iv->RelV v u->t o i v H Q ->
  ay (model X.prog X.w) X.A (setItem ov iv u) (λ_ s'=>∃H',Inv X pins σ H' s'/\Q H') X.xe s
section
variable {X:Cx}{pos:Pos}
noncomputable def w9 (i:Nat):TG:=λv σ H Q=>Q (σ.set i (some v)) H
theorem Ij (hN:X.N.Nodup)(hi:X.N[i]? = some x)(hx:Loc X.env.scope x)(hf:X.fn x=true\/X.env.scope.names.lookup x=some .local:=by (first | exact .inl rfl | exact .inr rfl | assumption)):PG X (.Name x pos) (w9 i):=by
 intro pins s σ H v u Q I r h;exact wpAny_assign_Name (qW I hN hi hx r (λs' I'=>⟨_,H,I',h⟩) hf)
noncomputable def Pp:L7:=λvs σ H Q=>vs=[]/\Q σ H
noncomputable def Kq (t:TG)(u:L7):L7:=λvs σ H Q=>∃v r,vs=v::r/\t v σ H λσ' H'=>u r σ' H' Q
theorem Ik:Pn X [] Pp:=by
 intro pins s σ H vs us Q I r h;obtain⟨e,h⟩:=h;subst e;cases r;exact assignInOrder_nil ⟨σ,H,I,h⟩
theorem EY (h1:PG X e t)(h2:Pn X es u)
  (hs:(assignEach (e::es) X.env).map (·.2)=assign e X.env::(assignEach es X.env).map (·.2):=by rfl):Pn X (e::es) (Kq t u):=by
 intro pins s σ H vs us Q I r h;obtain⟨v,vr,e1,h⟩:=h;subst e1
 cases r with
 | cons r rr =>
  rw[hs];refine assignInOrder_cons (fN (h1 pins s σ H _ _ _ I r h) λ_ s1 ⟨σ1,H1,I1,q1⟩=>?_);exact h2 pins s1 σ1 H1 _ _ Q I1 rr q1
noncomputable def Pq (K:W.Frag)(n:Nat)(t:L7):TG:=λv σ H Q=>∃a xs,v=.ref a/\iW K H a xs/\xs.length=n/\t xs σ H Q
theorem L9 (hc:X.calm=true)(h:Pn X es t)
  (hn:(assignEach es X.env).length=n:=by rfl) (wU:(assignEach es X.env).findIdx? (·.1)=none:=by rfl):PG X (.Tuple es k pos) (Pq X.K n t):=by
 intro pins s σ H v u Q I r hw;obtain⟨a,xs,e1,hq,hl,hw⟩:=hw;subst e1;cases r;obtain⟨its,rv,ht,hz⟩:=I.tuple hq;refine assign_Tuple_tuple (I.ok.hd hc) ht (by simp[hn,<- hl,rv.length]) wU λh' hx=>?_;have I1:Inv X pins σ H { s with heap:=h' }:=I.kept (t':=s.toks) λb o e=>hx b o (aN (aA e)) e;exact h pins _ σ H xs _ Q I1 (by simpa using rv) hw
noncomputable def Pr (to ti:TE)(t:Po):TG:=λv σ H Q=>to σ H λo H1=>ti σ H1 λi H2=>t o i v H2 λH3=>Q σ H3
theorem Ma (ho:PE X o to)(hi:PE X i ti)(hs:L8 X t)
  (ha:∀v,assign (.Subscript o i pos) X.env v=(do
   let ov <- holding [v] (eval o X.env);let iv <- holding [v,ov] (eval i X.env)
   standAt pos
   holding [v,ov,iv] (setItem ov iv v)
   release [v,ov,iv] []):=by rw[3]):PG X (.Subscript o i pos) (Pr to ti t):=by
 intro pins s σ H v u Q I r h;rw[ha];refine aa (wpAny_holding (fN (ho pins s σ H _ I h) λov s1 ⟨x,H1,I1,r1,q1⟩=>?_));refine aa (wpAny_holding (fN (hi pins s1 σ H1 _ I1 q1) λiv s2 ⟨y,H2,I2,r2,q2⟩=>?_));refine aa (wpAny_standAt (aa (wpAny_holding (fN (hs pins s2 σ H2 x y v ov iv u _ I2 r1 r2 r q2) λ_ s3 ⟨H3,I3,q3⟩=>?_))));exact wpAny_release ⟨σ,H3,I3,q3⟩
noncomputable def EZ (te:TE)(g:TG):TS:=λD σ H=>te σ H λx H1=>g x σ H1 D.nx
theorem Mb (he:PE X e te)(hg:PG X tg g)(hs:swapsWithSole [tg] e pos.line X.env=pure false:=by rfl)(hw:swappedStores [tg] e X.env=pure none:=by rfl)
  (h1:(assignEach [tg] X.env).map (·.2)=[assign tg X.env]:=by rfl):PS X (.Assign [tg] e pos) (EZ te g):=by
 intro pins s σ H D I h;refine wpAny_Assign_stores (fN (he pins s σ H _ I h) λv s1 ⟨x,H1,I1,r1,q1⟩=>?_) hs hw;rw[h1];exact fN (hg pins s1 σ H1 x v _ I1 r1 q1) λ_ s2 q=>q
theorem Mc {i:Nat}{x:Str}{e:Expr}{te:TE}{iD:Pos}(hN:X.N.Nodup)(hi:X.N[i]? = some x)(hx:Loc X.env.scope x)(he:PE X e te)(hs:swapsWith e (some (.Name x iD)) pos.line X.env=pure false:=by rfl)(hf:X.fn x=true\/X.env.scope.names.lookup x=some .local:=by (first | exact .inl rfl | exact .inr rfl | assumption)) :
  PS X (.Assign [.Name x iD] e pos) (EZ te (w9 i)):=by
 intro pins s σ H D I h;refine wpAny_Assign_Name (fN (he pins s σ H _ I h) λv s1 ⟨y,H1,I1,r1,q1⟩=>?_) hs;exact qW I1 hN hi hx r1 (λs2 I2=>⟨_,H1,I2,q1⟩) hf
end
section
noncomputable def E1 (c:TT)(tb:TS):TS:=λD σ H=>∃W:Nat->St->Hp->Prop,(∃m,W m σ H)/\∀m σ H,W m σ H ->
 c σ H λb H1=>if b=true then ∃N:St->Hp->Prop,(∀σ' H',N σ' H'->∃m',m' < m/\W m' σ' H')/\tb { D with nx:=N,ct:=N,bk:=D.nx } σ H1 else D.nx σ H1
theorem E2 (hp:PassesOwn (model X.prog X.w) X.A X.env X.xe)(hc:PT X c tc)(hb:ze X body tb):PS X (.While c body [] pos) (E1 tc tb):=by
 intro pins s σ H D I h;obtain⟨W,⟨m0,w0⟩,turn⟩:=h;refine wpAny_While (codeAny_whileLoop (λn s'=>∃σ' H',Inv X pins σ' H' s'/\W n σ' H') ?_ m0 ⟨σ,H,I,w0⟩);rintro n s1 ⟨σ1,H1,I1,w1⟩;refine wpAny_passesOwn hp (fN (hc pins s1 σ1 H1 _ I1 (turn n σ1 H1 w1)) λb s2 ⟨H2,I2,q2⟩=>?_)
 cases b with
 | true =>
  obtain⟨N,hN,q2⟩:=q2;rw[if_pos rfl];refine wpAny_passesOwn hp (fN (hb pins s2 σ1 H2 _ I2 q2) λf s3 q3=>?_)
  cases f with
  | next =>
   obtain⟨σ3,H3,I3,n3⟩:=q3;obtain⟨m',hm,w3⟩:=hN σ3 H3 n3;exact⟨m',hm,σ3,H3,I3,w3⟩
  | cont =>
   obtain⟨σ3,H3,I3,n3⟩:=q3;obtain⟨m',hm,w3⟩:=hN σ3 H3 n3;exact⟨m',hm,σ3,H3,I3,w3⟩
  | brk=>exact q3
  | ret v=>exact q3
 | false =>
  rw[if_neg aZ];exact wpAny_execs_nil ⟨σ1,H2,I2,q2⟩
end
structure It where
 go:Nat->Hp->Prop
 HH:Nat->Hp->V->Hp->Prop
 stop:Nat->Hp->Prop
noncomputable def qj (X:Cx)(pins:List (Addr × Obj))(H:Hp)(b:Addr):Prop :=
 H b=none/\b≠X.env.locals/\b ∉ X.fs/\(b∈X.ex\/X.s₀.heap.objs.size<=b)/\(∀x c,X.env.cells.lookup x=some c->c≠b)/\∀p∈X.pn++pins,p.1≠b
theorem Inv.qY (I:Inv X pins σ H s)(hb:s.heap.objs.size<=b)(hn:H' b=none):qj X pins H' b:=by
 refine⟨hn,cf (aL I.lt hb),I.O' hb,.inr (aU I.sz hb),λx c e z=>?_,λp hp z=>?_⟩
 .obtain⟨v,q⟩:=I.cell x c e
  exact absurd (aL q.lt (by rw[z];exact hb)) (bt _)
 .exact absurd (aL (aA (I.pin p hp).1) (by rw[z];exact hb)) (bt _)
structure zk (P:aO) (w:World) (K:W.Frag) (tg:Expr) (J:It) (fp:List Addr) (it:Addr) (tn:Nat->Heap->Prop):Prop where
 mem:it∈fp
 obj:∀i h,tn i h->∀b∈fp,∃o,h.get? b=some o/\∀v,o.data≠.cell v
 keep:∀i h h',tn i h->(∀b∈fp,∀o,h.get? b=some o->h'.get? b=some o)->tn i h'
 item:∀(X:Cx),X.prog=P->X.w=w->X.K=K->X.calm=true->∀(i:Nat) (pins:List (Addr × Obj)) (s:aq) (σ:St) (H:Hp) (E:ae->aq->Prop),Inv X pins σ H s->(∀b∈fp,qj X pins H b)->tn i s.heap->J.go i H ->
  ay (model P w) X.A (pyNext (.ref it)) (λr s1=>∃u,r=some u /\
   ay (model P w) X.A (letOwnedTupleGo tg (.ref it) u) (λ_ s2=>∃x H',Inv X pins σ H' s2/\RelV x u/\J.HH i H x H'/\tn (i+1) s2.heap/\∀b∈fp,H' b=none) E s1) E s
 done:∀(X:Cx),X.prog=P->X.w=w->X.K=K->X.calm=true->∀(i:Nat) (pins:List (Addr × Obj)) (s:aq) (σ:St) (H:Hp) (E:ae->aq->Prop),Inv X pins σ H s->(∀b∈fp,qj X pins H b)->tn i s.heap->J.stop i H ->
  ay (model P w) X.A (pyNext (.ref it)) (λr s1=>r=none/\Inv X pins σ H s1) E s
 self:∀(A:Around) (i:Nat) (s:aq) (Q:ae->aq->Prop) (E:ae->aq->Prop),tn i s.heap->Q (.ref it) s->ay (model P w) A (pyIter (.ref it)) Q E s
noncomputable abbrev TI:=St->Hp->(It->Hp->Prop)->Prop
noncomputable def VQ (X:Cx)(pins:List (Addr × Obj))(σ:St)(tg:Expr)(R:It->Hp->Prop)(Th:ae)(s2:aq):Prop :=
 ∃(it:Addr) (fp:List Addr) (tn:Nat->Heap->Prop) (J:It) (H':Hp),Th=.ref it/\Inv X pins σ H' s2/\zk X.prog X.w X.K tg J fp it tn/\tn 0 s2.heap/\(∀b∈fp,qj X pins H' b)/\R J H'
noncomputable def PI (X:Cx)(tg iter:Expr)(wi:TI):Prop :=
 ∀(pins:List (Addr × Obj)) (s:aq) (σ:St) (H:Hp) (R:It->Hp->Prop),Inv X pins σ H s->wi σ H R ->
  ay (model X.prog X.w) X.A (eval iter X.env) (λv s1=>ay (model X.prog X.w) X.A (pyIter v) (VQ X pins σ tg R) X.xe s1) X.xe s
theorem BG {M:Model}{A:Around}{E:ae->aq->Prop}{s:aq}{tg:Expr}{it:Addr}{u:ae}{o:Obj}{n:String}{vs:Array ae}{Q:Unit->aq->Prop}(ho:s.heap.get? it=some o)(hc:o.cls=.type n)(hd:o.data=.fields vs)
  (hn:["enumerate", "zip", "dict_itemiterator", "dict_reverseitemiterator", "odict_iterator", "itertools.zip_longest", "itertools.pairwise"].contains n=false) (hQ:Q () s):ay M A (letOwnedTupleGo tg (.ref it) u) Q E s:=by
 unfold letOwnedTupleGo
 cases tg<;>first
  | exact ai hQ
  | (cases u<;>first
    | exact ai hQ
    | (refine aa (wpAny_load ho ?_);rw[hc,hd];show ay M A (if (["enumerate", "zip", "dict_itemiterator", "dict_reverseitemiterator", "odict_iterator", "itertools.zip_longest", "itertools.pairwise"].contains n && vs[0]? == some (rawInt _))=true then _ else _) Q E s;rw[if_neg (by intro h;rw[hn,Bool.false_and] at h;cases h)];exact ai hQ))
noncomputable def Il (K:W.Frag)(a:Addr):It :=
 ⟨λi H=>∃xs x,gn K H a xs/\xs[i]? = some x,λi H x H'=>H'=H/\∀xs,gn K H a xs->xs[i]? = some x,λi H=>∃xs,gn K H a xs/\xs.length<=i⟩
noncomputable def Im (K:W.Frag)(a:Addr):It :=
 ⟨λi H=>∃xs x,iW K H a xs/\xs[i]? = some x,λi H x H'=>H'=H/\∀xs,iW K H a xs->xs[i]? = some x,λi H=>∃xs,iW K H a xs/\xs.length<=i⟩
noncomputable def Sd (lo:Int)(n:Nat):It:=⟨λi _=>i<n,λi H x H'=>H'=H/\x=.int (lo+i),λi _=>n<=i⟩
theorem tZ {P:aO}{w:World}{K:W.Frag}{tg:Expr}(a it:Addr):zk P w K tg (Il K a) [it] it (λi h=>h.IsListIter it a i) where
 mem:=by simp
 obj:=λi h st b hb=>by
  have e:b=it:=by simpa using hb
  subst e;obtain⟨o,e,c,d⟩:=st;exact⟨o,e,λv z=>by rw[d] at z;cases z⟩
 keep:=λi h h' st k=>st.at λo e=>k it (!4) o e
 item:=by
  intro X hP hw hK hc i pins s σ H E I hf st hg;subst hP hw hK;obtain⟨xs,x,hq,hx⟩:=hg;obtain⟨its,rv,p,hz⟩:=I.list hq;obtain⟨u,hu,ru⟩:=rv.get hx;obtain⟨f0,f1,f2,f3,f4,f5⟩:=hf it (!4);refine wpAny_pyNext_list_item st p.isList (x:=u) (by simpa using hu) λh' eK sb=>?_;have I1:Inv X pins σ H { s with heap:=h' }:=I.turned (t':=s.toks) (λb o hb e=>(sb.2 b hb).trans e) f0 f1 f3 f4 f5;obtain⟨o,e,c,d⟩:=id eK;exact⟨u,rfl,BG (s:={ s with heap:=h' }) e c d (!2) ⟨x,H,I1,ru,⟨rfl,λys hy=>by rw[I.w6 hy hq];exact hx⟩,eK,λb hb=>(hf b hb).1⟩⟩
 done:=by
  intro X hP hw hK hc i pins s σ H E I hf st hg;subst hP hw hK;obtain⟨xs,hq,hx⟩:=hg;obtain⟨its,rv,p,hz⟩:=I.list hq;obtain⟨f0,f1,f2,f3,f4,f5⟩:=hf it (!4);have hl:=rv.length;exact wpAny_pyNext_list_end (I.ok.hd hc) st p.isList (by simp;omega) λh' eb=>⟨rfl,I.turned (t':=s.toks) (λb o hb e=>eb b o hb e) f0 f1 f3 f4 f5⟩
 self:=λ_ _ _ _ _ st h=>wpAny_pyIter_listiter st h
theorem qZ {P:aO}{w:World}{K:W.Frag}{tg:Expr}(a it:Addr):zk P w K tg (Im K a) [it] it (λi h=>h.IsTupleIter it a i) where
 mem:=by simp
 obj:=λi h st b hb=>by
  have e:b=it:=by simpa using hb
  subst e;obtain⟨o,e,c,d⟩:=st;exact⟨o,e,λv z=>by rw[d] at z;cases z⟩
 keep:=λi h h' st k=>st.at λo e=>k it (!4) o e
 item:=by
  intro X hP hw hK hc i pins s σ H E I hf st hg;subst hP hw hK;obtain⟨xs,x,hq,hx⟩:=hg;obtain⟨its,rv,p,hz⟩:=I.tuple hq;obtain⟨u,hu,ru⟩:=rv.get hx;obtain⟨f0,f1,f2,f3,f4,f5⟩:=hf it (!4);refine wpAny_pyNext_tuple_item st (show s.heap.IsTuple a its.toArray from p) (x:=u) (by simpa using hu) λh' eK sb=>?_;have I1:Inv X pins σ H { s with heap:=h' }:=I.turned (t':=s.toks) (λb o hb e=>(sb.2 b hb).trans e) f0 f1 f3 f4 f5;obtain⟨o,e,c,d⟩:=id eK;exact⟨u,rfl,BG (s:={ s with heap:=h' }) e c d (!2) ⟨x,H,I1,ru,⟨rfl,λys hy=>by rw[I.tY hy hq];exact hx⟩,eK,λb hb=>(hf b hb).1⟩⟩
 done:=by
  intro X hP hw hK hc i pins s σ H E I hf st hg;subst hP hw hK;obtain⟨xs,hq,hx⟩:=hg;obtain⟨its,rv,p,hz⟩:=I.tuple hq;obtain⟨f0,f1,f2,f3,f4,f5⟩:=hf it (!4);have hl:=rv.length;exact wpAny_pyNext_tuple_end (I.ok.hd hc) st (show s.heap.IsTuple a its.toArray from p) (by simp;omega) λh' eb=>⟨rfl,I.turned (t':=s.toks) (λb o hb e=>eb b o hb e) f0 f1 f3 f4 f5⟩
 self:=λ_ _ _ _ _ st h=>wpAny_pyIter_tupleiter st h
theorem zm {P:aO}{w:World}{K:PySem.W.Frag}{tg:Expr}(it:Addr)(lo:Int)(n:Nat):zk P w K tg (Sd lo n) [it] it (λi h=>IsRangeIter h it (lo+(i:Nat) * 1) ((n:Int) - (i:Nat)) 1) where
 mem:=by simp
 obj:=λi h st b hb=>by
  have e:b=it:=by simpa using hb
  subst e
  exact⟨_,st,λv z=>by
   have z':Data.fields _=Data.cell v:=z;cases z'⟩
 keep:=λi h h' st k=>k it (!4) _ st
 item:=by
  intro X hP hw hK hc i pins s σ H E I hf st hg;subst hP hw hK;obtain⟨f0,f1,f2,f3,f4,f5⟩:=hf it (!4);have W:=Walks.range (prog:=X.prog) (w:=X.w) (I.ok.hd hc) it lo 1 n;refine W.item i s _ _ hg st λv h' tk hv eK kk=>?_;obtain⟨t,rfl⟩:=hv;have I1:Inv X pins σ H { s with heap:=h',toks:=tk }:=I.turned (λb o hb e=>kk b o (by simpa using hb) e) f0 f1 f3 f4 f5;refine⟨_,rfl,BG (s:={ s with heap:=h',toks:=tk }) (n := "range_iterator") eK rfl rfl (!2) ⟨.int (lo+i),H,I1,⟨t,?_⟩,⟨rfl,rfl⟩,eK,λb hb=>(hf b hb).1⟩⟩;rw[Int.mul_one]
 done:=by
  intro X hP hw hK hc i pins s σ H E I hf st hg;subst hP hw hK;obtain⟨f0,f1,f2,f3,f4,f5⟩:=hf it (!4);exact wpAny_pyNext_range_end (I.ok.hd hc) st (by have:n<=i:=hg;omega) λh' eb=>⟨rfl,I.turned (t':=s.toks) (λb o hb e=>eb b o hb e) f0 f1 f3 f4 f5⟩
 self:=λ_ _ _ _ _ st h=>wpAny_pyIter_rangeiter st h
section
variable {X:Cx}{tg:Expr}
noncomputable def E3 (K:W.Frag)(tl:TE):TI:=λσ H R=>tl σ H λx H1=>∃a,x=.ref a/\(∃xs,gn K H1 a xs)/\R (Il K a) H1
noncomputable def Md (K:W.Frag)(tl:TE):TI:=λσ H R=>tl σ H λx H1=>∃a,x=.ref a/\(∃xs,iW K H1 a xs)/\R (Im K a) H1
theorem Io {l:Expr}{tl:TE}(hl:PE X l tl):PI X tg l (E3 X.K tl):=by
 intro pins s σ H R I h;refine fN (hl pins s σ H _ I h) λv s1 ⟨x,H1,I1,r1,q1⟩=>?_;obtain⟨a,e,⟨xs,hq⟩,q⟩:=q1;subst e;cases r1;obtain⟨its,rv,p,hz⟩:=I1.list hq;refine wpAny_pyIter_list p.isList ?_;refine⟨s1.heap.objs.size,[s1.heap.objs.size],_,_,H1,rfl,I1.kept (t':=s1.toks) λb o e=>ah _ e,tZ a _,⟨_,aH _ rfl,rfl,rfl⟩,λb hb=>?_,q⟩;have e:b=s1.heap.objs.size:=by simpa using hb
 subst e;exact I1.qY (am _) (I1.hok.fresh (am _))
theorem Me {l:Expr}{tl:TE}(hl:PE X l tl):PI X tg l (Md X.K tl):=by
 intro pins s σ H R I h;refine fN (hl pins s σ H _ I h) λv s1 ⟨x,H1,I1,r1,q1⟩=>?_;obtain⟨a,e,⟨xs,hq⟩,q⟩:=q1;subst e;cases r1;obtain⟨its,rv,p,hz⟩:=I1.tuple hq;refine wpAny_pyIter_tuple (show s1.heap.IsTuple a its.toArray from p) ?_;refine⟨s1.heap.objs.size,[s1.heap.objs.size],_,_,H1,rfl,I1.kept (t':=s1.toks) λb o e=>ah _ e,qZ a _,⟨_,aH _ rfl,rfl,rfl⟩,λb hb=>?_,q⟩;have e:b=s1.heap.objs.size:=by simpa using hb
 subst e;exact I1.qY (am _) (I1.hok.fresh (am _))
theorem E4 {pins:List (Addr × Obj)}{σ:St}{H:Hp}{s:aq}{R:It->Hp->Prop}{E:ae->aq->Prop}{lo hi:Int}{t u v:Tok}{tk:Nat}(I:Inv X pins σ H s)(h1:-(2 ^ 62)<=lo)(h2:lo<2 ^ 62)(h3:-(2 ^ 62)<=hi)(h4:hi<2 ^ 62)
  (q:R (Sd lo (hi - lo).toNat) H):ay (model X.prog X.w) X.A (pyIter (.ref s.heap.objs.size)) (VQ X pins σ tg R) E { s with heap:=s.heap.push { cls:=.type "range",data:=.fields #[.int lo t,.int hi u,.int 1 v] },toks:=tk }:=by
 refine wpAny_pyIter_range (IsRange.new ..) (small_one h1 h2 h3 h4) ?_;have I1:Inv X pins σ H { s with heap:=s.heap.push { cls:=.type "range",data:=.fields #[.int lo t,.int hi u,.int 1 v] },toks:=tk }:=I.kept λb o e=>ah _ e
 refine⟨(s.heap.push { cls:=.type "range",data:=.fields #[.int lo t,.int hi u,.int 1 v] }).objs.size,[(s.heap.push { cls:=.type "range",data:=.fields #[.int lo t,.int hi u,.int 1 v] }).objs.size],_,_,H,rfl,
  I1.kept (t':=tk) λb o e=>ah _ e,zm _ lo (hi - lo).toNat,?_,λb hb=>?_,q⟩
 .have e1:lo+((0:Nat):Int) * 1=lo:=by simp
  have e2:(((hi - lo).toNat:Nat):Int) - ((0:Nat):Int)=Builtin.Range.rangeSize lo hi 1:=by rw[rangeSize_one];split<;>omega
  show IsRangeIter _ _ (lo+((0:Nat):Int) * 1) ((((hi - lo).toNat:Nat):Int) - ((0:Nat):Int)) 1;rw[e1,e2];exact aH _ rfl
 .have e:b=(s.heap.push { cls:=.type "range",data:=.fields #[.int lo t,.int hi u,.int 1 v] }).objs.size:=by simpa using hb
  subst e;exact I1.qY (am _) (I1.hok.fresh (am _))
noncomputable def Kr (ta:TA):TI:=λσ H R=>ta σ H λvs H1=>∃j:Int,vs=[.int j]/\-(2 ^ 62)<=j/\j<2 ^ 62/\R (Sd 0 j.toNat) H1
theorem Df (hg:Gl X "range")(hm:X.mg "range" = none)(ha:PA X [a] ta)(hs:starEach [a] X.env=[(false,eval a X.env)]:=by rfl):PI X tg (.Call (.Name "range" p) [a] [] pos) (Kr ta):=by
 intro pins s σ H R I h;refine Call_ (qX I hg hm boot_range (PyProof.Rows.callWith_type1 (fN (ha pos pins s σ H _ I h) λus s1 ⟨vs,H1,I1,r1,q1⟩=>?_) hs rfl));obtain⟨j,e,q1,q2,q⟩:=q1;subst e
 cases r1 with
 | cons r rr =>
  cases rr;obtain⟨t,rfl⟩:=r;exact call_range_1 (E4 I1 (!1) (!1) q1 q2 (by simpa using q))
noncomputable def Pt (wi:TI)(g:TG)(tb:TS):TS:=λD σ H=>wi σ H λJ H1=>∃W:Nat->Nat->St->Hp->Prop,(∃m,W 0 m σ H1)/\∀i m σ H,W i m σ H ->
 (J.stop i H/\D.nx σ H)\/(J.go i H/\∃N:St->Hp->Prop,(∀σ' H',N σ' H'->∃m',m' < m/\W (i+1) m' σ' H')/\∀x H',J.HH i H x H'->g x σ H' λσ2 H2=>tb { D with nx:=N,ct:=N,bk:=D.nx } σ2 H2)
noncomputable def q8 (fp:List Addr)(h:Heap):List (Addr × Obj):=fp.filterMap λb=>(h.get? b).map λo=>(b,o)
theorem kx (hb:b∈fp)(e:h.get? b=some o):(b,o)∈q8 fp h:=df.mpr ⟨b,hb,by rw[e];rfl⟩
theorem Dh (hp:p∈q8 fp h):p.1∈fp/\h.get? p.1=some p.2:=by
 obtain⟨b,hb,e⟩:=df.mp hp
 cases q:h.get? b with
 | none=>rw[q] at e;cases e
 | some o =>
  rw[q] at e;have e':(b,o)=p:=Option.some.inj e;subst e';exact⟨hb,q⟩
theorem Inv.pinned (I:Inv X pins σ H s)(hf:∀b∈fp,qj X pins H b)(ho:∀b∈fp,∃o,s.heap.get? b=some o/\∀v,o.data≠.cell v):Inv X (pins++q8 fp s.heap) σ H s :=
 I.qx λp hp=>(aB.mp hp).elim (λz=>I.pin p (aJ _ z)) λz=>by
  obtain⟨hb,e⟩:=Dh z;obtain⟨f0,f1,f2,_⟩:=hf p.1 hb;obtain⟨o,e',d⟩:=ho p.1 hb;rw[e] at e';cases e';exact⟨e,f0,f1,f2,d⟩
theorem Inv.ly (I:Inv X (pins++pl) σ H s):Inv X pins σ H s:=I.qx λp hp=>I.pin p (aJ _ (a6 _ hp))
theorem Mf (hp:PassesOwn (model X.prog X.w) X.A X.env X.xe)(hc:X.calm=true)(hi:PI X tg iter wi)(hg:PG X tg g)(hb:ze X body tb)
  (hs:∀x,foldedSetIterable iter X.env x=pure x:=by rw[3]):PS X (.For tg iter body [] pos) (Pt wi g tb):=by
 intro pins s σ H D I h;refine wpAny_For (fN (hi pins s σ H _ I h) λv s1 h1=>fN h1 λTh s2 h2=>?_) hs;obtain⟨it,fp,tn,J,H2,e,I2,T,Ip,f2,W,⟨m0,w0⟩,turn⟩:=h2;subst e;have Mg:∀{H':Hp},(∀b∈fp,H' b=none)->∀b∈fp,qj X pins H' b:=λhn b hb=>⟨hn b hb,(f2 b hb).2⟩;refine codeAny_forLoop_any (λn s'=>∃i σ' H',Inv X pins σ' H' s'/\tn i s'.heap/\(∀b∈fp,H' b=none)/\W i n σ' H') ?_ m0 ⟨0,σ,H2,I2,Ip,λb hb=>(f2 b hb).1,w0⟩;rintro n s3 ⟨i,σ3,H3,I3,Iq,Pu,w3⟩;rcases turn i n σ3 H3 w3 with⟨stop,qn⟩ | ⟨go,N,hN,step⟩
 .refine wpAny_passesOwn hp (fN (T.done X rfl rfl rfl hc i pins s3 σ3 H3 X.xe I3 (Mg Pu) Iq stop) λr s4 ⟨hr,I4⟩=>?_)
  subst hr;exact wpAny_execs_nil ⟨σ3,H3,I4,qn⟩
 .refine wpAny_passesOwn hp (fN (T.item X rfl rfl rfl hc i pins s3 σ3 H3 X.xe I3 (Mg Pu) Iq go) λr s4 ⟨u,hr,h4⟩=>?_)
  subst hr;refine wpAny_passesOwn hp (fN h4 λ_ s5 ⟨x,H5,I5,r5,y5,Mi,Ti⟩=>?_);have WW:=I5.pinned (Mg Ti) (T.obj _ _ Mi);refine wpAny_passesOwn hp (fN (hg _ s5 σ3 H5 x u _ WW r5 (step x H5 y5)) λ_ s6 ⟨σ6,H6,I6,q6⟩=>?_);refine wpAny_passesOwn hp (fN (hb _ s6 σ6 H6 _ I6 q6) λf s7 q7=>?_)
  have again:∀{σ7:St} {H7:Hp},Inv X (pins++q8 fp s5.heap) σ7 H7 s7->N σ7 H7->∃m,m<n/\∃i σ' H',Inv X pins σ' H' s7/\tn i s7.heap/\(∀b∈fp,H' b=none)/\W i m σ' H':=λ{σ7 H7} I7 n7=>by
   obtain⟨m',hm,w7⟩:=hN σ7 H7 n7;refine⟨m',hm,i+1,σ7,H7,I7.ly,T.keep _ _ _ Mi λb hb o e=>(I7.pin (b,o) (aJ _ (aJ _ (kx hb e)))).1,λb hb=>?_,w7⟩;obtain⟨o,e,d⟩:=T.obj _ _ Mi b hb;exact (I7.pin (b,o) (aJ _ (aJ _ (kx hb e)))).2.1
  cases f with
  | next=>obtain⟨σ7,H7,I7,n7⟩:=q7;exact again I7 n7
  | cont=>obtain⟨σ7,H7,I7,n7⟩:=q7;exact again I7 n7
  | brk=>obtain⟨σ7,H7,I7,q7⟩:=q7;exact⟨σ7,H7,I7.ly,q7⟩
  | ret v=>obtain⟨x7,σ7,H7,I7,r7,q7⟩:=q7;exact⟨x7,σ7,H7,I7.ly,r7,q7⟩
end
theorem E5 {K:PySem.W.Frag}{a:Addr}{xs:List V}{g:TG}{tb:TS}{D:Ends}{σ:St}{H:Hp}(Pv:Nat->St->Hp->Prop)(h0:Pv 0 σ H)(hl:∀i σ H,i<=xs.length->Pv i σ H->gn K H a xs)
  (hs:∀i x σ H,xs[i]? = some x->Pv i σ H->g x σ H λσ2 H2=>tb { D with nx:=Pv (i+1),ct:=Pv (i+1),bk:=D.nx } σ2 H2) (hd:∀σ H,Pv xs.length σ H->D.nx σ H) :
  ∃W:Nat->Nat->St->Hp->Prop,(∃m,W 0 m σ H)/\∀i m σ H,W i m σ H ->
   ((Il K a).stop i H/\D.nx σ H)\/((Il K a).go i H/\∃N:St->Hp->Prop,(∀σ' H',N σ' H'->∃m',m' < m/\W (i+1) m' σ' H')/\∀x H',(Il K a).HH i H x H'->g x σ H' λσ2 H2=>tb { D with nx:=N,ct:=N,bk:=D.nx } σ2 H2):=by
 refine⟨λi m σ H=>m=xs.length - i/\i<=xs.length/\Pv i σ H,⟨xs.length,!4,bL _,h0⟩,?_⟩;rintro i m σ H ⟨rfl,hi,p⟩;have q:=hl i σ H hi p;by_cases ig:i<xs.length
 .refine .inr ⟨⟨xs,xs[i],q,by simp[ig]⟩,Pv (i+1),λσ' H' p'=>⟨xs.length - (i+1),!1,rfl,ig,p'⟩,λx H' y=>?_⟩
  obtain⟨e,y⟩:=y;subst e;exact hs i x σ _ (y xs q) p
 .have e:i=xs.length:=by omega
  subst e;exact .inl ⟨⟨xs,q,am _⟩,hd σ H p⟩
theorem Ir {K:PySem.W.Frag}{a:Addr}{xs:List V}{g:TG}{tb:TS}{D:Ends}{σ:St}{H:Hp}(Pv:Nat->St->Hp->Prop)(h0:Pv 0 σ H)(hl:∀i σ H,i<=xs.length->Pv i σ H->iW K H a xs)
  (hs:∀i x σ H,xs[i]? = some x->Pv i σ H->g x σ H λσ2 H2=>tb { D with nx:=Pv (i+1),ct:=Pv (i+1),bk:=D.nx } σ2 H2) (hd:∀σ H,Pv xs.length σ H->D.nx σ H) :
  ∃W:Nat->Nat->St->Hp->Prop,(∃m,W 0 m σ H)/\∀i m σ H,W i m σ H ->
   ((Im K a).stop i H/\D.nx σ H)\/((Im K a).go i H/\∃N:St->Hp->Prop,(∀σ' H',N σ' H'->∃m',m' < m/\W (i+1) m' σ' H')/\∀x H',(Im K a).HH i H x H'->g x σ H' λσ2 H2=>tb { D with nx:=N,ct:=N,bk:=D.nx } σ2 H2):=by
 refine⟨λi m σ H=>m=xs.length - i/\i<=xs.length/\Pv i σ H,⟨xs.length,!4,bL _,h0⟩,?_⟩;rintro i m σ H ⟨rfl,hi,p⟩;have q:=hl i σ H hi p;by_cases ig:i<xs.length
 .refine .inr ⟨⟨xs,xs[i],q,by simp[ig]⟩,Pv (i+1),λσ' H' p'=>⟨xs.length - (i+1),!1,rfl,ig,p'⟩,λx H' y=>?_⟩
  obtain⟨e,y⟩:=y;subst e;exact hs i x σ _ (y xs q) p
 .have e:i=xs.length:=by omega
  subst e;exact .inl ⟨⟨xs,q,am _⟩,hd σ H p⟩
noncomputable abbrev R2:=V->V->Hp->VK->Prop
noncomputable def jU (X:Cx)(f:ae->ae->Sem ae)(r:R2):Prop :=
 ∀(pins:List (Addr × Obj)) (s:aq) (σ:St) (H:Hp) (x y:V) (v u:ae) (Q:VK),Inv X pins σ H s->RelV x v->RelV y u->r x y H Q ->
  ay (model X.prog X.w) X.A (f v u) (EP X pins σ Q) X.xe s
noncomputable def Se (X:Cx)(f:ae->Sem ae)(r:V->Hp->VK->Prop):Prop :=
 ∀(pins:List (Addr × Obj)) (s:aq) (σ:St) (H:Hp) (x:V) (v:ae) (Q:VK),Inv X pins σ H s->RelV x v->r x H Q ->
  ay (model X.prog X.w) X.A (f v) (EP X pins σ Q) X.xe s
noncomputable def gj (X:Cx)(f:ae)(r:List V->Hp->VK->Prop):Prop :=
 ∀(pins:List (Addr × Obj)) (s:aq) (σ:St) (H:Hp) (xs:List V) (us:List ae) (Q:VK),Inv X pins σ H s->ee xs us->r xs H Q ->
  ay (model X.prog X.w) X.A (call f us) (EP X pins σ Q) X.xe s
noncomputable def Iu (r:R2)(ta tb:TE):TE:=λσ H Q=>ta σ H λx H1=>tb σ H1 λy H2=>r x y H2 Q
noncomputable def VR (r:V->Hp->VK->Prop)(ta:TE):TE:=λσ H Q=>ta σ H λx H1=>r x H1 Q
noncomputable def rI (C:Int->Int->Prop)(g:Int->Int->V):R2:=λx y H Q=>∃i j,x=.int i/\y=.int j/\C i j/\Q (g i j) H
noncomputable def HI (g:Int->Int->V):R2:=λx y H Q=>∃i j,x=.int i/\y=.int j/\Q (g i j) H
noncomputable def rU (g:Int->V):V->Hp->VK->Prop:=λx H Q=>∃i,x=.int i/\Q (g i) H
section
variable {X:Cx}{a b c:Expr}{ta tb tc:TE}{pos:Pos}
theorem Mj (ha:PE X a ta)(hb:PE X b tb){pins:List (Addr × Obj)}{s:aq}{σ:St}{H:Hp}{R:V->V->Hp->Prop}(I:Inv X pins σ H s)
  (h:ta σ H λx H1=>tb σ H1 λy H2=>R x y H2) {Q:ae->aq->Prop} {f:ae->ae->Sem ae}
  (hf:∀v u s2 x y H2,Inv X pins σ H2 s2->RelV x v->RelV y u->R x y H2->ay (model X.prog X.w) X.A (f v u) Q X.xe s2) :
  ay (model X.prog X.w) X.A (eval a X.env) (λv s₁=>ay (model X.prog X.w) X.A (eval b X.env) (λu s₂=>ay (model X.prog X.w) X.A (f v u) Q X.xe s₂) X.xe s₁) X.xe s:=by
 refine fN (ha pins s σ H _ I h) λv s1 ⟨x,H1,I1,r1,q1⟩=>?_;refine fN (hb pins s1 σ H1 _ I1 q1) λu s2 ⟨y,H2,I2,r2,q2⟩=>?_;exact hf v u s2 x y H2 I2 r1 r2 q2
theorem Pw {op:Operator}{r:R2}(ho:jU X (binaryOp op) r)(ha:PE X a ta)(hb:PE X b tb):PE X (.BinOp a op b pos) (Iu r ta tb):=by
 intro pins s σ H Q I h;exact wpAny_BinOp (Mj ha hb I h λv u s2 x y H2 I2 rx ry q=>ho pins s2 σ H2 x y v u Q I2 rx ry q)
theorem Px (ho:Se X (unaryOp op) r)(ha:PE X a ta):PE X (.UnaryOp op a pos) (VR r ta):=by
 intro pins s σ H Q I h;exact UnaryOp_ (fN (ha pins s σ H _ I h) λv s1 ⟨x,H1,I1,r1,q1⟩=>ho pins s1 σ H1 x v Q I1 r1 q1)
theorem OG {f:ae->ae->Sem ae}{C:Int->Int->Prop}{g:Int->Int->Int}
  (rule:∀(i j:Int) (t u:Tok) (s:aq) (Q:ae->aq->Prop) (E:ae->aq->Prop),C i j->Q (.int (g i j) s.toks) { s with toks:=s.toks+1 }->ay (model X.prog X.w) X.A (f (.int i t) (.int j u)) Q E s) :
  jU X f (rI C λi j=>.int (g i j)):=by
 intro pins s σ H x y v u Q I rx ry h;obtain⟨i,j,rfl,rfl,hc,q⟩:=h;obtain⟨t,rfl⟩:=rx;obtain⟨t',rfl⟩:=ry;exact rule i j t t' s _ _ hc ⟨.int (g i j),H,I.tok _,⟨_,rfl⟩,q⟩
theorem Mk {f:ae->ae->Sem ae}{g:Int->Int->Int}
  (rule:∀(i j:Int) (t u:Tok) (s:aq) (Q:ae->aq->Prop) (E:ae->aq->Prop),Q (.int (g i j) s.toks) { s with toks:=s.toks+1 }->ay (model X.prog X.w) X.A (f (.int i t) (.int j u)) Q E s) :
  jU X f (HI λi j=>.int (g i j)):=by
 intro pins s σ H x y v u Q I rx ry h;obtain⟨i,j,rfl,rfl,q⟩:=h;obtain⟨t,rfl⟩:=rx;obtain⟨t',rfl⟩:=ry;exact rule i j t t' s _ _ ⟨.int (g i j),H,I.tok _,⟨_,rfl⟩,q⟩
theorem Iv {f:ae->ae->Sem ae}{g:Int->Int->Bool}
  (rule:∀(i j:Int) (t u:Tok) (s:aq) (Q:ae->aq->Prop) (E:ae->aq->Prop),Q (.bool (g i j)) s->ay (model X.prog X.w) X.A (f (.int i t) (.int j u)) Q E s) :
  jU X f (HI λi j=>.bl (g i j)):=by
 intro pins s σ H x y v u Q I rx ry h;obtain⟨i,j,rfl,rfl,q⟩:=h;obtain⟨t,rfl⟩:=rx;obtain⟨t',rfl⟩:=ry;exact rule i j t t' s _ _ ⟨.bl (g i j),H,I,rfl,q⟩
noncomputable def Ml (i j:Int):Prop:=0<j/\j<1073741824
noncomputable def E6 (i j:Int):Prop:=0<=j/\j<=1000000/\i.natAbs<2 ^ 64
noncomputable def zo (i j:Int):Prop:=(-(2 ^ 64)<i/\i<2 ^ 64)\/(-(2 ^ 64)<j/\j<2 ^ 64)
theorem zo.ok (h:zo i j):IntMulOk i j:=by
 rcases h with⟨h1,h2⟩ | ⟨h1,h2⟩
 .exact .of_left (intBits_le_64 h1 h2)
 .exact .of_right (intBits_le_64 h1 h2)
theorem zp (k:Nat):(0:Int)<=2 ^ k:=by
 rw[two_pow_cast];exact Int.natCast_nonneg _
theorem q9:jU X (binaryOp .Add) (HI λi j=>.int (i+j)):=Mk λ_ _ _ _ _ _ _ q=>add_int q
theorem Mm:jU X (binaryOp .Sub) (HI λi j=>.int (i - j)):=Mk λ_ _ _ _ _ _ _ q=>sub_int q
theorem o6:jU X (binaryOp .Mult) (rI zo λi j=>.int (i * j)):=OG λ_ _ _ _ _ _ _ hc q=>mul_int q hc.ok
theorem qy:jU X (binaryOp .FloorDiv) (rI Ml λi j=>.int (i / j)):=OG λi j _ _ _ _ _ hc q=>by
 have h1:(0:Int)<j:=hc.1;have h2:j<1073741824:=hc.2;exact floordiv_int (!1) (by rw[Int.fdiv_eq_ediv_of_nonneg i (!1)];exact q) (.inl (PyProof.noPylong_small (!1)))
theorem mU:jU X (binaryOp .Mod) (rI (λ_ j=>0<j) λi j=>.int (i % j)):=OG λi j _ _ _ _ _ hc q=>by
 have h1:(0:Int)<j:=hc;exact mod_int' (!1) (by rw[Int.fmod_eq_emod_of_nonneg i (!1)];exact q)
theorem Mn:jU X (binaryOp .Pow) (rI E6 λi j=>.int (i ^ j.toNat)):=OG λ_ _ _ _ _ _ _ hc q=>pow_int_small hc.1 hc.2.1 hc.2.2 q
theorem Mp:jU X (binaryOp .LShift) (rI E6 λi j=>.int (i * 2 ^ j.toNat)):=OG λ_ _ _ _ _ _ _ hc q=>lshift_int_small hc.1 hc.2.1 hc.2.2 q
theorem Mq:jU X (binaryOp .RShift) (rI (λ_ j=>0<=j) λi j=>.int (i / 2 ^ j.toNat)):=OG λi j _ _ _ _ _ hc q =>
 rshift_int hc (by rw[Int.fdiv_eq_ediv_of_nonneg i (zp _)];exact q)
theorem Mr:jU X (binaryOp .BitAnd) (HI λi j=>.int (Builtin.bitAnd i j)):=Mk λ_ _ _ _ _ _ _ q=>and_int q
theorem WX {f:ae->Sem ae}{g:Int->Int}
  (rule:∀(i:Int) (t:Tok) (s:aq) (Q:ae->aq->Prop) (E:ae->aq->Prop),Q (.int (g i) s.toks) { s with toks:=s.toks+1 }->ay (model X.prog X.w) X.A (f (.int i t)) Q E s) :
  Se X f (rU λi=>.int (g i)):=by
 intro pins s σ H x v Q I rx h;obtain⟨i,rfl,q⟩:=h;obtain⟨t,rfl⟩:=rx;exact rule i t s _ _ ⟨.int (g i),H,I.tok _,⟨_,rfl⟩,q⟩
theorem Ms:Se X (unaryOp .USub) (rU λi=>.int (-i)):=WX λ_ _ _ _ _ q=>neg_int q
end
noncomputable def Py:V->V->Bool
 | .gB,.gB=>true | .gB,.int _=>true | .int _,.gB=>true | .gB,.bl _=>true | .bl _,.gB=>true | .gB,.str _=>true | .str _,.gB=>true
 | .int _,.int _=>true | .bl _,.bl _=>true | .str _,.str _=>true | .EH _,.EH _=>true
 | .int _,.str _=>true | .str _,.int _=>true | .bl _,.str _=>true | .str _,.bl _=>true
 | _,_=>false
noncomputable def WY:R2:=λx y H Q=>Py x y=true/\Q (.bl (decide (x=y))) H
noncomputable def WZ:R2:=λx y H Q=>Py x y=true/\Q (.bl (!decide (x=y))) H
theorem BH:decide (V.int i=V.int j)=(i == j):=by
 rw[dD];simp
theorem E7:decide (V.bl i=V.bl j)=(i == j):=by
 rw[dD];simp
theorem BI:decide (V.str i=V.str j)=(i == j):=by
 rw[dD];simp
theorem BJ:decide (V.EH i=V.EH j)=(i.toList == j.toList):=by
 rw[dD];cases i;cases j;simp
section
variable {X:Cx}{a b c:Expr}{ta tb tc:TE}{pos:Pos}
theorem eQ (I:Inv X pins σ H s)(q:Q (.bl k) H)(e:k=k'):EP X pins σ Q (.bool k') s:=by
 subst e;exact⟨.bl k,H,I,rfl,q⟩
theorem Pz:jU X (compareOp .Eq) WY:=by
 intro pins s σ H x y v u Q I rx ry h;obtain⟨hs,q⟩:=h
 cases x with
 | gB =>
  cases rx
  cases y with
  | gB=>cases ry;exact PySem.EqNone.eq_none_none (eQ I q (!4))
  | bl j=>cases ry;exact PySem.EqNone.eq_none_bool (eQ I q (!4))
  | int j=>obtain⟨t',rfl⟩:=ry;exact PySem.EqNone.eq_none_int (eQ I q (!4))
  | str j=>obtain⟨t',rfl⟩:=ry;exact PySem.EqNone.eq_none_str (eQ I q (!4))
  | _=>exact absurd (show false=true from hs) aZ
 | bl i =>
  cases rx
  cases y with
  | gB=>cases ry;exact PySem.EqNone.eq_bool_none (eQ I q (!4))
  | bl j=>cases ry;exact eq_bool (eQ I q E7)
  | str j=>obtain⟨t',rfl⟩:=ry;exact PySem.EqMixed.eq_bool_str (eQ I q (!4))
  | _=>exact absurd (show false=true from hs) aZ
 | int i =>
  obtain⟨t,rfl⟩:=rx
  cases y with
  | gB=>cases ry;exact PySem.EqNone.eq_int_none (eQ I q (!4))
  | int j=>obtain⟨t',rfl⟩:=ry;exact eq_int (eQ I q BH)
  | str j=>obtain⟨t',rfl⟩:=ry;exact PySem.EqMixed.eq_int_str (eQ I q (!4))
  | _=>exact absurd (show false=true from hs) aZ
 | str i =>
  obtain⟨t,rfl⟩:=rx
  cases y with
  | gB=>cases ry;exact PySem.EqNone.eq_str_none (eQ I q (!4))
  | bl j=>cases ry;exact PySem.EqMixed.eq_str_bool (eQ I q (!4))
  | int j=>obtain⟨t',rfl⟩:=ry;exact PySem.EqMixed.eq_str_int (eQ I q (!4))
  | str j=>obtain⟨t',rfl⟩:=ry;exact eq_str (eQ I q BI)
  | _=>exact absurd (show false=true from hs) aZ
 | EH i =>
  obtain⟨t,rfl⟩:=rx
  cases y with
  | EH j=>obtain⟨t',rfl⟩:=ry;exact W.eq_bytes (eQ I q BJ)
  | _=>exact absurd (show false=true from hs) aZ
 | _=>cases y<;>exact absurd (show false=true from hs) aZ
theorem PB:jU X (compareOp .NotEq) WZ:=by
 intro pins s σ H x y v u Q I rx ry h;obtain⟨hs,q⟩:=h
 cases x with
 | gB =>
  cases rx
  cases y with
  | gB=>cases ry;exact PySem.EqNone.ne_none_none (eQ I q (!4))
  | bl j=>cases ry;exact PySem.EqNone.ne_none_bool (eQ I q (!4))
  | int j=>obtain⟨t',rfl⟩:=ry;exact PySem.EqNone.ne_none_int (eQ I q (!4))
  | str j=>obtain⟨t',rfl⟩:=ry;exact PySem.EqNone.ne_none_str (eQ I q (!4))
  | _=>exact absurd (show false=true from hs) aZ
 | bl i =>
  cases rx
  cases y with
  | gB=>cases ry;exact PySem.EqNone.ne_bool_none (eQ I q (!4))
  | bl j=>cases ry;exact ne_bool (eQ I q (congrArg not E7))
  | str j=>obtain⟨t',rfl⟩:=ry;exact PySem.EqMixed.ne_bool_str (eQ I q (!4))
  | _=>exact absurd (show false=true from hs) aZ
 | int i =>
  obtain⟨t,rfl⟩:=rx
  cases y with
  | gB=>cases ry;exact PySem.EqNone.ne_int_none (eQ I q (!4))
  | int j=>obtain⟨t',rfl⟩:=ry;exact ne_int (eQ I q (congrArg not BH))
  | str j=>obtain⟨t',rfl⟩:=ry;exact PySem.EqMixed.ne_int_str (eQ I q (!4))
  | _=>exact absurd (show false=true from hs) aZ
 | str i =>
  obtain⟨t,rfl⟩:=rx
  cases y with
  | gB=>cases ry;exact PySem.EqNone.ne_str_none (eQ I q (!4))
  | bl j=>cases ry;exact PySem.EqMixed.ne_str_bool (eQ I q (!4))
  | int j=>obtain⟨t',rfl⟩:=ry;exact PySem.EqMixed.ne_str_int (eQ I q (!4))
  | str j=>obtain⟨t',rfl⟩:=ry;exact ne_str (eQ I q (congrArg not BI))
  | _=>exact absurd (show false=true from hs) aZ
 | EH i =>
  obtain⟨t,rfl⟩:=rx
  cases y with
  | EH j=>obtain⟨t',rfl⟩:=ry;exact W.ne_bytes (eQ I q (congrArg not BJ))
  | _=>exact absurd (show false=true from hs) aZ
 | _=>cases y<;>exact absurd (show false=true from hs) aZ
theorem PD:jU X (compareOp .Lt) (HI λi j=>.bl (decide (i<j))):=Iv λ_ _ _ _ _ _ _ q=>lt_int q
theorem PF:jU X (compareOp .LtE) (HI λi j=>.bl (decide (i<=j))):=Iv λ_ _ _ _ _ _ _ q=>le_int q
theorem Ks:jU X (compareOp .Gt) (HI λi j=>.bl (decide (j<i))):=Iv λ_ _ _ _ _ _ _ q=>gt_int q
theorem PH:jU X (compareOp .GtE) (HI λi j=>.bl (decide (j<=i))):=Iv λ_ _ _ _ _ _ _ q=>ge_int q
theorem jU.or {f:ae->ae->Sem ae}{r r':R2}(h:jU X f r)(h':jU X f r'):jU X f (λx y H Q=>r x y H Q\/r' x y H Q):=by
 intro pins s σ H x y v u Q I rx ry q;rcases q with q | q
 .exact h pins s σ H x y v u Q I rx ry q
 .exact h' pins s σ H x y v u Q I rx ry q
theorem lz (b:Expr)(h:op≠.In:=by decide)(h2:op≠.NotIn:=by decide):behindInMarks op b=false:=by
 have e1:(op == CmpOp.In)=false:=by cases op<;>first | rfl | exact absurd rfl h
 have e2:(op == CmpOp.NotIn)=false:=by cases op<;>first | rfl | exact absurd rfl h2
 cases b<;>simp[behindInMarks,e1,e2]
theorem Iw {op:CmpOp}{r:R2}(ho:jU X (compareOp op) r)(ha:PE X a ta)(hb:PE X b tb)(hm:behindInMarks op b=false):PE X (.Compare a [op] [b] pos) (Iu r ta tb):=by
 intro pins s σ H Q I h;exact wpAny_Compare1 (Mj ha hb I h λv u s2 x y H2 I2 rx ry q=>ho pins s2 σ H2 x y v u Q I2 rx ry q) hm
noncomputable def Kt (t:TE):TT:=λσ H Q=>t σ H λx H'=>∃k,x=.bl k/\Q k H'
theorem Iy (ho:jU X (compareOp op) r)(ha:PE X a ta)(hb:PE X b tb)(hm:behindInMarks op b=false):PT X (.Compare a [op] [b] pos) (Kt (Iu r ta tb)):=by
 intro pins s σ H Q I h
 refine wpAny_isTrue_Compare1 (fN (ha pins s σ H _ I h) λv s1 ⟨x,H1,I1,r1,q1⟩=>fN (hb pins s1 σ H1 _ I1 q1) λu s2 ⟨y,H2,I2,r2,q2⟩ =>
  fN (ho pins s2 σ H2 x y v u _ I2 r1 r2 q2) λc s3 ⟨z,H3,I3,r3,k,e,q3⟩=>?_) hm
 subst e;cases r3;exact wpAny_truthy_bool ⟨H3,I3,q3⟩
theorem vz:(ax:Nat)<2 ^ 63:=by rw[sizeLine_eq];decide
theorem zq:jU X (binaryOp .Add) (λx y H Q=>∃i j,x=.str i/\y=.str j/\i.length+j.length<=ax/\Q (.str (i++j)) H):=by
 intro pins s σ H x y v u Q I rx ry h;obtain⟨i,j,rfl,rfl,hz,q⟩:=h;obtain⟨t,rfl⟩:=rx;obtain⟨t',rfl⟩:=ry;exact add_str (λt' tk=>⟨.str (i++j),H,I.tok _,⟨_,rfl⟩,q⟩) hz
theorem vals1 (r:ee [x] us):∃u,us=[u]/\RelV x u:=by
 cases r with
 | cons r1 r2=>cases r2;exact⟨_,rfl,r1⟩
theorem vals2 (r:ee [x,y] us):∃u w',us=[u,w']/\RelV x u/\RelV y w':=by
 cases r with
 | cons r1 r2 =>
  cases r2 with
  | cons r3 r4=>cases r4;exact⟨_,_,rfl,r1,r3⟩
theorem Di (hc:X.calm=true):gj X (.builtin "max") (λxs H Q=>∃i j,xs=[.int i,.int j]/\Q (.int (if j > i then j else i)) H):=by
 intro pins s σ H xs us Q I r h;obtain⟨i,j,rfl,q⟩:=h;obtain⟨u,w',rfl,⟨t,rfl⟩,⟨t',rfl⟩⟩:=vals2 r;refine max_two_ints (I.ok.hd hc) λh' tk k=>⟨_,H,I.kept k,?_,q⟩;by_cases hj:j > i
 .rw[if_pos hj,if_pos hj];exact⟨_,rfl⟩
 .rw[if_neg hj,if_neg hj];exact⟨_,rfl⟩
theorem Dj (hc:X.calm=true):gj X (.builtin "min") (λxs H Q=>∃i j,xs=[.int i,.int j]/\Q (.int (if j<i then j else i)) H):=by
 intro pins s σ H xs us Q I r h;obtain⟨i,j,rfl,q⟩:=h;obtain⟨u,w',rfl,⟨t,rfl⟩,⟨t',rfl⟩⟩:=vals2 r;refine min_two_ints (I.ok.hd hc) λh' tk k=>⟨_,H,I.kept k,?_,q⟩;by_cases hj:j<i
 .rw[if_pos hj,if_pos hj];exact⟨_,rfl⟩
 .rw[if_neg hj,if_neg hj];exact⟨_,rfl⟩
theorem Dk:gj X (.type "int") (λxs H Q=>(∃i,xs=[.int i]/\Q (.int i) H)\/∃k,xs=[.bl k]/\Q (.int (if k then 1 else 0)) H):=by
 intro pins s σ H xs us Q I r h;rcases h with⟨i,rfl,q⟩ | ⟨k,rfl,q⟩
 .obtain⟨u,rfl,t,rfl⟩:=vals1 r
  exact call_int_int ⟨.int i,H,I,⟨_,rfl⟩,q⟩
 .obtain⟨u,rfl,r1⟩:=vals1 r
  cases r1;exact call_int_bool ⟨.int (if k then 1 else 0),H,I.tok _,⟨_,rfl⟩,q⟩
end
structure Mt (h:Heap) (x dx C:Addr) (mA:Str->Option ae):Prop where
 obj:h.get? x=some (W.instObj C dx)
 ns:h.Ns1 dx mA
 ne:dx≠x
theorem o7 {h:Heap}{dx:Addr}{mA:Str->Option ae}(n:h.Ns1 dx mA):∃od,h.get? dx=some od/\∀name,W.lookIn name od=some (mA name):=by
 obtain⟨o,es,ep,ho,hd,hk,_,hm⟩:=n;refine⟨o,ho,λname=>?_⟩;have e:=hm name;unfold nsFind findBy at e;rw[<- Array.find?_toList] at e;unfold W.lookIn;rw[hd];dsimp only;split
 .rename_i y q
  rw[q] at e;exact congrArg some e
 .rename_i q
  rw[q] at e
  have a:es.toList.any (·.refKey)=false:=by
   rw[List.any_eq_false];intro y hy;obtain⟨z,t,Mu⟩:=hk y (Array.mem_toList_iff.mp hy);simp[DictEntry.refKey,Mu]
  have a':¬ es.toList.any (·.refKey)=true:=by rw[a];exact aZ
  rw[if_neg a'];exact congrArg some e
theorem Mt.look (I:Mt h x dx C mA):∃od,W.InstAt h x (W.instObj C dx) C (some od)/\∀name,W.lookIn name od=some (mA name) :=
 let ⟨od,ho,hl⟩:=o7 I.ns
 ⟨od,⟨I.obj,rfl,rfl,ho⟩,hl⟩
noncomputable def Dl (f:Str)(v:V):List (Str × V)->List (Str × V)
 | []=>[(f,v)]
 | (g,x)::r=>if g=f then (g,v)::r else (g,x)::Dl f v r
theorem pS (f g:Str)(v:V):∀fs:List (Str × V),(Dl f v fs).lookup g=if g=f then some v else fs.lookup g
 | []=>by
  show c9 g [(f,v)]=_;by_cases h:g=f
  .have hb:(g == f)=true:=beq_iff_eq.mpr h
   simp only[c9,hb,if_pos h]
  .have hb:(g == f)=false:=beq_eq_false_iff_ne.mpr h
   simp only[c9,hb,if_neg h]
 | (k,x)::r=>by
  have ih:=pS f g v r;rw[show Dl f v ((k,x)::r)=(if k=f then (k,v)::r else (k,x)::Dl f v r) from rfl];by_cases hk:k=f
  .rw[if_pos hk]
   by_cases h:g=k
   .have hb:(g == k)=true:=beq_iff_eq.mpr h
    simp only[c9,hb,if_pos (h.trans hk)]
   .have hb:(g == k)=false:=beq_eq_false_iff_ne.mpr h
    simp only[c9,hb,if_neg (λe:g=f=>h (e.trans hk.symm))]
  .rw[if_neg hk]
   by_cases h:g=k
   .have hb:(g == k)=true:=beq_iff_eq.mpr h
    simp only[c9,hb,if_neg (λe:g=f=>hk (h.symm.trans e))]
   .have hb:(g == k)=false:=beq_eq_false_iff_ne.mpr h
    simp only[c9,hb];exact ih
theorem mF.some_of (r:mF (some v) o):∃u,o=some u/\RelV v u:=by
 cases o with
 | none=>exact (show False from r).elim
 | some u=>exact⟨u,rfl,r⟩
theorem Dm (r:RelV v u):W.handedIn u=true:=by
 cases v with
 | gB=>cases (show u=ae.none from r);rfl
 | bl b=>cases (show u=ae.bool b from r);rfl
 | int i=>obtain⟨t,e⟩:=(show ∃t,u=ae.int i t from r);cases e;rfl
 | str x=>obtain⟨t,e⟩:=(show ∃t,u=ae.str x t from r);cases e;rfl
 | EH b=>obtain⟨t,e⟩:=(show ∃t,u=ae.bytes b t from r);cases e;rfl
 | LJ b=>obtain⟨t,e⟩:=(show ∃t,u=ae.float b t from r);cases e;rfl
 | ref a=>cases (show u=ae.ref a from r);rfl
 | ty n=>cases (show u=ae.type n from r);rfl
section
theorem Iz (hok:jT P w H h)(e:H a=some (.ins C dx fs)):∃mA,Mt h a dx C mA/\(∀f,mF (fs.lookup f) (mA f))/\PySem.Within mA (fs.map (·.1))/\fs.length<=1000/\H dx=some (.own a):=by
 obtain⟨d,z,ne,ob,mA,n,r,q⟩:=(show fu P w H h a (.ins C dx fs) from hok a _ e);exact⟨mA,⟨ob,n,ne⟩,r,q,z,d⟩
end
structure Tj (K:W.Frag) (C:Addr):Prop where
 pg:W.plainGet K C Str.empty=true
 hd:W.hasDictIn K C=true
 po:W.plainOver K C=true
 sa:W.findIn K (.ref C) "__setattr__" = some (some (.builtin "object.__setattr__"))
theorem Tj.get {K:W.Frag}{C:Addr}(c:Tj K C)(f:Str):W.plainGet K C f=true:=c.pg
section
theorem IA {prog:aO}{w:World}{env:Env}{e:Expr}{f:Str}{pos:Pos}{s:aq}{Q:ae->aq->Prop}(hb:attributeBase e f env (eval e env)=eval e env)
  (h:ay (model prog w) A (eval e env) (λo s₁=>ay (model prog w) A (getAttr o f true) Q E s₁) E s):ay (model prog w) A (eval (.Attribute e f pos) env) Q E s :=
 Attribute_any_ h (by rw[arm_eval_Attribute,hb])
end
section
inductive mG (K:W.Frag) (H:Hp):V->ae->Prop where
 | gB:mG K H .gB (.type "NoneType")
 | bl (x:Bool):mG K H (.bl x) (.type "bool")
 | int (i:Int):mG K H (.int i) (.type "int")
 | str (x:Str):mG K H (.str x) (.type "str")
 | LJ (x:UInt64):mG K H (.LJ x) (.type "float")
 | lst {a:Addr} {xs:List V} (e:H a=some (.lst xs)):mG K H (.ref a) (.type "list")
 | qS {a:Addr} {o:Obj} {xs:List V} (e:H a=some (.qS o (.lst xs))):mG K H (.ref a) (.type "list")
 | tup {a:Addr} {xs:List V} (e:H a=some (.tup xs)):mG K H (.ref a) (.type "tuple")
 | dK {a:Addr} {kvs:List (Key × V)} (e:H a=some (.dK kvs)):mG K H (.ref a) (.type "dict")
 | dT {a:Addr} {kvs:List (List Key × V)} (e:H a=some (.dT kvs)):mG K H (.ref a) (.type "dict")
 | ins {a C dx:Addr} {fs:List (Str × V)} (e:H a=some (.ins C dx fs)) (cl:Tj K C) (ha:W.findIn K (.ref C) "__class__" = some (some (.builtin "object.__class__")))
   (hn:W.specialIn K (.builtin "object.__class__") "__get__" = some (some (.builtin "getset_descriptor.__get__"))) (VS:W.takesIn K (.builtin "object.__class__")=some true)
   (hm:W.mroIn K C (.type "object")=some true):mG K H (.ref a) (.ref C)
theorem Dn {x:V}{u t:ae}(I:Inv X pins σ H s)(rx:RelV x u)(ty:mG X.K H x t)(e:W.kitOne X.K t c=some b)(h:∀tk,Q (.bool b) { s with toks:=tk }) :
  ay (model X.prog X.w) A (call (.builtin "isinstance") [u,c]) Q E s:=by
 cases ty with
 | gB=>cases (show u=ae.none from rx);exact W.kia_one W.kitx_none I.mT True.intro e (λz=>nomatch z) h
 | bl y=>cases (show u=ae.bool y from rx);exact W.kia_one W.kitx_bool I.mT True.intro e (λz=>nomatch z) h
 | int i=>obtain⟨t,q⟩:=(show ∃t,u=ae.int i t from rx);cases q;exact W.kia_one W.kitx_int I.mT True.intro e (λz=>nomatch z) h
 | str y=>obtain⟨t,q⟩:=(show ∃t,u=ae.str y t from rx);cases q;exact W.kia_one W.kitx_str I.mT True.intro e (λz=>nomatch z) h
 | LJ y=>obtain⟨t,q⟩:=(show ∃t,u=ae.float y t from rx);cases q;exact W.kia_one W.kitx_float I.mT True.intro e (λz=>nomatch z) h
 | @lst a xs ea =>
  cases (show u=ae.ref a from rx);obtain⟨_,_,n,_,h1⟩:=(show fu X.prog X.w H s.heap a (.lst xs) from I.hok a _ ea);exact W.kia_one W.kitx_list I.mT ⟨_,h1,rfl⟩ e (λz=>nomatch z) h
 | @qS a ob xs ea =>
  cases (show u=ae.ref a from rx);obtain⟨_,_,_,n,_,h1⟩:=(show fu X.prog X.w H s.heap a (.qS ob (.lst xs)) from I.hok a _ ea);exact W.kia_one W.kitx_list I.mT ⟨_,h1,rfl⟩ e (λz=>nomatch z) h
 | @tup a xs ea =>
  cases (show u=ae.ref a from rx);obtain⟨_,_,_,p⟩:=(show fu X.prog X.w H s.heap a (.tup xs) from I.hok a _ ea);obtain⟨o,h1,h2,_⟩:=p;exact W.kia_one W.kitx_tuple I.mT ⟨o,h1,h2⟩ e (λz=>nomatch z) h
 | @dK a kvs ea =>
  cases (show u=ae.ref a from rx);obtain⟨_,_,vs,_,p⟩:=(show fu X.prog X.w H s.heap a (.dK kvs) from I.hok a _ ea);obtain⟨o,es,ep,h1,h2,_⟩:=p;exact W.kia_one W.kitx_dict I.mT ⟨o,h1,h2.1⟩ e (λz=>nomatch z) h
 | @dT a kvs ea =>
  cases (show u=ae.ref a from rx);obtain⟨_,_,xs,_,o,es,ep,h1,h2,_⟩:=(show fu X.prog X.w H s.heap a (.dT kvs) from I.hok a _ ea);exact W.kia_one W.kitx_dict I.mT ⟨o,h1,h2.1⟩ e (λz=>nomatch z) h
 | @ins a C dx fs ea cl ha hn VS hm =>
  cases (show u=ae.ref a from rx);obtain⟨mA,O,_⟩:=Iz I.hok ea;obtain⟨od,J,_⟩:=O.look;exact W.kia_one (W.kitx_own (cl.get _) cl.hd ha hn VS hm) I.mT J e (λz=>nomatch z) h
end
structure fm (k:Nat) (A:Around):Prop where
 hd:A.handled=none
 dp:A.depth+3 * k+5<recursionLimit
 un:A.units+16 * k+200<cLine
 gd:A.guards=some []
theorem fm.mono (r:fm k A)(h:j<=k):fm j A:=⟨r.hd,by have:=r.dp;omega,by have:=r.un;omega,r.gd⟩
theorem fm.deeper (r:fm (k+1) A)(env:Env):fm k (A.deeper env) :=
 ⟨r.hd,by have:=r.dp;show A.depth+1+3 * k+5<_;omega,by have:=r.un;show A.units+3+16 * k+200<_;omega,r.gd⟩
theorem zr {A:Around}{C:Addr}{us:List ae}{kw:List (Str × ae)}:(A.under (.builtin "type.__call__" ⟨.ref C::us,kw⟩)).depth=A.depth+1:=by
 first | rfl | simp[Around.under,Code.weight,Code.isCreation,Code.isGuard,Code.isCaller,Code.frames,Code.isFrame,guardIds]
theorem zt {A:Around}{C:Addr}{us:List ae}{kw:List (Str × ae)}:(A.under (.builtin "type.__call__" ⟨.ref C::us,kw⟩)).units=A.units+1:=by
 first | rfl | simp[Around.under,Code.cUnits,Code.frames,Code.isFrame]
theorem fm.make (r:fm (k+1) A)(C:Addr)(us:List ae)(kw:List (Str × ae)):fm k (A.under (.builtin "type.__call__" ⟨.ref C::us,kw⟩)) :=
 ⟨r.hd,by have:=r.dp;rw[zr];omega,by have:=r.un;rw[zt];omega,by first | exact r.gd | (have:=r.gd;simpa [Around.under,Code.isGuard,guardIds] using this)⟩
theorem fm.depth (r:fm k A):A.depth<recursionLimit:=by have:=r.dp;omega
theorem fm.units (r:fm k A):A.units+64<cLine:=by have:=r.un;omega
noncomputable def Mv:TA:=λ_ H Q=>Q [] H
noncomputable def E8 (ta:TE)(tr:TA):TA:=λσ H Q=>ta σ H λx H1=>tr σ H1 λxs H2=>Q (x::xs) H2
section
variable {X:Cx}{e:Expr}{es:List Expr}{te:TE}{t:TA}{pos:Pos}
theorem Mw:PA X [] Mv:=λ_ _ _ _ H Q I h=>Calls.spliced_nil ⟨[],H,I,.nil,h⟩
theorem IB (ha:PE X e te)(hr:PA X es t)(hs:starEach (e::es) X.env=(false,eval e X.env)::starEach es X.env:=by rfl):PA X (e::es) (E8 te t):=by
 intro pos pins s σ H Q I h;rw[hs];show ay _ _ (spliced ((false,eval e X.env)::backTo pos (starEach es X.env))) _ _ s;refine Calls.spliced_cons (fN (ha pins s σ H _ I h) λu s1 ⟨x,H1,I1,r1,q1⟩=>?_);exact fN (hr pos pins s1 σ H1 _ I1 q1) λus s2 ⟨xs,H2,I2,r2,q2⟩=>⟨x::xs,H2,I2,.cons r1 r2,q2⟩
noncomputable def PJ (t:TA):TE:=λσ H Q=>t σ H λxs H1=>xs.length<=ax/\∀p,H1 p=none->Q (.ref p) (eR H1 p (.tup xs))
noncomputable def PK (t:TA):TE:=λσ H Q=>t σ H λxs H1=>xs.length<=ax/\∀p,H1 p=none->Q (.ref p) (eR H1 p (.lst xs))
theorem Mx {x1}(h:PA X es t):PE X (.Tuple es x1 pos) (PJ t):=by
 intro pins s σ H Q I hq;refine wpAny_Tuple_spliced (fN (h pos pins s σ H _ I hq) λus s1 ⟨xs,H1,I1,r,z,q⟩=>⟨by rw[<- r.length];exact z,?_⟩);have hf:H1 s1.heap.objs.size=none:=I1.hok.fresh (am _);refine⟨.ref s1.heap.objs.size,eR H1 s1.heap.objs.size (.tup xs),I1.laid (t':=s1.toks) (λb u e=>ah _ e) (am _) ?_,rfl,q _ hf⟩;exact⟨z,us,r,⟨_,aH _ rfl,rfl,_,rfl,rfl⟩⟩
theorem My (h:PA X es t):PE X (.List es pos) (PK t):=by
 intro pins s σ H Q I hq;refine wpAny_List_spliced (fN (h pos pins s σ H _ I hq) λus s1 ⟨xs,H1,I1,r,z,q⟩=>⟨by rw[<- r.length];exact z,?_⟩);have hf:H1 s1.heap.objs.size=none:=I1.hok.fresh (am _);refine⟨.ref s1.heap.objs.size,eR H1 s1.heap.objs.size (.lst xs),I1.laid (t':=s1.toks) (λb u e=>ah _ e) (am _) ?_,rfl,q _ hf⟩;exact⟨z,us,0,r,aH _ rfl⟩
end
noncomputable abbrev Sp:=List V->Hp->VK->XK->Prop
noncomputable abbrev EJ:=List Env->Hp->aq->XK->ae->aq->Prop
structure zu (P:aO) (w:World) (K:W.Frag) (mg:Str->Option ae) (base:Heap) (A:Around) (outer:List Env) (s:aq) (H:Hp):Prop where
 frames:A.frames=some outer
 mod:Mod K mg base
 bs:∀b o,base.get? b=some o->s.heap.get? b=some o/\H b=none
 Ib:base.objs.size<=s.heap.objs.size
 o4:s.heap.FunFrames base outer
 Kh:∀b∈mS outer,H b=none
 hok:jT P w H s.heap
 bare:AllBare s.gens
noncomputable def CE (outer:List Env)(P:aO)(w:World)(H:Hp)(s:aq)(Q:VK)(u:ae)(s':aq):Prop :=
 ∃v H',s'.os=s.os/\AllBare s'.gens/\Un (mS outer) [] H H' s.heap s'.heap/\jT P w H' s'.heap/\RelV v u/\Q v H'
noncomputable def CR (CX:EJ)(outer:List Env)(P:aO)(w:World)(H:Hp)(s:aq)(Q:VK)(E:XK)(r:Result)(s':aq):Prop :=
 match r with
 | .ok (.ret u)=>CE outer P w H s Q u s'
 | .ok _=>False
 | .error e=>CX outer H s E e s'
structure iP (P:aO) (w:World) (K:W.Frag) (mg:Str->Option ae) (base:Heap) (CX:EJ) (k:Nat) (f:Addr) (fd:bF) (ps:List Str) (sp:Sp):Prop where
 len:∀vs H Q E,sp vs H Q E->vs.length=ps.length
 run:∀(A:Around) (outer:List Env) (s:aq) (H:Hp) (args:Args) (us:List ae) (vs:List V) (Q:VK) (E:XK),fm k A->zu P w K mg base A outer s H->BindsTo s fd args (ps.zip us)->ee vs us->sp vs H Q E ->
  codeAny (model P w) A (.call (.ref f) args) (CR CX outer P w H s Q E) s
theorem iP.mono {P:aO}{w:World}{K:W.Frag}{mg:Str->Option ae}{base:Heap}{CX:EJ}{j k:Nat}{f:Addr}{fd:bF}{ps:List Str}{sp:Sp}(F:iP P w K mg base CX j f fd ps sp)(h:j<=k) :
  iP P w K mg base CX k f fd ps sp:=⟨F.len,λA outer s H args us vs Q E hr=>F.run A outer s H args us vs Q E (hr.mono h)⟩
theorem iP.imp {P:aO}{w:World}{K:W.Frag}{mg:Str->Option ae}{base:Heap}{CX:EJ}{k:Nat}{f:Addr}{fd:bF}{ps:List Str}{sp PL:Sp}(F:iP P w K mg base CX k f fd ps sp)
  (h:∀vs H Q E,PL vs H Q E->sp vs H Q E):iP P w K mg base CX k f fd ps PL :=
 ⟨λvs H Q E q=>F.len vs H Q E (h _ _ _ _ q),λA outer s H args us vs Q E hr he hb hv hs=>F.run A outer s H args us vs Q E hr he hb hv (h _ _ _ _ hs)⟩
theorem zu.make {P:aO}{w:World}{K:W.Frag}{mg:Str->Option ae}{base:Heap}{A:Around}{outer:List Env}{s:aq}{H:Hp}(e:zu P w K mg base A outer s H)(C:Addr)(us:List ae)(kw:List (Str × ae)) :
  zu P w K mg base (A.under (.builtin "type.__call__" ⟨.ref C::us,kw⟩)) outer s H:=⟨by first | exact e.frames | (simpa [Around.under,Code.envs,Code.isFrame,pushEnvs] using e.frames),e.mod,e.bs,e.Ib,e.o4,e.Kh,e.hok,e.bare⟩
section
theorem Inv.Mz (I:Inv X pins σ H s):zu X.prog X.w X.K X.mg X.base X.A X.stack s H :=
 ⟨I.ok.frames,I.ok.mod,I.bs,aU I.ok.Ib I.sz,I.stack,I.qw,I.hok,I.bare⟩
theorem Inv.after {Q:VK}{u:ae}(I:Inv X pins σ H s)(h:CE X.stack X.prog X.w H s Q u s'):EP X pins σ Q u s':=by
 obtain⟨v,H',os,bare,un,hok,r,q⟩:=h;obtain⟨hh,g,d,t,Tn⟩:=s';obtain rfl:Tn=s.os:=os;exact⟨v,H',I.call (h':=hh) (g':=g) (d':=d) (t':=t) (ch:=[]) un hok bare (λb z=>absurd z (!4)),r,q⟩
end
noncomputable def xg (sp:Sp)(MA:List V)(E:XK)(t:TA):TE:=λσ H Q=>t σ H λvs H1=>sp (vs++MA) H1 Q E
noncomputable def Binds (K:W.Frag)(fd:bF)(ps:List Str)(ds:List ae):Prop :=
 ∀(s:aq) (us:List ae),K.In s.heap->(us++ds).length=ps.length->BindsTo s fd ⟨us,[]⟩ (ps.zip (us++ds))
theorem Binds.all {K:W.Frag}{fd:bF}{ps:List Str}(h:∀us:List ae,us.length=ps.length->bindArgs fd ⟨us,[]⟩=pure (ps.zip us)):Binds K fd ps []:=λs us _ hl=>by
 rw[bn] at hl ⊢;exact .of_eq (h us hl)
noncomputable def zv (CX:EJ)(X:Cx)(E:XK):Prop:=∀(pins:List (Addr × Obj)) (σ:St) (H:Hp) (s:aq) (e:ae) (s':aq),Inv X pins σ H s->CX X.stack H s E e s'->X.xe e s'
section
theorem MB {pins:List (Addr × Obj)}{σ:St}{H:Hp}{s:aq}{Q:VK}{us:List ae}{vs:List V}(F:iP X.prog X.w X.K X.mg X.base CX k f fd ps sp)(hr:fm k X.A)(hb:Binds X.K fd ps ds)(hd:ee MA ds)(hx:zv CX X E)
  (I:Inv X pins σ H s) (r:ee vs us) (h:sp (vs++MA) H Q E):ay (model X.prog X.w) X.A (call (.ref f) us) (EP X pins σ Q) X.xe s:=by
 have r2:ee (vs++MA) (us++ds):=r.append hd;have hl:(us++ds).length=ps.length:=by rw[<- r2.length];exact F.len _ _ _ _ h
 refine wpAny_call (codeAny_mono (F.run X.A X.stack s H ⟨us,[]⟩ (us++ds) (vs++MA) Q E hr I.Mz (hb s us I.mT hl) r2 h) λr s' hq=>?_)
 cases r with
 | error e=>exact hx pins σ H s e s' I hq
 | ok fl =>
  cases fl with
  | ret u=>exact I.after hq
  | next=>exact False.elim hq
  | brk=>exact False.elim hq
  | cont=>exact False.elim hq
theorem BK (F:iP X.prog X.w X.K X.mg X.base CX k f fd ps sp)(hr:fm k X.A)(hg:Gl X x)(hm:X.mg x=some (.ref f))(hk:W.keepIn X.K (.ref f)=true)(hb:Binds X.K fd ps ds)(hd:ee MA ds)(hx:zv CX X E)
  (ha:PA X (e::es) t) (jj:(x == ("__debug__" : Str))=false:=by decide) (he:starEach (e::es) X.env=(false,eval e X.env)::starEach es X.env:=by rfl) (mL:(backTo pos (starEach es X.env)).any (·.1)=false:=by rfl) :
  PE X (.Call (.Name x p) (e::es) [] pos) (xg sp MA E t):=by
 intro pins s σ H Q I h;refine wpAny_Call_Name_kw (nQ I hg hm ?_ jj);refine W.callWith_K (h₀:=X.base) I.ok.mod.O8 hk (fN (ha pos pins s σ H _ I h) λus s1 ⟨vs,H1,I1,r,q⟩=>⟨I1.mT,?_⟩) he mL;exact MB F hr hb hd hx I1 r q
end
structure eZ (N P:List Str) (sc:Scope):Prop where
 kind:sc.kind=.function
 co:sc.isCoroutine=false
 gen:sc.isGenerator=false
 nd:N.Nodup
 pre:N.take P.length=P
 par:∀x∈P,sc.names.lookup x=some .local\/sc.names.lookup x=some .cell
 MC:∀y∈sc.names,y.2≠.free
theorem t9 {kindOf:Str->Option aM}{x:Str}:∀{binds:List (Str × ae)} {m:Str->Option ae},(∀v,(x,v) ∉ binds)->bindL kindOf binds m x=m x
 | [],_,_=>rfl
 | (n,v)::r,m,h=>by
  unfold bindL;rw[t9 λw hw=>h w (ao _ hw)];split
  .have:x≠n:=by rintro rfl;exact h v ar
   simp[this]
  .rfl
theorem uf {kindOf:Str->Option aM}{x:Str}:∀{binds:List (Str × ae)} {m:Str->Option ae},(∀v,(x,v) ∉ binds)->bindC kindOf binds m x=m x
 | [],_,_=>rfl
 | (n,v)::r,m,h=>by
  unfold bindC;rw[uf λw hw=>h w (ao _ hw)];split
  .rfl
  .have:x≠n:=by rintro rfl;exact h v ar
   simp[this]
theorem uj {kindOf:Str->Option aM}{x:Str}{v:ae}:∀{P:List Str} {vs:List ae} {i:Nat} {m:Str->Option ae},P.Nodup->P[i]? = some x->vs[i]? = some v->kindOf x=some .local ->
  bindL kindOf (P.zip vs) m x=some v
 | [],_,_,_,_,h,_,_=>by simp at h
 | _::_,[],_,_,_,_,h,_=>by simp at h
 | p::P,w::vs,0,m,nd,h1,h2,hk=>by
  simp at h1 h2;subst h1;subst h2;show bindL kindOf ((p,w)::P.zip vs) m p=_;unfold bindL;rw[t9 λv hv=>(bN.mp nd).1 (List.of_mem_zip hv).1,if_pos hk];simp
 | p::P,w::vs,i+1,m,nd,h1,h2,hk=>by
  show bindL kindOf ((p,w)::P.zip vs) m x=_;unfold bindL;exact uj (i:=i) (bN.mp nd).2 (by simpa using h1) (by simpa using h2) hk
theorem um {kindOf:Str->Option aM}{x:Str}{v:ae}:∀{P:List Str} {vs:List ae} {i:Nat} {m:Str->Option ae},P.Nodup->P[i]? = some x->vs[i]? = some v->kindOf x≠some .local ->
  bindC kindOf (P.zip vs) m x=some v
 | [],_,_,_,_,h,_,_=>by simp at h
 | _::_,[],_,_,_,_,h,_=>by simp at h
 | p::P,w::vs,0,m,nd,h1,h2,hk=>by
  simp at h1 h2;subst h1;subst h2;show bindC kindOf ((p,w)::P.zip vs) m p=_;unfold bindC;rw[uf λv hv=>(bN.mp nd).1 (List.of_mem_zip hv).1,if_neg hk];simp
 | p::P,w::vs,i+1,m,nd,h1,h2,hk=>by
  show bindC kindOf ((p,w)::P.zip vs) m x=_;unfold bindC;exact um (i:=i) (bN.mp nd).2 (by simpa using h1) (by simpa using h2) hk
noncomputable def start (N:List Str)(vs:List V):St:=vs.map some++List.replicate (N.length - vs.length) none
noncomputable def ky (CX:EJ)(P:aO)(w:World)(K:W.Frag)(mg:Str->Option ae)(base:Heap)(N:List Str)(fj:Str)(scope:Scope)(f:Addr)(cd:ae)(A:Around)(outer:List Env)(s:aq)(H:Hp)(E:XK):Cx where
 prog:=P
 w:=w
 K:=K
 mg:=mg
 base:=base
 A:=A.deeper (envOfC fj scope s.heap.objs.size f cd)
 N:=N
 s₀:=s
 H₀:=H
 env:=envOfC fj scope s.heap.objs.size f cd
 outer:=outer
 stack:=envOfC fj scope s.heap.objs.size f cd::outer
 ex:=[]
 calm:=true
 fn:=λ_=>true
 pn:=[]
 xe:=λe s'=>ay (model P w) (A.deeper (envOfC fj scope s.heap.objs.size f cd)) (leaving (envOfC fj scope s.heap.objs.size f cd) e) (λ_ MD=>CX outer H s E e MD) (λe' MD=>CX outer H s E e' MD) s'
theorem xh {sc:Scope}{n:Nat}{x:Str}(h:sc.names.lookup x=some .cell):∃c,(cellsFrom n sc.names []).lookup x=some c:=by
 have q:=W.cellsFrom_some sc.names n [] (.inl h);exact bZ.mp q
theorem Dp {CX:EJ}{P:aO}{w:World}{K:W.Frag}{mg:Str->Option ae}{base:Heap}{N ps:List Str}{fj:Str}{scope:Scope}{f:Addr}{cd:ae}{A:Around}{outer:List Env}{s s1:aq}{H:Hp}{E:XK}{us:List ae}{vs:List V}
  (S:eZ N ps scope) (hd:A.handled=none) (e0:zu P w K mg base A outer s H) (hl:vs.length=ps.length) (r:ee vs us)
  (x:InCallC s s.heap.objs.size (bindL (envOfC fj scope s.heap.objs.size f cd).kindOf (ps.zip us) λ_=>none) (cellsFrom (s.heap.objs.size+1) scope.names []) (bindC (envOfC fj scope s.heap.objs.size f cd).kindOf (ps.zip us) λ_=>none) s1) :
  Inv (ky CX P w K mg base N fj scope f cd A outer s H E) [] (start N vs) H s1:=by
 have mL:ps.length<=N.length:=by have:=congrArg List.length S.pre;rw[bO] at this;omega
 obtain⟨h1,tk,rfl,hk⟩:=x.done;have PM:∀b:Addr,b ∉ (ky CX P w K mg base N fj scope f cd A outer s H E).ex:=λb z=>absurd (show b∈([]:List Addr) from z) (!4)
 refine⟨⟨e0.mod,S.kind,rfl,rfl,am _,λy z c h1 h2=>?_,λy hy=>?_,λy c _ h=>?_,λ_=>hd,Around.frames_deeper e0.frames,.inr ⟨rfl,rfl⟩,λb z=>absurd z (PM b),e0.bs,e0.Ib,λb _ _=>PM b,λb z=>absurd z (PM b),e0.o4,e0.Kh⟩,
  rfl,e0.bare,Un.kept hk,⟨_,x.toInCall.ns,λi y v h1 h2 h3=>?_⟩,λy c h=>⟨_,x.cell y c h⟩,e0.hok.fresh (am _),λy c h=>?_,λp hp=>absurd (show p∈([]:List (Addr × Obj)) from hp) (!4),e0.hok.kept hk,?_⟩
 .exact name_of_addr x.apart (PySem.mem_of_lookup h1) (PySem.mem_of_lookup h2)
 .have hy:scope.names.lookup y=some .cell\/scope.names.lookup y=some .free:=hy
  rcases hy with hy | hy
  .exact xh hy
  .exact absurd rfl (S.MC _ (PySem.mem_of_lookup hy))
 .exact dw (x.above y c (PySem.mem_of_lookup h))
 .have hi:i<vs.length:=by
   unfold start at h2;by_cases hi:i<vs.length
   .exact hi
   .rw[bK (by simpa using hi)] at h2
    rw[cA] at h2;split at h2<;>cases h2
  have ha:vs[i]? = some v:=by
   unfold start at h2;rw[bM (by simpa using hi),aC] at h2
   cases e:vs[i]? with
   | none=>rw[e] at h2;cases h2
   | some a=>rw[e] at h2;cases h2;rfl
  obtain⟨u,hu,rv⟩:=r.get ha
  have hp:ps[i]? = some y:=by
   rw[<- S.pre,List.getElem?_take_of_lt (!1)];exact h1
  have VT:ps.Nodup:=by rw[<- S.pre];exact S.nd.sublist (List.take_sublist _ _)
  refine⟨u,rv,?_⟩;rcases S.par y (bP hp) with k | k
  .exact .inl ⟨k,uj VT hp hu k⟩
  .obtain⟨c,e⟩:=xh (n:=s.heap.objs.size+1) k
   refine .inr ⟨.inl k,c,e,?_⟩;have q:=x.cell y c e;rw[um VT hp hu (by show scope.names.lookup y≠_;rw[k];decide)] at q;exact q
 .exact e0.hok.fresh (dw (x.above y c (PySem.mem_of_lookup h)))
 .unfold start
  show _=N.length;rw[aG,aj,cZ];omega
theorem Ku {CX:EJ}{P:aO}{w:World}{K:W.Frag}{mg:Str->Option ae}{base:Heap}{k:Nat}{f:Addr}{name fj:Str}{params:Arguments}{body:List Stmt}{scope:Scope}{dV kV rf pm fq ct oc:ae}{an od:Option Addr}
  {zw:Array (Option ae)} {N ps:List Str} {sp:Sp} (lk:K.lookup f=some ⟨oc,od,.func (W.fnOf name fj params body scope dV kV rf pm an fq ct),zw⟩) (gP:W.codeIn K fq fj=true) (S:eZ N ps scope)
  (len:∀vs H Q E,sp vs H Q E->vs.length=ps.length)
  (rg:∀(A:Around) (outer:List Env) (s:aq) (H:Hp) (vs:List V) (Q:VK) (E:XK),fm k (A.deeper (envOfC fj scope s.heap.objs.size f fq))->sp vs H Q E ->
   ∃t,ze (ky CX P w K mg base N fj scope f fq A outer s H E) body t/\t { nx:=λ_ H'=>Q .gB H',rt:=Q } (start N vs) H) :
  iP P w K mg base CX (k+1) f (W.fnOf name fj params body scope dV kV rf pm an fq ct) ps sp:=by
 refine⟨len,λA outer s H args us vs Q E hr e0 hb r zx=>?_⟩;have hl:=len _ _ _ _ zx;have KX:K.In s.heap:=e0.mod.O8.keeps λb o e=>(e0.bs b o e).1;have W0:s.heap.NoLimit:=e0.mod.nolimit.keeps λb o e=>(e0.bs b o e).1
 have PN:∀y∈ps.zip us,scope.names.lookup y.1=some .local\/(scope.names.lookup y.1=some .cell/\((cellsFrom (s.heap.objs.size+1) scope.names []).lookup y.1).isSome=true):=λ⟨n,v⟩ hy=>by
  rcases S.par n (List.of_mem_zip hy).1 with q | q
  .exact .inl q
  .exact .inr ⟨q,W.cellsFrom_some _ _ _ (.inl q)⟩
 refine codeAny_call_function hr.depth (KX _ _ lk) rfl S.co S.gen rfl (W.codeRec_of KX gP) (hb _ _ _ _ ?_);refine wpAny_newFunctionEnv_cells S.kind PN λenv he s1 x=>?_;subst he;refine⟨W0.keeps x.toInCall.keep,codeAny_func ?_⟩;obtain⟨t,ht,hq⟩:=rg A outer s H vs Q E (hr.deeper _) zx;have I:Inv (ky CX P w K mg base N fj scope f fq A outer s H E) [] (start N vs) H s1:=Dp S hr.hd e0 hl r x;refine bJ (ht [] s1 (start N vs) H _ I hq) (λfl s' hs=>?_) λe s' hs=>hs
 have fin:∀{σ':St} {H':Hp} {v:V} {u:ae},Inv (ky CX P w K mg base N fj scope f fq A outer s H E) [] σ' H' s'->RelV v u->Q v H'->CE outer P w H s Q u s' :=
  λ{σ' H' v u} J rv q=>⟨v,H',J.os,J.bare,J.base,J.hok,rv,q⟩
 cases fl with
 | ret u =>
  obtain⟨v,σ',H',J,rv,q⟩:=hs;exact fin J rv q
 | next =>
  obtain⟨σ',H',J,q⟩:=hs;exact fin (v:=V.gB) (u:=ae.none) J rfl q
 | brk =>
  obtain⟨_,_,_,q⟩:=hs;exact False.elim q
 | cont =>
  obtain⟨_,_,_,q⟩:=hs;exact False.elim q
section
variable {X:Cx}{x:Str}{p pos:Pos}{e:Expr}{es:List Expr}{t:TA}{id T:String}{r:List V->Hp->VK->Prop}
noncomputable def PQ (r:List V->Hp->VK->Prop)(t:TA):TE:=λσ H Q=>t σ H λvs H1=>r vs H1 Q
theorem E9 (hc:gj X (.builtin id) r)(hg:Gl X x)(hm:X.mg x=none)(hv:bootBuiltins x=some (.builtin id))(ha:PA X (e::es) t)(hn:x ≠ "__name__" := by decide)(jj:(x == ("__debug__" : Str))=false:=by decide)
  (he:starEach (e::es) X.env=(false,eval e X.env)::starEach es X.env:=by rfl) (mL:(backTo pos (starEach es X.env)).any (·.1)=false:=by rfl):PE X (.Call (.Name x p) (e::es) [] pos) (PQ r t):=by
 intro pins s σ H Q I h;refine wpAny_Call_Name_kw (qX I hg hm hv ?_ hn jj);exact PyProof.Rows.callWith_builtin1 (fN (ha pos pins s σ H _ I h) λus s1 ⟨vs,H1,I1,r1,q1⟩=>hc pins s1 σ H1 vs us Q I1 r1 q1) he mL
theorem Dq (hc:gj X (.type T) r)(hg:Gl X x)(hm:X.mg x=none)(hv:bootBuiltins x=some (.type T))(ha:PA X (e::es) t)(hn:x ≠ "__name__" := by decide)(jj:(x == ("__debug__" : Str))=false:=by decide)
  (he:starEach (e::es) X.env=(false,eval e X.env)::starEach es X.env:=by rfl) (mL:(backTo pos (starEach es X.env)).any (·.1)=false:=by rfl):PE X (.Call (.Name x p) (e::es) [] pos) (PQ r t):=by
 intro pins s σ H Q I h;refine wpAny_Call_Name_kw (qX I hg hm hv ?_ hn jj);exact PyProof.Rows.callWith_type1 (fN (ha pos pins s σ H _ I h) λus s1 ⟨vs,H1,I1,r1,q1⟩=>hc pins s1 σ H1 vs us Q I1 r1 q1) he mL
end
end L2
namespace HT
open PySem PyProof.Rows
section
theorem IC {t b:Addr}{vs ws:List ae}{Q:ae->aq->Prop}(ht:IsTup s.heap t vs.toArray)(hb:IsTup s.heap b ws.toArray)(hv:vs≠[])
  (h1:ws=[]->Q (.ref t) s) (h2:ws≠[]->Q (.ref s.heap.objs.size) { s with heap:=s.heap.push { cls:=.type "tuple",data:=.seq (vs++ws).toArray } })
  (hsz:vs.length+ws.length<=ax):ay (model prog w) A (binaryOp .Add (.ref t) (.ref b)) Q E s:=by
 obtain⟨⟨cls,dd,data,sl⟩,ho,hc,n,hd⟩:=id ht;obtain⟨⟨To,Sf,data2,OH⟩,Dr,Kv,n2,HJ⟩:=id hb;simp only at hc hd Kv HJ;subst hc hd Kv HJ;have e:vs.toArray++ws.toArray=(vs++ws).toArray:=by simp
 by_cases hw:ws=[]
 .exact concat_meets ⟨_,ho,rfl⟩ ⟨_,Dr,rfl⟩ noFill_tuple_add seq_tuple_add PySem.F.slot_tuple_add PySem.F.entry_tuple_add (PySem.F.args_tuple_add_2 _ _)
   (tuple_addW1 t b vs.toArray ws.toArray n n2 dd Sf sl OH (by simpa using hv) (by simp[hw])) ⟨ho,Dr,h1 hw⟩
 .refine concat_meets ⟨_,ho,rfl⟩ ⟨_,Dr,rfl⟩ noFill_tuple_add seq_tuple_add PySem.F.slot_tuple_add PySem.F.entry_tuple_add (PySem.F.args_tuple_add_2 _ _)
   (tuple_addW2 t b vs.toArray ws.toArray n n2 dd Sf sl OH (by simpa using hv) (by simpa using hw) (by rw[aD,aD];exact hsz)) ⟨ho,Dr,?_⟩
  rw[e];exact h2 hw
noncomputable def gp (n d:Nat):Option Int->Nat
 | none=>d
 | some v=>if v<0 then (v+(n:Int)).toNat else min v.toNat n
theorem Fb (n d:Nat):gp n d none=d:=rfl
theorem ID (n d k:Nat):gp n d (some (k:Int))=min k n:=by
 show (if (k:Int)<0 then ((k:Int)+(n:Int)).toNat else min (k:Int).toNat n)=min k n;rw[if_neg (!1),br]
theorem ME (n d:Nat)(hd:d<=n)(o:Option Int):gp n d o<=n:=by
 cases o with
 | none=>exact hd
 | some v =>
  show (if v<0 then (v+(n:Int)).toNat else min v.toNat n)<=n;by_cases hv:v<0
  .rw[if_pos hv];omega
  .rw[if_neg hv];exact Nat.min_le_right _ _
theorem BL (v:Int)(n d:Nat):(if v<0 then max (v+(n:Int)) 0 else min v (n:Int))=((gp n d (some v):Nat):Int):=by
 show (if v<0 then max (v+(n:Int)) 0 else min v (n:Int))=(((if v<0 then (v+(n:Int)).toNat else min v.toNat n):Nat):Int);by_cases hv:v<0
 .simp only[if_pos hv];omega
 .simp only[if_neg hv];omega
theorem zy (lo hi:Option Int)(n:Nat):Builtin.Slice.sliceAdjust lo hi 1 (n:Int)=(((gp n 0 lo:Nat):Int),((gp n n hi:Nat):Int)):=by
 have h1:¬ ((1:Int)<0):=by omega
 unfold Builtin.Slice.sliceAdjust;simp only[h1,if_false];refine Prod.ext ?_ ?_
 .cases lo with
  | none=>rfl
  | some v=>exact BL v n 0
 .cases hi with
  | none=>rfl
  | some v=>exact BL v n n
theorem zA (i j:Nat):Builtin.Slice.slicePlaces (i:Int) (j:Int) 1=j - i:=by
 unfold Builtin.Slice.slicePlaces;have h1:(1:Int) > 0:=by omega
 simp only[h1,if_true,Int.ediv_one];split<;>omega
theorem rh (p:IsPart v o)(h:Q o s):ay (model prog w) A (Builtin.Slice.slicePartIndex v) Q E s:=by
 cases p with
 | none=>exact slicePart_none h
 | int i t=>exact slicePart_int h
theorem jV {sl:Addr}{vl vu:ae}{lo hi:Option Int}{n:Nat}{Q:Int × Int × Nat->aq->Prop}(hs:s.heap.IsSliceOf sl vl vu .none)(pl:IsPart vl lo)(pu:IsPart vu hi)
  (h:Q (((gp n 0 lo:Nat):Int),1,gp n n hi - gp n 0 lo) s):ay (model prog w) A (Builtin.Slice.sliceApplied (.ref sl) (pure (n:Int))) Q E s:=by
 obtain⟨os,MF,Sh,PR⟩:=id hs;unfold Builtin.Slice.sliceApplied Builtin.Slice.sliceFields;refine aa (aa (wpAny_field MF PR (x:=vl) rfl (aa (wpAny_field MF PR (x:=vu) rfl (aa (wpAny_field MF PR (x:=.none) rfl (ai ?_)))))));refine aa (slicePart_none ?_);show ay _ _ (if ((1:Int) == 0)=true then _ else _) _ _ s;rw[if_neg (!2)];refine aa (rh pl (aa (rh pu (aa (ai ?_)))));show ay _ _ (match Builtin.Slice.sliceAdjust lo hi 1 (n:Int) with | (lo,hi)=>pure (lo,(1:Int),Builtin.Slice.slicePlaces lo hi 1)) _ _ s;rw[zy lo hi n];show ay _ _ (pure (((gp n 0 lo:Nat):Int),(1:Int),Builtin.Slice.slicePlaces ((gp n 0 lo:Nat):Int) ((gp n n hi:Nat):Int) 1)) _ _ s;rw[zA];exact ai h
theorem Fc (xs:Array ae)(i k:Nat):((List.range k).filterMap λ(m:Nat)=>xs[((i:Int)+(m:Int) * 1).toNat]?).toArray=((xs.toList.drop i).take k).toArray:=by
 have e:(λ(m:Nat)=>xs[((i:Int)+(m:Int) * 1).toNat]?)=λm=>xs[i+m]? := by
  funext m;have:((i:Int)+(m:Int) * 1).toNat=i+m:=by omega
  rw[this]
 rw[e];have:=pick_run xs i k;rw[List.filterMap_map] at this;have e2:((λx=>xs[x]?) ∘ λx=>i+x)=λm=>xs[i+m]? := rfl;rw[e2] at this;rw[this]
theorem nR {t sl:Addr}{items:Array ae}{vl vu:ae}{lo hi:Option Int}{Q:ae->aq->Prop}(ht:IsTup s.heap t items)(hs:s.heap.IsSliceOf sl vl vu .none)(pl:IsPart vl lo)(pu:IsPart vu hi)
  (hw:¬ (gp items.size 0 lo=0/\gp items.size items.size hi=items.size))
  (h:Q (.ref s.heap.objs.size) { s with heap:=s.heap.push { cls:=.type "tuple",data:=.seq ((items.toList.drop (gp items.size 0 lo)).take (gp items.size items.size hi - gp items.size 0 lo)).toArray } })
  (hsz:items.size<=ax):ay (model prog w) A (getItem (.ref t) (.ref sl)) Q E s:=by
 have BM:sizeOk (.seq ((items.toList.drop (gp items.size 0 lo)).take (gp items.size items.size hi - gp items.size 0 lo)).toArray):=by
  show ((items.toList.drop (gp items.size 0 lo)).take (gp items.size items.size hi - gp items.size 0 lo)).toArray.size<=ax;rw[aD,bO,cO,aT];omega
 have hj:gp items.size items.size hi<=items.size:=ME _ _ (am _) hi;obtain⟨os,MF,Sh,PR⟩:=id hs;have Tp:s.TypeIs (.ref sl) "slice" := ⟨os,MF,Sh⟩;unfold getItem;try with_reducible refine wpAny_holding ?_
 first | refine aa (ai ?_) | skip
 refine aa (wpAny_sequenceKey ht.typeIs (!2) ?_)
 refine aa (wpAny_callSpecial?_slot (name:=Str.ofString "__getitem__") ht.typeIs PyProof.Rows.slot_tuple_getitem
  (wpAny_call_entry PyProof.Rows.slot_tuple_getitem ht.typeIs entry_tuple_getitem ?_ (args_tuple_getitem _ _)))
 show ay _ _ (Builtin.Tuple.tupleItemsOf (.ref t) >>= _) _ _ s;refine aa (tupleItemsOf_ ht ?_);refine aa (wpAny_typeOf Tp ?_);rw[if_pos (!2)];refine aa (jV hs pl pu ?_)
 have W2:¬ ((((gp items.size 0 lo:Nat):Int) == 0 && (1:Int) == 1 && (gp items.size items.size hi - gp items.size 0 lo) == items.size)=true):=by
  intro q;rw[bA,bA] at q;have q1:((gp items.size 0 lo:Nat):Int)=0:=eq_of_beq q.1.1;have q2:gp items.size items.size hi - gp items.size 0 lo=items.size:=eq_of_beq q.2;exact hw ⟨!1,!1⟩
 show ay _ _ (if (((gp items.size 0 lo:Nat):Int) == 0 && (1:Int) == 1 && (gp items.size items.size hi - gp items.size 0 lo) == items.size)=true then _ else _) _ _ s;rw[if_neg W2,Fc]
 first
  | exact aa (m:=Builtin.Tuple.tupleExact _) (bh (ai ⟨_,rfl,ai h⟩) BM)
  | exact aa (m:=Builtin.Tuple.tupleExact _) (bh (aa (ai (ai ⟨_,rfl,ai h⟩))) BM)
  | exact aa (aa (m:=Builtin.Tuple.tupleExact _) (bh (ai (ai ⟨_,rfl,ai h⟩)) BM))
  | exact aa (aa (m:=Builtin.Tuple.tupleExact _) (bh (ai ⟨_,rfl,ai h⟩) BM))
end
end HT
namespace L2
open PySem PySem.Spec PyProof.Rows
noncomputable abbrev TO:=St->Hp->(Option Int->Hp->Prop)->Prop
noncomputable def PO (X:Cx)(e:Option Expr)(t:TO):Prop :=
 ∀(pins:List (Addr × Obj)) (s:aq) (σ:St) (H:Hp) (Q:Option Int->Hp->Prop),Inv X pins σ H s->t σ H Q ->
  ay (model X.prog X.w) X.A (evalPart e X.env) (λu s'=>∃o H',Inv X pins σ H' s'/\IsPart u o/\Q o H') X.xe s
noncomputable def BN:TO:=λ_ H Q=>Q none H
noncomputable def Kw (t:TE):TO:=λσ H Q=>t σ H λx H1=>∃i,x=.int i/\Q (some i) H1
section
variable {X:Cx}{e:Expr}{te:TE}{lo hi:Option Expr}{tl th:TO}{pos p2:Pos}
theorem IE:PO X none BN:=by
 intro pins s σ H Q I h;rw[evalPart_none];exact ai ⟨none,H,I,.none,h⟩
theorem IF (h:PE X e te):PO X (some e) (Kw te):=by
 intro pins s σ H Q I hw;rw[evalPart_some];refine fN (h pins s σ H _ I hw) λu s1 ⟨x,H1,I1,r1,q1⟩=>?_;obtain⟨i,rfl,q⟩:=q1;obtain⟨t,rfl⟩:=r1;exact⟨some i,H1,I1,.int i t,q⟩
noncomputable def HK (X:Cx)(r:V->Option Int->Option Int->Hp->VK->Prop):Prop :=
 ∀(pins:List (Addr × Obj)) (s:aq) (σ:St) (H:Hp) (x:V) (v vl vu:ae) (lo hi:Option Int) (sl:Addr) (Q:VK),Inv X pins σ H s->RelV x v->s.heap.IsSliceOf sl vl vu .none->IsPart vl lo->IsPart vu hi->r x lo hi H Q ->
  ∃T id,typeLookup (.type T) "__getitem__" = pure (some (.builtin id))/\s.TypeIs v T/\ay (model X.prog X.w) X.A (getItem v (.ref sl)) (EP X pins σ Q) X.xe s
theorem HK.or (h:HK X r)(h':HK X r'):HK X (λx lo hi H Q=>r x lo hi H Q\/r' x lo hi H Q):=by
 intro pins s σ H x v vl vu lo hi sl Q I rx hs pl pu q;rcases q with q | q
 .exact h pins s σ H x v vl vu lo hi sl Q I rx hs pl pu q
 .exact h' pins s σ H x v vl vu lo hi sl Q I rx hs pl pu q
noncomputable def VU (r:V->Option Int->Option Int->Hp->VK->Prop)(te:TE)(tl th:TO):TE:=λσ H Q=>te σ H λx H1=>tl σ H1 λl H2=>th σ H2 λu H3=>r x l u H3 Q
theorem Fd {r:V->Option Int->Option Int->Hp->VK->Prop}(hr:HK X r)(he:PE X e te)(hl:PO X lo tl)(hu:PO X hi th):PE X (.Subscript e (.Slice lo hi none p2) pos) (VU r te tl th):=by
 intro pins s σ H Q I h;refine Subscript_ (fN (he pins s σ H _ I h) λv s1 ⟨x,H1,I1,r1,q1⟩=>?_);refine wpAny_Slice (fN (hl pins s1 σ H1 _ I1 q1) λvl s2 ⟨l,H2,I2,pl,q2⟩=>fN (hu pins s2 σ H2 _ I2 q2) λvu s3 ⟨u,H3,I3,pu,q3⟩=>?_);rw[evalPart_none];refine ai ?_;have I4:Inv X pins σ H3 { s3 with heap:=s3.heap.push { cls:=.type "slice",data:=.fields #[vl,vu,.none] } }:=I3.kept (t':=s3.toks) λb ob q=>ah _ q;obtain⟨T,id,hT,ht,hg⟩:=hr pins { s3 with heap:=s3.heap.push { cls:=.type "slice",data:=.fields #[vl,vu,.none] } } σ H3 x v vl vu l u s3.heap.objs.size Q I4 r1 (Heap.IsSliceOf.new ..) pl pu q3;show ay (model X.prog X.w) X.A (subscriptTail e (.Slice lo hi none p2) v (.ref s3.heap.objs.size)) (EP X pins σ Q) X.xe { s3 with heap:=s3.heap.push { cls:=.type "slice",data:=.fields #[vl,vu,.none] } };exact tail_any (ops:=[.ref s3.heap.objs.size,v]) ht hT hg (by with_unfolding_all rfl)
noncomputable def nS (xs:List V)(lo hi:Option Int):List V:=(xs.drop (HT.gp xs.length 0 lo)).take (HT.gp xs.length xs.length hi - HT.gp xs.length 0 lo)
theorem pT (xs:List V)(lo hi:Option Int):(nS xs lo hi).length<=xs.length:=by
 unfold nS;rw[bO,cO];omega
noncomputable def Tq (K:W.Frag):V->Option Int->Option Int->Hp->VK->Prop:=λx lo hi H Q=>∃a xs,x=.ref a/\iW K H a xs /\
 ¬ (HT.gp xs.length 0 lo=0/\HT.gp xs.length xs.length hi=xs.length)/\∀p,H p=none->Q (.ref p) (eR H p (.tup (nS xs lo hi)))
theorem MG:HK X (Tq X.K):=by
 intro pins s σ H x v vl vu lo hi sl Q I rx hs pl pu h;obtain⟨a,xs,rfl,hx,hw,q⟩:=h;cases rx;obtain⟨its,r,ht,hz⟩:=I.tuple hx;have eX:its.toArray.size=xs.length:=by rw[aD];exact r.length.symm
 refine⟨"tuple",_,PyProof.Rows.slot_tuple_getitem.lookup,ht.typeIs,?_⟩;refine HT.nR ht hs pl pu (by rw[eX];exact hw) ?_ (by rw[eX];exact hz);rw[eX];refine⟨.ref s.heap.objs.size,_,I.laid (t':=s.toks) (o:=.tup (nS xs lo hi)) (λb ob q=>ah _ q) (am _) ?_,rfl,q _ (I.hok.fresh (am _))⟩;exact⟨aU (pT xs lo hi) hz,_,(r.drop (HT.gp xs.length 0 lo)).take (HT.gp xs.length xs.length hi - HT.gp xs.length 0 lo),vx.new _ _⟩
noncomputable def PU (K:W.Frag):R2:=λx y H Q=>∃a b xs ys,x=.ref a/\y=.ref b/\iW K H a xs/\iW K H b ys/\xs≠[]/\xs.length+ys.length<=ax /\
 (ys=[]->Q (.ref a) H)/\(ys≠[]->∀p,H p=none->Q (.ref p) (eR H p (.tup (xs++ys))))
theorem ee.nU (r:ee xs us):us=[]↔xs=[]:=by
 cases r with
 | nil=>simp
 | cons _ _=>simp
theorem IG:jU X (binaryOp .Add) (PU X.K):=by
 intro pins s σ H x y v u Q I rx ry h;obtain⟨a,b,xs,ys,rfl,rfl,ha,hb,hx,hz,q1,q2⟩:=h;cases rx;cases ry;obtain⟨its,r1,p1,_⟩:=I.tuple ha;obtain⟨mH,r2,p2,_⟩:=I.tuple hb;refine HT.IC p1 p2 (λz=>hx (r1.nU.mp z)) (λz=>⟨.ref a,H,I,rfl,q1 (r2.nU.mp z)⟩) (λz=>?_) (by rw[<- r1.length,<- r2.length];exact hz);refine⟨.ref s.heap.objs.size,_,I.laid (t':=s.toks) (o:=.tup (xs++ys)) (λb ob q=>ah _ q) (am _) ?_,rfl,q2 (λw=>z (r2.nU.mpr w)) _ (I.hok.fresh (am _))⟩;exact⟨by rw[aG];exact hz,_,r1.append r2,vx.new _ _⟩
end
noncomputable def Kx (n:Nat)(i:Int):Option Nat:=if 0<=i then (if i<n then some i.toNat else none) else if -(n:Int)<=i then some (i+n).toNat else none
noncomputable def rk {α:Type}(xs:List α)(i:Int):Option α:=(Kx xs.length i).bind λj=>xs[j]?
theorem BO (h:Kx n i=some j):seqIndex? i n=some j/\j<n/\-(n:Int)<=i/\i<n:=by
 unfold Kx at h;by_cases h0:0<=i
 .rw[if_pos h0] at h
  by_cases h1:i<n
  .rw[if_pos h1] at h
   have e:i.toNat=j:=Option.some.inj h;exact⟨by rw[seqIndex_of h0 h1,e],!1,!1,h1⟩
  .rw[if_neg h1] at h;cases h
 .rw[if_neg h0] at h
  by_cases h1:-(n:Int)<=i
  .rw[if_pos h1] at h
   have e:(i+n).toNat=j:=Option.some.inj h;exact⟨by rw[seqIndex_neg (!1) h1,e],!1,h1,!1⟩
  .rw[if_neg h1] at h;cases h
theorem BP {α:Type}{xs:List α}{i:Int}{v:α}(h:rk xs i=some v):∃j,seqIndex? i xs.length=some j/\xs[j]? = some v/\j<xs.length/\-(xs.length:Int)<=i/\i<xs.length:=by
 unfold rk at h
 cases e:Kx xs.length i with
 | none=>rw[e] at h;cases h
 | some j =>
  rw[e] at h;obtain⟨h1,h2,h3,h4⟩:=BO e;exact⟨j,h1,h,h2,h3,h4⟩
noncomputable def vA (b:Expr):Prop:=∀o i,subscripted b false o i=operate [o,i] (getItem o i)
noncomputable def HL (X:Cx)(r:R2):Prop :=
 ∀(value slice:Expr) (pins:List (Addr × Obj)) (s:aq) (σ:St) (H:Hp) (x y:V) (v u:ae) (Q:VK),Inv X pins σ H s->RelV x v->RelV y u->r x y H Q ->
  subscripted slice false v u=operate [v,u] (getItem v u)->ay (model X.prog X.w) X.A (subscriptTail value slice v u) (EP X pins σ Q) X.xe s
noncomputable def Fe (X:Cx)(id:String)(r:V->List V->Hp->VK->Prop):Prop :=
 ∀(pins:List (Addr × Obj)) (s:aq) (σ:St) (H:Hp) (x:V) (xs:List V) (v:ae) (us:List ae) (Q:VK),Inv X pins σ H s->RelV x v->ee xs us->r x xs H Q ->
  ay (model X.prog X.w) X.A (call (.builtin id) (v::us)) (EP X pins σ Q) X.xe s
section
variable {X:Cx}{a b:Expr}{ta tb:TE}{pos:Pos}
theorem HL.or (h:HL X r)(h':HL X r'):HL X (λx y H Q=>r x y H Q\/r' x y H Q):=by
 intro value slice pins s σ H x y v u Q I rx ry q hs;rcases q with q | q
 .exact h value slice pins s σ H x y v u Q I rx ry q hs
 .exact h' value slice pins s σ H x y v u Q I rx ry q hs
theorem Fe.or {id:String}{r r':V->List V->Hp->VK->Prop}(h:Fe X id r)(h':Fe X id r'):Fe X id (λx xs H Q=>r x xs H Q\/r' x xs H Q):=by
 intro pins s σ H x xs v us Q I rx rs q;rcases q with q | q
 .exact h pins s σ H x xs v us Q I rx rs q
 .exact h' pins s σ H x xs v us Q I rx rs q
theorem PV {r:R2}(hr:HL X r)(ha:PE X a ta)(hb:PE X b tb)(hs:vA b):PE X (.Subscript a b pos) (Iu r ta tb):=by
 intro pins s σ H Q I h;exact Subscript_ (Mj ha hb I h λv u s2 x y H2 I2 rx ry q=>hr a b pins s2 σ H2 x y v u Q I2 rx ry q (hs _ _))
noncomputable def PX (K:W.Frag):R2:=λx y H Q=>∃p xs i v,x=.ref p/\y=.int i/\gn K H p xs/\rk xs i=some v/\Q v H
noncomputable def PY (K:W.Frag):R2:=λx y H Q=>∃p xs i v,x=.ref p/\y=.int i/\iW K H p xs/\rk xs i=some v/\Q v H
theorem fX:HL X (PX X.K):=by
 intro value slice pins s σ H x y v u Q I rx ry h hs;obtain⟨p,xs,i,z,rfl,rfl,hq,he,q⟩:=h;cases rx;obtain⟨t,rfl⟩:=ry;obtain⟨its,r,pl,hz⟩:=I.list hq;obtain⟨j,h1,h2,h3,h4,h5⟩:=BP he;obtain⟨w,ew,oY⟩:=r.get h2;have hl:=r.length;have hn:=vz;have fin:EP X pins σ Q w s:=⟨z,H,I,oY,q⟩;by_cases h0:0<=i
 .have hj:i.toNat=j:=by
   rw[seqIndex_of h0 h5] at h1;exact Option.some.inj h1
  exact item_listR pl.isList h0 (!1) (by rw[hj];simpa using ew) fin hs
 .have hj:(i+(its.toArray.size:Int)).toNat=j:=by
   rw[seqIndex_neg (!1) h4] at h1;rw[aD,<- hl];exact Option.some.inj h1
  exact subscriptTail_builtinR (x:=w) pl.isList.typeIs slot_list_getitem.lookup
   (wpAny_getItem_list_neg (Q:=λr s'=>r=w/\EP X pins σ Q r s') pl.isList (!1) (by rw[aD]<;>omega) (!1) (by rw[hj];simpa using ew) ⟨rfl,fin⟩) hs
theorem MH:HL X (PY X.K):=by
 intro value slice pins s σ H x y v u Q I rx ry h hs;obtain⟨p,xs,i,z,rfl,rfl,hq,he,q⟩:=h;cases rx;obtain⟨t,rfl⟩:=ry;obtain⟨its,r,pl,hz⟩:=I.tuple hq;obtain⟨j,h1,h2,h3,h4,h5⟩:=BP he;obtain⟨w,ew,oY⟩:=r.get h2;have hl:=r.length;have hn:=vz;have fin:EP X pins σ Q w s:=⟨z,H,I,oY,q⟩
 exact subscriptTail_builtinR (x:=w) pl.typeIs slot_tuple_getitem.lookup
  (getItem_tuple (j:=j) (Q:=λr s'=>r=w/\EP X pins σ Q r s') pl (!1) (!1) (by rw[aD,<- hl];exact h1) (by simpa using ew) ⟨rfl,fin⟩) hs
theorem zB (its:List ae)(n j:Nat)(u:ae):Obj.mapSeq (·.setIfInBounds j u) { cls:=.type "list",data:=.seq its.toArray n }={ cls:=.type "list",data:=.seq (its.set j u).toArray n }:=by
 simp[Obj.mapSeq]
theorem Inv.lst (I:Inv X pins σ H s)(h:H p=some (.lst xs)) :
  ∃(its:List ae) (n:Nat),ee xs its/\s.heap.get? p=some { cls:=.type "list",data:=.seq its.toArray n }/\xs.length<=ax:=by
 obtain⟨z,its,n,r,e⟩:=I.hok p _ h;exact⟨its,n,r,e,z⟩
theorem Inv.MI {pins:List (Addr × Obj)}{σ:St}{H:Hp}{s:aq}{p:Addr}{xs ys:List V}{its its':List ae}{n n':Nat}{f:Obj->Obj}(I:Inv X pins σ H s)(h:H p=some (.lst xs))
  (ho:s.heap.get? p=some { cls:=.type "list",data:=.seq its.toArray n }) (hf:f { cls:=.type "list",data:=.seq its.toArray n }={ cls:=.type "list",data:=.seq its'.toArray n' }) (r:ee ys its') (hz:ys.length<=ax) (t:Nat) :
  Inv X pins σ (eR H p (.lst ys)) { s with heap:=s.heap.update p f,toks:=t }:=by
 have e:(s.heap.update p f).get? p=some { cls:=.type "list",data:=.seq its'.toArray n' }:=by
  rw[aS f ho (by rw[hf]<;>rfl),hf]
 refine I.write (x:=p) (e:=p) (by rw[h];trivial) (.inl rfl) (λb u hb q=>(aI _ _ (Ne.symm hb)).trans q) ⟨_,e⟩ ?_;exact⟨hz,its',n',r,e⟩
noncomputable def PZ:V->V->V->Hp->(Hp->Prop)->Prop:=λo i v H Q=>∃p xs k j,o=.ref p/\i=.int k/\H p=some (.lst xs)/\Kx xs.length k=some j/\Q (eR H p (.lst (xs.set j v)))
theorem nV:L8 X PZ:=by
 intro pins s σ H o i v ov iv u Q I ro ri rv h;obtain⟨p,xs,k,j,rfl,rfl,hp,hj,q⟩:=h;cases ro;obtain⟨t,rfl⟩:=ri;obtain⟨its,n,r,ho,hz⟩:=I.lst hp;obtain⟨h1,h2,h3,h4⟩:=BO hj;have hl:=r.length;have hn:=vz
 have I':Inv X pins σ (eR H p (.lst (xs.set j v))) { s with heap:=s.heap.update p (Obj.mapSeq (·.setIfInBounds j u)) } :=
  I.MI hp ho (zB its n j u) (r.set rv j) (by rw[a7];exact hz) s.toks
 by_cases h0:0<=k
 .have hk:k.toNat=j:=by
   rw[seqIndex_of h0 h4] at h1;exact Option.some.inj h1
  exact W.ki_setAt ho h0 (!1) (by rw[aD,<- hl];exact h4) (by rw[hk];exact⟨_,I',q⟩)
 .have hk:(k+(its.toArray.size:Int)).toNat=j:=by
   rw[seqIndex_neg (!1) h3] at h1;rw[aD,<- hl];exact Option.some.inj h1
  exact W.ki_setBack ho (!1) (by rw[aD,<- hl];exact h3) (!1) (by rw[hk];exact⟨_,I',q⟩)
theorem vB (lo hi:Option Int)(n:Nat):(sliceBounds lo hi none n).1=((HT.gp n 0 lo:Nat):Int)/\(sliceBounds lo hi none n).2.1=((HT.gp n n hi:Nat):Int)/\(sliceBounds lo hi none n).2.2=1:=by
 refine⟨?_,?_,rfl⟩
 .cases lo with
  | none=>simp[sliceBounds,HT.gp]
  | some i =>
   simp only[sliceBounds,HT.gp,Option.getD_none,show (1:Int) > 0 by decide,if_true];by_cases h:i<0
   .simp only[h,if_true]<;>omega
   .simp only[h,if_false]<;>omega
 .cases hi with
  | none=>simp[sliceBounds,HT.gp]
  | some i =>
   simp only[sliceBounds,HT.gp,Option.getD_none,show (1:Int) > 0 by decide,if_true];by_cases h:i<0
   .simp only[h,if_true]<;>omega
   .simp only[h,if_false]<;>omega
theorem tD (its:List ae)(lo hi:Option Int):slicePick its.toArray lo hi none=((its.drop (HT.gp its.length 0 lo)).take (HT.gp its.length its.length hi - HT.gp its.length 0 lo)).toArray:=by
 obtain⟨h1,h2,h3⟩:=vB lo hi its.toArray.size;unfold slicePick;rw[h1,h2,h3];simp only[sliceRange_one,pick_run,aD]<;>rfl
noncomputable def P0 (K:W.Frag):V->Option Int->Option Int->Hp->VK->Prop:=λx lo hi H Q=>∃a xs,x=.ref a/\gn K H a xs/\∀p,H p=none->Q (.ref p) (eR H p (.lst (nS xs lo hi)))
theorem IH:HK X (P0 X.K):=by
 intro pins s σ H x v vl vu lo hi sl Q I rx hs pl pu h;obtain⟨a,xs,rfl,hx,q⟩:=h;cases rx;obtain⟨its,r,ht,hz⟩:=I.list hx;have eX:=r.length;refine⟨"list",_,slot_list_getitem.lookup,ht.isList.typeIs,?_⟩;refine wpAny_getItem_list_slice ht.isList hs pl pu .none (!4) ?_ (by rw[aD]<;>omega);rw[tD,<- eX];refine⟨.ref s.heap.objs.size,_,I.laid (t':=s.toks) (o:=.lst (nS xs lo hi)) (λb ob q=>ah _ q) (am _) ?_,rfl,q _ (I.hok.fresh (am _))⟩;exact⟨aU (pT xs lo hi) hz,_,0,(r.drop (HT.gp xs.length 0 lo)).take (HT.gp xs.length xs.length hi - HT.gp xs.length 0 lo),aH _ rfl⟩
theorem kz:gj X (.builtin "len") (λxs H Q=>∃p ys,xs=[.ref p]/\(gn X.K H p ys\/iW X.K H p ys)/\Q (.int ys.length) H):=by
 intro pins s σ H xs us Q I r h;obtain⟨p,ys,rfl,hq,q⟩:=h;obtain⟨u,rfl,rx⟩:=vals1 r;cases rx;have hn:=vz;rcases hq with hq | hq
 .obtain⟨its,r',pl,hz⟩:=I.list hq
  have eX:=r'.length;exact Calls.call_len_list pl.isList (by simp only[aD]<;>omega) ⟨.int ys.length,H,I.tok _,⟨s.toks+1,by rw[aD,eX]⟩,q⟩
 .obtain⟨its,r',pl,hz⟩:=I.tuple hq
  have eX:=r'.length;exact len_tuple pl (by simp only[aD]<;>omega) ⟨.int ys.length,H,I.tok _,⟨s.toks+1,by rw[aD,eX]⟩,q⟩
theorem tE:gj X (.type "tuple") (λxs H Q=>∃p ys,xs=[.ref p]/\((gn X.K H p ys/\∀l,H l=none->Q (.ref l) (eR H l (.tup ys)))\/(iW X.K H p ys/\Q (.ref p) H))):=by
 intro pins s σ H xs us Q I r h;obtain⟨p,ys,rfl,h⟩:=h;obtain⟨u,rfl,rx⟩:=vals1 r;cases rx;rcases h with⟨hq,q⟩ | ⟨hq,q⟩
 .obtain⟨its,r',pl,hz⟩:=I.list hq
  have eX:=r'.length;refine call_tuple_list pl.isList (λh' kp=>?_) (by simp only[aD]<;>omega);have I1:Inv X pins σ H { s with heap:=h' }:=I.kept (t':=s.toks) kp
  have I2:Inv X pins σ (eR H h'.objs.size (.tup ys)) { s with heap:=h'.push { cls:=.type "tuple",data:=.seq its.toArray } } :=
   I1.laid (t':=s.toks) (λb o e=>ah _ e) (am _) (show fu X.prog X.w _ _ _ (.tup ys) from ⟨hz,its,r',vx.new _ _⟩)
  exact⟨.ref h'.objs.size,_,I2,rfl,q _ (I1.hok.fresh (am _))⟩
 .obtain⟨its,r',pl,hz⟩:=I.tuple hq
  exact call_tuple_same pl ⟨.ref p,H,I,rfl,q⟩
noncomputable def Tr (K:W.Frag)(T:String)(x:V)(H:Hp):Prop:=match x with
 | .str _=>T = "str"
 | .int _=>T = "int"
 | .ref p=>(T = "list" /\ ∃xs,gn K H p xs)\/(T = "tuple" /\ ∃o,K.lookup p=some o/\o.cls=.type "tuple" /\ o.dict=none) \/
   (T = "dict" /\ ((∃kvs,H p=some (.dK kvs))\/∃kvs,H p=some (.dT kvs)))\/(T = "set" /\ ∃S n,H p=some (.set S n))
 | _=>False
theorem Ff (I:Inv X pins σ H s)(r:RelV x v)(ty:Tr X.K T x H) :
  s.TypeIs v T/\∀a,v=.ref a->∃ob,s.heap.get? a=some ob/\ob.dict=none:=by
 cases x with
 | str z =>
  obtain⟨t,rfl⟩:=r;cases (show T = "str" from ty);exact⟨typeIs_str s z t,λ_ e=>nomatch e⟩
 | int i =>
  obtain⟨t,rfl⟩:=r;cases (show T = "int" from ty);exact⟨typeIs_int s i t,λ_ e=>nomatch e⟩
 | ref p =>
  cases r;rcases ty with⟨rfl,xs,hq⟩ | ⟨rfl,o,hk,hc,hd⟩ | ⟨rfl,hk⟩ | ⟨rfl,S,n,hk⟩
  .obtain⟨its,_,pl,_⟩:=I.list hq
   refine⟨pl.isList.typeIs,λa e=>?_⟩;cases e;obtain⟨o,n,e,c,hd,_⟩:=pl;exact⟨o,e,hd⟩
  .refine⟨⟨o,I.mT p o hk,hc⟩,λa e=>?_⟩
   cases e;exact⟨o,I.mT _ o hk,hd⟩
  .have z:∃o,s.heap.get? p=some o/\o.ExactDict:=by
    rcases hk with⟨kvs,hk⟩ | ⟨kvs,hk⟩
    .obtain⟨_,_,_,_,o,_,_,e,ex,_⟩:=I.hok p _ hk
     exact⟨o,e,ex⟩
    .obtain⟨_,_,_,_,o,_,_,e,ex,_⟩:=I.hok p _ hk
     exact⟨o,e,ex⟩
   obtain⟨o,e,ex⟩:=z;refine⟨⟨o,e,ex.1⟩,λa e2=>?_⟩;cases e2;exact⟨o,e,ex.2.1⟩
  .obtain⟨o,_,_,_,e,ex,_⟩:=I.hok p _ hk
   refine⟨⟨o,e,ex.1⟩,λa e2=>?_⟩;cases e2;exact⟨o,e,ex.2.1⟩
 | _=>exact False.elim ty
noncomputable def P1 (K:W.Frag)(T:String)(r:V->List V->Hp->VK->Prop)(to:TE):TE:=λσ H Q=>to σ H λx H1=>Tr K T x H1/\r x [] H1 Q
noncomputable def Ts (K:W.Frag)(T:String)(r:V->List V->Hp->VK->Prop)(to:TE)(t:TA):TE:=λσ H Q=>to σ H λx H1=>Tr K T x H1/\t σ H1 λxs H2=>r x xs H2 Q
variable {o e:Expr}{es:List Expr}{to:TE}{t:TA}{name:Str}{gk fJ:Pos}{T id:String}{r:V->List V->Hp->VK->Prop}
theorem MJ (pa:PlainAttrs T)(slot:Slot T name id)(Fg:typeOf (.builtin id)=pure (.type "method_descriptor"))(hm:Fe X id r)(ho:PE X o to)
  (jW:attributeBase o name X.env (eval o X.env)=eval o X.env:=by rfl) (jX:(gk.endLine == fJ.line)=true:=by rfl):PE X (.Call (.Attribute o name gk) [] [] fJ) (P1 X.K T r to):=by
 intro pins s σ H Q I h;refine wpAny_Call_method0_late jW jX (fN (ho pins s σ H _ I h) λv s1 ⟨x,H1,I1,r1,ty,q1⟩=>?_);obtain⟨h1,h2⟩:=Ff I1 r1 ty;exact⟨T,id,pa,slot,Fg,h1,h2,Calls.callWith_builtin rfl (PySem.evalArgs_none (hm pins s1 σ H1 x [] v [] Q I1 r1 .nil q1))⟩
theorem P4 (pa:PlainAttrs T)(slot:Slot T name id)(Fg:typeOf (.builtin id)=pure (.type "method_descriptor"))(hm:Fe X id r)(ho:PE X o to)(ha:PA X (e::es) t)
  (jW:attributeBase o name X.env (eval o X.env)=eval o X.env:=by rfl)
  (II:((backTo fJ (starEach (e::es) X.env)).all (λx=>!x.1) && (backToKw fJ (keywordEach [] X.env)).all (λx=>x.1.isSome)
   && decide ((e::es).length+([]:List Keyword).length+(if ([]:List Keyword).isEmpty then 0 else 1)<30))=true:=by rfl)
  (jX:(gk.endLine == fJ.line)=true:=by rfl) (hs:starEach (e::es) X.env=(false,eval e X.env)::starEach es X.env:=by rfl) (MK:(backTo fJ (starEach es X.env)).any (·.1)=false:=by rfl) :
  PE X (.Call (.Attribute o name gk) (e::es) [] fJ) (Ts X.K T r to t):=by
 intro pins s σ H Q I h;refine wpAny_Call_method_late jW II jX rfl (fN (ho pins s σ H _ I h) λv s1 ⟨x,H1,I1,r1,ty,q1⟩=>?_);obtain⟨h1,h2⟩:=Ff I1 r1 ty;refine⟨T,id,pa,slot,Fg,h1,h2,?_⟩;have hA:=ha fJ pins s1 σ H1 _ I1 q1;rw[hs] at hA ⊢;refine Calls.callWith_builtin (by show (false || (backTo fJ (starEach es X.env)).any (·.1))=false;rw[MK]<;>rfl) (Calls.evalArgs_plain ?_);exact fN hA λus s2 ⟨vs,H2,I2,r2,q2⟩=>hm pins s2 σ H2 x vs v us Q I2 r1 r2 q2
end
noncomputable def P5 (X:Cx)(id:String)(r:V->List V->Hp->VK->Prop):Prop :=
 ∀(pins:List (Addr × Obj)) (s:aq) (σ:St) (H:Hp) (x:V) (xs:List V) (v:ae) (us:List ae) (Q:VK),Inv X pins σ H s->RelV x v->ee xs us->r x xs H Q ->
  ay (model X.prog X.w) X.A (call (.builtin id) (v::us)) (EP X pins σ Q) X.xe s
theorem ee.one (h:ee [x] us):∃u,us=[u]/\RelV x u:=by
 cases h with
 | cons r t =>
  cases t;exact⟨_,rfl,r⟩
theorem ee.two (h:ee [x,y] us):∃u v,us=[u,v]/\RelV x u/\RelV y v:=by
 cases h with
 | cons r t =>
  obtain⟨v,rfl,q⟩:=ee.one t;exact⟨_,v,rfl,r,q⟩
theorem ee.zero:∀{us:List ae},ee [] us->us=[]
 | _,.nil=>rfl
theorem ee.reverse (h:ee xs us):ee xs.reverse us.reverse:=by
 induction h with
 | nil=>exact .nil
 | cons r t ih=>rw[di,di];exact ee.append ih (.cons r .nil)
theorem ee.rep (h:ee xs us):∀k:Nat,ee (List.replicate k xs).flatten (List.replicate k us).flatten
 | 0=>.nil
 | k+1=>by
  rw[aX,aX,cL,cL];exact ee.append h (ee.rep h k)
theorem foldl_rep (its:List ae):∀(k:Nat) (acc:List ae),
  dz (λx1 x2=>x1++x2) acc.toArray (List.replicate k its.toArray)=(acc++(List.replicate k its).flatten).toArray
 | 0,acc=>by simp
 | k+1,acc=>by
  have e:acc.toArray++its.toArray=(acc++its).toArray:=by simp
  have e2:(acc++its)++(List.replicate k its).flatten=acc++(List.replicate (k+1) its).flatten:=by
   rw[aX,cL,aF]
  rw[<- e2,<- foldl_rep its k (acc++its),<- e,aX,cq]
section
theorem Inv.Fh {its its':List ae}{n:Nat}{f:Array ae->Array ae}{t':Nat}(I:Inv X pins σ H s)(hH:H l=some (.lst xs))
  (e:s.heap.get? l=some { cls:=.type "list",data:=.seq its.toArray n }) (hf:f its.toArray=its'.toArray) (hv:ee ys its') (hz:ys.length<=ax) :
  Inv X pins σ (eR H l (.lst ys)) { s with heap:=s.heap.update l (Obj.mapSeq f),toks:=t' }:=by
 have q:=PySem.IsL.update e f;rw[hf] at q;refine I.write (x:=l) (e:=l) (by rw[hH];exact trivial) (.inl rfl) (λb' u hb hu=>(aI s.heap (Obj.mapSeq f) (Ne.symm hb)).trans hu) ⟨_,q⟩ ?_;exact⟨hz,its',_,hv,q⟩
theorem Inv.P6 (I:Inv X pins σ H s)(hv:ee ys its)(hz:ys.length<=ax) :
  Inv X pins σ (eR H s.heap.objs.size (.lst ys)) { s with heap:=s.heap.push { cls:=.type "list",data:=.seq its.toArray },toks:=t' } :=
 I.laid (λ_ _ q=>ah _ q) (am _) ⟨hz,its,0,hv,aH _ rfl⟩
theorem Inv.fresh (I:Inv X pins σ H s):H s.heap.objs.size=none:=I.hok.fresh (am _)
theorem Inv.vC (I:Inv X pins σ H s)(hH:H l=some (.lst xs)):xs.length<=ax/\∃(its:List ae) (n:Nat),ee xs its/\xs.length=its.length/\s.heap.get? l=some { cls:=.type "list",data:=.seq its.toArray n }:=by
 obtain⟨z,its,n,r,e⟩:=I.hok l _ hH;exact⟨z,its,n,r,r.length,e⟩
theorem rl (h:n<=ax):Builtin.List.listTooLong n=false:=by
 unfold Builtin.List.listTooLong;exact decide_eq_false (!1)
end
section
variable {X:Cx}
noncomputable def IJ:V->List V->Hp->VK->Prop:=λx vs H Q=>∃l xs y,x=.ref l/\vs=[y]/\H l=some (.lst xs)/\xs.length<ax/\Q .gB (eR H l (.lst (xs++[y])))
theorem Ds:P5 X "list.append" IJ:=by
 intro pins s σ H x vs v us Q I rx rv h;obtain⟨l,xs,y,rfl,rfl,hH,hz,q⟩:=h;cases rx;obtain⟨u,rfl,ru⟩:=rv.one;obtain⟨z,its,n,r,hl,e⟩:=I.vC hH;refine call_meets F.slot_list_append ⟨_,e,rfl⟩ F.entry_list_append (F.args_list_append_2 _ _) (PySem.list_append l its.toArray n u (by rw[aD];omega)) ⟨e,?_⟩;refine⟨.gB,_,I.Fh (its':=its++[u]) hH e (!4) (r.append (.cons ru .nil)) ?_,rfl,q⟩;rw[aG,bo];omega
noncomputable def IK:V->List V->Hp->VK->Prop:=λx vs H Q=>∃l b xs zs,x=.ref l/\vs=[.ref b]/\H l=some (.lst xs)/\H b=some (.lst zs)/\xs.length+zs.length<=ax/\Q .gB (eR H l (.lst (xs++zs)))
theorem Dt:P5 X "list.extend" IK:=by
 intro pins s σ H x vs v us Q I rx rv h;obtain⟨l,b,xs,zs,rfl,rfl,hH,hB,hz,q⟩:=h;cases rx;obtain⟨u,rfl,ru⟩:=rv.one;cases ru;obtain⟨z,its,n,r,hl,e⟩:=I.vC hH;obtain⟨z2,mH,n2,r2,BQ,e2⟩:=I.vC hB;have hsz:its.toArray.size+mH.toArray.size<=ax:=by rw[aD,aD];omega
 have xj:¬ (!its.toArray.isEmpty && Builtin.List.listTooLong (its.toArray.size+mH.toArray.size))=true:=by
  rw[rl hsz,Bool.and_false];exact aZ
 refine call_meets F.slot_list_extend ⟨_,e,rfl⟩ F.entry_list_extend (F.args_list_extend_2 _ _)
  (AutoSeq1.list_extend_list_list_0 l its.toArray n b mH.toArray n2 xj (by rw[aD];omega) (!1)) ⟨e,e2,?_⟩
 refine⟨.gB,_,I.Fh (its':=its++mH) hH e (!4) (r.append r2) ?_,rfl,q⟩;rw[aG];omega
noncomputable def Fi:V->List V->Hp->VK->Prop:=λx vs H Q=>∃l xs,x=.ref l/\vs=[]/\H l=some (.lst xs)/\Q .gB (eR H l (.lst xs.reverse))
theorem zC:P5 X "list.reverse" Fi:=by
 intro pins s σ H x vs v us Q I rx rv h;obtain⟨l,xs,rfl,rfl,hH,q⟩:=h;cases rx;have ML:=rv.zero;subst ML;obtain⟨z,its,n,r,hl,e⟩:=I.vC hH;refine call_meets F.slot_list_reverse ⟨_,e,rfl⟩ F.entry_list_reverse (F.args_list_reverse_1 _) (AutoSeq1.list_reverse_list_0 l its.toArray n (by rw[aD];omega)) ⟨e,?_⟩;refine⟨.gB,_,I.Fh (its':=its.reverse) hH e (!4) r.reverse ?_,rfl,q⟩;rw[List.length_reverse];omega
noncomputable def Tt:R2:=λx y H Q=>∃l b xs zs,x=.ref l/\y=.ref b/\H l=some (.lst xs)/\H b=some (.lst zs)/\xs.length+zs.length<=ax/\∀p,H p=none->Q (.ref p) (eR H p (.lst (xs++zs)))
theorem MM:jU X (binaryOp .Add) Tt:=by
 intro pins s σ H x y v u Q I rx ry h;obtain⟨l,b,xs,zs,rfl,rfl,hH,hB,hz,q⟩:=h;cases rx;cases ry;obtain⟨z,its,n,r,hl,e⟩:=I.vC hH;obtain⟨z2,mH,n2,r2,BQ,e2⟩:=I.vC hB;refine PySem.P.add_list e e2 ?_ (by rw[aD,aD];omega);have ea:its.toArray++mH.toArray=(its++mH).toArray:=by simp
 rw[ea];exact⟨.ref _,_,I.P6 (t':=s.toks) (r.append r2) (by rw[aG];omega),rfl,q _ I.fresh⟩
noncomputable def Tu:R2:=λx y H Q=>∃l k xs,x=.ref l/\y=.int k/\H l=some (.lst xs)/\-(2 ^ 63)<=k/\k<2 ^ 63/\xs.length * k.toNat<=ax /\
 ∀p,H p=none->Q (.ref p) (eR H p (.lst (List.replicate k.toNat xs).flatten))
theorem BR {α:Type}(xs:List α)(k:Nat):(List.replicate k xs).flatten.length=k * xs.length:=by
 induction k with
 | zero=>simp
 | succ k ih=>rw[aX,cL,aG,ih,Nat.succ_mul,Nat.add_comm]
theorem MN:jU X (binaryOp .Mult) Tu:=by
 intro pins s σ H x y v u Q I rx ry h;obtain⟨l,k,xs,rfl,rfl,hH,h1,h2,hz,q⟩:=h;cases rx;obtain⟨t,rfl⟩:=ry;obtain⟨z,its,n,r,hl,e⟩:=I.vC hH;have eX:its.toArray.size * k.toNat<=ax:=by rw[aD,<- hl];exact hz
 have Tv:¬ its.toArray.size * k.toNat > (2 ^ 63 - 1) / 8:=by
  have:(ax:Nat)<=(2 ^ 63 - 1) / 8:=by decide
  omega
 have Tw:¬ (!Builtin.List.listFitsIndex k)=true:=by
  rw[fitsIndex_both h1 h2];exact aZ
 have xj:¬ Builtin.List.listTooLong (its.toArray.size * k.toNat)=true:=by
  rw[rl eX];exact aZ
 have xk:dz (λx1 x2=>x1++x2) #[] (List.replicate (if its.toArray.isEmpty=true then 0 else k.toNat) its.toArray)=(List.replicate k.toNat its).flatten.toArray:=by
  have f0:∀m:Nat,dz (λx1 x2=>x1++x2) #[] (List.replicate m its.toArray)=(List.replicate m its).flatten.toArray:=λm=>by
   have:=foldl_rep its m [];rw[aQ] at this;exact this
  rw[f0]
  cases its with
  | nil=>simp
  | cons a r'=>rw[if_neg (!4)]
 refine wpAny_binaryOp_repeat_ref (T := "list") (U := "int") (!2) ⟨_,e,rfl⟩ (λs'=>typeIs_int s' k t) noFill_list_mul F.fills_int_mul F.slot_int_rmul repeat_list F.slot_int_index.lookup
  (call_meets F.slot_int_rmul (typeIs_int s k t) F.entry_int_rmul (F.args_int_rmul_2 _ _) (int___rmul___int_list k t l its.toArray n)
   ⟨e,rfl,⟨_,e,rfl⟩,call_meets F.slot_list_mul ⟨_,e,rfl⟩ F.entry_list_mul (F.args_list_mul_2 _ _) (AutoListH.list___mul___list_int_3 l its.toArray n k t Tw Tv xj) ⟨e,?_⟩⟩)
 rw[xk];exact⟨.ref _,_,I.P6 (t':=s.toks) (r.rep k.toNat) (by rw[BR,Nat.mul_comm];exact hz),rfl,q _ I.fresh⟩
end
end L2
namespace Att
open PySem PySem.W PySem.Calls PyProof.Rows
theorem qk:∀(ns:List Int) (vs:List ae),WellAll P h vs (ns.map WData.int)->IntsAre vs ns:=by
 intro ns
 induction ns with
 | nil =>
  intro vs w;rw[bq] at w;cases w;exact .nil
 | cons n ns ih =>
  intro vs w;rw[ak] at w
  cases w with
  | cons a b =>
   cases a;exact .cons _ _ (ih _ b)
theorem Du {l:OpenLaw}{n:Nat}(hn:l.most=some n){P:Params}{h:Heap}{args:List WData}{MO:List ae}
  (Dv:l.row.toRowW.claim.pre args=true) (OI:WellAll P h MO args) :
  ∃a vs ns,MO=[ae.ref a]/\args=[WData.list (ns.map WData.int)]/\h.get? a=some { cls:=.type "list",data:=.seq vs.toArray }/\IntsAre vs ns/\ns.length<=n:=by
 have Tx:WShape.hasAll [] args [.list .int]=true:=(pre_splitW Dv).1;have hc:l.pre.holds [] { args:=args }=true:=(pre_splitW Dv).2;obtain⟨d,r,rfl,h1,h2⟩:=hasAllW_cons Tx;obtain rfl:=hasAllW_nil h2;obtain⟨xs,rfl,h3⟩:=hasW_list h1;obtain⟨ns,rfl⟩:=items_int h3
 have eX:ns.length<=n:=by
  unfold OpenLaw.pre at hc
  have h4:(WTm.not (.lt (.lit (.int (n:Int))) (.len (.arg 0)))).holds [] { args:=[.list (ns.map .int)] }=true:=by
   have h4:=(holds_andW hc).1;rw[hn] at h4;exact h4
  have h5:=condW_of h4 (w_not (w_lt w_lit (w_len_list (w_arg rfl))));rw[aj] at h5;refine Nat.le_of_not_lt λq=>?_;have q':(n:Int)<((ns.length:Nat):Int):=by omega
  first
   | (rw[decide_eq_true q'] at h5;exact absurd h5 (!2))
   | (simp at h5;omega)
 cases OI with
 | cons w1 w2 =>
  cases w2
  cases w1 with
  | list ho Fj=>exact⟨_,_,ns,rfl,rfl,ho,qk ns _ Fj,eX⟩
theorem Dw (l:OpenLaw)(args:List WData):l.row.toRowW.claim.post args (.bool true) args=true :=
 postW_of (r:=l.row.toRowW) (X:=(true == true))
  (show WShape.has [] (.bool true) .bool=true by first | rfl | decide | simp[WShape.has,WShape.arms,WShape.armsAll])
  (show (WTm.eq .res (.lit (.bool true))).value [] { args:=args,res:=some (.bool true),after:=args }=some (.bool (true == true)) from w_eq_bool (w_res rfl) w_lit) rfl
theorem xl {l:OpenLaw}{n:Nat}{q:aO}{loose:List Str}{XP:(Str->Option ae)->Heap->Prop}{YP:World->Heap->Prop}{d:DefRec}
  (hn:l.most=some n) (MP:d.params.defaults=[])
  (call:∀(w:World) (s₀ s₁:aq) (mg mb:Str->Option ae) (fa:Addr) (o:Obj) (pm cd rf:ae) (a:Addr) (vs:List ae) (ns:List Int),
   Ground q loose [] XP w s₀ mg mb s₁.heap->YP w s₁.heap ->
   s₁.heap.get? fa=some o->o.data=.func (docDef d.name d.params d.body d.scope pm cd rf)->s₁.heap.CodeRec cd d.name->mg d.name=some (.ref fa) ->
   s₁.heap.get? a=some { cls:=.type "list",data:=.seq vs.toArray }->IntsAre vs ns->ns.length<=n->s₁.gens=#[] ->
   codeAny (model l.prog w) callerA (.call (.ref fa) ⟨[.ref a],[]⟩) (λr s'=>r=.ok (.ret (.bool true))/\OldK s₁.heap s'.heap/\s'.os=s₁.os/\AllBare s'.gens) s₁) :
  WalkO q loose XP YP l.row.toRowW d [] (λf vs=>PySem.call f vs):=by
 intro w s₀ s₁ mg mb G Y fa o pm cd rf dV kV ho hd gP hD P7 hg args MO as Dv W3 ZU OI P8;obtain rfl:dV=.none:=Dflts.none hD MP;obtain rfl:kV=.none:=Dflts.noKw hD;obtain⟨a,vs,ns,rfl,rfl,MQ,Fl,eX⟩:=Du hn Dv OI;refine enter_call (codeAny_mono (call w s₀ s₁ mg mb fa o pm cd rf a vs ns G Y ho (fd_plain hd) gP P7 MQ Fl eX hg) λr s' hq=>?_);obtain⟨rfl,h2,h3,h4⟩:=hq;exact⟨.inl ⟨.bool true,.bool true,[],rfl,λ_=>rfl,.bool true,Dw l _,λ_=>⟨List.Pairwise.nil,λ_ hm=>(nomatch hm)⟩⟩,h2,h3,h4⟩
end Att
namespace L2
open PySem PySem.Spec PyProof.Rows
theorem uo:∀{vs:List ae} {ns:List Int},IntsAre vs ns->ee (ns.map V.int) vs
 | _,_,.nil=>.nil
 | _,_,.cons n t h=>.cons ⟨t,rfl⟩ (uo h)
noncomputable def MR (H:Hp):Prop:=∀b,H b=none\/∃o xs,H b=some (.qS o (.lst xs))
theorem Fm {P:aO}{w:World}{K:W.Frag}{mg mb:Str->Option ae}{CX:EJ}{k:Nat}{fa a:Addr}{fd:bF}{x:Str}{sp:Sp}{s₁:aq}{vs:List ae}{ns:List Int}
  (KX:K.In s₁.heap) (VV:s₁.heap.Ns aR mg) (hb:s₁.heap.Ns builtinsNs mb) (W4:∀x:Str,x ≠ "__name__" -> mb x=bootBuiltins x) (Tz:s₁.heap.NoLimit) (hg:s₁.gens=#[])
  (ha:s₁.heap.get? a=some { cls:=.type "list",data:=.seq vs.toArray }) (hi:IntsAre vs ns) (hl:ns.length<=ax) (hr:fm k callerA)
  (F:∀base:Heap,K.In base->base.Ns aR mg->iP P w K mg base CX k fa fd [x] sp) (P9:∀(s:aq) (u:ae),BindsTo s fd ⟨[u],[]⟩ [(x,u)])
  (zx:∀H:Hp,MR H->gn K H a (ns.map V.int)->sp [.ref a] H (λv _=>v=.bl true) λ_ _ _=>False)
  (TB:∀H e s',CX [] H s₁ (λ_ _ _=>False) e s'->False) :
  codeAny (model P w) callerA (.call (.ref fa) ⟨[.ref a],[]⟩) (λr s'=>r=.ok (.ret (.bool true))/\OldK s₁.heap s'.heap/\s'.os=s₁.os/\AllBare s'.gens) s₁:=by
 have rv:=uo hi;have TF:=hi.length
 have P':∀H:Hp,MR H->gn K H a (ns.map V.int)->jT P w H s₁.heap->(∀b,H b≠none->b=a)->(H a≠none->K.lookup a=none) ->
   codeAny (model P w) callerA (.call (.ref fa) ⟨[.ref a],[]⟩) (λr s'=>r=.ok (.ret (.bool true))/\OldK s₁.heap s'.heap/\s'.os=s₁.os/\AllBare s'.gens) s₁:=by
  intro H hO hS hok hA hK;have BS:∀{b:Addr} {o:Obj},s₁.heap.get? b=some o->H b=none->(vy s₁.heap H).get? b=some o:=λe n=>ES e n
  have PM:∀{b:Addr} {o:Obj} {es:Array DictEntry} {ep:Nat},s₁.heap.get? b=some o->o.data=.dict es ep->H b=none:=λ{b o es ep} e d=>by
   cases q:H b with
   | none=>rfl
   | some u =>
    have e':b=a:=hA b (by rw[q];simp);subst e';rw[ha] at e;cases e;have d':Data.seq vs.toArray _=Data.dict es ep:=d;cases d'
  have Si:∀{b:Addr} {m:Str->Option ae},s₁.heap.Ns b m->(vy s₁.heap H).Ns b m:=λ{b m} ⟨o,es,ep,e,d,r⟩=>⟨o,es,ep,BS e (PM e d),d,r⟩
  have VW:K.In (vy s₁.heap H):=λb o e=>BS (KX b o e) (by
   cases q:H b with
   | none=>rfl
   | some u =>
    have e':b=a:=hA b (by rw[q];simp);subst e';rw[hK (by rw[q];simp)] at e;cases e)
  have hM:Mod K mg (vy s₁.heap H):=⟨VW,Si VV,⟨mb,Si hb,W4⟩,let ⟨mc,h1,h2⟩:=Tz;⟨mc,Si h1,h2⟩⟩;have e0:zu P w K mg (vy s₁.heap H) callerA [] s₁ H:=⟨rfl,hM,λb o e=>Ia e,dA (C' _ _),trivial,λb hb=>absurd (show b∈([]:List Addr) from hb) (!4),hok,.of_eq hg⟩;refine codeAny_mono ((F _ VW (Si VV)).run callerA [] s₁ H ⟨[.ref a],[]⟩ [.ref a] [.ref a] _ _ hr e0 (P9 s₁ (.ref a)) (.cons rfl .nil) (zx H hO hS)) λr s' h=>?_
  cases r with
  | error e=>exact (TB H e s' h).elim
  | ok fl =>
   cases fl with
   | next=>exact False.elim h
   | brk=>exact False.elim h
   | cont=>exact False.elim h
   | ret u =>
    obtain⟨v,H',os,bare,un,TH,r',q⟩:=h;have q':v=.bl true:=q;subst q';obtain rfl:u=ae.bool true:=r';refine⟨rfl,OldK.of_keep λb o e=>?_,os,bare⟩
    cases q:H b with
    | none=>exact un.keep b o e q (by intro z;exact absurd (show b∈([]:List Addr) from z) (!4)) (!4)
    | some u =>
     rcases hO b with z | ⟨ob,xs,z⟩
     .rw[q] at z;cases z
     .have z2:=un.qT b ob _ z
      obtain⟨e1,_⟩:=hok b _ z;obtain⟨e2,_⟩:=TH b _ z2;rw[e] at e1;cases e1;exact e2
 cases hk:K.lookup a with
 | some o =>
  have e:=KX a o hk;rw[ha] at e;cases e;refine P' (λ_=>none) (λ_=>.inl rfl) (.inr ⟨_,vs.toArray,_,hk,rfl,rfl,rfl,by rw[aD,TF];exact hl,by simpa using rv⟩) (λb u z=>by have z':(none:Option HO)=some u:=z;cases z') (λb z=>absurd rfl z) λz=>absurd rfl z
 | none =>
  refine P' (λb=>if b=a then some (.qS { cls:=.type "list",data:=.seq vs.toArray } (.lst (ns.map V.int))) else none) (λb=>?_) (.inl (.inr ⟨{ cls:=.type "list",data:=.seq vs.toArray },if_pos rfl⟩)) (λb u z=>?_) (λb z=>?_) λ_=>hk
  .by_cases hb:b=a
   .exact .inr ⟨_,_,if_pos hb⟩
   .exact .inl (if_neg hb)
  .by_cases hb:b=a
   .have z':=(if_pos hb).symm.trans z
    cases z';subst hb;exact⟨ha,by rw[aj];exact hl,vs,_,rv,ha⟩
   .have z':=(if_neg hb).symm.trans z
    cases z'
  .by_cases hb:b=a
   .exact hb
   .exact absurd (if_neg hb) z
noncomputable abbrev ZV {K:W.Frag}{h:Heap}(_:K.In h):W.Frag:=K
theorem IL {l:W.OpenLaw}{n k:Nat}{q:aO}{loose:List Str}{XP:(Str->Option ae)->Heap->Prop}{YP:World->Heap->Prop}{d:DefRec}{K:Params->W.Frag}{CX:World->EJ}{sp:World->Sp}{x:Str}
  (hn:l.most=some n) (TJ:n<=ax) (MP:d.params.defaults=[]) (hr:fm k callerA)
  (hY:∀(w:World) (h:Heap),YP w h->(K w.params).In h)
  (F:∀(w:World) (mg:Str->Option ae) (fa:Addr) (h:Heap),(K w.params).In h->h.Ns aR mg->mg d.name=some (.ref fa) ->
   ∃fd:bF,(∀(s:aq) (u:ae),BindsTo s fd ⟨[u],[]⟩ [(x,u)]) /\
    ∀base:Heap,(K w.params).In base->base.Ns aR mg->iP l.prog w (K w.params) mg base (CX w) k fa fd [x] (sp w))
  (zx:∀(w:World) (H:Hp) (a:Addr) (ns:List Int),ns.length<=n->MR H->gn (K w.params) H a (ns.map V.int)->sp w [.ref a] H (λv _=>v=.bl true) λ_ _ _=>False)
  (TB:∀(w:World) (H:Hp) (s:aq) (e:ae) (s':aq),CX w [] H s (λ_ _ _=>False) e s'->False) :
  W.WalkO q loose XP YP l.row.toRowW d [] (λf vs=>PySem.call f vs):=by
 refine Att.xl hn MP λw s₀ s₁ mg mb fa o pm cd rf a vs ns G Y ho hd gP P7 MQ Fl eX hg=>?_;have KX:=hY w _ Y;obtain⟨fd,hb,hF⟩:=F w mg fa _ KX G.T.g P7;exact Fm KX G.T.g G.T.b G.T.builtins G.T.nolimit hg MQ Fl (aU eX TJ) hr hF hb (λH hO hS=>zx w H a ns eX hO hS) λH e s'=>TB w H s₁ e s'
noncomputable def iX (s:Stmt):Arguments:=match s with
 | .FunctionDef _ a _ _ _ _ _ _ _ _=>a
 | _=>{ posonlyargs:=[],args:=[],vararg:=none,kwonlyargs:=[],kw_defaults:=[],kwarg:=none,defaults:=[] }
noncomputable def fy (s:Stmt):List Stmt:=match s with
 | .FunctionDef _ _ b _ _ _ _ _ _ _=>b
 | _=>[]
noncomputable def dJ (s:Stmt):Scope:=match s with
 | .FunctionDef _ _ _ _ _ _ sc _ _ _=>sc
 | _=>{ kind:=.function,names:=[],isGenerator:=false,isCoroutine:=false }
noncomputable abbrev rq:EJ:=λ_ _ _ _ _ _=>False
noncomputable abbrev E0:XK:=λ_ _ _=>False
theorem Qa:zv rq X E0:=λ_ _ _ _ _ _ _ h=>h.elim
structure uq (K:W.Frag) (x fj:Str) (st:Stmt) (f:Addr) (fd:bF):Prop where
 ex:∃(oc:ae) (od:Option Addr) (kV rf pm:ae) (an:Option Addr) (fq ct:ae) (zw:Array (Option ae)),
  fd=W.fnOf x fj (iX st) (fy st) (dJ st) .none kV rf pm an fq ct/\K.lookup f=some ⟨oc,od,.func fd,zw⟩/\W.codeIn K fq fj=true
 kp:W.keepIn K (.ref f)=true
section
variable {P:aO}{w:World}{K:W.Frag}{mg:Str->Option ae}{base:Heap}
theorem uq.ok {x fj:Str}{st:Stmt}{f:Addr}{fd:bF}{N ps:List Str}{k:Nat}{sp:Sp}(F:uq K x fj st f fd)(S:eZ N ps (dJ st))(len:∀vs H Q E,sp vs H Q E->vs.length=ps.length)
  (rg:∀(fq:ae) (A:Around) (outer:List Env) (s:aq) (H:Hp) (vs:List V) (Q:VK) (E:XK),fm k (A.deeper (envOfC fj (dJ st) s.heap.objs.size f fq))->sp vs H Q E ->
   ∃t,ze (ky rq P w K mg base N fj (dJ st) f fq A outer s H E).De (fy st) t/\t { nx:=λ_ H'=>Q .gB H',rt:=Q } (start N vs) H):iP P w K mg base rq (k+1) f fd ps sp:=by
 obtain⟨oc,od,kV,rf,pm,an,fq,ct,zw,rfl,lk,gP⟩:=F.ex;refine Ku lk gP S len λA outer s H vs Q E hr zx=>?_;obtain⟨t,h,q⟩:=rg fq A outer s H vs Q E hr zx;exact⟨t,h.De,q⟩
theorem uq.binds {x fj:Str}{st:Stmt}{f:Addr}{fd:bF}{ps:List Str}(F:uq K x fj st f fd)
  (h:∀(kV rf pm:ae) (an:Option Addr) (fq ct:ae) (us:List ae),us.length=ps.length->bindArgs (W.fnOf x fj (iX st) (fy st) (dJ st) .none kV rf pm an fq ct) ⟨us,[]⟩=pure (ps.zip us)):Binds K fd ps []:=by
 obtain⟨oc,od,kV,rf,pm,an,fq,ct,zw,rfl,lk,gP⟩:=F.ex;exact .all (h kV rf pm an fq ct)
theorem zD {x fj:Str}{st:Stmt}{f:Addr}{oc:ae}{od an:Option Addr}{zw:Array (Option ae)}{kV rf pm fq ct:ae}(l:K.lookup f=some ⟨oc,od,.func (W.fnOf x fj (iX st) (fy st) (dJ st) .none kV rf pm an fq ct),zw⟩)
  (c:W.codeIn K fq fj=true) (k:W.keepIn K (.ref f)=true):uq K x fj st f (W.fnOf x fj (iX st) (fy st) (dJ st) .none kV rf pm an fq ct):=⟨⟨oc,od,kV,rf,pm,an,fq,ct,zw,rfl,l,c⟩,k⟩
end
theorem Qb (hr:fm k A):A.units+1<cLine:=cU (Nat.add_le_add_left (by decide:1<=64) _) hr.units
theorem IM {A B:Prop}(h:B):if false=true then A else B:=by
 rw[if_neg aZ];exact h
theorem MS {A B:Prop}(h:A):if true=true then A else B:=by
 rw[if_pos rfl];exact h
theorem MT {c A B:Prop}[Decidable c](h1:c->A)(h2:¬ c->B):if c then A else B:=by
 by_cases h:c
 .rw[if_pos h]
  exact h1 h
 .rw[if_neg h]
  exact h2 h
structure eL (P:aO) (w:World) (K:W.Frag) (mg:Str->Option ae) (base:Heap) (k:Nat) (x:Str) (ps:List Str) (sp:Sp):Prop where
 ex:∃(f:Addr) (fd:bF),iP P w K mg base rq k f fd ps sp/\mg x=some (.ref f)/\W.keepIn K (.ref f)=true/\Binds K fd ps []
noncomputable def rA (sp:Sp)(t:TA):TE:=λσ H Q=>t σ H λvs H1=>sp vs H1 Q E0
theorem Dx (sp:Sp)(t:TA):xg sp [] E0 t=rA sp t:=by
 funext σ H Q;unfold xg rA;congr;funext vs H1;rw[bn]
section
theorem Fn (D:eL X.prog X.w X.K X.mg X.base k x ps sp)(hr:fm k X.A)(ha:PA X (e::es) t)(hg:Gl X x:=by rfl)
  (jj:(x == ("__debug__" : Str))=false:=by decide) (he:starEach (e::es) X.env=(false,eval e X.env)::starEach es X.env:=by rfl) (mL:(backTo pos (starEach es X.env)).any (·.1)=false:=by rfl) :
  PE X (.Call (.Name x p) (e::es) [] pos) (rA sp t):=by
 obtain⟨f,fd,F,hm,hk,hb⟩:=D.ex;rw[<- Dx];exact BK F hr hg hm hk hb .nil Qa ha jj he mL
end
noncomputable def mI (cells:List (Str × Addr)):List (Str × aM)->List (Str × Addr)->List (Str × Addr)
 | [],acc=>acc
 | (n,k)::r,acc=>mI cells r (if (k == aM.free)=true then (n,(cells.lookup n).getD 0)::acc else acc)
theorem uu (cells:List (Str × Addr))(n:Str)(k:aM)(r:List (Str × aM))(acc:List (Str × Addr)):mI cells ((n,k)::r) acc=mI cells r (if (k == aM.free)=true then (n,(cells.lookup n).getD 0)::acc else acc):=rfl
theorem xm:∀{l:List (Str × aM)} {acc:List (Str × Addr)},(x,c)∈mI cells l acc->(x,c)∈acc\/((x,aM.free)∈l/\c=(cells.lookup x).getD 0)
 | [],acc,h=>.inl h
 | (n,k)::r,acc,h=>by
  unfold mI at h;rcases xm h with h | ⟨h1,h2⟩
  .by_cases hk:(k == aM.free)=true
   .rw[if_pos hk] at h
    rcases au.mp h with h | h
    .cases h
     have:k=aM.free:=by simpa using hk
     subst this;exact .inr ⟨ar,rfl⟩
    .exact .inl h
   .rw[if_neg hk] at h
    exact .inl h
  .exact .inr ⟨ao _ h1,h2⟩
theorem xn:∀{l:List (Str × aM)} {acc:List (Str × Addr)},q∈acc->q∈mI cells l acc
 | [],_,h=>h
 | (n,k)::r,acc,h=>by
  unfold mI;refine xn ?_;split
  .exact ao _ h
  .exact h
theorem BU:∀{l:List (Str × aM)} {acc:List (Str × Addr)},(x,aM.free)∈l->(x,(cells.lookup x).getD 0)∈mI cells l acc
 | [],_,h=>by cases h
 | (n,k)::r,acc,h=>by
  unfold mI;rcases au.mp h with h | h
  .cases h
   refine xn ?_;simp
  .exact BU h
theorem mV {β:Type}{x:Str}{b:β}:∀{l:List (Str × β)},(x,b)∈l->∃c,l.lookup x=some c
 | [],h=>by cases h
 | (n,k)::r,h=>by
  rw[bS]
  cases e:x == n with
  | true=>exact⟨k,rfl⟩
  | false =>
   rcases au.mp h with h | h
   .cases h
    simp at e
   .exact mV h
theorem lA:∀(l:List (Str × aM)) (acc:List (Str × Addr)),(∀x∈l,x.2=aM.free->∃c,env.cells.lookup x.1=some c) ->
  (forIn l acc λx r=>if (x.2 == aM.free)=true then (do let c <- cellOf env x.1;pure (ForInStep.yield ((x.1,c)::r))) else pure (ForInStep.yield r):Sem (List (Str × Addr)))=pure (mI env.cells l acc)
 | [],acc,_=>rfl
 | (n,k)::r,acc,h=>by
  rw[List.forIn_cons];by_cases hk:(k == aM.free)=true
  .obtain⟨c,hc⟩:=h (n,k) ar (by simpa using hk)
   have e:cellOf env n=pure c:=by unfold cellOf;rw[hc]
   show (if (k == aM.free)=true then _ else _) >>= _=_;rw[if_pos hk,e];show (forIn r ((n,c)::acc) _:Sem _)=_;rw[lA r _ λx hx=>h x (ao _ hx)];rw[uu,if_pos hk,show env.cells.lookup n=some c from hc];rfl
  .show (if (k == aM.free)=true then _ else _) >>= _=_
   rw[if_neg hk];show (forIn r acc _:Sem _)=_;rw[lA r _ λx hx=>h x (ao _ hx)];rw[uu,if_neg hk]
theorem tF (h:∀x∈scope.names,x.2=aM.free->∃c,env.cells.lookup x.1=some c):closureFor scope env=pure (mI env.cells scope.names []):=by
 have e:=lA scope.names [] h;unfold closureFor
 first
  | exact (congrArg (λm=>m >>= λr=>pure r) e).trans rfl
  | (simp only[bind_pure];exact e)
  | (rw[<- e];rfl)
noncomputable def ft (X:Cx)(sc:Scope)(N:List Str)(cl:List (Str × Addr))(C:Addr)(s₂:aq)(H₂:Hp)(fp:List Addr):Cx where
 prog:=X.prog
 w:=X.w
 K:=X.K
 mg:=X.mg
 base:=X.base
 A:=X.A
 N:=N
 s₀:=s₂
 H₀:=H₂
 env:=compEnvC sc cl C X.env
 outer:=X.stack
 stack:=X.stack
 ex:=fp
 fn:=λx=>sc.names.lookup x == some aM.cell
 calm:=true
 pn:=[]
 xe:=λ_ _=>False
noncomputable def iQ (NX:List Str)(MU sc:Scope)(N:List Str)(mp:List (Option Nat)):Bool :=
 sc.names.all (λp=>p.2 != aM.cell || sc.names.lookup p.1 == some aM.cell) && sc.names.all (λp=>p.2 != aM.local || sc.names.lookup p.1 == some aM.local) &&
 sc.names.all (λp=>p.2 != aM.free || (MU.names.lookup p.1 == some aM.cell || MU.names.lookup p.1 == some aM.free)) && sc.names.all (λp=>p.2 != aM.free || sc.names.lookup p.1 == some aM.free) &&
 mp.length == N.length && (N.zip mp).all (λq=>match q.2 with | none=>true | some i=>NX[i]? == some q.1 && sc.names.lookup q.1 == some aM.free)
noncomputable def lB (mp:List (Option Nat))(σ:St):St:=mp.map λo=>match o with | none=>none | some i=>(σ[i]?).join
structure rB (NX:List Str) (MU sc:Scope) (N:List Str) (mp:List (Option Nat)):Prop where
 cell:∀x∈sc.names,x.2=aM.cell->sc.names.lookup x.1=some aM.cell
 loc:∀x∈sc.names,x.2=aM.local->sc.names.lookup x.1=some aM.local
 free:∀x∈sc.names,x.2=aM.free->MU.names.lookup x.1=some aM.cell\/MU.names.lookup x.1=some aM.free
 fr:∀x∈sc.names,x.2=aM.free->sc.names.lookup x.1=some aM.free
 len:mp.length=N.length
 map:∀(j:Nat) (x:Str) (i:Nat),N[j]? = some x->mp[j]? = some (some i)->NX[i]? = some x/\sc.names.lookup x=some aM.free
theorem uw (h:iQ NX MU sc N mp=true):rB NX MU sc N mp:=by
 unfold iQ at h;simp only[bA,dn] at h;obtain⟨⟨⟨⟨⟨h1,h2⟩,h3⟩,h6⟩,h4⟩,h5⟩:=h;have hl:mp.length=N.length:=by simpa using h4
 refine⟨λx hx e=>?_,λx hx e=>?_,λx hx e=>?_,λx hx e=>?_,hl,λj x i e1 e2=>?_⟩
 .have:=h1 x hx
  rw[e] at this;simpa using this
 .have:=h2 x hx
  rw[e] at this;simpa using this
 .have:=h3 x hx
  rw[e] at this;simpa using this
 .have:=h6 x hx
  rw[e] at this;simpa using this
 .have TK:j<N.length:=(aY.mp e1).1
  have ZW:j<mp.length:=(aY.mp e2).1
  have hm:(x,some i)∈N.zip mp:=by
   refine bP (i:=j) ?_;rw[List.getElem?_zip_eq_some];exact⟨e1,e2⟩
  have:=h5 _ hm;simpa using this
theorem lC (h:(relabel sc env).names.lookup x=some k):∃k',(x,k')∈sc.names/\(k=k'\/(k'=aM.free/\k=aM.cell)):=by
 have hm:=PySem.mem_of_lookup h;obtain⟨⟨n,k'⟩,Sj,e⟩:=a5.mp hm;refine⟨k',?_⟩;dsimp only at e;split at e
 .rename_i hc
  cases e;rw[bA,bA] at hc;have:k'=aM.free:=by simpa using hc.1.1
  exact⟨Sj,.inr ⟨this,rfl⟩⟩
 .cases e
  exact⟨Sj,.inl rfl⟩
theorem vD (h:sc.names.lookup x=some aM.free):(relabel sc env).names.lookup x=some aM.cell\/(relabel sc env).names.lookup x=some aM.free:=by
 show (sc.names.map _).lookup x=_\/(sc.names.map _).lookup x=_;generalize sc.names=l at h
 induction l with
 | nil=>cases h
 | cons p r ih =>
  obtain⟨n,k⟩:=p;rw[ak];dsimp only;by_cases hc:(k == aM.free && env.scope.kind == .function && env.kindOf n == some .cell)=true
  .rw[if_pos hc,bS]
   cases e:x == n with
   | true=>exact .inl rfl
   | false =>
    rw[bS,e] at h;exact ih h
  .rw[if_neg hc,bS]
   cases e:x == n with
   | true =>
    rw[bS,e] at h;exact .inr h
   | false =>
    rw[bS,e] at h;exact ih h
theorem vE:∀{l:List (Str × aM)} {n:Nat} {acc:List (Str × Addr)},q∈acc->q∈cellsFrom n l acc
 | [],_,_,h=>h
 | (m,k)::r,n,acc,h=>by
  unfold cellsFrom;split
  .exact vE (ao _ h)
  .exact vE h
theorem Fp:∀{l:List (Str × aM)} {n:Nat} {acc:List (Str × Addr)},(x,aM.cell)∈l->∃c,(x,c)∈cellsFrom n l acc
 | (m,k)::r,n,acc,h=>by
  unfold cellsFrom;rcases au.mp h with h | h
  .cases h
   exact⟨n,vE (n:=n+1) (l:=r) (acc:=(x,n)::acc) ar⟩
  .split
   .exact Fp h
   .exact Fp h
theorem zE:∀{l:List (Str × aM)} {h:Heap} {n:Nat} {acc:List (Str × Addr)},h.objs.size=n->q∈cellsFrom n l acc->q∈acc\/(n<=q.2/\(q.1,aM.cell)∈l/\(pushCells h l).IsCell q.2 none)
 | [],_,_,_,_,h=>.inl h
 | (m,k)::r,hp,n,acc,hn,h=>by
  unfold cellsFrom at h;unfold pushCells;by_cases hk:(k == aM.cell)=true
  .rw[if_pos hk] at h ⊢
   have e:k=aM.cell:=by simpa using hk
   subst e;rcases zE (h:=hp.push { cls:=.type "cell",data:=.cell none }) (by rw[bV,hn]) h with h | ⟨h1,h2,h3⟩
   .rcases au.mp h with h | h
    .subst h
     subst hn;exact .inr ⟨am _,ar,⟨_,pushCells_keeps _ _ _ _ (aH _ rfl),rfl⟩⟩
    .exact .inl h
   .exact .inr ⟨!1,ao _ h2,h3⟩
  .rw[if_neg hk] at h ⊢
   rcases zE hn h with h | ⟨h1,h2,h3⟩
   .exact .inl h
   .exact .inr ⟨h1,ao _ h2,h3⟩
theorem zF:∀{l:List (Str × aM)} {n:Nat} {acc:List (Str × Addr)},(∀q∈acc,q.2<n)->(∀x y c,(x,c)∈acc->(y,c)∈acc->x=y)->∀x y c,(x,c)∈cellsFrom n l acc->(y,c)∈cellsFrom n l acc->x=y
 | [],_,_,_,h=>h
 | (m,k)::r,n,acc,hn,h=>by
  unfold cellsFrom;split
  .refine zF (λq hq=>?_) λx y c hx hy=>?_
   .rcases au.mp hq with e | e
    .subst e;exact dq _
    .exact cr (hn q e)
   .rcases au.mp hx with e | e<;>rcases au.mp hy with e' | e'
    .cases e;cases e';rfl
    .cases e;exact absurd (hn _ e') (bt _)
    .cases e';exact absurd (hn _ e) (bt _)
    .exact h x y c e e'
  .exact zF hn h
theorem zG
  (hQ:(pushCells (s.heap.push { cls:=.type "dict",data:=.dict #[] }) scope.names).Ns s.heap.objs.size (λ_=>none) ->
   Q (newEnv scope s.heap.objs.size globals (cellsFrom (s.heap.objs.size+1) scope.names closure) fj none .none (some env) 0) { s with heap:=pushCells (s.heap.push { cls:=.type "dict",data:=.dict #[] }) scope.names }) :
  ay M A (newFunctionEnv scope globals closure [] fj none .none (some env)) Q E s:=by
 simp only[newFunctionEnv,Option.isSome_some,if_true];refine aa (wpAny_alloc ?_);refine aa (wpAny_layCells _ (λname kind cells=>by cases W5:kind == aM.cell<;>simp[W5]) _ _ _ _ ?_);rw[show ({ s with heap:=s.heap.push { cls:=.type "dict",data:=.dict #[] } }:aq).heap.objs.size=s.heap.objs.size+1 from bV ..];rw[List.forIn_nil];exact aa (ai (ai (hQ ((Heap.Ns.new s.heap (.type "dict")).keeps (pushCells_keeps _ _)))))
structure Qc (X:Cx) (sc:Scope) (C:Addr) (h:Heap) (cl:List (Str × Addr)):Prop where
 has:∀x,(x,aM.cell)∈sc.names\/(x,aM.free)∈sc.names->∃c,cl.lookup x=some c
 sub:∀x c,cl.lookup x=some c->(X.env.cells.lookup x=some c/\(x,aM.free)∈sc.names)\/(C<c/\(x,aM.cell)∈sc.names/\h.IsCell c none)
 inj:∀x y c,cl.lookup x=some c->cl.lookup y=some c->x=y
section
variable {X:Cx}{sc:Scope}{N:List Str}{mp:List (Option Nat)}{pins:List (Addr × Obj)}{σ:St}{H:Hp}{s:aq}{fp:List Addr}{C:Addr}{h₁:Heap}{cl:List (Str × Addr)}
theorem xo (O:rB X.N X.env.scope sc N mp)(ok:X.Ok):∀x∈sc.names,x.2=aM.free->∃c,X.env.cells.lookup x.1=some c:=λx hx e=>ok.has x.1 (O.free x hx e)
theorem IP (O:rB X.N X.env.scope sc N mp)(I:Inv X pins σ H s){hp:Heap}(hs:s.heap.objs.size<=hp.objs.size)(e:hp.objs.size=C+1):Qc X sc C (pushCells hp sc.names) (cellsFrom (C+1) sc.names (mI X.env.cells sc.names [])):=by
 have ok:=I.ok
 have old:∀q∈mI X.env.cells sc.names [],X.env.cells.lookup q.1=some q.2/\(q.1,aM.free)∈sc.names:=λq hq=>by
  rcases xm (x:=q.1) (c:=q.2) hq with h | ⟨h1,h2⟩
  .cases h
  .obtain⟨c',hc⟩:=xo O ok _ h1 rfl
   have Dd:X.env.cells.lookup q.1=some c':=hc;rw[Dd] at h2;rw[Dd,h2];exact⟨rfl,h1⟩
 have lt:∀q∈mI X.env.cells sc.names [],q.2<C+1:=λq hq=>by
  obtain⟨v,o,ho,_⟩:=I.cell _ _ (old q hq).1;exact e ▸ aL (aA ho) hs
 refine⟨λx hx=>?_,λx c h=>?_,λx y c h1 h2=>zF lt (λx y c h1 h2=>ok.inj x y c (old _ h1).1 (old _ h2).1) x y c (PySem.mem_of_lookup h1) (PySem.mem_of_lookup h2)⟩
 .rcases hx with h | h
  .obtain⟨c,hc⟩:=Fp (n:=C+1) (acc:=mI X.env.cells sc.names []) h
   exact mV hc
  .exact mV (vE (BU h))
 .rcases zE (h:=hp) e (PySem.mem_of_lookup h) with h | ⟨h1,h2,h3⟩
  .exact .inl (old _ h)
  .exact .inr ⟨h1,h2,h3⟩
theorem Fq (hc:X.calm=true)(O:rB X.N X.env.scope sc N mp)(hk:sc.kind=.function)(I:Inv X pins σ H s)(hC:s.heap.objs.size<=C)(kp:∀b o,s.heap.get? b=some o->h₁.get? b=some o){m:Str->Option ae}
  (hn:h₁.Ns C m) (Ky:∀b∈fp,qj X pins H b) (MV:∀b∈fp,b<s.heap.objs.size) {t':Nat} (L:Qc X sc C h₁ cl) :
  Inv (ft X sc N cl C s H fp) [] (lB mp σ) H { s with heap:=h₁,toks:=t' }:=by
 have ok:=I.ok
 have TL:∀b∈fp,b ∉ mS X.stack:=λb hb z=>by
  rcases au.mp (I.qU b z) with e | e
  .exact (Ky b hb).2.1 e
  .exact (Ky b hb).2.2.1 e
 refine⟨⟨ok.mod,hk,ok.glob,ok.blt,hC,?_,?_,?_,λ_=>ok.hd hc,ok.frames,.inl rfl,?_,I.bs,aU ok.Ib I.sz,?_,TL,I.stack,I.qw⟩,rfl,I.bare,Un.kept kp,?_,?_,I.hok.fresh hC,?_,?_,I.hok.kept kp,?_⟩
 .exact L.inj
 .intro x hx
  have HM:(relabel sc X.env).names.lookup x=some .cell\/(relabel sc X.env).names.lookup x=some .free:=hx;refine L.has x ?_;rcases HM with h | h
  .obtain⟨k',hm,e⟩:=lC h
   rcases e with e | ⟨e,_⟩
   .subst e
    exact .inl hm
   .subst e
    exact .inr hm
  .obtain⟨k',hm,e⟩:=lC h
   rcases e with e | ⟨_,e⟩
   .subst e
    exact .inr hm
   .cases e
 .intro x c hf hc
  have W6:sc.names.lookup x=some aM.cell:=by simpa [ft] using hf
  rcases L.sub x c hc with h | h
  .have:=O.fr _ h.2 rfl
   rw[W6] at this;cases this
  .exact aU hC (dw h.1)
 .intro b hb
  refine⟨aN (aL (MV b hb) hC),λx c h=>?_⟩;rcases L.sub x c h with h | h
  .exact (Ky b hb).2.2.2.2.1 x c h.1
  .exact λz=>bt _ (dB (aL (MV b hb) hC) (z ▸ h.1))
 .intro b o e hb
  rcases (Ky b hb).2.2.2.1 with z | z
  .exact ok.Dc b o e z
  .exact absurd (aL (aA (ok.bs b o e).1) z) (bt _)
 .refine⟨m,hn,λj x v e1 e2 e3=>?_⟩
  have VX:N[j]? = some x:=e1
  have hj:j<mp.length:=by
   rw[O.len];exact (aY.mp VX).1
  obtain⟨i,hi,hv⟩:∃i,mp[j]? = some (some i)/\σ[i]? = some (some v):=by
   unfold lB at e2;rw[aC] at e2
   cases e:mp[j]? with
   | none=>rw[e] at e2;cases e2
   | some o =>
    rw[e] at e2
    cases o with
    | none=>cases e2
    | some i =>
     refine⟨i,rfl,?_⟩;have Sl:(σ[i]?).join=some v:=Option.some.inj e2
     cases q:σ[i]? with
     | none=>rw[q] at Sl;cases Sl
     | some z =>
      rw[q] at Sl;have:z=some v:=Sl;rw[this]
  obtain⟨hx,hf⟩:=O.map j x i VX hi;have TM:=PySem.mem_of_lookup hf;obtain⟨mX,ZX,hl⟩:=I.loc
  have W7:s9 X.env.scope x:=by
   rcases O.free _ TM rfl with z | z
   .exact .inr (.inl z)
   .exact .inr (.inr z)
  obtain⟨u,r,q⟩:=hl i x v hx hv W7;refine⟨u,r,?_⟩;rcases q with⟨z,_⟩ | ⟨_,c,ec,Qd⟩
  .exfalso
   have z':X.env.scope.names.lookup x=some .local:=z;rcases O.free _ TM rfl with y | y
   .rw[show X.env.scope.names.lookup x=some .cell from y] at z';cases z'
   .rw[show X.env.scope.names.lookup x=some .free from y] at z';cases z'
  .obtain⟨c',Dd⟩:=L.has x (.inr TM)
   have Pd:X.env.cells.lookup x=some c':=by
    rcases L.sub x c' Dd with h | h
    .exact h.1
    .have:=O.cell _ h.2.1 rfl
     rw[hf] at this;cases this
   rw[ec] at Pd;cases Pd;refine .inr ⟨vD hf,c,Dd,?_⟩;obtain⟨o,ho,hd⟩:=Qd;exact⟨o,kp _ _ ho,hd⟩
 .intro x c h
  rcases L.sub x c h with h | h
  .obtain⟨v,o,ho,hd⟩:=I.cell x c h.1
   exact⟨v,o,kp _ _ ho,hd⟩
  .exact⟨none,h.2.2⟩
 .intro x c h
  rcases L.sub x c h with h | h
  .exact I.freeC x c h.1
  .exact I.hok.fresh (aU hC (dw h.1))
 .intro p hp
  cases hp
 .show (lB mp σ).length=N.length
  unfold lB;rw[aj,O.len]
theorem Inv.BV {a:Addr}{o:HO}{ob:Obj}(I:Inv X pins σ H s)(ho:s.heap.get? a=some ob)(hn:H a=none)(hL:a≠X.env.locals)(h1:a∈X.ex\/X.s₀.heap.objs.size<=a)(h2:∀x c,X.env.cells.lookup x=some c->c≠a)
  (h3:∀p∈X.pn++pins,p.1≠a) (new:fu X.prog X.w (eR H a o) s.heap a o):Inv X pins σ (eR H a o) s:=by
 have Kj:∀b u,H b=some u->b≠a:=λb u e z=>by rw[z,hn] at e;cases e
 have:=I.step (g':=s.gens) (d':=s.drawn) (t':=s.toks) (h':=s.heap) (H':=eR H a o) (ch:=[a]) (λb hb=>?_) (λb o _ _ _ e _=>e) (λb o _ _ _ e _=>⟨o.slots,e⟩) (λb o hc _ n=>?_)
  (λb o _ e=>⟨o,e⟩) (λb xs e=>?_) (λb u xs e=>?_) (λb ps e=>⟨#[],?_⟩) (λm hm=>hm) (λb u e=>?_) I.bare
 .exact this
 .have e:b=a:=by simpa using hb
  subst e;exact⟨h1,hL,h2,h3⟩
 .rw[dS (λz=>hc (by simp[z]))];exact n
 .rw[dS (Kj _ _ e)];exact e
 .rw[dS (Kj _ _ e)];exact e
 .rw[dS (Kj _ _ e),e];simp
 .by_cases hb:b=a
  .subst hb;rw[dM] at e;cases e;exact new
  .rw[dS hb] at e
   exact (I.hok b u e).w4 (λc v _ q=>q) (λc q=>by rw[dS (Kj _ _ q)];exact q) λc xs q=>by rw[dS (Kj _ _ q)];exact q
end
theorem vF (I:Nat->aq->Prop)
  (turn:∀n s,I n s->ay (model prog w) A (pyNext it) (λr s₁=>match r with
   | none=>R (.ok .next) s₁
   | some v=>ay (model prog w) A (letOwnedTupleGo target it v) (λ_ s'=>ay (model prog w) A (assign target env v) (λ_ s₂ =>
     ay (model prog w) A (forIn nW true λc r=>if r=true then do let ok <- isTrue c env (eval c env);pure (ForInStep.yield ok) else pure (ForInStep.yield r)) (λok s₃ =>
      if ok=true then ay (model prog w) A (eval oZ env) (λx s₄ =>
       ay (model prog w) A (call (.builtin "list.append") [acc,x]) (λ_ s₅=>∃m,m<n/\I m s₅) (λ_ _=>False) s₄) (λ_ _=>False) s₃
      else ∃m,m<n/\I m s₃) (λ_ _=>False) s₂) (λ_ _=>False) s') (λ_ _=>False) s₁) (λ_ _=>False) s)
  (n:Nat) (h:I n s) :
  codeAny (model prog w) A (.compLoop (.ListComp oZ [⟨target,iter,nW,0⟩] scope pos) 0 it acc env) R s:=by
 refine codeAny_loop rfl I (λn s hI=>?_) n h;show ay _ A ((compTurn (.ListComp oZ [⟨target,iter,nW,0⟩] scope pos) 0 it acc env).onRaise (λx=>do noteFrame x env;theTreesLotGoes x)) _ _ s;refine wpAny_noted ?_;rw[compTurn_list];refine aa (wpAny_standAt (aa (bJ (turn n s hI) (λr s₁ h₁=>?_) λ_ _ h'=>h'.elim)))
 cases r with
 | none=>exact ai h₁
 | some v =>
  refine aa (bJ h₁ (λ_ s' h'=>aa (bJ h' (λ_ s₂ h₂=>aa (bJ h₂ (λok s₃ h₃=>?_) λ_ _ h'=>h'.elim)) λ_ _ h'=>h'.elim)) λ_ _ h'=>h'.elim)
  cases ok with
  | false=>exact ai ⟨rfl,h₃⟩
  | true =>
   exact aa (aa (bJ h₃ (λx s₄ h₄=>aa (bJ h₄ (λ_ s₅ h₅=>ai (ai ⟨rfl,h₅⟩)) λ_ _ h'=>h'.elim)) λ_ _ h'=>h'.elim))
noncomputable def OJ (X:Cx)(nW:List Expr)(t:TT):Prop :=
 ∀(pins:List (Addr × Obj)) (s:aq) (σ:St) (H:Hp) (Q:Bool->Hp->Prop),Inv X pins σ H s->t σ H Q ->
  ay (model X.prog X.w) X.A (forIn nW true λc r=>if r=true then do let ok <- isTrue c X.env (eval c X.env);pure (ForInStep.yield ok) else pure (ForInStep.yield r)) (TP X pins σ Q) X.xe s
noncomputable def Kz:TT:=λ_ H Q=>Q true H
theorem IQ:OJ X [] Kz:=λ_ _ _ H _ I h=>wpAny_tests_nil ⟨H,I,h⟩
theorem IS (h:PT X c t):OJ X [c] t:=λpins s σ H Q I hw=>wpAny_tests_one (h pins s σ H Q I hw)
noncomputable abbrev TC:=St->Hp->(List V->Hp->Prop)->Prop
noncomputable def ux (wi:TI)(mp:List (Option Nat))(g:TG)(tc:TT)(te:TE):TC:=λσ H R=>wi σ H λJ H1=>∃W:Nat->Nat->List V->St->Hp->Prop,(∃m,W 0 m [] (lB mp σ) H1)/\∀i m ys σ' H',W i m ys σ' H' ->
 (J.stop i H'/\ys.length<=ax/\R ys H') \/
 (J.go i H'/\ys.length<ax/\∀x MW,J.HH i H' x MW->g x σ' MW λσ2 H2=>tc σ2 H2 λb H3 =>
  if b=true then te σ2 H3 λy H4=>∃m',m' < m/\W (i+1) m' (ys++[y]) σ2 H4 else ∃m',m' < m/\W (i+1) m' ys σ2 H3)
section
theorem uy {use:Option (ae->Sem Unit)}{Q:ae->aq->Prop}(hc:X.calm=true)(hi:PI X tg iter wi)(hk:sc.kind=.function)(O:rB X.N X.env.scope sc N mp)
  (hb:∀(cl:List (Str × Addr)) (C:Addr) (s₂:aq) (H₂:Hp) (fp:List Addr),PG (ft X sc N cl C s₂ H₂ fp) tg g/\OJ (ft X sc N cl C s₂ H₂ fp) nW tc/\PE (ft X sc N cl C s₂ H₂ fp) oZ te)
  {pins:List (Addr × Obj)} {s:aq} {σ:St} {H:Hp} {R:List V->Hp->Prop} (I:Inv X pins σ H s) (h:ux wi mp g tc te σ H R)
  (hs:∀x,foldedSetIterable iter X.env x=pure x)
  (TN:∀(D C:Addr) (ys:List V) (H':Hp) (s':aq) (m:Str->Option ae),Inv X pins σ (eR H' D (.lst ys)) s'->s'.heap.Ns C m->qj X pins (eR H' D (.lst ys)) C->H' D=none->R ys H' ->
   compPost (model X.prog X.w) X.A X.xe use Q (.ref D) C (.ok .next) s') :
  ay (model X.prog X.w) X.A (comprehension (.ListComp oZ [⟨tg,iter,nW,0⟩] sc pos) sc X.env iD (newList []) false (eval iter X.env) use) Q X.xe s:=by
 have ok:=I.ok;refine wpAny_comprehension_free (g:=⟨tg,iter,nW,0⟩) (gs:=[]) rfl hs (tF (xo O ok)) hk O.loc (fN (hi pins s σ H _ I h) λv s1 h1=>fN h1 λTh s2 h2=>?_);obtain⟨it,fp,tn,J,H2,e,I2,T,Ip,f2,W,⟨m0,w0⟩,turn⟩:=h2;subst e;refine bh (zG λvG=>?_);dsimp only at vG ⊢;generalize hP:s2.heap.push { cls:=.type "list",dict:=none,data:=.seq ([]:List ae).toArray }=P2 at vG ⊢;have VY:P2.objs.size=s2.heap.objs.size+1:=by rw[<- hP,bV]
 have TQ:s2.heap.objs.size≠P2.objs.size:=by rw[VY];exact aN (dq _)
 have Fs:s2.heap.objs.size<=P2.objs.size:=by rw[VY];exact b8 _
 have L:=IP (C:=P2.objs.size) O I2 (hp:=P2.push { cls:=.type "dict",data:=.dict #[] }) (by rw[bV];omega) (bV ..);generalize KC:pushCells (P2.push { cls:=.type "dict",data:=.dict #[] }) sc.names=h₁ at vG L ⊢;generalize cellsFrom (P2.objs.size+1) sc.names (mI X.env.cells sc.names [])=cl at L ⊢
 have old:∀b o,s2.heap.get? b=some o->h₁.get? b=some o:=λb o e =>
  KC ▸ pushCells_keeps _ _ b o (ah _ (hP ▸ ah _ e))
 have Dy:h₁.get? s2.heap.objs.size=some { cls:=.type "list",dict:=none,data:=.seq ([]:List ae).toArray } :=
  KC ▸ pushCells_keeps _ _ _ _ (ah _ (hP ▸ aH _ rfl))
 have MV:∀b∈fp,b<s2.heap.objs.size:=λb hb=>by
  obtain⟨o,e,_⟩:=T.obj _ _ Ip b hb;exact aA e
 have VZ:s2.heap.objs.size ∉ fp:=λz=>bt _ (MV _ z)
 have I3:Inv (ft X sc N cl P2.objs.size s2 H2 fp) [] (lB mp σ) H2 { s2 with heap:=h₁ } :=
  Fq hc O hk I2 Fs old vG f2 MV L
 obtain⟨hg,ht,he⟩:=hb cl P2.objs.size s2 H2 fp;generalize hX:ft X sc N cl P2.objs.size s2 H2 fp=Y at I3 hg ht he;have yP:Y.prog=X.prog:=by rw[<- hX];rfl
 have yw:Y.w=X.w:=by rw[<- hX];rfl
 have yK:Y.K=X.K:=by rw[<- hX];rfl
 have yA:Y.A=X.A:=by rw[<- hX];rfl
 have yc:Y.calm=true:=by rw[<- hX];rfl
 have yx:Y.xe=λ_ _=>False:=by rw[<- hX];rfl
 have yl:Y.env.locals=P2.objs.size:=by rw[<- hX];rfl
 have V0:Y.ex=fp:=by rw[<- hX];rfl
 have TR:Y.s₀=s2:=by rw[<- hX];rfl
 have W8:Y.H₀=H2:=by rw[<- hX];rfl
 have V1:Y.pn=[]:=by rw[<- hX];rfl
 have TU:Y.fs=mS X.stack:=by rw[<- hX];rfl
 have Qe:Y.env=compEnvC sc cl P2.objs.size X.env:=by rw[<- hX];rfl
 have V2:∀x c,Y.env.cells.lookup x=some c->X.env.cells.lookup x=some c\/P2.objs.size<c:=λx c e=>by
  rw[Qe] at e;rcases L.sub x c e with h | h
  .exact .inl h.1
  .exact .inr h.1
 have W9:∀x c,Y.env.cells.lookup x=some c->c≠s2.heap.objs.size:=λx c e z=>by
  rcases V2 x c e with h | h
  .obtain⟨v,o,ho,_⟩:=I2.cell x c h
   exact absurd (aA ho) (by rw[z];exact bt _)
  .exact absurd (cU Fs h) (by rw[z];exact bt _)
 have TL:∀b∈fp,b ∉ mS X.stack:=λb hb z=>by
  rcases au.mp (I2.qU b z) with e | e
  .exact (f2 b hb).2.1 e
  .exact (f2 b hb).2.2.1 e
 have W':s2.heap.objs.size ∉ mS X.stack:=λz=>by
  rcases au.mp (I2.qU _ z) with e | e
  .exact absurd I2.lt (by rw[<- e];exact bt _)
  .exact I2.O' (am _) e
 have Ky:∀{H':Hp} {o:Obj},(∀b∈fp,H' b=none)->∀b∈fp,qj Y [(s2.heap.objs.size,o)] H' b:=λ{H' o} hn b hb=>by
  refine⟨hn b hb,?_,?_,?_,?_,?_⟩
  .rw[yl];exact aN (aL (MV b hb) Fs)
  .rw[TU];exact TL b hb
  .rw[V0];exact .inl hb
  .intro x c e
   rcases V2 x c e with h | h
   .exact (f2 b hb).2.2.2.2.1 x c h
   .exact λz=>bt _ (dB (aL (MV b hb) Fs) (z ▸ h))
  .intro p hp
   rw[V1] at hp;have:p=(s2.heap.objs.size,o):=by simpa using hp
   subst this;exact λz=>VZ (by have z':s2.heap.objs.size=b:=z;rw[z'];exact hb)
 have Qf:∀{σ':St} {H':Hp} {s':aq} {o:Obj},Inv Y [] σ' H' s'->s'.heap.get? s2.heap.objs.size=some o->(∀v,o.data≠.cell v)->H' s2.heap.objs.size=none->Inv Y [(s2.heap.objs.size,o)] σ' H' s' :=
  λ{σ' H' s' o} J e d hn=>J.qx λp hp=>by
   have:p=(s2.heap.objs.size,o):=by simpa using hp
   subst this;exact⟨e,hn,by rw[yl];exact TQ,by rw[TU];exact W',d⟩
 have loop:∀s₃:aq,s₃={ s2 with heap:=h₁ } ->
   codeAny (model X.prog X.w) X.A (.compLoop (.ListComp oZ [⟨tg,iter,nW,0⟩] sc pos) 0 (.ref it) (.ref s2.heap.objs.size) Y.env)
    (compPost (model X.prog X.w) X.A X.xe use Q (.ref s2.heap.objs.size) P2.objs.size) s₃:=by
  rintro s₃ rfl
  refine vF (λn s'=>∃i ys its c σ' H',Inv Y [(s2.heap.objs.size,({ cls:=.type "list",data:=.seq its.toArray c }:Obj))] σ' H' s'/\ee ys its/\tn i s'.heap/\(∀b∈fp,H' b=none)/\ys.length<=ax/\W i n ys σ' H') ?_ m0
   ⟨0,[],[],0,lB mp σ,H2,Qf I3 Dy (λv z=>by cases z) (I2.hok.fresh (am _)),.nil,T.keep _ _ _ Ip (λb _ o e=>old b o e),λb hb=>(f2 b hb).1,bL _,w0⟩
  rintro n s3 ⟨i,ys,its,c,σ3,H3,J3,rv,Iq,Pu,hz,w3⟩;have Xa:=J3.pin _ (aJ _ (av.mpr rfl));rcases turn i n ys σ3 H3 w3 with⟨stop,hl,qn⟩ | ⟨go,hl,step⟩
  .have:=T.done Y yP yw yK yc i _ s3 σ3 H3 (λ_ _=>False) J3 (Ky Pu) Iq stop
   rw[yA] at this;refine fN this λr s4 ⟨hr,J4⟩=>?_;subst hr;obtain⟨pe,pn,_,_,_⟩:=J4.pin _ (aJ _ (av.mpr rfl));dsimp only at pe pn;have un:=J4.base;rw[TU,V0,TR,W8] at un;have Xb:s4.os=s2.os:=by have:=J4.os;rw[TR] at this;exact this
   have Qg:=J4.hok;rw[yP,yw] at Qg;have IX:Inv X pins σ H3 s4:=I2.Kk Xb un Qg J4.bare λb hb=>⟨(f2 b hb).2.2.2.1,(f2 b hb).2.1,(f2 b hb).2.2.2.2.1,(f2 b hb).2.2.2.2.2⟩;obtain⟨mC,V3,_⟩:=J4.loc;rw[yl] at V3;have dX:qj X pins H3 s2.heap.objs.size:=I2.qY (am _) pn;have IT:Inv X pins σ (eR H3 s2.heap.objs.size (.lst ys)) s4:=IX.BV (o:=.lst ys) pe pn dX.2.1 dX.2.2.2.1 dX.2.2.2.2.1 dX.2.2.2.2.2 ⟨hl,its,c,rv,pe⟩;have cn:H3 P2.objs.size=none:=by have:=J4.free;rw[yl] at this;exact this
   have cX:qj X pins (eR H3 s2.heap.objs.size (.lst ys)) P2.objs.size:=I2.qY Fs (by rw[dS TQ.symm];exact cn);exact TN _ _ ys H3 s4 mC IT V3 cX pn qn
  .have:=T.item Y yP yw yK yc i _ s3 σ3 H3 (λ_ _=>False) J3 (Ky Pu) Iq go
   rw[yA] at this;refine fN this λr s4 ⟨u,hr,h4⟩=>?_;subst hr;refine fN h4 λ_ s5 ⟨x,H5,J5,r5,y5,Mi,Ti⟩=>?_;have Xd:=J5.pinned (Ky Ti) (T.obj _ _ Mi);have ga:=hg _ s5 σ3 H5 x u _ Xd r5 (step x H5 y5);rw[yP,yw,yA,yx] at ga;refine fN ga λ_ s6 ⟨σ6,H6,J6,q6⟩=>?_;have gt:=ht _ s6 σ6 H6 _ J6 q6;rw[yP,yw,yA,yx] at gt;refine fN gt λb s7 ⟨H7,J7,q7⟩=>?_
   have KD:∀{σ':St} {H':Hp} {s':aq},Inv Y ([(s2.heap.objs.size,({ cls:=.type "list",data:=.seq its.toArray c }:Obj))]++q8 fp s5.heap) σ' H' s'->tn (i+1) s'.heap/\(∀b∈fp,H' b=none):=λ{σ' H' s'} J=>by
    refine⟨T.keep _ _ _ Mi λb hb o e=>(J.pin (b,o) (aJ _ (aJ _ (kx hb e)))).1,λb hb=>?_⟩;obtain⟨o,e,d⟩:=T.obj _ _ Mi b hb;exact (J.pin (b,o) (aJ _ (aJ _ (kx hb e)))).2.1
   cases b with
   | false =>
    have TV:∃m',m' < n/\W (i+1) m' ys σ6 H7:=by simpa using q7
    obtain⟨m',hm,w7⟩:=TV;obtain⟨t7,f7⟩:=KD J7;rw[if_neg aZ];exact⟨m',hm,i+1,ys,its,c,σ6,H7,J7.ly,rv,t7,f7,hz,w7⟩
   | true =>
    rw[if_pos rfl];have TV:te σ6 H7 λy H4=>∃m',m' < n/\W (i+1) m' (ys++[y]) σ6 H4:=by simpa using q7
    have ge:=he _ s7 σ6 H7 _ J7 TV;rw[yP,yw,yA,yx] at ge;refine fN ge λu8 s8 ⟨y,H8,J8,r8,m',hm,w8⟩=>?_;obtain⟨t8,f8⟩:=KD J8;have V4:=J8.ly;obtain⟨pe,pn,_,_,_⟩:=V4.pin _ (aJ _ (av.mpr rfl));dsimp only at pe pn;have eX:=rv.length;refine call_meets F.slot_list_append ⟨_,pe,rfl⟩ F.entry_list_append (F.args_list_append_2 _ _) (PySem.list_append s2.heap.objs.size its.toArray c u8 (by rw[aD];omega)) ⟨pe,?_⟩;have qe:=PySem.IsL.update pe (λa=>a.push u8)
    have Xe:(s8.heap.update s2.heap.objs.size (Obj.mapSeq λa=>a.push u8)).get? s2.heap.objs.size=some { cls:=.type "list",data:=.seq (its++[u8]).toArray (c+1) }:=by
     simpa using qe
    have J9:Inv Y [] σ6 H8 { s8 with heap:=s8.heap.update s2.heap.objs.size (Obj.mapSeq λa=>a.push u8),toks:=s8.toks }:=by
     have J0:Inv Y [] σ6 H8 s8:=V4.qx λp hp=>by cases hp
     refine J0.turned (it:=s2.heap.objs.size) (λb o hb e=>(aI s8.heap _ (Ne.symm hb)).trans e) pn (by rw[yl];exact TQ) (.inr (by rw[TR];exact am _)) W9 (λp hp=>?_);rw[V1] at hp;cases hp
    refine⟨m',hm,i+1,ys++[y],its++[u8],c+1,σ6,H8,Qf J9 Xe (λv z=>by cases z) pn,rv.append (.cons r8 .nil),?_,f8,by rw[aG,bo];omega,w8⟩;exact T.keep _ _ _ t8 λb hb o e=>(aI s8.heap _ (λ(z:s2.heap.objs.size=b)=>VZ (by rw[z];exact hb))).trans e
 have Qh:compEnvC sc cl P2.objs.size X.env=Y.env:=Qe.symm;show codeAny _ _ (.compStart _ 0 (.ref it) (.ref s2.heap.objs.size) (compEnvC sc cl P2.objs.size X.env)) _ _;rw[Qh];exact codeAny_compStart_list (loop _ rfl) (T.self _ 0 _ _ _ (T.keep _ _ _ Ip λb _ o e=>old b o e) (loop _ rfl))
noncomputable def Ft (t:TC):TE:=λσ H Q=>t σ H λys H'=>∀D,H' D=none->Q (.ref D) (eR H' D (.lst ys))
theorem IU (hc:X.calm=true)(hi:PI X tg iter wi)(hk:sc.kind=.function)(hm:iQ X.N X.env.scope sc N mp=true)
  (hb:∀(cl:List (Str × Addr)) (C:Addr) (s₂:aq) (H₂:Hp) (fp:List Addr),PG (ft X sc N cl C s₂ H₂ fp) tg g/\OJ (ft X sc N cl C s₂ H₂ fp) nW tc/\PE (ft X sc N cl C s₂ H₂ fp) oZ te)
  (hs:∀x,foldedSetIterable iter X.env x=pure x:=by rw[3]):PE X (.ListComp oZ [⟨tg,iter,nW,0⟩] sc pos) (Ft (ux wi mp g tc te)):=by
 intro pins s σ H Q I h;rw[eval_ListComp];refine uy (use:=none) hc hi hk (uw hm) hb I h hs λD C ys H' s' m I' hn f hD q=>?_;refine⟨m,hn,λh' MX=>?_⟩;obtain⟨f0,f1,_,f3,f4,f5⟩:=f;exact⟨.ref D,_,I'.turned (t':=s'.toks) (it:=C) (λb o hb e=>(MX.2 b hb).trans e) f0 f1 f3 f4 f5,rfl,q D hD⟩
noncomputable def Fu (i:Nat)(t:TC):TS:=λD σ H=>t σ H λys H'=>∀l,H' l=none->D.nx (σ.set i (some (.ref l))) (eR H' l (.lst ys))
theorem IV (hN:X.N.Nodup)(MY:X.N[i]? = some x)(hx:X.env.scope.names.lookup x=some .local)(hc:X.calm=true)(hi:PI X tg iter wi)(hk:sc.kind=.function)(hm:iQ X.N X.env.scope sc N mp=true)
  (hb:∀(cl:List (Str × Addr)) (C:Addr) (s₂:aq) (H₂:Hp) (fp:List Addr),PG (ft X sc N cl C s₂ H₂ fp) tg g/\OJ (ft X sc N cl C s₂ H₂ fp) nW tc/\PE (ft X sc N cl C s₂ H₂ fp) oZ te)
  (IW:swapsWith (.ListComp oZ [⟨tg,iter,nW,0⟩] sc pos) (some (.Name x py)) spos.line X.env=pure true:=by rfl)
  (hs:∀x,foldedSetIterable iter X.env x=pure x:=by rw[3]):PS X (.Assign [.Name x py] (.ListComp oZ [⟨tg,iter,nW,0⟩] sc pos) spos) (Fu i (ux wi mp g tc te)):=by
 intro pins s σ H D I h;rw[exec_Assign_Name_used _ _ _ _ IW];refine aa (wpAny_standAt (aa ?_));show ay _ X.A (do let _ <- comprehension (.ListComp oZ [⟨tg,iter,nW,0⟩] sc pos) sc X.env _ (newList []) false (eval iter X.env) (some (assign (.Name x py) X.env))) _ _ s;refine aa (fN (uy (use:=some (assign (.Name x py) X.env)) (Q:=λ_ s'=>SP X pins D .next s') hc hi hk (uw hm) hb I h hs λl C ys H' s' m I' hn f hD q=>?_) λ_ s' hq=>ai (ai hq));obtain⟨f0,f1,f2,f3,f4,f5⟩:=f;show ay _ _ (assign (.Name x py) X.env (.ref l)) _ _ s';refine wpAny_assign_Name (tX (v:=.ref l) I' hN MY (.inl hx) rfl (λMD Xf ⟨a,sb,ea⟩=>?_) (.inr hx))
 have Xg:C≠a:=by
  rcases ea with e | e
  .rw[e];exact f1
  .exact λz=>f4 x a e z.symm
 refine⟨m,hn.sameBut sb Xg,λh' MX=>?_⟩;exact⟨_,_,Xf.turned (t':=MD.toks) (it:=C) (λb o hb e=>(MX.2 b hb).trans e) f0 f1 f3 f4 f5,q l hD⟩
end
noncomputable def EK:List (List Int × ad)->List V->List (Key × V)
 | p::kvs,x::xs=>(.inl (p.1.headD 0),x)::EK kvs xs
 | _,_=>[]
noncomputable def HN:List (List Int × ad)->List V->List (List Key × V)
 | p::kvs,x::xs=>(p.1.map .inl,x)::HN kvs xs
 | _,_=>[]
noncomputable def wV (t:Bool)(kvs:List (List Int × ad))(xs:List V):HO:=match t with | true=>.dT (HN kvs xs) | false=>.dK (EK kvs xs)
theorem nX (h:some (HO.lst ys)=some (wV t kvs xs)):False:=by cases t<;>cases h
theorem BW (h:some (HO.tup ys)=some (wV t kvs xs)):False:=by cases t<;>cases h
noncomputable def mM (t:Bool)(kvs:List (List Int × ad)):List (ad × ad):=(.bool t,.none)::kvs.map λp=>(.tuple (p.1.map .int),p.2)
noncomputable def h8 (t:Bool)(kvs:List (List Int × ad)):ad:=.dict (mM t kvs)
mutual
def eB (S:List Addr)(H:Hp):ad->V->Prop
 | .none,v=>v=.gB
 | .bool b,v=>v=.bl b
 | .int i,v=>v=.int i
 | .str x,v=>v=.str x
 | .tuple ds,v=>∃a xs,v=.ref a/\H a=some (.tup xs)/\dP S H ds xs
 | .list ds,v=>∃a xs,v=.ref a/\H a=some (.lst xs)/\a ∉ S/\dP S H ds xs
 | .dict l,v=>∃a t kvs xs,v=.ref a/\l=mM t kvs/\H a=some (wV t kvs xs)/\a ∉ S/\(t=false->∀p∈kvs,p.1.length=1)/\f' S H l (.gB::xs)
def dP (S:List Addr)(H:Hp):List ad->List V->Prop
 | [],xs=>xs=[]
 | d::ds,xs=>∃x r,xs=x::r/\eB S H d x/\dP S H ds r
def f' (S:List Addr)(H:Hp):List (ad × ad)->List V->Prop
 | [],xs=>xs=[]
 | p::l,xs=>∃x r,xs=x::r/\zH S H p x/\f' S H l r
def zH (S:List Addr)(H:Hp):ad × ad->V->Prop
 | (_,d),x=>eB S H d x
end
structure Ext (S:List Addr) (H H':Hp):Prop where
 keep:∀b o,b ∉ S->H b=some o->H' b=some o
 tup:∀b xs,H b=some (.tup xs)->H' b=some (.tup xs)
theorem Ext.refl (S:List Addr)(H:Hp):Ext S H H:=⟨λ_ _ _ e=>e,λ_ _ e=>e⟩
theorem Ext.trans (a:Ext S H H1)(b:Ext S H1 H2):Ext S H H2:=⟨λc o hc e=>b.keep c o hc (a.keep c o hc e),λc xs e=>b.tup c xs (a.tup c xs e)⟩
theorem Ext.mono (a:Ext S H H')(h:∀b∈S,b∈S'):Ext S' H H':=⟨λb o hb e=>a.keep b o (λz=>hb (h b z)) e,a.tup⟩
theorem Ext.new (h:H p=none):Ext S H (eR H p o):=⟨λb u _ e=>by rw[dS (eF e h)];exact e,λb xs e=>by rw[dS (eF e h)];exact e⟩
theorem Ext.set (hp:p∈S)(h:H p=some (.lst xs)):Ext S H (eR H p o) :=
 ⟨λb u hb e=>by rw[dS (λ(z:b=p)=>hb (by rw[z];exact hp))];exact e,λb ys e=>by rw[dS (λz=>by rw[z,h] at e;cases e)];exact e⟩
theorem Ext.TX {S:List Addr}{H0 H:Hp}{p:Addr}{o:HO}{xs:List V}(a:Ext S H0 H)(h0:H0 p=none)(h:H p=some (.lst xs)):Ext S H0 (eR H p o) :=
 ⟨λb u hb e=>by rw[dS (λz=>by rw[z,h0] at e;cases e)];exact a.keep b u hb e,λb ys e=>by rw[dS (λz=>by rw[z,h0] at e;cases e)];exact a.tup b ys e⟩
theorem Ext.fresh (a:Ext S H0 H)(hp:p ∉ S)(h:H p=none):H0 p=none:=by
 cases e:H0 p with
 | none=>rfl
 | some o=>rw[a.keep p o hp e] at h;cases h
mutual
theorem eB.ext {S:List Addr}{H H':Hp}(x:Ext S H H'):∀{d:ad} {v:V},eB S H d v->eB S H' d v
 | .none,_,h=>h
 | .bool _,_,h=>h
 | .int _,_,h=>h
 | .str _,_,h=>h
 | .tuple ds,_,h=>by
  unfold eB at h ⊢;obtain⟨a,xs,e,ha,hr⟩:=h;exact⟨a,xs,e,x.tup a xs ha,dP.ext x hr⟩
 | .list ds,_,h=>by
  unfold eB at h ⊢;obtain⟨a,xs,e,ha,hs,hr⟩:=h;exact⟨a,xs,e,x.keep a _ hs ha,hs,dP.ext x hr⟩
 | .dict l,_,h=>by
  unfold eB at h ⊢;obtain⟨a,t,kvs,xs,e,el,ha,hs,hk,hr⟩:=h;exact⟨a,t,kvs,xs,e,el,x.keep a _ hs ha,hs,hk,f'.ext x hr⟩
theorem dP.ext {S:List Addr}{H H':Hp}(x:Ext S H H'):∀{ds:List ad} {vs:List V},dP S H ds vs->dP S H' ds vs
 | [],_,h=>h
 | d::ds,_,h=>by
  unfold dP at h ⊢;obtain⟨y,r,e,h1,h2⟩:=h;exact⟨y,r,e,eB.ext x h1,dP.ext x h2⟩
theorem f'.ext {S:List Addr}{H H':Hp}(x:Ext S H H'):∀{l:List (ad × ad)} {vs:List V},f' S H l vs->f' S H' l vs
 | [],_,h=>h
 | (_,d)::l,_,h=>by
  unfold f' zH at h ⊢;obtain⟨y,r,e,h1,h2⟩:=h;exact⟨y,r,e,eB.ext x h1,f'.ext x h2⟩
end
mutual
theorem eB.less {S S':List Addr}{H:Hp}(x:∀b∈S',b∈S):∀{d:ad} {v:V},eB S H d v->eB S' H d v
 | .none,_,h=>h
 | .bool _,_,h=>h
 | .int _,_,h=>h
 | .str _,_,h=>h
 | .tuple ds,_,h=>by
  unfold eB at h ⊢;obtain⟨a,xs,e,ha,hr⟩:=h;exact⟨a,xs,e,ha,dP.less x hr⟩
 | .list ds,_,h=>by
  unfold eB at h ⊢;obtain⟨a,xs,e,ha,hs,hr⟩:=h;exact⟨a,xs,e,ha,λz=>hs (x a z),dP.less x hr⟩
 | .dict l,_,h=>by
  unfold eB at h ⊢;obtain⟨a,t,kvs,xs,e,el,ha,hs,hk,hr⟩:=h;exact⟨a,t,kvs,xs,e,el,ha,λz=>hs (x a z),hk,f'.less x hr⟩
theorem dP.less {S S':List Addr}{H:Hp}(x:∀b∈S',b∈S):∀{ds:List ad} {vs:List V},dP S H ds vs->dP S' H ds vs
 | [],_,h=>h
 | d::ds,_,h=>by
  unfold dP at h ⊢;obtain⟨y,r,e,h1,h2⟩:=h;exact⟨y,r,e,eB.less x h1,dP.less x h2⟩
theorem f'.less {S S':List Addr}{H:Hp}(x:∀b∈S',b∈S):∀{l:List (ad × ad)} {vs:List V},f' S H l vs->f' S' H l vs
 | [],_,h=>h
 | (_,d)::l,_,h=>by
  unfold f' zH at h ⊢;obtain⟨y,r,e,h1,h2⟩:=h;exact⟨y,r,e,eB.less x h1,f'.less x h2⟩
end
section
theorem dP.nil:dP S H [] []:=by unfold dP;rfl
theorem dP.cons (h:eB S H d x)(t:dP S H ds xs):dP S H (d::ds) (x::xs):=by unfold dP;exact⟨x,xs,rfl,h,t⟩
theorem dP.of_cons (h:dP S H (d::ds) xs):∃x r,xs=x::r/\eB S H d x/\dP S H ds r:=by unfold dP at h;exact h
theorem dP.fz (h:dP S H [] xs):xs=[]:=by unfold dP at h;exact h
theorem dP.length:∀{ds:List ad} {xs:List V},dP S H ds xs->xs.length=ds.length
 | [],_,h=>by rw[h.fz];rfl
 | _::_,_,h=>by
  obtain⟨x,r,e,_,h2⟩:=h.of_cons;subst e;simp[h2.length]
theorem dP.get:∀{ds:List ad} {xs:List V} {i:Nat} {x:V},dP S H ds xs->xs[i]? = some x->∃d,ds[i]? = some d/\eB S H d x
 | [],_,i,x,h,e=>by rw[h.fz] at e;cases e
 | d::ds,_,0,x,h,e=>by
  obtain⟨y,r,e1,h1,h2⟩:=h.of_cons;subst e1;cases e;exact⟨d,rfl,h1⟩
 | d::ds,_,i+1,x,h,e=>by
  obtain⟨y,r,e1,h1,h2⟩:=h.of_cons;subst e1;obtain⟨d',q,h3⟩:=dP.get (i:=i) h2 (by simpa using e);exact⟨d',by simpa using q,h3⟩
theorem dP.at:∀{ds:List ad} {xs:List V} {i:Nat} {d:ad},dP S H ds xs->ds[i]? = some d->∃x,xs[i]? = some x/\eB S H d x
 | [],_,i,d,h,e=>by cases e
 | d::ds,_,0,d',h,e=>by
  obtain⟨y,r,e1,h1,h2⟩:=h.of_cons;subst e1;cases e;exact⟨y,rfl,h1⟩
 | d::ds,_,i+1,d',h,e=>by
  obtain⟨y,r,e1,h1,h2⟩:=h.of_cons;subst e1;obtain⟨x,q,h3⟩:=dP.at (i:=i) h2 (by simpa using e);exact⟨x,by simpa using q,h3⟩
theorem dP.append:∀{ds es:List ad} {xs ys:List V},dP S H ds xs->dP S H es ys->dP S H (ds++es) (xs++ys)
 | [],_,_,_,h,k=>by rw[h.fz];exact k
 | d::ds,_,_,_,h,k=>by
  obtain⟨y,r,e1,h1,h2⟩:=h.of_cons;subst e1;exact .cons h1 (dP.append h2 k)
theorem dP.take:∀{ds:List ad} {xs:List V} (n:Nat),dP S H ds xs->dP S H (ds.take n) (xs.take n)
 | _,_,0,_=>.nil
 | [],_,n+1,h=>by rw[h.fz];exact .nil
 | d::ds,_,n+1,h=>by
  obtain⟨y,r,e1,h1,h2⟩:=h.of_cons;subst e1;exact .cons h1 (dP.take n h2)
theorem dP.drop:∀{ds:List ad} {xs:List V} (n:Nat),dP S H ds xs->dP S H (ds.drop n) (xs.drop n)
 | _,_,0,h=>h
 | [],_,n+1,h=>by rw[h.fz];exact .nil
 | d::ds,_,n+1,h=>by
  obtain⟨y,r,e1,h1,h2⟩:=h.of_cons;subst e1;exact dP.drop n h2
theorem dP.reverse:∀{ds:List ad} {xs:List V},dP S H ds xs->dP S H ds.reverse xs.reverse
 | [],_,h=>by rw[h.fz];exact .nil
 | d::ds,_,h=>by
  obtain⟨y,r,e1,h1,h2⟩:=h.of_cons;subst e1;rw[di,di];exact (dP.reverse h2).append (.cons h1 .nil)
theorem dP.ints:∀(ns:List Int),dP S H (ns.map ad.int) (ns.map V.int)
 | []=>.nil
 | n::ns=>.cons (by unfold eB;rfl) (dP.ints ns)
theorem eB.tup (h:H a=some (.tup xs))(r:dP S H ds xs):eB S H (.tuple ds) (.ref a):=by unfold eB;exact⟨a,xs,rfl,h,r⟩
theorem eB.lst (h:H a=some (.lst xs))(hs:a ∉ S)(r:dP S H ds xs):eB S H (.list ds) (.ref a):=by unfold eB;exact⟨a,xs,rfl,h,hs,r⟩
theorem eB.int (i:Int):eB S H (.int i) (.int i):=by unfold eB;rfl
theorem eB.bl (b:Bool):eB S H (.bool b) (.bl b):=by unfold eB;rfl
theorem eB.gB:eB S H .none .gB:=by unfold eB;rfl
theorem eB.str (x:Str):eB S H (.str x) (.str x):=by unfold eB;rfl
theorem eB.fY (h:eB S H (.tuple ds) v):∃a xs,v=.ref a/\H a=some (.tup xs)/\dP S H ds xs:=by unfold eB at h;exact h
theorem eB.fL (h:eB S H (.list ds) v):∃a xs,v=.ref a/\H a=some (.lst xs)/\a ∉ S/\dP S H ds xs:=by unfold eB at h;exact h
theorem f'.Dz:∀{l:List (ad × ad)} {xs:List V},f' S H l xs↔dP S H (l.map (·.2)) xs
 | [],xs=>by unfold f';simp[dP]
 | (_,d)::l,xs=>by
  unfold f' zH;rw[ak,dP];exact⟨λ⟨x,r,e,h1,h2⟩=>⟨x,r,e,h1,f'.Dz.mp h2⟩,λ⟨x,r,e,h1,h2⟩=>⟨x,r,e,h1,f'.Dz.mpr h2⟩⟩
theorem ij (t:Bool)(kvs:List (List Int × ad)):(mM t kvs).map (·.2)=.none::kvs.map (·.2):=by unfold mM;rw[ak,bv];rfl
theorem eB.OK (h:H a=some (wV t kvs xs))(hs:a ∉ S)(hk:t=false->∀p∈kvs,p.1.length=1)(r:dP S H (kvs.map (·.2)) xs):eB S H (h8 t kvs) (.ref a):=by
 unfold h8 eB;exact⟨a,t,kvs,xs,rfl,rfl,h,hs,hk,f'.Dz.mpr (by rw[ij];exact .cons .gB r)⟩
theorem eB.o8 (h:eB S H (.dict l) v):∃a t kvs xs,v=.ref a/\l=mM t kvs/\H a=some (wV t kvs xs)/\a ∉ S/\(t=false->∀p∈kvs,p.1.length=1)/\dP S H (kvs.map (·.2)) xs:=by
 unfold eB at h;obtain⟨a,t,kvs,xs,e,rfl,ha,hs,hk,hr⟩:=h;have:=f'.Dz.mp hr;rw[ij] at this;obtain⟨x,r,e2,_,h2⟩:=this.of_cons;injection e2 with _ e3;subst e3;exact⟨a,t,kvs,xs,e,rfl,ha,hs,hk,h2⟩
theorem eB.eO (h:eB S H (.int i) v):v=.int i:=by unfold eB at h;exact h
theorem eB.lD (h:eB S H (.bool b) v):v=.bl b:=by unfold eB at h;exact h
theorem eB.kB (h:eB S H (.str x) v):v=.str x:=by unfold eB at h;exact h
theorem eB.vH (h:eB S H .none v):v=.gB:=by unfold eB at h;exact h
end
mutual
theorem eB.reads {P:aO}{w:World}{S:List Addr}{H:Hp}{h:Heap}(ok:jT P w H h):∀{d:ad} {v:V} {u:ae},d.canLay0=true->eB S H d v->RelV v u->∃as,Reads h u d as
 | .none,v,u,_,r,q=>by cases r.vH;cases (show u=ae.none from q);exact⟨_,.none⟩
 | .bool b,v,u,_,r,q=>by cases r.lD;cases (show u=ae.bool b from q);exact⟨_,.bool b⟩
 | .int i,v,u,_,r,q=>by cases r.eO;obtain⟨t,e⟩:=(show ∃t,u=ae.int i t from q);cases e;exact⟨_,.int i t⟩
 | .str x,v,u,_,r,q=>by cases r.kB;obtain⟨t,e⟩:=(show ∃t,u=ae.str x t from q);cases e;exact⟨_,.str x t⟩
 | .tuple ds,v,u,c0,r,q=>by
  obtain⟨a,xs,rfl,ha,hr⟩:=r.fY;cases (show u=ae.ref a from q);obtain⟨_,its,rv,o,e,c,n,d,_⟩:=ok a _ ha;obtain⟨as,ra⟩:=dP.reads ok (by simpa [ad.canLay0] using c0) hr rv;exact⟨_,.tuple e c d (by simpa using ra)⟩
 | .list ds,v,u,c0,r,q=>by
  obtain⟨a,xs,rfl,ha,_,hr⟩:=r.fL;cases (show u=ae.ref a from q);obtain⟨_,its,n,rv,e⟩:=ok a _ ha;obtain⟨as,ra⟩:=dP.reads ok (by simpa [ad.canLay0] using c0) hr rv;exact⟨_,.list e rfl rfl (by simpa using ra)⟩
 | .dict _,v,u,c0,r,q=>by simp[ad.canLay0] at c0
theorem dP.reads {P:aO}{w:World}{S:List Addr}{H:Hp}{h:Heap}(ok:jT P w H h):∀{ds:List ad} {xs:List V} {us:List ae},ad.canLayAll0 ds=true->dP S H ds xs->ee xs us->∃as,ReadsAll h us ds as
 | [],xs,us,_,r,q=>by
  cases r.fz;cases q;exact⟨_,.nil⟩
 | d::ds,xs,us,c0,r,q=>by
  simp only[ad.canLayAll0,bA] at c0;obtain⟨x,t,rfl,h1,h2⟩:=r.of_cons
  cases q with
  | cons q1 q2 =>
   obtain⟨as,a1⟩:=eB.reads ok c0.1 h1 q1;obtain⟨bs,b1⟩:=dP.reads ok c0.2 h2 q2;exact⟨_,.cons a1 b1⟩
end
structure Good (d:ad):Prop where
 lay:d.canLay0=true
 Fv:d.showable=true
 short:d.leavesShort 60=true
 deep:d.depth<=60
 Qi:d.weight<=200000
theorem Good.nodict (g:Good d):d.hasDict=false:=ad.hasDict_of_canLay d g.lay
theorem Good.fits (g:Good d):d.shown.length<=ax:=by
 have h:=ad.shown_le 60 (!2) d g.short;have h2:=g.Qi;rw[sizeLine_eq];omega
section
theorem rC (hr:fm k X.A):gj X (.builtin "repr") (λxs H Q=>∃S d v,xs=[v]/\eB S H d v/\Good d/\Q (.str d.shown) H):=by
 intro pins s σ H xs us Q I r h;obtain⟨S,d,v,rfl,rp,g,q⟩:=h;obtain⟨u,rfl,ru⟩:=vals1 r;have MZ:=hr.units;have fin:∀(h':Heap) (t:Tok) (tk:Nat),(∀b o,s.heap.get? b=some o->h'.get? b=some o)->EP X pins σ Q (.str d.shown t) { s with heap:=h',toks:=tk }:=λh' t tk kp=>⟨.str d.shown,H,I.kept kp,⟨t,rfl⟩,q⟩;have IY:∀(t:Tok) (tk:Nat),EP X pins σ Q (.str d.shown t) { s with toks:=tk }:=λt tk=>fin s.heap t tk λ_ _ e=>e
 cases d with
 | none=>cases rp.vH;cases (show u=ae.none from ru);exact P.repr_of_none (IY _ _)
 | bool b=>cases rp.lD;cases (show u=ae.bool b from ru);exact P.repr_of_bool (IY _ _)
 | int i=>cases rp.eO;obtain⟨t,e⟩:=(show ∃t,u=ae.int i t from ru);cases e;exact P.repr_of_int (by simpa [ad.showable] using g.Fv) (IY _ _)
 | str x=>cases rp.kB;obtain⟨t,e⟩:=(show ∃t,u=ae.str x t from ru);cases e;exact P.repr_of_str (IY _ _) g.fits
 | tuple ds =>
  obtain⟨as,ra⟩:=eB.reads I.hok g.lay rp ru;obtain⟨a,xs,rfl,_⟩:=rp.fY;cases (show u=ae.ref a from ru);exact repr_of_reads' ra g.Fv (ad.noDict_hsm g.nodict) hr.gd (by have:=g.deep;omega) (λ_ _ e=>e) (λh' t tk kp=>fin h' t tk kp) g.fits
 | list ds =>
  obtain⟨as,ra⟩:=eB.reads I.hok g.lay rp ru;obtain⟨a,xs,rfl,_⟩:=rp.fL;cases (show u=ae.ref a from ru);exact repr_of_reads' ra g.Fv (ad.noDict_hsm g.nodict) hr.gd (by have:=g.deep;omega) (λ_ _ e=>e) (λh' t tk kp=>fin h' t tk kp) g.fits
 | dict _=>have z:=g.lay;simp[ad.canLay0] at z
noncomputable def TY (neg:Bool):R2:=λx y H Q=>∃S dx dy,eB S H dx x/\eB S H dy y/\dx.canLay0=true/\dy.canLay0=true/\dx.depth<=60/\Q (.bl (if neg then !PyData.eqv dx dy else ad.eqv dx dy)) H
theorem M0 (hr:fm k X.A):jU X (compareOp .NotEq) (TY true):=by
 intro pins s σ H x y v u Q I rx ry h;obtain⟨S,dx,dy,h1,h2,c1,c2,d1,q⟩:=h;obtain⟨as,ra⟩:=eB.reads I.hok c1 h1 rx;obtain⟨bs,rb⟩:=eB.reads I.hok c2 h2 ry;have MZ:=hr.units;exact SeqAt.compareNe_reads ra rb c1 c2 (!1) ⟨.bl _,H,I,rfl,q⟩
theorem Fw:gj X (.builtin "isinstance") (λxs H Q=>∃x t c b,xs=[x,.ty c]/\mG X.K H x (.type t)/\W.kitOne X.K (.type t) (.type c)=some b/\Q (.bl b) H):=by
 intro pins s σ H xs us Q I r h;obtain⟨x,t,c,b,rfl,ty,e,q⟩:=h;obtain⟨u,u2,rfl,rx,rc⟩:=vals2 r;cases (show u2=ae.type c from rc);exact Dn I rx ty e λtk=>⟨.bl b,H,I.tok tk,rfl,q⟩
end
noncomputable def TZ:ad->String
 | .none => "NoneType"
 | .bool _ => "bool"
 | .int _ => "int"
 | .str _ => "str"
 | .list _ => "list"
 | .tuple _ => "tuple"
 | .dict _ => "dict"
theorem eB.ty {K:W.Frag}{S:List Addr}{H:Hp}{d:ad}{v:V}(h:eB S H d v):mG K H v (.type (TZ d)):=by
 cases d with
 | none=>cases h.vH;exact .gB
 | bool b=>cases h.lD;exact .bl b
 | int i=>cases h.eO;exact .int i
 | str x=>cases h.kB;exact .str x
 | tuple ds=>obtain⟨a,xs,rfl,ha,_⟩:=h.fY;exact .tup ha
 | list ds=>obtain⟨a,xs,rfl,ha,_⟩:=h.fL;exact .lst ha
 | dict _ =>
  obtain⟨a,t,kvs,xs,rfl,_,ha,_⟩:=h.o8
  cases t with
  | true=>exact .dT ha
  | false=>exact .dK ha
end L2
namespace PySem
open Sem (wp)
open AutoSeq1 (wpAny_loadPart')
end PySem
namespace L2
open PySem PySem.Spec PyProof.Rows
noncomputable def vI (lo hi:Int):List V:=(List.range (hi - lo).toNat).map λ(k:Nat)=>V.int (lo+k)
section
variable {X:Cx}
theorem Fy:gj X (.type "range") (λxs H Q=>∃j:Int,xs=[.int j]/\∀p,H p=none->Q (.ref p) (eR H p (.Kg 0 j))):=by
 intro pins s σ H xs us Q I r h;obtain⟨j,rfl,q⟩:=h;obtain⟨u,rfl,ru⟩:=vals1 r;obtain⟨t,rfl⟩:=ru;refine call_range_1 ?_;refine⟨.ref s.heap.objs.size,_,I.laid (o:=.Kg 0 j) (λb o e=>ah _ e) (am _) ⟨_,_,_,aH _ rfl⟩,rfl,q _ (I.hok.fresh (am _))⟩
theorem DA {lo hi:Int}{acc:Array ae}(h:ItemsOf (λi v=>∃t,v=ae.int (lo+i * 1) t) acc (hi - lo).toNat):ee (vI lo hi) acc.toList:=by
 obtain⟨hs,Fz⟩:=h;unfold vI
 have:∀(l:List ae) (k:Nat),(∀j v,l[j]? = some v->∃t,v=ae.int (lo+((k+j:Nat):Int)) t)->ee ((List.range' k l.length).map λ(k:Nat)=>V.int (lo+k)) l:=by
  intro l
  induction l with
  | nil=>intro k _;exact .nil
  | cons v l ih =>
   intro k hv;rw[ap,List.range'_succ,ak];refine .cons (hv 0 v rfl) (ih (k+1) λj w hw=>?_);obtain⟨t,e⟩:=hv (j+1) w (by simpa using hw);exact⟨t,by rw[e];congr 2;omega⟩
 have q:=this acc.toList 0 λj v hv=>by
  obtain⟨t,e⟩:=Fz j v (by simpa using hv);exact⟨t,by rw[e,Int.mul_one,cW]⟩
 rw[List.range_eq_range',<- hs];simpa using q
theorem FA (lo hi:Int):Builtin.Range.rangeSize lo hi 1=((hi - lo).toNat:Int):=by rw[rangeSize_one];split<;>omega
theorem tG (hc:X.calm=true):gj X (.type "list") (λxs H Q=>∃p lo hi,xs=[.ref p]/\H p=some (.Kg lo hi)/\(-(2 ^ 62)<=lo/\lo<2 ^ 62/\-(2 ^ 62)<=hi/\hi<2 ^ 62)/\(hi - lo).toNat<=2 ^ 24/\∀l,H l=none->Q (.ref l) (eR H l (.lst (vI lo hi)))):=by
 intro pins s σ H xs us Q I r h;obtain⟨p,lo,hi,rfl,hp,⟨h1,h2,h3,h4⟩,hl,q⟩:=h;obtain⟨u,rfl,ru⟩:=vals1 r;cases ru;obtain⟨t,u,v,e⟩:=I.hok p _ hp;refine call_list_range (I.ok.hd hc) e (small_one h1 h2 h3 h4) (FA lo hi) hl λh' tk mW c' kp e' Fz=>?_;have hv:=DA Fz;have eX:=hv.length
 have hr:(vI lo hi).length<=ax:=by
  unfold vI;rw[aj,b9,sizeLine_eq];omega
 refine⟨.ref s.heap.objs.size,_,I.laid kp (am _) (show fu X.prog X.w _ h' _ (.lst (vI lo hi)) from ⟨hr,mW.toList,c',hv,by simpa using e'⟩),rfl,q _ (I.hok.fresh (am _))⟩
noncomputable def IZ:V->List V->Hp->VK->Prop:=λx vs H Q=>∃l xs i y,x=.ref l/\vs=[.int i,y]/\H l=some (.lst xs)/\xs.length<ax/\0<=i/\i<2 ^ 62/\Q .gB (eR H l (.lst (xs.take i.toNat++y::xs.drop i.toNat)))
theorem DB:P5 X "list.insert" IZ:=by
 intro pins s σ H x vs v us Q I rx rv h;obtain⟨l,xs,i,y,rfl,rfl,hH,hz,h0,h1,q⟩:=h;cases rx;obtain⟨u,u2,rfl,⟨t,e1⟩,ru⟩:=rv.two;subst e1;obtain⟨z,its,n,r,hl,e⟩:=I.vC hH;refine call_meets F.slot_list_insert ⟨_,e,rfl⟩ F.entry_list_insert (F.args_list_insert_3 _ _ _) (AutoSeq1.list_insert_list_int_val_1 l its.toArray n i t u2 (by rw[fitsIndex_both (!1) (!1)];decide) (by rw[aD];omega)) ⟨e,?_⟩;refine⟨.gB,_,I.Fh (its':=its.take i.toNat++u2::its.drop i.toNat) hH e ?_ ((r.take i.toNat).append (.cons ru (r.drop i.toNat))) ?_,rfl,q⟩
 .have hi:¬ i<0:=by omega
  simp only[if_neg hi,aD];apply Array.ext';simp;by_cases hc:i.toNat<=its.length
  .rw[Nat.min_eq_left hc,show (its.drop i.toNat).take (its.length - i.toNat)=its.drop i.toNat from bC (by rw[cO];exact am _)]
  .rw[Nat.min_eq_right (!1)]
   simp[bC (show its.length<=i.toNat by omega),cE (show its.length<=i.toNat by omega)]
 .rw[aG,bO,ap,cO]
  omega
end
section
theorem Qj (T:String)(hg:Gl X x)(hm:X.mg x=none)(hv:bootBuiltins x=some (.type T))(hn:x ≠ "__name__" := by decide)(hd:(x == ("__debug__" : Str))=false:=by decide):PE X (.Name x pos) (tC (.ty T)):=Ic hg hm hv rfl hn hd
noncomputable def Qk (t u:TS):TS:=λD σ H=>∃M:St->Hp->Prop,t { D with nx:=M } σ H/\∀σ' H',M σ' H'->u D σ' H'
theorem I0 {st:Stmt}{rest:List Stmt}{t u:TS}(h1:PS X st t)(h2:ze X rest u):ze X (st::rest) (Qk t u):=by
 intro pins s σ H D I h;obtain⟨M,q,k⟩:=h;refine wpAny_execs_cons (fN (h1 pins s σ H { D with nx:=M } I q) λf s1 e=>?_)
 cases f with
 | next=>obtain⟨σ1,H1,I1,m1⟩:=e;exact h2 pins s1 σ1 H1 D I1 (k σ1 H1 m1)
 | brk=>exact e
 | cont=>exact e
 | ret u=>exact e
theorem M1 {α:Type}{xs:List α}{i:Int}(h0:0<=i)(h1:i<xs.length):∃v,rk xs i=some v/\xs[i.toNat]? = some v:=by
 have ig:i.toNat<xs.length:=by omega
 refine⟨xs[i.toNat],?_,by simp[ig]⟩;unfold rk Kx;rw[if_pos h0,if_pos h1];simp[ig]
end
noncomputable def e8:Expr->Bool
 | .Starred ..=>false
 | _=>true
theorem eV (h:e8 e=true):starEach (e::es) env=(false,eval e env)::starEach es env:=by
 cases e<;>first | rfl | cases h
theorem gI:∀{es:List Expr},es.all e8=true->(backTo pos (starEach es env)).any (·.1)=false
 | [],_=>rfl
 | e::es,h=>by
  rw[List.all_cons,bA] at h;rw[eV h.1];show (backTo pos ((false,eval e env)::starEach es env)).any (·.1)=false;have ih:=gI (pos:=pos) (env:=env) h.2;show (false || (backTo pos (starEach es env)).any (·.1))=false;rw[ih];rfl
theorem rD:∀{es:List Expr},es.all e8=true->(backTo pos (starEach es env)).all (λx=>!x.1)=true
 | [],_=>rfl
 | e::es,h=>by
  rw[List.all_cons,bA] at h;rw[eV h.1];have ih:=rD (pos:=pos) (env:=env) h.2;show (true && (backTo pos (starEach es env)).all (λx=>!x.1))=true;rw[ih];rfl
theorem iU (h:(e::es).all e8=true):e8 e=true/\es.all e8=true:=by
 rw[List.all_cons,bA] at h;exact h
structure QE (X:Cx) (e:Expr) (t:TE):Prop where run:PE X e t
structure QT (X:Cx) (e:Expr) (t:TT):Prop where run:PT X e t
structure QW (X:Cx) (e:Expr) (t:TT):Prop where run:PW X e t
structure QA (X:Cx) (es:List Expr) (t:TA):Prop where
 run:PA X es t
 ns:es.all e8=true
structure QS (X:Cx) (st:Stmt) (t:TS):Prop where run:PS X st t
structure uz (X:Cx) (st:List Stmt) (t:TS):Prop where run:ze X st t
structure QG (X:Cx) (e:Expr) (t:TG):Prop where run:PG X e t
structure KH (X:Cx) (es:List Expr) (t:L7):Prop where run:Pn X es t
structure QI (X:Cx) (tg iter:Expr) (t:TI):Prop where run:PI X tg iter t
structure QO (X:Cx) (e:Option Expr) (t:TO):Prop where run:PO X e t
structure QK (X:Cx) (nW:List Expr) (t:TT):Prop where run:OJ X nW t
section
variable {X:Cx}{a b c e o i' tg iter oZ:Expr}{es:List Expr}{ta tb tc te to ti:TE}{tA Ie:TT}{t:TA}{pos p gk fJ p2:Pos}{k:Nat}{x name:Str}{ps:List Str}{sp:Sp}{id T:String}{rest:List Expr}
theorem qv (i:Nat)(hN:X.N[i]? = some x:=by rfl)(hv:s9 X.env.scope x:=by (first | exact Or.inl rfl | exact Or.inr (Or.inl rfl) | exact Or.inr (Or.inr rfl)))(hd:(x == ("__debug__" : Str))=false:=by decide)
  (gP:(x == ("__classdict__" : Str))=false:=by decide):QE X (.Name x pos) (LO i):=⟨LP hN hv hd gP⟩
theorem eC {i j pos}:QE X (.Constant (.int i) j pos) (tC (.int i)):=⟨LQ⟩
theorem FC {b j pos}:QE X (.Constant (.bool b) j pos) (tC (.bl b)):=⟨Pe⟩
theorem M3 {j pos}:QE X (.Constant .none j pos) (tC .gB):=⟨LR⟩
theorem M4 {x j pos}:QE X (.Constant (.str x) j pos) (tC (.str x)):=⟨LS⟩
theorem KP (T:String)(hg:Gl X x)(hm:X.mg x=none)(hv:bootBuiltins x=some (.type T))(hn:x ≠ "__name__" := by decide)(hd:(x == ("__debug__" : Str))=false:=by decide):QE X (.Name x pos) (tC (.ty T)):=⟨Qj T hg hm hv hn hd⟩
theorem BX (hg:Gl X x)(hm:X.mg x=some u)(r:RelV v u)(hd:(x == ("__debug__" : Str))=false:=by decide):QE X (.Name x pos) (tC v):=⟨BF hg hm r hd⟩
theorem gr (ho:jU X (binaryOp op) r)(ha:QE X a ta)(hb:QE X b tb):QE X (.BinOp a op b pos) (Iu r ta tb):=⟨Pw ho ha.run hb.run⟩
theorem Ql (ho:Se X (unaryOp op) r)(ha:QE X a ta):QE X (.UnaryOp op a pos) (VR r ta):=⟨Px ho ha.run⟩
theorem I8 (ho:jU X (compareOp op) r)(ha:QE X a ta)(hb:QE X b tb)(hm:behindInMarks op b=false):QE X (.Compare a [op] [b] pos) (Iu r ta tb):=⟨Iw ho ha.run hb.run hm⟩
theorem nY (ho:jU X (compareOp op) r)(ha:QE X a ta)(hb:QE X b tb)(hm:behindInMarks op b=false):QT X (.Compare a [op] [b] pos) (Kt (Iu r ta tb)):=⟨Iy ho ha.run hb.run hm⟩
theorem zI (h:QE X e te)(he:∀mK,isTrue e X.env mK=(do let v <- mK;standAt e.pos;holding [v] (truthy v)):=by rw[3]):QT X e (tB te):=⟨LW h.run he⟩
theorem BY (ha:QT X a tA):QW X (.BoolOp .And [a] pos) tA:=⟨pw_and1 ha.run⟩
theorem M5 (ha:QT X a tA):QW X (.BoolOp .Or [a] pos) tA:=⟨pw_or1 ha.run⟩
theorem FD (ha:QT X a tA)(hb:QW X (.BoolOp .And (b::rest) pos) Ie):QW X (.BoolOp .And (a::b::rest) pos) (Pf tA Ie):=⟨pw_and ha.run hb.run⟩
theorem Qm (ha:QT X a tA)(hb:QW X (.BoolOp .Or (b::rest) pos) Ie):QW X (.BoolOp .Or (a::b::rest) pos) (VO tA Ie):=⟨pw_or ha.run hb.run⟩
theorem QW.pt (h:QW X e tA):QT X e tA:=⟨h.run.pt⟩
theorem M6 (ha:QT X a tA):QT X (.UnaryOp .Not a pos) (Pg tA):=⟨LX ha.run⟩
theorem zJ (ha:QE X a ta):QE X (.UnaryOp .Not a pos) (Kn ta):=⟨LY ha.run⟩
theorem FE (hc:QT X c tA)(ha:QE X a ta)(hb:QE X b tb):QE X (.IfExp c a b pos) (VP tA ta tb):=⟨EW hc.run ha.run hb.run⟩
theorem eY:QA X [] Mv:=⟨Mw,rfl⟩
theorem gm (ha:QE X e te)(hr:QA X es t)(hs:e8 e=true:=by rfl):QA X (e::es) (E8 te t):=⟨IB ha.run hr.run (eV hs),by rw[List.all_cons,hs,hr.ns];rfl⟩
theorem zK (h:QA X es t):QE X (.List es pos) (PK t):=⟨My h.run⟩
theorem FF {x1}(h:QA X es t):QE X (.Tuple es x1 pos) (PJ t):=⟨Mx h.run⟩
theorem iV (hr:HL X r)(ha:QE X a ta)(hb:QE X b tb)(hs:vA b):QE X (.Subscript a b pos) (Iu r ta tb):=⟨PV hr ha.run hb.run hs⟩
theorem BZ:QO X none BN:=⟨IE⟩
theorem B0 (h:QE X e te):QO X (some e) (Kw te):=⟨IF h.run⟩
theorem xp {r:V->Option Int->Option Int->Hp->VK->Prop}{lo hi:Option Expr}{tl th:TO}(hr:HK X r)(he:QE X e te)(hl:QO X lo tl)(hu:QO X hi th):QE X (.Subscript e (.Slice lo hi none p2) pos) (VU r te tl th):=⟨Fd hr he.run hl.run hu.run⟩
theorem lE (D:eL X.prog X.w X.K X.mg X.base k x ps sp)(hr:fm k X.A)(ha:QA X (e::es) t)(hg:Gl X x:=by rfl)(jj:(x == ("__debug__" : Str))=false:=by decide) :
  QE X (.Call (.Name x p) (e::es) [] pos) (rA sp t):=⟨Fn D hr ha.run hg jj (eV (iU ha.ns).1) (gI (iU ha.ns).2)⟩
theorem fO {r:List V->Hp->VK->Prop}(hc:gj X (.builtin id) r)(hg:Gl X x)(hm:X.mg x=none)(hv:bootBuiltins x=some (.builtin id))(ha:QA X (e::es) t)(hn:x ≠ "__name__" := by decide)(jj:(x == ("__debug__" : Str))=false:=by decide) :
  QE X (.Call (.Name x p) (e::es) [] pos) (PQ r t):=⟨E9 hc hg hm hv ha.run hn jj (eV (iU ha.ns).1) (gI (iU ha.ns).2)⟩
theorem jb (hc:gj X (.type T) r)(hg:Gl X x)(hm:X.mg x=none)(hv:bootBuiltins x=some (.type T))(ha:QA X (e::es) t)(hn:x ≠ "__name__" := by decide)(jj:(x == ("__debug__" : Str))=false:=by decide) :
  QE X (.Call (.Name x p) (e::es) [] pos) (PQ r t):=⟨Dq hc hg hm hv ha.run hn jj (eV (iU ha.ns).1) (gI (iU ha.ns).2)⟩
theorem Qn {r:V->List V->Hp->VK->Prop}(pa:PlainAttrs T)(slot:Slot T name id)(Fg:typeOf (.builtin id)=pure (.type "method_descriptor"))(hm:Fe X id r)(ho:QE X o to)(ha:QA X (e::es) t)
  (jW:attributeBase o name X.env (eval o X.env)=eval o X.env:=by rfl) (hl:decide ((e::es).length+0+0<30)=true:=by rfl)
  (jX:(gk.endLine == fJ.line)=true:=by rfl):QE X (.Call (.Attribute o name gk) (e::es) [] fJ) (Ts X.K T r to t):=by
 refine⟨P4 pa slot Fg hm ho.run ha.run jW ?_ jX (eV (iU ha.ns).1) (gI (iU ha.ns).2)⟩;rw[rD ha.ns];exact hl
theorem nZ (hN:X.N.Nodup)(hi:X.N[i]? = some x)(hx:Loc X.env.scope x)(hf:X.fn x=true\/X.env.scope.names.lookup x=some .local:=by (first | exact .inl rfl | exact .inr rfl | assumption)):QG X (.Name x pos) (w9 i):=⟨Ij hN hi hx hf⟩
theorem I9:KH X [] Pp:=⟨Ik⟩
theorem FG (h1:QG X e tt)(h2:KH X es u)(hs:(assignEach (e::es) X.env).map (·.2)=assign e X.env::(assignEach es X.env).map (·.2):=by rfl):KH X (e::es) (Kq tt u):=⟨EY h1.run h2.run hs⟩
theorem M7 (hc:X.calm=true)(h:KH X es tt)(hn:(assignEach es X.env).length=n:=by rfl)(wU:(assignEach es X.env).findIdx? (·.1)=none:=by rfl):QG X (.Tuple es k pos) (Pq X.K n tt):=⟨L9 hc h.run hn wU⟩
theorem vJ (ho:QE X o to)(hi:QE X i' ti)(hs:L8 X tt)
  (ha:∀v,assign (.Subscript o i' pos) X.env v=(do
   let ov <- holding [v] (eval o X.env);let iv <- holding [v,ov] (eval i' X.env)
   standAt pos
   holding [v,ov,iv] (setItem ov iv v)
   release [v,ov,iv] []):=by rw[3]):QG X (.Subscript o i' pos) (Pr to ti tt):=⟨Ma ho.run hi.run hs ha⟩
theorem Ja (hl:QE X a ta):QI X tg a (E3 X.K ta):=⟨Io hl.run⟩
theorem M8 (hl:QE X a ta):QI X tg a (Md X.K ta):=⟨Me hl.run⟩
theorem uA (hg:Gl X "range")(hm:X.mg "range" = none)(ha:QA X [a] t):QI X tg (.Call (.Name "range" p) [a] [] pos) (Kr t):=⟨Df hg hm ha.run (eV (iU ha.ns).1)⟩
theorem M9:QK X [] Kz:=⟨IQ⟩
theorem zL (h:QT X c tA):QK X [c] tA:=⟨IS h.run⟩
variable {st:Stmt}{zf body Qo:List Stmt}{ts us:TS}{nW:List Expr}{sc:Scope}{N:List Str}{mp:List (Option Nat)}{wi:TI}{g:TG}
theorem n6:uz X [] Ko:=⟨Ig⟩
theorem e9 (h1:QS X st ts)(h2:uz X zf us):uz X (st::zf) (Ph ts us):=⟨EX h1.run h2.run⟩
theorem B1 (h1:QS X st ts)(h2:uz X zf us):uz X (st::zf) (Qk ts us):=⟨I0 h1.run h2.run⟩
theorem gF (h1:QS X st ts):uz X [st] ts:=⟨Ih h1.run⟩
theorem B2 (he:QE X e te)(hs:swapsWith e none pos.line X.env=pure false:=by rfl):QS X (.Expr e pos) (Kp te):=⟨Ii he.run hs⟩
theorem kC (he:QE X e te):QS X (.Return (some e) pos) (Pj te):=⟨LZ he.run⟩
theorem xq (hc:QT X c tA)(ha:uz X body ts)(hb:uz X Qo us):QS X (.If c body Qo pos) (Pk tA ts us):=⟨Pm hc.run ha.run hb.run⟩
theorem jk (hN:X.N.Nodup)(hi:X.N[i]? = some x)(hx:Loc X.env.scope x)(he:QE X e te)(hs:swapsWith e (some (.Name x iD)) pos.line X.env=pure false:=by rfl)
  (hf:X.fn x=true\/X.env.scope.names.lookup x=some .local:=by (first | exact .inl rfl | exact .inr rfl | assumption)):QS X (.Assign [.Name x iD] e pos) (EZ te (w9 i)):=⟨Mc hN hi hx he.run hs hf⟩
theorem vK (he:QE X e te)(hg:QG X tg g)(hs:swapsWithSole [tg] e pos.line X.env=pure false:=by rfl)(hw:swappedStores [tg] e X.env=pure none:=by rfl)
  (h1:(assignEach [tg] X.env).map (·.2)=[assign tg X.env]:=by rfl):QS X (.Assign [tg] e pos) (EZ te g):=⟨Mb he.run hg.run hs hw h1⟩
theorem zM (hp:PassesOwn (model X.prog X.w) X.A X.env X.xe)(hc:X.calm=true)(hi:QI X tg iter wi)(hg:QG X tg g)(hb:uz X body ts)(hs:∀x,foldedSetIterable iter X.env x=pure x:=by rw[3]) :
  QS X (.For tg iter body [] pos) (Pt wi g ts):=⟨Mf hp hc hi.run hg.run hb.run hs⟩
theorem FH (hp:PassesOwn (model X.prog X.w) X.A X.env X.xe)(hc:QT X c tA)(hb:uz X body ts):QS X (.While c body [] pos) (E1 tA ts):=⟨E2 hp hc.run hb.run⟩
theorem vL (hc:X.calm=true)(hi:QI X tg iter wi)(hk:sc.kind=.function)(hm:iQ X.N X.env.scope sc N mp=true)
  (hb:∀(cl:List (Str × Addr)) (C:Addr) (s₂:aq) (H₂:Hp) (fp:List Addr),QG (ft X sc N cl C s₂ H₂ fp) tg g/\QK (ft X sc N cl C s₂ H₂ fp) nW tA/\QE (ft X sc N cl C s₂ H₂ fp) oZ te)
  (hs:∀x,foldedSetIterable iter X.env x=pure x:=by rw[3]):QE X (.ListComp oZ [⟨tg,iter,nW,0⟩] sc pos) (Ft (ux wi mp g tA te)) :=
 ⟨IU hc hi.run hk hm (λcl C s₂ H₂ fp=>⟨(hb cl C s₂ H₂ fp).1.run,(hb cl C s₂ H₂ fp).2.1.run,(hb cl C s₂ H₂ fp).2.2.run⟩) hs⟩
theorem Jb (hN:X.N.Nodup)(MY:X.N[i]? = some x)(hx:X.env.scope.names.lookup x=some .local)(hc:X.calm=true)(hi:QI X tg iter wi)(hk:sc.kind=.function)(hm:iQ X.N X.env.scope sc N mp=true)
  (hb:∀(cl:List (Str × Addr)) (C:Addr) (s₂:aq) (H₂:Hp) (fp:List Addr),QG (ft X sc N cl C s₂ H₂ fp) tg g/\QK (ft X sc N cl C s₂ H₂ fp) nW tA/\QE (ft X sc N cl C s₂ H₂ fp) oZ te)
  (IW:swapsWith (.ListComp oZ [⟨tg,iter,nW,0⟩] sc pos) (some (.Name x py)) spos.line X.env=pure true:=by rfl)
  (hs:∀x,foldedSetIterable iter X.env x=pure x:=by rw[3]):QS X (.Assign [.Name x py] (.ListComp oZ [⟨tg,iter,nW,0⟩] sc pos) spos) (Fu i (ux wi mp g tA te)) :=
 ⟨IV hN MY hx hc hi.run hk hm (λcl C s₂ H₂ fp=>⟨(hb cl C s₂ H₂ fp).1.run,(hb cl C s₂ H₂ fp).2.1.run,(hb cl C s₂ H₂ fp).2.2.run⟩) IW hs⟩
end
theorem uq.KQ {P:aO}{w:World}{K:W.Frag}{mg:Str->Option ae}{base:Heap}{x fj:Str}{st:Stmt}{f:Addr}{fd:bF}{N ps:List Str}{k:Nat}{sp:Sp}(F:uq K x fj st f fd)(S:eZ N ps (dJ st))(len:∀vs H Q E,sp vs H Q E->vs.length=ps.length)
  (rg:∀(fq:ae) (A:Around) (outer:List Env) (s:aq) (H:Hp) (vs:List V) (Q:VK) (E:XK),fm k (A.deeper (envOfC fj (dJ st) s.heap.objs.size f fq))->sp vs H Q E ->
   ∃t,uz (ky rq P w K mg base N fj (dJ st) f fq A outer s H E).De (fy st) t/\t { nx:=λ_ H'=>Q .gB H',rt:=Q } (start N vs) H):iP P w K mg base rq (k+1) f fd ps sp :=
 F.ok S len λfq A outer s H vs Q E hr h=>let ⟨t,q,r⟩:=rg fq A outer s H vs Q E hr h;⟨t,q.run,r⟩
section
variable {X:Cx}(K:W.Frag)
theorem Xh (h:X.K=K:=by rfl):HL X (PY K):=by subst h;exact MH
theorem Xi (h:X.K=K:=by rfl):HL X (PX K):=by subst h;exact fX
theorem V5 (h:X.K=K:=by rfl):HK X (P0 K):=by subst h;exact IH
theorem T1 (h:X.K=K:=by rfl):gj X (.builtin "len") (λxs H Q=>∃p ys,xs=[.ref p]/\(gn K H p ys\/iW K H p ys)/\Q (.int ys.length) H):=by subst h;exact kz
theorem T3 (h:X.K=K:=by rfl):gj X (.builtin "isinstance") (λxs H Q=>∃x t c b,xs=[x,.ty c]/\mG K H x (.type t)/\W.kitOne K (.type t) (.type c)=some b/\Q (.bl b) H):=by subst h;exact Fw
theorem zN (h:X.K=K:=by rfl):gj X (.type "tuple") (λxs H Q=>∃p ys,xs=[.ref p]/\((gn K H p ys/\∀l,H l=none->Q (.ref l) (eR H l (.tup ys)))\/(iW K H p ys/\Q (.ref p) H))):=by subst h;exact tE
variable {a o e tg:Expr}{es:List Expr}{ta to:TE}{t:TA}{gk fJ:Pos}{name:Str}{id T:String}
theorem FI (hl:QE X a ta)(h:X.K=K:=by rfl):QI X tg a (E3 K ta):=by subst h;exact Ja hl
theorem Jc (hl:QE X a ta)(h:X.K=K:=by rfl):QI X tg a (Md K ta):=by subst h;exact M8 hl
theorem M' {r:V->List V->Hp->VK->Prop}(pa:PlainAttrs T)(slot:Slot T name id)(Fg:typeOf (.builtin id)=pure (.type "method_descriptor"))(hm:Fe X id r)(ho:QE X o to)(ha:QA X (e::es) t)(h:X.K=K:=by rfl)
  (jW:attributeBase o name X.env (eval o X.env)=eval o X.env:=by rfl) (hl:decide ((e::es).length+0+0<30)=true:=by rfl)
  (jX:(gk.endLine == fJ.line)=true:=by rfl):QE X (.Call (.Attribute o name gk) (e::es) [] fJ) (Ts K T r to t):=by subst h;exact Qn pa slot Fg hm ho ha jW hl jX
end
end L2
namespace HT
open PySem PyProof.Rows
section
theorem mJ {t sl:Addr}{items:Array ae}{vl vu:ae}{lo hi:Option Int}{Q:ae->aq->Prop}(ht:IsTup s.heap t items)(hs:s.heap.IsSliceOf sl vl vu .none)(pl:IsPart vl lo)(pu:IsPart vu hi)
  (hw:gp items.size 0 lo=0/\gp items.size items.size hi=items.size) (h:Q (.ref t) s):ay (model prog w) A (getItem (.ref t) (.ref sl)) Q E s:=by
 obtain⟨os,MF,Sh,PR⟩:=id hs;have Tp:s.TypeIs (.ref sl) "slice" := ⟨os,MF,Sh⟩;unfold getItem;try with_reducible refine wpAny_holding ?_
 first | refine aa (ai ?_) | skip
 refine aa (wpAny_sequenceKey ht.typeIs (!2) ?_)
 refine aa (wpAny_callSpecial?_slot (name:=Str.ofString "__getitem__") ht.typeIs PyProof.Rows.slot_tuple_getitem
  (wpAny_call_entry PyProof.Rows.slot_tuple_getitem ht.typeIs entry_tuple_getitem ?_ (args_tuple_getitem _ _)))
 show ay _ _ (Builtin.Tuple.tupleItemsOf (.ref t) >>= _) _ _ s;refine aa (tupleItemsOf_ ht ?_);refine aa (wpAny_typeOf Tp ?_);rw[if_pos (!2)];refine aa (jV hs pl pu ?_)
 have T4:((((gp items.size 0 lo:Nat):Int) == 0 && (1:Int) == 1 && (gp items.size items.size hi - gp items.size 0 lo) == items.size)=true):=by
  rw[hw.1,hw.2];simp
 show ay _ _ (if (((gp items.size 0 lo:Nat):Int) == 0 && (1:Int) == 1 && (gp items.size items.size hi - gp items.size 0 lo) == items.size)=true then _ else _) _ _ s;rw[if_pos T4];refine aa ?_;unfold Builtin.Tuple.tupleIsExact;refine aa (wpAny_typeOf ht.typeIs (ai ?_));show ay _ _ (if (ae.type "tuple" == ae.type "tuple")=true then _ else _) _ _ s;rw[if_pos (!2)];exact aa (wpAny_rule (ai ⟨_,rfl,ai h⟩))
end
end HT
namespace L2
open PySem PySem.Spec PyProof.Rows
noncomputable def Qq (K:W.Frag):V->Option Int->Option Int->Hp->VK->Prop:=λx lo hi H Q=>∃a xs,x=.ref a/\iW K H a xs/\(nS xs lo hi=xs->Q (.ref a) H)/\∀p,H p=none->Q (.ref p) (eR H p (.tup (nS xs lo hi)))
section
variable (K:W.Frag)
theorem Xj (h:X.K=K:=by rfl):HK X (Qq K):=by
 subst h;intro pins s σ H x v vl vu lo hi sl Q I rx hs pl pu h;obtain⟨a,xs,rfl,hx,hw,q⟩:=h;by_cases hc:HT.gp xs.length 0 lo=0/\HT.gp xs.length xs.length hi=xs.length
 .cases rx
  obtain⟨its,r,ht,hz⟩:=I.tuple hx;have eX:its.toArray.size=xs.length:=by rw[aD];exact r.length.symm
  refine⟨"tuple",_,PyProof.Rows.slot_tuple_getitem.lookup,ht.typeIs,?_⟩;refine HT.mJ ht hs pl pu (by rw[eX];exact hc) ⟨.ref a,H,I,rfl,hw ?_⟩;unfold nS;rw[hc.1,hc.2];simp
 .exact MG pins s σ H (.ref a) v vl vu lo hi sl Q I rx hs pl pu ⟨a,xs,rfl,hx,hc,q⟩
end
noncomputable def Qr (K:W.Frag):R2:=λx y H Q=>∃a b xs ys,x=.ref a/\y=.ref b/\iW K H a xs/\iW K H b ys/\xs.length+ys.length<=ax/\(xs=[]->Q (.ref b) H)/\(ys=[]->Q (.ref a) H)/\∀p,H p=none->Q (.ref p) (eR H p (.tup (xs++ys)))
theorem T5 (K:W.Frag)(h:X.K=K:=by rfl):jU X (binaryOp .Add) (Qr K):=by
 subst h;intro pins s σ H x y v u Q I rx ry h;obtain⟨a,b,xs,ys,rfl,rfl,ha,hb,hz,q0,q1,q2⟩:=h;by_cases hx:xs=[]
 .cases rx
  cases ry;obtain⟨its,r1,p1,_⟩:=I.tuple ha;obtain⟨mH,r2,p2,_⟩:=I.tuple hb;have hi:its=[]:=r1.nU.mpr hx;obtain⟨⟨cls,dd,data,sl⟩,ho,hc,n,hd⟩:=id p1;obtain⟨⟨To,Sf,data2,OH⟩,Dr,Kv,n2,HJ⟩:=id p2;simp only at hc hd Kv HJ;subst hc hd Kv HJ
  exact concat_meets ⟨_,ho,rfl⟩ ⟨_,Dr,rfl⟩ noFill_tuple_add seq_tuple_add PySem.F.slot_tuple_add PySem.F.entry_tuple_add (PySem.F.args_tuple_add_2 _ _)
   (tuple_addW0 a b its.toArray mH.toArray n n2 dd Sf sl OH (by simp[hi])) ⟨ho,Dr,⟨.ref b,H,I,rfl,q0 hx⟩⟩
 .exact IG pins s σ H _ _ v u Q I rx ry ⟨a,b,xs,ys,rfl,rfl,ha,hb,hx,hz,q1,λ_=>q2⟩
end L2
namespace PySem
open Sem (wp)
theorem jY:fillsNumberSlot (.type "tuple") "mul" = pure false :=
 fillsNumberSlot_seq (id := "tuple.__mul__") (r:=some (.builtin "tuple.__rmul__")) F.slot_tuple_mul.lookup (!3) F.slot_tuple_rmul.lookup (!3)
theorem n8:seqRepeat? (.type "tuple")=pure (some (.builtin "tuple.__mul__")):=by
 unfold seqRepeat?;rw[seqSlot_of (T := "tuple") (name := "__mul__") (id := "tuple.__mul__") F.slot_tuple_mul.lookup (!3),seqSlot_of (T := "tuple") (name := "__rmul__") (id := "tuple.__rmul__") F.slot_tuple_rmul.lookup (!3)];rfl
theorem lF (a:Int)(t:Tok)(l:Addr)(items:Array ae)(n:Nat)(dd:Option Addr)(sl:Array (Option ae)) :
  Meets (Builtin.«int.__rmul__» ⟨[.int a t,.ref l],[]⟩) (λ_ R s=>s.heap.get? l=some { cls:=.type "tuple",dict:=dd,data:=.seq items n,slots:=sl }/\R (.ok (.ret ae.notImplemented)) s) :=
 .of_wp λprog w A R s h=>by obtain⟨hp,g,d,tk,os⟩:=s;obtain⟨hl,h⟩:=h;wp_walk;exact⟨_,rfl,h⟩
theorem tH (l:Addr)(items:Array ae)(n:Nat)(dd:Option Addr)(sl:Array (Option ae))(k:Int)(t:Tok)(jS:items.isEmpty=false)(h2:2<=k)(hk:k<2 ^ 40)(hz:items.size * k.toNat<=16000000) :
  Meets (Builtin.«tuple.__mul__» ⟨[.ref l,.int k t],[]⟩) (λ_ R s=>s.heap.get? l=some { cls:=.type "tuple",dict:=dd,data:=.seq items n,slots:=sl }/\R (.ok (.ret (ae.ref s.heap.objs.size))) { s with heap:=s.heap.push { cls:=ae.type "tuple",data:=Data.seq (dz (λx1 x2=>x1++x2) #[] (List.replicate k.toNat items)) },toks:=s.toks }) :=
 .of_wp λprog w A R s h=>by
  obtain⟨hp,g,d,tk,os⟩:=s;obtain⟨hl,h⟩:=h;have f1:=AutoSeq1.idx_int;have c0:¬ (decide (k < -(2 ^ 63)) || decide (k ≥ 2 ^ 63))=true:=by simp;omega
  have c1:¬ (items.isEmpty || k == 1)=true:=by rw[jS];simp;omega
  have c2:¬ (decide (k<=0) || items.isEmpty)=true:=by rw[jS];simp;omega
  wp_walk
  have DC:k=((k.toNat:Nat):Int):=by omega
  have hm:(items.size:Int) * k=((items.size * k.toNat:Nat):Int):=by rw[Int.natCast_mul,<- DC]
  have c3:¬ (items.size:Int) * k > (2 ^ 63 - 1) / 8:=by rw[hm];omega
  have c4:¬ Builtin.Tuple.tupleTooMany ((items.size:Int) * k)=true:=by
   rw[hm];unfold Builtin.Tuple.tupleTooMany;rw[decide_eq_true_eq,show ax=16777216 by decide];omega
  have Na:PyProof.Rows.IsTup hp l items:=⟨_,hl,rfl,n,rfl⟩
  have hsz:(dz (λx1 x2=>x1++x2) #[] (List.replicate k.toNat items)).size<=ax:=by
   have e:=AutoListH.size_joined items k.toNat #[];have e0:(#[]:Array ae).size=0:=rfl;rw[e0,cW,Nat.mul_comm] at e;rw[e];exact aU hz (!2)
  rw[if_neg c0];show ay _ _ (Builtin.Tuple.tupleItemsOf (.ref l) >>= _) _ _ _;refine aa (PyProof.Rows.tupleItemsOf_ Na ?_);dsimp only;rw[if_neg c1,if_neg c2,if_neg c3,if_neg c4]
  first
   | exact aa (m:=Builtin.Tuple.tupleExact _) (bh (ai ⟨_,rfl,h⟩) hsz)
   | exact aa (m:=Builtin.Tuple.tupleExact _) (bh (aa (ai (ai ⟨_,rfl,h⟩))) hsz)
   | exact aa (aa (m:=Builtin.Tuple.tupleExact _) (bh (ai (ai ⟨_,rfl,h⟩)) hsz))
   | exact aa (aa (m:=Builtin.Tuple.tupleExact _) (bh (ai ⟨_,rfl,h⟩) hsz))
end PySem
namespace L2
open PySem PySem.Spec PyProof.Rows
section
theorem QE.weaken (h:QE X e t)(w:∀σ H Q,t' σ H Q->t σ H Q):QE X e t':=⟨λpins s σ H Q I q=>h.run pins s σ H Q I (w σ H Q q)⟩
theorem QA.weaken (h:QA X es t)(w:∀σ H Q,t' σ H Q->t σ H Q):QA X es t':=⟨λpos pins s σ H Q I q=>h.run pos pins s σ H Q I (w σ H Q q),h.ns⟩
end
section
variable {X:Cx}{us ui:List Nat}{a b e:Expr}{es:List Expr}{pos:Pos}
noncomputable def KR (K:W.Frag):R2:=λx y H Q=>∃a k xs,x=.ref a/\y=.int k/\iW K H a xs/\xs≠[]/\2<=k/\k<2 ^ 40/\xs.length * k.toNat<=16000000/\∀p,H p=none->Q (.ref p) (eR H p (.tup (List.replicate k.toNat xs).flatten))
theorem Jd (K:W.Frag)(h:X.K=K:=by rfl):jU X (binaryOp .Mult) (KR K):=by
 subst h;intro pins s σ H x y v u Q I rx ry h;obtain⟨a,k,xs,rfl,rfl,hx,jS,h2,hk,hz,q⟩:=h;cases rx;obtain⟨t,rfl⟩:=ry;obtain⟨its,r,ht,hl⟩:=I.tuple hx;obtain⟨⟨cls,dd,data,sl⟩,ho,hc,n,hd⟩:=id ht;simp only at hc hd;subst hc hd
 have T6:its.toArray.isEmpty=false:=by
  cases its with
  | nil=>exact absurd (r.nU.mp rfl) jS
  | cons _ _=>rfl
 have hsz:its.toArray.size * k.toNat<=16000000:=by rw[aD,<- r.length];exact hz
 refine wpAny_binaryOp_repeat_ref (T := "tuple") (U := "int") (!2) ⟨_,ho,rfl⟩ (λs'=>typeIs_int s' k t) jY F.fills_int_mul F.slot_int_rmul n8 F.slot_int_index.lookup
  (call_meets F.slot_int_rmul (typeIs_int s k t) F.entry_int_rmul (F.args_int_rmul_2 _ _) (lF k t a its.toArray n dd sl)
   ⟨ho,rfl,⟨_,ho,rfl⟩,call_meets F.slot_tuple_mul ⟨_,ho,rfl⟩ F.entry_tuple_mul (F.args_tuple_mul_2 _ _) (tH a its.toArray n dd sl k t T6 h2 hk hsz) ⟨ho,?_⟩⟩)
 have xk:dz (λx1 x2=>x1++x2) #[] (List.replicate k.toNat its.toArray)=(List.replicate k.toNat its).flatten.toArray:=by
  have:=foldl_rep its k.toNat [];rw[aQ] at this;exact this
 rw[xk]
 have eX:(List.replicate k.toNat xs).flatten.length<=ax:=by
  rw[BR,Nat.mul_comm,show ax=16777216 by decide];omega
 exact⟨.ref _,_,I.laid (t':=s.toks) (o:=.tup (List.replicate k.toNat xs).flatten) (λb o e=>ah _ e) (am _) ⟨eX,_,r.rep k.toNat,vx.new _ _⟩,rfl,q _ (I.hok.fresh (am _))⟩
theorem FJ {x:Str}{i:Int}(hg:Gl X x)(hm:∃t,X.mg x=some (.int i t))(hd:(x == ("__debug__" : Str))=false:=by decide):QE X (.Name x pos) (tC (.int i)):=by
 obtain⟨t,e⟩:=hm;exact⟨BF hg e ⟨t,rfl⟩ hd⟩
end
section
variable {κ:Type}[DecidableEq κ]
noncomputable def gR (kvs:List (κ × V))(k:κ):Option V:=(kvs.find? λkv=>decide (kv.1=k)).map (·.2)
noncomputable def kD (kvs:List (κ × V))(k:κ)(v:V):List (κ × V) :=
 if (kvs.any λkv=>decide (kv.1=k))=true then kvs.map (λkv=>if kv.1=k then (kv.1,v) else kv) else kvs++[(k,v)]
theorem fZ {p:κ × V}{r:List (κ × V)}{k:κ}(e:p.1=k):gR (p::r) k=some p.2:=by simp[gR,bQ,e]
theorem f6 {p:κ × V}{r:List (κ × V)}{k:κ}(e:¬ p.1=k):gR (p::r) k=gR r k:=by simp[gR,bQ,e]
theorem n9 (k:κ):∀kvs:List (κ × V),(kvs.any λkv=>decide (kv.1=k))=(gR kvs k).isSome
 | []=>rfl
 | p::r=>by
  rw[cJ];by_cases e:p.1=k
  .simp only[fZ e,decide_eq_true e,Bool.true_or,Option.isSome_some]
  .rw[f6 e,decide_eq_false e,Bool.false_or];exact n9 k r
theorem xr (k j:κ)(y:V):∀kvs:List (κ × V),gR (kvs.map λkv=>if kv.1=k then (kv.1,y) else kv) j=(gR kvs j).map λx=>if j=k then y else x
 | []=>rfl
 | p::r=>by
  have ih:=xr k j y r;rw[ak];by_cases h:p.1=k
  .rw[if_pos h]
   by_cases e:p.1=j
   .rw[fZ (p:=(p.1,y)) e,fZ e,bH,if_pos (e.symm.trans h)]
   .rw[f6 (p:=(p.1,y)) e,f6 e,ih]
  .rw[if_neg h]
   by_cases e:p.1=j
   .rw[fZ (p:=p) e,fZ e,bH,if_neg (λz=>h (e.trans z))]
   .rw[f6 (p:=p) e,f6 e,ih]
theorem uB (k j:κ)(y:V):∀kvs:List (κ × V),gR kvs k=none->gR (kvs++[(k,y)]) j=if j=k then some y else gR kvs j
 | [],_=>by
  by_cases e:k=j
  .rw[if_pos e.symm];exact fZ (p:=(k,y)) e
  .rw[if_neg (λz=>e z.symm)];exact f6 (p:=(k,y)) e
 | p::r,hn=>by
  rw[bj];have hk:¬ p.1=k:=λz=>by rw[fZ z] at hn;cases hn
  rw[f6 hk] at hn;have ih:=uB k j y r hn;by_cases e:p.1=j
  .rw[fZ e,fZ e,if_neg (λz=>hk (e.trans z))]
  .rw[f6 e,f6 e,ih]
theorem FK (kvs:List (κ × V))(k j:κ)(y:V):gR (kD kvs k y) j=if j=k then some y else gR kvs j:=by
 unfold kD;by_cases a:(kvs.any λkv=>decide (kv.1=k))=true
 .rw[if_pos a,xr]
  rw[n9] at a;by_cases e:j=k
  .obtain⟨x,hx⟩:=bZ.mp a
   rw[if_pos e,e,hx,bH,if_pos rfl]
  .rw[if_neg e]
   cases gR kvs j with
   | none=>rfl
   | some x=>rw[bH,if_neg e]
 .rw[if_neg a]
  refine uB k j y kvs ?_;rw[n9] at a
  cases q:gR kvs k with
  | none=>rfl
  | some x=>rw[q] at a;exact (a rfl).elim
theorem pU (kvs:List (κ × V))(k:κ)(v:V):(kD kvs k v).length<=kvs.length+1:=by
 unfold kD;split
 .rw[aj];omega
 .rw[aG,ap,bg];omega
theorem mF.o9 (r:mF o u):o.isSome=u.isSome:=by
 cases o with
 | none=>cases u with
  | none=>rfl
  | some _=>exact (show False from r).elim
 | some _=>cases u with
  | none=>exact (show False from r).elim
  | some _=>rfl
theorem mF.getD (r:mF o u)(rd:RelV d d'):RelV (o.getD d) (u.getD d'):=by
 cases o with
 | none=>cases u with
  | none=>exact rd
  | some _=>exact (show False from r).elim
 | some _=>cases u with
  | none=>exact (show False from r).elim
  | some _=>exact r
theorem KV.val {kvs:List (κ × V)}{vs:List (κ × ae)}(r:KV kvs vs)(k:κ):mF (gR kvs k) (valueAt vs k):=by
 unfold KV at r
 induction r with
 | nil=>exact True.intro
 | @cons p q ps qs h t ih =>
  obtain⟨h1,h2⟩:=h;by_cases e:p.1=k
  .have e':q.1=k:=h1.symm.trans e
   have b:valueAt (q::qs) k=some q.2:=by simp[valueAt,bQ,e']
   rw[fZ e,b];exact h2
  .have e':¬ q.1=k:=λz=>e (h1.trans z)
   have b:valueAt (q::qs) k=valueAt qs k:=by simp[valueAt,bQ,e']
   rw[f6 e,b];exact ih
theorem KV.any (r:KV kvs vs)(k:κ):(kvs.any λkv=>decide (kv.1=k))=vs.any λkv=>decide (kv.1=k):=by
 unfold KV at r
 induction r with
 | nil=>rfl
 | cons h t ih=>rw[cJ,cJ,ih,h.1]
theorem KV.Nb (r:KV kvs vs)(k:κ)(ry:RelV y u) :
  KV (kvs.map λkv=>if kv.1=k then (kv.1,y) else kv) (vs.map λkv=>if kv.1=k then (kv.1,u) else kv):=by
 unfold KV at r ⊢
 induction r with
 | nil=>exact .nil
 | @cons p q ps qs h t ih =>
  rw[ak,ak];refine .cons ?_ ih;obtain⟨h1,h2⟩:=h;by_cases e:p.1=k
  .rw[if_pos e,if_pos (h1.symm.trans e)];exact⟨h1,ry⟩
  .rw[if_neg e,if_neg (λz=>e (h1.trans z))];exact⟨h1,h2⟩
theorem KV.put (r:KV kvs vs)(k:κ)(ry:RelV y u):KV (kD kvs k y) (stored vs k u):=by
 unfold kD stored;rw[r.any k];by_cases e:(vs.any λkv=>decide (kv.1=k))=true
 .rw[if_pos e,if_pos e];exact r.Nb k ry
 .rw[if_neg e,if_neg e];exact Paired.snoc r ⟨rfl,ry⟩
theorem KV.keys {kvs:List (κ × V)}{vs:List (κ × ae)}(r:KV kvs vs):kvs.map (·.1)=vs.map (·.1):=by
 unfold KV at r
 induction r with
 | nil=>rfl
 | cons h t ih=>rw[ak,ak,ih,h.1]
theorem KV.length (r:KV kvs vs):kvs.length=vs.length:=Paired.length r
end
theorem xt (r:RelV (kV k) u):(fG P w).is k u=true:=by
 cases k with
 | inl i=>obtain⟨t,e⟩:=(show ∃t,u=ae.int i t from r);subst e;exact wY P w i t
 | inr x=>obtain⟨t,e⟩:=(show ∃t,u=ae.str x t from r);subst e;exact wZ P w x t
theorem uD:∀{ks:List Key} {us:List ae},ee (ks.map kV) us->ItemsAre (fG P w) ks us
 | [],_,r=>by rw[bq] at r;cases r;exact .nil
 | k::ks,_,r=>by
  rw[ak] at r
  cases r with
  | cons h t=>exact .cons (xt h) (uD t)
noncomputable abbrev KT (H:Hp):List (List Key × V)->List (List Key × Addr × ae)->Prop:=Paired λp q=>p.1=q.1/\H q.2.1=some (.tup (p.1.map kV))/\RelV p.2 q.2.2
theorem KT.val {H:Hp}{kvs:List (List Key × V)}{xs:List (List Key × Addr × ae)}(r:KT H kvs xs)(k:List Key):mF (gR kvs k) ((atKey xs k).map (·.2)):=by
 induction r with
 | nil=>exact True.intro
 | @cons p q ps qs h t ih =>
  obtain⟨h1,_,h2⟩:=h;by_cases e:p.1=k
  .have e':q.1=k:=h1.symm.trans e
   have b:atKey (q::qs) k=some q.2:=by simp[atKey,bQ,e']
   rw[fZ e,b];exact h2
  .have e':¬ q.1=k:=λz=>e (h1.trans z)
   have b:atKey (q::qs) k=atKey qs k:=by simp[atKey,bQ,e']
   rw[f6 e,b];exact ih
theorem KT.Nb (r:KT H kvs xs)(k:List Key)(ry:RelV y u) :
  KT H (kvs.map λkv=>if kv.1=k then (kv.1,y) else kv) (xs.map (putAt k u)):=by
 induction r with
 | nil=>exact .nil
 | @cons p q ps qs h t ih =>
  rw[ak,ak];refine .cons ?_ ih;obtain⟨h1,h2,h3⟩:=h;unfold putAt;by_cases e:p.1=k
  .rw[if_pos e,if_pos (h1.symm.trans e)];exact⟨h1,h2,ry⟩
  .rw[if_neg e,if_neg (λz=>e (h1.trans z))];exact⟨h1,h2,h3⟩
theorem KT.put (r:KT H kvs xs)(k:List Key)(hb:H b=some (.tup (k.map kV)))(ry:RelV y u) :
  KT H (kD kvs k y) (storedH xs k b u):=by
 have e:(kvs.any λkv=>decide (kv.1=k))=(atKey xs k).isSome:=by
  rw[n9,(r.val k).o9,Option.isSome_map]
 unfold kD storedH;rw[e];by_cases q:(atKey xs k).isSome=true
 .rw[if_pos q,if_pos q];exact r.Nb k ry
 .rw[if_neg q,if_neg q];exact Paired.snoc r ⟨rfl,hb,ry⟩
theorem KT.keeps (r:KT H kvs xs)(ht:∀b ys,H b=some (.tup ys)->H' b=some (.tup ys)):KT H' kvs xs :=
 Paired.LL r λ_ _ z=>⟨z.1,ht _ _ z.2.1,z.2.2⟩
section
theorem KU (ok:jT P w H h)(e:Rd H a u):fu P w H h a u:=e.ok ok
theorem uE (ok:jT P w H h)(e:Rd H a (.dK kvs)):kvs.length<=ax/\(a == sysModules)=false/\∃vs,KV kvs vs/\h.DictOf (fG P w) a vs :=
 show fu P w H h a (.dK kvs) from KU ok e
theorem Qs (ok:jT P w H h)(e:H a=some (.dK kvs)):kvs.length<=ax/\(a == sysModules)=false/\∃vs,KV kvs vs/\h.DictOf (fG P w) a vs:=uE ok (.inl e)
theorem rE {ks:List Key}(ok:jT P w H h)(e:H a=some (.tup (ks.map kV))):(tupleKind (fG P w)).is h ks a:=by
 obtain⟨_,its,r,o,h1,h2,n,h3,_⟩:=(show fu P w H h a (.tup (ks.map kV)) from ok a _ e);exact⟨o,its.toArray,n,h1,h2,h3,by simpa using uD r⟩
theorem uF (ok:jT P w H h)(e:Rd H a (.dT kvs)):kvs.length<=ax/\(a == sysModules)=false /\
  ∃xs,KT H kvs xs/\h.DictOfH (tupleKind (fG P w)) a xs:=by
 obtain⟨z,y,xs,r,o,es,ep,h1,h2,h3,h4,h5⟩:=(show fu P w H h a (.dT kvs) from KU ok e);refine⟨z,y,xs,r,o,es,ep,h1,h2,h3,h4,λx hx=>?_,h5⟩
 have all:∀{l:List (List Key × V)} {m:List (List Key × Addr × ae)},KT H l m->∀x∈m,(tupleKind (fG P w)).is h x.1 x.2.1:=by
  intro l m q
  induction q with
  | nil=>intro x hx;exact nomatch hx
  | @cons p q ps qs hq t ih =>
   intro x hx;rcases au.mp hx with e | hx
   .subst e
    exact rE ok (by rw[<- hq.1];exact hq.2.1)
   .exact ih x hx
 exact all r x hx
theorem Qt (ok:jT P w H h)(e:H a=some (.dT kvs)):kvs.length<=ax/\(a == sysModules)=false /\
  ∃xs,KT H kvs xs/\h.DictOfH (tupleKind (fG P w)) a xs:=uF ok (.inl e)
end
noncomputable def ll (H:Hp)(a:Addr)(y:V)(r:Option V):Prop :=
 (∃kvs k,Rd H a (.dK kvs)/\y=kV k/\r=gR kvs k)\/∃kvs k b,Rd H a (.dT kvs)/\y=.ref b/\H b=some (.tup (k.map kV))/\r=gR kvs k
noncomputable def rF (H:Hp)(a:Addr)(y v:V)(H':Hp):Prop :=
 (∃kvs k,H a=some (.dK kvs)/\y=kV k/\kvs.length<ax/\H'=eR H a (.dK (kD kvs k v))) \/
 ∃kvs k b,H a=some (.dT kvs)/\y=.ref b/\H b=some (.tup (k.map kV))/\kvs.length<ax/\H'=eR H a (.dT (kD kvs k v))
theorem ll.k {H:Hp}{a:Addr}{kvs:List (Key × V)}{k:Key}(e:H a=some (.dK kvs)):ll H a (kV k) (gR kvs k):=.inl ⟨kvs,k,.inl e,rfl,rfl⟩
theorem ll.t {H:Hp}{a b:Addr}{kvs:List (List Key × V)}{k:List Key}(e:H a=some (.dT kvs))(eb:H b=some (.tup (k.map kV))):ll H a (.ref b) (gR kvs k):=.inr ⟨kvs,k,b,.inl e,rfl,eb,rfl⟩
theorem rF.k {H:Hp}{a:Addr}{kvs:List (Key × V)}{k:Key}{v:V}(e:H a=some (.dK kvs))(hl:kvs.length<ax):rF H a (kV k) v (eR H a (.dK (kD kvs k v))):=.inl ⟨kvs,k,e,rfl,hl,rfl⟩
theorem rF.t {H:Hp}{a b:Addr}{kvs:List (List Key × V)}{k:List Key}{v:V}(e:H a=some (.dT kvs))(eb:H b=some (.tup (k.map kV)))(hl:kvs.length<ax) :
  rF H a (.ref b) v (eR H a (.dT (kD kvs k v))):=.inr ⟨kvs,k,b,e,rfl,eb,hl,rfl⟩
section
theorem Inv.big (I:Inv X pins σ H s):sysModules<s.heap.objs.size:=by
 have h:aR<s.heap.objs.size:=(I.mod.glob.keeps I.bk).lt;exact dB (!2) h
theorem DD {Q:ae->aq->Prop}(hu:A.units+1<cLine)(I:Inv X pins σ H s)(g:ll H a y (some v))(ry:RelV y u)(h:∀w' s',Inv X pins σ H s'->RelV v w'->Q w' s') :
  ay (model X.prog X.w) A (getItem (.ref a) u) Q E s:=by
 rcases g with⟨kvs,k,e,ey,l⟩ | ⟨kvs,k,b,e,ey,eb,l⟩
 .subst ey
  obtain⟨z,hd,vs,qz,dd⟩:=uE I.hok e;obtain⟨w',hw,oY⟩:=mF.some_of (v:=v) (o:=valueAt vs k) (by rw[l];exact qz.val k);exact wpAny_getItem_of (xt ry) dd.mapOf hw (h w' _ (I.tok _) oY)
 .subst ey
  cases (show u=ae.ref b from ry);obtain⟨z,hd,xs,qz,dd⟩:=uF I.hok e;obtain⟨w',hw,oY⟩:=mF.some_of (v:=v) (o:=(atKey xs k).map (·.2)) (by rw[l];exact qz.val k);obtain⟨p,hp,Xk⟩:=Option.map_eq_some_iff.mp hw;refine wpAny_getItem_heap (tupleKind_room_in1 hu) (rE I.hok eb) dd hp ?_;rw[Xk];exact h w' _ (I.tok _) oY
theorem T7 {Q:ae->aq->Prop}(hu:A.units+1<cLine)(I:Inv X pins σ H s)(g:ll H a y o)(ry:RelV y u)(h:∀s',Inv X pins σ H s'->Q (.bool o.isSome) s') :
  ay (model X.prog X.w) A (compareOp .In u (.ref a)) Q E s:=by
 rcases g with⟨kvs,k,e,ey,l⟩ | ⟨kvs,k,b,e,ey,eb,l⟩
 .subst ey
  obtain⟨z,hd,vs,qz,dd⟩:=uE I.hok e;refine wpAny_in_of (xt ry) hd dd.mapOf ?_;rw[<- (qz.val k).o9,<- l];exact h _ (I.tok _)
 .subst ey
  cases (show u=ae.ref b from ry);obtain⟨z,hd,xs,qz,dd⟩:=uF I.hok e;refine wpAny_in_heap (tupleKind_room_in1 hu) (rE I.hok eb) hd dd ?_;have q:=(qz.val k).o9;rw[Option.isSome_map] at q;rw[<- q,<- l];exact h _ (I.tok _)
theorem B3 {h':Heap}{t':Nat}{ob:HO}(I:Inv X pins σ H s)(mu:O6 (H a))(hs:Heap.SameBut a s.heap h')(he:∃q,h'.get? a=some q)(new:fu X.prog X.w (eR H a ob) h' a ob) :
  Inv X pins σ (eR H a ob) { s with heap:=h',toks:=t' } :=
 I.write (x:=a) (e:=a) mu (.inl rfl) (λb q hb z=>(hs.2 b hb).trans z) he new
theorem Nc (z:kvs.length<=ax)(hd:(a == sysModules)=false)(qz:KV kvs vs)(dd:h'.DictOf (fG P w) a vs) :
  fu P w H' h' a (.dK kvs):=⟨z,hd,vs,qz,dd⟩
theorem DE {H':Hp}{Q:Unit->aq->Prop}(hu:A.units+1<cLine)(I:Inv X pins σ H s)(g:rF H a y v H')(ry:RelV y u)(rv:RelV v r)(h:∀s',Inv X pins σ H' s'->Q () s') :
  ay (model X.prog X.w) A (setItem (.ref a) u r) Q E s:=by
 rcases g with⟨kvs,k,e,ey,l,eH⟩ | ⟨kvs,k,b,e,ey,eb,l,eH⟩
 .subst ey eH
  obtain⟨z,hd,vs,qz,dd⟩:=Qs I.hok e;have hz:vs.length<=ax:=by rw[<- qz.length];exact z
  have hl:(kD kvs k v).length<=ax:=by have:=pU kvs k v;omega
  refine wpAny_setItem_pairs (hsz:=hz) (xt ry) dd λh' Sm hs=>h _ ?_;have he:∃q,h'.get? a=some q:=let ⟨q,_,_,hq,_⟩:=Sm;⟨q,hq⟩;exact B3 I (by rw[e];exact True.intro) hs he (Nc hl hd (qz.put k rv) Sm)
 .subst ey eH
  cases (show u=ae.ref b from ry);obtain⟨z,hd,xs,qz,dd⟩:=Qt I.hok e;have hz:xs.length<=ax:=by rw[<- Paired.length qz];exact z
  have hl:(kD kvs k v).length<=ax:=by have:=pU kvs k v;omega
  refine wpAny_setItem_heap (hsz:=hz) (tupleKind_room_in1 hu) (rE I.hok eb) dd λh' Sm hs=>h _ ?_;obtain⟨q,es,ep,hq,h2,h3,h4,_,h5⟩:=Sm;refine B3 I (by rw[e];exact True.intro) hs ⟨q,hq⟩ ⟨hl,hd,_,(qz.put k eb rv).keeps λc ys ec=>?_,q,es,ep,hq,h2,h3,h4,h5⟩;rw[dS (O5 ec e (λz=>nomatch z))];exact ec
end
noncomputable def FN (i:Expr):Prop:=∀ov iv,subscripted i false ov iv=operate [ov,iv] (getItem ov iv)
theorem Je {prog:aO}{w:World}{A:Around}{E:ae->aq->Prop}{s:aq}{env:Env}{value slice:Expr}{pos:Pos}{T id:String}{Q:ae->aq->Prop}
  (hl:typeLookup (.type T) "__getitem__" = pure (some (.builtin id))) (hs:FN slice)
  (h:ay (model prog w) A (eval value env) (λo s₁=>ay (model prog w) A (eval slice env) (λi s₂=>s₂.TypeIs o T/\ay (model prog w) A (getItem o i) Q E s₂) E s₁) E s) :
  ay (model prog w) A (eval (.Subscript value slice pos) env) Q E s:=by
 refine Subscript_ (bJ h (λo s₁ h₁=>bJ h₁ (λi s₂ h₂=>?_) λ_ _ x=>x) λ_ _ x=>x);obtain⟨hT,h₂⟩:=h₂;unfold subscriptTail;refine aa ?_;rw[getitemInPython_of_ne hT.not_modules];refine aa (wpAny_specialOf hT hl ?_)
 have fin:ay (model prog w) A (subscripted slice false o i) (λr s₃=>ay (model prog w) A (letTemporaryGo value o r >>= λ_=>pure r) Q E s₃) E s₂:=by
  rw[hs o i];exact wpAny_operating (bJ h₂ (λr s₃ h₃=>aa (wpAny_letTemporaryGo (ai h₃))) λ_ _ x=>x)
 first
  | exact ai (aa fin)
  | exact aa (ai (aa fin))
  | exact aa fin
theorem xu (I:Inv X pins σ H s)(g:ll H a y o):s.TypeIs (.ref a) "dict" := by
 rcases g with⟨kvs,k,e,_,_⟩ | ⟨kvs,k,b,e,_,_,_⟩
 .obtain⟨_,_,vs,_,dd⟩:=uE I.hok e
  exact dd.typeIs
 .obtain⟨_,_,xs,_,dd⟩:=uF I.hok e
  exact dd.typeIs
noncomputable def KY (td ty:TE):TE:=λσ H Q=>td σ H λx H1=>ty σ H1 λy H2=>∃a v,x=.ref a/\ll H2 a y (some v)/\Q v H2
noncomputable def T8 (ty td:TE):TE:=λσ H Q=>ty σ H λy H1=>td σ H1 λx H2=>∃a o,x=.ref a/\ll H2 a y o/\Q (.bl o.isSome) H2
noncomputable def KZ (td ty tv:TE):TS:=λD σ H=>tv σ H λv H1=>td σ H1 λx H2=>ty σ H2 λy H3=>∃a H4,x=.ref a/\rF H3 a y v H4/\D.nx σ H4
section
theorem Jf (hu:X.A.units+1<cLine)(ho:PE X o td)(hi:PE X i ty)(hs:FN i):PE X (.Subscript o i pos) (KY td ty):=by
 intro pins s σ H Q I h;refine Je PySem.F.slot_dict_getitem.lookup hs (fN (ho pins s σ H _ I h) λu s1 ⟨x,H1,I1,rx,q1⟩=>fN (hi pins s1 σ H1 _ I1 q1) λiv s2 ⟨y,H2,I2,ry,a,v,ex,g,q2⟩=>?_);subst ex;obtain rfl:u=ae.ref a:=rx;exact⟨xu I2 g,DD hu I2 g ry λw' s3 I3 oY=>⟨v,H2,I3,oY,q2⟩⟩
theorem FO (hu:X.A.units+1<cLine)(hi:PE X i ty)(ho:PE X o td):PC X .In i o (T8 ty td):=by
 intro pins s σ H Q I h;refine fN (hi pins s σ H _ I h) λiv s1 ⟨y,H1,I1,ry,q1⟩=>fN (ho pins s1 σ H1 _ I1 q1) λu s2 ⟨x,H2,I2,rx,a,ov,ex,g,q2⟩=>?_;subst ex;obtain rfl:u=ae.ref a:=rx;exact T7 hu I2 g ry λs3 I3=>⟨.bl ov.isSome,H2,I3,rfl,q2⟩
theorem Jg (hu:X.A.units+1<cLine)(ho:PE X o td)(hi:PE X i ty)(hv:PE X value tv)(hs:swapsWith value (some (.Subscript o i iD)) pos.line X.env=pure false) :
  PS X (.Assign [.Subscript o i iD] value pos) (KZ td ty tv):=by
 intro pins s σ H D I h;refine wpAny_Assign_Subscript (fN (hv pins s σ H _ I h) λr s1 ⟨v,H1,I1,rv,q1⟩=>fN (ho pins s1 σ H1 _ I1 q1) λu s2 ⟨x,H2,I2,rx,q2⟩=>fN (hi pins s2 σ H2 _ I2 q2) λiv s3 ⟨y,H3,I3,ry,a,H4,ex,g,q3⟩=>?_) hs;subst ex;obtain rfl:u=ae.ref a:=rx;exact DE hu I3 g ry rv λs4 I4=>⟨σ,H4,I4,q3⟩
end
theorem FP (h:Heap)(hb:sysModules<h.objs.size):fu P w H (h.push { cls:=.type "dict",data:=.dict #[] }) h.objs.size (.dK []) :=
 ⟨bL _,beq_eq_false_iff_ne.mpr (Ne.symm (aN hb)),[],.nil,Heap.DictOf.new h⟩
noncomputable def FQ:TE:=λ_ H Q=>∀p,H p=none->Q (.ref p) (eR H p (.dK []))
section
theorem FR:PE X (.Dict [] [] pos) FQ:=λpins s σ H Q I h =>
 wpAny_Dict_empty ⟨.ref s.heap.objs.size,_,I.laid (a:=s.heap.objs.size) (o:=.dK []) (t':=s.toks) (λ_ _ q=>ah _ q) (am _) (FP s.heap I.big),rfl,h _ (I.hok.fresh (am _))⟩
end
structure M2 (X:Cx) (o:Expr) (m:Str) (gk:Pos) (e f:Expr) (fJ:Pos):Prop where
 base:attributeBase o m X.env (eval o X.env)=eval o X.env
 Sn:((backTo fJ (starEach [e,f] X.env)).all (λx=>!x.1) && (backToKw fJ (keywordEach [] X.env)).all (λx=>x.1.isSome)
  && decide (([e,f]:List Expr).length+([]:List Keyword).length+(if ([]:List Keyword).isEmpty then 0 else 1)<30))=true
 line:(gk.endLine == fJ.line)=true
 trees:backTo fJ (starEach [e,f] X.env)=[(false,eval e X.env),(false,eval f X.env)]
noncomputable def T9 (H:Hp)(a:Addr):Prop:=(∃kvs,Rd H a (.dK kvs))\/∃kvs,Rd H a (.dT kvs)
theorem Nf (I:Inv X pins σ H s)(d:T9 H a) :
  s.TypeIs (.ref a) "dict" /\ (∀b,ae.ref a=.ref b->∃ob,s.heap.get? b=some ob/\ob.dict=none)/\(a == sysModules)=false:=by
 rcases d with⟨kvs,e⟩ | ⟨kvs,e⟩
 .obtain⟨_,hd,vs,_,dd⟩:=uE I.hok e
  refine⟨dd.typeIs,λb q=>?_,hd⟩;cases q;obtain⟨ob,_,_,h1,h2,_⟩:=dd;exact⟨ob,h1,h2.2.1⟩
 .obtain⟨_,hd,xs,_,dd⟩:=uF I.hok e
  refine⟨dd.typeIs,λb q=>?_,hd⟩;cases q;obtain⟨ob,_,_,h1,h2,_⟩:=dd;exact⟨ob,h1,h2.2.1⟩
section
theorem Ng {Q:ae->aq->Prop}(hu:A.units+1<cLine)(I:Inv X pins σ H s)(g:ll H a y o)(ry:RelV y u)(rd:RelV d r)(h:∀w' s',Inv X pins σ H s'->RelV (o.getD d) w'->Q w' s') :
  ay (model X.prog X.w) A (call (.builtin "dict.get") [.ref a,u,r]) Q E s:=by
 rcases g with⟨kvs,k,e,ey,l⟩ | ⟨kvs,k,b,e,ey,eb,l⟩
 .subst ey
  obtain⟨z,hd,vs,qz,dd⟩:=uE I.hok e;refine call_meetsIn PySem.F.slot_dict_get dd.typeIs PySem.F.entry_dict_get (PySem.F.args_dict_get_3 _ _ _) (meets_dict_get_default (fG X.prog X.w) a (xt ry) hd r) ⟨_,dd.mapOf,h _ _ (I.tok _) ?_⟩;rw[l];exact (qz.val k).getD rd
 .subst ey
  cases (show u=ae.ref b from ry);obtain⟨z,hd,xs,qz,dd⟩:=uF I.hok e;refine call_meetsIn PySem.F.slot_dict_get dd.typeIs PySem.F.entry_dict_get (PySem.F.args_dict_get_3 _ _ _) (meetsH_dict_get_default (tupleKind (fG X.prog X.w)) a b hd r) ⟨tupleKind_room_in1 hu,k,xs,rE I.hok eb,dd,h _ _ (I.tok _) ?_⟩;rw[l];exact (qz.val k).getD rd
end
noncomputable def FT (td ty tx:TE):TE:=λσ H Q=>td σ H λx H1=>∃a,x=.ref a/\T9 H1 a/\ty σ H1 λy H2=>tx σ H2 λz H3=>∃o,ll H3 a y o/\Q (o.getD z) H3
section
theorem FU (hu:X.A.units+1<cLine)(ho:PE X o td)(he:PE X e ty)(hf:PE X f tx)(m:M2 X o "get" gk e f fJ):PE X (.Call (.Attribute o "get" gk) [e,f] [] fJ) (FT td ty tx):=by
 intro pins s σ H Q I h;refine wpAny_Call_method m.base m.Sn m.line PySem.F.plainAttrs_dict PySem.F.slot_dict_get PySem.F.type_dict_get (fN (ho pins s σ H _ I h) λu s1 ⟨x,H1,I1,rx,a,ex,d,q1⟩=>?_);subst ex;obtain rfl:u=ae.ref a:=rx;obtain⟨t1,t2,_⟩:=Nf I1 d;refine⟨t1,t2,?_⟩;rw[m.trees]
 refine Calls.callWith_builtin rfl (Calls.evalArgs_plain (Calls.spliced_cons (fN (he pins s1 σ H1 _ I1 q1) λiv s2 ⟨y,H2,I2,ry,q2⟩ =>
  Calls.spliced_cons (fN (hf pins s2 σ H2 _ I2 q2) λfv s3 ⟨z,H3,I3,rz,ov,g,q3⟩=>Calls.spliced_nil ?_))))
 exact Ng hu I3 g ry rz λw' s4 I4 oY=>⟨_,H3,I4,oY,q3⟩
end
end L2
namespace PySem
open Sem (wp)
open AutoSeq1 (wpAny_loadPart')
theorem ql (l b:Addr)(xs ys:Array ae)(n n2:Nat)(dd:Option Addr)(sl:Array (Option ae))(h0:¬ (!xs.isEmpty && Builtin.List.listTooLong (xs.size+ys.size))=true)(h1:xs.size<=ax)(h2:(xs++ys).size<=ax+1) :
  Meets (Builtin.«list.extend» ⟨[.ref l,.ref b],[]⟩) (λ_ R s=>s.heap.get? l=some { cls:=.type "list",dict:=none,data:=.seq xs n,slots:=#[] }/\s.heap.get? b=some { cls:=.type "tuple",dict:=dd,data:=.seq ys n2,slots:=sl } /\
   R (.ok (.ret ae.none)) { s with heap:=s.heap.update l (Obj.mapSeq λx=>x++ys),toks:=s.toks }) :=
 .of_wp λprog w A R s h=>by
  obtain⟨hp,g,d,tk,os⟩:=s;obtain⟨hl,hb,h⟩:=h;have f1:=AutoSeq1.idx_int
  wp_walk using (wpAny_updateSeq hl rfl (hz:=h1) (_hz':=h2)),wpAny_loadPart' hl,wpAny_loadPart' hb
  exact⟨_,rfl,h⟩
end PySem
namespace L2
open PySem PySem.Spec PyProof.Rows
section
variable {X:Cx}{o i e f value:Expr}{td ty tv tx to ti te:TE}{pos iD gk fJ:Pos}
theorem rG:QE X (.Dict [] [] pos) FQ:=⟨FR⟩
theorem qA (hu:X.A.units+1<cLine)(ho:QE X o td)(hi:QE X i ty)(hs:FN i):QE X (.Subscript o i pos) (KY td ty):=⟨Jf hu ho.run hi.run hs⟩
theorem rH (hu:X.A.units+1<cLine)(ho:QE X o td)(he:QE X e ty)(hf:QE X f tx)(m:M2 X o "get" gk e f fJ):QE X (.Call (.Attribute o "get" gk) [e,f] [] fJ) (FT td ty tx):=⟨FU hu ho.run he.run hf.run m⟩
theorem vM (hu:X.A.units+1<cLine)(ho:QE X o td)(hi:QE X i ty)(hv:QE X value tv)(hs:swapsWith value (some (.Subscript o i iD)) pos.line X.env=pure false:=by rfl):QS X (.Assign [.Subscript o i iD] value pos) (KZ td ty tv):=⟨Jg hu ho.run hi.run hv.run hs⟩
noncomputable def FV (K:W.Frag):V->List V->Hp->VK->Prop:=λx vs H Q=>∃l b xs zs,x=.ref l/\vs=[.ref b]/\H l=some (.lst xs)/\iW K H b zs/\xs.length+zs.length<=ax/\Q .gB (eR H l (.lst (xs++zs)))
theorem zO (K:W.Frag)(h:X.K=K:=by rfl):P5 X "list.extend" (FV K):=by
 subst h;intro pins s σ H x vs v us Q I rx rv h;obtain⟨l,b,xs,zs,rfl,rfl,hH,hB,hz,q⟩:=h;cases rx;obtain⟨u,rfl,ru⟩:=rv.one;cases ru;obtain⟨z,its,n,r,hl,e⟩:=I.vC hH;obtain⟨mH,r2,ht,BQ⟩:=I.tuple hB;obtain⟨⟨cls,dd,data,sl⟩,ho,hc,n2,hd⟩:=id ht;simp only at hc hd;subst hc hd;have e1:=r2.length;have hsz:its.toArray.size+mH.toArray.size<=ax:=by rw[aD,aD];omega
 have xj:¬ (!its.toArray.isEmpty && Builtin.List.listTooLong (its.toArray.size+mH.toArray.size))=true:=λz=>by
  rw[rl hsz,Bool.and_false] at z;cases z
 have DF:(its.toArray++mH.toArray).size<=ax+1:=by rw[Array.size_append];omega
 refine call_meets F.slot_list_extend ⟨_,e,rfl⟩ F.entry_list_extend (F.args_list_extend_2 _ _) (ql l b its.toArray mH.toArray n n2 dd sl xj (!1) DF) ⟨e,ho,?_⟩;exact⟨.gB,_,I.Fh (its':=its++mH) hH e (!4) (r.append r2) (by rw[aG];exact hz),rfl,q⟩
theorem IntsAre.oa:∀{ns:List Int} {us:List ae},ee (ns.map V.int) us->IntsAre us ns
 | [],us,h=>by cases h;exact .nil
 | n::ns,us,h=>by
  cases h with
  | cons r t =>
   obtain⟨tk,rfl⟩:=r;exact .cons n tk (IntsAre.oa t)
theorem ee.qB:∀{ns:List Int} {us:List ae},IntsAre us ns->ee (ns.map V.int) us
 | _,_,.nil=>.nil
 | _,_,.cons n t r=>.cons ⟨t,rfl⟩ (ee.qB r)
theorem og (K:W.Frag)(hk:X.K=K:=by rfl):gj X (.builtin "sorted") (λxs H Q=>∃(p:Addr) (ns:List Int),xs=[.ref p]/\gn K H p (ns.map V.int)/\ns.length<64/\∀(l:Addr) (ms:List Int),ms.Perm ns->ms.Pairwise (·<=·)->H l=none->Q (.ref l) (eR H l (.lst (ms.map V.int)))):=by
 subst hk;intro pins s σ H xs us Q I r h;obtain⟨p,ns,rfl,hp,HP,q⟩:=h;obtain⟨u,rfl,ru⟩:=vals1 r;cases ru;obtain⟨its,rv,ht,hz⟩:=I.list hp;have hl:=rv.length;rw[aj] at hl;refine sorted_ints ht.isList (IntsAre.oa rv) (!1) λout ms h1 h2 h3=>?_;have hm:=h2.length_eq;have hv:ee (ms.map V.int) out.toList:=ee.qB h1;have hsz:(ms.map V.int).length<=ax:=by rw[aj,show ax=16777216 by decide];omega
 have kp:∀b o,s.heap.get? b=some o->(sortedAll s.heap its out).get? b=some o:=λb o e=>sortedAll_old e;have nw:=sortedAll_at s.heap its out;obtain⟨n,nw⟩:=nw;refine⟨.ref (s.heap.objs.size+1),_,I.laid (t':=s.toks) (o:=.lst (ms.map V.int)) kp (b8 _) ⟨hsz,out.toList,n,hv,by simpa using nw⟩,rfl,q _ ms h2 h3 (I.hok.fresh (b8 _))⟩
end
noncomputable def Qu (o:Obj)(a:Addr)(kvs:List (Key × V)):It :=
 ⟨λi H=>H a=some (.qS o (.dK kvs))/\i<kvs.length,λi H x H'=>H'=H/\∃k v,kvs[i]? = some (k,v)/\x=kV k,λi H=>H a=some (.qS o (.dK kvs))/\kvs.length<=i⟩
theorem B4 (h:(fG P w).is k u=true):RelV (kV k) u:=by
 rcases fB (show qR k u=true from h) with⟨i,t,rfl,rfl⟩ | ⟨x,t,rfl,rfl⟩
 .exact⟨t,rfl⟩
 .exact⟨t,rfl⟩
theorem FW (I:Inv X pins σ H s)(h:H a=some (.qS o (.dK kvs)))(hd:o.data=.dict es ep) :
  (a == sysModules)=false/\∃vs,KV kvs vs/\s.heap.DictAt (fG X.prog X.w) a vs ep:=by
 obtain⟨e,z,y,vs,r,ob,ji,Sa,e',c,d,k,p,n⟩:=I.hok a _ h;rw[e] at e';cases e';rw[hd] at d;cases d;exact⟨y,vs,r,o,es,e,c,hd,k,p,n⟩
theorem Qv {kvs:List (Key × V)}{vs:List (Key × ae)}(r:KV kvs vs){i:Nat}{k:Key}{v:V}(h:kvs[i]? = some (k,v)):∃u,vs[i]? = some (k,u):=by
 have hk:=r.keys;have hl:=r.length;have hi:i<kvs.length:=(aY.mp h).1;have Fz:i<vs.length:=by omega
 have e1:(kvs.map (·.1))[i]? = some k:=by rw[aC,h];rfl
 have e2:vs[i]? = some vs[i]:=by simp[Fz]
 rw[hk,aC,e2] at e1;have e3:vs[i].1=k:=Option.some.inj e1;refine⟨vs[i].2,?_⟩;rw[e2,<- e3]
theorem DG {P:aO}{w:World}{K:W.Frag}{tg:Expr}(a it:Addr){o:Obj}{kvs:List (Key × V)}{es:Array DictEntry}{ep:Nat}(hd:o.data=.dict es ep):zk P w K tg (Qu o a kvs) [it] it (λi h=>h.IsKeyIter it a i kvs.length ep) where
 mem:=by simp
 obj:=λi h st b hb=>by
  have e:b=it:=by simpa using hb
  subst e;obtain⟨o,e,c,d⟩:=st;exact⟨o,e,λv z=>by rw[d] at z;cases z⟩
 keep:=λi h h' st k=>st.at λo e=>k it (!4) o e
 item:=by
  intro X hP hw hK hc i pins s σ H E I hf st hg;subst hP hw hK;obtain⟨hg,hi⟩:=hg;obtain⟨_,vs,r,da⟩:=FW I hg hd;have hx:kvs[i]? = some kvs[i]:=by simp[hi]
  obtain⟨u,hu⟩:=Qv r (k:=kvs[i].1) (v:=kvs[i].2) hx;obtain⟨f0,f1,f2,f3,f4,f5⟩:=hf it (!4);have hl:=r.length;rw[hl] at st;refine wpAny_pyNext_dict_item st da hu λkey h' Mu eK sb=>?_;have I1:Inv X pins σ H { s with heap:=h' }:=I.turned (t':=s.toks) (λb o hb e=>(sb.2 b hb).trans e) f0 f1 f3 f4 f5;obtain⟨o',e,c,d⟩:=id eK;exact⟨key,rfl,BG (s:={ s with heap:=h' }) e c d (!2) ⟨kV kvs[i].1,H,I1,B4 Mu,⟨rfl,_,_,hx,rfl⟩,by rw[hl];exact eK,λb hb=>(hf b hb).1⟩⟩
 done:=by
  intro X hP hw hK hc i pins s σ H E I hf st hg;subst hP hw hK;obtain⟨hg,hi⟩:=hg;obtain⟨_,vs,r,da⟩:=FW I hg hd;obtain⟨f0,f1,f2,f3,f4,f5⟩:=hf it (!4);have hl:=r.length;rw[hl] at st;exact wpAny_pyNext_dict_end (I.ok.hd hc) st da (by simp;omega) λh' eb=>⟨rfl,I.turned (t':=s.toks) (λb o hb e=>eb b o hb e) f0 f1 f3 f4 f5⟩
 self:=λ_ _ _ _ _ st h=>wpAny_pyIter_keyiter st h
section
variable {X:Cx}{tg:Expr}
theorem Inv.freeze {pins:List (Addr × Obj)}{s:aq}{σ:St}{H:Hp}{a:Addr}{kvs:List (Key × V)}(I:Inv X pins σ H s)(h:H a=some (.dK kvs)) :
  ∃o es ep,o.data=.dict es ep/\Inv X pins σ (eR H a (.qS o (.dK kvs))) s/\(a == sysModules)=false/\∃vs,KV kvs vs/\s.heap.DictAt (fG X.prog X.w) a vs ep:=by
 obtain⟨z,y,vs,r,o,es,ep,e,c,d,k,p,n⟩:=I.hok a _ h;refine⟨o,es,ep,d,?_,y,vs,r,o,es,e,c,d,k,p,n⟩;have:=I.write (x:=a) (e:=a) (h':=s.heap) (t':=s.toks) (o:=.qS o (.dK kvs)) (by rw[h];exact trivial) (.inl rfl) (λb u _ q=>q) ⟨o,e⟩ ⟨e,z,y,vs,r,o,es,ep,e,c,d,k,p,n⟩;exact this
noncomputable def Qw (tl:TE):TI:=λσ H R=>tl σ H λx H1=>∃a kvs,x=.ref a/\H1 a=some (.dK kvs)/\∀o,R (Qu o a kvs) (eR H1 a (.qS o (.dK kvs)))
theorem B5 {l:Expr}{tl:TE}(hl:QE X l tl):QI X tg l (Qw tl):=by
 refine⟨λpins s σ H R I h=>?_⟩;refine fN (hl.run pins s σ H _ I h) λv s1 ⟨x,H1,I1,r1,q1⟩=>?_;obtain⟨a,kvs,e,ha,q⟩:=q1;subst e;cases r1;obtain⟨o,es,ep,hd,I2,hy,vs,qz,da⟩:=I1.freeze ha;refine wpAny_pyIter_dict hy da ?_;have eX:=qz.length;refine⟨s1.heap.objs.size,[s1.heap.objs.size],_,_,_,rfl,I2.kept (t':=s1.toks) λb o e=>ah _ e,DG a _ hd,⟨_,aH _ rfl,rfl,by rw[eX];rfl⟩,λb hb=>?_,q o⟩;have e:b=s1.heap.objs.size:=by simpa using hb
 subst e;exact I2.qY (am _) (I2.hok.fresh (am _))
theorem uG {mp:List (Option Nat)}{g:TG}{tc:TT}{te:TE}{σ:St}{H:Hp}{R:List V->Hp->Prop}{o:Obj}{a:Addr}{kvs:List (Key × V)}(Pv:Nat->List V->St->Hp->Prop)(h0:Pv 0 [] (lB mp σ) H)
  (hl:∀i ys σ' H',Pv i ys σ' H'->H' a=some (.qS o (.dK kvs)))
  (hs:∀i k v ys σ' H',kvs[i]? = some (k,v)->Pv i ys σ' H'->ys.length<ax/\g (kV k) σ' H' λσ2 H2=>tc σ2 H2 λb H3=>if b=true then te σ2 H3 λy H4=>Pv (i+1) (ys++[y]) σ2 H4 else Pv (i+1) ys σ2 H3)
  (hd:∀ys σ' H',Pv kvs.length ys σ' H'->ys.length<=ax/\R ys H') :
  ∃W:Nat->Nat->List V->St->Hp->Prop,(∃m,W 0 m [] (lB mp σ) H)/\∀i m ys σ' H',W i m ys σ' H' ->
   ((Qu o a kvs).stop i H'/\ys.length<=ax/\R ys H') \/
   ((Qu o a kvs).go i H'/\ys.length<ax/\∀x MW,(Qu o a kvs).HH i H' x MW->g x σ' MW λσ2 H2=>tc σ2 H2 λb H3 =>
    if b=true then te σ2 H3 λy H4=>∃m',m' < m/\W (i+1) m' (ys++[y]) σ2 H4 else ∃m',m' < m/\W (i+1) m' ys σ2 H3):=by
 refine⟨λi m ys σ H=>m=kvs.length - i/\i<=kvs.length/\Pv i ys σ H,⟨kvs.length,!4,bL _,h0⟩,?_⟩;rintro i m ys σ' H' ⟨rfl,hi,p⟩;have q0:=hl i ys σ' H' p;by_cases ig:i<kvs.length
 .have e:∀ys σ H,(∃m',m' < kvs.length - i/\m'=kvs.length - (i+1)/\i+1<=kvs.length/\Pv (i+1) ys σ H)=Pv (i+1) ys σ H:=λys σ H=>propext ⟨λ⟨_,_,_,_,z⟩=>z,λz=>⟨_,!1,rfl,ig,z⟩⟩
  have hx:kvs[i]? = some kvs[i]:=by simp[ig]
  refine .inr ⟨⟨q0,ig⟩,(hs i kvs[i].1 kvs[i].2 ys σ' H' hx p).1,λx MW y=>?_⟩;obtain⟨e1,k,v,hk,ex⟩:=y;subst e1 ex;simp only[e];exact (hs i k v ys σ' _ hk p).2
 .have e:i=kvs.length:=by omega
  subst e;obtain⟨Nh,q⟩:=hd ys σ' H' p;exact .inl ⟨⟨q0,am _⟩,Nh,q⟩
end
end L2
namespace PySem
open Sem (wp)
section
variable {prog:aO}{w:World}{A:Around}{E:ae->aq->Prop}{s:aq}{κ:Type}[DecidableEq κ]{knd:KeyKind prog w κ}
theorem DH {d:Addr}{kvs:List (κ × ae)}{Q:Bool->aq->Prop}(hm:s.heap.DictOf knd d kvs)(h:Q false s):ay (model prog w) A (Builtin.List.listLengthHint (.ref d)) Q E s:=by
 have ty:s.TypeIs (.ref d) "dict" := hm.typeIs;unfold Builtin.List.listLengthHint;refine aa (wpAny_specialOf ty F.slot_dict_len.lookup ?_);generalize hj:("dict.__len__" : String)=j0
 wp_delta
 rw[show splitId j0=some ("dict", "__len__") from by subst hj;decide +kernel];subst hj;refine aa (wpAny_isInstance (T := "dict") (b:=true) ty (by rw[isSubtype_type];kernel_rfl) ?_);refine wpAny_ite_split (λz=>absurd z (!2)) (λ_=>?_);refine wpAny_ite_split (λ_=>?_) (λz=>absurd (!3) z);exact aa (wpAny_typeOf ty (ai h))
theorem xv {R:Result->aq->Prop}{d:Addr}{kvs:List (κ × ae)}{ep:Nat}(hh:A.handled=none)(hm:s.heap.DictAt knd d kvs ep)(hd:(d == sysModules)=false)(eX:kvs.length<=ax)(S:Addr)(res:ae)(c₀:Nat)
  (hS:s.heap.get? S=some { cls:=.type "list",data:=.seq #[] c₀ })
  (hR:∀h' tk mW c',(∀b o,b≠S->s.heap.get? b=some o->h'.get? b=some o)->h'.get? S=some { cls:=.type "list",dict:=none,data:=.seq mW c',slots:=#[] }->ItemsOf (λi v=>∃k x,kvs[i]? = some (k,x)/\knd.is k v=true) mW kvs.length ->
   R (.ok (.ret res)) { s with heap:=h',toks:=tk }) :
  ay (model prog w) A.in1 (Builtin.List.listExtendWith (.ref S) (.ref d) res)
   (λfin s'=>match fin with | .done f=>R (.ok f) s' | .again c'=>c'.quiet=true/\codeAny (model prog w) A c' R s') (λe s'=>R (.error e) s') s:=by
 have ty:s.TypeIs (.ref d) "dict" := hm.dictOf.typeIs;have xw:d<s.heap.objs.size:=by obtain⟨o,es,e,_⟩:=id hm;exact aA e
 have Sq:S<s.heap.objs.size:=aA hS
 have OL:S≠d:=λz=>by
  obtain⟨o,e,c⟩:=ty;rw[<- z,hS] at e;cases e;exact absurd (show ae.type "list" = ae.type "dict" from c) (!2)
 have Sr:S≠s.heap.objs.size:=aN Sq
 have Ni:S ∉ [s.heap.objs.size,d]:=λz=>by
  rcases au.mp z with z | z
  .exact Sr z
  .exact OL (by simpa using z)
 have W:=(Walks.dictKeys (prog:=prog) (w:=w) (A:=A.in1) (knd:=knd) hh s.heap.objs.size d (aN xw) kvs ep).toS
 have run:∀(h:Heap) (c₁ tk:Nat),h.IsKeyIter s.heap.objs.size d 0 kvs.length ep->h.DictAt knd d kvs ep->(∀b o,b≠S->s.heap.get? b=some o->h.get? b=some o) ->
   h.get? S=some { cls:=.type "list",data:=.seq #[] c₁ }->codeAny (model prog w) A (.builtin "list.extend.loop" ⟨[.ref S,.ref s.heap.objs.size,res],[]⟩) R { s with heap:=h,toks:=tk }:=by
  intro h c₁ tk Na Xl hk k9;refine codeAny_extend_loopS W eX S Ni res kvs.length 0 _ #[] c₁ rfl (bL _) ⟨Na,Xl⟩ k9 (ItemsOf.nil _) λs' mW c' mv Ua Dy=>?_;rw[Moved.eq_with mv];refine hR s'.heap s'.toks mW c' (λb o hb e=>mv.heap b o (λz=>?_) (hk b o hb e)) Ua Dy;rcases au.mp z with z | z
  .exact hb z
  .have:b=s.heap.objs.size:=by simpa using z
   exact absurd (aA e) (by rw[this];exact bt _)
 unfold Builtin.List.listExtendWith;refine aa (wpAny_typeOf ty ?_);have n1:Builtin.List.listSameRef (.ref S) (.ref d)=false:=by simp[Builtin.List.listSameRef,OL]
 have n2:(ae.type "dict" == ae.type "list")=false:=by decide
 have n3:(ae.type "dict" == ae.type "tuple")=false:=by decide
 simp only[n1,n2,n3,Bool.or_false,bX,if_false];refine aa (wpAny_pyIter_dict hd hm ?_);have B6:(s.heap.push { cls:=.type "dict_keyiterator",data:=.fields #[.ref d,.int 0 0,.int kvs.length 0,.int ep 0] }).DictAt knd d kvs ep:=hm.at' λo e=>ah _ e;have zP:(s.heap.push { cls:=.type "dict_keyiterator",data:=.fields #[.ref d,.int 0 0,.int kvs.length 0,.int ep 0] }).IsKeyIter s.heap.objs.size d 0 kvs.length ep:=⟨_,aH _ rfl,rfl,rfl⟩;have oh:∀b o,s.heap.get? b=some o->(s.heap.push { cls:=.type "dict_keyiterator",data:=.fields #[.ref d,.int 0 0,.int kvs.length 0,.int ep 0] }).get? b=some o:=λb o e=>ah _ e;have k9:=oh S _ hS;generalize s.heap.push { cls:=.type "dict_keyiterator",data:=.fields #[.ref d,.int 0 0,.int kvs.length 0,.int ep 0] }=h1 at B6 zP oh k9 ⊢;refine aa (wpAny_holding (DH (s:={ s with heap:=h1 }) B6.dictOf ?_));refine wpAny_ite_split (λ_=>?_) (λ_=>ai ⟨plainId_quiet F.plain_extend_loop _,run h1 c₀ s.toks zP B6 (λb o _ e=>oh b o e) k9⟩);refine aa (wpAny_rule (aa ?_));show ay _ _ (updateSeq S (·.push .none) >>= λ_=>updateSeq S (·.pop)) _ _ { s with heap:=h1 };refine aa (wpAny_updateSeq k9 rfl ?_);have xx:=aS (Obj.mapSeq (·.push ae.none)) k9 rfl;refine wpAny_updateSeq (hz:=by seq_fits) xx rfl ?_;have FX:=aS (Obj.mapSeq (·.pop)) xx rfl
 have uH:∀b o,b≠S->h1.get? b=some o->((h1.update S (Obj.mapSeq (·.push ae.none))).update S (Obj.mapSeq (·.pop))).get? b=some o:=λb o hb e =>
  (aI _ _ (Ne.symm hb)).trans ((aI _ _ (Ne.symm hb)).trans e)
 exact ai ⟨plainId_quiet F.plain_extend_loop _,run _ _ s.toks (zP.at λo e=>uH _ o (Ne.symm Sr) e) (B6.at' λo e=>uH _ o (Ne.symm OL) e) (λb o hb e=>uH b o hb (oh b o e)) FX⟩
theorem vN {Q:List ae->aq->Prop}{d:Addr}{kvs:List (κ × ae)}{ep:Nat}(hh:A.handled=none)(hm:s.heap.DictAt knd d kvs ep)(hd:(d == sysModules)=false)(eX:kvs.length<=ax)
  (hQ:∀h' tk (acc:Array ae),(∀b o,s.heap.get? b=some o->h'.get? b=some o)->ItemsOf (λi v=>∃k x,kvs[i]? = some (k,x)/\knd.is k v=true) acc kvs.length->Q acc.toList { s with heap:=h',toks:=tk }) :
  ay (model prog w) A (collect (.ref d)) Q E s:=by
 unfold collect;refine aa (wpAny_runValue (codeAny_builtin F.entry_proto_collect ?_));rw[Around.under_plainId F.plain_proto_collect _];show ay _ A.in1 (newList [] >>= λl=>again (.builtin "list.__iadd__" ⟨[l,.ref d],[]⟩)) _ _ s;refine aa (bh (ai ⟨plainId_quiet F.plain_list_iadd _,codeAny_builtin F.entry_list_iadd ?_⟩));rw[Around.under_plainId F.plain_list_iadd _];show ay _ A.in1 (Builtin.List.listExtendWith (.ref s.heap.objs.size) (.ref d) (.ref s.heap.objs.size)) _ _ _;have hS:(s.heap.push { cls:=.type "list",data:=.seq ([]:List ae).toArray }).get? s.heap.objs.size=some { cls:=.type "list",data:=.seq #[] 0 }:=aH _ rfl
 have FY:∀(h':Heap) (tk:Nat) (acc:Array ae) (c':Nat),(∀b o,b≠s.heap.objs.size->(s.heap.push { cls:=.type "list",data:=.seq ([]:List ae).toArray }).get? b=some o->h'.get? b=some o) ->
   h'.get? s.heap.objs.size=some { cls:=.type "list",dict:=none,data:=.seq acc c',slots:=#[] }->ItemsOf (λi v=>∃k x,kvs[i]? = some (k,x)/\knd.is k v=true) acc kvs.length ->
   ay (model prog w) A (match ae.ref s.heap.objs.size with
   | ae.ref a=>do
    match (<- load a).data with
     | Data.seq xs _=>pure xs.toList
     | _=>unsupported "internal:collect"
   | _=>unsupported "internal:collect") Q E { s with heap:=h',toks:=tk }:=λh' tk acc c' kp e hi=>by
  show ay _ A (load s.heap.objs.size >>= _) _ _ _;refine aa (wpAny_load e ?_);exact ai (hQ h' tk acc (λb o hb=>kp b o (aN (aA hb)) (ah _ hb)) hi)
 refine bJ (xv (A:=A) (R:=λr' s'=>r'=.ok (.ret (.ref s.heap.objs.size))/\∃h' tk acc c',s'={ s with heap:=h',toks:=tk }/\(∀b o,b≠s.heap.objs.size->(s.heap.push { cls:=.type "list",data:=.seq ([]:List ae).toArray }).get? b=some o->h'.get? b=some o) /\
   h'.get? s.heap.objs.size=some { cls:=.type "list",dict:=none,data:=.seq acc c',slots:=#[] }/\ItemsOf (λi v=>∃k x,kvs[i]? = some (k,x)/\knd.is k v=true) acc kvs.length)
  (s:={ s with heap:=s.heap.push { cls:=.type "list",data:=.seq ([]:List ae).toArray } }) hh (hm.at' λo e=>ah _ e) hd eX s.heap.objs.size (.ref s.heap.objs.size) 0 hS
  λh' tk acc c' kp e hi=>⟨rfl,h',tk,acc,c',rfl,kp,e,hi⟩) (λfin s' h=>?_) (λe s' h=>?_)
 .cases fin with
  | done f =>
   obtain⟨e,h',tk,acc,c',rfl,kp,q,hi⟩:=h;cases e;exact FY h' tk acc c' kp q hi
  | again c'=>exact⟨h.1,codeAny_mono h.2 λr MD hr=>by obtain⟨rfl,h',tk,acc,c',rfl,kp,q,hi⟩:=hr;exact FY h' tk acc c' kp q hi⟩
 .exact absurd h.1 (!4)
end
end PySem
namespace L2
open PySem PySem.Spec PyProof.Rows
section
variable {X:Cx}
theorem B7:∀{xs:List V} {us:List ae},xs.length=us.length->(∀(i:Nat) (x:V) (u:ae),xs[i]? = some x->us[i]? = some u->RelV x u)->ee xs us
 | [],[],_,_=>.nil
 | x::xs,u::us,h,f=>.cons (f 0 x u rfl rfl) (B7 (by simpa using h) λi y w h1 h2=>f (i+1) y w (by simpa using h1) (by simpa using h2))
 | [],_::_,h,_=>by cases h
 | _::_,[],h,_=>by cases h
theorem vO (hc:X.calm=true):gj X (.builtin "sorted") (λxs H Q=>∃(p:Addr) (kvs:List (Key × V)) (ns:List Int),xs=[.ref p]/\H p=some (.dK kvs)/\kvs.map (·.1)=ns.map Sum.inl/\ns.length<64 /\
  ∀(l:Addr) (ms:List Int),ms.Perm ns->ms.Pairwise (·<=·)->H l=none->Q (.ref l) (eR H l (.lst (ms.map V.int)))):=by
 intro pins s σ H xs us Q I r h;obtain⟨p,kvs,ns,rfl,hp,Ss,HP,q⟩:=h;obtain⟨u,rfl,ru⟩:=vals1 r;cases ru;obtain⟨o,es,ep,hd,_,hy,vs,qz,da⟩:=I.freeze hp
 have eX:vs.length=ns.length:=by
  have h1:=qz.length;have h2:=congrArg List.length Ss;rw[aj,aj] at h2;omega
 refine Calls.call_function_entry kind_sorted plain_sorted entry_sorted (args_sorted1 _) ?_;unfold Builtin.«sorted»;refine aa (m:=checkCount "sorted" 1 1 _) (ai ?_);refine aa (vN (A:=X.A.in1) (I.ok.hd hc) da hy (by rw[eX,show ax=16777216 by decide];omega) λh1 tk acc kp hi=>?_)
 have hI:IntsAre acc.toList ns:=by
  refine IntsAre.oa (B7 ?_ λj x u h1 h2=>?_)
  .have e0:acc.toList.length=acc.size:=by simp
   rw[aj,e0,hi.1,eX]
  .have Qx:acc[j]? = some u:=by simpa using h2
   obtain⟨k,y,e1,e2⟩:=hi.2 j u Qx;rw[aC] at h1;have e3:(vs.map (·.1))[j]? = some k:=by rw[aC,e1];rfl
   rw[<- qz.keys,Ss,aC] at e3
   cases hn:ns[j]? with
   | none=>rw[hn] at h1;cases h1
   | some n =>
    rw[hn] at h1 e3;cases h1;cases e3;exact B4 e2
 have Qy:acc.toList.length<64:=by
  have e0:acc.toList.length=acc.size:=by simp
  rw[e0,hi.1,eX];exact HP
 refine aa (wpAny_newList ?_);have EI:(h1.push (seqObj "list" acc.toList.toArray 0)).get? h1.objs.size=some (seqObj "list" acc.toList.toArray 0):=aH _ rfl;show ay _ _ _ _ _ { s with heap:=h1.push (seqObj "list" acc.toList.toArray 0),toks:=tk };refine aa (wpAny_holding (wpAny_call_entry slot_list_sort ⟨_,EI,rfl⟩ entry_list_sort (list_sort_tree EI hI Qy λout ms a1 a2 a3=>⟨_,rfl,?_⟩) (args_list_sort _)));refine ai ⟨_,rfl,?_⟩;have hm:=a2.length_eq;have hv:ee (ms.map V.int) out.toList:=ee.qB a1;have hsz:(ms.map V.int).length<=ax:=by rw[aj,show ax=16777216 by decide];omega
 have I1:Inv X pins σ H { s with heap:=h1,toks:=tk }:=I.kept kp
 have Nj:∀b ob,h1.get? b=some ob->(sortedHeap (h1.push (seqObj "list" acc.toList.toArray 0)) h1.objs.size acc.toList out).get? b=some ob:=by
  intro b ob e;have hb:h1.objs.size≠b:=cf (aA e);unfold sortedHeap;rw[aI _ _ hb];refine ah _ (ah _ ?_);rw[aI _ _ hb];exact ah _ e
 have nw:∃n,(sortedHeap (h1.push (seqObj "list" acc.toList.toArray 0)) h1.objs.size acc.toList out).get? h1.objs.size=some { cls:=.type "list",data:=.seq out n }:=by
  have g2:=aS (Obj.mapSeq λ_=>(#[]:Array ae)) EI rfl;have g3:=ah (seqObj "list" #[] 0) (ah (seqObj "tuple" acc.toList.toArray 0) g2);have g4:=aS (Obj.mapSeq λ_=>out) g3 rfl;exact⟨_,g4⟩
 obtain⟨n,nw⟩:=nw;exact⟨.ref h1.objs.size,_,I1.laid (t':=tk) (o:=.lst (ms.map V.int)) Nj (am _) ⟨hsz,out.toList,n,hv,by simpa using nw⟩,rfl,q _ ms a2 a3 (I1.hok.fresh (am _))⟩
end
end L2
namespace PySem
open Sem (wp)
open AutoSeq1 (wpAny_loadPart')
section
theorem zQ {it t:Addr}{i:Nat}{xs:Array ae}{x:ae}{Q:ae->aq->Prop}(hi:s.heap.IsTupleIter it t i)(ht:s.heap.IsTuple t xs)(hx:xs[i]? = some x)
  (q:∀h',h'.IsTupleIter it t (i+1)->Heap.SameBut it s.heap h'->Q x { s with heap:=h' }):ay (model prog w) A (Builtin.SmallTypes.nextOf (.ref it)) Q E s:=by
 obtain⟨ob,e1,c1,d1⟩:=id hi;obtain⟨ot,e2,_,n2,d2⟩:=ht;have nn:¬ ((ae.ref t == ae.none)=true):=aZ;unfold Builtin.SmallTypes.nextOf;refine aa (wpAny_callSpecial?_slot (name:=Str.ofString "__next__") hi.typeIs F.slot_tuple_iterator_next (wpAny_call_entry F.slot_tuple_iterator_next hi.typeIs F.entry_tuple_iterator_next ?_ (F.args_tuple_iterator_next_1 _)));show ay _ _ (field (.ref it) 0 >>= _) _ _ _;refine aa (wpAny_field e1 d1 (x:=.ref t) rfl ?_);show ay _ _ (if (ae.ref t == ae.none)=true then _ else _) _ _ _;rw[if_neg nn];show ay _ _ (field (.ref it) 1 >>= _) _ _ _;refine aa (wpAny_field e1 d1 (x:=.int i 0) rfl (aa (wpAny_seqItems e2 d2 ?_)));simp only[br,hx];refine aa (wpAny_setField e1 d1 (!4) (ai ⟨x,rfl,ai (q _ ?_ (Heap.SameBut.update ..))⟩));refine⟨_,aS _ e1 (Obj.isFreed_of_fields (Obj.data_mapFields d1 _)),(Obj.cls_mapFields ..).trans c1,?_⟩;rw[Obj.data_mapFields d1];simp[rawInt]
theorem DI (hh:A.handled=none)(hi:s.heap.IsTupleIter it t i)(ht:s.heap.IsTuple t xs)(hx:xs[i]? = none)
  (q:∀h' e,Heap.ExtBut it s.heap h'->(∃o,h'.get? e=some o/\o.cls=.type "StopIteration")->E (.ref e) { s with heap:=h' }):ay (model prog w) A (Builtin.SmallTypes.nextOf (.ref it)) Q E s:=by
 obtain⟨ob,e1,c1,d1⟩:=id hi;obtain⟨ot,e2,_,n2,d2⟩:=ht;have nn:¬ ((ae.ref t == ae.none)=true):=aZ;unfold Builtin.SmallTypes.nextOf;refine aa (wpAny_callSpecial?_slot (name:=Str.ofString "__next__") hi.typeIs F.slot_tuple_iterator_next (wpAny_call_entry F.slot_tuple_iterator_next hi.typeIs F.entry_tuple_iterator_next ?_ (F.args_tuple_iterator_next_1 _)));show ay _ _ (field (.ref it) 0 >>= _) _ _ _;refine aa (wpAny_field e1 d1 (x:=.ref t) rfl ?_);show ay _ _ (if (ae.ref t == ae.none)=true then _ else _) _ _ _;rw[if_neg nn];show ay _ _ (field (.ref it) 1 >>= _) _ _ _;refine aa (wpAny_field e1 d1 (x:=.int i 0) rfl (aa (wpAny_seqItems e2 d2 ?_)));simp only[br,hx];refine aa (wpAny_rule (aa (wpAny_setField e1 d1 (!4) (aa ?_))));simp only[newExc,newTuple];refine aa (bh (aa (m:=firstArgMember _ _) (wpAny_of_eq (a:=ae.none) (by first | rfl | (simp only[firstArgMember];rfl)) (bh ?_ (by size_fits)))) (by size_fits));simp only[raiseNew];refine aa (wpAny_handled ?_);first | rw[show A.in1.handled=none from hh] | rw[hh]
 exact aa (ai (wpAny_throw (q _ _ (((Heap.SameBut.update ..).extBut.push _).push _) ⟨_,aH _ rfl,rfl⟩)))
theorem zR {e it t:Addr}{i:Nat}{xs:Array ae}{x old:ae}{Q:ae->aq->Prop}(he:IsEnum s.heap e it i old)(hi:s.heap.IsTupleIter it t i)(ht:s.heap.IsTuple t xs)(hx:xs[i]? = some x)(jS:e≠it)
  (q:∀h',IsEnumOut h' e it ((i:Int)+1) x s.heap.objs.size->h'.IsTupleIter it t (i+1)->h'.get? s.heap.objs.size=some { cls:=.type "tuple",data:=.seq #[.int i s.toks,x] } ->
   (∀b o,b≠e->b≠it->s.heap.get? b=some o->h'.get? b=some o)->Q (.ref s.heap.objs.size) { s with heap:=h',toks:=s.toks+1 }) :
  ay (model prog w) A (Builtin.«enumerate.__next__» ⟨[.ref e],[]⟩) (λfin s'=>∃v,fin=.done (.ret v)/\Q v s') E s:=by
 obtain⟨hp,g,d,tk,os⟩:=s;show ay _ _ (field (.ref e) 2 >>= _) _ _ _;refine aa (wpAny_field he rfl (x:=.ref it) rfl (aa (zQ hi ht hx λk1 i1 (b1:Heap.SameBut it hp k1)=>?_)));have e1:IsEnum k1 e it i old:=(b1.2 e jS).trans he;refine aa (wpAny_field e1 rfl (x:=rawInt i) rfl (aa (wpAny_field e1 rfl (x:=.none) rfl ?_)));show ay _ _ (mkInt i >>= _) _ _ ⟨k1,g,d,tk,os⟩;refine aa (wpAny_mkInt (aa (wpAny_setField_rec (x:=rawInt ((i:Int)+1)) e1 (!4) λk2 e2 b2=>?_)));replace b2:Heap.SameBut e k1 k2:=b2;replace e2:IsEnum k2 e it ((i:Int)+1) old:=e2;refine aa (wpAny_setField_rec (x:=.none) e2 (!4) λk3 e3 b3=>?_);replace b3:Heap.SameBut e k2 k3:=b3;replace e3:IsEnum k3 e it ((i:Int)+1) old:=e3;show ay _ _ (newTuple [.int i tk,x] >>= _) _ _ ⟨k3,g,d,tk+1,os⟩;refine aa (wpAny_newTuple ?_);have sz:k3.objs.size=hp.objs.size:=by rw[b3.1,b2.1,b1.1]
 have el:hp.objs.size≠e:=cf (aA he);have e4:IsEnum (k3.push { cls:=.type "tuple",data:=.seq #[.int i tk,x] }) e it ((i:Int)+1) old:=ah _ e3;have t4:(k3.push { cls:=.type "tuple",data:=.seq #[.int i tk,x] }).get? hp.objs.size=some { cls:=.type "tuple",data:=.seq #[.int i tk,x] }:=by rw[<- sz];exact aH _ rfl
 have Qz:∀b o,b≠e->b≠it->hp.get? b=some o->(k3.push { cls:=.type "tuple",data:=.seq #[.int i tk,x] }).get? b=some o:=λb o h1 h2 h3=>ah _ (b3.extBut b o h1 (b2.extBut b o h1 (b1.extBut b o h2 h3)))
 have i4:(k3.push { cls:=.type "tuple",data:=.seq #[.int i tk,x] }).IsTupleIter it t (i+1):=by
  obtain⟨o,ho,r⟩:=i1;exact⟨o,ah _ (b3.extBut it o (Ne.symm jS) (b2.extBut it o (Ne.symm jS) ho)),r⟩
 rw[sz];generalize k3.push { cls:=.type "tuple",data:=.seq #[.int i tk,x] }=k4 at e4 t4 Qz i4 ⊢;show ay _ _ (Builtin.SmallTypes.ownedTupleIsFree (.ref e) >>= _) _ _ ⟨k4,g,d,tk+1,os⟩;refine aa ?_;unfold Builtin.SmallTypes.ownedTupleIsFree;refine aa (wpAny_field e4 rfl (x:=.none) rfl (ai ?_));simp only[if_true];refine aa (wpAny_rule (aa (wpAny_field e4 rfl (x:=old) rfl (aa (wpAny_setField_rec (x:=x) e4 (!4) λk5 e5 b5=>?_)))));replace b5:Heap.SameBut e k4 k5:=b5;replace e5:IsEnum k5 e it ((i:Int)+1) x:=e5;show ay _ _ (Builtin.SmallTypes.ownedTupleHandOut (.ref e) (.ref hp.objs.size) >>= _) _ _ ⟨k5,g,d,tk+1,os⟩;refine aa ?_;unfold Builtin.SmallTypes.ownedTupleHandOut;refine aa (wpAny_setField_rec (x:=rawInt (hp.objs.size:Nat)) e5 (!4) λk6 e6 b6=>?_);replace b6:Heap.SameBut e k5 k6:=b6;replace e6:IsEnumOut k6 e it ((i:Int)+1) x hp.objs.size:=e6;refine wpAny_setField_rec e6 (!4) λk7 e7 b7=>?_;replace b7:Heap.SameBut e k6 k7:=b7;have Nk:∀b o,b≠e->k4.get? b=some o->k7.get? b=some o:=λb o h1 h2=>b7.extBut b o h1 (b6.extBut b o h1 (b5.extBut b o h1 h2));refine aa (wpAny_letGo (ai ⟨_,rfl,q k7 e7 ?_ (Nk _ _ el t4) λb o h1 h2 h3=>Nk b o h1 (Qz b o h1 h2 h3)⟩));obtain⟨o,ho,r⟩:=i4;exact⟨o,Nk it o (Ne.symm jS) ho,r⟩
theorem vP {e it t:Addr}{i:Nat}{xs:Array ae}{x old:ae}{Q:Option ae->aq->Prop}(he:IsEnum s.heap e it i old)(hi:s.heap.IsTupleIter it t i)(ht:s.heap.IsTuple t xs)(hx:xs[i]? = some x)(jS:e≠it)
  (q:∀h',IsEnumOut h' e it ((i:Int)+1) x s.heap.objs.size->h'.IsTupleIter it t (i+1)->h'.get? s.heap.objs.size=some { cls:=.type "tuple",data:=.seq #[.int i s.toks,x] } ->
   (∀b o,b≠e->b≠it->s.heap.get? b=some o->h'.get? b=some o)->Q (some (.ref s.heap.objs.size)) { s with heap:=h',toks:=s.toks+1 }) :
  ay (model prog w) A (pyNext (.ref e)) Q E s:=by
 have ty:s.TypeIs (.ref e) "enumerate" := ⟨_,he,rfl⟩;unfold pyNext;refine aa (wpAny_attempt (wpAny_callSpecial?_slot (name:=Str.ofString "__next__") ty F.slot_enumerate_next (wpAny_call_entry F.slot_enumerate_next ty F.entry_enumerate_next ?_ (F.args_enumerate_next_1 _))));exact zR he hi ht hx jS λh' a b c k=>ai (q h' a b c k)
theorem pb {e it t:Addr}{i:Nat}{xs:Array ae}{old:ae}{Q:Option ae->aq->Prop}(hh:A.handled=none)(he:IsEnum s.heap e it i old)(hi:s.heap.IsTupleIter it t i)(ht:s.heap.IsTuple t xs)(hx:xs[i]? = none)
  (q:∀h',Heap.ExtBut it s.heap h'->Q none { s with heap:=h' }):ay (model prog w) A (pyNext (.ref e)) Q E s:=by
 have ty:s.TypeIs (.ref e) "enumerate" := ⟨_,he,rfl⟩;unfold pyNext;refine aa (wpAny_attempt (wpAny_callSpecial?_slot (name:=Str.ofString "__next__") ty F.slot_enumerate_next (wpAny_call_entry F.slot_enumerate_next ty F.entry_enumerate_next ?_ (F.args_enumerate_next_1 _))));show ay _ _ (field (.ref e) 2 >>= _) _ _ _;refine aa (wpAny_field he rfl (x:=.ref it) rfl (aa (DI hh hi ht hx λh' x ex ⟨o,ho,hc⟩=>?_)));exact aa (wpAny_isInstance (T := "StopIteration") (b:=true) ⟨o,ho,hc⟩ isSubtype_stop (ai (q _ ex)))
theorem DJ (l:Addr)(items:Array ae)(n:Nat)(OK:Option Addr)(sl:Array (Option ae)) :
  Meets (Builtin.«enumerate.__new__» ⟨[.type "enumerate",.ref l],[]⟩) (λ_ R s=>s.heap.get? l=some { cls:=.type "tuple",dict:=OK,data:=.seq items n,slots:=sl } /\
   R (.ok (.ret (.ref (s.heap.push { cls:=.type "tuple_iterator",data:=.fields #[.ref l,.int 0 0] }).objs.size)))
    { s with heap:=(s.heap.push { cls:=.type "tuple_iterator",data:=.fields #[.ref l,.int 0 0] }).push { cls:=.type "enumerate",data:=.fields #[.none,.bool false,.ref s.heap.objs.size,rawInt 0,.none,.none] } }) :=
 .of_wp λprog w A R s h=>by
  obtain⟨hp,g,d,tk,os⟩:=s;obtain⟨hl,h⟩:=h;have Jh:=sub_enumerate;have V6:Heap.IsTuple (aq.heap ⟨hp,g,d,tk,os⟩) l items:=⟨_,hl,rfl,n,rfl⟩
  wp_walk using wpAny_loadPart' hl
  refine wpAny_stack_any λ_=>ai ?_;split
  .rename_i c _ _ _ _ _
   cases (c == ae.type "enumerate")<;>(wp_walk using wpAny_loadPart' hl,wpAny_pyIter_tuple V6;exact⟨_,rfl,h⟩)
  .wp_walk using wpAny_loadPart' hl,wpAny_pyIter_tuple V6
   exact⟨_,rfl,h⟩
theorem zS (ht:s.heap.IsTuple l items)
  (q:∀h',IsEnum h' (s.heap.objs.size+1) s.heap.objs.size 0 .none->h'.IsTupleIter s.heap.objs.size l 0->h'.objs.size=s.heap.objs.size+2->(∀b o,s.heap.get? b=some o->h'.get? b=some o)->Q (.ref (s.heap.objs.size+1)) { s with heap:=h' }) :
  ay (model prog w) A (call (.type "enumerate") [.ref l]) Q E s:=by
 obtain⟨⟨c,OK,dt,sl⟩,hl,hc,n,hd⟩:=ht;replace hc:c=.type "tuple" := hc;replace hd:dt=.seq items n:=hd;subst hc hd;refine callType_new F.called_enumerate (!2) (F.typeCall_enumerate_1 _) (F.newCall_enumerate_1 _) (λobj=>F.args_object_init_2 obj _) F.entry_enumerate_new (DJ l items n OK sl) ⟨hl,?_⟩;have z1:(s.heap.push { cls:=.type "tuple_iterator",data:=.fields #[.ref l,.int 0 0] }).objs.size=s.heap.objs.size+1:=bV ..;have g1:=aH (s.heap.push { cls:=.type "tuple_iterator",data:=.fields #[.ref l,.int 0 0] }) (o:={ cls:=.type "enumerate",data:=.fields #[.none,.bool false,.ref s.heap.objs.size,rawInt 0,.none,.none] }) rfl;rw[z1] at g1;show _/\_;rw[z1];exact⟨⟨_,g1,rfl⟩,q _ g1 ⟨_,ah _ (aH _ rfl),rfl,rfl⟩ (by rw[bV,z1]) λb o x=>ah _ (ah _ x)⟩
end
end PySem
namespace L2
open PySem PySem.Spec PyProof.Rows
noncomputable def QB (K:W.Frag)(a:Addr):It :=
 ⟨λi H=>∃xs x,iW K H a xs/\xs[i]? = some x,λi H x H'=>∃T xi,x=.ref T/\H T=none/\H'=eR H T (.tup [.int (i:Nat),xi])/\∀xs,iW K H a xs->xs[i]? = some xi,λi H=>∃xs,iW K H a xs/\xs.length<=i⟩
theorem zT {P:aO}{w:World}{K:W.Frag}{xy:List Expr}{k:Nat}{pos:Pos}(a e it:Addr)(jS:e≠it):zk P w K (.Tuple xy k pos) (QB K a) [e,it] e (λi h=>(∃old,IsEnum h e it (i:Nat) old)/\h.IsTupleIter it a i) where
 mem:=by simp
 obj:=λi h st b hb=>by
  obtain⟨⟨old,he⟩,o,ho,hc,hd⟩:=st;rcases au.mp hb with z | z
  .subst z
   exact⟨_,he,λv z=>by cases z⟩
  .have z':b=it:=by simpa using z
   subst z';exact⟨o,ho,λv z=>by rw[hd] at z;cases z⟩
 keep:=λi h h' st kp=>by
  obtain⟨⟨old,he⟩,hi⟩:=st;exact⟨⟨old,kp e (!4) _ he⟩,hi.at λo q=>kp it (!4) o q⟩
 item:=by
  intro X hP hw hK hc i pins s σ H E I hf st hg;subst hP hw hK;obtain⟨⟨old,he⟩,hi⟩:=st;obtain⟨xs,x,hq,hx⟩:=hg;obtain⟨its,rv,p,hz⟩:=I.tuple hq;obtain⟨u,hu,ru⟩:=rv.get hx;refine vP he hi (show s.heap.IsTuple a its.toArray from p) (x:=u) (by simpa using hu) jS λh1 eo i1 t1 kp=>⟨_,rfl,wpAny_letOwnedTupleGo_enum eo λh2 en sb=>?_⟩;have oZ:e<s.heap.objs.size:=aA he;have Ub:it<s.heap.objs.size:=by obtain⟨_,q,_⟩:=hi;exact aA q
  have Nj:∀b o,b≠e->b≠it->s.heap.get? b=some o->h2.get? b=some o:=λb o n1 n2 q=>(sb.2 b n1).trans (kp b o n1 n2 q);have i2:h2.IsTupleIter it a (i+1):=i1.at λo q=>(sb.2 it (Ne.symm jS)).trans q;have t2:h2.get? s.heap.objs.size=some { cls:=.type "tuple",data:=.seq #[.int i s.toks,u] }:=(sb.2 _ (cf oZ)).trans t1;obtain⟨f0,f1,f2,f3,f4,f5⟩:=hf it (!4);obtain⟨g0,g1,g2,g3,g4,g5⟩:=hf e (!4);obtain⟨oi,Uc,Xm,Ud⟩:=id i2;obtain⟨o0,Ue,_⟩:=id hi;have m1:(s.heap.update it λ_=>oi).get? it=some oi:=aS (λ_=>oi) Ue (Obj.isFreed_of_fields Ud);have I1:Inv X pins σ H { s with heap:=s.heap.update it λ_=>oi,toks:=s.toks+1 }:=I.turned (λb o hb q=>(aI _ _ (Ne.symm hb)).trans q) f0 f1 f3 f4 f5
  have Ug:∀b o,b≠e->(s.heap.update it λ_=>oi).get? b=some o->h2.get? b=some o:=λb o hb q=>by
   by_cases K0:b=it
   .subst K0
    rw[m1] at q;cases q;exact Uc
   .exact Nj b o hb K0 ((aI _ _ (Ne.symm K0)).symm.trans q)
  have I2:Inv X pins σ H { s with heap:=h2,toks:=s.toks+1 }:=Inv.turned (s:={ s with heap:=s.heap.update it λ_=>oi,toks:=s.toks+1 }) (h':=h2) (t':=s.toks+1) I1 Ug g0 g1 g3 g4 g5;obtain⟨p0,p1,p2,p3,p4,p5⟩:=I.qY (am s.heap.objs.size) (I.hok.fresh (am _))
  have I3:Inv X pins σ (eR H s.heap.objs.size (.tup [.int (i:Nat),x])) { s with heap:=h2,toks:=s.toks+1 } :=
   I2.BV (o:=.tup [.int (i:Nat),x]) t2 p0 p1 p3 p4 p5 ⟨by show 2<=ax;decide,[.int i s.toks,u],.cons ⟨_,rfl⟩ (.cons ru .nil),⟨_,t2,rfl,_,rfl,rfl⟩⟩
  refine⟨.ref s.heap.objs.size,_,I3,rfl,⟨_,x,rfl,p0,rfl,λys hy=>by rw[I.tY hy hq];exact hx⟩,⟨⟨u,by simpa using en⟩,i2⟩,λb hb=>?_⟩
  have Uh:b≠s.heap.objs.size:=by
   rcases au.mp hb with z | z
   .rw[z];exact aN oZ
   .have z':b=it:=by simpa using z
    rw[z'];exact aN Ub
  rw[dS Uh];exact (hf b hb).1
 done:=by
  intro X hP hw hK hc i pins s σ H E I hf st hg;subst hP hw hK;obtain⟨⟨old,he⟩,hi⟩:=st;obtain⟨xs,hq,hx⟩:=hg;obtain⟨its,rv,p,hz⟩:=I.tuple hq;obtain⟨f0,f1,f2,f3,f4,f5⟩:=hf it (!4);have hl:=rv.length;exact pb (I.ok.hd hc) he hi (show s.heap.IsTuple a its.toArray from p) (by simp;omega) λh' eb=>⟨rfl,I.turned (t':=s.toks) (λb o hb q=>eb b o hb q) f0 f1 f3 f4 f5⟩
 self:=λ_ _ _ _ _ st h=>by
  obtain⟨⟨old,he⟩,_⟩:=st;exact wpAny_pyIter_enum he h
end L2
namespace PySem
namespace SetTable
theorem rJ (xs:Array Nat)(j:Nat):∀(f lo hi:Nat),hi - lo<=f->lo<=hi->hi<=xs.size->xs.toList.Pairwise (· < ·)->(∀(k:Nat) (v:Nat),k<lo->xs[k]? = some v->v<j) ->
  (∀(k:Nat) (v:Nat),hi<=k->xs[k]? = some v->j<=v)->below.go xs j f lo hi<=xs.size/\(∀(k:Nat) (v:Nat),k<below.go xs j f lo hi->xs[k]? = some v->v<j)/\(∀(k:Nat) (v:Nat),below.go xs j f lo hi<=k->xs[k]? = some v->j<=v)
 | 0,lo,hi,hf,h1,h2,_,hl,hh=>by
  unfold below.go;have e:lo=hi:=by omega
  subst e;exact⟨h2,hl,hh⟩
 | f+1,lo,hi,hf,h1,h2,hs,hl,hh=>by
  unfold below.go;by_cases c:lo<hi
  .rw[if_pos c]
   dsimp only;have hm:(lo+hi) / 2<xs.size:=by omega
   have eg:xs.getD ((lo+hi) / 2) j=xs[(lo+hi) / 2]:=by simp[Array.getD,hm]
   rw[eg]
   have hr:∀(a b:Nat) (va vb:Nat),a<b->xs[a]? = some va->xs[b]? = some vb->va<vb:=by
    intro a b va vb qC ea eb
    have la:a<xs.toList.length:=by
     rcases cF a xs.toList.length with q | q
     .exact q
     .rw[aT] at q;rw[cG q] at ea;cases ea
    have lb:b<xs.toList.length:=by
     rcases cF b xs.toList.length with q | q
     .exact q
     .rw[aT] at q;rw[cG q] at eb;cases eb
    have:=cm.mp hs a b la lb qC;rw[<- a8,aV la] at ea;rw[<- a8,aV lb] at eb;cases ea;cases eb;exact this
   have em:xs[(lo+hi) / 2]? = some xs[(lo+hi) / 2]:=by simp[hm]
   by_cases d:xs[(lo+hi) / 2] < j
   .rw[if_pos d]
    refine rJ xs j f _ hi (!1) (!1) h2 hs (λk v hk e=>?_) hh;by_cases q:k=(lo+hi) / 2
    .subst q;rw[em] at e;cases e;exact d
    .exact dB (hr k _ v _ (!1) e em) d
   .rw[if_neg d]
    refine rJ xs j f lo _ (!1) (!1) (!1) hs hl λk v hk e=>?_;by_cases q:k=(lo+hi) / 2
    .subst q;rw[em] at e;cases e;omega
    .have:=hr _ k _ v (!1) em e
     omega
  .rw[if_neg c]
   have e:lo=hi:=by omega
   subst e;exact⟨h2,hl,hh⟩
theorem mY (j:Nat)(hs:xs.toList.Pairwise (· < ·)):below xs j<=xs.size/\(∀(k:Nat) (v:Nat),k<below xs j->xs[k]? = some v->v<j)/\(∀(k:Nat) (v:Nat),below xs j<=k->xs[k]? = some v->j<=v) :=
 rJ xs j xs.size 0 xs.size (!1) (!1) (am _) hs (λk v h=>absurd h (!1)) (λk v h e=>by rw[cG h] at e;cases e)
theorem zU (hs:xs.toList.Pairwise (· < ·)):below xs 0=0:=by
 obtain⟨a,b,c⟩:=mY 0 hs;rcases Nat.eq_zero_or_pos (below xs 0) with h | h
 .exact h
 .have:0<xs.size:=by omega
  exact absurd (b 0 xs[0] h (by simp[this])) (!1)
theorem zV (hs:xs.toList.Pairwise (· < ·))(e:xs[i]? = some j):below xs (j+1)=i+1:=by
 obtain⟨a,b,c⟩:=mY (j+1) hs
 have hi:i<xs.size:=by
  rcases cF i xs.size with q | q
  .exact q
  .rw[cG q] at e;cases e
 have h1:i<below xs (j+1):=by
  rcases cF i (below xs (j+1)) with q | q
  .exact q
  .exact absurd (c i j q e) (!1)
 rcases cF (i+1) (below xs (j+1)) with q | q
 .exfalso
  have l2:i+1<xs.size:=by omega
  have e2:xs[i+1]? = some xs[i+1]:=by simp[l2]
  have:=b (i+1) _ q e2;have la:i<xs.toList.length:=by simpa using hi
  have lb:i+1<xs.toList.length:=by simpa using l2
  have hr:=cm.mp hs i (i+1) la lb (!1);rw[<- a8,aV la] at e;cases e;have:xs.toList[i+1]=xs[i+1]:=by simp
  omega
 .omega
theorem tI (hs:xs.toList.Pairwise (· < ·))(hn:xs[below xs j]? ≠ some j):(insertAt xs (below xs j) j).toList.Pairwise (· < ·):=by
 obtain⟨a,b,c⟩:=mY j hs;rw[toList_insertAt]
 have ht:∀v∈xs.toList.take (below xs j),v<j:=by
  intro v hv;obtain⟨k,hk,e⟩:=cb hv;rw[bO] at hk;rw[List.getElem_take] at e;exact b k v (!1) (by rw[<- a8,aV (!1)];rw[e])
 have hd:∀v∈xs.toList.drop (below xs j),j<v:=by
  intro v hv;obtain⟨k,hk,e⟩:=cb hv;rw[cO] at hk;rw[List.getElem_drop] at e;have e':xs[below xs j+k]? = some v:=by rw[<- a8,aV (!1)];rw[e]
  have h1:=c (below xs j+k) v (!1) e';rcases Nat.lt_or_eq_of_le h1 with q | q
  .exact q
  .subst q
   exfalso;rcases Nat.eq_zero_or_pos k with z | z
   .subst z;exact hn e'
   .have l0:below xs j<xs.toList.length:=by omega
    have:=cm.mp hs (below xs j) (below xs j+k) l0 (!1) (!1);rw[e] at this;have h2:=c (below xs j) _ (am _) (by rw[<- a8,aV l0]);omega
 rw[List.pairwise_append];refine⟨hs.sublist (List.take_sublist _ _),bY.mpr ⟨hd,hs.sublist (List.drop_sublist _ _)⟩,λx hx y hy=>?_⟩;rcases au.mp hy with rfl | hy
 .exact ht x hx
 .exact dB (ht x hx) (hd y hy)
theorem mZ (t:SetTable)(f:Nat->Int)(h:Int):∀(n:Nat) (p:Probe) (j:Nat) (d:Option Nat),(∀k,p.dummy=some k->t.place[below t.place k]? ≠ some k) ->
  probe.go t f h n p=some (.empty j d)->t.place[below t.place (d.getD j)]? ≠ some (d.getD j)
 | 0,p,j,d,_,e=>by unfold probe.go at e;cases e
 | n+1,p,j,d,hp,e=>by
  unfold probe.go at e;have V7:∀p:Probe,(t.advance p).dummy=p.dummy:=λp=>by unfold advance;split<;>rfl
  have nl:∀k,(∀i,t.slot k≠.live i)->t.place[below t.place k]? ≠ some k:=λk q z=>q (below t.place k) (by unfold slot;dsimp only;rw[z];simp)
  cases hs:t.slot p.j with
  | empty =>
   rw[hs] at e;cases e
   cases hd:p.dummy with
   | none=>exact nl p.j λi z=>by rw[hs] at z;cases z
   | some k=>exact hp k hd
  | dummy =>
   rw[hs] at e;refine mZ t f h n _ j d (λk hk=>?_) e;rw[V7] at hk;cases hk;exact nl _ λi z=>by rw[hs] at z;cases z
  | live i =>
   rw[hs] at e;dsimp only at e;split at e
   .cases e
   .exact mZ t f h n _ j d (λk hk=>hp k (by rw[V7] at hk;exact hk)) e
noncomputable def Good (b:Bool)(t:SetTable):Prop:=t.led=b/\(t.plain=true->t.place.toList.Pairwise (· < ·))
theorem Good.B8 (g:Good b t)(n:Nat):Good b (t.standIn n):=⟨g.1,λz=>by cases z⟩
theorem Good.or (g:Good b t)(n:Nat):Good b (t.orStandIn n):=by
 unfold orStandIn;split
 .exact g
 .exact g.B8 n
theorem Good.off (g:Good b t):Good b { t with plain:=false }:=⟨g.1,λz=>by cases z⟩
end SetTable
open SetTable in
theorem xA {b:Bool}{t:SetTable}(g:Good b t)(es:Array (Int × ae))(h:Int)(x:ae):Good b (layNew t es h x).2.1:=by
 unfold layNew
 cases e:t.freeSlot h with
 | none=>exact g.B8 _
 | some q =>
  obtain⟨slot,Ui⟩:=q;dsimp only;refine Good.or (t:=(t.put slot).1) ⟨g.1,λz=>?_⟩ _;have hs:=g.2 z;refine tI hs ?_;unfold freeSlot at e;unfold probe at e;split at e
  .rename_i j d hp
   cases e;exact mZ t _ h _ _ j d (λk hk=>by cases hk) hp
  .cases e
open SetTable in
theorem tJ {b:Bool}{t:SetTable}(g:Good b t)(es:Array (Int × ae))(n:Nat):Good b (relayAll t es n).2.1:=by
 unfold relayAll
 cases e:t.relaid (es.map (·.1)) n with
 | none=>exact g.B8 _
 | some q =>
  obtain⟨t',o⟩:=q;dsimp only;split
  .unfold relaid laid at e
   cases hl:layClean (sizeAbove n - 1) (es.map (·.1)) with
   | none=>rw[hl] at e;cases e
   | some ow =>
    rw[hl] at e;simp only[Option.bind_eq_bind,Option.bind_some,Option.pure_def,Option.some.injEq,Prod.mk.injEq] at e;obtain⟨rfl,_⟩:=e;refine⟨g.1,λ_=>?_⟩;simp only[cu];refine List.Pairwise.filterMap (R:=(· < ·)) _ (λa a' h c hc c' Dd=>?_) List.pairwise_lt_range
    cases h1:ow.getD a none with
    | none=>rw[h1] at hc;cases hc
    | some u =>
     rw[h1] at hc
     cases h2:ow.getD a' none with
     | none=>rw[h2] at Dd;cases Dd
     | some u'=>rw[h2] at Dd;cases hc;cases Dd;exact h
  .exact g.B8 _
theorem pV {α:Type}{l:List α}{i:Nat}(h:i<l.length):([l[i]]++l.eraseIdx i).Perm l:=by
 rw[List.eraseIdx_eq_take_drop_succ];have e:l=l.take i++l[i]::l.drop (i+1):=by simp
 conv=>rhs;rw[e]
 rw[List.singleton_append];exact List.perm_middle.symm
theorem jA {α:Type}(next:Nat->Nat):∀(f k:Nat) (l:List α) (out:Array α),f=l.length->(pickOrder.go next f k l out).toList.Perm (out.toList++l)
 | 0,k,l,out,e=>by
  have:l=[]:=List.length_eq_zero_iff.mp e.symm;subst this;unfold pickOrder.go;simp
 | f+1,k,l,out,e=>by
  unfold pickOrder.go;have hl:next k % l.length<l.length:=Nat.mod_lt _ (!1)
  rw[aV hl];dsimp only;refine (jA next f (k+1) _ _ (by rw[List.length_eraseIdx_of_lt hl];omega)).trans ?_;rw[dj,aF];refine List.Perm.append_left _ ?_;exact pV hl
theorem rK {α:Type}(next:Nat->Nat)(xs:Array α):(pickOrder next xs).toList.Perm xs.toList:=by
 unfold pickOrder;have:=jA next xs.size 0 xs.toList #[] (!4)
 simpa using this
end PySem
namespace PySem
open Sem (wp)
open PyProof.Rows
noncomputable def jZ (w:World):Bool:=w.params.followText "set-order"
noncomputable def DK (e:Int × ae):Option Int:=match e.2 with | .int k _=>some k | _=>none
noncomputable def vQ (es:List (Int × ae)):Prop:=∀e∈es,∃k t,e=(hashInt k,ae.int k t)
noncomputable def iR (w:World)(a:Addr)(ns:List Int)(h:Heap):Prop :=
 ∃o es ep t,h.get? a=some o/\o.ExactSet/\o.data=.set es ep t/\vQ es.toList/\(es.toList.filterMap DK).Perm ns/\es.size<scanBound/\t.fits es.size=true/\SetTable.Good (!jZ w) t
section
variable {prog:aO}{w:World}{A:Around}{E:ae->aq->Prop}{s:aq}
theorem vQ.elems (h:vQ es):ElemsOf (intKind prog w) es:=λe he=>by
 obtain⟨k,t,rfl⟩:=h e he;exact⟨⟨k,intKind_is _ _ _ _,rfl⟩,rfl⟩
theorem vQ.perm (h:vQ l)(p:l'.Perm l):vQ l':=λe he=>h e (p.mem_iff.mp he)
theorem vQ.len:vQ l->(l.filterMap DK).length=l.length:=by
 induction l with
 | nil=>intro _;rfl
 | cons e l ih =>
  intro h;obtain⟨k,t,rfl⟩:=h e (!4);have:=ih λe he=>h e (by simp[he]);simp[DK] at this ⊢;exact this
theorem vQ.has (h:vQ l):k∈l.filterMap DK↔∃e∈l,(intKind prog w).is k e.2=true:=by
 rw[df];constructor
 .rintro⟨e,he,q⟩
  obtain⟨j,t,rfl⟩:=h e he;cases q;exact⟨_,he,intKind_is _ _ _ _⟩
 .rintro⟨e,he,q⟩
  obtain⟨j,t,rfl⟩:=h e he;have:k=j:=(intKind prog w).inj _ _ _ q (intKind_is _ _ j t);subst this;exact⟨_,he,rfl⟩
theorem iR.keep (x:iR w a ns h)(k:∀o,h.get? a=some o->h'.get? a=some o):iR w a ns h':=by
 obtain⟨o,es,ep,t,e,r⟩:=x;exact⟨o,es,ep,t,k o e,r⟩
theorem iR.type (x:iR w a ns s.heap):s.TypeIs (.ref a) "set" := by
 obtain⟨o,es,ep,t,e,c,_⟩:=x;exact⟨o,e,c.1⟩
theorem iR.put {h:Heap}{a:Addr}{o:Obj}{es ji:Array (Int × ae)}{ep:Nat}{t t':SetTable}{ns:List Int}(ho:h.get? a=some o)(x:o.ExactSet)(hd:o.data=.set es ep t)(h1:vQ ji.toList)
  (h2:(ji.toList.filterMap DK).Perm ns) (h3:ji.size<scanBound) (h4:t'.fits ji.size=true) (h5:SetTable.Good (!jZ w) t') :
  (h.update a (Obj.putSet ji t')).get? a=some { o with data:=.set ji (ep+1) t' }/\iR w a ns (h.update a (Obj.putSet ji t')):=by
 have g:=aS (Obj.putSet ji t') ho (by rw[putSet_of ji t' hd];rfl);rw[putSet_of ji t' hd] at g;exact⟨g,_,ji,ep+1,t',g,x,rfl,h1,h2,h3,h4,h5⟩
theorem uI {g:Bool->Sem Unit}(hg:∀(b:Bool) (z:aq) (R:Unit->aq->Prop),R () z->ay (model prog w) A (g b) R E z){a:Addr}{o:Obj}{es:Array (Int × ae)}{ep:Nat}{t:SetTable}(ho:s.heap.get? a=some o)
  (x:o.ExactSet) (hd:o.data=.set es ep t) {ji:Array (Int × ae)} {t':SetTable} {ns:List Int} (h1:vQ ji.toList) (h2:(ji.toList.filterMap DK).Perm ns) (h3:ji.size<scanBound) (h4:t'.fits ji.size=true) (h5:SetTable.Good (!jZ w) t')
  {Ui:Bool} {R:Option Bool->aq->Prop} (h:∀h',Heap.SameBut a s.heap h'->iR w a ns h'->R (some true) { s with heap:=h' }) :
  ay (model prog w) A (storeSet a ji t' >>= λ_=>if (!Ui && t'.tooFull)=true then (g (relayAll t' ji (SetTable.grown ji.size)).2.2 >>= λ_=>storeSet a (relayAll t' ji (SetTable.grown ji.size)).1 (relayAll t' ji (SetTable.grown ji.size)).2.1 >>= λ_=>pure (some true)) else pure (some true)) R E s:=by
 refine aa (wpAny_storeSet_of ho hd ?_ (fits_of_scanBound h3));obtain⟨p1,p2⟩:=iR.put (w:=w) ho x hd h1 h2 h3 h4 h5;have b1:=Heap.SameBut.update s.heap a (Obj.putSet ji t');split
 .have q1:=relayAll_perm t' ji (SetTable.grown ji.size)
  have q2:=relayAll_fits t' ji (SetTable.grown ji.size);have q3:=tJ h5 ji (SetTable.grown ji.size);generalize relayAll t' ji (SetTable.grown ji.size)=z at q1 q2 q3 ⊢;obtain⟨ez,tz,bz⟩:=z;dsimp only at q1 q2 q3 ⊢;have q4:ez.size=ji.size:=by have:=q1.length_eq;simpa using this
  refine aa (hg _ _ _ ?_);refine aa (wpAny_storeSet_of p1 rfl ?_ (fits_of_scanBound (by rw[q4];exact h3)));obtain⟨_,p4⟩:=iR.put (w:=w) p1 x rfl (h1.perm q1) ((q1.filterMap DK).trans h2) (by rw[q4];exact h3) q2 q3;exact ai (h _ (b1.trans (Heap.SameBut.update _ a _)) p4)
 .exact ai (h _ b1 p2)
noncomputable def tK (ns:List Int)(k:Int):List Int:=if k∈ns then ns else ns++[k]
theorem FZ {a:Addr}{ns:List Int}{k:Int}{tk:Tok}{Q:Bool->aq->Prop}(hS:iR w a ns s.heap)(hr:ns.length+1<scanBound)
  (h:∀r h',Heap.SameBut a s.heap h'->iR w a (tK ns k) h'->Q r { s with heap:=h' }):ay (model prog w) A (setAddHashed a (.int k tk) (hashInt k)) Q E s:=by
 obtain⟨o,es,ep,t,ho,x,hd,h1,h2,h3,h4,h5⟩:=hS;have e1:ElemsOf (intKind prog w) es.toList:=h1.elems;have Xn:(intKind prog w).is k (.int k tk)=true:=intKind_is _ _ _ _;unfold setAddHashed setAddHashedIn;refine wpAny_holding (aa (wpAny_setState_of ho hd h4 ?_));dsimp only;rw[byScan_of (knd:=intKind prog w) (x:=.int k tk) rfl h3 e1];simp only[↓reduceIte];unfold setAddByScan;refine aa (aa (wpAny_rule (aa (wpAny_setScan_of (knd:=intKind prog w) Xn ho hd h4 e1 ?_))))
 have eX:es.size=ns.length:=by
  have a1:=h2.length_eq;rw[h1.len,aT] at a1;exact a1
 cases hf:List.findIdx? (λe=>(intKind prog w).is k e.2) es.toList with
 | some j =>
  dsimp only;obtain⟨hj,Xo,_⟩:=List.findIdx?_eq_some_iff_getElem.mp hf;have hk:k∈ns:=h2.mem_iff.mp (h1.has.mpr ⟨_,bT hj,Xo⟩);refine ai (ai ?_);have:=h false s.heap (Heap.SameBut.refl a s.heap) (by unfold tK;rw[if_pos hk];exact⟨o,es,ep,t,ho,x,hd,h1,h2,h3,h4,h5⟩);exact this
 | none =>
  dsimp only
  have hk:¬ k∈ns:=λz=>by
   obtain⟨e,he,q⟩:=(h1.has (prog:=prog) (w:=w)).mp (h2.mem_iff.mpr z);have:=List.findIdx?_eq_none_iff.mp hf e he;rw[q] at this;cases this
  have q1:=layNew_perm t es (hashInt k) (.int k tk);have q2:=layNew_fits t es (hashInt k) (.int k tk);have q3:=xA h5 es (hashInt k) (.int k tk)
  have Uj:∀(b:Bool) (z:aq) (R:Unit->aq->Prop),R () z->ay (model prog w) A (match b with | true=>rule "set.scan.the-table-gave-way" | false=>pure ()) R E z :=
   λb z R hq=>by cases b<;>first | exact ai hq | exact wpAny_rule hq
  show ay _ _ ((match (layNew t es (hashInt k) (.int k tk)).2.2.2 with | true=>rule "set.scan.the-table-gave-way" | false=>pure ()) >>= _) _ _ _;generalize hz:layNew t es (hashInt k) (.int k tk)=z at q1 q2 q3 ⊢;obtain⟨ez,tz,Ui,Xq⟩:=z;dsimp only at q1 q2 q3 ⊢;have p0:ez.toList.Perm (es.toList++[(hashInt k,ae.int k tk)]):=by rw[dj] at q1;exact q1
  have p1:vQ ez.toList:=vQ.perm (λe he=>by
   rcases aB.mp he with he | he
   .exact h1 e he
   .have:e=(hashInt k,ae.int k tk):=by simpa using he
    exact⟨k,tk,this⟩) p0
  have p2:(ez.toList.filterMap DK).Perm (tK ns k):=by
   refine (p0.filterMap DK).trans ?_;unfold tK;rw[if_neg hk,List.filterMap_append];exact List.Perm.append_right _ h2
  have p3:ez.size<scanBound:=by
   have:=p0.length_eq;rw[aT,aG,aT] at this;simp at this;omega
  refine aa (Uj _ _ _ ?_);have fin:∀h',Heap.SameBut a s.heap h'->iR w a (tK ns k) h'->Q true { s with heap:=h' }:=λh'=>h true h';split
  .refine aa ?_
   rw[hashByValue_scannable 8 (x:=.int k tk) rfl];refine ai ?_;refine uI (g:=λb=>match b with | true=>rule "set.scan.the-table-gave-way" | false=>pure ()) Uj ho x hd p1 p2 p3 ?_ ?_ ?_
   .split
    .exact q2
    .exact SetTable.fits_plain_off q2
   .split
    .exact q3
    .exact q3.off
   .intro h' a1 a2;dsimp only;exact ai (fin h' a1 a2)
  .refine aa (ai ?_)
   simp only[↓reduceIte];refine uI (g:=λb=>match b with | true=>rule "set.scan.the-table-gave-way" | false=>pure ()) Uj ho x hd p1 p2 p3 q2 q3 ?_;intro h' a1 a2;dsimp only;exact ai (fin h' a1 a2)
end
open PyProof.Rows
section
noncomputable def h9 (val:Nat->Int):Nat->List Int
 | 0=>[]
 | i+1=>tK (h9 val i) (val i)
theorem pf (val:Nat->Int):∀i,(h9 val i).length<=i
 | 0=>am _
 | i+1=>by
  have:=pf val i;unfold h9 tK;split
  .omega
  .simp;omega
theorem xB (val:Nat->Int):∀i,(h9 val i).Nodup
 | 0=>List.nodup_nil
 | i+1=>by
  have ih:=xB val i;unfold h9 tK;split
  .exact ih
  .rename_i h
   rw[cv];refine⟨ih,!4,λa ha b hb=>?_⟩;have e:b=val i:=by simpa using hb
   subst e;exact λz=>h (z ▸ ha)
theorem uJ (val:Nat->Int)(k:Int):∀i,k∈h9 val i↔∃j,j<i/\val j=k
 | 0=>⟨λh=>absurd h (by simp[h9]),λ⟨j,h,_⟩=>absurd h (!1)⟩
 | i+1=>by
  have ih:=uJ val k i
  have key:k∈h9 val (i+1)↔k∈h9 val i\/k=val i:=by
   show k∈tK (h9 val i) (val i)↔_;unfold tK;split
   .rename_i h
    exact⟨.inl,λz=>z.elim id λe=>e ▸ h⟩
   .simp
  rw[key,ih];constructor
  .rintro (⟨j,h,e⟩ | rfl)
   .exact⟨j,!1,e⟩
   .exact⟨i,!1,rfl⟩
  .rintro⟨j,h,e⟩
   by_cases q:j=i
   .subst q;exact .inr e.symm
   .exact .inl ⟨j,!1,e⟩
theorem DL {I:Addr}{fp wr:List Addr}{G:Array GenState->Array GenState->Prop}{n:Nat}{P:Nat->ae->Prop}{St:Nat->aq->Prop}(W:WalksS prog w A.in1 I fp wr G n P St)(S:Addr)(Ni:S ∉ fp)
  (val:Nat->Int) (DM:∀i v,P i v->∃t,v=.int (val i) t) (hb:n+1<scanBound):∀(m i:Nat) (z:aq),n - i=m->i<=n->St i z->iR w S (h9 val i) z.heap ->
   (∀z',Moved (S::wr) G z z'->iR w S (h9 val n) z'.heap->R (.ok (.ret .none)) z')->codeAny (model prog w) A (.builtin "set.update.loop" ⟨[.ref S,.ref I],[]⟩) R z:=by
 have sw:S ∉ wr:=λq=>Ni (W.sub _ q);have sb:∀b∈wr,b∈S::wr:=λb q=>ao _ q;intro m
 induction m with
 | zero =>
  intro i z e1 e2 st x q;have:i=n:=by omega
  subst this;refine codeAny_builtin PyProof.Rows.F.entry_set_update_loop ?_;rw[Around.under_plainId PyProof.Rows.F.plain_set_update_loop _];show ay _ A.in1 (pyNext (.ref I) >>= _) _ _ z;refine aa (W.done z _ _ st λz' mv=>?_);exact ai (q z' (mv.mono sb) (x.keep λo e=>mv.heap S _ sw e))
 | succ m ih =>
  intro i z e1 e2 st x q;refine codeAny_builtin PyProof.Rows.F.entry_set_update_loop ?_;rw[Around.under_plainId PyProof.Rows.F.plain_set_update_loop _];show ay _ A.in1 (pyNext (.ref I) >>= _) _ _ z;refine aa (W.item i z _ _ (!1) st λv z' hv eK mv=>?_);obtain⟨t,rfl⟩:=DM i v hv;have x':=x.keep (h':=z'.heap) λo e=>mv.heap S _ sw e;show ay _ A.in1 (holding [ae.int (val i) t] (setAdd S (.int (val i) t)) >>= _) _ _ z';refine aa (wpAny_holding ?_);unfold setAdd;refine wpAny_holding (aa ((intKind prog w).pyHash (k:=val i) (intKind_is _ _ _ _) ?_));refine FZ (s:={ z' with toks:=z'.toks+1 }) x' (by have:=pf val i;omega) λr h' a1 a2=>?_;refine ai ⟨plainId_quiet PyProof.Rows.F.plain_set_update_loop _,ih (i+1) _ (!1) (!1) (W.frame _ z' _ _ eK (b8 _) λb hb o e=>?_) a2 λXr Xs Xt=>?_⟩
  .rw[a1.2 b λh:b=S=>Ni (h ▸ hb)];exact e
  .refine q Xr (Moved.trans W.gtrans ((mv.mono sb).then_heap (b8 _) λb o hb e=>?_) Xs) Xt
   rw[a1.2 b λh:b=S=>hb (by rw[h];exact ar)];exact e
theorem DN (a:ae)(h:Q (.ref s.heap.objs.size) { s with heap:=s.heap.push { cls:=.type "set",dict:=none,data:=.set #[] 0 (.fresh 0 0 (!jZ w)) } }) :
  codeAny (model prog w) A (.call (.builtin "set.__new__") ⟨[.type "set",a],[]⟩) (wants Q E) s:=by
 refine codeAny_of_tree ?_;show ay _ A.in1 (checkBuiltinCall "set.__new__" ⟨[.type "set",a],[]⟩ >>= λ_=>again (.builtin "set.__new__" ⟨[.type "set",a],[]⟩)) _ _ s;refine aa (wpAny_of_eq (F.newCall_set_1 a) (ai ⟨plainId_quiet F.plain_set_new _,codeAny_builtin F.entry_set_new ?_⟩));rw[Around.under_plainId F.plain_set_new _];unfold Builtin.«set.__new__» Builtin.Frozenset.newClass;have q:=sub_set_self;obtain⟨hp,g,d,tk,os⟩:=s;dsimp only
 wp_walk
 refine wpAny_askSetting (ai ?_);dsimp only;simp only[newObj];exact aa (wpAny_alloc (ai (ai h)))
set_option maxHeartbeats 3200000 in
theorem uK {l:Addr}{T:String}{items:Array ae}{od:Option Addr}{nl:Nat}{os:Array (Option ae)}{ns:List Int}{ob:Obj}{Q:ae->aq->Prop}(V8:s.heap.get? l=some { cls:=.type T,dict:=od,data:=.seq items nl,slots:=os })
  (Xu:isSubtype (.type T) (.type "set")=pure false) (Xv:isSubtype (.type T) (.type "frozenset")=pure false) (jS:(ae.type T == ae.type "dict")=false) (hi:IntsAre items.toList ns) (hb:items.size+1<scanBound) {St:Nat->Heap->Prop}
  (iter:∀{A':Around} {E':ae->aq->Prop} {Q':ae->aq->Prop} {z:aq},z.heap.get? l=some { cls:=.type T,dict:=od,data:=.seq items nl,slots:=os }->Q' (.ref z.heap.objs.size) { z with heap:=z.heap.push ob }->ay (model prog w) A' (pyIter (.ref l)) Q' E' z)
  (W:Walks prog w A.in1.in1.in1 (s.heap.objs.size+1) [s.heap.objs.size+1,l] [s.heap.objs.size+1] items.size (λi v=>items[i]? = some v) St)
  (wU:∀z:Heap,z.objs.size=s.heap.objs.size+1->z.get? l=some { cls:=.type T,dict:=od,data:=.seq items nl,slots:=os }->St 0 (z.push ob))
  (h:∀(h':Heap) (tk:Nat),iR w s.heap.objs.size (h9 (λi=>ns.getD i 0) items.size) h'->(∀b o,s.heap.get? b=some o->h'.get? b=some o)->Q (.ref s.heap.objs.size) { s with heap:=h',toks:=tk }) :
  ay (model prog w) A (call (.type "set") [.ref l]) Q E s:=by
 obtain⟨c,tl,Xw⟩:=F.called_set.mro;have V9:=F.called_set.made;have Jh:=F.called_set.sub;refine wpAny_call (codeAny_of_tree ?_);show ay _ _ (callAny (.type "set") _) _ _ _;refine ai ⟨Code.quiet_builtin _ (!3),codeAny_builtin F.entry_type_call ?_⟩;rw[Around.under_plain (weight_type_call_type "set" [.ref l] []) rfl];have g1:=F.called_set.notType;have g2:=F.called_set.canCreate;have g3:=F.typeCall_set_1 (.ref l);repeat (any_goals (first | assumption | wp_step))
 refine codeAny_mono (DN (.ref l) (E:=E) (Q:=λx z=>x=.ref s.heap.objs.size/\z={ s with heap:=s.heap.push { cls:=.type "set",dict:=none,data:=.set #[] 0 (.fresh 0 0 (!jZ w)) } }) ⟨rfl,rfl⟩) λr z hr=>?_
 cases r with
 | error e=>exact hr
 | ok fl =>
  cases fl with
  | ret x =>
   obtain⟨rfl,rfl⟩:=hr;have kp:∀b o,s.heap.get? b=some o->(s.heap.push { cls:=.type "set",dict:=none,data:=.set #[] 0 (.fresh 0 0 (!jZ w)) }).get? b=some o:=λb o e=>ah _ e;have hS:(s.heap.push { cls:=.type "set",dict:=none,data:=.set #[] 0 (.fresh 0 0 (!jZ w)) }).get? s.heap.objs.size=some { cls:=.type "set",dict:=none,data:=.set #[] 0 (.fresh 0 0 (!jZ w)) }:=aH _ rfl;have hz:(s.heap.push { cls:=.type "set",dict:=none,data:=.set #[] 0 (.fresh 0 0 (!jZ w)) }).objs.size=s.heap.objs.size+1:=by rw[bV]
   have Nl:=kp l _ V8;have Xx:l<s.heap.objs.size:=aA V8;generalize s.heap.push { cls:=.type "set",dict:=none,data:=.set #[] 0 (.fresh 0 0 (!jZ w)) }=h1 at hS kp hz Nl ⊢;have hT:aq.TypeIs { s with heap:=h1 } (.ref s.heap.objs.size) "set" := ⟨_,hS,rfl⟩;have ZY:=F.called_set.init.lookup;have K0:=F.called_set.init.bind (.ref s.heap.objs.size);repeat (any_goals (first | assumption | wp_step))
   refine codeAny_mono (codeAny_call_builtin (R:=wants (λr z=>r=.none/\∃h' tk,z={ s with heap:=h',toks:=tk }/\iR w s.heap.objs.size (h9 (λi=>ns.getD i 0) items.size) h'/\(∀b o,s.heap.get? b=some o->h'.get? b=some o)) E)
    F.called_set.init.plain F.entry_set_init (check_set_init_1 hT ?_)) λr₂ s₂ F0=>?_
   .unfold Builtin.«set.__init__» noKeywords Builtin.Frozenset.updateFrom
    generalize Xy:pyIter=PI
    wp_walk
    subst Xy;refine iter Nl ?_;refine aa (wpAny_runValue ?_);have DM:∀(i:Nat) (v:ae),items[i]? = some v->∃t,v=.int ((λi=>ns.getD i 0) i) t:=λi v hv=>IntsAre.int_at hi i v (by rw[a8];exact hv)
    have Xz:s.heap.objs.size ∉ [s.heap.objs.size+1,l]:=λq=>by
     rcases au.mp q with q | q
     .exact absurd q (aN (dq _))
     .exact absurd (av.mp q) (cf Xx)
    show codeAny _ _ (.builtin "set.update.loop" ⟨[.ref s.heap.objs.size,.ref h1.objs.size],[]⟩) _ _;rw[hz];refine DL (A:=A.in1.in1) W.toS s.heap.objs.size Xz (λi=>ns.getD i 0) DM hb (items.size - 0) 0 _ (!1) (bL _) (wU h1 hz Nl) ?hS0 ?hR
    case hS0=>exact⟨_,#[],0,_,ah _ hS,⟨rfl,rfl,rfl⟩,rfl,λe he=>by simp at he,by simp[h9],!2,by rfl,rfl,λ_=>by simp[SetTable.fresh]⟩
    case hR =>
     intro z' mv x;obtain⟨h',g',d',XA,Tn⟩:=z';have eg:g'=s.gens:=mv.gens;have ed:d'=s.drawn:=mv.drawn;have eo:Tn=s.os:=mv.os;subst eg ed eo;show ay _ _ _ _ _ _;refine ai ?_;show ay _ _ (ret ae.none) _ _ _;refine ai ⟨rfl,h',XA,rfl,x,λb o e=>?_⟩;have V':=aA e
     have EL:b ∉ s.heap.objs.size::[s.heap.objs.size+1]:=λq=>by
      rcases au.mp q with q | q
      .exact absurd q (aN V')
      .exact absurd (av.mp q) (aN (cr V'))
     exact mv.heap b o EL (ah _ (kp b o e))
   .cases r₂ with
    | error e=>exact F0
    | ok QC =>
     cases QC with
     | ret r =>
      obtain⟨rfl,h',tk,rfl,x,kq⟩:=F0;repeat (any_goals (first | assumption | wp_step))
      exact h _ _ x kq
     | _=>exact F0.elim
  | _=>exact hr.elim
end
open PyProof.Rows
theorem j4:Slot "set_iterator" "__next__" "set_iterator.__next__" :=
 Slot.of (owner := "set_iterator") (n := "__next__") (by rw[typeLookup_type,builtinLookup_eq_fast];kernel_rfl) (!3) (!3)
  (!3) (by first | exact .inl (!3) | exact .inr (!3)) (by rw[isSubtype_type];kernel_rfl)
theorem uM:entryFor table "set_iterator.__next__" = some Builtin.«set_iterator.__next__»:=entryFor_of_tree (by kernel_rfl)
theorem xC (a:ae):argsOk "set_iterator.__next__" ⟨[a],[]⟩:=by unfold argsOk;kernel_rfl
theorem xD:entryFor table "set.__iter__" = some Builtin.«frozenset.__iter__»:=entryFor_alias (id' := "frozenset.__iter__") (by kernel_rfl) rfl (!3) (by kernel_rfl)
section
variable {prog:aO}{w:World}{A:Around}{E:ae->aq->Prop}{s:aq}
theorem tL (hn:0<n)(h:∀i d,i<n->Q i { s with drawn:=d }):ay M A (choose src n) Q E s:=λΓ p hΓ=>by
 unfold choose;rw[Sem.wp_choose];refine⟨cf hn,?_⟩;rw[Sem.wp_pure];exact h _ _ (Nat.mod_lt _ hn)
theorem lg {M:Model}{α:Type}:∀(n:Nat) (xs:List α) {s:aq} {Q:List α->aq->Prop},n=xs.length->(∀ys d,ys.Perm xs->Q ys { s with drawn:=d })->ay M A (drawOrder n xs) Q E s
 | 0,[],s,Q,_,h=>by unfold drawOrder;exact ai (h [] s.drawn .nil)
 | 0,_::_,s,Q,e,_=>by cases e
 | n+1,[],s,Q,e,_=>by cases e
 | n+1,x::xs,s,Q,e,h=>by
  unfold drawOrder;refine aa (tL (!4) λi d hi=>?_);rw[aV hi];dsimp only;refine aa (lg n ((x::xs).eraseIdx i) (by rw[List.length_eraseIdx_of_lt hi];omega) λys d' p=>ai ?_);exact h _ _ ((List.Perm.cons _ p).trans (by have:=pV hi;rwa [List.singleton_append] at this))
noncomputable def tM (t:SetTable):Nat->Nat
 | 0=>0
 | i+1=>t.place.getD i 0+1
noncomputable def F1 (w:World)(a it pl:Addr)(es:Array (Int × ae))(ep:Nat)(t:SetTable)(out:List ae)(i:Nat)(first:ae)(h:Heap):Prop :=
 (jZ w=true/\first=.int 0 0/\out=(pickOrder (w.params.setOrder a ep) es).toList.map (·.2)) \/
 (jZ w=false/\(!t.plain && decide (es.size > 1))=false/\t.place.toList.Pairwise (· < ·)/\first=.int (tM t i:Nat) 0/\out=es.toList.map (·.2)) \/
 (jZ w=false/\first=.ref pl/\pl≠it/\∃ord:List Nat,h.IsTuple pl (ord.map λi:Nat=>rawInt i).toArray/\ord.Perm (List.range es.size)/\out=ord.map λi=>((es[i]?).map (·.2)).getD .none)
noncomputable def EM (w:World)(a it pl:Addr)(o:Obj)(es:Array (Int × ae))(ep:Nat)(t:SetTable)(out:List ae)(i:Nat)(h:Heap):Prop :=
 h.get? a=some o/\out.length=es.size/\∃first,h.get? it=some { cls:=.type "set_iterator",data:=.fields #[first,.int i 0,.ref a,.int es.size 0,.int ep 0] }/\F1 w a it pl es ep t out i first h
structure zW (w:World) (o:Obj) (es:Array (Int × ae)) (ep:Nat) (t:SetTable):Prop where
 ex:o.ExactSet
 dat:o.data=.set es ep t
 fit:t.fits es.size=true
 led:t.led=!jZ w
theorem EM.frame (x:EM w a it pl o es ep t out i h)(k:∀b∈[it,a,pl],∀o,h.get? b=some o->h'.get? b=some o):EM w a it pl o es ep t out i h':=by
 obtain⟨x1,x2,f,x3,m⟩:=x;refine⟨k a (!4) _ x1,x2,f,k it (!4) _ x3,?_⟩;rcases m with m | m | ⟨m1,m2,m3,ord,m4,m5⟩
 .exact .inl m
 .exact .inr (.inl m)
 .exact .inr (.inr ⟨m1,m2,m3,ord,m4.at λo e=>k pl (!4) o e,m5⟩)
theorem EM.type (x:EM w a it pl o es ep t out i s.heap):s.TypeIs (.ref it) "set_iterator" := by
 obtain⟨_,_,f,e,_⟩:=x;exact⟨_,e,rfl⟩
theorem uN {t:SetTable}{n:Nat}(h:t.fits n=true):t.place.size=n:=by
 simp only[SetTable.fits,bA,beq_iff_eq] at h;exact h.1
theorem rL (F:zW w o es ep t)(x:s.heap.get? a=some o)(m:jZ w=true)
  (q:Q ((((pickOrder (w.params.setOrder a ep) es).toList.map (·.2))[i]?).map λv=>(v,sl)) s):ay (model prog w) A (setNext a sl i ep) Q E s:=by
 unfold setNext;refine aa (wpAny_setState_of x F.dat F.fit ?_);dsimp only;unfold setsByText;refine aa (aa (wpAny_askSetting (ai ?_)));refine wpAny_ite_split (λ_=>?_) (λz=>absurd m z);rw[if_neg (!4)];unfold setWalk;refine aa (aa (wpAny_setState_of x F.dat F.fit ?_));dsimp only;unfold setsByText;refine aa (aa (wpAny_askSetting (ai ?_)));refine wpAny_ite_split (λ_=>?_) (λz=>absurd m z);refine aa (wpAny_askSetting (ai ?_));refine ai ?_
 have e:((pickOrder (w.params.setOrder a ep) es)[i]?).map (λe:Int × ae=>(e.2,sl))=(((pickOrder (w.params.setOrder a ep) es).toList.map (·.2))[i]?).map λv=>(v,sl):=by
  rw[aC,a8,Option.map_map];rfl
 rw[<- e] at q;exact q
theorem rM {a:Addr}{o:Obj}{es:Array (Int × ae)}{ep i:Nat}{t:SetTable}{Q:Option (ae × Nat)->aq->Prop}(F:zW w o es ep t)(x:s.heap.get? a=some o)(m:jZ w=false)(m2:(!t.plain && decide (es.size > 1))=false)
  (m3:t.place.toList.Pairwise (· < ·)) (hi:i<=es.size) (q:Q (((es.toList.map (·.2))[i]?).map λv=>(v,tM t (i+1))) s):ay (model prog w) A (setNext a (tM t i) i ep) Q E s:=by
 have hz:=uN F.fit;unfold setNext;refine aa (wpAny_setState_of x F.dat F.fit ?_);dsimp only;unfold setsByText;refine aa (aa (wpAny_askSetting (ai ?_)));refine wpAny_ite_split (λz=>absurd ((show jZ w=true from z).symm.trans m) (!2)) (λ_=>?_);refine wpAny_ite_split (λz=>absurd ((show (!t.plain && decide (es.size > 1))=true from z).symm.trans m2) (!2)) (λ_=>?_);show ay _ _ ((if (!t.led && !es.isEmpty)=true then unsupported "set:maker-not-led" else pure ()) >>= _) _ _ _;rw[F.led,m];rw[if_neg (!4)];refine aa (ai (ai ?_))
 have e:SetTable.below t.place (tM t i)=i:=by
  cases i with
  | zero=>exact SetTable.zU m3
  | succ j =>
   have hj:j<t.place.size:=by omega
   have:tM t (j+1)=t.place[j] + 1:=by unfold tM;simp[hj]
   rw[this];exact SetTable.zV m3 (by simp[hj])
 rw[e];rcases cF i es.size with hl | hl
 .have e1:es[i]? = some (es[i].1,es[i].2):=by simp[hl]
  have e2:t.place[i]? = some t.place[i]:=by simp[hz,hl]
  rw[e1,e2];have e3:(es.toList.map (·.2))[i]? = some es[i].2:=by rw[aC,a8,e1];rfl
  rw[e3] at q;have e4:tM t (i+1)=t.place[i] + 1:=by unfold tM;simp[hz,hl]
  rw[e4] at q;exact q
 .have e1:es[i]? = none:=by simp[hl]
  have e3:(es.toList.map (·.2))[i]? = none:=by rw[aC,a8,e1];rfl
  rw[e3] at q;rw[e1];exact q
theorem vR {h:Heap}{it:Addr}{vs:Array ae}(f:Array ae->Array ae)(ho:h.get? it=some { cls:=.type "set_iterator",data:=.fields vs }):(h.update it (Obj.mapFields f)).get? it=some { cls:=.type "set_iterator",data:=.fields (f vs) }:=by
 have:=aS (Obj.mapFields f) ho (Obj.isFreed_of_fields (Obj.data_mapFields rfl _));exact this
theorem zX {a it pl:Addr}{o:Obj}{es:Array (Int × ae)}{ep:Nat}{t:SetTable}{out:List ae}{i:Nat}{v:ae}{Q:Option ae->aq->Prop}(F:zW w o es ep t)(x:EM w a it pl o es ep t out i s.heap)(jS:a≠it)
  (hv:out[i]? = some v) (q:∀h',EM w a it pl o es ep t out (i+1) h'->Heap.SameBut it s.heap h'->Q (some v) { s with heap:=h' }):ay (model prog w) A (pyNext (.ref it)) Q E s:=by
 have ty:=x.type;obtain⟨x1,x2,first,x3,m⟩:=x
 have hi:i<out.length:=by
  rcases cF i out.length with z | z
  .exact z
  .rw[bp z] at hv;cases hv
 unfold pyNext;refine aa (wpAny_attempt (wpAny_callSpecial?_slot (name:=Str.ofString "__next__") ty j4 (wpAny_call_entry j4 ty uM ?_ (xC _))));show ay _ _ (fieldsOf (.ref it) >>= _) _ _ s;refine aa (wpAny_fieldsOf x3 rfl ?_);show ay _ _ (setEntries a >>= _) _ _ s;refine aa (wpAny_setEntries_of x1 F.dat F.fit ?_);rw[if_neg (!4)];have ot:∀(f:Obj->Obj) (h:Heap) (b:Addr) (ob:Obj),b≠it->h.get? b=some ob->(h.update it f).get? b=some ob:=λf h b ob hb e=>(aI _ _ (Ne.symm hb)).trans e
 have go:∀(sl nx:Nat),s.heap.get? it=some { cls:=.type "set_iterator",data:=.fields #[.int sl 0,.int i 0,.ref a,.int es.size 0,.int ep 0] }->(∀h',F1 w a it pl es ep t out (i+1) (.int nx 0) h') ->
   (∀Q':Option (ae × Nat)->aq->Prop,∀E',Q' ((out[i]?).map λv=>(v,nx)) s->ay (model prog w) A.in1 (setNext a sl i ep) Q' E' s) ->
   ∀{E':ae->aq->Prop},ay (model prog w) A.in1 (setNext a ((sl:Int).toNat) ((i:Int).toNat) ((ep:Int).toNat) >>= λr=>match r with
    | some (y,next)=>setField (.ref it) 0 (rawInt next) >>= λ_=>setField (.ref it) 1 (rawInt ((i:Int)+1)) >>= λ_=>ret y
    | none=>setField (.ref it) 2 ae.none >>= λ_=>newExc (ae.type "StopIteration") [] >>= λe=>raiseNew e) (λfin s'=>∃v,fin=.done (.ret v)/\Q (some v) s') E' s:=by
  intro sl nx x3 md XB E';simp only[br];refine aa (XB _ _ ?_);rw[hv];dsimp only [Option.map];refine aa (wpAny_setField x3 rfl (!4) (aa ?_));have y1:=vR (·.setIfInBounds 0 (rawInt nx)) x3;refine wpAny_setField (s:={ s with heap:=s.heap.update it (Obj.mapFields (·.setIfInBounds 0 (rawInt nx))) }) y1 rfl (!4) (ai ⟨v,rfl,?_⟩);have y2:=vR (·.setIfInBounds 1 (rawInt ((i:Int)+1))) y1;exact q _ ⟨ot _ _ a o jS (ot _ _ a o jS x1),x2,.int nx 0,by rw[y2];simp[rawInt],md _⟩ ((Heap.SameBut.update ..).trans (Heap.SameBut.update ..))
 rcases m with⟨m1,rfl,m2⟩ | ⟨m1,m2,m3,rfl,m4⟩ | ⟨m1,rfl,m2,ord,⟨Uk,t1,t2,nt,t3⟩,m4,m5⟩
 .exact bJ (go 0 0 x3 (λh'=>.inl ⟨m1,rfl,m2⟩) λQ' E' q'=>rL F x1 m1 (by rw[<- m2];exact q')) (λfin s' ⟨v,e,h⟩=>⟨v,e,ai h⟩) λe s' h=>h
 .exact bJ (go (tM t i) (tM t (i+1)) x3 (λh'=>.inr (.inl ⟨m1,m2,m3,rfl,m4⟩)) λQ' E' q'=>rM F x1 m1 m2 m3 (!1) (by rw[<- m4];exact q')) (λfin s' ⟨v,e,h⟩=>⟨v,e,ai h⟩) λe s' h=>h
 .show ay _ _ (seqItems? (.ref pl) >>= _) _ _ s
  refine aa (wpAny_seqItems t1 t3 ?_);rw[m5,aC] at hv
  cases ho:ord[i]? with
  | none=>rw[ho] at hv;cases hv
  | some j =>
   rw[ho] at hv
   have hj:j<es.size:=by
    have:j∈List.range es.size:=m4.mem_iff.mp (bP ho);exact cz.mp this
   have ej:es[j]? = some (es[j].1,es[j].2):=by simp[hj]
   have ev:v=es[j].2:=by simp only[bH,ej] at hv;cases hv;rfl
   have Ul:((ord.map λi:Nat=>rawInt i).toArray)[(i:Int).toNat]? = some (.int j 0):=by
    rw[List.getElem?_toArray,br,aC,ho];rfl
   dsimp only;rw[Ul];dsimp only;refine aa ?_;unfold setNextDrawn;refine aa (wpAny_setState_of x1 F.dat F.fit ?_);dsimp only;rw[if_neg (!4),br,ej];dsimp only;refine ai ?_;refine aa (wpAny_setField x3 rfl (!4) (ai ⟨_,rfl,ai ?_⟩));have y2:=vR (·.setIfInBounds 1 (rawInt ((i:Int)+1))) x3;rw[<- ev];exact q _ ⟨ot _ _ a o jS x1,x2,.ref pl,by rw[y2];simp[rawInt],.inr (.inr ⟨m1,rfl,m2,ord,⟨Uk,ot _ _ pl Uk m2 t1,t2,nt,t3⟩,m4,m5⟩)⟩ (Heap.SameBut.update ..)
theorem rN {a it pl:Addr}{o:Obj}{es:Array (Int × ae)}{ep:Nat}{t:SetTable}{out:List ae}{Q:Option ae->aq->Prop}(hh:A.handled=none)(F:zW w o es ep t)(x:EM w a it pl o es ep t out out.length s.heap)
  (q:∀h',Heap.ExtBut it s.heap h'->Q none { s with heap:=h' }):ay (model prog w) A (pyNext (.ref it)) Q E s:=by
 have ty:=x.type;obtain⟨x1,x2,first,x3,m⟩:=x;unfold pyNext;refine aa (wpAny_attempt (wpAny_callSpecial?_slot (name:=Str.ofString "__next__") ty j4 (wpAny_call_entry j4 ty uM ?_ (xC _))));show ay _ _ (fieldsOf (.ref it) >>= _) _ _ s;refine aa (wpAny_fieldsOf x3 rfl ?_);show ay _ _ (setEntries a >>= _) _ _ s;refine aa (wpAny_setEntries_of x1 F.dat F.fit ?_);rw[if_neg (!4)]
 have fin:∀{α:Type} (h1:Heap) (B:Around) (Q':α->aq->Prop),B.handled=none->Heap.ExtBut it s.heap h1->ay (model prog w) B (newExc (ae.type "StopIteration") [] >>= λe=>raiseNew e)
   Q' (λe s'=>ay (model prog w) A (isInstance e (ae.type "StopIteration") >>= λb=>if b=true then pure none else throw e) Q E s') { s with heap:=h1 }:=by
  intro α h1 B Q' hB k1;refine aa ?_;simp only[newExc,newTuple];refine aa (bh (aa (m:=firstArgMember _ _) (wpAny_of_eq (a:=ae.none) (by first | rfl | (simp only[firstArgMember];rfl)) (bh ?_ (by size_fits)))) (by size_fits));simp only[raiseNew];refine aa (wpAny_handled ?_);rw[hB];refine aa (ai (wpAny_throw ?_));refine aa (wpAny_isInstance (T := "StopIteration") (b:=true) ⟨_,aH _ rfl,rfl⟩ isSubtype_stop (ai ?_));exact q _ ((k1.push _).push _)
 have no:out[out.length]? = none:=by simp
 rcases m with⟨m1,rfl,m2⟩ | ⟨m1,m2,m3,rfl,m4⟩ | ⟨m1,rfl,m2,ord,⟨Uk,t1,t2,nt,t3⟩,m4,m5⟩
 .show ay _ _ (setNext a _ _ _ >>= _) _ _ s
  simp only[br];refine aa (rL F x1 m1 ?_);rw[<- m2,no];dsimp only [Option.map];exact aa (wpAny_setField x3 rfl (!4) (fin _ _ _ hh (Heap.SameBut.update ..).extBut))
 .show ay _ _ (setNext a _ _ _ >>= _) _ _ s
  simp only[br];refine aa (rM F x1 m1 m2 m3 (!1) ?_);rw[<- m4,no];dsimp only [Option.map];exact aa (wpAny_setField x3 rfl (!4) (fin _ _ _ hh (Heap.SameBut.update ..).extBut))
 .show ay _ _ (seqItems? (.ref pl) >>= _) _ _ s
  refine aa (wpAny_seqItems t1 t3 ?_);have ol:ord.length=out.length:=by rw[m5,aj]
  have Ul:((ord.map λi:Nat=>rawInt i).toArray)[((out.length:Nat):Int).toNat]? = none:=by
   rw[List.getElem?_toArray,br,aC,bp (!1)];rfl
  dsimp only;rw[Ul];dsimp only;refine aa (wpAny_setField x3 rfl (!4) (aa ?_));have y1:=vR (·.setIfInBounds 0 (rawInt 0)) x3;exact wpAny_setField (s:={ s with heap:=s.heap.update it (Obj.mapFields (·.setIfInBounds 0 (rawInt 0))) }) y1 rfl (!4) (fin _ _ _ hh ((Heap.SameBut.update ..).trans (Heap.SameBut.update ..)).extBut)
end
open PyProof.Rows
theorem uO:Slot "set_iterator" "__iter__" "set_iterator.__iter__" :=
 Slot.of (owner := "set_iterator") (n := "__iter__") (by rw[typeLookup_type,builtinLookup_eq_fast];kernel_rfl) (!3) (!3)
  (!3) (by first | exact .inl (!3) | exact .inr (!3)) (by rw[isSubtype_type];kernel_rfl)
theorem zY:entryFor table "set_iterator.__iter__" = some Builtin.«dict_keyiterator.__iter__»:=entryFor_alias (id' := "dict_keyiterator.__iter__") (by kernel_rfl) rfl (!3) (by kernel_rfl)
theorem DO (a:ae):argsOk "set_iterator.__iter__" ⟨[a],[]⟩:=by unfold argsOk;kernel_rfl
section
theorem vQ.ints:vQ l->IntsAre (l.map (·.2)) (l.filterMap DK):=by
 induction l with
 | nil=>intro _;exact .nil
 | cons e l ih =>
  intro h;obtain⟨k,t,rfl⟩:=h e (!4);exact .cons k t (ih λe he=>h e (by simp[he]))
theorem xE (es:Array (Int × ae)):∀(l:List Nat),(∀j∈l,j<es.size)->(l.map λi=>((es[i]?).map (·.2)).getD ae.none)=(l.filterMap λi=>es[i]?).map (·.2)
 | [],_=>rfl
 | j::l,h=>by
  have hj:=h j (!4);have e:es[j]? = some es[j]:=by simp[hj]
  rw[ak,bW,e,xE es l λi hi=>h i (by simp[hi])];rfl
theorem xF (x:iR w a ns s.heap) (q:∀h' d' it pl o es ep t out ms,zW w o es ep t->EM w a it pl o es ep t out 0 h'->(∀b ob,s.heap.get? b=some ob->h'.get? b=some ob) ->
   s.heap.objs.size<=it->s.heap.objs.size<=pl->IntsAre out ms->ms.Perm ns->Q (.ref it) { s with heap:=h',drawn:=d' }):ay (model prog w) A (pyIter (.ref a)) Q E s:=by
 have ty:=x.type;obtain⟨o,es,ep,t,ho,ex,hd,h1,h2,h3,h4,h5,h6⟩:=x;have F:zW w o es ep t:=⟨ex,hd,h4,h5⟩;have hz:=uN h4;refine wpAny_pyIter_slot ty PySem.F.slot_set_iter (wpAny_call_entry PySem.F.slot_set_iter ty xD ?_ (PySem.F.args_set_iter_1 _));unfold Builtin.«frozenset.__iter__» Builtin.Frozenset.slot0 slotArgs;simp only[List.isEmpty_nil,c8,bX,↓reduceIte,bind_assoc,bg,bne_self_eq_false];unfold Builtin.Frozenset.addrOf Builtin.Frozenset.sizeOf;refine aa (ai ?_);try dsimp only
 refine aa (ai ?_);refine aa (aa (wpAny_setEntries_of ho hd h4 (ai ?_)));unfold setDrawn;refine aa (aa (wpAny_setState_of ho hd h4 ?_));dsimp only;unfold setsByText;refine aa (aa (wpAny_askSetting (ai (ai ?_))))
 have fin:∀(h':Heap) (d':_) (pl:Addr) (first:ae) (out:List ae) (ms:List Int),(∀b ob,s.heap.get? b=some ob->h'.get? b=some ob)->s.heap.objs.size<=h'.objs.size->s.heap.objs.size<=pl ->
   F1 w a h'.objs.size pl es ep t out 0 first (h'.push { cls:=.type "set_iterator",data:=.fields #[first,.int 0 0,.ref a,.int es.size 0,.int ep 0] })->out.length=es.size->IntsAre out ms->ms.Perm ns ->
   ay (model prog w) A.in1 (setEpoch a >>= λe=>newFields "set_iterator" [first,rawInt 0,.ref a,rawInt es.size,rawInt e] >>= λv=>ret v)
    (λfin s'=>∃v,fin=.done (.ret v)/\∃T' r,s'.TypeIs v T'/\typeLookup (.type T') "__next__" = pure (some r)/\Q v s') E { s with heap:=h',drawn:=d' }:=by
  intro h' d' pl first out ms kp z1 z2 md ol ia pm
  refine aa (wpAny_setEpoch_of (s:={ s with heap:=h',drawn:=d' }) (kp a o ho) hd h4 ?_);unfold newFields;refine aa (bh (ai ⟨_,rfl, "set_iterator",_,⟨_,aH _ rfl,rfl⟩,j4.lookup,?_⟩));have g:(h'.push { cls:=.type "set_iterator",data:=.fields #[first,.int 0 0,.ref a,.int es.size 0,.int ep 0] }).get? h'.objs.size=some { cls:=.type "set_iterator",data:=.fields #[first,.int 0 0,.ref a,.int es.size 0,.int ep 0] }:=aH _ rfl;exact q _ d' h'.objs.size pl o es ep t out ms F ⟨ah _ (kp a o ho),ol,first,g,md⟩ (λb ob e=>ah _ (kp b ob e)) z1 z2 ia pm
 cases hb:jZ w with
 | true =>
  refine wpAny_ite_split (λz=>?_) (λ_=>?_)
  .exfalso
   have:(!jZ w && (!t.plain && decide (es.size > 1)))=true:=z;rw[hb] at this;cases this
  .refine aa (ai ?_)
   have p1:=rK (w.params.setOrder a ep) es;refine fin s.heap s.drawn s.heap.objs.size (.int 0 0) _ _ (λ_ _ e=>e) (am _) (am _) (.inl ⟨hb,rfl,rfl⟩) ?_ (vQ.ints (h1.perm p1)) ((p1.filterMap DK).trans h2);rw[aj,p1.length_eq,aT]
 | false =>
  refine wpAny_ite_split (λz=>?_) (λz=>?_)
  .refine aa (lg es.size (List.range es.size) (!4) λord d' p=>?_)
   refine aa (wpAny_newTuple ?_ ?_)
   .have lt:∀j∈ord,j<es.size:=λj hj=>cz.mp (p.mem_iff.mp hj)
    have p1:(ord.filterMap λi=>es[i]?).Perm es.toList:=(p.filterMap _).trans (by rw[filterMap_getElem?_range]);have g:(s.heap.push { cls:=.type "tuple",data:=.seq (ord.map λi:Nat=>rawInt i).toArray }).get? s.heap.objs.size=some { cls:=.type "tuple",data:=.seq (ord.map λi:Nat=>rawInt i).toArray }:=aH _ rfl;refine fin _ d' s.heap.objs.size (.ref s.heap.objs.size) (ord.map λi=>((es[i]?).map (·.2)).getD .none) ((ord.filterMap λi=>es[i]?).filterMap DK) (λb ob e=>ah _ e) (by rw[bV];exact b8 _) (am _) ?_ ?_ ?_ ((p1.filterMap DK).trans h2)
    .refine .inr (.inr ⟨hb,rfl,by rw[bV];exact aN (dq _),ord,⟨_,ah _ g,rfl,0,rfl⟩,p,rfl⟩)
    .rw[aj,p.length_eq,b9]
    .rw[xE es ord lt]
     exact vQ.ints (h1.perm p1)
   .have:ord.length=es.size:=by rw[p.length_eq,b9]
    have hb:scanBound=4096:=rfl;simp only[aj,this];rw[sizeLine_eq];omega
  .refine aa (ai ?_)
   have z':(!t.plain && decide (es.size > 1))=false:=by
    have:¬ (!jZ w && (!t.plain && decide (es.size > 1)))=true:=z;rw[hb] at this;simpa using this
   refine fin s.heap s.drawn s.heap.objs.size (.int 0 0) _ _ (λ_ _ e=>e) (am _) (am _) (.inr (.inl ⟨hb,z',?_,rfl,rfl⟩)) ?_ (vQ.ints h1) h2
   .cases hp:t.plain with
    | true=>exact h6 hp
    | false =>
     rw[hp] at z';have:t.place.toList.length<=1:=by rw[aT,hz];simpa using z'
     match t.place.toList,this with
     | [],_=>exact .nil
     | [a],_=>exact List.pairwise_singleton _ _
     | _::_::_,h=>exact absurd h (!4)
   .rw[aj,aT]
theorem zZ (x:EM w a it pl o es ep t out i s.heap)(q:Q (.ref it) s):ay (model prog w) A (pyIter (.ref it)) Q E s:=by
 have ty:=x.type;refine wpAny_pyIter_slot ty uO (wpAny_call_entry uO ty zY ?_ (DO _));show ay _ _ (ret (.ref it)) _ _ s;exact ai ⟨_,rfl, "set_iterator",_,ty,j4.lookup,q⟩
theorem DP (out:List ae)(hh:A.handled=none)(F:zW w o es ep t)(jS:a≠it) :
  Walks prog w A it [it,a,pl] [it] out.length (λi v=>out[i]? = some v) (EM w a it pl o es ep t out) where
 sub:=λb hb=>by simp at hb;simp[hb]
 frame:=λ_ _ _ st k=>st.frame k
 item:=λi s Q E hi st hQ=>by
  have e:out[i]? = some out[i]:=by simp[hi]
  exact zX F st jS e λh' eK sb=>hQ _ h' s.toks e eK λb ob hb e=>sb.extBut b ob (λh=>hb (by simp[h])) e
 done:=λs Q E st hQ=>rN hh F st λh' ex=>hQ h' s.toks λb ob hb e=>ex b ob (λh=>hb (by simp[h])) e
 self:=λ_ _ _ _ st hQ=>zZ st hQ
end
open PyProof.Rows
section
theorem F3 (x:iR w d ns s.heap)(h:∀b,Q b s):ay (model prog w) A (Builtin.List.listLengthHint (.ref d)) Q E s:=by
 have ty:=x.type;unfold Builtin.List.listLengthHint;refine aa (wpAny_specialOf ty F.slot_set_len.lookup ?_);generalize hj:("set.__len__" : String)=j0
 wp_delta
 rw[show splitId j0=some ("set", "__len__") from by subst hj;decide +kernel];subst hj;refine aa (wpAny_isInstance (T := "set") (b:=true) ty (by rw[isSubtype_type];kernel_rfl) ?_);refine wpAny_ite_split (λz=>absurd z (!2)) (λ_=>?_);refine wpAny_ite_split (λ_=>?_) (λz=>absurd (!3) z);exact aa (wpAny_typeOf ty (ai (h _)))
theorem z0 (hh:A.handled=none)(x:iR w d ns s.heap)(eX:ns.length<=ax)(S:Addr)(res:ae)(c₀:Nat)(hS:s.heap.get? S=some { cls:=.type "list",data:=.seq #[] c₀ })
  (hR:∀h' tk d' mW c' ms,(∀b o,b≠S->s.heap.get? b=some o->h'.get? b=some o)->h'.get? S=some { cls:=.type "list",dict:=none,data:=.seq mW c',slots:=#[] }->IntsAre mW.toList ms->ms.Perm ns ->
   R (.ok (.ret res)) { s with heap:=h',toks:=tk,drawn:=d' }) :
  ay (model prog w) A.in1 (Builtin.List.listExtendWith (.ref S) (.ref d) res)
   (λfin s'=>match fin with | .done f=>R (.ok f) s' | .again c'=>c'.quiet=true/\codeAny (model prog w) A c' R s') (λe s'=>R (.error e) s') s:=by
 have ty:=x.type;have xw:d<s.heap.objs.size:=by obtain⟨o,es,ep,t,e,_⟩:=id x;exact aA e
 have Sq:S<s.heap.objs.size:=aA hS
 have OL:S≠d:=λz=>by
  obtain⟨o,e,c⟩:=ty;rw[<- z,hS] at e;cases e;exact absurd (show ae.type "list" = ae.type "set" from c) (!2)
 unfold Builtin.List.listExtendWith;refine aa (wpAny_typeOf ty ?_);have n1:Builtin.List.listSameRef (.ref S) (.ref d)=false:=by simp[Builtin.List.listSameRef,OL]
 have n2:(ae.type "set" == ae.type "list")=false:=by decide
 have n3:(ae.type "set" == ae.type "tuple")=false:=by decide
 simp only[n1,n2,n3,Bool.or_false,bX,if_false];refine aa (xF x λh1 d1 it pl o es ep t out ms Fx st oh Na mL ia pm=>?_);have jS:d≠it:=aN (aL xw Na);have Sr:S≠it:=aN (aL Sq Na);have XD:S≠pl:=aN (aL Sq mL)
 have Ni:S ∉ [it,d,pl]:=λz=>by
  rcases au.mp z with z | z
  .exact Sr z
  .rcases au.mp z with z | z
   .exact OL z
   .exact XD (av.mp z)
 have W:=(DP (prog:=prog) (w:=w) (A:=A.in1) (a:=d) (it:=it) (pl:=pl) out hh Fx jS).toS;have ol:out.length=ns.length:=by rw[<- pm.length_eq];exact IntsAre.length ia
 have run:∀(h:Heap) (c₁ tk:Nat),EM w d it pl o es ep t out 0 h->(∀b o,b≠S->s.heap.get? b=some o->h.get? b=some o) ->
   h.get? S=some { cls:=.type "list",data:=.seq #[] c₁ }->codeAny (model prog w) A (.builtin "list.extend.loop" ⟨[.ref S,.ref it,res],[]⟩) R { s with heap:=h,toks:=tk,drawn:=d1 }:=by
  intro h c₁ tk XE hk k9;refine codeAny_extend_loopS W (!1) S Ni res out.length 0 _ #[] c₁ rfl (bL _) XE k9 (ItemsOf.nil _) λs' mW c' mv Ua Dy=>?_;have ji:=Moved.eq_with mv
  have Qy:mW.toList=out:=by
   refine List.ext_getElem? λj=>?_;rw[a8];rcases cF j mW.size with hj | hj
   .have e:mW[j]? = some mW[j]:=by simp[hj]
    rw[e,Dy.2 j _ e]
   .rw[cG hj,bp (by have:=Dy.1;omega)]
  rw[ji];refine hR s'.heap s'.toks d1 mW c' ms (λb o hb e=>mv.heap b o (λz=>?_) (hk b o hb e)) Ua (by rw[Qy];exact ia) pm;rcases au.mp z with z | z
  .exact hb z
  .have:b=it:=by simpa using z
   exact absurd (aL (aA e) Na) (by rw[this];exact bt _)
 have k9:=oh S _ hS;refine aa (wpAny_holding (F3 (s:={ s with heap:=h1,drawn:=d1 }) (x.keep λo e=>oh _ o e) λb=>?_));refine wpAny_ite_split (λ_=>?_) (λ_=>ai ⟨plainId_quiet F.plain_extend_loop _,run h1 c₀ s.toks st (λb o _ e=>oh b o e) k9⟩);refine aa (wpAny_rule (aa ?_));show ay _ _ (updateSeq S (·.push .none) >>= λ_=>updateSeq S (·.pop)) _ _ { s with heap:=h1,drawn:=d1 };refine aa (wpAny_updateSeq k9 rfl ?_);have xx:=aS (Obj.mapSeq (·.push ae.none)) k9 rfl;refine wpAny_updateSeq (hz:=by seq_fits) xx rfl ?_;have FX:=aS (Obj.mapSeq (·.pop)) xx rfl
 have uH:∀b o,b≠S->h1.get? b=some o->((h1.update S (Obj.mapSeq (·.push ae.none))).update S (Obj.mapSeq (·.pop))).get? b=some o:=λb o hb e =>
  (aI _ _ (Ne.symm hb)).trans ((aI _ _ (Ne.symm hb)).trans e)
 refine ai ⟨plainId_quiet F.plain_extend_loop _,run _ _ s.toks (st.frame λb hb o e=>uH _ o (λz=>Ni (z ▸ hb)) e) (λb o hb e=>uH b o hb (oh b o e)) FX⟩
theorem xG (hh:A.handled=none)(x:iR w d ns s.heap)(eX:ns.length<=ax)
  (hQ:∀h' tk d' acc ms,(∀b o,s.heap.get? b=some o->h'.get? b=some o)->IntsAre acc ms->ms.Perm ns->Q acc { s with heap:=h',toks:=tk,drawn:=d' }):ay (model prog w) A (collect (.ref d)) Q E s:=by
 unfold collect;refine aa (wpAny_runValue (codeAny_builtin F.entry_proto_collect ?_));rw[Around.under_plainId F.plain_proto_collect _];show ay _ A.in1 (newList [] >>= λl=>again (.builtin "list.__iadd__" ⟨[l,.ref d],[]⟩)) _ _ s;refine aa (bh (ai ⟨plainId_quiet F.plain_list_iadd _,codeAny_builtin F.entry_list_iadd ?_⟩));rw[Around.under_plainId F.plain_list_iadd _];show ay _ A.in1 (Builtin.List.listExtendWith (.ref s.heap.objs.size) (.ref d) (.ref s.heap.objs.size)) _ _ _;have hS:(s.heap.push { cls:=.type "list",data:=.seq ([]:List ae).toArray }).get? s.heap.objs.size=some { cls:=.type "list",data:=.seq #[] 0 }:=aH _ rfl;have k0:∀b o,s.heap.get? b=some o->(s.heap.push { cls:=.type "list",data:=.seq ([]:List ae).toArray }).get? b=some o:=λb o e=>ah _ e;generalize s.heap.push { cls:=.type "list",data:=.seq ([]:List ae).toArray }=h0 at hS k0 ⊢
 have FY:∀(h':Heap) (tk:Nat) (d':Drawn) (acc:Array ae) (c':Nat) (ms:List Int),(∀b o,b≠s.heap.objs.size->h0.get? b=some o->h'.get? b=some o) ->
   h'.get? s.heap.objs.size=some { cls:=.type "list",dict:=none,data:=.seq acc c',slots:=#[] }->IntsAre acc.toList ms->ms.Perm ns ->
   ay (model prog w) A (match ae.ref s.heap.objs.size with
   | ae.ref a=>do
    match (<- load a).data with
     | Data.seq xs _=>pure xs.toList
     | _=>unsupported "internal:collect"
   | _=>unsupported "internal:collect") Q E { s with heap:=h',toks:=tk,drawn:=d' }:=λh' tk d' acc c' ms kp e hi pm=>by
  show ay _ A (load s.heap.objs.size >>= _) _ _ _;refine aa (wpAny_load e ?_);exact ai (hQ h' tk d' acc.toList ms (λb o hb=>kp b o (aN (aA hb)) (k0 b o hb)) hi pm)
 refine bJ (z0 (A:=A) (R:=λr' s'=>r'=.ok (.ret (.ref s.heap.objs.size))/\∃h' tk d' acc c' ms,s'={ s with heap:=h',toks:=tk,drawn:=d' }/\(∀b o,b≠s.heap.objs.size->h0.get? b=some o->h'.get? b=some o) /\
   h'.get? s.heap.objs.size=some { cls:=.type "list",dict:=none,data:=.seq acc c',slots:=#[] }/\IntsAre acc.toList ms/\ms.Perm ns)
  (s:={ s with heap:=h0 }) hh (x.keep λo e=>k0 _ o e) eX s.heap.objs.size (.ref s.heap.objs.size) 0 hS λh' tk d' acc c' ms kp e hi pm=>⟨rfl,h',tk,d',acc,c',ms,rfl,kp,e,hi,pm⟩) (λfin s' h=>?_) (λe s' h=>?_)
 .cases fin with
  | done f =>
   obtain⟨e,h',tk,d',acc,c',ms,rfl,kp,q,hi,pm⟩:=h;cases e;exact FY h' tk d' acc c' ms kp q hi pm
  | again c'=>exact⟨h.1,codeAny_mono h.2 λr MD hr=>by obtain⟨rfl,h',tk,d',acc,c',ms,rfl,kp,q,hi,pm⟩:=hr;exact FY h' tk d' acc c' ms kp q hi pm⟩
 .exact absurd h.1 (!4)
end
end PySem
namespace L2
open PySem PySem.Spec PyProof.Rows
section
variable {X:Cx}
theorem B9 {z:Heap}{n:Nat}{ob:Obj}(h:z.objs.size=n)(hf:ob.isFreed=false):(z.push ob).get? n=some ob:=h ▸ aH _ hf
theorem Inv.drawn (I:Inv X pins σ H s)(d:Drawn):Inv X pins σ H { s with drawn:=d } :=
 { ok:=I.ok,os:=I.os,bare:=I.bare,base:=I.base,loc:=I.loc,cell:=I.cell,free:=I.free,freeC:=I.freeC,pin:=I.pin,hok:=I.hok,len:=I.len }
theorem vS (w:World)(hc:X.calm=true)(hw:X.w=w:=by rfl):gj X (.builtin "sorted") (λxs H Q=>∃(p:Addr) (ns:List Int),xs=[.ref p]/\H p=some (.ext (iR w p ns))/\ns.length<64 /\
  ∀(l:Addr) (ms:List Int),ms.Perm ns->ms.Pairwise (·<=·)->H l=none->Q (.ref l) (eR H l (.lst (ms.map V.int)))):=by
 subst hw;intro pins s σ H xs us Q I r h;obtain⟨p,ns,rfl,hp,HP,q⟩:=h;obtain⟨u,rfl,ru⟩:=vals1 r;cases ru;obtain⟨x,_,_⟩:=I.hok p _ hp;refine Calls.call_function_entry kind_sorted plain_sorted entry_sorted (args_sorted1 _) ?_;unfold Builtin.«sorted»;refine aa (m:=checkCount "sorted" 1 1 _) (ai ?_);refine aa (xG (A:=X.A.in1) (I.ok.hd hc) x (by rw[show ax=16777216 by decide];omega) λh1 tk d1 acc ms Um hI QD=>?_)
 have Qy:acc.length<64:=by
  rw[IntsAre.length hI,QD.length_eq];exact HP
 refine aa (wpAny_newList ?_);have EI:(h1.push (seqObj "list" acc.toArray 0)).get? h1.objs.size=some (seqObj "list" acc.toArray 0):=aH _ rfl;show ay _ _ _ _ _ { s with heap:=h1.push (seqObj "list" acc.toArray 0),toks:=tk,drawn:=d1 };refine aa (wpAny_holding (wpAny_call_entry slot_list_sort ⟨_,EI,rfl⟩ entry_list_sort (list_sort_tree EI hI Qy λout Su a1 a2 a3=>⟨_,rfl,?_⟩) (args_list_sort _)));refine ai ⟨_,rfl,?_⟩;have hm:=a2.length_eq;have HQ:=QD.length_eq;have hv:ee (Su.map V.int) out.toList:=ee.qB a1;have hsz:(Su.map V.int).length<=ax:=by rw[aj,show ax=16777216 by decide];omega
 have I1:Inv X pins σ H { s with heap:=h1,toks:=tk,drawn:=d1 }:=(I.kept (t':=tk) Um).drawn d1
 have Nj:∀b ob,h1.get? b=some ob->(sortedHeap (h1.push (seqObj "list" acc.toArray 0)) h1.objs.size acc out).get? b=some ob:=by
  intro b ob e;have hb:h1.objs.size≠b:=cf (aA e);unfold sortedHeap;rw[aI _ _ hb];refine ah _ (ah _ ?_);rw[aI _ _ hb];exact ah _ e
 have nw:∃n,(sortedHeap (h1.push (seqObj "list" acc.toArray 0)) h1.objs.size acc out).get? h1.objs.size=some { cls:=.type "list",data:=.seq out n }:=by
  have g2:=aS (Obj.mapSeq λ_=>(#[]:Array ae)) EI rfl;have g3:=ah (seqObj "list" #[] 0) (ah (seqObj "tuple" acc.toArray 0) g2);have g4:=aS (Obj.mapSeq λ_=>out) g3 rfl;exact⟨_,g4⟩
 obtain⟨n,nw⟩:=nw;exact⟨.ref h1.objs.size,_,I1.laid (t':=tk) (o:=.lst (Su.map V.int)) Nj (am _) ⟨hsz,out.toList,n,hv,by simpa using nw⟩,rfl,q _ Su (a2.trans QD) a3 (I1.hok.fresh (am _))⟩
theorem DQ (K:W.Frag)(w:World)(hc:X.calm=true)(hk:X.K=K:=by rfl)(hw:X.w=w:=by rfl):gj X (.type "set") (λxs H Q=>∃(p:Addr) (ns:List Int),xs=[.ref p]/\(gn K H p (ns.map V.int)\/iW K H p (ns.map V.int))/\ns.length<4000 /\
  ∀(l:Addr) (ms:List Int),ms.Nodup->(∀k,k∈ms↔k∈ns)->ms.length<=ns.length->H l=none->Q (.ref l) (eR H l (.ext (iR w l ms)))):=by
 subst hk hw;intro pins s σ H xs us Q I r h;obtain⟨p,ns,rfl,hp,ig,q⟩:=h;obtain⟨u,rfl,ru⟩:=vals1 r;cases ru
 have mem:∀(n:Nat) (k:Int),n=ns.length->(k∈h9 (λi=>ns.getD i 0) n↔k∈ns):=by
  intro n k e;subst e;rw[uJ,List.mem_iff_getElem];constructor
  .rintro⟨j,hj,e⟩
   exact⟨j,hj,by rw[<- e];simp[hj]⟩
  .rintro⟨j,hj,e⟩
   exact⟨j,hj,by rw[<- e];simp[hj]⟩
 have fin:∀(n:Nat) (h':Heap) (tk:Nat),n=ns.length->iR X.w s.heap.objs.size (h9 (λi=>ns.getD i 0) n) h'->(∀b o,s.heap.get? b=some o->h'.get? b=some o)->EP X pins σ Q (.ref s.heap.objs.size) { s with heap:=h',toks:=tk }:=by
  intro n h' tk e x kp;have ol:=pf (λi=>ns.getD i 0) n;refine⟨.ref s.heap.objs.size,_,I.laid (t':=tk) (o:=.ext (iR X.w s.heap.objs.size (h9 (λi=>ns.getD i 0) n))) kp (am _) ⟨x,?_,λh1 h2 x k=>x.keep k⟩,rfl,q _ _ (xB _ _) (λk=>mem n k e) (!1) (I.hok.fresh (am _))⟩;obtain⟨o,_,_,_,e,_⟩:=x;exact⟨o,e⟩
 have OM:∀B:Around,B.handled=none->B.in1.in1.in1.handled=none:=λB h=>by simp[h]
 rcases hp with hp | hp
 .obtain⟨its,rv,pl,hz⟩:=I.list hp
  obtain⟨o,ho,F4,n,hd⟩:=pl.isList;obtain⟨oc,XG,XH,zw⟩:=o;simp only at F4 hd;subst F4 hd;have hl:=rv.length;rw[aj] at hl;have mL:p<s.heap.objs.size:=aA ho
  exact uK (s:=s) (ns:=ns) ho PySem.F.sub_list_set PySem.F.sub_list_frozenset (!2) (by simpa using IntsAre.oa rv) (by rw[show scanBound=4096 from rfl,aD];omega)
   (λ{A' E' Q' z} e h=>wpAny_pyIter_list ⟨_,e,rfl,_,rfl⟩ h) (Walks.list (OM _ (I.ok.hd hc)) _ p (aN (cr mL)) its.toArray)
   (λz hz e=>⟨⟨_,B9 hz rfl,rfl,rfl⟩,⟨_,ah _ e,rfl,_,rfl⟩⟩) λh' tk x kp=>fin _ h' tk (by rw[aD];omega) x kp
 .obtain⟨its,rv,pl,hz⟩:=I.tuple hp
  obtain⟨o,ho,F4,n,hd⟩:=pl;obtain⟨oc,XG,XH,zw⟩:=o;simp only at F4 hd;subst F4 hd;have hl:=rv.length;rw[aj] at hl;have mL:p<s.heap.objs.size:=aA ho
  exact uK (s:=s) (ns:=ns) ho PySem.F.sub_tuple_set PySem.F.sub_tuple_frozenset (!2) (by simpa using IntsAre.oa rv) (by rw[show scanBound=4096 from rfl,aD];omega)
   (λ{A' E' Q' z} e h=>wpAny_pyIter_tuple ⟨_,e,rfl,_,rfl⟩ h) (Walks.tuple (OM _ (I.ok.hd hc)) _ p (aN (cr mL)) its.toArray)
   (λz hz e=>⟨⟨_,B9 hz rfl,rfl,rfl⟩,⟨_,ah _ e,rfl,_,rfl⟩⟩) λh' tk x kp=>fin _ h' tk (by rw[aD];omega) x kp
end
noncomputable def QF (K:W.Frag)(a:Addr):It :=
 ⟨λi H=>∃xs x,gn K H a xs/\xs[i]? = some x,λi H x H'=>∃T xi,x=.ref T/\H T=none/\H'=eR H T (.tup [.int (i:Nat),xi])/\∀xs,gn K H a xs->xs[i]? = some xi,λi H=>∃xs,gn K H a xs/\xs.length<=i⟩
theorem z3 {P:aO}{w:World}{K:W.Frag}{xy:List Expr}{k:Nat}{pos:Pos}(a e it:Addr)(jS:e≠it):zk P w K (.Tuple xy k pos) (QF K a) [e,it] e (λi h=>(∃old,IsEnum h e it (i:Nat) old)/\h.IsListIter it a i) where
 mem:=by simp
 obj:=λi h st b hb=>by
  obtain⟨⟨old,he⟩,o,ho,hc,hd⟩:=st;rcases au.mp hb with z | z
  .subst z
   exact⟨_,he,λv z=>by cases z⟩
  .have z':b=it:=by simpa using z
   subst z';exact⟨o,ho,λv z=>by rw[hd] at z;cases z⟩
 keep:=λi h h' st kp=>by
  obtain⟨⟨old,he⟩,hi⟩:=st;exact⟨⟨old,kp e (!4) _ he⟩,hi.at λo q=>kp it (!4) o q⟩
 item:=by
  intro X hP hw hK hc i pins s σ H E I hf st hg;subst hP hw hK;obtain⟨⟨old,he⟩,hi⟩:=st;obtain⟨xs,x,hq,hx⟩:=hg;obtain⟨its,rv,p,hz⟩:=I.list hq;obtain⟨u,hu,ru⟩:=rv.get hx;refine wpAny_pyNext_enum_item he hi p.isList (x:=u) (by simpa using hu) jS λh1 eo i1 t1 _ kp=>⟨_,rfl,wpAny_letOwnedTupleGo_enum eo λh2 en sb=>?_⟩;have oZ:e<s.heap.objs.size:=aA he;have Ub:it<s.heap.objs.size:=by obtain⟨_,q,_⟩:=hi;exact aA q
  have Nj:∀b o,b≠e->b≠it->s.heap.get? b=some o->h2.get? b=some o:=λb o n1 n2 q=>(sb.2 b n1).trans (kp b o n1 n2 q);have i2:h2.IsListIter it a (i+1):=i1.at λo q=>(sb.2 it (Ne.symm jS)).trans q;have t2:h2.get? s.heap.objs.size=some { cls:=.type "tuple",data:=.seq #[.int i s.toks,u] }:=(sb.2 _ (cf oZ)).trans t1;obtain⟨f0,f1,f2,f3,f4,f5⟩:=hf it (!4);obtain⟨g0,g1,g2,g3,g4,g5⟩:=hf e (!4);obtain⟨oi,Uc,Xm,Ud⟩:=id i2;obtain⟨o0,Ue,_⟩:=id hi;have m1:(s.heap.update it λ_=>oi).get? it=some oi:=aS (λ_=>oi) Ue (Obj.isFreed_of_fields Ud);have I1:Inv X pins σ H { s with heap:=s.heap.update it λ_=>oi,toks:=s.toks+1 }:=I.turned (λb o hb q=>(aI _ _ (Ne.symm hb)).trans q) f0 f1 f3 f4 f5
  have Ug:∀b o,b≠e->(s.heap.update it λ_=>oi).get? b=some o->h2.get? b=some o:=λb o hb q=>by
   by_cases K0:b=it
   .subst K0
    rw[m1] at q;cases q;exact Uc
   .exact Nj b o hb K0 ((aI _ _ (Ne.symm K0)).symm.trans q)
  have I2:Inv X pins σ H { s with heap:=h2,toks:=s.toks+1 }:=Inv.turned (s:={ s with heap:=s.heap.update it λ_=>oi,toks:=s.toks+1 }) (h':=h2) (t':=s.toks+1) I1 Ug g0 g1 g3 g4 g5;obtain⟨p0,p1,p2,p3,p4,p5⟩:=I.qY (am s.heap.objs.size) (I.hok.fresh (am _))
  have I3:Inv X pins σ (eR H s.heap.objs.size (.tup [.int (i:Nat),x])) { s with heap:=h2,toks:=s.toks+1 } :=
   I2.BV (o:=.tup [.int (i:Nat),x]) t2 p0 p1 p3 p4 p5 ⟨by show 2<=ax;decide,[.int i s.toks,u],.cons ⟨_,rfl⟩ (.cons ru .nil),⟨_,t2,rfl,_,rfl,rfl⟩⟩
  refine⟨.ref s.heap.objs.size,_,I3,rfl,⟨_,x,rfl,p0,rfl,λys hy=>by rw[I.w6 hy hq];exact hx⟩,⟨⟨u,by simpa using en⟩,i2⟩,λb hb=>?_⟩
  have Uh:b≠s.heap.objs.size:=by
   rcases au.mp hb with z | z
   .rw[z];exact aN oZ
   .have z':b=it:=by simpa using z
    rw[z'];exact aN Ub
  rw[dS Uh];exact (hf b hb).1
 done:=by
  intro X hP hw hK hc i pins s σ H E I hf st hg;subst hP hw hK;obtain⟨⟨old,he⟩,hi⟩:=st;obtain⟨xs,hq,hx⟩:=hg;obtain⟨its,rv,p,hz⟩:=I.list hq;obtain⟨f0,f1,f2,f3,f4,f5⟩:=hf it (!4);have hl:=rv.length;exact wpAny_pyNext_enum_end (I.ok.hd hc) he hi p.isList (by simp;omega) λh' eb=>⟨rfl,I.turned (t':=s.toks) (λb o hb q=>eb b o hb q) f0 f1 f3 f4 f5⟩
 self:=λ_ _ _ _ _ st h=>by
  obtain⟨⟨old,he⟩,_⟩:=st;exact wpAny_pyIter_enum he h
section
variable {X:Cx}{xy:List Expr}{k:Nat}{Ji:Pos}
noncomputable def F5 (K:W.Frag)(te:TE):TE:=λσ H Q=>te σ H λx H1=>∃(p:Addr) (ns:List Int),x=.ref p/\(gn K H1 p (ns.map V.int)\/iW K H1 p (ns.map V.int))/\ns.length<64 /\
 ∀(l:Addr) (ms:List Int) (H2:Hp),Ext [] H1 H2->H1 l=none->H2 l=some (.lst (ms.map V.int))->ms.Pairwise (· < ·)->(∀k,k∈ms↔k∈ns)->ms.length<=ns.length->Q (.ref l) H2
noncomputable def QH (te:TE):TE:=λσ H Q=>∃D:VK,te σ H D/\∀x H1,D x H1->Q x H1
theorem QE.mono (he:QE X e te):QE X e (QH te):=⟨λpins s σ H Q I ⟨D,h,k⟩=>fN (he.run pins s σ H D I h) λv s1 ⟨x,H1,I1,r1,q1⟩=>⟨x,H1,I1,r1,k x H1 q1⟩⟩
theorem lG {l:List Int}(h:l.Pairwise (·<=·))(d:l.Nodup):l.Pairwise (· < ·):=by
 have:=h.and d;exact this.imp λ{a b} ⟨h1,h2⟩=>by omega
theorem vT (K:W.Frag){e:Expr}{te:TE}{p1 p2 q1 q2:Pos}(hc:X.calm=true)(g1:Gl X "sorted")(m1:X.mg "sorted" = none)(g2:Gl X "set")(m2:X.mg "set" = none)(he:QE X e te)(hk:X.K=K:=by rfl)(hs:e8 e=true:=by rfl) :
  QE X (.Call (.Name "sorted" p1) [.Call (.Name "set" p2) [e] [] q2] [] q1) (F5 K te):=by
 have QJ:=jb (p:=p2) (pos:=q2) (DQ K X.w hc hk rfl) g2 m2 (!3) (gm he.mono eY hs);have outer:=fO (p:=p1) (pos:=q1) (vS X.w hc rfl) g1 m1 (!3) (gm QJ eY);refine outer.weaken λσ H Q h=>?_;refine⟨_,h,λx H1 ⟨p,ns,e1,e2,e3,q⟩=>⟨p,ns,by rw[e1],e2,!1,λl ms nd mm ml hl=>⟨l,ms,rfl,dM,!1,λl2 XI pm ps h2=>?_⟩⟩⟩;refine q l2 XI _ (Ext.trans (.new hl) (.new h2)) ?_ dM (lG ps (pm.nodup_iff.mpr nd)) (λk=>(pm.mem_iff).trans (mm k)) (by rw[pm.length_eq];exact ml)
 cases z:H1 l2 with
 | none=>rfl
 | some o=>exact absurd h2 (by rw[(Ext.new (S:=[]) hl).keep l2 o (!4) z];simp)
end
theorem fU:∀{ms ns:List Int},ms.Nodup->(∀k∈ms,k∈ns)->ms.length<=ns.length
 | [],_,_,_=>bL _
 | m::ms,ns,nd,h=>by
  have hm:=h m (ar ..);obtain⟨n1,n2⟩:=bN.mp nd;have ih:=fU (ms:=ms) (ns:=ns.erase m) n2 λk hk=>(List.mem_erase_of_ne (λ(z:k=m)=>n1 (z ▸ hk))).mpr (h k (ao _ hk));rw[List.length_erase_of_mem hm] at ih;have:=List.length_pos_of_mem hm;simp only[ap];omega
end L2
namespace L2
open PySem
mutual
theorem eB.more {S:List Addr}{H:Hp}{p:Addr}(hp:H p=none):∀{d:ad} {v:V},eB S H d v->eB (p::S) H d v
 | .none,_,h=>h
 | .bool _,_,h=>h
 | .int _,_,h=>h
 | .str _,_,h=>h
 | .tuple ds,_,h=>by
  unfold eB at h ⊢;obtain⟨a,xs,e,ha,hr⟩:=h;exact⟨a,xs,e,ha,dP.more hp hr⟩
 | .list ds,_,h=>by
  unfold eB at h ⊢;obtain⟨a,xs,e,ha,hs,hr⟩:=h;refine⟨a,xs,e,ha,λz=>?_,dP.more hp hr⟩;rcases au.mp z with z | z
  .rw[z,hp] at ha;cases ha
  .exact hs z
 | .dict l,_,h=>by
  unfold eB at h ⊢;obtain⟨a,t,kvs,xs,e,el,ha,hs,hk,hr⟩:=h;refine⟨a,t,kvs,xs,e,el,ha,λz=>?_,hk,f'.more hp hr⟩;rcases au.mp z with z | z
  .rw[z,hp] at ha;cases ha
  .exact hs z
theorem dP.more {S:List Addr}{H:Hp}{p:Addr}(hp:H p=none):∀{ds:List ad} {vs:List V},dP S H ds vs->dP (p::S) H ds vs
 | [],_,h=>h
 | d::ds,_,h=>by
  unfold dP at h ⊢;obtain⟨y,r,e,h1,h2⟩:=h;exact⟨y,r,e,eB.more hp h1,dP.more hp h2⟩
theorem f'.more {S:List Addr}{H:Hp}{p:Addr}(hp:H p=none):∀{l:List (ad × ad)} {vs:List V},f' S H l vs->f' (p::S) H l vs
 | [],_,h=>h
 | (_,d)::l,_,h=>by
  unfold f' zH at h ⊢;obtain⟨y,r,e,h1,h2⟩:=h;exact⟨y,r,e,eB.more hp h1,f'.more hp h2⟩
end
end L2
namespace L2
open PySem PySem.Spec PyProof.Rows
structure ExcAt (h:Heap) (x:Addr) (cls:ae) (od tb:Option Addr):Prop where
 obj:∃oe vs,h.get? x=some oe/\oe.cls=cls/\oe.dict=od/\oe.data=.fields vs/\vs[1]? = some (tb.elim ae.none ae.ref)
 hd:∀T,tb=some T->T≠x/\∃oT ts,h.get? T=some oT/\oT.data=.fields ts/\ts[3]? = some .none
structure xH (fs:List Addr) (x:Addr) (tb:Option Addr) (h h':Heap):Prop where
 keep:∀b o,h.get? b=some o->b≠x->tb≠some b->b ∉ fs->h'.get? b=some o
 slot:∀b o,h.get? b=some o->b∈fs->∃sl,h'.get? b=some { o with slots:=sl }
 there:∀b o,h.get? b=some o->∃o',h'.get? b=some o'
section
variable {M:Model}{A:Around}{E:ae->aq->Prop}{s:aq}
theorem ph {h base:Heap}{l:List Env}(hl:h.FunFrames base l){b:Addr}{o:Obj}{vs:Array ae}(ho:h.get? b=some o)(hd:o.data=.fields vs):b ∉ mS l:=λhm=>by
 obtain⟨_,o',HG,hn⟩:=hl.mem hm;rw[ho] at HG;cases HG;exact hn vs hd
theorem oj {base:Heap}{env:Env}{outer:List Env}{L x:Addr}{oe:Obj}{vs:Array ae}{head:ae}{QL:Bool}{Q:Unit->aq->Prop}
  (DR:A.frames=some (env::outer)) (hl:s.heap.FunFrames base (env::outer)) (hf:env.frame=some L) (he:s.heap.get? x=some oe) (hd:oe.data=.fields vs) (hsz:1<vs.size)
  (h:∀h' T,s.heap.objs.size<=T->xH (mS (env::outer)) x none s.heap h'->ExcAt h' x oe.cls oe.dict (some T)->Q () { s with heap:=h' }) :
  ay M A (do setField (.ref x) 1 (<- EntryCells.newEntry head (<- frameOf env) .none (rawInt L) .none (<- entryPlaceOf L QL))) (λ_ s'=>ay M A (setFlight (.ref x) none) Q E s') E s:=by
 have Wa:x ∉ mS (env::outer):=ph hl he hd;refine aa (wpAny_frameOf_fun DR hl hf λg hg=>aa (wpAny_entryPlaceOf λpl mL=>?_));unfold EntryCells.newEntry newFields;refine aa (bh ?_ (mL.sizeOk5 _ _ _ _ _));have Nm:g.get? x=some oe:=(hg.2.1 x Wa).trans he;generalize xk:([head,ae.ref L,.none,rawInt L,.none]++(if pl.isEmpty then List.replicate 6 ae.none else pl)).toArray=K1
 have h3:3<K1.size:=by
  rw[<- xk];simp only[aD,aG,ap];omega
 have DS:=ah (h:=g) { cls:=.type "traceback",dict:=none,data:=.fields K1 } Nm;have Uo:(g.push { cls:=.type "traceback",dict:=none,data:=.fields K1 }).get? g.objs.size=some { cls:=.type "traceback",dict:=none,data:=.fields K1 }:=aH g rfl;have K2:g.objs.size≠x:=cf (aA Nm);refine wpAny_setField DS hd hsz ?_;have OM:=Obj.data_mapFields hd (·.setIfInBounds 1 (ae.ref g.objs.size));have Sv:=aS (Obj.mapFields (·.setIfInBounds 1 (ae.ref g.objs.size))) DS (Obj.isFreed_of_fields OM);have Up:=(aI (g.push { cls:=.type "traceback",dict:=none,data:=.fields K1 }) (Obj.mapFields (·.setIfInBounds 1 (ae.ref g.objs.size))) K2.symm).trans Uo;have Sw:∀b,b≠x->((g.push { cls:=.type "traceback",dict:=none,data:=.fields K1 }).update x (Obj.mapFields (·.setIfInBounds 1 (ae.ref g.objs.size)))).get? b=(g.push { cls:=.type "traceback",dict:=none,data:=.fields K1 }).get? b:=λb hb=>aI _ _ (Ne.symm hb);have v1:(vs.setIfInBounds 1 (ae.ref g.objs.size))[1]? = some (ae.ref g.objs.size):=by simp[hsz]
 have QM:(Obj.mapFields (·.setIfInBounds 1 (ae.ref g.objs.size)) oe).dict=oe.dict:=by
  unfold Obj.mapFields;split<;>rfl
 generalize (g.push { cls:=.type "traceback",dict:=none,data:=.fields K1 }).update x (Obj.mapFields (·.setIfInBounds 1 (ae.ref g.objs.size)))=g3 at Sv Up Sw ⊢;unfold setFlight;refine aa (wpAny_field Sv OM (x:=.ref g.objs.size) v1 ?_);rw[if_pos (show (ae.ref g.objs.size != ae.none)=true by simp)];refine wpAny_setField Up rfl h3 ?_
 have pW:s.heap.get? g.objs.size=none:=by
  rw[hg.1];exact Heap.get?_none_of_le (am _)
 refine h _ g.objs.size (dA hg.1.symm) ⟨λb o hb HR _ HS=>?_,λb o hb HS=>?_,λb o hb=>?_⟩ ⟨⟨_,_,(aI _ _ K2).trans Sv,Obj.cls_mapFields _ _,QM,OM,v1⟩,λT eT=>?_⟩
 .have HU:g.objs.size≠b:=λz=>by rw[<- z,pW] at hb;cases hb
  have:g.get? b=some o:=(hg.2.1 b HS).trans hb;exact (aI _ _ HU).trans ((Sw b HR).trans (ah _ this))
 .have HU:g.objs.size≠b:=λz=>by rw[<- z,pW] at hb;cases hb
  have HR:b≠x:=λz=>Wa (z ▸ HS);obtain⟨sl,e⟩:=hg.2.2 b o hb;exact⟨sl,(aI _ _ HU).trans ((Sw b HR).trans (ah _ e))⟩
 .have HU:g.objs.size≠b:=λz=>by rw[<- z,pW] at hb;cases hb
  obtain⟨sl,e⟩:=hg.2.2 b o hb;by_cases HR:b=x
  .exact⟨_,(aI _ _ HU).trans (HR ▸ Sv)⟩
  .exact⟨_,(aI _ _ HU).trans ((Sw b HR).trans (ah _ e))⟩
 .cases eT
  exact⟨K2,_,_,aS _ Up (Obj.isFreed_of_fields (Obj.data_mapFields rfl _)),Obj.data_mapFields rfl _,by simp[h3]⟩
theorem pX {base:Heap}{env:Env}{outer:List Env}{L x:Addr}{cls:ae}{od tb:Option Addr}{Q:Unit->aq->Prop}
  (DR:A.frames=some (env::outer)) (hl:s.heap.FunFrames base (env::outer)) (hf:env.frame=some L) (e:ExcAt s.heap x cls od tb)
  (h:∀h' T,s.heap.objs.size<=T->xH (mS (env::outer)) x tb s.heap h'->ExcAt h' x cls od (some T)->Q () { s with heap:=h' }) :
  ay M A (noteFrame (.ref x) env) (λ_ s'=>ay M A (setFlight (.ref x) none) Q E s') E s:=by
 obtain⟨⟨oe,vs,he,rfl,rfl,hd,h1⟩,ht⟩:=e;have hsz:1<vs.size:=(dg.mp h1).1;unfold noteFrame;simp only[hf];refine aa (wpAny_field he hd h1 ?_)
 cases tb with
 | none =>
  rw[if_neg (show ¬ ((none:Option Addr).elim ae.none ae.ref != ae.none)=true by decide)];exact oj DR hl hf he hd hsz h
 | some T =>
  obtain⟨K2,oT,ts,hT,HV,h3⟩:=ht T rfl;have Sx:3<ts.size:=(dg.mp h3).1;rw[if_pos (show ((some T:Option Addr).elim ae.none ae.ref != ae.none)=true by simp)];refine aa (wpAny_field hT HV h3 ?_);rw[if_neg (show ¬ (ae.none == rawInt L)=true by simp[rawInt])];refine aa (wpAny_setField hT HV Sx ?_);have ot:∀b,b≠T->(s.heap.update T (Obj.mapFields (·.setIfInBounds 3 ae.none))).get? b=s.heap.get? b:=λb hb=>aI _ _ (Ne.symm hb);have QN:=aS (Obj.mapFields (·.setIfInBounds 3 ae.none)) hT (Obj.isFreed_of_fields (Obj.data_mapFields HV _));have Uq:T ∉ mS (env::outer):=ph hl hT HV;have K3:(s.heap.update T (Obj.mapFields (·.setIfInBounds 3 ae.none))).objs.size=s.heap.objs.size:=Heap.size_after_update ..;generalize hg:s.heap.update T (Obj.mapFields (·.setIfInBounds 3 ae.none))=g at ot QN K3 ⊢;have Nh:g.FunFrames base (env::outer):=hl.of_keeps λb o hb hn=>⟨o,(ot b λz=>by rw[z,hT] at hb;cases hb;exact hn ts HV).trans hb,rfl⟩;refine oj (s:={ s with heap:=g }) DR Nh hf ((ot x K2.symm).trans he) hd hsz λh' T' hn nt ea=>h h' T' (K3 ▸ hn) ⟨λb o hb HR HU HS=>?_,λb o hb HS=>?_,λb o hb=>?_⟩ ea
  .have:b≠T:=λz=>HU (by rw[z])
   exact nt.keep b o ((ot b this).trans hb) HR (!4) HS
  .have:b≠T:=λz=>Uq (z ▸ HS)
   exact nt.slot b o ((ot b this).trans hb) HS
  .by_cases z:b=T
   .subst z
    exact nt.there b _ QN
   .exact nt.there b o ((ot b z).trans hb)
end
noncomputable def j5 (x:Addr)(cls:ae)(od:Option Addr):Heap->Prop:=λh=>∃oe vs,h.get? x=some oe/\oe.cls=cls/\oe.dict=od/\oe.data=.fields vs
theorem ExcAt.Ur (e:ExcAt h x cls od tb):j5 x cls od h:=let ⟨oe,vs,a,b,c,d,_⟩:=e.obj;⟨oe,vs,a,b,c,d⟩
theorem Ca (r:j5 x cls od h):fu P w H h x (.ext (j5 x cls od)):=by
 refine⟨r,let ⟨oe,_,e,_⟩:=r;⟨oe,e⟩,λh1 h2 ⟨oe,vs,e,r⟩ k=>⟨oe,vs,k _ e,r⟩⟩
noncomputable def K4 (P:aO)(w:World):EJ:=λouter H s E e s'=>∃(x:Addr) (cls:ae) (od:Option Addr) (T:Addr) (H':Hp),e=.ref x/\s'.os=s.os/\AllBare s'.gens/\Un (mS outer) [] H H' s.heap s'.heap/\jT P w H' s'.heap /\
 H' x=some (.ext (j5 x cls od))/\H' T=none/\s.heap.objs.size<=x/\s.heap.objs.size<=T/\ExcAt s'.heap x cls od (some T)/\E cls od H'
noncomputable def XP (X:Cx)(pins:List (Addr × Obj))(σ:St)(E:XK)(e:ae)(s':aq):Prop:=∃(x:Addr) (cls:ae) (od tb:Option Addr) (H':Hp),e=.ref x/\Inv X pins σ H' s'/\H' x=some (.ext (j5 x cls od))/\X.s₀.heap.objs.size<=x/\(∀p∈X.pn++pins,p.1≠x) /\
 (∀T,tb=some T->H' T=none/\X.s₀.heap.objs.size<=T/\∀p∈X.pn++pins,p.1≠T)/\ExcAt s'.heap x cls od tb/\E cls od H'
noncomputable def lH (X:Cx)(E:XK):Prop:=∀(pins:List (Addr × Obj)) (σ:St) (e:ae) (s':aq),XP X pins σ E e s'->X.xe e s'
section
theorem K5 (I:Inv X pins σ H s)(h:K4 X.prog X.w X.stack H s E e s'):XP X pins σ E e s':=by
 obtain⟨x,cls,od,T,H',rfl,os,bare,un,hok,nx,nT,sx,sT,ea,q⟩:=h;have sz:=I.sz;have lt:∀p∈X.pn++pins,p.1<s.heap.objs.size:=λp hp=>aA (I.pin p hp).1;refine⟨x,cls,od,some T,H',rfl,I.Kk os un hok bare (λb z=>absurd z (!4)),nx,aU sz sx,λp hp z=>absurd (z ▸ lt p hp) (dC.mpr sx),λT' eT=>?_,ea,q⟩;cases eT;exact⟨nT,aU sz sT,λp hp z=>absurd (z ▸ lt p hp) (dC.mpr sT)⟩
theorem Jj (hf:env.frame=some L)(h:b∈mS (env::outer)):b=L\/b∈mS outer:=by
 unfold mS at *;rw[bW,hf] at h;exact au.mp h
theorem Jk (h:b∈mS outer):b∈mS (env::outer):=by
 unfold mS at *;rw[bW];split
 .exact h
 .exact ao _ h
theorem jT.xI {P:aO}{w:World}{h h':Heap}{fs:List Addr}{x:Addr}{cls:ae}{od tb:Option Addr}(ok:jT P w H h)(nt:xH fs x tb h h')(nx:H x=some (.ext (j5 x cls od)))(fl:j5 x cls od h')(nT:∀T,tb=some T->H T=none)(nf:∀b∈fs,H b=none):jT P w H h':=λa o e=>by
 have key:∀b (u:HO),b≠x->H b=some u->∀v,h.get? b=some v->h'.get? b=some v:=λb u HR hb v hv =>
  nt.keep b v hv HR (λz=>by rw[nT b z] at hb;cases hb) λz=>by rw[nf b z] at hb;cases hb
 by_cases Wb:a=x
 .subst Wb
  rw[nx] at e;cases e;exact Ca fl
 .refine (ok a o e).w4 (λb v hb q=>?_) (λb q=>q) λb xs q=>q
  rcases hb with rfl | hb
  .exact key b o Wb e v q
  .exact key b _ (λz=>by rw[z,nx] at hb;cases hb) hb v q
end
theorem DT {P:aO}{w:World}{K:W.Frag}{mg:Str->Option ae}{base:Heap}{N:List Str}{fj:Str}{scope:Scope}{f:Addr}{cd:ae}{A:Around}{outer:List Env}{s:aq}{H:Hp}{E:XK} :
  lH (ky (K4 P w) P w K mg base N fj scope f cd A outer s H E) E:=by
 rintro pins σ e s' ⟨x,cls,od,tb,H',rfl,I,nx,sx,px,hT,ea,q⟩;have frames:=I.ok.frames;have stack:=I.stack;have free:=I.qw;show ay _ _ (leaving _ _) _ _ _;unfold leaving;have bs:Un (mS outer) [] H H' s.heap s'.heap:=I.base;have above:s.heap.objs.size<=s.heap.objs.size:=am _;refine aa (pX frames stack rfl ea λh' T' hn nt Wc=>⟨x,cls,od,T',H',rfl,I.os,I.bare,?_,I.hok.xI nt nx Wc.Ur (λT e=>(hT T e).1) free,nx,?_,sx,?_,Wc,q⟩)
 .have out:∀b (o:Obj),s.heap.get? b=some o->b≠x/\tb≠some b/\b≠s.heap.objs.size:=λb o hb=>by
   have lt:=aA hb;exact⟨λz=>absurd (z ▸ lt) (dC.mpr sx),λz=>absurd lt (dC.mpr (hT b z).2.1),λz=>absurd (z ▸ lt) (bt _)⟩
  refine⟨λb o hb n hf hx=>?_,λb o hb n hf hx=>?_,bs.free,λb o hb hx=>?_,bs.tu,bs.qT,bs.tw⟩
  .obtain⟨o1,o2,o3⟩:=out b o hb
   exact nt.keep b o (bs.keep b o hb n hf hx) o1 o2 λz=>(Jj rfl z).elim o3 hf
  .obtain⟨sl,e1⟩:=bs.slot b o hb n hf hx
   obtain⟨Tc,e2⟩:=nt.slot b _ e1 (Jk hf);exact⟨Tc,e2⟩
  .obtain⟨o',e1⟩:=bs.there b o hb hx
   exact nt.there b o' e1
 .exact I.hok.fresh hn
 .exact aU I.sz hn
section
variable {P:aO}{w:World}{K:W.Frag}{mg:Str->Option ae}{base:Heap}
theorem uq.XJ {x fj:Str}{st:Stmt}{f:Addr}{fd:bF}{N ps:List Str}{k:Nat}{sp:Sp}(F:uq K x fj st f fd)(S:eZ N ps (dJ st))(len:∀vs H Q E,sp vs H Q E->vs.length=ps.length)
  (rg:∀(fq:ae) (A:Around) (outer:List Env) (s:aq) (H:Hp) (vs:List V) (Q:VK) (E:XK),fm k (A.deeper (envOfC fj (dJ st) s.heap.objs.size f fq))->sp vs H Q E ->
   ∃t,uz (ky (K4 P w) P w K mg base N fj (dJ st) f fq A outer s H E) (fy st) t/\t { nx:=λ_ H'=>Q .gB H',rt:=Q } (start N vs) H):iP P w K mg base (K4 P w) (k+1) f fd ps sp:=by
 obtain⟨oc,od,kV,rf,pm,an,fq,ct,zw,rfl,lk,gP⟩:=F.ex;refine Ku lk gP S len λA outer s H vs Q E hr zx=>?_;obtain⟨t,h,q⟩:=rg fq A outer s H vs Q E hr zx;exact⟨t,h.run,q⟩
structure qm (P:aO) (w:World) (K:W.Frag) (mg:Str->Option ae) (base:Heap) (k:Nat) (x:Str) (ps:List Str) (sp:Sp):Prop where
 ex:∃(f:Addr) (fd:bF),iP P w K mg base (K4 P w) k f fd ps sp/\mg x=some (.ref f)/\W.keepIn K (.ref f)=true/\Binds K fd ps []
end
noncomputable def vU (sp:Sp)(E:XK)(t:TA):TE:=λσ H Q=>t σ H λvs H1=>sp vs H1 Q E
theorem DU (sp:Sp)(E:XK)(t:TA):xg sp [] E t=vU sp E t:=by
 funext σ H Q;unfold xg vU;simp only[bn]
section
theorem F6 (E:XK)(D:qm X.prog X.w X.K X.mg X.base k x ps sp)(hr:fm k X.A)(hl:lH X E)(ha:QA X (e::es) t)(hg:Gl X x:=by rfl)(jj:(x == ("__debug__" : Str))=false:=by decide) :
  QE X (.Call (.Name x p) (e::es) [] pos) (vU sp E t):=by
 obtain⟨f,fd,F,hm,hk,hb⟩:=D.ex;rw[<- DU];exact⟨BK F hr hg hm hk hb .nil (λpins σ H s e s' I h=>hl pins σ e s' (K5 I h)) ha.run jj (eV (iU ha.ns).1) (gI (iU ha.ns).2)⟩
end
structure vV (K:W.Frag) (C:Addr):Prop where
 ga:W.findIn K (.ref C) "__getattribute__" = some (some (.builtin "BaseException.__getattribute__"))
 gh:W.findIn K (.ref C) "__getattr__" = some none
 sa:W.findIn K (.ref C) "__setattr__" = some (some (.builtin "object.__setattr__"))
 hd:W.hasDictIn K C=true
 Us:W.mroIn K C (.type "BaseException")=some true
 iso:W.mroIn K C (.type "object")=some true
section
variable {prog:aO}{w:World}{A:Around}{E:ae->aq->Prop}{K:W.Frag}{x C dx:Addr}{o:Obj}{mA:Str->Option ae}{name:Str}{v:ae}
theorem F7:builtinKind "BaseException.__getattribute__" = some .slot:=by decide +kernel
theorem Cb:splitId "BaseException.__getattribute__" = some ("BaseException", "__getattribute__"):=by decide +kernel
theorem xK (X:K.In s.heap)(c:vV K C)(I:W.InstAt s.heap x o C (some od))(na:W.findIn K (.ref C) name=some none)(hv:W.lookIn name od=some (some v))
  (q:R (.ok (.ret v)) s):codeAny (model prog w) A (.call (.builtin "BaseException.__getattribute__") ⟨[.ref x,.str name tk],[]⟩) R s:=by
 have L4:=W.looks_mroIn (M:=model prog w) X c.Us;have L5:=W.looks_find (M:=model prog w) X I (W.findObj_own (attr:=none) c.hd na rfl hv);have L0:=I.type (M:=model prog w);refine codeAny_call_builtin PySem.F.excAttr_ValueError.ga.plain PySem.F.entry_bexc_ga ?_;refine @W.check_slot (model prog w) _ _ s "BaseException.__getattribute__" "BaseException" "__getattribute__" (.ref x) [.str name tk] [] _ F7 Cb (L0.andThen L4) (PySem.F.args_bexc_ga _ _) ?_;show ay _ _ (Builtin.«object.__getattribute__» ⟨[.ref x,.str name tk],[]⟩) _ _ _;unfold Builtin.«object.__getattribute__»;refine aa (ai ?_);exact aa (ai (aa (L0.here (aa (L5.here (ai q))))))
theorem Nn (X:K.In s.heap)(c:vV K C)(I:W.InstAt s.heap x o C (some od))(na:W.findIn K (.ref C) name=some none)(hv:W.lookIn name od=some (some v))(hh:handedOut v=pure v)
  (q:Q v { s with toks:=s.toks+1 }):ay (model prog w) A (getAttr (.ref x) name expr) Q E s:=by
 obtain⟨h,g,d,t,os⟩:=s;have L0:=I.type (M:=model prog w);have L1:=W.looks_findIn (M:=model prog w) X c.ga;have L2:=W.looks_findIn (M:=model prog w) X c.gh;have f3:=PySem.F.excAttr_ValueError.ga.bind (.ref x);have XM:(expr && onTheHeap (ae.builtin "BaseException.__getattribute__"))=false:=by cases expr<;>rfl
 have DS:(ae.builtin "BaseException.__getattribute__" == ae.builtin "object.__getattribute__")=false:=by decide +kernel
 have Nm:(onTheHeap (ae.ref C) && ae.builtin "BaseException.__getattribute__" == ae.builtin "object.__getattribute__")=false:=by rw[DS];rfl
 unfold getAttr getAttrBy;repeat (first | assumption | with_reducible refine L0.at ?_ | with_reducible refine L1.at ?_ | with_reducible refine L2.at ?_ | wp_step)
 refine xK (s:=⟨h,g,d,t+1,os⟩) X c I na hv ?_;show ay _ _ (handedOut v) _ _ _;rw[hh];exact ai q
noncomputable def lI:List ae->Bool
 | [.type a,.type b,.type c,.type d]=>a == "ValueError" && b == "Exception" && c == "BaseException" && d == "object"
 | .ref _::r=>lI r
 | _=>false
theorem uP (self:ae):∀{l:List ae},lI l=true->refuseLoop self "__setattr__" l=pure ()
 | [.type a,.type b,.type c,.type d],e=>by
  simp only[lI,bA,beq_iff_eq] at e;obtain⟨⟨⟨rfl,rfl⟩,rfl⟩,rfl⟩:=e;exact PySem.F.store_ValueError.passes self
 | .ref c::r,e=>by
  rw[refuseLoop_ref];exact uP self (by cases r<;>first | exact e | cases e)
theorem pY (X:K.In s.heap)(c:vV K C)(gP:W.clsIn K C=some cd)(Jl:lI cd.mro=true)(I:W.InstAt s.heap x o C od)(na:W.findIn K (.ref C) name=some none)
  (q:ay (model prog w) A.in1 (Builtin.ObjectAttr.storeInOwnDict (.ref x) (.ref C) (.str name tk) name v false) (λfin s'=>match fin with | .done f=>R (.ok f) s' | .again c'=>c'.quiet=true/\codeAny (model prog w) A c' R s') (λe s'=>R (.error e) s') s) :
  codeAny (model prog w) A (.call (.builtin "object.__setattr__") ⟨[.ref x,.str name tk,v],[]⟩) R s:=by
 have SF:=PySem.F.store_object;have L0:=I.type (M:=model prog w);have L3:=W.looks_findIn (M:=model prog w) X na;have L4:=W.looks_mroIn (M:=model prog w) X c.iso;have L6:W.Looks (model prog w) s.heap (mroOf (.ref C)) cd.mro:=(W.looks_clsIn X gP).andThen .now;refine codeAny_call_builtin SF.slot.plain SF.entry ?_;refine @W.check_slot (model prog w) _ _ s "object.__setattr__" "object" "__setattr__" (.ref x) [.str name tk,v] [] _ SF.kind SF.split (L0.andThen L4) (SF.args (.ref x) (.str name tk) v) ?_;show ay _ _ (Builtin.«object.__setattr__» ⟨[.ref x,.str name tk,v],[]⟩) _ _ _;rw[W.osa_eq,refuse_eq];refine aa (aa (L0.here (aa (L6.here ?_))));rw[uP _ Jl];refine ai (aa (L0.here (aa (L3.here ?_))));exact aa (ai q)
theorem z4 {s:aq}{Q:Unit->aq->Prop}{cd:ClassData}{vs:Array ae}(X:K.In s.heap)(c:vV K C)(gP:W.clsIn K C=some cd)(Jl:lI cd.mro=true)(hx:s.heap.get? x=some o)(hc:o.cls=.ref C)(hd:o.dict=none)(hf:o.data=.fields vs)(na:W.findIn K (.ref C) name=some none)
  (q:∀h' tk,h'.get? x=some { o with dict:=some s.heap.objs.size }->h'.Ns1 s.heap.objs.size (λy=>if y=name then some v else none)->(∀b u,b≠x->s.heap.get? b=some u->h'.get? b=some u)->Q () { s with heap:=h',toks:=tk }) :
  ay (model prog w) A (setAttr (.ref x) name v) Q E s:=by
 have I:W.InstAt s.heap x o C none:=⟨hx,hc,by unfold W.notCls;rw[hf],by rw[hd];trivial⟩
 have Ut:cd.hasDict=true:=by
  obtain⟨XN,e1,e2⟩:=W.any_some c.hd;rw[gP] at e1;cases e1;exact e2
 have ON:x≠s.heap.objs.size:=aN (aA hx);refine W.set_plain X I c.sa (pY (s:={ s with toks:=s.toks+1 }) X c gP Jl I na ?_);unfold Builtin.ObjectAttr.storeInOwnDict;refine aa (ai ?_);show ay _ _ (Builtin.ObjectAttr.ownDictForStores (.ref x) >>= _) _ _ _;refine aa ?_;show ay _ _ (instanceDict x true) _ _ _;unfold instanceDict;refine aa (wpAny_loadPart hx ?_);rw[hc,hd,hf];refine aa (W.Looks.here (s:={ s with toks:=s.toks+1 }) (W.looks_clsIn X gP) ?_);rw[Ut];show ay _ _ (alloc { cls:=.type "dict",data:=.dict #[] } >>= _) _ _ _;have Nm:(s.heap.push { cls:=.type "dict",data:=.dict #[] }).get? x=some o:=ah _ hx;have BE:({ o with dict:=some s.heap.objs.size }:Obj).isFreed=false:=Obj.isFreed_of_fields (vs:=vs) hf;refine aa (wpAny_alloc' ?_);refine aa (wpAny_update' Nm ?_);refine ai ?_;have Np:((s.heap.push { cls:=.type "dict",data:=.dict #[] }).update x (λo=>{ o with dict:=some s.heap.objs.size })).get? s.heap.objs.size=some { cls:=.type "dict",data:=.dict #[] }:=(de _ _ _ _ ON.symm).trans (Heap.get?_push_at rfl rfl);have DS:=aS (λo=>{ o with dict:=some s.heap.objs.size }) Nm BE;have ot:∀b u,b≠x->s.heap.get? b=some u->((s.heap.push { cls:=.type "dict",data:=.dict #[] }).update x (λo=>{ o with dict:=some s.heap.objs.size })).get? b=some u:=λb u hb hu=>(de _ _ _ _ hb).trans (ah _ hu);generalize (s.heap.push { cls:=.type "dict",data:=.dict #[] }).update x (λo=>{ o with dict:=some s.heap.objs.size })=g at Np DS ot ⊢;have Uu:g.Ns s.heap.objs.size (λ_=>none):=⟨_,#[],_,Np,rfl,λe he=>absurd he (!4),λ_=>rfl⟩;show ay _ _ (Builtin.ObjectAttr.storeInDict s.heap.objs.size (.str name s.toks) name v) _ _ _;unfold Builtin.ObjectAttr.storeInDict Builtin.ObjectAttr.newKeyGuard;refine aa (ai (aa (wpAny_nsSet1 (Heap.Ns1.of_empty Uu) λh' w5 hs=>?_)));obtain⟨oD,XO,XR,Uv,Uw,Ux⟩:=w5.count (PySem.Within.cons name v PySem.Within.nil);refine aa (wpAny_lookBehind Uv (by rw[Uw];exact pastItsLine_dict (aU Ux (by rw[ap,bg,sizeLine_eq];omega))) ?_);refine ai ?_;exact q h' _ ((hs.2 x ON).trans DS) w5 λb u hb hu=>(hs.2 b (aN (aA hu))).trans (ot b u hb hu)
theorem xM {s:aq}{Q:Unit->aq->Prop}{cd:ClassData}{vs:Array ae}{ns:List Str}(X:K.In s.heap)(c:vV K C)(gP:W.clsIn K C=some cd)(Jl:lI cd.mro=true)(hx:s.heap.get? x=some o)(hc:o.cls=.ref C)(hd:o.dict=some dx)(hf:o.data=.fields vs)(hn:s.heap.Ns1 dx mA)(na:W.findIn K (.ref C) name=some none)
  (hw:PySem.Within mA ns) (hz:ns.length<=1000) (q:∀h' tk,h'.Ns1 dx (λy=>if y=name then some v else mA y)->Heap.SameBut dx s.heap h'->Q () { s with heap:=h',toks:=tk }) :
  ay (model prog w) A (setAttr (.ref x) name v) Q E s:=by
 obtain⟨od,xN,_⟩:=o7 hn;have I:W.InstAt s.heap x o C (some od):=⟨hx,hc,by unfold W.notCls;rw[hf],by rw[hd];exact xN⟩
 have Ut:cd.hasDict=true:=by
  obtain⟨XN,e1,e2⟩:=W.any_some c.hd;rw[gP] at e1;cases e1;exact e2
 refine W.set_plain X I c.sa (pY (s:={ s with toks:=s.toks+1 }) X c gP Jl I na ?_);unfold Builtin.ObjectAttr.storeInOwnDict;refine aa (ai ?_);show ay _ _ (Builtin.ObjectAttr.ownDictForStores (.ref x) >>= _) _ _ _;refine aa ?_;show ay _ _ (instanceDict x true) _ _ _;unfold instanceDict;refine aa (wpAny_loadPart hx ?_);rw[hc,hd,hf];refine aa (W.Looks.here (s:={ s with toks:=s.toks+1 }) (W.looks_clsIn X gP) ?_);rw[Ut];refine ai (a:=some dx) ?_;show ay _ _ (Builtin.ObjectAttr.storeInDict dx (.str name s.toks) name v) _ _ _;unfold Builtin.ObjectAttr.storeInDict Builtin.ObjectAttr.newKeyGuard;refine aa (ai (aa (wpAny_nsSet1 (s:={ s with toks:=s.toks+1 }) hn λh' w5 hs=>?_)));obtain⟨oD,XO,XR,Uv,Uw,Ux⟩:=w5.count (PySem.Within.cons name v hw);refine aa (wpAny_lookBehind Uv (by rw[Uw];exact pastItsLine_dict (aU Ux (by rw[ap,sizeLine_eq];omega))) ?_);exact ai (q h' _ w5 hs)
end
noncomputable abbrev pZ:List ae:=[.type "ValueError",.type "Exception",.type "BaseException",.type "object"]
section
noncomputable abbrev om (u:Heap)(C:Addr)(us:List ae):Heap:=(u.push { cls:=.type "tuple",data:=.seq us.toArray }).push { cls:=.ref C,data:=.fields #[.ref u.objs.size,.none,.none,.none,.bool false,.none] }
theorem kE (h:u.get? b=some o):(om u C us).get? b=some o:=ah _ (ah _ h)
theorem xO:(om u C us).get? (u.objs.size+1)=some { cls:=.ref C,data:=.fields #[.ref u.objs.size,.none,.none,.none,.bool false,.none] }:=by heap_get
theorem z5 (hK:u.get? C=some (excClassObj nm qn C N bs bm rO sn sub ab F8 dd k0 k1 k2 k3 k5 "ValueError.__new__"))(tl:OwnTail u pZ bm)(LI:W.Looks (model prog w) u (typeLookup (.ref C) "__init__") (some (.ref fI)))(LF:W.Looks (model prog w) u (typeOf (.ref fI)) (.type "function"))(hl:us.length<=ax)
  (q:ay (model prog w) A (call (.ref fI) (.ref (u.objs.size+1)::us)) (λr s'=>r=.none/\Q (.done (.ret (.ref (u.objs.size+1)))) s') E ⟨om u C us,gs,dr,tk,QP⟩) :
  ay (model prog w) A (Builtin.«type.__call__» ⟨.ref C::us,[]⟩) Q E ⟨u,gs,dr,tk,QP⟩:=by
 have F:=PySem.F.excBase_ValueError;have XS:(om u C us).get? C=some (excClassObj nm qn C N bs bm rO sn sub ab F8 dd k0 k1 k2 k3 k5 "ValueError.__new__"):=kE hK;have XT:=LI.keeps (h':=om u C us) λb o hb=>kE hb;have XU:=LF.keeps (h':=om u C us) λb o hb=>kE hb;have XW:(ae.ref C::bm).contains (.ref C)=true:=by simp
 have hX:=xO (u:=u) (C:=C) (us:=us);repeat (first | (with_reducible refine wpAny_loadPart_at hK ?_) | (with_reducible refine wpAny_madeBy_exc hK ?_) | wp_step)
 refine codeAny_call_builtin_code (Code.quiet_builtin _ F.quiet) ?_;refine wpAny_check_new_subT F tl hK (codeAny_exc_new_subT F tl hK ?_ hl);show ay _ _ _ _ _ ⟨om u C us,gs,dr,tk,QP⟩;unfold isInstance;repeat (first | (with_reducible refine wpAny_loadPart_at hX ?_) | ((with_reducible refine wpAny_isSubtype_exc XS ?_);rw[XW]) | wp_step)
 show ay _ _ (typeLookup (.ref C) "__init__") _ _ _;refine XT.at (wpAny_holding (aa ?_));unfold bindSpecial;refine aa (XU.at ?_);rw[if_pos (!2)];refine ai (aa (bJ q (λr s' hr=>?_) λ_ _ z=>z));obtain⟨rfl,hQ⟩:=hr
 wp_walk
 exact hQ
theorem z6 (hK:u.get? C=some (excClassObj nm qn C N bs bm rO sn sub ab F8 dd k0 k1 k2 k3 k5 "ValueError.__new__"))(tl:OwnTail u pZ bm)(LI:W.Looks (model prog w) u (typeLookup (.ref C) "__init__") (some (.ref fI)))(LF:W.Looks (model prog w) u (typeOf (.ref fI)) (.type "function"))(hl:us.length<=ax)
  (q:ay (model prog w) (A.under (.builtin "type.__call__" ⟨.ref C::us,[]⟩)) (call (.ref fI) (.ref (u.objs.size+1)::us)) (λr s'=>r=.none/\Q (.ref (u.objs.size+1)) s') E ⟨om u C us,gs,dr,tk,QP⟩) :
  ay (model prog w) A (call (.ref C) us) Q E ⟨u,gs,dr,tk,QP⟩:=by
 have g1:=tc_lookup;have g2:=tc_bind (.ref C);have ZZ:(⟨u,gs,dr,tk,QP⟩:aq).TypeIs (.ref C) "type" := ⟨_,hK,rfl⟩;refine wpAny_call (codeAny_of_tree ?_);show ay _ _ (callAny (.ref C) _) _ _ _;repeat (any_goals (first | assumption | (with_reducible refine wpAny_loadPart_at hK ?_) | wp_step))
 refine⟨rfl,codeAny_call_builtin_at (Code.quiet_builtin _ (!3)) entry_typeCall ?_⟩;exact wpAny_check_type_call_sub hK (z5 hK tl LI LF hl q)
end
noncomputable def kF (x C:Addr)(od:Option Addr):Heap->Prop:=λh=>∃(oe:Obj) (t:Addr),h.get? x=some oe/\oe.cls=.ref C/\oe.dict=od/\oe.data=.fields #[.ref t,.none,.none,.none,.bool false,.none]
noncomputable def jl (d:Addr)(fs:List (Str × V)):Heap->Prop:=λh=>∃mA,h.Ns1 d mA/\∀g,mF (fs.lookup g) (mA g)
theorem Cc (r:kF x C od h):fu P w H h x (.ext (kF x C od)):=by
 refine⟨r,let ⟨oe,_,e,_⟩:=r;⟨oe,e⟩,λh1 h2 ⟨oe,vs,e,r⟩ k=>⟨oe,vs,k _ e,r⟩⟩
theorem xP (r:jl d fs h):fu P w H h d (.ext (jl d fs)):=by
 refine⟨r,let ⟨_,⟨o,_,_,e,_⟩,_⟩:=r;⟨o,e⟩,λh1 h2 ⟨mA,⟨o,es,ep,e,c⟩,r⟩ k=>⟨mA,⟨o,es,ep,k _ e,c⟩,r⟩⟩
theorem m6 (ok:jT P w H h)(e:H a=some (.ext φ)):φ h:=(show fu P w H h a (.ext φ) from ok a _ e).1
structure vW (K:W.Frag) (C:Addr):Prop where
 cls:vV K C
 ve:∃cd,W.clsIn K C=some cd/\lI cd.mro=true
 ty:∃o,K.lookup C=some o/\o.cls=.type "type"
section
theorem F9 (I:Inv X pins σ H s)(c:vW X.K C)(na:W.findIn X.K (.ref C) f=some none)(e:H x=some (.ext (kF x C none)))(r:RelV y v)
  (q:∀d s',H d=none->d≠x->Inv X pins σ (eR (eR H x (.ext (kF x C (some d)))) d (.ext (jl d [(f,y)]))) s'->Q () s'):ay (model X.prog X.w) X.A (setAttr (.ref x) f v) Q X.xe s:=by
 obtain⟨oe,t,hx,hc,hd,hf⟩:=m6 I.hok e;obtain⟨cd,gP,Jl⟩:=c.ve;have ON:s.heap.objs.size≠x:=cf (aA hx);have DR:H s.heap.objs.size=none:=I.hok.fresh (am _);refine z4 I.mT c.cls gP Jl hx hc hd hf na λh' tk HM w5 kp=>q s.heap.objs.size _ DR ON ?_;have raw:kF x C (some s.heap.objs.size) h':=⟨_,t,HM,hc,rfl,hf⟩
 have I1:Inv X pins σ (eR H x (.ext (kF x C (some s.heap.objs.size)))) { s with heap:=h',toks:=tk } :=
  I.write (x:=x) (e:=x) (by rw[e];trivial) (.inl rfl) (λb u hb hu=>kp b u hb hu) ⟨_,HM⟩ (Cc raw)
 obtain⟨od,es,ep,xN,rest⟩:=id w5;have sz:=I.sz;refine I1.BV (a:=s.heap.objs.size) xN ?_ (cf I.lt) (.inr sz) (λz cl hz e'=>?_) (λp hp e'=>?_) (xP ⟨_,w5,λg=>?_⟩)
 .rw[dS ON]
  exact DR
 .obtain⟨vv,ob,hb,_⟩:=I.cell z cl hz
  exact absurd (e' ▸ aA hb) (bt _)
 .exact absurd (e' ▸ aA (I.pin p hp).1) (bt _)
 .by_cases hg:g=f
  .subst hg
   simp only[bS,beq_self_eq_true,if_true];exact r
  .have hb:(g == f)=false:=by simpa using hg
   simp only[bS,hb,if_neg hg,List.lookup_nil];trivial
theorem DV (I:Inv X pins σ H s)(c:vW X.K C)(na:W.findIn X.K (.ref C) f=some none)(e:H x=some (.ext (kF x C (some dx))))(ed:H dx=some (.ext (jl dx fs)))(hl:fs.length<=900)(r:RelV y v)
  (q:∀s',Inv X pins σ (eR H dx (.ext (jl dx (Dl f y fs)))) s'->Q () s'):ay (model X.prog X.w) X.A (setAttr (.ref x) f v) Q X.xe s:=by
 obtain⟨oe,t,hx,hc,hd,hf⟩:=m6 I.hok e;obtain⟨mA,hn,rm⟩:=m6 I.hok ed;obtain⟨cd,gP,Jl⟩:=c.ve
 have hw:PySem.Within mA (fs.map (·.1)):=λg hg=>by
  cases hk:fs.lookup g with
  | none =>
   have:=rm g;rw[hk] at this
   cases hm:mA g with
   | none=>exact absurd hm hg
   | some u=>rw[hm] at this;exact this.elim
  | some z=>exact a5.mpr ⟨(g,z),PySem.mem_of_lookup hk,rfl⟩
 refine xM I.mT c.cls gP Jl hx hc hd hf hn na hw (by rw[aj];omega) λh' tk w5 sb=>q _ ?_;obtain⟨od,es,ep,xN,rest⟩:=id w5;refine I.write (x:=dx) (e:=dx) (by rw[ed];trivial) (.inl rfl) (λb u hb hu=>(sb.2 b hb).trans hu) ⟨_,xN⟩ (xP ⟨_,w5,λg=>?_⟩);rw[pS];by_cases hg:g=f
 .rw[if_pos hg,if_pos hg];exact r
 .rw[if_neg hg,if_neg hg];exact rm g
noncomputable def QQ (K:W.Frag)(C:Addr)(ta tv:TE)(f:Str):TS:=λD σ H=>tv σ H λy H1=>ta σ H1 λu H2=>∃x,u=.ref x/\vW K C/\W.findIn K (.ref C) f=some none /\
 ((H2 x=some (.ext (kF x C none))/\∀d,H2 d=none->d≠x->D.nx σ (eR (eR H2 x (.ext (kF x C (some d)))) d (.ext (jl d [(f,y)])))) \/
 ∃dx fs,H2 x=some (.ext (kF x C (some dx)))/\H2 dx=some (.ext (jl dx fs))/\fs.length<=900/\D.nx σ (eR H2 dx (.ext (jl dx (Dl f y fs)))))
theorem Jm (K:W.Frag)(C:Addr)(ha:QE X oe ta)(hv:QE X value tv)(hs:swapsWith value (some (.Attribute oe f iD)) pos.line X.env=pure false:=by rfl)(hk:X.K=K:=by rfl):QS X (.Assign [.Attribute oe f iD] value pos) (QQ K C ta tv f):=by
 subst hk;refine⟨λpins s σ H D I h=>?_⟩;refine plainObj_wpAny_Assign_Attribute (fN (hv.run pins s σ H _ I h) λu s1 ⟨y,H1,I1,ry,q⟩=>fN (ha.run pins s1 σ H1 _ I1 q) λov s2 ⟨z,H2,I2,rz,x,ez,c,na,way⟩=>?_) hs;subst ez;obtain rfl:ov=ae.ref x:=rz;rcases way with⟨e,q2⟩ | ⟨dx,fs,e,ed,hl,q2⟩
 .exact F9 I2 c na e ry λd s3 hd DW I3=>⟨σ,_,I3,q2 d hd DW⟩
 .exact DV I2 c na e ed hl ry λs3 I3=>⟨σ,_,I3,q2⟩
end
noncomputable def F' (C:Addr)(f:Str):Sp:=λvs H Q _=>∃(x:Addr) (a:V),vs=[.ref x,a]/\H x=some (.ext (kF x C none))/\∀d,H d=none->d≠x->Q .gB (eR (eR H x (.ext (kF x C (some d)))) d (.ext (jl d [(f,a)])))
structure Nq (K:W.Frag) (J:Addr):Prop where
 ex:∃c0 dd cd sl c1 d1 es n Sy,K.lookup J=some ⟨c0,dd,.cls cd,sl⟩/\K.lookup cd.ns=some ⟨c1,d1,.dict es n,Sy⟩/\StrKeys es/\nsFind es "__init__" = none
theorem Nq.tail {K:W.Frag}{J:Addr}{h:Heap}(j:Nq K J)(X:K.In h):OwnTail h pZ (.ref J::pZ):=by
 obtain⟨c0,dd,cd,sl,c1,d1,es,n,Sy,e1,e2,e3,e4⟩:=j.ex;exact .own (X _ _ e1) ⟨_,es,n,X _ _ e2,rfl,e3,λ_=>rfl⟩ e4 .base
structure OO (K:W.Frag) (C fI:Addr):Prop where
 obj:∃J nm qn N bs rO sn sub ab F8 dd k0 k1 k2 k3 k5,K.lookup C=some (excClassObj nm qn C N bs (.ref J::pZ) rO sn sub ab F8 dd k0 k1 k2 k3 k5 "ValueError.__new__")/\Nq K J
 init:W.findIn K (.ref C) "__init__" = some (some (.ref fI))
 fn:W.isFn K (.ref fI)=true
 kp:W.keepIn K (.ref C)=true
 cls:vV K C
theorem OO.ec {K:W.Frag}{C fI:Addr}(m:OO K C fI):vW K C:=by
 obtain⟨J,nm,qn,N,bs,rO,sn,sub,ab,F8,dd,k0,k1,k2,k3,k5,e,_⟩:=m.obj;refine⟨m.cls,⟨{ name:=nm,bases:=bs,mro:=.ref C::.ref J::pZ,ns:=N,qualname:=qn,hasDict:=rO,slotNames:=sn,subclasses:=sub,abstract:=ab,collection:=F8,hasDel:=false },?_,by simp[lI]⟩,_,e,rfl⟩;unfold W.clsIn;rw[e]
section
theorem Inv.QR (I:Inv X pins σ H s):Inv X pins σ (eR H (s.heap.objs.size+1) (.ext (kF (s.heap.objs.size+1) C none))) { s with heap:=om s.heap C us }:=by
 have sz:(s.heap.push { cls:=.type "tuple",data:=.seq us.toArray }).objs.size=s.heap.objs.size+1:=bV _ _;exact I.laid (a:=s.heap.objs.size+1) (t':=s.toks) (λb u q=>kE q) (b8 _) (Cc ⟨_,_,xO,rfl,rfl,rfl⟩)
theorem DX {R:Hp->Prop}{us:List ae}{vs:List V}(M:OO X.K C fI)(F:iP X.prog X.w X.K X.mg X.base rq k fI fd ps sp)(hr:fm (k+1) X.A)(hb:Binds X.K fd ps [])(I:Inv X pins σ H s)(r:ee vs us)(hl:vs.length<=100)
  (hq:sp (.ref (s.heap.objs.size+1)::vs) (eR H (s.heap.objs.size+1) (.ext (kF (s.heap.objs.size+1) C none))) (λv H2=>v=.gB/\R H2) E0) :
  ay (model X.prog X.w) X.A (call (.ref C) us) (λu s'=>u=.ref (s.heap.objs.size+1)/\∃H',Inv X pins σ H' s'/\R H') X.xe s:=by
 have I2:=Inv.QR (C:=C) (us:=us) I;have r2:ee (V.ref (s.heap.objs.size+1)::vs) (ae.ref (s.heap.objs.size+1)::us):=.cons rfl r
 have Uy:((ae.ref (s.heap.objs.size+1)::us)++[]).length=ps.length:=by
  rw[bn,<- r2.length];exact F.len _ _ _ _ hq
 obtain⟨J,nm,qn,N,bs,rO,sn,sub,ab,F8,dd,k0,k1,k2,k3,k5,e,hj⟩:=M.obj;have X0:=I.mT;have SA:us.length<=ax:=by rw[<- r.length];exact aU hl (!2)
 have QU:=hb _ (ae.ref (s.heap.objs.size+1)::us) I2.mT Uy;rw[bn] at QU;refine z6 (X0 _ _ e) (hj.tail X0) (W.looks_findIn X0 M.init) (W.looks_typeIn X0 (beq_iff_eq.mp M.fn)) SA ?_;refine wpAny_call (codeAny_mono (F.run _ X.stack _ _ ⟨ae.ref (s.heap.objs.size+1)::us,[]⟩ (ae.ref (s.heap.objs.size+1)::us) _ (λv H2=>v=.gB/\R H2) E0 (hr.make C us []) (I2.Mz.make C us []) QU r2 hq) λrr s' zg=>?_)
 cases rr with
 | error e=>exact False.elim zg
 | ok fl =>
  cases fl with
  | ret u =>
   obtain⟨v,H',I3,rv,ev,q3⟩:=I2.after zg;subst ev;exact⟨rv,rfl,_,I3,q3⟩
  | next=>exact False.elim zg
  | brk=>exact False.elim zg
  | cont=>exact False.elim zg
noncomputable def Ga (C:Addr)(sp:Sp)(E:XK)(t:TA):TS:=λ_ σ H=>t σ H λvs H1=>vs.length<=100/\∀x,H1 x=none->sp (.ref x::vs) (eR H1 x (.ext (kF x C none))) (λv H2=>v=.gB/\∃od,H2 x=some (.ext (kF x C od))/\E (.ref C) od (eR H2 x (.ext (j5 x (.ref C) od)))) E0
theorem Gb (E:XK)(M:OO X.K C fI)(F:iP X.prog X.w X.K X.mg X.base rq k fI fd ps sp)(hr:fm (k+1) X.A)(hm:X.mg x=some (.ref C))(hb:Binds X.K fd ps [])(Nr:lH X E)(hc:X.calm=true)(ha:QA X (e::es) t)(hg:Gl X x:=by rfl)(jj:(x == ("__debug__" : Str))=false:=by decide) :
  QS X (.Raise (some (.Call (.Name x p) (e::es) [] fJ)) none pos) (Ga C sp E t):=by
 refine⟨λpins s σ H D I h=>?_⟩;rw[arm_exec_Raise];show ay _ _ (standAt pos >>= λ_=>raiseStmt X.env (some (eval (.Call (.Name x p) (e::es) [] fJ) X.env >>= λv=>standAt pos >>= λ_=>pure v)) none) _ _ _;refine aa (wpAny_standAt ?_);unfold raiseStmt
 have ev:ay (model X.prog X.w) X.A (eval (.Call (.Name x p) (e::es) [] fJ) X.env) (λu s2=>∃(a:Addr) (H2:Hp) (od:Option Addr),u=.ref a/\X.s₀.heap.objs.size<=a/\(∀p∈X.pn++pins,p.1≠a)/\Inv X pins σ H2 s2/\H2 a=some (.ext (kF a C od))/\E (.ref C) od (eR H2 a (.ext (j5 a (.ref C) od)))) X.xe s:=by
  refine wpAny_Call_Name_kw (nQ I hg hm ?_ jj);refine W.callWith_K (h₀:=X.base) I.ok.mod.O8 M.kp (fN (ha.run fJ pins s σ H _ I h) λus s1 ⟨vs,H1,I1,r,hl,q⟩=>⟨I1.mT,?_⟩) (eV (iU ha.ns).1) (gI (iU ha.ns).2);refine fN (DX M F hr hb I1 r hl (q (s1.heap.objs.size+1) (I1.hok.fresh (b8 _)))) λu s2 ⟨eu,H2,I2,od,e2,q2⟩=>⟨_,H2,od,eu,aU I1.sz (b8 _),λp hp z=>?_,I2,e2,q2⟩;exact absurd (z ▸ aA (I1.pin p hp).1) (dC.mpr (b8 _))
 refine aa (aa (fN ev λu s1 ⟨a,H1,od,eu,sa,pa,I1,ex,q⟩=>aa (wpAny_standAt (ai ?_))));subst eu;obtain⟨oe,t,hx,F4,xN,QV⟩:=m6 I1.hok ex;have L:=W.looks_mroIn (M:=model X.prog X.w) I1.mT M.cls.Us;obtain⟨oC,XX,XY⟩:=M.ec.ty;have hC:=I1.mT _ _ XX;obtain⟨oc,Uz,XZ,zw⟩:=oe;dsimp only at F4 xN QV;subst F4 xN QV
 have fin:X.xe (.ref a) s1:=by
  have I2:Inv X pins σ (eR H1 a (.ext (j5 a (.ref C) Uz))) s1 :=
   I1.write (x:=a) (e:=a) (h':=s1.heap) (t':=s1.toks) (o:=.ext (j5 a (.ref C) Uz)) (by rw[ex];trivial) (.inl rfl) (λb u _ hu=>hu) ⟨_,hx⟩ (Ca ⟨_,_,hx,rfl,rfl,rfl⟩)
  exact Nr pins σ _ s1 ⟨a,.ref C,Uz,none,_,rfl,I2,dM,sa,pa,(λT e=>nomatch e),⟨⟨_,_,hx,rfl,rfl,rfl,rfl⟩,λT e=>nomatch e⟩,q⟩
 have hh:=I1.ok.hd hc;obtain⟨hp,g,d,tk,os⟩:=s1;repeat (first | (with_reducible refine wpAny_loadPart_at hx ?_) | ((with_reducible refine wpAny_loadPart_at hC ?_);rw[XY]) | (with_reducible refine L.at ?_) | wp_step)
 exact wpAny_raiseNew_none hh fin
end
structure DY (K:W.Frag) (C:Addr):Prop where
 cx:vV K C
 ha:W.findIn K (.ref C) "__class__" = some (some (.builtin "object.__class__"))
 hn:W.specialIn K (.builtin "object.__class__") "__get__" = some (some (.builtin "getset_descriptor.__get__"))
 tk:W.takesIn K (.builtin "object.__class__")=some true
section
variable {prog:aO}{w:World}{A:Around}{E:ae->aq->Prop}{K:W.Frag}{x C:Addr}{o od:Obj}{s:aq}
theorem tN {tk:Tok}{R:Result->aq->Prop}(X:K.In s.heap)(c:DY K C)(I:W.InstAt s.heap x o C (some od))(q:R (.ok (.ret (.ref C))) s) :
  codeAny (model prog w) A (.call (.builtin "BaseException.__getattribute__") ⟨[.ref x,.str "__class__" tk],[]⟩) R s:=by
 have L4:=W.looks_mroIn (M:=model prog w) X c.cx.Us;have hf:W.findObj K C (some od) "__class__" = some (.bind (.builtin "getset_descriptor.__get__") (.builtin "object.__class__")):=W.findObj_data (by obtain⟨cd,hc,_⟩:=W.any_some c.cx.hd;rw[hc];rfl) c.ha c.hn c.tk;have L5:=W.looks_find (M:=model prog w) X I hf;have L0:=I.type (M:=model prog w);refine codeAny_call_builtin PySem.F.excAttr_ValueError.ga.plain PySem.F.entry_bexc_ga ?_;refine @W.check_slot (model prog w) _ _ s "BaseException.__getattribute__" "BaseException" "__getattribute__" (.ref x) [.str "__class__" tk] [] _ F7 Cb (L0.andThen L4) (PySem.F.args_bexc_ga _ _) ?_;show ay _ _ (Builtin.«object.__getattribute__» ⟨[.ref x,.str "__class__" tk],[]⟩) _ _ _;unfold Builtin.«object.__getattribute__»;refine aa (ai (aa (ai (aa (L0.here (aa (L5.here ?_)))))));show ay _ _ (holding [.builtin "object.__class__"] (call (.builtin "getset_descriptor.__get__") [.builtin "object.__class__",.ref x,.ref C]) >>= ret) _ _ _;exact aa (wpAny_holding (wpAny_call (W.class_get (ox:=o) (od:=some od) X I c.cx.iso (ai q))))
theorem Ge {Q:Option ae->aq->Prop}(X:K.In s.heap)(c:DY K C)(I:W.InstAt s.heap x o C (some od))(q:Q (some (.ref C)) { s with toks:=s.toks+1 }):ay (model prog w) A (getAttr? (.ref x) "__class__") Q E s:=by
 obtain⟨h,g,d,t,os⟩:=s;have L0:=I.type (M:=model prog w);have L1:=W.looks_findIn (M:=model prog w) X c.cx.ga;have L2:=W.looks_findIn (M:=model prog w) X c.cx.gh;have f3:=PySem.F.excAttr_ValueError.ga.bind (.ref x);have XM:(false && onTheHeap (ae.builtin "BaseException.__getattribute__"))=false:=rfl;have DS:(ae.builtin "BaseException.__getattribute__" == ae.builtin "object.__getattribute__")=false:=by decide +kernel
 have Nm:(onTheHeap (ae.ref C) && ae.builtin "BaseException.__getattribute__" == ae.builtin "object.__getattribute__")=false:=by rw[DS];rfl
 unfold getAttr? getAttrBy? getAttrBy;repeat (first | assumption | with_reducible refine L0.at ?_ | with_reducible refine L1.at ?_ | with_reducible refine L2.at ?_ | wp_step)
 refine tN (s:=⟨h,g,d,t+1,os⟩) X c I ?_;exact W.handed_on (v:=.ref C) rfl (ai q)
theorem rP (c:DY K C):W.KitX K (.ref x) (.ref C) (λh=>∃o od,W.InstAt h x o C (some od)) where
 ty:=λ_ _ _ ⟨_,_,I⟩=>I.type
 it:=λ_ _ X _=>by
  obtain⟨cd,e,_⟩:=W.any_some c.cx.hd;unfold W.clsIn at e;split at e
  .rename_i c1 d1 X2 Sy e1
   exact λA' Q' E' s' k q=>by
    unfold isType loadHead;exact aa (wpAny_loadPart (k _ _ (X _ _ e1)) (ai q))
  .cases e
 ne:=λh tp dd its n sl X X3=>by
  obtain⟨cd,e,_⟩:=W.any_some c.cx.hd;refine Bool.eq_false_iff.mpr λq=>?_;have e1:C=tp:=ae.ref.inj (beq_iff_eq.mp q);subst e1;unfold W.clsIn at e;split at e
  .rename_i c1 d1 X2 Sy e2
   have z:=(X _ _ e2).symm.trans X3;cases z
  .cases e
 ca:=λX ⟨_,_,I⟩ k=>Ge X c I k
end
inductive Cd (K:W.Frag) (H:Hp) (C:Addr):V->Bool->Prop where
 | own {D:Addr} {b:Bool} (e:W.kitOne K (.ref C) (.ref D)=some b):Cd K H C (.ref D) b
 | ty {T:String} {b:Bool} (e:W.kitOne K (.ref C) (.type T)=some b):Cd K H C (.ty T) b
 | tup {t:Addr} {ds:List Addr} {b:Bool} (h:H t=some (.tup (ds.map V.ref))) (e:W.kitAny K (.ref C) (ds.map ae.ref)=some b):Cd K H C (.ref t) b
theorem uQ:∀{ds:List Addr} {us:List ae},ee (ds.map V.ref) us->us=ds.map ae.ref
 | [],_,.nil=>rfl
 | d::ds,_,.cons r t=>by
  have e:=uQ t;subst e;have:_=ae.ref d:=r;subst this;rfl
section
variable {X:Cx}
noncomputable def QX (K:W.Frag):List V->Hp->VK->Prop:=λxs H Q=>∃(x C dx:Addr) (fs:List (Str × V)) (y:V) (b:Bool),xs=[.ref x,y]/\H x=some (.ext (j5 x (.ref C) (some dx)))/\H dx=some (.ext (jl dx fs))/\DY K C/\Cd K H C y b/\Q (.bl b) H
theorem xQ (ok:jT P w H h)(e1:H x=some (.ext (j5 x (.ref C) (some dx))))(e2:H dx=some (.ext (jl dx fs))):∃(o od:Obj) (mA:Str->Option ae),W.InstAt h x o C (some od)/\(∀name,W.lookIn name od=some (mA name))/\∀g,mF (fs.lookup g) (mA g):=by
 obtain⟨oe,vs,hx,hc,hd,hf⟩:=m6 ok e1;obtain⟨mA,hn,rm⟩:=m6 ok e2;obtain⟨od,xN,hl⟩:=o7 hn;exact⟨oe,od,mA,⟨hx,hc,by unfold W.notCls;rw[hf],by rw[hd];exact xN⟩,hl,rm⟩
theorem pj (K:W.Frag)(hk:X.K=K:=by rfl):gj X (.builtin "isinstance") (QX K):=by
 subst hk;intro pins s σ H xs us Q I r h;obtain⟨x,C,dx,fs,y,b,rfl,e1,e2,c,a,q⟩:=h;obtain⟨o,od,mA,In,_,_⟩:=xQ I.hok e1 e2;obtain⟨u1,u2,rfl,r1,r2⟩:=r.two;obtain rfl:u1=ae.ref x:=r1;have fin:∀tk,EP X pins σ Q (.bool b) { s with toks:=tk }:=λtk=>⟨.bl b,H,I.tok tk,rfl,q⟩
 cases a with
 | own e =>
  obtain rfl:=(show u2=ae.ref _ from r2);exact W.kia_one (rP c) I.mT ⟨_,_,In⟩ e (λz=>nomatch z) fin
 | ty e =>
  obtain rfl:=(show u2=ae.type _ from r2);exact W.kia_one (rP c) I.mT ⟨_,_,In⟩ e (λz=>nomatch z) fin
 | tup h e =>
  obtain rfl:=(show u2=ae.ref _ from r2);obtain⟨_,its,rv,ob,ho,F4,n,QV,_⟩:=(show fu X.prog X.w H s.heap _ (.tup _) from I.hok _ _ h);have:=uQ rv;subst this;obtain⟨oc,Z0,XZ,zw⟩:=ob;dsimp only at F4 QV;subst F4 QV;exact W.kia_tup (rP c) I.mT ⟨_,_,In⟩ ho e (λz=>nomatch z) fin
noncomputable def QY (K:W.Frag)(ta:TE)(f:Str):TE:=λσ H Q=>ta σ H λu H1=>∃(x C dx:Addr) (fs:List (Str × V)) (v:V),u=.ref x/\H1 x=some (.ext (j5 x (.ref C) (some dx)))/\H1 dx=some (.ext (jl dx fs))/\vV K C/\W.findIn K (.ref C) f=some none/\fs.lookup f=some v/\Q v H1
theorem Jn (K:W.Frag)(he:QE X e ta)(hb:attributeBase e f X.env (eval e X.env)=eval e X.env:=by rfl)(hk:X.K=K:=by rfl):QE X (.Attribute e f pos) (QY K ta f):=by
 subst hk;refine⟨λpins s σ H Q I h=>IA hb (fN (he.run pins s σ H _ I h) λu s1 ⟨z,H1,I1,rz,x,C,dx,fs,v,ez,e1,e2,c,na,l,q⟩=>?_)⟩;subst ez;obtain rfl:u=ae.ref x:=rz;obtain⟨o,od,mA,In,hl,rm⟩:=xQ I1.hok e1 e2;obtain⟨u',hu,ru⟩:=mF.some_of (v:=v) (o:=mA f) (by rw[<- l];exact rm f);exact Nn I1.mT c In na (by rw[hl,hu]) (W.handedOut_of (Dm ru)) ⟨v,H1,I1.tok _,ru,q⟩
end
structure Wd (X:Cx) (e:Expr) (t:XK->TE):Prop where
 run:∀(E:XK) (pins:List (Addr × Obj)) (s:aq) (σ:St) (H:Hp) (Q:VK),Inv X pins σ H s->t E σ H Q->ay (model X.prog X.w) X.A (eval e X.env) (EP X pins σ Q) (XP X pins σ E) s
section
theorem Jo (F:iP X.prog X.w X.K X.mg X.base (K4 X.prog X.w) k f fd ps sp)(hr:fm k X.A)(hb:Binds X.K fd ps [])(I:Inv X pins σ H s)(r:ee vs us)(h:sp vs H Q E) :
  ay (model X.prog X.w) X.A (call (.ref f) us) (EP X pins σ Q) (XP X pins σ E) s:=by
 have hl:(us++[]).length=ps.length:=by rw[bn,<- r.length];exact F.len _ _ _ _ h
 have QU:=hb s us I.mT hl;rw[bn] at QU;refine wpAny_call (codeAny_mono (F.run X.A X.stack s H ⟨us,[]⟩ us vs Q E hr I.Mz QU r h) λrr s' hq=>?_)
 cases rr with
 | error e=>exact K5 I hq
 | ok fl =>
  cases fl with
  | ret u=>exact I.after hq
  | next=>exact False.elim hq
  | brk=>exact False.elim hq
  | cont=>exact False.elim hq
theorem Jp (D:qm X.prog X.w X.K X.mg X.base k x ps sp)(hr:fm k X.A)(ha:∀Ex,QA (X.o5 Ex) (e::es) t)(hg:Gl X x:=by rfl)(jj:(x == ("__debug__" : Str))=false:=by decide) :
  Wd X (.Call (.Name x p) (e::es) [] pos) (λE=>vU sp E t):=by
 obtain⟨f,fd,F,hm,hk,hb⟩:=D.ex;refine⟨λE pins s σ H Q I h=>wpAny_Call_Name_kw (nQ I hg hm ?_ jj)⟩;have hA:=ha (XP X pins σ E);refine W.callWith_K (h₀:=X.base) I.ok.mod.O8 hk (fN (hA.run pos pins s σ H _ (I.o5 _) h) λus s1 ⟨vs,H1,I1,r,q⟩=>⟨I1.jL.mT,?_⟩) (eV (iU hA.ns).1) (gI (iU hA.ns).2);exact Jo F hr hb I1.jL r q
theorem Ce {x:Addr}{cls:ae}{od:Option Addr}(I:Inv X pins σ H s)(f:j5 x cls od s.heap):x≠X.env.locals/\∀y c,X.env.cells.lookup y=some c->c≠x:=by
 obtain⟨oe,vs,hx,_,_,hd⟩:=f;refine⟨λz=>?_,λy c hc z=>?_⟩
 .obtain⟨m,⟨o,es,ep,ho,LN,_⟩,_⟩:=I.loc
  rw[<- z,hx] at ho;cases ho;rw[hd] at LN;cases LN
 .obtain⟨v,o,ho,LN⟩:=I.cell y c hc
  rw[z,hx] at ho;cases ho;rw[hd] at LN;cases LN
theorem Inv.xI (I:Inv X pins σ H s)(nt:xH (mS X.stack) x tb s.heap h')(ex:H x=some (.ext (j5 x cls od)))(fl:j5 x cls od h')(sx:X.s₀.heap.objs.size<=x)(px:∀p∈X.pn++pins,p.1≠x)
  (hT:∀T,tb=some T->H T=none/\X.s₀.heap.objs.size<=T/\∀p∈X.pn++pins,p.1≠T) (tT:∀T,tb=some T->∃oT ts,s.heap.get? T=some oT/\oT.data=.fields ts):Inv X pins σ H { s with heap:=h' }:=by
 have fx:=Ce I (m6 I.hok ex);refine I.call (g':=s.gens) (t':=s.toks) (d':=s.drawn) (ch:=x::tb.toList) ⟨λb o hb n hf hc=>?_,λb o hb n hf hc=>nt.slot b o hb hf,λb o hb n _=>n,λb o hb _=>nt.there b o hb,λ_ _ e=>e,λ_ _ _ e=>e,λb ps e=>⟨#[],by rw[e];simp⟩⟩ (I.hok.xI nt ex fl (λT e=>(hT T e).1) I.qw) I.bare λb hb=>?_
 .refine nt.keep b o hb (λz=>hc (by rw[z];exact ar ..)) (λz=>hc (ao _ (by rw[z];simp))) hf
 .rcases au.mp hb with rfl | hb
  .exact⟨.inr sx,fx.1,fx.2,px⟩
  .have e:tb=some b:=by
    cases tb with
    | none=>cases hb
    | some T=>simp at hb;rw[hb]
   obtain⟨oT,ts,h1,h2⟩:=tT b e;have fT:=Ce (x:=b) (cls:=oT.cls) (od:=oT.dict) I ⟨oT,ts,h1,rfl,rfl,h2⟩;exact⟨.inr (hT b e).2.1,fT.1,fT.2,(hT b e).2.2⟩
theorem Inv.gone {h':Heap}{tk:Nat}{j:Nat}{n:Str}{m:Str->Option ae}{v:Option ae}(I:Inv X pins σ H s)(hN:X.N.Nodup)(hj:X.N[j]? = some n)(hl:∀(i:Nat) (x:Str) (w:V),X.N[i]? = some x->σ[i]? = some (some w)->s9 X.env.scope x->∃u,RelV w u/\Look X.env s.heap m x u)
  (w5:h'.Ns X.env.locals (λy=>if y=n then v else m y)) (hs:Heap.SameBut X.env.locals s.heap h'):Inv X pins (σ.set j none) H { s with heap:=h',toks:=tk }:=by
 have EU:=I.EU;have up:=I.ok.above;have old:∀b (o:Obj),X.s₀.heap.get? b=some o->b≠X.env.locals:=λb o e=>aN (aL (aA e) up);refine⟨I.ok,I.os,I.bare,⟨λb o e n' hb hx=>?_,λb o e n' hb hx=>?_,I.base.free,λb o e hx=>?_,I.base.tu,I.base.qT,I.base.tw⟩,⟨_,w5,λi y w e1 e2 e3=>?_⟩,λy c e=>?_,I.free,I.freeC,λp hp=>?_,λb ob e=>?_,by simpa using I.len⟩
 .exact (hs.2 b (old b o e)).trans (I.base.keep b o e n' hb hx)
 .obtain⟨sl,e1⟩:=I.base.slot b o e n' hb hx
  exact⟨sl,(hs.2 b (old b o e)).trans e1⟩
 .obtain⟨o',e1⟩:=I.base.there b o e hx
  exact⟨o',(hs.2 b (old b o e)).trans e1⟩
 .have SD:i≠j:=λz=>by
   subst z;by_cases ig:i<σ.length
   .rw[ce ig] at e2
    cases e2
   .rw[bp (by rw[a7];omega)] at e2
    cases e2
  rw[aK (Ne.symm SD)] at e2;obtain⟨u,r,q⟩:=hl i y w e1 e2 e3;refine⟨u,r,?_⟩;rcases q with⟨k,e⟩ | ⟨k,c,e,ob,UB,UC⟩
  .have X4:y≠n:=λz=>SD (qV hN e1 (z ▸ hj))
   exact .inl ⟨k,by simp[X4,e]⟩
  .exact .inr ⟨k,c,e,ob,(hs.2 c (EU y c e)).trans UB,UC⟩
 .obtain⟨w,ob,UB,UC⟩:=I.cell y c e
  exact⟨w,ob,(hs.2 c (EU y c e)).trans UB,UC⟩
 .obtain⟨p1,p2,p3,p4,p5⟩:=I.pin p hp
  exact⟨(hs.2 p.1 p3).trans p1,p2,p3,p4,p5⟩
 .have free:=I.free
  refine (I.hok b ob e).w4 (λc w' hc q=>(hs.2 c λz=>?_).trans q) (λ_ q=>q) λ_ _ q=>q;rcases hc with rfl | hc
  .rw[z,free] at e;cases e
  .rw[z,free] at hc;cases hc
end
noncomputable def rQ (X:Cx)(x:Addr):Cx:={ X with A:=X.A.mark (some (.ref x)),calm:=false,xe:=λ_ _=>False }
theorem Inv.rQ (I:Inv X pins σ H s)(x:Addr):Inv (rQ X x) pins σ H s :=
 ⟨⟨I.ok.mod,I.ok.kind,I.ok.glob,I.ok.blt,I.ok.above,I.ok.inj,I.ok.has,I.ok.OE,λz=>(by cases z),I.ok.frames,I.ok.O9,I.ok.Ta,I.ok.bs,I.ok.Ib,I.ok.Dc,I.ok.ET,I.ok.o4,I.ok.Kh⟩,I.os,I.bare,I.base,I.loc,I.cell,I.free,I.freeC,I.pin,I.hok,I.len⟩
theorem Inv.Nt (ok:X.Ok)(I:Inv (L2.rQ X x) pins σ H s):Inv X pins σ H s :=
 ⟨ok,I.os,I.bare,I.base,I.loc,I.cell,I.free,I.freeC,I.pin,I.hok,I.len⟩
theorem flight_again (hl:s.heap.FunFrames base l)(ea:ExcAt s.heap x cls od (some T))
  (h:∀h',xH (mS l) x (some T) s.heap h'->ExcAt h' x cls od (some T)->Q () { s with heap:=h' }):ay M A (setFlight (.ref x) none) Q Ex s:=by
 obtain⟨⟨oe,vs,he,hc,xN,hd,h1⟩,ht⟩:=ea;obtain⟨K2,oT,ts,hT,HV,h3⟩:=ht T rfl;have Sx:3<ts.size:=(dg.mp h3).1;unfold setFlight;refine aa (wpAny_field he hd h1 ?_);rw[if_pos (show ((some T:Option Addr).elim ae.none ae.ref != ae.none)=true by simp)];refine wpAny_setField hT HV Sx ?_;have ot:∀b,b≠T->(s.heap.update T (Obj.mapFields (·.setIfInBounds 3 ((none:Option Addr).elim ae.none λf=>rawInt f)))).get? b=s.heap.get? b:=λb hb=>aI _ _ (Ne.symm hb);have QN:=aS (Obj.mapFields (·.setIfInBounds 3 ((none:Option Addr).elim ae.none λf=>rawInt f))) hT (Obj.isFreed_of_fields (Obj.data_mapFields HV _));have Uq:T ∉ mS l:=ph hl hT HV;refine h _ ⟨λb o hb _ HU _=>?_,λb o hb HS=>?_,λb o hb=>?_⟩ ⟨⟨oe,vs,(ot x K2.symm).trans he,hc,xN,hd,h1⟩,λT' e=>?_⟩
 .exact (ot b λz=>HU (by rw[z])).trans hb
 .exact⟨o.slots,(ot b λz=>Uq (z ▸ HS)).trans hb⟩
 .by_cases z:b=T
  .subst z
   exact⟨_,QN⟩
  .exact⟨o,(ot b z).trans hb⟩
 .cases e
  exact⟨K2,_,_,QN,Obj.data_mapFields HV _,by simp[Sx]⟩
noncomputable def Ends.after (D:Ends)(j:Nat):Ends:={ nx:=λσ H=>D.nx (σ.set j none) H,rt:=D.rt,bk:=λσ H=>D.bk (σ.set j none) H,ct:=λσ H=>D.ct (σ.set j none) H }
section
variable {X:Cx}{pins:List (Addr × Obj)}{σ:St}{H:Hp}{s:aq}{D:Ends}{th:TS}{cn n:Str}{C0:Addr}{np z7:Pos}{b0:Stmt}{oo:List Stmt}{j:Nat}{e:ae}
noncomputable def rR (K:W.Frag)(C0:Addr)(j:Nat)(th:TS)(D:Ends)(σ:St):XK:=λcls od H'=>W.exmOne K cls (.ref C0)=some true/\∀x,H' x=some (.ext (j5 x cls od))->th (D.after j) (σ.set j (some (.ref x))) H'
theorem DZ (ea:ExcAt h x cls od tb):W.Looks M h (typeOf (.ref x)) cls:=by
 obtain⟨oe,vs,hx,hc,_⟩:=ea.obj;exact hc ▸ (W.Looks.ld hx).andThen .now
theorem D0 (wU:X.stack=X.env::X.outer)(DR:X.env.frame=some X.env.locals)(hm:X.mg cn=some (.ref C0))(hg:Gl X cn)(jj:(cn == ("__debug__" : Str))=false)(hN:X.N.Nodup)(hj:X.N[j]? = some n)(z8:X.env.scope.names.lookup n=some .local)(hs:∀x,uz (rQ X x) (b0::oo) th)
  (h:XP X pins σ (rR X.K C0 j th D σ) e s) :
  ay (model X.prog X.w) X.A (noteFrame e X.env) (λ_ s₂=>ay (model X.prog X.w) X.A (setFlight e none) (λ_ s₃=>ay (model X.prog X.w) X.A (handleBy e X.env [.ExceptHandler (some (.Name cn np)) (some n) (b0::oo) z7]) (SP X pins D) X.xe s₃) X.xe s₂) X.xe s:=by
 obtain⟨x,cls,od,tb,H',rfl,I,ex,sx,px,hT,ea,he,q⟩:=h;have frames:=I.ok.frames;have stack:=I.stack;rw[wU] at frames stack;refine pX frames stack DR ea λh2 T2 hsz nt SE=>?_;have I2:Inv X pins σ H' { s with heap:=h2 }:=I.xI (by rw[wU];exact nt) ex SE.Ur sx px hT λT eT=>let ⟨_,oT,ts,a,b,_⟩:=ea.hd T eT;⟨oT,ts,a,b⟩
 have Uo:∀T,some T2=some T->H' T=none/\X.s₀.heap.objs.size<=T/\∀p∈X.pn++pins,p.1≠T:=λT eT=>by
  cases eT;exact⟨I.hok.fresh hsz,aU I.sz hsz,λp hp z=>absurd (z ▸ aA (I.pin p hp).1) (dC.mpr hsz)⟩
 refine wpAny_handleBy_cons (codeAny_handlers_test ?_) (by intro z;cases z);refine nQ (X:=rQ X x) (I2.rQ x) hg hm ?_ jj;refine (W.exm_one (h:=h2) I2.mT (DZ SE) he).here ?_;show codeAny _ _ (.handlers (.ref x) [.ExceptHandler none (some n) (b0::oo) z7] X.env) _ _;refine codeAny_handlers_suite_as ?_;have Nu:=I2.stack;refine flight_again (T:=T2) Nu SE λh3 X5 X6=>?_;have I3:Inv X pins σ H' { s with heap:=h3 }:=I2.xI X5 ex X6.Ur sx px Uo λT eT=>let ⟨_,oT,ts,a,b,_⟩:=SE.hd T eT;⟨oT,ts,a,b⟩;refine qW (X:=rQ X x) (v:=.ref x) (I3.rQ x) hN hj (.inl z8) rfl (λs4 I4=>?_) (.inr z8);refine bJ ((hs x).run pins s4 (σ.set j (some (.ref x))) H' (D.after j) I4 (q x ex)) (λf s5 zx=>?_) λ_ _ z=>z.elim;have hk:(X.env.scope.kind == .class || (X.env.scope.kind == .module && X.env.locals != X.env.globals))=false:=by rw[I.ok.kind];rfl
 have go:∀{σ5:St} {H5:Hp} {R:aq->Prop},Inv (rQ X x) pins σ5 H5 s5->(∀s6,Inv X pins (σ5.set j none) H5 s6->R s6)->ay (model X.prog X.w) X.A (do bindName X.env n .none;unbindBehindTheSuite X.env n z7) (λ_ s6=>R s6) X.xe s5:=λ{σ5 H5 R} I5 k=>by
  have J:=Inv.Nt I.ok I5;obtain⟨m,hn,hl⟩:=id J.loc;exact wpAny_nameGoes_keeps z8 hn hk λh6 v w5 MX=>k _ (J.gone hN hj hl w5 MX)
 cases f with
 | next=>obtain⟨σ5,H5,I5,q5⟩:=zx;exact go I5 λs6 I6=>⟨_,H5,I6,q5⟩
 | brk=>obtain⟨σ5,H5,I5,q5⟩:=zx;exact go I5 λs6 I6=>⟨_,H5,I6,q5⟩
 | cont=>obtain⟨σ5,H5,I5,q5⟩:=zx;exact go I5 λs6 I6=>⟨_,H5,I6,q5⟩
 | ret u=>obtain⟨v,σ5,H5,I5,r5,q5⟩:=zx;exact go I5 λs6 I6=>⟨v,_,H5,I6,r5,q5⟩
end
structure mn (P:aO) (w:World) (K:W.Frag) (mg:Str->Option ae) (base:Heap) (x:Str) (C:Addr) (sp:Sp):Prop where
 ex:∃(fI:Addr) (fd:bF) (ps:List Str),OO K C fI/\iP P w K mg base rq 1 fI fd ps sp/\mg x=some (.ref C)/\Binds K fd ps []
theorem D1 (E:XK)(R:mn X.prog X.w X.K X.mg X.base x C sp)(hr:fm 2 X.A)(Nr:lH X E)(hc:X.calm=true)(ha:QA X (e::es) t)(hg:Gl X x:=by rfl)(jj:(x == ("__debug__" : Str))=false:=by decide) :
  QS X (.Raise (some (.Call (.Name x p) (e::es) [] fJ)) none pos) (Ga C sp E t):=by
 obtain⟨fI,fd,ps,M,F,hm,hb⟩:=R.ex;exact Gb E M F hr hm hb Nr hc ha hg jj
noncomputable def Jq (C:Addr)(f:Str)(a:V)(H:Hp)(E:XK):Prop:=∀d H',H' d=some (.ext (jl d [(f,a)]))->Ext [] H H'->E (.ref C) (some d) H'
theorem Nv (r:Jq C f a H0 E)(x0:Ext [] H0 H)(hx:H x=none):F' C f [.ref x,a] (eR H x (.ext (kF x C none))) (λv H2=>v=.gB/\∃od,H2 x=some (.ext (kF x C od))/\E (.ref C) od (eR H2 x (.ext (j5 x (.ref C) od)))) E0:=by
 refine⟨x,a,rfl,dM,λd hd DW=>⟨rfl,some d,?_,r d _ ?_ ?_⟩⟩
 .rw[dS DW.symm,dM]
 .rw[dS DW,dM]
 .have SG:H d=none:=by rw[dS DW] at hd;exact hd
  refine x0.trans ⟨λb o _ hb=>?_,λb xs hb=>?_⟩
  .rw[dS (eF hb hx),dS (eF hb SG),dS (eF hb hx),dS (eF hb hx)]
   exact hb
  .rw[dS (eF hb hx),dS (eF hb SG),dS (eF hb hx),dS (eF hb hx)]
   exact hb
noncomputable def uR (s:Stmt)(i:Nat):Stmt:=match s with
 | .ClassDef _ _ _ b _ _ _ _ _ _ _=>b.getD i (.Pass ⟨0,0,0,0⟩)
 | _=>.Pass ⟨0,0,0,0⟩
structure D2 (K:W.Frag) (mg:Str->Option ae) (x:Str) (D:Addr):Prop where
 nm:mg x=some (.ref D)
 ty:W.typeIn K (.ref D)=some (.type "type")
 cl:(W.clsIn K D).isSome=true
structure tO (K:W.Frag) (C J:Addr):Prop where
 ci:DY K C
 own:W.mroIn K C (.ref C)=some true
 val:W.mroIn K C (.type "ValueError")=some true
 up:W.mroIn K C (.ref J)=some true
 jx:W.mroIn K J (.type "BaseException")=some true
section
variable {K:W.Frag}{mg:Str->Option ae}{x:Str}{C D J:Addr}{b:Bool}
theorem D2.UD (o:D2 K mg x D):W.kitCls K (.ref C) (.ref D)=W.mroIn K C (.ref D):=by
 show (if ((W.clsIn K D).isSome && W.typeIn K (.ref D) == some (.type "type"))=true then W.subIn K (.ref C) (.ref D) else none)=_;rw[o.cl,o.ty];rw[if_pos (!4)];rfl
theorem tO.UE (e:tO K C J)(o:D2 K mg x J):W.exmOne K (.ref C) (.ref J)=some true:=by
 unfold W.exmOne;have h:W.subIn K (.ref J) (.type "BaseException")=some true:=e.jx;rw[h,if_pos (!4),o.UD];exact e.up
theorem tO.one (e:tO K C J)(o:D2 K mg x D)(h:W.mroIn K C (.ref D)=some b):W.kitOne K (.ref C) (.ref D)=some b:=by
 unfold W.kitOne;by_cases q:C=D
 .subst q
  have:=e.own;rw[h] at this;rw[if_pos (!4),<- this]
 .rw[if_neg (by simpa using q),o.UD]
  exact h
theorem tO.isVal (e:tO K C J):W.kitOne K (.ref C) (.type "ValueError")=some true:=by
 unfold W.kitOne;rw[if_neg (!4)];show (if W.kitMeta "ValueError" = true then W.subIn K (.ref C) (.type "ValueError") else none)=_;rw[if_pos (!3)];exact e.val
end
noncomputable def xR (es:Array DictEntry):Bool:=es.toList.all λe=>match e.key with | .str _ _=>true | _=>false
theorem z9 (h:xR es=true):StrKeys es:=λe he=>by
 have:=dn.mp h e (by simpa using he);revert this;cases e.key<;>simp
theorem lK {K:W.Frag}{h:Heap}{mg:Str->Option ae}{x:Str}{D:Addr}{cd:ClassData}(X:K.In h)(G:h.Ns aR mg)(a:W.nsIn K aR x=some (some (.ref D)))(t:W.typeIn K (.ref D)=some (.type "type"))(c:W.clsIn K D=some cd):D2 K mg x D :=
 ⟨W.mg_of X G a,t,by rw[c];rfl⟩
structure RF (K:W.Frag) (C J fI:Addr):Prop where
 obj:∃nm qn N bs rO sn sub ab F8 dd k0 k1 k2 k3 k5,K.lookup C=some (excClassObj nm qn C N bs (.ref J::pZ) rO sn sub ab F8 dd k0 k1 k2 k3 k5 "ValueError.__new__")
 init:W.findIn K (.ref C) "__init__" = some (some (.ref fI))
 fn:W.isFn K (.ref fI)=true
 kp:W.keepIn K (.ref C)=true
 ei:tO K C J
theorem RF.mk' {K:W.Frag}{C J fI:Addr}(r:RF K C J fI)(j:Nq K J):OO K C fI :=
 let ⟨nm,qn,N,bs,rO,sn,sub,ab,F8,dd,k0,k1,k2,k3,k5,e⟩:=r.obj
 ⟨⟨J,nm,qn,N,bs,rO,sn,sub,ab,F8,dd,k0,k1,k2,k3,k5,e,j⟩,r.init,r.fn,r.kp,r.ei.ci.cx⟩
section
variable {P:aO}{w:World}{K:W.Frag}{mg:Str->Option ae}{base:Heap}{C J fI:Addr}{fd:bF}{x q f g:Str}{st:Stmt}{sp:Sp}{ps:List Str}
theorem Gf (r:RF K C J fI)(j:Nq K J)(m:mg x=some (.ref C))(F:iP P w K mg base rq 1 fI fd ps sp)(b:Binds K fd ps []):mn P w K mg base x C sp:=⟨fI,fd,ps,r.mk' j,F,m,b⟩
end
end L2
namespace PySem
theorem tP (l:Addr)(items:Array ae)(n:Nat)(dd:Option Addr)(sl:Array (Option ae))(t:Tok) :
  Meets (Builtin.«tuple.__mul__» ⟨[.ref l,.int 1 t],[]⟩) (λ_ R s=>s.heap.get? l=some { cls:=.type "tuple",dict:=dd,data:=.seq items n,slots:=sl }/\R (.ok (.ret (ae.ref l))) s) :=
 .of_wp λprog w A R s h=>by
  obtain⟨hp,g,d,tk,os⟩:=s;obtain⟨hl,h⟩:=h;have f1:=AutoSeq1.idx_int
  wp_walk
  exact⟨_,rfl,h⟩
end PySem
namespace L2
open PySem PySem.Spec PyProof.Rows
variable {X:Cx}
noncomputable def Nw (K:W.Frag):R2:=λx y H Q=>(∃a xs,x=.ref a/\y=.int 1/\iW K H a xs/\Q (.ref a) H)\/KR K x y H Q
theorem Gg (K:W.Frag)(h:X.K=K:=by rfl):jU X (binaryOp .Mult) (Nw K):=by
 subst h;intro pins s σ H x y v u Q I rx ry h;rcases h with h | h
 .obtain⟨a,xs,rfl,rfl,hx,q⟩:=h
  cases rx;obtain⟨t,rfl⟩:=ry;obtain⟨its,r,ht,hl⟩:=I.tuple hx;obtain⟨⟨cls,dd,data,sl⟩,ho,hc,n,hd⟩:=id ht;simp only at hc hd;subst hc hd
  exact wpAny_binaryOp_repeat_ref (T := "tuple") (U := "int") (!2) ⟨_,ho,rfl⟩ (λs'=>typeIs_int s' 1 t) jY F.fills_int_mul F.slot_int_rmul n8 F.slot_int_index.lookup
   (call_meets F.slot_int_rmul (typeIs_int s 1 t) F.entry_int_rmul (F.args_int_rmul_2 _ _) (lF 1 t a its.toArray n dd sl)
    ⟨ho,rfl,⟨_,ho,rfl⟩,call_meets F.slot_tuple_mul ⟨_,ho,rfl⟩ F.entry_tuple_mul (F.args_tuple_mul_2 _ _) (tP a its.toArray n dd sl t) ⟨ho,⟨.ref a,H,I,rfl,q⟩⟩⟩)
 .exact Jd X.K rfl pins s σ H x y v u Q I rx ry h
inductive oq where
 | s (d:ad)
 | o (ds:List ad)
 | x (c:Str) (as:List ad)
 | d (a:Addr) (t:Bool) (kvs:List (List Int × ad))
structure Xc where
 cl:Str->Addr
 fl:Str->List Str
noncomputable abbrev fh:=List (Option oq)
structure Fr where
 G:Hp->Int->Prop
 gs:List Addr
 S0:List Addr
 H0:Hp
 fa:V
 fd:List Nat
 xc:Xc
 ik:∀{S:List Addr} {H H':Hp} {n:Int},G H n->Ext S H H'->(∀a∈S,H0 a=none)->G H' n
 vX:∀{H:Hp} {n:Int},G H n->∀a∈gs,H a≠none
 SH:∀{H:Hp} {n:Int},G H n->∀a∈gs,∀φ,H a≠some (.ext φ)
 SI:∀a∈gs,a∈S0
 xT:∀a∈S0,H0 a≠none
noncomputable def p7 (M:Fr)(S:List Addr)(H:Hp):oq->V->Prop
 | .s d,v=>eB S H d v
 | .o ds,v=>∃a xs,v=.ref a/\H a=some (.lst xs)/\dP S H ds xs/\a∈S/\M.H0 a=none
 | .x c as,v=>∃a dx vs,v=.ref a/\H a=some (.ext (j5 a (.ref (M.xc.cl c)) (some dx)))/\H dx=some (.ext (jl dx ((M.xc.fl c).zip vs)))/\dP S H as vs/\a ∉ M.gs/\dx ∉ M.gs
 | .d a t kvs,v=>v=.ref a/\∃xs,H a=some (wV t kvs xs)/\dP S H (kvs.map (·.2)) xs/\(t=false->∀p∈kvs,p.1.length=1)/\a∈S/\M.H0 a=none
structure dY (M:Fr) (env:fh) (pn:List (ad × V)) (σ:St) (S:List Addr) (H:Hp) (n:Int):Prop where
 val:∀(i:Nat) (e:oq),env[i]? = some (some e)->∃v,σ[i]? = some (some v)/\p7 M S H e v
 ne:∀(i j:Nat) (ds es:List ad) (a:Addr),env[i]? = some (some (.o ds))->env[j]? = some (some (.o es))->σ[i]? = some (some (.ref a))->σ[j]? = some (some (.ref a))->i=j
 len:env.length=σ.length
 D3:∀i∈M.fd,σ[i]? = some (some M.fa)
 gd:M.G H n
 ext:Ext M.gs M.H0 H
 s0:∀a∈M.S0,a∈S
 sn:∀a∈S,a∈M.S0\/M.H0 a=none
 has:∀a∈S,H a≠none
 pin:∀p∈pn,eB S H p.1 p.2
section
theorem Fr.out (M:Fr)(h:M.H0 a=none):a ∉ M.gs:=λz=>M.xT a (M.SI a z) h
theorem dY.tf (ok:dY M env pn σ S H n):∀a∈M.gs,a∈S:=λa h=>ok.s0 a (M.SI a h)
theorem Ext.some (x:Ext S H H')(ha:a ∉ S)(h:H a≠none):H' a≠none:=by
 cases e:H a with
 | none=>exact absurd e h
 | some o=>rw[x.keep a o ha e];simp
theorem p7.step (hg:∀a∈M.gs,a∈S)(h:p7 M S H e v)(x:Ext M.gs H H'):p7 M S H' e v:=by
 cases e with
 | s d=>exact eB.ext (x.mono hg) h
 | o ds =>
  obtain⟨a,xs,e,ha,r,hs,h0⟩:=h;exact⟨a,xs,e,x.keep _ _ (M.out h0) ha,r.ext (x.mono hg),hs,h0⟩
 | x c as =>
  obtain⟨a,dx,vs,e,ha,hd,r,g1,g2⟩:=h;exact⟨a,dx,vs,e,x.keep _ _ g1 ha,x.keep _ _ g2 hd,r.ext (x.mono hg),g1,g2⟩
 | d a t kvs =>
  obtain⟨e,xs,ha,r,hk,hs,h0⟩:=h;exact⟨e,xs,x.keep _ _ (M.out h0) ha,r.ext (x.mono hg),hk,hs,h0⟩
theorem dY.step (ok:dY M env pn σ S H n)(x:Ext M.gs H H')(g:M.G H' n'):dY M env pn σ S H' n':=by
 refine⟨λi e he=>?_,ok.ne,ok.len,ok.D3,g,ok.ext.trans x,ok.s0,ok.sn,λa ha=>?_,λp hp=>(ok.pin p hp).ext (x.mono ok.tf)⟩
 .obtain⟨v,hv,r⟩:=ok.val i e he
  exact⟨v,hv,r.step ok.tf x⟩
 .by_cases z:a∈M.gs
  .exact M.vX g a z
  .exact x.some z (ok.has a ha)
theorem dY.fresh (ok:dY M env pn σ S H n)(h:H a=none):a ∉ S:=λz=>ok.has a z h
theorem dY.grow (ok:dY M env pn σ S H n)(x:Ext [] H H'):M.G H' n:=M.ik ok.gd x (!4)
end
theorem eB.fresh (ha:H a=none)(h:eB S H d v):eB (a::S) H d v:=eB.more ha h
theorem dP.fresh (ha:H a=none)(h:dP S H ds vs):dP (a::S) H ds vs:=dP.more ha h
noncomputable def j6 (H:Hp):Prop:=∀a xs,H a=some (.lst xs)\/H a=some (.tup xs)->xs.length<=ax
theorem jT.j7 (ok:jT P w H h):j6 H:=λa xs e=>by
 rcases e with e | e
 .exact (ok a _ e).1
 .exact (ok a _ e).1
noncomputable def fC (gs S:List Addr)(H:Hp)(d:ad)(v:V):Prop:=eB S H d v\/(∃ds a xs,d=.list ds/\v=.ref a/\H a=some (.lst xs)/\dP S H ds xs/\a ∉ gs)\/∃t kvs a xs,d=h8 t kvs/\v=.ref a/\H a=some (wV t kvs xs)/\dP S H (kvs.map (·.2)) xs/\(t=false->∀p∈kvs,p.1.length=1)/\a ∉ gs
section
theorem fC.ext (h:fC gs S H d v)(hg:∀a∈gs,a∈S)(x:Ext gs H H'):fC gs S H' d v:=by
 rcases h with h | ⟨ds,a,xs,e1,e2,e3,r,ha⟩ | ⟨t,kvs,a,xs,e1,e2,e3,r,hk,ha⟩
 .exact .inl (h.ext (x.mono hg))
 .exact .inr (.inl ⟨ds,a,xs,e1,e2,x.keep _ _ ha e3,r.ext (x.mono hg),ha⟩)
 .exact .inr (.inr ⟨t,kvs,a,xs,e1,e2,x.keep _ _ ha e3,r.ext (x.mono hg),hk,ha⟩)
theorem fC.fL (h:fC gs S H (.list ds) v):∃a xs,v=.ref a/\H a=some (.lst xs)/\dP S H ds xs:=by
 rcases h with h | ⟨qD,a,xs,e1,e2,e3,r,_⟩ | ⟨t,kvs,a,xs,e1,_⟩
 .obtain⟨a,xs,e,ha,_,r⟩:=h.fL
  exact⟨a,xs,e,ha,r⟩
 .cases e1
  exact⟨a,xs,e2,e3,r⟩
 .cases e1
theorem fC.o8 (h:fC gs S H (.dict l) v):∃a t kvs xs,v=.ref a/\l=mM t kvs/\H a=some (wV t kvs xs)/\(t=false->∀p∈kvs,p.1.length=1)/\dP S H (kvs.map (·.2)) xs:=by
 rcases h with h | ⟨qD,a,xs,e1,_⟩ | ⟨t,kvs,a,xs,e1,e2,e3,r,hk,_⟩
 .obtain⟨a,t,kvs,xs,e,el,ha,_,hk,r⟩:=h.o8
  exact⟨a,t,kvs,xs,e,el,ha,hk,r⟩
 .cases e1
 .cases e1
  exact⟨a,t,kvs,xs,e2,rfl,e3,hk,r⟩
theorem fC.rep (h:fC gs S H d v)(hd:∀ds,d≠.list ds)(HJ:∀l,d≠.dict l:=by intro _ z;cases z):eB S H d v:=by
 rcases h with h | ⟨ds,a,xs,e1,_⟩ | ⟨t,kvs,a,xs,e1,_⟩
 .exact h
 .exact absurd e1 (hd ds)
 .exact absurd e1 (HJ _)
theorem fC.less (h:fC gs S H d v)(hg:∀a∈gs,a∈S):eB gs H d v:=by
 rcases h with h | ⟨ds,a,xs,rfl,rfl,e3,r,ha⟩ | ⟨t,kvs,a,xs,rfl,rfl,e3,r,hk,ha⟩
 .exact h.less hg
 .exact .lst e3 ha (r.less hg)
 .exact .OK e3 ha hk (r.less hg)
theorem fC.fY (h:fC gs S H (.tuple ds) v):∃a xs,v=.ref a/\H a=some (.tup xs)/\dP S H ds xs:=(h.rep (by intro _ z;cases z)).fY
theorem fC.eO (h:fC gs S H (.int i) v):v=.int i:=(h.rep (by intro _ z;cases z)).eO
theorem fC.lD (h:fC gs S H (.bool i) v):v=.bl i:=(h.rep (by intro _ z;cases z)).lD
theorem fC.kB (h:fC gs S H (.str i) v):v=.str i:=(h.rep (by intro _ z;cases z)).kB
end
noncomputable abbrev UX:=fh->Int->(ad->Int->Prop)->Prop
noncomputable abbrev UT:=fh->Int->(Bool->Int->Prop)->Prop
noncomputable abbrev UA:=fh->Int->(List ad->Int->Prop)->Prop
structure Cf where
 nx:fh->Int->Prop
 rt:ad->Int->Prop
noncomputable abbrev US:=Cf->fh->Int->Prop
noncomputable def QZ (M:Fr)(u:UX):TE:=λσ H R=>∃env pn S n Q,dY M env pn σ S H n/\u env n Q/\∀v H' d n',eB S H' d v->Ext M.gs H H'->M.G H' n'->j6 H'->Q d n'->R v H'
noncomputable def Gh (M:Fr)(u:UX):TE:=λσ H R=>∃env pn S n Q,dY M env pn σ S H n/\u env n Q/\∀v H' d n',fC M.gs S H' d v->Ext M.gs H H'->M.G H' n'->j6 H'->Q d n'->R v H'
noncomputable def Q0 (M:Fr)(u:fh->Int->(List ad->Int->Prop)->Prop):TE:=λσ H R=>∃env pn S n Q,dY M env pn σ S H n/\u env n Q /\
 ∀a xs H' ds n',H a=none->H' a=some (.lst xs)->dP (a::S) H' ds xs->Ext M.gs H H'->M.G H' n'->j6 H'->Q ds n'->R (.ref a) H'
noncomputable def liftT (M:Fr)(u:UT):TT:=λσ H R=>∃env pn S n Q,dY M env pn σ S H n/\u env n Q/\∀b H' n',Ext M.gs H H'->M.G H' n'->Q b n'->R b H'
noncomputable def Q1 (M:Fr)(k:Nat)(u:UA):TA:=λσ H R=>∃env pn S n Q,dY M env pn σ S H n/\u env n Q/\∀vs H' ds n',vs.length=k->dP S H' ds vs->Ext M.gs H H'->M.G H' n'->j6 H'->Q ds n'->R vs H'
noncomputable def jB (gs S:List Addr)(H:Hp):List ad->List V->Prop
 | [],vs=>vs=[]
 | d::ds,vs=>∃v r,vs=v::r/\fC gs S H d v/\jB gs S H ds r
theorem jB.less:∀{ds:List ad} {vs:List V},jB gs S H ds vs->(∀a∈gs,a∈S)->dP gs H ds vs
 | [],_,h,_=>by cases h;exact .nil
 | _::_,_,⟨v,r,e,h1,h2⟩,hg=>by subst e;exact .cons (h1.less hg) (jB.less h2 hg)
noncomputable def Gi (M:Fr)(u:UA):TA:=λσ H R=>∃env pn S n Q,dY M env pn σ S H n/\u env n Q/\∀vs H' ds n',jB M.gs S H' ds vs->Ext M.gs H H'->M.G H' n'->j6 H'->Q ds n'->R vs H'
noncomputable def Gj (M:Fr)(u:US):TS:=λD σ H=>∃env pn S n E,dY M env pn σ S H n/\u E env n/\(∀eA σ' S' H' n',dY M eA pn σ' S' H' n'->E.nx eA n'->D.nx σ' H') /\
 (∀v H' d n',eB M.S0 H' d v->Ext M.gs M.H0 H'->M.G H' n'->E.rt d n'->D.rt v H')
structure KE (X:Cx) (M:Fr) (e:Expr) (u:UX):Prop where run:QE X e (QZ M u)
structure KL (X:Cx) (M:Fr) (e:Expr) (u:UX):Prop where run:QE X e (Gh M u)
structure KN (X:Cx) (M:Fr) (e:Expr) (u:fh->Int->(List ad->Int->Prop)->Prop):Prop where run:QE X e (Q0 M u)
structure KB (X:Cx) (M:Fr) (e:Expr) (u:UT):Prop where run:QT X e (liftT M u)
structure KW (X:Cx) (M:Fr) (e:Expr) (u:UT):Prop where run:QW X e (liftT M u)
structure KA (X:Cx) (M:Fr) (es:List Expr) (u:UA):Prop where run:QA X es (Q1 M es.length u)
structure K6 (X:Cx) (M:Fr) (es:List Expr) (u:UA):Prop where run:QA X es (Gi M u)
structure KS (X:Cx) (M:Fr) (st:Stmt) (u:US):Prop where run:QS X st (Gj M u)
structure zh (X:Cx) (M:Fr) (st:List Stmt) (u:US):Prop where run:uz X st (Gj M u)
section
variable {X:Cx}{M:Fr}{e:Expr}{es:List Expr}{t:TE}{tT:TT}{ta:TA}{u:UX}
theorem Aa {A B C D E:Type}{P:A->B->C->D->E->Prop}{r:Prop}(h:∃a b c d e,P a b c d e)(k:∀a b c d e,P a b c d e->r):r:=by
 obtain⟨a,b,c,d,e,p⟩:=h;exact k a b c d e p
theorem SJ {A B C D E F:Type}{P:A->B->C->D->E->F->Prop}{r:Prop}(h:∃a b c d e f,P a b c d e f)(k:∀a b c d e f,P a b c d e f->r):r:=by
 obtain⟨a,b,c,d,e,f,p⟩:=h;exact k a b c d e f p
theorem QE.j7 (h:QE X e t):QE X e (λσ H R=>t σ H λv H1=>j6 H1->R v H1) :=
 ⟨λpins s σ H Q I q=>fN (h.run pins s σ H _ I q) λv s1 ⟨x,H1,I1,r1,q1⟩=>⟨x,H1,I1,r1,q1 I1.hok.j7⟩⟩
theorem QA.j7 (h:QA X es ta):QA X es (λσ H R=>ta σ H λv H1=>j6 H1->R v H1) :=
 ⟨λpos pins s σ H Q I q=>fN (h.run pos pins s σ H _ I q) λv s1 ⟨x,H1,I1,r1,q1⟩=>⟨x,H1,I1,r1,q1 I1.hok.j7⟩,h.ns⟩
theorem KE.of (h:QE X e t)(k:∀σ H R env pn S n Q,dY M env pn σ S H n->u env n Q->(∀v H' d n',eB S H' d v->Ext M.gs H H'->M.G H' n'->Q d n'->R v H')->t σ H R):KE X M e u :=
 ⟨h.j7.weaken λσ H R h=>Aa h λenv pn S n Q h=>k σ H _ env pn S n Q h.1 h.2.1 λv H' d n' r x g qq sz=>h.2.2 v H' d n' r x g sz qq⟩
theorem KL.of (h:QE X e t)(k:∀σ H R env pn S n Q,dY M env pn σ S H n->u env n Q->(∀v H' d n',fC M.gs S H' d v->Ext M.gs H H'->M.G H' n'->Q d n'->R v H')->t σ H R):KL X M e u :=
 ⟨h.j7.weaken λσ H R h=>Aa h λenv pn S n Q h=>k σ H _ env pn S n Q h.1 h.2.1 λv H' d n' r x g qq sz=>h.2.2 v H' d n' r x g sz qq⟩
theorem KN.of {u:fh->Int->(List ad->Int->Prop)->Prop}(h:QE X e t)(k:∀σ H R env pn S n Q,dY M env pn σ S H n->u env n Q->(∀a xs H' ds n',H a=none->H' a=some (.lst xs)->dP (a::S) H' ds xs->Ext M.gs H H'->M.G H' n'->Q ds n'->R (.ref a) H')->t σ H R):KN X M e u :=
 ⟨h.j7.weaken λσ H R h=>Aa h λenv pn S n Q h=>k σ H _ env pn S n Q h.1 h.2.1 λa xs H' ds n' h0 h1 r x g qq sz=>h.2.2 a xs H' ds n' h0 h1 r x g sz qq⟩
theorem KA.of {u:UA}(h:QA X es ta)(k:∀σ H R env pn S n Q,dY M env pn σ S H n->u env n Q->(∀v H' d n',v.length=es.length->dP S H' d v->Ext M.gs H H'->M.G H' n'->Q d n'->R v H')->ta σ H R):KA X M es u :=
 ⟨h.j7.weaken λσ H R h=>Aa h λenv pn S n Q h=>k σ H _ env pn S n Q h.1 h.2.1 λv H' d n' hl r x g qq sz=>h.2.2 v H' d n' hl r x g sz qq⟩
theorem K6.of {u:UA}(h:QA X es ta)(k:∀σ H R env pn S n Q,dY M env pn σ S H n->u env n Q->(∀v H' d n',jB M.gs S H' d v->Ext M.gs H H'->M.G H' n'->Q d n'->R v H')->ta σ H R):K6 X M es u :=
 ⟨h.j7.weaken λσ H R h=>Aa h λenv pn S n Q h=>k σ H _ env pn S n Q h.1 h.2.1 λv H' d n' r x g qq sz=>h.2.2 v H' d n' r x g sz qq⟩
theorem QT.weaken {t t':TT}(h:QT X e t)(w:∀σ H Q,t' σ H Q->t σ H Q):QT X e t':=⟨λpins s σ H Q I q=>h.run pins s σ H Q I (w σ H Q q)⟩
theorem QW.weaken {t t':TT}(h:QW X e t)(w:∀σ H Q,t' σ H Q->t σ H Q):QW X e t':=⟨λwh pins s σ H Q I q=>h.run wh pins s σ H Q I (w σ H Q q)⟩
theorem QS.weaken {st:Stmt}{t t':TS}(h:QS X st t)(w:∀D σ H,t' D σ H->t D σ H):QS X st t':=⟨λpins s σ H D I q=>h.run pins s σ H D I (w D σ H q)⟩
theorem uz.weaken {st:List Stmt}{t t':TS}(h:uz X st t)(w:∀D σ H,t' D σ H->t D σ H):uz X st t':=⟨λpins s σ H D I q=>h.run pins s σ H D I (w D σ H q)⟩
theorem KB.of {u:UT}(h:QT X e tT)(k:∀σ H R env pn S n Q,dY M env pn σ S H n->u env n Q->(∀b H' n',Ext M.gs H H'->M.G H' n'->Q b n'->R b H')->tT σ H R):KB X M e u :=
 ⟨h.weaken λσ H R h=>Aa h λenv pn S n Q h=>k σ H _ env pn S n Q h.1 h.2.1 h.2.2⟩
theorem KW.of {u:UT}(h:QW X e tT)(k:∀σ H R env pn S n Q,dY M env pn σ S H n->u env n Q->(∀b H' n',Ext M.gs H H'->M.G H' n'->Q b n'->R b H')->tT σ H R):KW X M e u :=
 ⟨h.weaken λσ H R h=>Aa h λenv pn S n Q h=>k σ H _ env pn S n Q h.1 h.2.1 h.2.2⟩
theorem KE.loose (h:KE X M e u):KL X M e u:=.of h.run λσ H R env pn S n Q ok hu k=>⟨env,pn,S,n,Q,ok,hu,λv H' d n' r x g _ q=>k v H' d n' (.inl r) x g q⟩
noncomputable def uL (u:fh->Int->(List ad->Int->Prop)->Prop):UX:=λenv n Q=>u env n λds n'=>Q (.list ds) n'
theorem KN.data {u:fh->Int->(List ad->Int->Prop)->Prop}(h:KN X M e u):KE X M e (uL u):=.of h.run λσ H R env pn S n Q ok hu k =>
 ⟨env,pn,S,n,_,ok,hu,λa xs H' ds n' h0 h1 r x g _ q=>k _ H' _ n' (.lst h1 (ok.fresh h0) (r.less λ_ h=>ao _ h)) x g q⟩
end
noncomputable def pk {α:Type}(o:Option α)(Q:α->Prop):Prop:=∃d,o=some d/\Q d
@[simp] theorem dI {α:Type} (d:α) (Q:α->Prop):pk (some d) Q=Q d:=by simp[pk]
@[simp] theorem Q2 {α:Type} (Q:α->Prop):pk (none:Option α) Q=False:=by simp[pk]
noncomputable def d7 (i:Nat):UX:=λenv n Q=>match env[i]? with | some (some (.s d))=>Q d n | _=>False
noncomputable def dH (i:Nat):UX:=λenv n Q=>match env[i]? with | some (some (.s d))=>Q d n | some (some (.o ds))=>Q (.list ds) n | some (some (.d _ t kvs))=>Q (h8 t kvs) n | _=>False
noncomputable def uC (d:ad):UX:=λ_ n Q=>Q d n
section
theorem ip (i:Nat)(hN:X.N[i]? = some x:=by rfl)(hv:s9 X.env.scope x:=by (first | exact Or.inl rfl | exact Or.inr (Or.inl rfl) | exact Or.inr (Or.inr rfl)))(hd:(x == ("__debug__" : Str))=false:=by decide)
  (gP:(x == ("__classdict__" : Str))=false:=by decide):KE X M (.Name x pos) (d7 i):=.of (qv i hN hv hd gP) λσ H R env pn S n Q ok hu k=>by
 unfold d7 at hu
 cases e:env[i]? with
 | none=>rw[e] at hu;exact hu.elim
 | some o =>
  cases o with
  | none=>rw[e] at hu;exact hu.elim
  | some en =>
   cases en with
   | o ds=>rw[e] at hu;exact hu.elim
   | x c as=>rw[e] at hu;exact hu.elim
   | d a t kvs=>rw[e] at hu;exact hu.elim
   | s d =>
    rw[e] at hu;obtain⟨v,hv,r⟩:=ok.val i _ e;exact⟨v,hv,k v H d n r (.refl _ _) ok.gd hu⟩
theorem fM (i:Nat)(hN:X.N[i]? = some x:=by rfl)(hv:s9 X.env.scope x:=by (first | exact Or.inl rfl | exact Or.inr (Or.inl rfl) | exact Or.inr (Or.inr rfl)))(hd:(x == ("__debug__" : Str))=false:=by decide)
  (gP:(x == ("__classdict__" : Str))=false:=by decide):KL X M (.Name x pos) (dH i):=.of (qv i hN hv hd gP) λσ H R env pn S n Q ok hu k=>by
 unfold dH at hu
 cases e:env[i]? with
 | none=>rw[e] at hu;exact hu.elim
 | some o =>
  cases o with
  | none=>rw[e] at hu;exact hu.elim
  | some en =>
   rw[e] at hu;obtain⟨v,hv,r⟩:=ok.val i _ e
   cases en with
   | o ds =>
    obtain⟨a,xs,rfl,ha,r,hs,h0⟩:=r;exact⟨_,hv,k _ H _ n (.inr (.inl ⟨ds,a,xs,rfl,rfl,ha,r,M.out h0⟩)) (.refl _ _) ok.gd hu⟩
   | s d=>exact⟨v,hv,k v H d n (.inl r) (.refl _ _) ok.gd hu⟩
   | x c as=>exact hu.elim
   | d a t kvs =>
    obtain⟨rfl,xs,ha,r,hk,hs,h0⟩:=r;exact⟨_,hv,k _ H _ n (.inr (.inr ⟨t,kvs,a,xs,rfl,rfl,ha,r,hk,M.out h0⟩)) (.refl _ _) ok.gd hu⟩
theorem Q3 (h:QE X e (tC v))(r:∀S H,eB S H d v):KE X M e (uC d):=.of h λσ H R env pn S n Q ok hu k=>k v H d n (r S H) (.refl _ _) ok.gd hu
theorem dU {i j pos}:KE X M (.Constant (.int i) j pos) (uC (.int i)):=Q3 eC λ_ _=>.int i
theorem rS {i j pos}:KE X M (.Constant (.bool i) j pos) (uC (.bool i)):=Q3 FC λ_ _=>.bl i
theorem K7 {j pos}:KE X M (.Constant .none j pos) (uC .none):=Q3 M3 λ_ _=>.gB
theorem K8 {x j pos}:KE X M (.Constant (.str x) j pos) (uC (.str x)):=Q3 M4 λ_ _=>.str x
theorem UH (hm:∃t,X.mg x=some (.int i t))(hg:Gl X x:=by rfl)(hd:(x == ("__debug__" : Str))=false:=by decide):KE X M (.Name x pos) (uC (.int i)):=Q3 (FJ hg hm hd) λ_ _=>.int i
end
noncomputable def dO:UA:=λ_ n Q=>Q [] n
noncomputable def dG (u:UX)(r:UA):UA:=λenv n Q=>u env n λd n1=>r env n1 λds n2=>Q (d::ds) n2
section
variable {X:Cx}{M:Fr}{e a b:Expr}{es:List Expr}{u ua ub:UX}{ur:UA}{pos:Pos}
theorem dQ:KA X M [] dO:=.of eY λσ H R env pn S n Q ok hu k=>k [] H [] n rfl .nil (.refl _ _) ok.gd hu
theorem d4 (h:KE X M e u)(hr:KA X M es ur)(hs:e8 e=true:=by rfl):KA X M (e::es) (dG u ur):=.of (gm h.run hr.run hs) λσ H R env pn S n Q ok hu k =>
 ⟨env,pn,S,n,_,ok,hu,λv H1 d n1 r1 x1 g1 _ q1=>⟨env,pn,S,n1,_,ok.step x1 g1,q1,λvs H2 ds n2 hl r2 x2 g2 _ q2=>k _ H2 _ n2 (by simp[hl]) (.cons (r1.ext (x2.mono ok.tf)) r2) (x1.trans x2) g2 q2⟩⟩
theorem fP:K6 X M [] dO:=.of eY λσ H R env pn S n Q ok hu k=>k [] H [] n rfl (.refl _ _) ok.gd hu
theorem gS (h:KL X M e u)(hr:K6 X M es ur)(hs:e8 e=true:=by rfl):K6 X M (e::es) (dG u ur):=.of (gm h.run hr.run hs) λσ H R env pn S n Q ok hu k =>
 ⟨env,pn,S,n,_,ok,hu,λv H1 d n1 r1 x1 g1 _ q1=>⟨env,pn,S,n1,_,ok.step x1 g1,q1,λvs H2 ds n2 r2 x2 g2 _ q2=>k _ H2 (d::ds) n2 ⟨_,_,rfl,r1.ext ok.tf x2,r2⟩ (x1.trans x2) g2 q2⟩⟩
noncomputable def gi (ur:UA):UX:=λenv n Q=>ur env n λds n1=>Q (.tuple ds) n1
theorem ic {x1}(h:KA X M es ur)(hl:es.length<=ax:=by decide):KE X M (.Tuple es x1 pos) (gi ur) :=
 .of (FF h.run) λσ H R env pn S n Q ok hu k=>⟨env,pn,S,n,_,ok,hu,λvs H1 ds n1 el r1 x1 g1 sz q1=>⟨by rw[el];exact hl,λp hp =>
  have x2:=Ext.new (S:=[]) (o:=.tup vs) hp
  k _ _ _ n1 (.tup dM (r1.ext (x2.mono (!4)))) (x1.trans (x2.mono (!4))) (M.ik g1 x2 (!4)) q1⟩⟩
theorem lL (h:KA X M es ur)(hl:es.length<=ax:=by decide):KN X M (.List es pos) ur :=
 .of (zK h.run) λσ H R env pn S n Q ok hu k=>⟨env,pn,S,n,_,ok,hu,λvs H1 ds n1 el r1 x1 g1 sz q1=>⟨by rw[el];exact hl,λp hp =>
  have x2:=Ext.new (S:=[]) (o:=.lst vs) hp
  have X7:H p=none:=by
   by_cases z:p∈M.gs
   .exact absurd hp (M.vX g1 p z)
   .exact x1.fresh z hp
  k p vs _ _ n1 X7 dM ((r1.fresh hp).ext (x2.mono (!4))) (x1.trans (x2.mono (!4))) (M.ik g1 x2 (!4)) q1⟩⟩
end
theorem Cg:∀{kvs gT:List (List Int × ad)} {xs nO:List V},xs.length=kvs.length->nO.length=gT.length->EK kvs xs=EK gT nO->xs=nO/\kvs.map (λp=>p.1.headD 0)=gT.map (λp=>p.1.headD 0)
 | [],[],[],[],_,_,_=>⟨rfl,rfl⟩
 | [],[],_::_,_,h,_,_=>by simp at h
 | [],[],[],_::_,_,h,_=>by simp at h
 | [],p::_,_,[],_,h,_=>by simp at h
 | [],p::_,[],_::_,_,_,h=>by simp[EK] at h
 | [],p::_,_::_,_::_,h,_,_=>by simp at h
 | p::_,[],[],_,h,_,_=>by simp at h
 | p::_,[],_::_,[],_,_,h=>by simp[EK] at h
 | p::_,[],_::_,_::_,_,h,_=>by simp at h
 | p::_,q::_,[],_,h,_,_=>by simp at h
 | p::_,q::_,_::_,[],_,h,_=>by simp at h
 | p::kvs,q::gT,x::xs,y::ys,h1,h2,h=>by
  rw[EK,EK] at h;injection h with e1 e2;injection e1 with e3 e4;injection e3 with e3;obtain⟨a,b⟩:=Cg (by simpa using h1) (by simpa using h2) e2;rw[e4,a,ak,ak,b];exact⟨rfl,by rw[e3]⟩
theorem Ci:∀{a b:List Int},(a.map Sum.inl:List Key)=b.map Sum.inl->a=b
 | [],[],_=>rfl
 | [],_::_,h=>by cases h
 | _::_,[],h=>by cases h
 | x::a,y::b,h=>by
  rw[ak,ak] at h;injection h with h1 h2;injection h1 with h1;rw[h1,Ci h2]
theorem Cj:∀{kvs gT:List (List Int × ad)} {xs nO:List V},xs.length=kvs.length->nO.length=gT.length->HN kvs xs=HN gT nO->xs=nO/\kvs.map (λp=>p.1)=gT.map (λp=>p.1)
 | [],[],[],[],_,_,_=>⟨rfl,rfl⟩
 | [],[],_::_,_,h,_,_=>by simp at h
 | [],[],[],_::_,_,h,_=>by simp at h
 | [],p::_,_,[],_,h,_=>by simp at h
 | [],p::_,[],_::_,_,_,h=>by simp[HN] at h
 | [],p::_,_::_,_::_,h,_,_=>by simp at h
 | p::_,[],[],_,h,_,_=>by simp at h
 | p::_,[],_::_,[],_,_,h=>by simp[HN] at h
 | p::_,[],_::_,_::_,_,h,_=>by simp at h
 | p::_,q::_,[],_,h,_,_=>by simp at h
 | p::_,q::_,_::_,[],_,h,_=>by simp at h
 | p::kvs,q::gT,x::xs,y::ys,h1,h2,h=>by
  rw[HN,HN] at h;injection h with e1 e2;injection e1 with e3 e4;obtain⟨a,b⟩:=Cj (by simpa using h1) (by simpa using h2) e2;rw[e4,a,ak,ak,b];exact⟨rfl,by rw[Ci e3]⟩
theorem Ck:∀{l l':List (List Int × ad)},l.map (λp=>p.1)=l'.map (λp=>p.1)->l.map (·.2)=l'.map (·.2)->l=l'
 | [],[],_,_=>rfl
 | [],_::_,h,_=>by cases h
 | _::_,[],h,_=>by cases h
 | (a,b)::l,(c,d)::l',h,k=>by
  rw[ak,ak] at h k;injection h with h1 h2;injection k with k1 k2;have h1:a=c:=h1;have k1:b=d:=k1;rw[Ck h2 k2,h1,k1]
theorem uS {l:List (List Int × ad)}(h:∀p∈l,p.1.length=1):l.map (λp=>p.1)=(l.map λp=>p.1.headD 0).map λi=>[i]:=by
 rw[bv];refine cy λp hp=>?_
 match p,h p hp with
 | ([i],_),_=>rfl
theorem Jr {t t':Bool}{kvs gT:List (List Int × ad)}{xs nO:List V}(h1:xs.length=kvs.length)(h2:nO.length=gT.length)(k1:t=false->∀p∈kvs,p.1.length=1)(k2:t'=false->∀p∈gT,p.1.length=1)(h:wV t kvs xs=wV t' gT nO):t=t'/\xs=nO/\kvs.map (λp=>p.1)=gT.map (λp=>p.1):=by
 cases t with
 | true=>cases t' with
  | true =>
   injection h with h;exact⟨rfl,Cj h1 h2 h⟩
  | false=>cases h
 | false=>cases t' with
  | true=>cases h
  | false =>
   injection h with h;obtain⟨a,b⟩:=Cg h1 h2 h;exact⟨rfl,a,by rw[uS (k1 rfl),uS (k2 rfl),b]⟩
mutual
theorem eB.one {S:List Addr}{H:Hp}:∀{d d':ad} {v:V},eB S H d v->eB S H d' v->d=d'
 | .none,d',v,h,k=>by cases h.vH;cases d'<;>simp[eB] at k;rfl
 | .bool b,d',v,h,k=>by cases h.lD;cases d'<;>simp[eB] at k;rw[k]
 | .int b,d',v,h,k=>by cases h.eO;cases d'<;>simp[eB] at k;rw[k]
 | .str b,d',v,h,k=>by cases h.kB;cases d'<;>simp[eB] at k;rw[k]
 | .tuple ds,d',v,h,k=>by
  obtain⟨a,xs,rfl,ha,r⟩:=h.fY
  cases d' with
  | tuple es =>
   obtain⟨b,ys,e,hb,r'⟩:=k.fY;cases e;rw[ha] at hb;cases hb;rw[dP.one r r']
  | list es=>obtain⟨b,ys,e,hb,_⟩:=k.fL;cases e;rw[ha] at hb;cases hb
  | dict es=>obtain⟨b,t,kvs,ys,e,_,hb,_⟩:=k.o8;cases e;rw[ha] at hb;exact (BW hb).elim
  | _=>simp[eB] at k
 | .list ds,d',v,h,k=>by
  obtain⟨a,xs,rfl,ha,_,r⟩:=h.fL
  cases d' with
  | list es =>
   obtain⟨b,ys,e,hb,_,r'⟩:=k.fL;cases e;rw[ha] at hb;cases hb;rw[dP.one r r']
  | tuple es=>obtain⟨b,ys,e,hb,_⟩:=k.fY;cases e;rw[ha] at hb;cases hb
  | dict es=>obtain⟨b,t,kvs,ys,e,_,hb,_⟩:=k.o8;cases e;rw[ha] at hb;exact (nX hb).elim
  | _=>simp[eB] at k
 | .dict l,d',v,h,k=>by
  have h':=h;unfold eB at h';obtain⟨a,t,kvs,xs,rfl,rfl,ha,hs,hk,hr⟩:=h';have hl:xs.length=kvs.length:=by have:=(f'.Dz.mp hr).length;rw[ij,ap,ap,aj] at this;omega
  cases d' with
  | tuple es=>obtain⟨b,ys,e,hb,_⟩:=k.fY;cases e;rw[ha] at hb;exact (BW hb.symm).elim
  | list es=>obtain⟨b,ys,e,hb,_⟩:=k.fL;cases e;rw[ha] at hb;exact (nX hb.symm).elim
  | dict l' =>
   unfold eB at k;obtain⟨b,t',gT,ys,e,rfl,hb,_,D4,We⟩:=k;cases e;rw[ha] at hb;have Nh:ys.length=gT.length:=by have:=(f'.Dz.mp We).length;rw[ij,ap,ap,aj] at this;omega
   obtain⟨rfl,rfl,HW⟩:=Jr hl Nh hk D4 (Option.some.inj hb);have:=f'.one hr We;rw[ij,ij] at this;injection this with _ this;rw[Ck HW this]
  | _=>simp[eB] at k
theorem dP.one {S:List Addr}{H:Hp}:∀{ds qD:List ad} {vs:List V},dP S H ds vs->dP S H qD vs->ds=qD
 | [],qD,vs,h,k=>by
  cases h.fz
  cases qD with
  | nil=>rfl
  | cons d ds=>obtain⟨x,r,e,_⟩:=k.of_cons;cases e
 | d::ds,qD,vs,h,k=>by
  obtain⟨x,r,rfl,h1,h2⟩:=h.of_cons
  cases qD with
  | nil=>cases k.fz
  | cons d' qD =>
   obtain⟨x',r',e,k1,k2⟩:=k.of_cons;cases e;rw[eB.one h1 k1,dP.one h2 k2]
theorem f'.one {S:List Addr}{H:Hp}:∀{l l':List (ad × ad)} {vs:List V},f' S H l vs->f' S H l' vs->l.map (·.2)=l'.map (·.2)
 | [],l',vs,h,k=>by
  unfold f' at h;subst h
  cases l' with
  | nil=>rfl
  | cons p l=>unfold f' at k;obtain⟨x,r,e,_⟩:=k;cases e
 | (_,d)::l,l',vs,h,k=>by
  unfold f' zH at h;obtain⟨x,r,rfl,h1,h2⟩:=h
  cases l' with
  | nil=>unfold f' at k;cases k
  | cons p l' =>
   unfold f' at k;obtain⟨x',r',e,k1,k2⟩:=k;cases e;have X8:eB S H p.2 x:=by cases p;unfold zH at k1;exact k1
   rw[ak,ak,f'.one h2 k2];show d::_=p.2::_;rw[eB.one h1 X8]
end
structure xU (X:Cx) (f:ae->ae->Sem ae) (op:ad->ad->Option ad):Prop where
 ex:∃r,jU X f r/\∀gs S H dx dy x y d (R:VK),(∀a∈S,H a≠none)->j6 H->fC gs S H dx x->fC gs S H dy y->op dx dy=some d->(∀v H',eB S H' d v->Ext [] H H'->R v H')->r x y H R
noncomputable def eJ (f:ad->ad->Option ad)(ua ub:UX):UX:=λenv n Q=>ua env n λx n1=>ub env n1 λy n2=>pk (f x y) λd=>Q d n2
noncomputable def UK (d:ad)(Q:Bool->Prop):Prop:=match d with | .bool b=>Q b | _=>False
@[simp] theorem fb (b:Bool) (Q:Bool->Prop):UK (.bool b) Q=Q b:=rfl
noncomputable def fi (u:UX):UT:=λenv n Q=>u env n λd n'=>UK d λb=>Q b n'
section
variable {X:Cx}{M:Fr}{a b c e:Expr}{ua ub uc:UX}{pos:Pos}{f:ad->ad->Option ad}
theorem Cm
  (hr:∀gs S H dx dy x y d (R:VK),(∀a∈S,H a≠none)->j6 H->fC gs S H dx x->fC gs S H dy y->f dx dy=some d->(∀v H',eB S H' d v->Ext [] H H'->R v H')->r x y H R)
  (ok:dY M env pn σ S H n) (hu:eJ f ua ub env n Q) (k:∀v H' d n',eB S H' d v->Ext M.gs H H'->M.G H' n'->Q d n'->R v H'):Iu r (Gh M ua) (Gh M ub) σ H R :=
 ⟨env,pn,S,n,_,ok,hu,λx H1 dx n1 r1 x1 g1 _ q1=>⟨env,pn,S,n1,_,ok.step x1 g1,q1,λy H2 dy n2 r2 x2 g2 sz q2=>by
  obtain⟨d,e,q⟩:=q2;exact hr M.gs S H2 dx dy x y d R ((ok.step x1 g1).step x2 g2).has sz (r1.ext ok.tf x2) r2 e λv H3 r3 x3=>k v H3 d n2 r3 ((x1.trans x2).trans (x3.mono (!4))) (M.ik g2 x3 (!4)) q⟩⟩
theorem hZ (ho:xU X (binaryOp op) f)(ha:KL X M a ua)(hb:KL X M b ub):KE X M (.BinOp a op b pos) (eJ f ua ub):=by
 obtain⟨r,h1,h2⟩:=ho.ex;exact .of (gr h1 ha.run hb.run) λσ H R env pn S n Q ok hu k=>Cm h2 ok hu k
theorem Gk (ho:xU X (compareOp op) f)(ha:KL X M a ua)(hb:KL X M b ub)(hm:behindInMarks op b=false:=by first | exact lz _ | rfl):KE X M (.Compare a [op] [b] pos) (eJ f ua ub):=by
 obtain⟨r,h1,h2⟩:=ho.ex;exact .of (I8 h1 ha.run hb.run hm) λσ H R env pn S n Q ok hu k=>Cm h2 ok hu k
theorem gU (ho:xU X (compareOp op) f)(ha:KL X M a ua)(hb:KL X M b ub)(hm:behindInMarks op b=false:=by first | exact lz _ | rfl):KB X M (.Compare a [op] [b] pos) (fi (eJ f ua ub)):=by
 obtain⟨r,h1,h2⟩:=ho.ex;refine .of (nY h1 ha.run hb.run hm) λσ H R env pn S n Q ok hu k=>Cm (R:=λx H'=>∃k,x=.bl k/\R k H') h2 ok hu λv H' d n' r x g q=>?_
 cases d with
 | bool b=>exact⟨b,r.lD,k b H' n' x g q⟩
 | _=>exact False.elim q
theorem mN (h:KE X M e ua)(he:∀mK,isTrue e X.env mK=(do let v <- mK;standAt e.pos;holding [v] (truthy v)):=by rw[3]):KB X M e (fi ua) :=
 .of (zI h.run he) λσ H R env pn S n Q ok hu k=>⟨env,pn,S,n,_,ok,hu,λv H' d n' r x g _ q=>by
  cases d with
  | bool b=>exact⟨b,r.lD,k b H' n' x g q⟩
  | _=>exact False.elim q⟩
noncomputable def pq (u w:UT):UT:=λenv n Q=>u env n λb n1=>if b=true then w env n1 Q else Q false n1
noncomputable def UL (u w:UT):UT:=λenv n Q=>u env n λb n1=>if b=true then Q true n1 else w env n1 Q
noncomputable def rT (u:UT):UT:=λenv n Q=>u env n λb n1=>Q (!b) n1
variable {u w:UT}{rest:List Expr}
theorem pv (h:KB X M a u):KW X M (.BoolOp .And [a] pos) u:=⟨BY h.run⟩
theorem Q4 (h:KB X M a u):KW X M (.BoolOp .Or [a] pos) u:=⟨M5 h.run⟩
theorem w_and (ha:KB X M a u)(hb:KW X M (.BoolOp .And (b::rest) pos) w):KW X M (.BoolOp .And (a::b::rest) pos) (pq u w) :=
 .of (FD ha.run hb.run) λσ H R env pn S n Q ok hu k=>⟨env,pn,S,n,_,ok,hu,λc H1 n1 x1 g1 q=>by
  cases c with
  | true=>exact⟨env,pn,S,n1,Q,ok.step x1 g1,q,λb H2 n2 x2 g2 q2=>k b H2 n2 (x1.trans x2) g2 q2⟩
  | false=>exact k false H1 n1 x1 g1 q⟩
theorem w_or (ha:KB X M a u)(hb:KW X M (.BoolOp .Or (b::rest) pos) w):KW X M (.BoolOp .Or (a::b::rest) pos) (UL u w) :=
 .of (Qm ha.run hb.run) λσ H R env pn S n Q ok hu k=>⟨env,pn,S,n,_,ok,hu,λc H1 n1 x1 g1 q=>by
  cases c with
  | false=>exact⟨env,pn,S,n1,Q,ok.step x1 g1,q,λb H2 n2 x2 g2 q2=>k b H2 n2 (x1.trans x2) g2 q2⟩
  | true=>exact k true H1 n1 x1 g1 q⟩
theorem KW.kb (h:KW X M e u):KB X M e u:=⟨h.run.pt⟩
theorem xV (h:KB X M a u):KB X M (.UnaryOp .Not a pos) (rT u):=.of (M6 h.run) λσ H R env pn S n Q ok hu k=>⟨env,pn,S,n,_,ok,hu,λc H1 n1 x1 g1 q=>k _ H1 n1 x1 g1 q⟩
noncomputable def Cn (ua:UX):UX:=λenv n Q=>ua env n λx n1=>UK x λb=>Q (.bool (!b)) n1
theorem k_not (ha:KE X M a ua):KE X M (.UnaryOp .Not a pos) (Cn ua) :=
 .of (zJ ha.run) λσ H R env pn S n Q ok hu k=>⟨env,pn,S,n,_,ok,hu,λv H1 d n1 r1 x1 g1 _ q=>by
  cases d with
  | bool c=>exact⟨c,r1.lD,k _ H1 _ n1 (.bl _) x1 g1 q⟩
  | _=>exact False.elim q⟩
noncomputable def K9 (t:UT)(ua ub:UX):UX:=λenv n Q=>t env n λc n1=>if c=true then ua env n1 Q else ub env n1 Q
theorem Js (hc:KB X M c u)(ha:KE X M a ua)(hb:KE X M b ub):KE X M (.IfExp c a b pos) (K9 u ua ub) :=
 .of (FE hc.run ha.run hb.run) λσ H R env pn S n Q ok hu k=>⟨env,pn,S,n,_,ok,hu,λc H1 n1 x1 g1 q=>by
  cases c with
  | true=>exact⟨env,pn,S,n1,Q,ok.step x1 g1,q,λv H2 d n2 r2 x2 g2 _ q2=>k v H2 d n2 r2 (x1.trans x2) g2 q2⟩
  | false=>exact⟨env,pn,S,n1,Q,ok.step x1 g1,q,λv H2 d n2 r2 x2 g2 _ q2=>k v H2 d n2 r2 (x1.trans x2) g2 q2⟩⟩
noncomputable def Nx:ad->Option ad | .int i=>some (.int (-i)) | _=>none
noncomputable def Wf (f:ad->Option ad)(ua:UX):UX:=λenv n Q=>ua env n λx n1=>pk (f x) λd=>Q d n1
theorem Q5 (ha:KE X M a ua):KE X M (.UnaryOp .USub a pos) (Wf Nx ua) :=
 .of (Ql Ms ha.run) λσ H R env pn S n Q ok hu k=>⟨env,pn,S,n,_,ok,hu,λv H1 d n1 r1 x1 g1 _ q=>by
  obtain⟨d',e,q⟩:=q
  cases d with
  | int i=>cases e;exact⟨i,r1.eO,k _ H1 _ n1 (.int _) x1 g1 q⟩
  | _=>cases e⟩
end
noncomputable def iS:ad->ad->Option ad
 | .int i,.int j=>some (.int (i+j))
 | .tuple xs,.tuple ys=>if xs.length+ys.length<=ax then some (.tuple (xs++ys)) else none
 | .list xs,.list ys=>if xs.length+ys.length<=ax then some (.list (xs++ys)) else none
 | .str x,.str y=>if x.length+y.length<=ax then some (.str (x++y)) else none
 | _,_=>none
noncomputable def pz:ad->ad->Option ad | .int i,.int j=>some (.int (i - j)) | _,_=>none
instance (i j:Int):Decidable (zo i j):=by unfold zo;infer_instance
instance (i j:Int):Decidable (E6 i j):=by unfold E6;infer_instance
instance (i j:Int):Decidable (Ml i j):=by unfold Ml;infer_instance
noncomputable def Ab:ad->ad->Option ad
 | .int i,.int j=>if zo i j then some (.int (i * j)) else none
 | .list xs,.int k=>if -(2 ^ 63)<=k/\k<2 ^ 63/\xs.length * k.toNat<=ax then some (.list (List.replicate k.toNat xs).flatten) else none
 | .tuple xs,.int k=>if 1<=k/\k<2 ^ 40/\xs≠[]/\xs.length * k.toNat<=16000000 then some (.tuple (List.replicate k.toNat xs).flatten) else none
 | _,_=>none
noncomputable def Gm:ad->ad->Option ad | .int i,.int j=>if E6 i j then some (.int (i * 2 ^ j.toNat)) else none | _,_=>none
noncomputable def Jt:ad->ad->Option ad | .int i,.int j=>if 0<=j then some (.int (i / 2 ^ j.toNat)) else none | _,_=>none
noncomputable def OP:ad->ad->Option ad | .int i,.int j=>some (.bool (decide (i<j))) | _,_=>none
noncomputable def K':ad->ad->Option ad | .int i,.int j=>some (.bool (decide (j<i))) | _,_=>none
noncomputable def uT (x y:ad):Option ad:=if x.canLay0=true/\y.canLay0=true/\x.depth<=60 then some (.bool (ad.eqv x y)) else none
noncomputable def Gn (x y:ad):Option ad:=if x.canLay0=true/\y.canLay0=true/\x.depth<=60 then some (.bool (!PyData.eqv x y)) else none
section
variable {X:Cx}
theorem Co {f:ae->ae->Sem ae}{g:Int->Int->ad}{gv:Int->Int->V}{op:ad->ad->Option ad}(h:jU X f (HI gv))(hg:∀i j S H,eB S H (g i j) (gv i j))(ho:∀x y d,op x y=some d->∃i j,x=.int i/\y=.int j/\d=g i j):xU X f op :=
 ⟨_,h,λgs S H dx dy x y d R _ _ r1 r2 e k=>by
  obtain⟨i,j,rfl,rfl,rfl⟩:=ho _ _ _ e;exact⟨i,j,r1.eO,r2.eO,k _ H (hg i j S H) (.refl _ _)⟩⟩
theorem Q6 {f:ae->ae->Sem ae}{C:Int->Int->Prop}{g:Int->Int->ad}{gv:Int->Int->V}{op:ad->ad->Option ad}(h:jU X f (rI C gv))(hg:∀i j S H,eB S H (g i j) (gv i j))(ho:∀x y d,op x y=some d->∃i j,x=.int i/\y=.int j/\C i j/\d=g i j):xU X f op :=
 ⟨_,h,λgs S H dx dy x y d R _ _ r1 r2 e k=>by
  obtain⟨i,j,rfl,rfl,hc,rfl⟩:=ho _ _ _ e;exact⟨i,j,r1.eO,r2.eO,hc,k _ H (hg i j S H) (.refl _ _)⟩⟩
theorem ou:xU X (binaryOp .Sub) pz:=Co (g:=λi j=>.int (i - j)) Mm (λ_ _ _ _=>.int _) λx y d e=>by
 cases x<;>cases y<;>simp[pz] at e;exact⟨_,_,rfl,rfl,e.symm⟩
theorem Q7:xU X (compareOp .Lt) OP:=Co (g:=λi j=>.bool (decide (i<j))) PD (λ_ _ _ _=>.bl _) λx y d e=>by
 cases x<;>cases y<;>simp[OP] at e;exact⟨_,_,rfl,rfl,e.symm⟩
theorem Ny:xU X (compareOp .Gt) K':=Co (g:=λi j=>.bool (decide (j<i))) Ks (λ_ _ _ _=>.bl _) λx y d e=>by
 cases x<;>cases y<;>simp[K'] at e;exact⟨_,_,rfl,rfl,e.symm⟩
theorem Q8:xU X (binaryOp .LShift) Gm:=Q6 (g:=λi j=>.int (i * 2 ^ j.toNat)) Mp (λ_ _ _ _=>.int _) λx y d e=>by
 cases x<;>cases y<;>simp[Gm] at e;exact⟨_,_,rfl,rfl,e.1,e.2.symm⟩
theorem Q9:xU X (binaryOp .RShift) Jt:=Q6 (g:=λi j=>.int (i / 2 ^ j.toNat)) Mq (λ_ _ _ _=>.int _) λx y d e=>by
 cases x<;>cases y<;>simp[Jt] at e;exact⟨_,_,rfl,rfl,e.1,e.2.symm⟩
theorem fC.reads (r:fC gs S H d v)(c0:d.canLay0=true)(ok:jT P w H h)(rv:RelV v u):∃as,Reads h u d as:=by
 rcases r with r | ⟨ds,a,xs,rfl,rfl,ha,rs,_⟩ | ⟨t,kvs,a,xs,rfl,_⟩
 .exact eB.reads ok c0 r rv
 .cases (show u=ae.ref a from rv)
  obtain⟨_,its,n,rv,e⟩:=ok a _ ha;obtain⟨as,ra⟩:=dP.reads ok (by simpa [ad.canLay0] using c0) rs rv;exact⟨_,.list e rfl rfl (by simpa using ra)⟩
 .simp[h8,ad.canLay0] at c0
noncomputable def Ra (neg:Bool):R2:=λx y H Q=>∃gs S dx dy,fC gs S H dx x/\fC gs S H dy y/\dx.canLay0=true/\dy.canLay0=true/\dx.depth<=60/\Q (.bl (if neg then !PyData.eqv dx dy else ad.eqv dx dy)) H
theorem Nz (MZ:X.A.units+64<cLine):jU X (compareOp .Eq) (Ra false):=by
 intro pins s σ H x y v u Q I rx ry h;obtain⟨gs,S,dx,dy,h1,h2,c1,c2,d1,q⟩:=h;obtain⟨as,ra⟩:=h1.reads c1 I.hok rx;obtain⟨bs,rb⟩:=h2.reads c2 I.hok ry;exact SeqAt.compareEq_reads ra rb c1 c2 (!1) ⟨.bl _,H,I,rfl,q⟩
theorem NA (MZ:X.A.units+64<cLine):jU X (compareOp .NotEq) (Ra true):=by
 intro pins s σ H x y v u Q I rx ry h;obtain⟨gs,S,dx,dy,h1,h2,c1,c2,d1,q⟩:=h;obtain⟨as,ra⟩:=h1.reads c1 I.hok rx;obtain⟨bs,rb⟩:=h2.reads c2 I.hok ry;exact SeqAt.compareNe_reads ra rb c1 c2 (!1) ⟨.bl _,H,I,rfl,q⟩
theorem rV (MZ:X.A.units+64<cLine):xU X (compareOp .Eq) uT:=⟨_,Nz MZ,λgs S H dx dy x y d R _ _ r1 r2 e k=>by
 unfold uT at e;split at e
 .rename_i hc
  cases e;exact⟨gs,S,dx,dy,r1,r2,hc.1,hc.2.1,hc.2.2,k _ H (.bl _) (.refl _ _)⟩
 .cases e⟩
theorem Ju (MZ:X.A.units+64<cLine):xU X (compareOp .NotEq) Gn:=⟨_,NA MZ,λgs S H dx dy x y d R _ _ r1 r2 e k=>by
 unfold Gn at e;split at e
 .rename_i hc
  cases e;exact⟨gs,S,dx,dy,r1,r2,hc.1,hc.2.1,hc.2.2,k _ H (.bl _) (.refl _ _)⟩
 .cases e⟩
end
section
variable {X:Cx}
theorem fC.La {K:W.Frag}{gs S:List Addr}{H:Hp}{ds:List ad}{v:V}(h:fC gs S H (.tuple ds) v):∃a xs,v=.ref a/\iW K H a xs/\H a=some (.tup xs)/\dP S H ds xs:=let ⟨a,xs,e,ha,r⟩:=h.fY;⟨a,xs,e,iW.of ha,ha,r⟩
theorem fC.OQ {K:W.Frag}{gs S:List Addr}{H:Hp}{ds:List ad}{v:V}(h:fC gs S H (.list ds) v):∃a xs,v=.ref a/\gn K H a xs/\H a=some (.lst xs)/\dP S H ds xs:=let ⟨a,xs,e,ha,r⟩:=h.fL;⟨a,xs,e,gn.of ha,ha,r⟩
theorem qE {S:List Addr}{H:Hp}{ds:List ad}{xs:List V}{p:Addr}(hp:H p=none)(r:dP S H ds xs):eB S (eR H p (.tup xs)) (.tuple ds) (.ref p):=.tup dM (r.ext (.new hp))
theorem qF (has:∀a∈S,H a≠none)(hp:H p=none)(r:dP S H ds xs):eB S (eR H p (.lst xs)) (.list ds) (.ref p):=.lst dM (λz=>has p z hp) (r.ext (.new hp))
theorem dP.flat (r:dP S H ds xs)(k:Nat):dP S H (List.replicate k ds).flatten (List.replicate k xs).flatten:=by
 induction k with
 | zero=>exact .nil
 | succ k ih=>rw[aX,aX,cL,cL];exact r.append ih
theorem jm:xU X (binaryOp .Add) iS:=⟨_,((q9.or (T5 X.K)).or MM).or zq,λgs S H dx dy x y d R has sz r1 r2 e k=>by
 cases dx with
 | int i=>cases dy with
  | int j=>cases e;exact .inl (.inl (.inl ⟨i,j,r1.eO,r2.eO,k _ H (.int _) (.refl _ _)⟩))
  | _=>cases e
 | str i=>cases dy with
  | str j =>
   simp only[iS] at e;split at e
   .rename_i hz
    cases e;exact .inr ⟨i,j,r1.kB,r2.kB,hz,k _ H (.str _) (.refl _ _)⟩
   .cases e
  | _=>cases e
 | tuple ds=>cases dy with
  | tuple es =>
   simp only[iS] at e;split at e
   .rename_i hz
    cases e;obtain⟨a,xs,rfl,s1,h1,q1⟩:=r1.La (K:=X.K);obtain⟨b,ys,rfl,s2,h2,q2⟩:=r2.La (K:=X.K);refine .inl (.inl (.inr ⟨a,b,xs,ys,rfl,rfl,s1,s2,by rw[q1.length,q2.length];exact hz,λe=>?_,λe=>?_,λp hp=>k _ _ (qE hp (q1.append q2)) (.new hp)⟩))
    .subst e
     cases ds with
     | nil=>exact k _ H (.tup h2 q2) (.refl _ _)
     | cons d ds=>have:=q1.length;simp at this
    .subst e
     cases es with
     | nil=>rw[bn] at k;exact k _ H (.tup h1 q1) (.refl _ _)
     | cons d ds=>have:=q2.length;simp at this
   .cases e
  | _=>cases e
 | list ds=>cases dy with
  | list es =>
   simp only[iS] at e;split at e
   .rename_i hz
    cases e;obtain⟨a,xs,rfl,h1,q1⟩:=r1.fL;obtain⟨b,ys,rfl,h2,q2⟩:=r2.fL;exact .inl (.inr ⟨a,b,xs,ys,rfl,rfl,h1,h2,by rw[q1.length,q2.length];exact hz,λp hp=>k _ _ (qF has hp (q1.append q2)) (.new hp)⟩)
   .cases e
  | _=>cases e
 | _=>cases dy<;>cases e⟩
theorem Rb:xU X (binaryOp .Mult) Ab:=⟨_,(o6.or MN).or (Gg X.K),λgs S H dx dy x y d R has sz r1 r2 e k=>by
 cases dx with
 | int i=>cases dy with
  | int j =>
   simp only[Ab] at e;split at e
   .rename_i hz
    cases e;exact .inl (.inl ⟨i,j,r1.eO,r2.eO,hz,k _ H (.int _) (.refl _ _)⟩)
   .cases e
  | _=>cases e
 | list ds=>cases dy with
  | int j =>
   simp only[Ab] at e;split at e
   .rename_i hz
    cases e;obtain⟨a,xs,rfl,h1,q1⟩:=r1.fL;exact .inl (.inr ⟨a,j,xs,rfl,r2.eO,h1,hz.1,hz.2.1,by rw[q1.length];exact hz.2.2,λp hp=>k _ _ (qF has hp (q1.flat _)) (.new hp)⟩)
   .cases e
  | _=>cases e
 | tuple ds=>cases dy with
  | int j =>
   simp only[Ab] at e;split at e
   .rename_i hz
    cases e;obtain⟨a,xs,rfl,s1,h1,q1⟩:=r1.La (K:=X.K);by_cases h:j=1
    .subst h
     refine .inr (.inl ⟨a,xs,rfl,r2.eO,s1,k _ H ?_ (.refl _ _)⟩);simpa using eB.tup h1 q1
    .refine .inr (.inr ⟨a,j,xs,rfl,r2.eO,s1,λz=>?_,!1,hz.2.1,by rw[q1.length];exact hz.2.2.2,λp hp=>k _ _ (qE hp (q1.flat _)) (.new hp)⟩)
     subst z;have:=q1.length;exact hz.2.2.1 (by simpa using this.symm)
   .cases e
  | _=>cases e
 | _=>cases dy<;>cases e⟩
end
noncomputable def jy (x y:ad):Option ad:=match x,y with | .tuple ds,.int i=>rk ds i | .list ds,.int i=>rk ds i | _,_=>none
theorem xW (r:dP S H ds xs)(h:rk ds i=some d):∃v,rk xs i=some v/\eB S H d v:=by
 unfold rk at h ⊢;rw[r.length]
 cases e:Kx ds.length i with
 | none=>rw[e] at h;cases h
 | some j =>
  rw[e] at h;obtain⟨x,hx,rx⟩:=r.at (show ds[j]? = some d from h);exact⟨x,hx,rx⟩
section
variable {X:Cx}{M:Fr}{a b e:Expr}{ua ub:UX}{pos p2:Pos}
theorem gQ (ha:KL X M a ua)(hb:KL X M b ub)(hs:vA b:=by exact λ_ _=>rfl):KE X M (.Subscript a b pos) (eJ jy ua ub) :=
 .of (iV ((Xh X.K).or (Xi X.K)) ha.run hb.run hs) λσ H R env pn S n Q ok hu k=>Cm (λgs S H dx dy x y d R _ _ r1 r2 e k=>by
  cases dx with
  | tuple ds=>cases dy with
   | int i =>
    obtain⟨a,xs,rfl,sq,_,rs⟩:=r1.La (K:=X.K);obtain⟨v,hv,rv⟩:=xW rs (show rk ds i=some d from e);exact .inl ⟨a,xs,i,v,rfl,r2.eO,sq,hv,k v H rv (.refl _ _)⟩
   | _=>cases e
  | list ds=>cases dy with
   | int i =>
    obtain⟨a,xs,rfl,sq,_,rs⟩:=r1.OQ (K:=X.K);obtain⟨v,hv,rv⟩:=xW rs (show rk ds i=some d from e);exact .inr ⟨a,xs,i,v,rfl,r2.eO,sq,hv,k v H rv (.refl _ _)⟩
   | _=>cases e
  | _=>cases dy<;>cases e) ok hu k
noncomputable abbrev UO:=fh->Int->(Option Int->Int->Prop)->Prop
structure KO (X:Cx) (M:Fr) (e:Option Expr) (u:UO):Prop where run:∃t,QO X e t/\∀σ H R env pn S n Q,dY M env pn σ S H n->u env n Q->(∀o H' n',Ext M.gs H H'->M.G H' n'->Q o n'->R o H')->t σ H R
noncomputable def OR:UO:=λ_ n Q=>Q none n
noncomputable def OS (u:UX):UO:=λenv n Q=>u env n λd n1=>match d with | .int i=>Q (some i) n1 | _=>False
theorem vY:KO X M none OR:=⟨_,BZ,λσ H R env pn S n Q ok hu k=>k none H n (.refl _ _) ok.gd hu⟩
theorem vZ (h:KE X M e ua):KO X M (some e) (OS ua):=⟨_,B0 h.run,λσ H R env pn S n Q ok hu k=>⟨env,pn,S,n,_,ok,hu,λv H1 d n1 r1 x1 g1 _ q=>by
 cases d with
 | int i=>exact⟨i,r1.eO,k _ H1 n1 x1 g1 q⟩
 | _=>exact False.elim q⟩⟩
noncomputable def Ac {α:Type}(xs:List α)(lo hi:Option Int):List α:=(xs.drop (HT.gp xs.length 0 lo)).take (HT.gp xs.length xs.length hi - HT.gp xs.length 0 lo)
noncomputable def Rc (d:ad)(lo hi:Option Int):Option ad:=match d with | .tuple ds=>some (.tuple (Ac ds lo hi)) | .list ds=>some (.list (Ac ds lo hi)) | _=>none
noncomputable def OT (u:UX)(ul uh:UO):UX:=λenv n Q=>u env n λd n1=>ul env n1 λlo n2=>uh env n2 λhi n3=>pk (Rc d lo hi) λd=>Q d n3
theorem rW (r:dP S H ds xs)(lo hi:Option Int):dP S H (Ac ds lo hi) (nS xs lo hi):=by
 unfold Ac nS;rw[r.length];exact (r.drop _).take _
theorem D5 {S:List Addr}{H:Hp}{ds:List ad}{xs:List V}(r:dP S H ds xs){lo hi:Option Int}(h:nS xs lo hi=xs):Ac ds lo hi=ds:=by
 have:=rW r lo hi;rw[h] at this;exact dP.one this r
theorem NB {lo hi:Option Expr}{ul uh:UO}(he:KL X M e ua)(hl:KO X M lo ul)(hu:KO X M hi uh):KE X M (.Subscript e (.Slice lo hi none p2) pos) (OT ua ul uh):=by
 obtain⟨tl,q1,l1⟩:=hl.run;obtain⟨th,q2,l2⟩:=hu.run;refine .of (xp ((Xj X.K).or (V5 X.K)) he.run q1 q2) λσ H R env pn S n Q ok hu k=>⟨env,pn,S,n,_,ok,hu,λv H1 d n1 r1 x1 g1 _ q=>?_⟩;refine l1 σ H1 _ env pn S n1 _ (ok.step x1 g1) q λlo H2 n2 x2 g2 q=>?_;refine l2 σ H2 _ env pn S n2 _ ((ok.step x1 g1).step x2 g2) q λhi H3 n3 x3 g3 q=>?_;obtain⟨d',e,q⟩:=q;have Lb:=((ok.step x1 g1).step x2 g2).step x3 g3;have r3:=(r1.ext ok.tf x2).ext ok.tf x3;have NC:=(x1.trans x2).trans x3
 cases d with
 | tuple ds =>
  cases e;obtain⟨a,xs,rfl,sq,ha,rs⟩:=r3.La (K:=X.K);refine .inl ⟨a,xs,rfl,sq,λh=>?_,λp hp=>k _ _ _ n3 (qE hp (rW rs lo hi)) (NC.trans (.new hp)) (M.ik g3 (.new (S:=[]) hp) (!4)) q⟩;have:=D5 rs h;exact k _ H3 _ n3 (.tup ha (by rw[this];exact rs)) NC g3 q
 | list ds =>
  cases e;obtain⟨a,xs,rfl,sq,ha,rs⟩:=r3.OQ (K:=X.K);exact .inr ⟨a,xs,rfl,sq,λp hp=>k _ _ _ n3 (qF Lb.has hp (rW rs lo hi)) (NC.trans (.new hp)) (M.ik g3 (.new (S:=[]) hp) (!4)) q⟩
 | _=>cases e
end
structure rX (X:Cx) (fv:ae) (f:List ad->Option ad):Prop where
 ex:∃r,gj X fv r/\∀gs S H ds vs d (R:VK),(∀a∈S,H a≠none)->j6 H->jB gs S H ds vs->f ds=some d->(∀v H',eB S H' d v->Ext [] H H'->R v H')->r vs H R
noncomputable def nP (f:List ad->Option ad)(ua:UA):UX:=λenv n Q=>ua env n λds n1=>pk (f ds) λd=>Q d n1
section
variable {X:Cx}{M:Fr}{e:Expr}{es:List Expr}{ua:UA}{p pos:Pos}{f:List ad->Option ad}{id T:String}{x:Str}
theorem Lc (hr:∀gs S H ds vs d (R:VK),(∀a∈S,H a≠none)->j6 H->jB gs S H ds vs->f ds=some d->(∀v H',eB S H' d v->Ext [] H H'->R v H')->r vs H R)(ok:dY M env pn σ S H n)(hu:nP f ua env n Q)(k:∀v H' d n',eB S H' d v->Ext M.gs H H'->M.G H' n'->Q d n'->R v H'):PQ r (Gi M ua) σ H R :=
 ⟨env,pn,S,n,_,ok,hu,λvs H1 ds n1 r1 x1 g1 sz q=>by
  obtain⟨d,e,q⟩:=q;exact hr M.gs S H1 ds vs d R (ok.step x1 g1).has sz r1 e λv H2 r2 x2=>k v H2 d n1 r2 (x1.trans (x2.mono (!4))) (M.ik g1 x2 (!4)) q⟩
theorem xX (hc:rX X (.builtin id) f)(hm:X.mg x=none)(ha:K6 X M (e::es) ua)(hg:Gl X x:=by rfl)(hv:bootBuiltins x=some (.builtin id):=by decide +kernel)(hn:x ≠ "__name__" := by decide)(jj:(x == ("__debug__" : Str))=false:=by decide) :
  KE X M (.Call (.Name x p) (e::es) [] pos) (nP f ua):=by
 obtain⟨r,h1,h2⟩:=hc.ex;exact .of (fO h1 hg hm hv ha.run hn jj) λσ H R env pn S n Q ok hu k=>Lc h2 ok hu k
theorem xY (hc:rX X (.type T) f)(hm:X.mg x=none)(ha:K6 X M (e::es) ua)(hg:Gl X x:=by rfl)(hv:bootBuiltins x=some (.type T):=by decide +kernel)(hn:x ≠ "__name__" := by decide)(jj:(x == ("__debug__" : Str))=false:=by decide) :
  KE X M (.Call (.Name x p) (e::es) [] pos) (nP f ua):=by
 obtain⟨r,h1,h2⟩:=hc.ex;exact .of (jb h1 hg hm hv ha.run hn jj) λσ H R env pn S n Q ok hu k=>Lc h2 ok hu k
end
theorem jB.one (h:jB gs S H [d] vs):∃v,vs=[v]/\fC gs S H d v:=let ⟨v,r,e,h1,h2⟩:=h;⟨v,by rw[e,show r=[] from h2],h1⟩
theorem jB.two (h:jB gs S H [d,e] vs):∃v w,vs=[v,w]/\fC gs S H d v/\fC gs S H e w:=let ⟨v,r,e,h1,h2⟩:=h;let ⟨w,e2,h3⟩:=jB.one h2;⟨v,w,by rw[e,e2],h1,h3⟩
noncomputable def j8:List ad->Option ad | [.tuple ds]=>some (.int ds.length) | [.list ds]=>some (.int ds.length) | _=>none
noncomputable def uU:List ad->Option ad | [.int i,.int j]=>some (.int (if j<i then j else i)) | _=>none
noncomputable def uV:List ad->Option ad | [.int i,.int j]=>some (.int (if j > i then j else i)) | _=>none
noncomputable def intD:List ad->Option ad | [.int i]=>some (.int i) | [.bool b]=>some (.int (if b then 1 else 0)) | _=>none
noncomputable def gx:List ad->Option ad | [.tuple ds]=>some (.tuple ds) | [.list ds]=>some (.tuple ds) | _=>none
section
variable {X:Cx}
theorem uW:rX X (.builtin "len") j8:=⟨_,T1 X.K,λgs S H ds vs d R _ _ rs e k=>by
 rcases ds with _ | ⟨d1,_ | ⟨d2,l⟩⟩
 .cases e
 .obtain⟨v,rfl,r⟩:=rs.one
  cases d1 with
  | tuple ds =>
   cases e;obtain⟨a,xs,rfl,sq,_,rr⟩:=r.La (K:=X.K);refine⟨a,xs,rfl,.inr sq,?_⟩;rw[rr.length];exact k _ H (.int _) (.refl _ _)
  | list ds =>
   cases e;obtain⟨a,xs,rfl,sq,_,rr⟩:=r.OQ (K:=X.K);refine⟨a,xs,rfl,.inl sq,?_⟩;rw[rr.length];exact k _ H (.int _) (.refl _ _)
  | _=>cases e
 .cases d1<;>cases e⟩
theorem xZ {f:List ad->Option ad}(hf:∀ds d,f ds=some d->∃i j,ds=[.int i,.int j]){gs S:List Addr}{H:Hp}{ds:List ad}{vs:List V}{d:ad}(rs:jB gs S H ds vs)(e:f ds=some d):∃i j,ds=[.int i,.int j]/\vs=[.int i,.int j]:=by
 obtain⟨i,j,rfl⟩:=hf _ _ e;obtain⟨v,w,rfl,r,r2⟩:=rs.two;exact⟨i,j,rfl,by rw[r.eO,r2.eO]⟩
theorem Jv (ds:List ad)(d:ad)(e:uU ds=some d):∃i j,ds=[.int i,.int j]:=by
 unfold uU at e;split at e
 .exact⟨_,_,rfl⟩
 .cases e
theorem Jw (ds:List ad)(d:ad)(e:uV ds=some d):∃i j,ds=[.int i,.int j]:=by
 unfold uV at e;split at e
 .exact⟨_,_,rfl⟩
 .cases e
theorem ND (hc:X.calm=true):rX X (.builtin "min") uU:=⟨_,Dj hc,λgs S H ds vs d R _ _ rs e k=>by
 obtain⟨i,j,rfl,rfl⟩:=xZ Jv rs e;cases e;exact⟨i,j,rfl,k _ H (.int _) (.refl _ _)⟩⟩
theorem NF (hc:X.calm=true):rX X (.builtin "max") uV:=⟨_,Di hc,λgs S H ds vs d R _ _ rs e k=>by
 obtain⟨i,j,rfl,rfl⟩:=xZ Jw rs e;cases e;exact⟨i,j,rfl,k _ H (.int _) (.refl _ _)⟩⟩
theorem Rf:rX X (.type "int") intD:=⟨_,Dk,λgs S H ds vs d R _ _ rs e k=>by
 rcases ds with _ | ⟨d1,_ | ⟨d2,l⟩⟩
 .cases e
 .obtain⟨v,rfl,r⟩:=rs.one
  cases d1 with
  | int i=>cases e;exact .inl ⟨i,by rw[r.eO],k _ H (.int _) (.refl _ _)⟩
  | bool i=>cases e;exact .inr ⟨i,by rw[r.lD],k _ H (.int _) (.refl _ _)⟩
  | _=>cases e
 .cases d1<;>cases e⟩
theorem kG:rX X (.type "tuple") gx:=⟨_,zN X.K,λgs S H ds vs d R _ _ rs e k=>by
 rcases ds with _ | ⟨d1,_ | ⟨d2,l⟩⟩
 .cases e
 .obtain⟨v,rfl,r⟩:=rs.one
  cases d1 with
  | tuple ds =>
   cases e;obtain⟨a,xs,rfl,sq,ha,rr⟩:=r.La (K:=X.K);exact⟨a,xs,rfl,.inr ⟨sq,k _ H (.tup ha rr) (.refl _ _)⟩⟩
  | list ds =>
   cases e;obtain⟨a,xs,rfl,sq,_,rr⟩:=r.OQ (K:=X.K);exact⟨a,xs,rfl,.inl ⟨sq,λl hl=>k _ _ (qE hl rr) (.new hl)⟩⟩
  | _=>cases e
 .cases d1<;>cases e⟩
end
section
theorem eN {α:Type}{l:List (Option α)}{i j:Nat}{x:α}{y:Option α}(h:(l.set i y)[j]? = some (some x)):(i=j/\y=some x)\/(i≠j/\l[j]? = some (some x)):=by
 by_cases e:i=j
 .subst e
  by_cases hl:i<l.length
  .rw[ce hl] at h;exact .inl ⟨rfl,Option.some.inj h⟩
  .rw[bp (by rw[a7];omega)] at h;cases h
 .rw[aK e] at h;exact .inr ⟨e,h⟩
theorem kH {α:Type}{l:List (Option α)}{i:Nat}{y:Option α}(h:i<l.length):(l.set i y)[i]? = some y:=ce h
theorem dY.set (ok:dY M env pn σ S H n)(r:eB S H d v)(hi:i ∉ M.fd):dY M (env.set i (some (.s d))) pn (σ.set i (some v)) S H n:=by
 refine⟨λj e he=>?_,λj k ds es a h1 h2 h3 h4=>?_,by rw[a7,a7,ok.len],λj hj=>?_,ok.gd,ok.ext,ok.s0,ok.sn,ok.has,ok.pin⟩
 .have hl:i<env.length->i<σ.length:=λz=>by rw[<- ok.len];exact z
  rcases eN he with⟨rfl,e1⟩ | ⟨ne,e1⟩
  .cases e1
   have:i<env.length:=by
    by_cases z:i<env.length
    .exact z
    .rw[bp (by rw[a7];omega)] at he;cases he
   exact⟨v,kH (hl this),r⟩
  .obtain⟨v',hv,rv⟩:=ok.val j e e1
   exact⟨v',by rw[aK ne];exact hv,rv⟩
 .rcases eN h1 with⟨_,e1⟩ | ⟨n1,e1⟩
  .cases e1
  .rcases eN h2 with⟨_,e2⟩ | ⟨n2,e2⟩
   .cases e2
   .rw[aK n1] at h3
    rw[aK n2] at h4;exact ok.ne j k ds es a e1 e2 h3 h4
 .have:i≠j:=λz=>hi (z ▸ hj)
  rw[aK this];exact ok.D3 j hj
theorem dY.anew (ok:dY M env pn σ S H n)(h0:H a=none):M.H0 a=none:=by
 by_cases z:a∈M.gs
 .exact absurd h0 (M.vX ok.gd a z)
 .exact ok.ext.fresh z h0
theorem p7.fresh (h:p7 M S H e v)(h0:H a=none):p7 M (a::S) H e v:=by
 cases e with
 | s d=>exact eB.fresh h0 h
 | o ds =>
  obtain⟨b,xs,e,hb,r,hs,h1⟩:=h;exact⟨b,xs,e,hb,r.fresh h0,ao _ hs,h1⟩
 | x c as =>
  obtain⟨b,dx,vs,e,ha,hd,r,g1,g2⟩:=h;exact⟨b,dx,vs,e,ha,hd,r.fresh h0,g1,g2⟩
 | d b t kvs =>
  obtain⟨e,xs,hb,r,hk,hs,h1⟩:=h;exact⟨e,xs,hb,r.fresh h0,hk,ao _ hs,h1⟩
theorem dY.Rg (ok:dY M env pn σ S H n)(h0:H a=none)(h1:H' a=some (.lst xs))(r:dP (a::S) H' ds xs)(x:Ext M.gs H H')(g:M.G H' n')(hi:i ∉ M.fd) :
  dY M (env.set i (some (.o ds))) pn (σ.set i (some (.ref a))) (a::S) H' n':=by
 have hg:∀b∈M.gs,b∈a::S:=λb hb=>ao _ (ok.tf b hb)
 have Wg:∀(j:Nat) (es:List ad) (b:Addr),env[j]? = some (some (.o es))->σ[j]? = some (some (.ref b))->b≠a:=λj es b e1 e2 z=>by
  obtain⟨v',hv,rv⟩:=ok.val j _ e1;obtain⟨c,xs,e,hc,_,hs,_⟩:=rv;subst e;rw[e2] at hv;cases hv;rw[z] at hs;exact ok.has _ hs h0
 have lu:=ok.step x g;refine⟨λj e he=>?_,λj k qD es b h2 h3 h4 h5=>?_,by rw[a7,a7,ok.len],λj hj=>?_,g,lu.ext,λb hb=>ao _ (ok.s0 b hb),λb hb=>?_,λb hb=>?_,λp hp=>?_⟩
 .rcases eN he with⟨rfl,e1⟩ | ⟨ne,e1⟩
  .cases e1
   have:i<env.length:=by
    by_cases z:i<env.length
    .exact z
    .rw[bp (by rw[a7];omega)] at he;cases he
   exact⟨.ref a,kH (by rw[<- ok.len];exact this),a,xs,rfl,h1,r,ar ..,ok.anew h0⟩
  .obtain⟨v',hv,rv⟩:=ok.val j e e1
   exact⟨v',by rw[aK ne];exact hv,(rv.fresh h0).step hg x⟩
 .rcases eN h2 with⟨rfl,e1⟩ | ⟨n1,e1⟩
  .have OU:i<σ.length:=by
    by_cases z:i<σ.length
    .exact z
    .rw[bp (by rw[a7];omega)] at h4;cases h4
   rw[kH OU] at h4;cases h4;rcases eN h3 with⟨e3,_⟩ | ⟨n2,e2⟩
   .exact e3
   .rw[aK n2] at h5
    exact absurd rfl (Wg k _ _ e2 h5)
  .rw[aK n1] at h4
   rcases eN h3 with⟨rfl,e2⟩ | ⟨n2,e2⟩
   .have OU:i<σ.length:=by
     by_cases z:i<σ.length
     .exact z
     .rw[bp (by rw[a7];omega)] at h5;cases h5
    rw[kH OU] at h5;cases h5;exact absurd rfl (Wg j _ _ e1 h4)
   .rw[aK n2] at h5
    exact ok.ne j k _ _ b e1 e2 h4 h5
 .have:i≠j:=λz=>hi (z ▸ hj)
  rw[aK this];exact ok.D3 j hj
 .rcases au.mp hb with z | z
  .rw[z];exact .inr (ok.anew h0)
  .exact ok.sn b z
 .rcases au.mp hb with z | z
  .rw[z,h1];simp
  .exact lu.has b z
 .exact ((ok.pin p hp).fresh h0).ext (x.mono hg)
theorem dY.put (ok:dY M env pn σ S H n){ds es:List ad}{a:Addr}{xs ys:List V}(he:env[i]? = some (some (.o ds)))(hv:σ[i]? = some (some (.ref a)))(ha:H a=some (.lst xs))(r:dP S H es ys):dY M (env.set i (some (.o es))) pn σ S (eR H a (.lst ys)) n:=by
 obtain⟨v',NG,a',nO,e',lx,_,hs,h0⟩:=ok.val i _ he;subst e';rw[hv] at NG;cases NG;have x:Ext [a] H (eR H a (.lst ys)):=.set (!4) ha;have xS:Ext S H (eR H a (.lst ys)):=x.mono (by simpa using hs);refine⟨λj e hj=>?_,λj k qD ji b h2 h3 h4 h5=>?_,by rw[a7,ok.len],ok.D3,M.ik ok.gd x (by simpa using h0),ok.ext.TX h0 ha,ok.s0,ok.sn,λb hb=>?_,λp hp=>(ok.pin p hp).ext xS⟩
 .rcases eN hj with⟨rfl,e1⟩ | ⟨ne,e1⟩
  .cases e1
   exact⟨_,hv,a,ys,rfl,dM,r.ext xS,hs,h0⟩
  .obtain⟨w,hw,oY⟩:=ok.val j e e1
   refine⟨w,hw,?_⟩
   cases e with
   | s d=>exact eB.ext xS oY
   | o ji =>
    obtain⟨b,zs,e2,hb,r2,DF,Gp⟩:=oY;subst e2;have:b≠a:=λz=>ne (ok.ne i j _ _ a he e1 hv (z ▸ hw));exact⟨b,zs,rfl,by rw[dS this];exact hb,r2.ext xS,DF,Gp⟩
   | x c as =>
    obtain⟨b,dx,vs,e2,hb,hd,r2,g1,g2⟩:=oY;exact⟨b,dx,vs,e2,by rw[dS (λz=>by rw[z,ha] at hb;cases hb)];exact hb,by rw[dS (λz=>by rw[z,ha] at hd;cases hd)];exact hd,r2.ext xS,g1,g2⟩
   | d b t kvs =>
    obtain⟨e2,zs,hb,r2,DC,DF,Gp⟩:=oY;exact⟨e2,zs,by rw[dS (λz=>by rw[z,ha] at hb;exact nX hb)];exact hb,r2.ext xS,DC,DF,Gp⟩
 .have g1:∃l,env[j]? = some (some (.o l)):=by
   rcases eN h2 with⟨rfl,_⟩ | ⟨_,e1⟩
   .exact⟨_,he⟩
   .exact⟨_,e1⟩
  have g2:∃l,env[k]? = some (some (.o l)):=by
   rcases eN h3 with⟨rfl,_⟩ | ⟨_,e1⟩
   .exact⟨_,he⟩
   .exact⟨_,e1⟩
  obtain⟨l1,g1⟩:=g1;obtain⟨l2,g2⟩:=g2;exact ok.ne j k _ _ b g1 g2 h4 h5
 .by_cases z:b=a
  .rw[z,dM];simp
  .rw[dS z];exact ok.has b hb
theorem dY.freeze (ok:dY M env pn σ S H n){ds:List ad}(he:env[i]? = some (some (.o ds))):∃a xs S',σ[i]? = some (some (.ref a))/\H a=some (.lst xs)/\eB S' H (.list ds) (.ref a)/\dY M (env.set i (some (.s (.list ds)))) pn σ S' H n:=by
 obtain⟨v',hv,a,xs,rfl,ha,r,hs,h0⟩:=ok.val i _ he;have less:∀b∈S.filter (·≠a),b∈S:=λb hb=>(aW.mp hb).1;have hr:eB (S.filter (·≠a)) H (.list ds) (.ref a):=.lst ha (!4) (r.less less);refine⟨a,xs,S.filter (·≠a),hv,ha,hr,λj e hj=>?_,λj k qD ji b h2 h3 h4 h5=>?_,by rw[a7,ok.len],ok.D3,ok.gd,ok.ext,λb hb=>?_,λb hb=>ok.sn b (less b hb),λb hb=>ok.has b (less b hb),λp hp=>(ok.pin p hp).less less⟩
 .rcases eN hj with⟨rfl,e1⟩ | ⟨ne,e1⟩
  .cases e1
   exact⟨_,hv,hr⟩
  .obtain⟨w,hw,oY⟩:=ok.val j e e1
   refine⟨w,hw,?_⟩
   cases e with
   | s d=>exact eB.less less oY
   | o ji =>
    obtain⟨b,zs,e2,hb,r2,DF,Gp⟩:=oY;subst e2;have:b≠a:=λz=>ne (ok.ne i j _ _ a he e1 hv (z ▸ hw));exact⟨b,zs,rfl,hb,r2.less less,aW.mpr ⟨DF,by simpa using this⟩,Gp⟩
   | x c as =>
    obtain⟨b,dx,vs,e2,hb,hd,r2,g1,g2⟩:=oY;exact⟨b,dx,vs,e2,hb,hd,r2.less less,g1,g2⟩
   | d b t kvs =>
    obtain⟨e2,zs,hb,r2,DC,DF,Gp⟩:=oY;have:b≠a:=λz=>by rw[z,ha] at hb;exact nX hb
    exact⟨e2,zs,hb,r2.less less,DC,aW.mpr ⟨DF,by simpa using this⟩,Gp⟩
 .rcases eN h2 with⟨_,e1⟩ | ⟨_,e1⟩
  .cases e1
  .rcases eN h3 with⟨_,e2⟩ | ⟨_,e2⟩
   .cases e2
   .exact ok.ne j k _ _ b e1 e2 h4 h5
 .refine aW.mpr ⟨ok.s0 b hb,?_⟩
  have:b≠a:=λz=>M.xT b hb (z ▸ h0);simpa using this
theorem dY.pins (ok:dY M env pn σ S H n)(h:∀p∈qn,p∈pn):dY M env qn σ S H n:=⟨ok.val,ok.ne,ok.len,ok.D3,ok.gd,ok.ext,ok.s0,ok.sn,ok.has,λp hp=>ok.pin p (h p hp)⟩
theorem dY.Gr (ok:dY M env pn σ S H n)(h:eB S H d v):dY M env ((d,v)::pn) σ S H n:=⟨ok.val,ok.ne,ok.len,ok.D3,ok.gd,ok.ext,ok.s0,ok.sn,ok.has,λp hp=>by
 rcases au.mp hp with rfl | hp
 .exact h
 .exact ok.pin p hp⟩
end
noncomputable abbrev UG:=ad->fh->(fh->Prop)->Prop
noncomputable def iE (i:Nat):UG:=λd env Q=>Q (env.set i (some (.s d)))
noncomputable def Ad:List UG->List ad->fh->(fh->Prop)->Prop
 | [],[],env,Q=>Q env
 | u::us,d::ds,env,Q=>u d env λeA=>Ad us ds eA Q
 | _,_,_,_=>False
noncomputable def NH (us:List UG):UG:=λd env Q=>match d with | .tuple ds=>Ad us ds env Q | _=>False
noncomputable def Ld (M:Fr)(u:UG):TG:=λv σ H R=>∃env pn S n d N,dY M env pn σ S H n/\eB S H d v/\u d env N/\∀eA σ',dY M eA pn σ' S H n->N eA->R σ' H
noncomputable def NI (M:Fr)(us:List UG):L7:=λvs σ H R=>∃env pn S n ds N,dY M env pn σ S H n/\dP S H ds vs/\Ad us ds env N/\∀eA σ',dY M eA pn σ' S H n->N eA->R σ' H
structure KG (X:Cx) (M:Fr) (e:Expr) (u:UG):Prop where run:QG X e (Ld M u)
structure SK (X:Cx) (M:Fr) (es:List Expr) (us:List UG):Prop where run:KH X es (NI M us)
theorem QG.weaken (h:QG X e t)(w:∀v σ H Q,t' v σ H Q->t v σ H Q):QG X e t':=⟨λpins s σ H v u D I r q=>h.run pins s σ H v u D I r (w _ σ H _ q)⟩
theorem KH.weaken (h:KH X es t)(w:∀v σ H Q,t' v σ H Q->t v σ H Q):KH X es t':=⟨λpins s σ H v u D I r q=>h.run pins s σ H v u D I r (w _ σ H _ q)⟩
section
theorem X9 (hN:X.N.Nodup)(hx:Loc X.env.scope x)(hi:X.N[i]? = some x:=by rfl)(hf:X.fn x=true\/X.env.scope.names.lookup x=some .local:=by (first | exact .inl rfl | exact .inr rfl | assumption))(hfd:i ∉ M.fd:=by decide):KG X M (.Name x pos) (iE i) :=
 ⟨(nZ hN hi hx hf).weaken λv σ H R h=>SJ h λenv pn S n d N h=>h.2.2.2 _ _ (h.1.set h.2.1 hfd) h.2.2.1⟩
theorem Ae:SK X M [] []:=⟨I9.weaken λvs σ H R h=>SJ h λenv pn S n ds N h=>by
 obtain⟨ok,r,hu,k⟩:=h
 cases ds with
 | nil=>exact⟨r.fz,k _ _ ok hu⟩
 | cons d ds=>exact False.elim hu⟩
theorem D6 (h:KG X M e u)(hr:SK X M es us)(hs:(assignEach (e::es) X.env).map (·.2)=assign e X.env::(assignEach es X.env).map (·.2):=by rfl):SK X M (e::es) (u::us) :=
 ⟨(FG h.run hr.run hs).weaken λvs σ H R h=>SJ h λenv pn S n ds N h=>by
  obtain⟨ok,r,hu,k⟩:=h
  cases ds with
  | nil=>exact False.elim hu
  | cons d ds =>
   obtain⟨x,t,rfl,r1,r2⟩:=r.of_cons;exact⟨x,t,rfl,env,pn,S,n,d,_,ok,r1,hu,λeA σ' lu q=>⟨eA,pn,S,n,ds,N,lu,r2,q,k⟩⟩⟩
theorem ya:∀{us:List UG} {ds:List ad} {env:fh} {Q:fh->Prop},Ad us ds env Q->(∀u∈us,∀d env (Q:fh->Prop),u d env Q->∃eA,Q eA)->ds.length=us.length
 | [],[],_,_,_,_=>rfl
 | [],_::_,_,_,h,_=>False.elim h
 | _::_,[],_,_,h,_=>False.elim h
 | u::us,d::ds,env,Q,h,k=>by
  obtain⟨eA,h'⟩:=k u (ar ..) d env _ h;simp only[ap];rw[ya h' λw hw=>k w (ao _ hw)]
theorem Rh:∀d env (Q:fh->Prop),iE i d env Q->∃eA,Q eA:=λ_ _ _ h=>⟨_,h⟩
theorem UM (hc:X.calm=true)(h:SK X M es us)(hu:∀u∈us,∀d env (Q:fh->Prop),u d env Q->∃eA,Q eA)(hl:us.length=n')(hn:(assignEach es X.env).length=n':=by rfl)(wU:(assignEach es X.env).findIdx? (·.1)=none:=by rfl):KG X M (.Tuple es k pos) (NH us) :=
 ⟨(M7 hc h.run hn wU).weaken λv σ H R h=>SJ h λenv pn S n d N h=>by
  obtain⟨ok,r,hh,k⟩:=h
  cases d with
  | tuple ds =>
   obtain⟨a,xs,rfl,ha,rs⟩:=r.fY;exact⟨a,xs,rfl,iW.of ha,by rw[rs.length,ya hh hu,hl],env,pn,S,n,ds,N,ok,rs,hh,k⟩
  | _=>exact False.elim hh⟩
end
structure zi (S:List Addr) (J:It) (its:List ad) (H:Hp):Prop where
 go:∀i,i<its.length->J.go i H
 HH:∀i x H',i<its.length->J.HH i H x H'->∃d,its[i]? = some d/\Ext [] H H'/\eB S H' d x
 stop:∀i,its.length<=i->J.stop i H
noncomputable abbrev UI:=fh->Int->(List ad->fh->Int->Prop)->Prop
noncomputable abbrev UJ:=fh->Int->(List ad->Int->Prop)->Prop
theorem QI.j7 (h:QI X tg iter wi):QI X tg iter (λσ H R=>wi σ H λJ H1=>j6 H1->R J H1) :=
 ⟨λpins s σ H R I q=>fN (h.run pins s σ H _ I q) λv s1 q1=>fN q1 λit s2 ⟨a,fp,tn,J,H',e,I2,t,t0,f,r⟩=>⟨a,fp,tn,J,H',e,I2,t,t0,f,r I2.hok.j7⟩⟩
structure KI (X:Cx) (M:Fr) (tg iter:Expr) (u:UI):Prop where
 ex:∃wi,QI X tg iter wi/\∀σ H R env pn S n Q,dY M env pn σ S H n->u env n Q ->
  (∀J H' its eA S' n' p,dY M eA (p++pn) σ S' H' n'->(∀S2 H2,(∀q∈p,eB S2 H2 q.1 q.2)->zi S2 J its H2)->Q its eA n'->R J H')->wi σ H R
structure KJ (X:Cx) (M:Fr) (tg iter:Expr) (u:UJ):Prop where
 ex:∃wi,QI X tg iter wi/\∀σ H R env pn S n Q,dY M env pn σ S H n->u env n Q ->
  (∀J H' its n',Ext M.gs H H'->M.G H' n'->(∀H2,Ext M.gs H' H2->zi S J its H2)->its.length<=ax->Q its n'->R J H')->wi σ H R
theorem Af {K:W.Frag}{S:List Addr}{H:Hp}{a:Addr}{xs:List V}{ds:List ad}(ha:H a=some (.tup xs))(r:dP S H ds xs):zi S (Im K a) ds H :=
 ⟨λi hi=>⟨xs,xs[i]'(by rw[r.length];exact hi),iW.of ha,!4⟩,λi x H' _ ⟨e,y⟩=>by
  subst e;obtain⟨d,hd,rd⟩:=r.get (y xs (iW.of ha));exact⟨d,hd,.refl _ _,rd⟩,λi hi=>⟨xs,iW.of ha,by rw[r.length];exact hi⟩⟩
theorem v3 {K:W.Frag}{S:List Addr}{H:Hp}{a:Addr}{xs:List V}{ds:List ad}(ha:H a=some (.lst xs))(r:dP S H ds xs):zi S (Il K a) ds H :=
 ⟨λi hi=>⟨xs,xs[i]'(by rw[r.length];exact hi),gn.of ha,!4⟩,λi x H' _ ⟨e,y⟩=>by
  subst e;obtain⟨d,hd,rd⟩:=r.get (y xs (gn.of ha));exact⟨d,hd,.refl _ _,rd⟩,λi hi=>⟨xs,gn.of ha,by rw[r.length];exact hi⟩⟩
noncomputable def gJ (ds:List ad):List ad:=ds.zipIdx.map λp=>.tuple [.int (p.2:Nat),p.1]
theorem jc (ds:List ad):(gJ ds).length=ds.length:=by simp[gJ]
theorem yb {ds:List ad}{i:Nat}{d:ad}(h:ds[i]? = some d):(gJ ds)[i]? = some (.tuple [.int (i:Nat),d]):=by
 unfold gJ;rw[aC,List.getElem?_zipIdx,h];simp
theorem yd {K:W.Frag}{S:List Addr}{H:Hp}{a:Addr}{xs:List V}{ds:List ad}(ha:H a=some (.tup xs))(r:dP S H ds xs):zi S (QB K a) (gJ ds) H :=
 ⟨λi hi=>⟨xs,xs[i]'(by rw[r.length,<- jc];exact hi),iW.of ha,!4⟩,λi x H' _ ⟨T,xi,e1,hT,e2,UN⟩=>by
  subst e1 e2;obtain⟨d,hd,rd⟩:=r.get (UN xs (iW.of ha));exact⟨_,yb hd,.new hT,.tup dM (.cons (.int _) (.cons (rd.ext (.new hT)) .nil))⟩,λi hi=>⟨xs,iW.of ha,by rw[r.length,<- jc];exact hi⟩⟩
theorem ye {K:W.Frag}{S:List Addr}{H:Hp}{a:Addr}{xs:List V}{ds:List ad}(ha:H a=some (.lst xs))(r:dP S H ds xs):zi S (QF K a) (gJ ds) H :=
 ⟨λi hi=>⟨xs,xs[i]'(by rw[r.length,<- jc];exact hi),gn.of ha,!4⟩,λi x H' _ ⟨T,xi,e1,hT,e2,UN⟩=>by
  subst e1 e2;obtain⟨d,hd,rd⟩:=r.get (UN xs (gn.of ha));exact⟨_,yb hd,.new hT,.tup dM (.cons (.int _) (.cons (rd.ext (.new hT)) .nil))⟩,λi hi=>⟨xs,gn.of ha,by rw[r.length,<- jc];exact hi⟩⟩
noncomputable def oy (lo:Int)(n:Nat):List ad:=(List.range n).map λ(k:Nat)=>.int (lo+k)
theorem Gs {S:List Addr}{H:Hp}{lo:Int}{n:Nat}:zi S (Sd lo n) (oy lo n) H :=
 have hl:(oy lo n).length=n:=by simp[oy]
 ⟨λi hi=>by rw[hl] at hi;exact hi,λi x H' hi ⟨e1,e2⟩=>by
  subst e1 e2;rw[hl] at hi;exact⟨.int (lo+(i:Nat)),by simp[oy,List.getElem?_range hi],.refl _ _,.int _⟩,λi hi=>by rw[hl] at hi;exact hi⟩
noncomputable def v5 (i:Nat):UI:=λenv n Q=>match env[i]? with | some (some (.s (.tuple ds)))=>Q ds env n | some (some (.s (.list ds)))=>Q ds env n | some (some (.o ds))=>Q ds (env.set i (some (.s (.list ds)))) n | _=>False
noncomputable def oz (d:ad):Option (List ad):=match d with | .tuple ds=>some ds | .list ds=>some ds | _=>none
noncomputable def NJ (u:UX):UI:=λenv n Q=>u env n λd n1=>pk (oz d) λds=>Q ds env n1
noncomputable def HX (u:UX):UJ:=λenv n Q=>u env n λd n1=>pk (oz d) λds=>Q ds n1
noncomputable def SM (u:UX):UJ:=λenv n Q=>u env n λd n1=>pk (oz d) λds=>Q (gJ ds) n1
noncomputable def UP (u:UX):UI:=λenv n Q=>u env n λd n1=>pk (oz d) λds=>Q (gJ ds) env n1
noncomputable def OV (u:UX):UJ:=λenv n Q=>u env n λd n1=>match d with | .int j=>(-(2 ^ 62)<=j/\j<=16777216)/\Q (oy 0 j.toNat) n1 | _=>False
noncomputable def Le (u:UX):UI:=λenv n Q=>u env n λd n1=>match d with | .int j=>-(2 ^ 62)<=j/\j<2 ^ 62/\Q (oy 0 j.toNat) env n1 | _=>False
noncomputable def UQ (K:W.Frag)(te:TE):TI:=λσ H R=>te σ H λx H1=>∃a,x=.ref a/\(((∃xs,gn K H1 a xs)/\R (Il K a) H1)\/((∃xs,iW K H1 a xs)/\R (Im K a) H1))
noncomputable def UR (K:W.Frag)(ta:TA):TI:=λσ H R=>ta σ H λvs H1=>∃a,vs=[.ref a]/\(((∃xs,gn K H1 a xs)/\R (QF K a) H1)\/((∃xs,iW K H1 a xs)/\R (QB K a) H1))
section
variable {X:Cx}{M:Fr}{tg e a b:Expr}{u w:UX}{p pos Ji:Pos}{xy:List Expr}{k:Nat}
theorem Ag (h:QE X e te):QI X tg e (UQ X.K te):=by
 refine⟨λpins s σ H R I q=>fN (h.run pins s σ H _ I q) λv s1 ⟨x,H1,I1,r1,q1⟩=>?_⟩;obtain⟨a,e,q1⟩:=q1;subst e;cases r1;rcases q1 with⟨⟨xs,hq⟩,q⟩ | ⟨⟨xs,hq⟩,q⟩
 .obtain⟨its,rv,p,hz⟩:=I1.list hq
  refine wpAny_pyIter_list p.isList ?_;refine⟨s1.heap.objs.size,[s1.heap.objs.size],_,_,H1,rfl,I1.kept (t':=s1.toks) λb o e=>ah _ e,tZ a _,⟨_,aH _ rfl,rfl,rfl⟩,λb hb=>?_,q⟩;have e:b=s1.heap.objs.size:=by simpa using hb
  subst e;exact I1.qY (am _) (I1.hok.fresh (am _))
 .obtain⟨its,rv,p,hz⟩:=I1.tuple hq
  refine wpAny_pyIter_tuple (show s1.heap.IsTuple a its.toArray from p) ?_;refine⟨s1.heap.objs.size,[s1.heap.objs.size],_,_,H1,rfl,I1.kept (t':=s1.toks) λb o e=>ah _ e,qZ a _,⟨_,aH _ rfl,rfl,rfl⟩,λb hb=>?_,q⟩;have e:b=s1.heap.objs.size:=by simpa using hb
  subst e;exact I1.qY (am _) (I1.hok.fresh (am _))
theorem Gu (hg:Gl X "enumerate")(hm:X.mg "enumerate" = none)(ha:QA X [a] ta):QI X (.Tuple xy k Ji) (.Call (.Name "enumerate" p) [a] [] pos) (UR X.K ta):=by
 refine⟨λpins s σ H R I h=>?_⟩;have hs:=eV (env:=X.env) (es:=[]) (iU ha.ns).1;refine Call_ (qX I hg hm (by decide +kernel:bootBuiltins "enumerate" = some (.type "enumerate")) (PyProof.Rows.callWith_type1 (fN (ha.run pos pins s σ H _ I h) λus s1 ⟨vs,H1,I1,r1,q1⟩=>?_) hs rfl));obtain⟨t,e,q1⟩:=q1;subst e
 have Wh:∀b∈[s1.heap.objs.size+1,s1.heap.objs.size],qj X pins H1 b:=λb hb=>by
  have NK:s1.heap.objs.size<=b:=by
   rcases au.mp hb with z | z
   .rw[z];exact b8 _
   .have z':b=s1.heap.objs.size:=by simpa using z
    rw[z'];exact am _
  obtain⟨p0,p1,p2,p3,p4,p5⟩:=I1.qY NK (I1.hok.fresh NK);exact⟨p0,p1,p2,p3,p4,p5⟩
 cases r1 with
 | cons r rr =>
  cases rr;cases (show _=ae.ref t from r);rcases q1 with⟨⟨xs,hq⟩,q⟩ | ⟨⟨xs,hq⟩,q⟩
  .obtain⟨its,rv,pp,hz⟩:=I1.list hq
   refine call_enumerate_list pp.isList λh' en UU sz kp=>?_;refine wpAny_pyIter_enum en ?_;have I2:Inv X pins σ H1 { s1 with heap:=h' }:=I1.kept (t':=s1.toks) kp;exact⟨s1.heap.objs.size+1,[s1.heap.objs.size+1,s1.heap.objs.size],_,_,H1,rfl,I2,z3 t _ _ (Nat.succ_ne_self _),⟨⟨_,en⟩,UU⟩,Wh,q⟩
  .obtain⟨its,rv,pp,hz⟩:=I1.tuple hq
   refine zS (show s1.heap.IsTuple t its.toArray from pp) λh' en UU sz kp=>?_;refine wpAny_pyIter_enum en ?_;have I2:Inv X pins σ H1 { s1 with heap:=h' }:=I1.kept (t':=s1.toks) kp;exact⟨s1.heap.objs.size+1,[s1.heap.objs.size+1,s1.heap.objs.size],_,_,H1,rfl,I2,zT t _ _ (Nat.succ_ne_self _),⟨⟨_,en⟩,UU⟩,Wh,q⟩
theorem fC.its {K:W.Frag}{gs S:List Addr}{H:Hp}{d:ad}{v:V}{ds:List ad}(r:fC gs S H d v)(e:oz d=some ds)(hg:∀a∈gs,a∈S):∃a,v=.ref a /\
  (((∃xs,H a=some (.lst xs)/\xs.length=ds.length)/\∀H2,Ext gs H H2->zi S (Il K a) ds H2/\zi S (QF K a) (gJ ds) H2)\/((∃xs,H a=some (.tup xs)/\xs.length=ds.length)/\∀H2,Ext gs H H2->zi S (Im K a) ds H2/\zi S (QB K a) (gJ ds) H2)):=by
 cases d with
 | tuple es =>
  cases e;obtain⟨a,xs,rfl,ha,rs⟩:=r.fY;exact⟨a,rfl,.inr ⟨⟨xs,ha,rs.length⟩,λH2 x=>⟨Af (x.tup _ _ ha) (rs.ext (x.mono hg)),yd (x.tup _ _ ha) (rs.ext (x.mono hg))⟩⟩⟩
 | list es =>
  cases e;have r0:=r;obtain⟨a,xs,rfl,ha,rs⟩:=r.fL;refine⟨a,rfl,.inl ⟨⟨xs,ha,rs.length⟩,λH2 x=>?_⟩⟩;obtain⟨a',nO,e',lx,Cp⟩:=(r0.ext hg x).fL;cases e';exact⟨v3 lx Cp,ye lx Cp⟩
 | _=>cases e
theorem yf (h:KL X M e u):KJ X M tg e (HX u):=⟨_,(Ag h.run).j7,λσ H R env pn S n Q ok hu k=>⟨env,pn,S,n,_,ok,hu,λv H1 d n1 r1 x1 g1 sz q=>by
 obtain⟨ds,e,q⟩:=q;obtain⟨a,rfl,h⟩:=r1.its (K:=X.K) e ok.tf;rcases h with⟨⟨xs,ha,hl⟩,h⟩ | ⟨⟨xs,ha,hl⟩,h⟩
 .exact⟨a,rfl,.inl ⟨⟨xs,gn.of ha⟩,λsz=>k _ H1 ds n1 x1 g1 (λH2 x2=>(h H2 x2).1) (by rw[<- hl];exact sz a xs (.inl ha)) q⟩⟩
 .exact⟨a,rfl,.inr ⟨⟨xs,iW.of ha⟩,λsz=>k _ H1 ds n1 x1 g1 (λH2 x2=>(h H2 x2).1) (by rw[<- hl];exact sz a xs (.inr ha)) q⟩⟩⟩⟩
theorem Gv (hm:X.mg "enumerate" = none)(h:KL X M a u)(hs:e8 a=true:=by rfl)(hg:Gl X "enumerate" := by rfl):KJ X M (.Tuple xy k Ji) (.Call (.Name "enumerate" p) [a] [] pos) (SM u) :=
 ⟨_,(Gu hg hm (gm h.run eY hs)).j7,λσ H R env pn S n Q ok hu k=>⟨env,pn,S,n,_,ok,hu,λv H1 d n1 r1 x1 g1 sz q=>by
  obtain⟨ds,e,q⟩:=q;obtain⟨a,rfl,h⟩:=r1.its (K:=X.K) e ok.tf;rcases h with⟨⟨xs,ha,hl⟩,h⟩ | ⟨⟨xs,ha,hl⟩,h⟩
  .exact⟨a,rfl,.inl ⟨⟨xs,gn.of ha⟩,λsz=>k _ H1 _ n1 x1 g1 (λH2 x2=>(h H2 x2).2) (by rw[jc,<- hl];exact sz a xs (.inl ha)) q⟩⟩
  .exact⟨a,rfl,.inr ⟨⟨xs,iW.of ha⟩,λsz=>k _ H1 _ n1 x1 g1 (λH2 x2=>(h H2 x2).2) (by rw[jc,<- hl];exact sz a xs (.inr ha)) q⟩⟩⟩⟩
theorem Gw (lo:Int)(n:Nat):(oy lo n).length=n:=by simp[oy]
theorem v7 (hm:X.mg "range" = none)(h:KE X M a u)(hs:e8 a=true:=by rfl)(hg:Gl X "range" := by rfl):KJ X M tg (.Call (.Name "range" p) [a] [] pos) (OV u) :=
 ⟨_,uA hg hm (gm h.run eY hs),λσ H R env pn S n Q ok hu k=>⟨env,pn,S,n,_,ok,hu,λv H1 d n1 r1 x1 g1 sz q=>by
  cases d with
  | int j =>
   have hsz:ax=16777216:=by decide
   exact⟨j,by rw[r1.eO],q.1.1,by have:=q.1.2;omega,k _ H1 _ n1 x1 g1 (λH2 _=>Gs) (by rw[Gw,hsz];have:=q.1.2;omega) q.2⟩
  | _=>exact False.elim q⟩⟩
theorem Cq {K:W.Frag}{d:ad}{v:V}{ds:List ad}(e:oz d=some ds){S:List Addr}{H:Hp}(r:eB S H d v):∃a,v=.ref a /\
  (((∃xs,H a=some (.lst xs))/\∀S2 H2,(∀q∈[(d,v)],eB S2 H2 q.1 q.2)->zi S2 (Il K a) ds H2/\zi S2 (QF K a) (gJ ds) H2)\/((∃xs,H a=some (.tup xs))/\∀S2 H2,(∀q∈[(d,v)],eB S2 H2 q.1 q.2)->zi S2 (Im K a) ds H2/\zi S2 (QB K a) (gJ ds) H2)):=by
 cases d with
 | tuple es =>
  cases e;obtain⟨a,xs,rfl,ha,rs⟩:=r.fY;refine⟨a,rfl,.inr ⟨⟨xs,ha⟩,λS2 H2 h=>?_⟩⟩;obtain⟨a',nO,e',lx,Cp⟩:=(h _ (av.mpr rfl)).fY;cases e';exact⟨Af lx Cp,yd lx Cp⟩
 | list es =>
  cases e;obtain⟨a,xs,rfl,ha,_,rs⟩:=r.fL;refine⟨a,rfl,.inl ⟨⟨xs,ha⟩,λS2 H2 h=>?_⟩⟩;obtain⟨a',nO,e',lx,_,Cp⟩:=(h _ (av.mpr rfl)).fL;cases e';exact⟨v3 lx Cp,ye lx Cp⟩
 | _=>cases e
theorem Gx (h:KE X M e u):KI X M tg e (NJ u):=⟨_,Ag h.run,λσ H R env pn S n Q ok hu k=>⟨env,pn,S,n,_,ok,hu,λv H1 d n1 r1 x1 g1 sz q=>by
 obtain⟨ds,e,q⟩:=q;have mO:=(ok.step x1 g1).Gr r1;obtain⟨a,rfl,h⟩:=Cq (K:=X.K) e r1;rcases h with⟨⟨xs,ha⟩,h⟩ | ⟨⟨xs,ha⟩,h⟩
 .exact⟨a,rfl,.inl ⟨⟨xs,gn.of ha⟩,k _ H1 ds env S n1 [_] mO (λS2 H2 hh=>(h S2 H2 hh).1) q⟩⟩
 .exact⟨a,rfl,.inr ⟨⟨xs,iW.of ha⟩,k _ H1 ds env S n1 [_] mO (λS2 H2 hh=>(h S2 H2 hh).1) q⟩⟩⟩⟩
theorem NL (hm:X.mg "enumerate" = none)(h:KE X M a u)(hs:e8 a=true:=by rfl)(hg:Gl X "enumerate" := by rfl):KI X M (.Tuple xy k Ji) (.Call (.Name "enumerate" p) [a] [] pos) (UP u) :=
 ⟨_,Gu hg hm (gm h.run eY hs),λσ H R env pn S n Q ok hu k=>⟨env,pn,S,n,_,ok,hu,λv H1 d n1 r1 x1 g1 sz q=>by
  obtain⟨ds,e,q⟩:=q;have mO:=(ok.step x1 g1).Gr r1;obtain⟨a,rfl,h⟩:=Cq (K:=X.K) e r1;rcases h with⟨⟨xs,ha⟩,h⟩ | ⟨⟨xs,ha⟩,h⟩
  .exact⟨a,rfl,.inl ⟨⟨xs,gn.of ha⟩,k _ H1 _ env S n1 [_] mO (λS2 H2 hh=>(h S2 H2 hh).2) q⟩⟩
  .exact⟨a,rfl,.inr ⟨⟨xs,iW.of ha⟩,k _ H1 _ env S n1 [_] mO (λS2 H2 hh=>(h S2 H2 hh).2) q⟩⟩⟩⟩
theorem qG (hm:X.mg "range" = none)(h:KE X M a u)(hs:e8 a=true:=by rfl)(hg:Gl X "range" := by rfl):KI X M tg (.Call (.Name "range" p) [a] [] pos) (Le u) :=
 ⟨_,uA hg hm (gm h.run eY hs),λσ H R env pn S n Q ok hu k=>⟨env,pn,S,n,_,ok,hu,λv H1 d n1 r1 x1 g1 sz q=>by
  cases d with
  | int j=>exact⟨j,by rw[r1.eO],q.1,q.2.1,k _ H1 _ env S n1 [] (ok.step x1 g1) (λS2 H2 _=>Gs) q.2.2⟩
  | _=>exact False.elim q⟩⟩
theorem Cr (i:Nat)(hN:X.N[i]? = some x:=by rfl)(hv:s9 X.env.scope x:=by (first | exact Or.inl rfl | exact Or.inr (Or.inl rfl) | exact Or.inr (Or.inr rfl)))(hd:(x == ("__debug__" : Str))=false:=by decide)
  (gP:(x == ("__classdict__" : Str))=false:=by decide):KI X M tg (.Name x pos) (v5 i):=⟨_,Ag (qv i hN hv hd gP),λσ H R env pn S n Q ok hu k=>by
 unfold v5 at hu;split at hu
 .rename_i ds he
  obtain⟨v,hv,r⟩:=ok.val i _ he;obtain⟨a,xs,rfl,ha,rs⟩:=eB.fY r;refine⟨_,hv,a,rfl,.inr ⟨⟨xs,iW.of ha⟩,k _ H ds env S n [(.tuple ds,.ref a)] (ok.Gr r) (λS2 H2 hh=>?_) hu⟩⟩;obtain⟨a',nO,e',lx,Cp⟩:=(hh _ (av.mpr rfl)).fY;cases e';exact Af lx Cp
 .rename_i ds he
  obtain⟨v,hv,r⟩:=ok.val i _ he;obtain⟨a,xs,rfl,ha,_,rs⟩:=eB.fL r;refine⟨_,hv,a,rfl,.inl ⟨⟨xs,gn.of ha⟩,k _ H ds env S n [(.list ds,.ref a)] (ok.Gr r) (λS2 H2 hh=>?_) hu⟩⟩;obtain⟨a',nO,e',lx,_,Cp⟩:=(hh _ (av.mpr rfl)).fL;cases e';exact v3 lx Cp
 .rename_i ds he
  obtain⟨a,xs,S',hv,ha,r,lu⟩:=ok.freeze he;refine⟨_,hv,a,rfl,.inl ⟨⟨xs,gn.of ha⟩,k _ H ds _ S' n [(.list ds,.ref a)] (lu.Gr r) (λS2 H2 hh=>?_) hu⟩⟩;obtain⟨a',nO,e',lx,_,Cp⟩:=(hh _ (av.mpr rfl)).fL;cases e';exact v3 lx Cp
 .exact hu.elim⟩
end
noncomputable def d9 (u w:US):US:=λE env n=>u { E with nx:=w E } env n
noncomputable def v8 (u w:US):US:=λE env n=>∃C:fh->Int->Prop,u { E with nx:=C } env n/\∀eA n',C eA n'->w E eA n'
noncomputable def gu:US:=λE env n=>E.nx env n
noncomputable def iT (c:UT)(u w:US):US:=λE env n=>c env n λb n1=>if b=true then u E env n1 else w E env n1
noncomputable def fD (u:UX):US:=λE env n=>u env n E.rt
noncomputable def yg (i:Nat):US:=λE env n=>match env[i]? with | some (some (.s d))=>E.rt d n | some (some (.o ds))=>E.rt (.list ds) n | some (some (.d _ t kvs))=>E.rt (h8 t kvs) n | _=>False
noncomputable def eI (i:Nat)(u:UX):US:=λE env n=>u env n λd n1=>E.nx (env.set i (some (.s d))) n1
noncomputable def pA (i:Nat)(u:fh->Int->(List ad->Int->Prop)->Prop):US:=λE env n=>u env n λds n1=>E.nx (env.set i (some (.o ds))) n1
section
variable {X:Cx}{M:Fr}{st:Stmt}{zf body Qo:List Stmt}{u w:US}{e c tg iter a b:Expr}{ue ua ub:UX}{uc:UT}{pos:Pos}
theorem KS.of (h:QS X st t)(k:∀D σ H env pn S n E,dY M env pn σ S H n->u E env n->(∀eA σ' S' H' n',dY M eA pn σ' S' H' n'->E.nx eA n'->D.nx σ' H')->(∀v H' d n',eB M.S0 H' d v->Ext M.gs M.H0 H'->M.G H' n'->E.rt d n'->D.rt v H')->t D σ H):KS X M st u :=
 ⟨h.weaken λD σ H h=>Aa h λenv pn S n E h=>k D σ H env pn S n E h.1 h.2.1 h.2.2.1 h.2.2.2⟩
theorem gV:zh X M [] gu:=⟨n6.weaken λD σ H h=>Aa h λenv pn S n E h=>h.2.2.1 _ _ _ _ _ h.1 h.2.1⟩
theorem d6 (h:KS X M st u):zh X M [st] u:=⟨gF h.run⟩
theorem eM (h:KS X M st u)(hr:zh X M zf w):zh X M (st::zf) (d9 u w):=⟨(e9 h.run hr.run).weaken λD σ H h=>Aa h λenv pn S n E h =>
 ⟨env,pn,S,n,_,h.1,h.2.1,λeA σ' S' H' n' lu q=>⟨eA,pn,S',n',E,lu,q,h.2.2.1,h.2.2.2⟩,h.2.2.2⟩⟩
theorem yh (h:KS X M st u)(hr:zh X M zf w):zh X M (st::zf) (v8 u w):=⟨(e9 h.run hr.run).weaken λD σ H h=>Aa h λenv pn S n E h=>Exists.elim h.2.1 λC hC =>
 ⟨env,pn,S,n,_,h.1,hC.1,λeA σ' S' H' n' lu q=>⟨eA,pn,S',n',E,lu,hC.2 _ _ q,h.2.2.1,h.2.2.2⟩,h.2.2.2⟩⟩
theorem rY (hc:KB X M c uc)(ha:zh X M body u)(hb:zh X M Qo w):KS X M (.If c body Qo pos) (iT uc u w):=.of (xq hc.run ha.run hb.run) λD σ H env pn S n E ok hu k1 k2 =>
 ⟨env,pn,S,n,_,ok,hu,λb H1 n1 x1 g1 q=>by
  cases b with
  | true=>exact⟨env,pn,S,n1,E,ok.step x1 g1,q,k1,k2⟩
  | false=>exact⟨env,pn,S,n1,E,ok.step x1 g1,q,k1,k2⟩⟩
theorem gW (h:KE X M e ue):KS X M (.Return (some e) pos) (fD ue):=.of (kC h.run) λD σ H env pn S n E ok hu k1 k2 =>
 ⟨env,pn,S,n,_,ok,hu,λv H1 d n1 r1 x1 g1 _ q=>k2 v H1 d n1 (r1.less ok.s0) (ok.step x1 g1).ext g1 q⟩
theorem NM (i:Nat)(hN:X.N[i]? = some x:=by rfl)(hv:s9 X.env.scope x:=by (first | exact Or.inl rfl | exact Or.inr (Or.inl rfl) | exact Or.inr (Or.inr rfl)))(hd:(x == ("__debug__" : Str))=false:=by decide)
  (gP:(x == ("__classdict__" : Str))=false:=by decide):KS X M (.Return (some (.Name x iD)) pos) (yg i):=.of (kC (qv i hN hv hd gP)) λD σ H env pn S n E ok hu k1 k2=>by
 unfold yg at hu;split at hu
 .rename_i d he
  obtain⟨v,hv,r⟩:=ok.val i _ he;exact⟨v,hv,k2 v H d n (eB.less ok.s0 r) ok.ext ok.gd hu⟩
 .rename_i ds he
  obtain⟨v,hv,a,xs,rfl,ha,r,hs,h0⟩:=ok.val i _ he;exact⟨_,hv,k2 _ H _ n (.lst ha (λz=>M.xT a z h0) (r.less ok.s0)) ok.ext ok.gd hu⟩
 .rename_i a t kvs he
  obtain⟨v,hv,rfl,xs,ha,r,hk,hs,h0⟩:=ok.val i _ he;exact⟨_,hv,k2 _ H _ n (.OK ha (λz=>M.xT a z h0) hk (r.less ok.s0)) ok.ext ok.gd hu⟩
 .exact hu.elim
theorem Ri (hN:X.N.Nodup)(hx:Loc X.env.scope x)(h:KE X M e ue)(hi:X.N[i]? = some x:=by rfl)(hs:swapsWith e (some (.Name x iD)) pos.line X.env=pure false:=by rfl)
  (hf:X.fn x=true\/X.env.scope.names.lookup x=some .local:=by (first | exact .inl rfl | exact .inr rfl | assumption)) (hfd:i ∉ M.fd:=by decide):KS X M (.Assign [.Name x iD] e pos) (eI i ue):=.of (jk hN hi hx h.run hs hf) λD σ H env pn S n E ok hu k1 k2 =>
 ⟨env,pn,S,n,_,ok,hu,λv H1 d n1 r1 x1 g1 _ q=>k1 _ _ _ _ _ ((ok.step x1 g1).set r1 hfd) q⟩
theorem Rj (hN:X.N.Nodup)(hx:Loc X.env.scope x)(h:KN X M e un)(hi:X.N[i]? = some x:=by rfl)(hs:swapsWith e (some (.Name x iD)) pos.line X.env=pure false:=by rfl)
  (hf:X.fn x=true\/X.env.scope.names.lookup x=some .local:=by (first | exact .inl rfl | exact .inr rfl | assumption)) (hfd:i ∉ M.fd:=by decide):KS X M (.Assign [.Name x iD] e pos) (pA i un):=.of (jk hN hi hx h.run hs hf) λD σ H env pn S n E ok hu k1 k2 =>
 ⟨env,pn,S,n,_,ok,hu,λa xs H1 ds n1 h0 h1 r1 x1 g1 _ q=>k1 _ _ _ _ _ (ok.Rg h0 h1 r1 x1 g1 hfd) q⟩
noncomputable def j9 (ug:UG)(ub:US)(E:Cf):List ad->fh->Int->Prop
 | [],env,n=>E.nx env n
 | d::ds,env,n=>ug d env λeA=>ub { nx:=j9 ug ub E ds,rt:=E.rt } eA n
noncomputable def iY (ui:UI)(ug:UG)(ub:US):US:=λE env n=>ui env n λits Gy n1=>j9 ug ub E its Gy n1
noncomputable def rZ (c:UT)(ub:US):US:=λE env n=>∃W:Nat->fh->Int->Prop,(∃m,W m env n)/\∀m env n,W m env n->c env n λb n1=>if b=true then ub { nx:=λeA n'=>∃m',m' < m/\W m' eA n',rt:=E.rt } env n1 else E.nx env n1
theorem lh (hp:PassesOwn (model X.prog X.w) X.A X.env X.xe)(hc:X.calm=true)(hi:KI X M tg iter ui)(hg:KG X M tg ug)(hb:zh X M body u)(hs:∀x,foldedSetIterable iter X.env x=pure x:=by rw[3]):KS X M (.For tg iter body [] pos) (iY ui ug u):=by
 obtain⟨wi,qi,Lf⟩:=hi.ex;refine .of (zM hp hc qi hg.run hb.run hs) λD σ H env pn S n E ok hu k1 k2=>Lf σ H _ env pn S n _ ok hu λJ H1 its Gy S1 n1 p mO hJ q=>?_;refine⟨λi m σ' H'=>m=its.length - i/\i<=its.length/\∃eA S' n',dY M eA (p++pn) σ' S' H' n'/\j9 ug u E (its.drop i) eA n',⟨its.length,!4,bL _,Gy,S1,n1,mO,q⟩,?_⟩;rintro i m σ' H' ⟨rfl,tj,eA,S',n',lu,q'⟩;have it:=hJ S' H' λr hr=>lu.pin r (a6 _ hr);by_cases ig:i<its.length
 .refine .inr ⟨it.go i ig,λσ2 H2=>∃Ah S2 n2,dY M Ah (p++pn) σ2 S2 H2 n2/\j9 ug u E (its.drop (i+1)) Ah n2,λσ2 H2 h=>⟨its.length - (i+1),!1,rfl,ig,h⟩,λx H2 hy=>?_⟩
  obtain⟨d,hd,x2,rd⟩:=it.HH i x H2 ig hy
  have e:its.drop i=d::its.drop (i+1):=by
   rw[bw ig];congr;exact (aY.mp hd).2
  rw[e] at q';have HY:=lu.step (x2.mono (!4)) (M.ik lu.gd x2 (!4));exact⟨eA,p++pn,S',n',d,_,HY,rd,q',λD7 σ3 Lb q3=>⟨D7,p++pn,S',n',_,Lb,q3,λUW σ4 S4 H4 n4 X' q4=>⟨UW,S4,n4,X',q4⟩,k2⟩⟩
 .refine .inl ⟨it.stop i (!1),?_⟩
  rw[cE (!1)] at q';exact k1 _ _ _ _ _ (lu.pins λr hr=>aJ _ hr) q'
theorem Cs (hp:PassesOwn (model X.prog X.w) X.A X.env X.xe)(hc:KB X M c uc)(hb:zh X M body u):KS X M (.While c body [] pos) (rZ uc u) :=
 .of (FH hp hc.run hb.run) λD σ H env pn S n E ok ⟨W,⟨m,hm⟩,hW⟩ k1 k2=>by
  refine⟨λm σ' H'=>∃eA S' n',dY M eA pn σ' S' H' n'/\W m eA n',⟨m,env,S,n,ok,hm⟩,?_⟩;rintro m σ' H' ⟨eA,S',n',lu,hw⟩;refine⟨eA,pn,S',n',_,lu,hW m eA n' hw,λb H1 n1 x1 g1 q=>?_⟩
  cases b with
  | true=>exact⟨λσ2 H2=>∃m',m' < m/\∃Ah S2 n2,dY M Ah pn σ2 S2 H2 n2/\W m' Ah n2,λσ2 H2 h=>h,eA,pn,S',n1,_,lu.step x1 g1,q,λAh σ2 S2 H2 n2 HY ⟨m',Sj,Ya⟩=>⟨m',Sj,Ah,S2,n2,HY,Ya⟩,k2⟩
  | false=>exact k1 _ _ _ _ _ (lu.step x1 g1) q
end
noncomputable def p8 (mp:List (Option Nat))(env:fh):fh:=mp.map λo=>match o with | none=>none | some i=>(env[i]?).join
noncomputable def Fr.sub (M:Fr)(fd:List Nat):Fr:={ M with fd:=fd }
noncomputable def fH (ug:UG)(uc:UT)(ue:UX)(Q:List ad->Int->Prop):List ad->List ad->fh->Int->Prop
 | [],acc,_,n=>Q acc n
 | d::ds,acc,env,n=>ug d env λeA=>uc eA n λb n1=>if b=true then ue eA n1 λy n2=>fH ug uc ue Q ds (acc++[y]) eA n2 else fH ug uc ue Q ds acc eA n1
noncomputable def gK (ui:UJ)(mp:List (Option Nat))(ug:UG)(uc:UT)(ue:UX):fh->Int->(List ad->Int->Prop)->Prop:=λenv n Q=>ui env n λits n1=>fH ug uc ue Q its [] (p8 mp env) n1
noncomputable def pB:UT:=λ_ n Q=>Q true n
structure KK (X:Cx) (M:Fr) (nW:List Expr) (u:UT):Prop where run:QK X nW (liftT M u)
section
theorem dY.lB (ok:dY M env pn σ S H n)(hfd:∀j∈fd,∃i∈M.fd,mp[j]? = some (some i))(EN:(mp.filterMap id).Nodup):dY (M.sub fd) (p8 mp env) pn (lB mp σ) S H n:=by
 have at':∀(j:Nat) (e:oq),(p8 mp env)[j]? = some (some e)->∃i,mp[j]? = some (some i)/\env[i]? = some (some e):=λj e he=>by
  unfold p8 at he;rw[aC] at he
  cases hm:mp[j]? with
  | none=>rw[hm] at he;cases he
  | some o =>
   rw[hm] at he
   cases o with
   | none=>cases he
   | some i =>
    refine⟨i,rfl,?_⟩;have Jx:(env[i]?).join=some e:=Option.some.inj he
    cases hv:env[i]? with
    | none=>rw[hv] at Jx;cases Jx
    | some z=>rw[hv] at Jx;exact congrArg some (show z=some e from Jx)
 have UY:∀(j i:Nat) (v:V),mp[j]? = some (some i)->σ[i]? = some (some v)->(L2.lB mp σ)[j]? = some (some v):=λj i v h1 h2=>by
  unfold L2.lB;rw[aC,h1];simp[h2]
 have UZ:∀(j i:Nat) (v:V),mp[j]? = some (some i)->(L2.lB mp σ)[j]? = some (some v)->σ[i]? = some (some v):=λj i v h1 h2=>by
  unfold L2.lB at h2;rw[aC,h1] at h2;have Jx:(σ[i]?).join=some v:=Option.some.inj h2
  cases hv:σ[i]? with
  | none=>rw[hv] at Jx;cases Jx
  | some z=>rw[hv] at Jx;exact congrArg some (show z=some v from Jx)
 refine⟨λj e he=>?_,λj k ds es a h1 h2 h3 h4=>?_,by simp[p8,L2.lB],λj hj=>?_,ok.gd,ok.ext,ok.s0,ok.sn,ok.has,ok.pin⟩
 .obtain⟨i,hm,hv⟩:=at' j e he
  obtain⟨v,NG,r⟩:=ok.val i e hv;exact⟨v,UY j i v hm NG,r⟩
 .obtain⟨i,hm,hv⟩:=at' j _ h1
  obtain⟨i2,HQ,NO⟩:=at' k _ h2;have e:=ok.ne i i2 _ _ a hv NO (UZ _ _ _ hm h3) (UZ _ _ _ HQ h4);subst e;have hj:j<mp.length:=(aY.mp hm).1;have hk:k<mp.length:=(aY.mp HQ).1;clear h1 h2 h3 h4 at' UY UZ hfd
  induction mp generalizing j k with
  | nil=>cases hm
  | cons o mp ih =>
   have nd:∀{i:Nat},i∈mp.filterMap id->o≠some i:=λ{i} hi z=>by
    subst z;simp only[bW,id] at EN;exact (bN.mp EN).1 hi
   have U0:(mp.filterMap id).Nodup:=by
    cases o with
    | none=>simpa using EN
    | some z=>simp only[bW,id] at EN;exact (bN.mp EN).2
   have mem:∀{k:Nat},mp[k]? = some (some i)->i∈mp.filterMap id:=λ{k} hk=>df.mpr ⟨some i,bP hk,rfl⟩
   cases j with
   | zero=>cases k with
    | zero=>rfl
    | succ k =>
     have h1:o=some i:=by simpa using hm
     have h2:mp[k]? = some (some i):=by simpa using HQ
     exact absurd h1 (nd (mem h2))
   | succ j=>cases k with
    | zero =>
     have h1:o=some i:=by simpa using HQ
     have h2:mp[j]? = some (some i):=by simpa using hm
     exact absurd h1 (nd (mem h2))
    | succ k=>rw[ih U0 j k (by simpa using hm) (by simpa using HQ) (by simpa using hj) (by simpa using hk)]
 .obtain⟨i,hi,hm⟩:=hfd j hj
  exact UY j i _ hm (ok.D3 i hi)
theorem pC:KK X M [] pB:=⟨⟨λpins s σ H Q I h=>Aa h λenv pn S n R h=>M9.run pins s σ H Q I (h.2.2 true H n (.refl _ _) h.1.gd h.2.1)⟩⟩
theorem v9 (h:KB X M c uc):KK X M [c] uc:=⟨zL h.run⟩
theorem wc (Lf:∀σ H R env pn S n Q,dY M env pn σ S H n->ui env n Q ->
  (∀J H' its n',Ext M.gs H H'->M.G H' n'->(∀H2,Ext M.gs H' H2->zi S J its H2)->its.length<=ax->Q its n'->R J H')->wi σ H R)
  (hfd:∀j∈fd,∃i∈M.fd,mp[j]? = some (some i)) (EN:(mp.filterMap id).Nodup) (ok:dY M env pn σ S H n) (hu:gK ui mp ug uc ue env n Q)
  (k:∀ys H' ds n',dP S H' ds ys->Ext M.gs H H'->M.G H' n'->Q ds n'->R ys H'):ux wi mp (Ld (M.sub fd) ug) (liftT (M.sub fd) uc) (QZ (M.sub fd) ue) σ H R:=by
 refine Lf σ H _ env pn S n _ ok hu λJ H1 its n1 x1 g1 hJ hl q=>?_;have mO:=ok.step x1 g1
 refine⟨λi m ys σ' H'=>m=its.length - i/\i<=its.length/\∃eA n' acc,dY (M.sub fd) eA pn σ' S H' n'/\dP S H' acc ys/\acc.length<=i/\Ext M.gs H1 H'/\fH ug uc ue Q (its.drop i) acc eA n',
  ⟨its.length,!4,bL _,_,n1,[],mO.lB hfd EN,.nil,am _,.refl _ _,q⟩,?_⟩
 rintro i m ys σ' H' ⟨rfl,tj,eA,n',acc,lu,ra,ha,x',q'⟩;have it:=hJ H' x';by_cases ig:i<its.length
 .refine .inr ⟨it.go i ig,by rw[ra.length];omega,λx H2 hy=>?_⟩
  obtain⟨d,hd,x2,rd⟩:=it.HH i x H2 ig hy
  have e:its.drop i=d::its.drop (i+1):=by
   rw[bw ig];congr;exact (aY.mp hd).2
  rw[e] at q';have HY:dY (M.sub fd) eA pn σ' S H2 n':=lu.step (x2.mono (!4)) (M.ik lu.gd x2 (!4));refine⟨eA,pn,S,n',d,_,HY,rd,q',λD7 σ3 Lb q3=>⟨D7,pn,S,n',_,Lb,q3,λb H4 n4 x4 g4 q4=>?_⟩⟩;have SN:Ext M.gs H' H4:=(x2.mono (!4)).trans x4
  cases b with
  | true=>exact⟨D7,pn,S,n4,_,Lb.step x4 g4,q4,λy H5 dy n5 r5 x5 g5 _ q5=>⟨its.length - (i+1),!1,rfl,ig,D7,n5,acc++[dy],(Lb.step x4 g4).step x5 g5,(ra.ext ((SN.trans x5).mono ok.tf)).append (.cons r5 .nil),by simp;omega,x'.trans (SN.trans x5),q5⟩⟩
  | false=>exact⟨its.length - (i+1),!1,rfl,ig,D7,n4,acc,Lb.step x4 g4,ra.ext (SN.mono ok.tf),!1,x'.trans SN,q4⟩
 .refine .inl ⟨it.stop i (!1),by rw[ra.length];omega,?_⟩
  rw[cE (!1)] at q';exact k ys H' acc n' ra (x1.trans x') lu.gd q'
theorem lM (fd:List Nat)(hc:X.calm=true)(hi:KJ X M tg iter ui)(hk:sc.kind=.function)(hm:iQ X.N X.env.scope sc N mp=true)
  (hb:∀(cl:List (Str × Addr)) (C:Addr) (s₂:aq) (H₂:Hp) (fp:List Addr),KG (ft X sc N cl C s₂ H₂ fp) (M.sub fd) tg ug/\KK (ft X sc N cl C s₂ H₂ fp) (M.sub fd) nW uc/\KE (ft X sc N cl C s₂ H₂ fp) (M.sub fd) oZ ue)
  (hfd:∀j∈fd,∃i∈M.fd,mp[j]? = some (some i):=by decide) (EN:(mp.filterMap id).Nodup:=by decide) (hs:∀x,foldedSetIterable iter X.env x=pure x:=by rw[3]):KN X M (.ListComp oZ [⟨tg,iter,nW,0⟩] sc pos) (gK ui mp ug uc ue):=by
 obtain⟨wi,qi,Lf⟩:=hi.ex;refine .of (vL hc qi hk hm (λcl C s₂ H₂ fp=>⟨(hb cl C s₂ H₂ fp).1.run,(hb cl C s₂ H₂ fp).2.1.run,(hb cl C s₂ H₂ fp).2.2.run⟩) hs) λσ H R env pn S n Q ok hu k=>?_;refine wc Lf hfd EN ok hu λys H' ds n' r x g q D hD=>?_;have lu:=ok.step x g
 have U1:H D=none:=by
  by_cases z:D∈M.gs
  .exact absurd hD (M.vX g D z)
  .exact x.fresh z hD
 exact k D ys _ ds n' U1 dM ((r.fresh hD).ext (.new hD)) (x.trans (.new hD)) (M.ik g (.new (S:=[]) hD) (!4)) q
theorem Gz (own:Bool)(fd:List Nat)(hN:X.N.Nodup)(hc:X.calm=true)(hi:KJ X M tg iter ui)(hk:sc.kind=.function)(hm:iQ X.N X.env.scope sc N mp=true)
  (hb:∀(cl:List (Str × Addr)) (C:Addr) (s₂:aq) (H₂:Hp) (fp:List Addr),KG (ft X sc N cl C s₂ H₂ fp) (M.sub fd) tg ug/\KK (ft X sc N cl C s₂ H₂ fp) (M.sub fd) nW uc/\KE (ft X sc N cl C s₂ H₂ fp) (M.sub fd) oZ ue)
  (MY:X.N[i]? = some x:=by rfl) (hx:X.env.scope.names.lookup x=some .local:=by rfl)
  (hfd:∀j∈fd,∃i∈M.fd,mp[j]? = some (some i):=by decide) (EN:(mp.filterMap id).Nodup:=by decide) (hfi:i ∉ M.fd:=by decide)
  (IW:swapsWith (.ListComp oZ [⟨tg,iter,nW,0⟩] sc pos) (some (.Name x py)) spos.line X.env=pure true:=by rfl) (hs:∀x,foldedSetIterable iter X.env x=pure x:=by rw[3]) :
  KS X M (.Assign [.Name x py] (.ListComp oZ [⟨tg,iter,nW,0⟩] sc pos) spos) (if own then pA i (gK ui mp ug uc ue) else eI i (uL (gK ui mp ug uc ue))):=by
 obtain⟨wi,qi,Lf⟩:=hi.ex;have q:=Jb (i:=i) (py:=py) (spos:=spos) (pos:=pos) hN MY hx hc qi hk hm (λcl C s₂ H₂ fp=>⟨(hb cl C s₂ H₂ fp).1.run,(hb cl C s₂ H₂ fp).2.1.run,(hb cl C s₂ H₂ fp).2.2.run⟩) IW hs
 cases own with
 | true =>
  refine .of q λD σ H env pn S n E ok hu k1 k2=>wc Lf hfd EN ok hu λys H' ds n' r x g q D hD=>?_
  have U1:H D=none:=by
   by_cases z:D∈M.gs
   .exact absurd hD (M.vX g D z)
   .exact x.fresh z hD
  exact k1 _ _ _ _ _ (ok.Rg U1 dM ((r.fresh hD).ext (.new hD)) (x.trans (.new hD)) (M.ik g (.new (S:=[]) hD) (!4)) hfi) q
 | false =>
  refine .of q λD σ H env pn S n E ok hu k1 k2=>wc Lf hfd EN ok hu λys H' ds n' r x g q D hD=>?_;have lu:=ok.step x g;exact k1 _ _ _ _ _ ((lu.step (.new hD) (M.ik g (.new (S:=[]) hD) (!4))).set (qF lu.has hD r) hfi) q
end
noncomputable def lj (i:Nat)(f:List ad->List ad->Option (List ad))(ua:UA):US:=λE env n=>match env[i]? with | some (some (.o ds))=>ua env n λas n1=>pk (f ds as) λqD=>E.nx (env.set i (some (.o qD))) n1 | _=>False
noncomputable def kI (ds as:List ad):Option (List ad):=match as with | [d]=>if ds.length<ax then some (ds++[d]) else none | _=>none
noncomputable def jC (ds as:List ad):Option (List ad):=match as with | [.tuple es]=>if ds.length+es.length<=ax then some (ds++es) else none | [.list es]=>if ds.length+es.length<=ax then some (ds++es) else none | _=>none
noncomputable def iZ (ds as:List ad):Option (List ad):=match as with | [.int i,d]=>if ds.length<ax/\0<=i/\i<2 ^ 62 then some (ds.take i.toNat++d::ds.drop i.toNat) else none | _=>none
structure SO (X:Cx) (id:String) (f:List ad->List ad->Option (List ad)):Prop where
 ex:∃r,Fe X id r/\∀S H a xs ds as vs qD (R:VK),H a=some (.lst xs)->dP S H ds xs->dP S H as vs->f ds as=some qD->(∀ys v,dP S H qD ys->R v (eR H a (.lst ys)))->r (.ref a) vs H R
section
variable {X:Cx}{M:Fr}{e o:Expr}{es:List Expr}{ua:UA}{pos gk fJ:Pos}{name:Str}{id:String}{f:List ad->List ad->Option (List ad)}
theorem r6:SO X "list.append" kI:=⟨_,Ds,λS H a xs ds as vs qD R ha r ra e k=>by
 obtain⟨d,rfl⟩:∃d,as=[d]:=by
  unfold kI at e;split at e
  .exact⟨_,rfl⟩
  .cases e
 simp only[kI] at e;split at e
 .rename_i hl
  cases e;obtain⟨v,t,rfl,r1,r2⟩:=ra.of_cons;cases r2.fz;exact⟨a,xs,v,rfl,rfl,ha,by rw[r.length];exact hl,k _ _ (r.append (.cons r1 .nil))⟩
 .cases e⟩
theorem yi:SO X "list.insert" iZ:=⟨_,DB,λS H a xs ds as vs qD R ha r ra e k=>by
 obtain⟨i,d,rfl⟩:∃i d,as=[.int i,d]:=by
  unfold iZ at e;split at e
  .exact⟨_,_,rfl⟩
  .cases e
 simp only[iZ] at e;split at e
 .rename_i hl
  cases e;obtain⟨v,t,rfl,r1,r2⟩:=ra.of_cons;obtain⟨w,t,rfl,r3,r4⟩:=r2.of_cons;cases r4.fz;exact⟨a,xs,i,w,rfl,by rw[r1.eO],ha,by rw[r.length];exact hl.1,hl.2.1,hl.2.2,k _ _ ((r.take _).append (.cons r3 (r.drop _)))⟩
 .cases e⟩
theorem GA:SO X "list.extend" jC:=⟨_,Fe.or (Dt (X:=X)) (zO X.K),λS H a xs ds as vs qD R ha r ra e k=>by
 obtain⟨es,h⟩:∃es,as=[.tuple es]\/as=[.list es]:=by
  unfold jC at e;split at e
  .exact⟨_,.inl rfl⟩
  .exact⟨_,.inr rfl⟩
  .cases e
 rcases h with rfl | rfl
 .simp only[jC] at e
  split at e
  .rename_i hl
   cases e;obtain⟨v,t,rfl,r1,r2⟩:=ra.of_cons;cases r2.fz;obtain⟨b,ys,rfl,hb,rb⟩:=r1.fY;exact .inr ⟨a,b,xs,ys,rfl,rfl,ha,iW.of hb,by rw[r.length,rb.length];exact hl,k _ _ (r.append rb)⟩
  .cases e
 .simp only[jC] at e
  split at e
  .rename_i hl
   cases e;obtain⟨v,t,rfl,r1,r2⟩:=ra.of_cons;cases r2.fz;obtain⟨b,ys,rfl,hb,_,rb⟩:=r1.fL;exact .inl ⟨a,b,xs,ys,rfl,rfl,ha,hb,by rw[r.length,rb.length];exact hl,k _ _ (r.append rb)⟩
  .cases e⟩
theorem pD (i:Nat)(pa:PlainAttrs "list")(slot:Slot "list" name id)(Fg:typeOf (.builtin id)=pure (.type "method_descriptor"))(hm:SO X id f)(ha:KA X M (e::es) ua)
  (hN:X.N[i]? = some x:=by rfl) (hv:s9 X.env.scope x:=by (first | exact Or.inl rfl | exact Or.inr (Or.inl rfl) | exact Or.inr (Or.inr rfl))) (hd:(x == ("__debug__" : Str))=false:=by decide) (gP:(x == ("__classdict__" : Str))=false:=by decide)
  (jW:attributeBase (.Name x p) name X.env (eval (.Name x p) X.env)=eval (.Name x p) X.env:=by rfl) (hl:decide ((e::es).length+0+0<30)=true:=by rfl) (jX:(gk.endLine == fJ.line)=true:=by rfl)
  (hs:swapsWith (.Call (.Attribute (.Name x p) name gk) (e::es) [] fJ) none pos.line X.env=pure false:=by rfl):KS X M (.Expr (.Call (.Attribute (.Name x p) name gk) (e::es) [] fJ) pos) (lj i f ua):=by
 obtain⟨r,h1,h2⟩:=hm.ex;refine .of (B2 (M' X.K pa slot Fg h1 (qv i hN hv hd gP) ha.run rfl jW hl jX) hs) λD σ H env pn S n E ok hu k1 k2=>?_;unfold lj at hu;split at hu
 .rename_i ds he
  obtain⟨v,hv,a,xs,rfl,ha,ra,hs,h0⟩:=ok.val i _ he;refine⟨_,hv,.inl ⟨rfl,xs,gn.of ha⟩,env,pn,S,n,_,ok,hu,λvs H1 as n1 el r1 x1 g1 _ q=>?_⟩;obtain⟨qD,e',q⟩:=q;have mO:=ok.step x1 g1;obtain⟨v',NG,a',nO,Yb,lx,Yc,_,_⟩:=mO.val i _ he;subst Yb;rw[hv] at NG;cases NG;exact h2 S H1 a nO ds as vs qD _ lx Yc r1 e' λys w ry=>k1 _ _ _ _ _ (mO.put he hv lx ry) q
 .exact hu.elim
end
noncomputable abbrev XQ:=Str->List ad->Prop
noncomputable abbrev UF:=List ad->Int->(ad->Int->Prop)->XQ->Prop
noncomputable def Ct:XQ:=λ_ _=>False
noncomputable def Rz (C:Xc)(S gs:List Addr)(H:Hp)(E:XK)(c:Str)(as:List ad):Prop:=∀(dx:Addr) (H':Hp) (vs:List V),dP S H' as vs->H' dx=some (.ext (jl dx ((C.fl c).zip vs)))->Ext gs H H'->E (.ref (C.cl c)) (some dx) H'
noncomputable def uX (C:Xc)(F:UF):Sp:=λvs H Q E=>∃S ds n Qp Xp,dP S H ds vs/\(∀a∈S,H a≠none)/\F ds n Qp Xp/\(∀d v H',eB S H' d v->Ext [] H H'->Qp d n->Q v H')/\∀c as,Xp c as->Rz C S [] H E c as
structure zj where
 iF:Hp->Addr->Addr->Int->Prop
 ext:∀{S:List Addr} {H H':Hp} {fa sa:Addr} {n:Int},iF H fa sa n->Ext S H H'->fa ∉ S->sa ∉ S->iF H' fa sa n
 fa:∀{H:Hp} {fa sa:Addr} {n:Int},iF H fa sa n->H fa≠none
 sa:∀{H:Hp} {fa sa:Addr} {n:Int},iF H fa sa n->H sa≠none
 nx:∀{H:Hp} {fa sa:Addr} {n:Int},iF H fa sa n->∀φ,H fa≠some (.ext φ)
noncomputable def wd (Y:zj)(F:UF):Sp:=λvs H Q E=>∃fa sa us S ds n Qp,vs=.ref fa::us/\Y.iF H fa sa n/\fa∈S/\dP S H ds us/\(∀a∈S,H a≠none)/\F ds n Qp Ct/\(∀d n' v H',eB S H' d v->Y.iF H' fa sa n'->Ext [fa] H H'->Qp d n'->Q v H')
noncomputable def Fr.pure (C:Xc)(n0:Int)(S:List Addr)(H:Hp)(has:∀a∈S,H a≠none):Fr where
 G:=λ_ n=>n=n0
 gs:=[]
 S0:=S
 H0:=H
 fa:=.gB
 fd:=[]
 xc:=C
 ik:=λh _ _=>h
 vX:=λ_ a h=>by cases h
 SH:=λ_ a h=>by cases h
 SI:=λa h=>by cases h
 xT:=has
noncomputable def Fr.feed (C:Xc)(Y:zj)(i:Nat)(fa sa:Addr)(n0:Int)(S:List Addr)(H:Hp)(hf:Y.iF H fa sa n0)(hS:fa∈S)(has:∀a∈S,H a≠none):Fr where
 G:=λH n=>Y.iF H fa sa n
 gs:=[fa]
 S0:=S
 H0:=H
 fa:=.ref fa
 fd:=[i]
 xc:=C
 ik:=λh x k=>Y.ext h x (λz=>Y.fa hf (k _ z)) (λz=>Y.sa hf (k _ z))
 vX:=λh a ha=>by have e:=av.mp ha;subst e;exact Y.fa h
 SH:=λh a ha=>by have e:=av.mp ha;subst e;exact Y.nx h
 SI:=λa ha=>by have e:=av.mp ha;subst e;exact hS
 xT:=has
noncomputable def envOf (N:Nat)(ds:List ad):fh:=ds.map (λd=>some (.s d))++List.replicate (N - ds.length) none
noncomputable def m7 (N np:Nat)(u:XQ->US):UF:=λds n Q Ex=>ds.length=np/\u Ex { nx:=λ_ n'=>Q .none n',rt:=Q } (envOf N ds) n
noncomputable def kJ (N np:Nat)(u:XQ->US):UF:=λds n Q Ex=>ds.length+1=np/\u Ex { nx:=λ_ n'=>Q .none n',rt:=Q } (none::envOf (N - 1) ds) n
theorem pE (h0:M.H0=H)(hS:M.S0=S)(r:dP S H ds vs)(hfd:M.fd=[])(g:M.G H n):dY M (envOf N.length ds) [] (start N vs) S H n:=by
 subst h0 hS;have hl:=r.length
 have key:∀(i:Nat) (e:oq),(envOf N.length ds)[i]? = some (some e)->∃d,ds[i]? = some d/\e=.s d:=λi e h=>by
  unfold envOf at h;by_cases hi:i<ds.length
  .rw[bM (by simpa using hi),aC] at h
   cases hd:ds[i]? with
   | none=>rw[hd] at h;cases h
   | some d=>rw[hd] at h;exact⟨d,rfl,(Option.some.inj (Option.some.inj h)).symm⟩
  .rw[bK (by simp;omega),cA] at h
   split at h<;>cases h
 refine⟨λi e h=>?_,λi j a b c h1=>?_,?_,(by rw[hfd];intro i hi;cases hi),g,.refl _ _,λa h=>h,λa h=>.inl h,M.xT,λp hp=>by cases hp⟩
 .obtain⟨d,hd,rfl⟩:=key i e h
  obtain⟨v,hv,rv⟩:=r.at hd;refine⟨v,?_,rv⟩;unfold start;rw[bM (by rw[aj];exact (aY.mp hv).1),aC,hv];rfl
 .obtain⟨d,_,e⟩:=key _ _ h1
  cases e
 .unfold envOf start
  simp[hl]
theorem Ai (h0:M.H0=H)(hS:M.S0=S)(r:dP S H ds vs)(hfd:M.fd=[0])(OW:M.fa=.ref fa)(hN:1<=N.length)(g:M.G H n):dY M (none::envOf (N.length - 1) ds) [] (start N (.ref fa::vs)) S H n:=by
 subst h0 hS;have hl:=r.length
 have key:∀(i:Nat) (e:oq),(none::envOf (N.length - 1) ds)[i]? = some (some e)->∃j d,i=j+1/\ds[j]? = some d/\e=.s d:=λi e h=>by
  cases i with
  | zero=>cases h
  | succ i =>
   rw[ag] at h;unfold envOf at h;by_cases hi:i<ds.length
   .rw[bM (by simpa using hi),aC] at h
    cases hd:ds[i]? with
    | none=>rw[hd] at h;cases h
    | some d=>rw[hd] at h;exact⟨i,d,rfl,hd,(Option.some.inj (Option.some.inj h)).symm⟩
   .rw[bK (by simp;omega),cA] at h
    split at h<;>cases h
 refine⟨λi e h=>?_,λi j a b c h1=>?_,?_,?_,g,.refl _ _,λa h=>h,λa h=>.inl h,M.xT,λp hp=>by cases hp⟩
 .obtain⟨j,d,rfl,hd,rfl⟩:=key i e h
  obtain⟨v,hv,rv⟩:=r.at hd;refine⟨v,?_,rv⟩;unfold start;have NP:j<vs.length:=(aY.mp hv).1;rw[bM (by rw[aj,ap];omega),ak,ag,aC,hv];rfl
 .obtain⟨j,d,_,_,e⟩:=key _ _ h1
  cases e
 .unfold envOf start
  simp[hl];omega
 .rw[hfd,OW]
  intro i hi;have e:=av.mp hi;subst e;unfold start;simp
section
variable {P:aO}{w:World}{K:W.Frag}{mg:Str->Option ae}{base:Heap}{f:Addr}{fd:bF}{x:Str}{fj:Str}{st:Stmt}{N ps:List Str}{k:Nat}{C:Xc}{u:XQ->US}{Y:zj}
theorem U2 (F:uq K x fj st f fd)(hm:mg x=some (.ref f))(sc:eZ N ps (dJ st))(hb:Binds K fd ps [])
  (body:∀(fq:ae) (A:Around) (outer:List Env) (s:aq) (H:Hp) (E:XK) (n0:Int) (S:List Addr) (has:∀a∈S,H a≠none),fm k (A.deeper (envOfC fj (dJ st) s.heap.objs.size f fq))->zh (ky rq P w K mg base N fj (dJ st) f fq A outer s H E).De (Fr.pure C n0 S H has) (fy st) (u Ct)) :
  eL P w K mg base (k+1) x ps (uX C (m7 N.length ps.length λ_=>u Ct)):=by
 refine⟨f,fd,F.KQ sc (λvs H Q E h=>?_) (λfq A outer s H vs Q E hr h=>?_),hm,F.kp,hb⟩
 .obtain⟨S,ds,n,Qp,Xp,r,_,hF,_⟩:=h
  rw[r.length];exact hF.1
 .obtain⟨S,ds,n,Qp,Xp,r,has,hF,hq,hx⟩:=h
  refine⟨_,(body fq A outer s H E n S has hr).run,envOf N.length ds,[],S,n,_,pE rfl rfl r rfl rfl,hF.2,λeA σ' S' H' n' ok q=>?_,λv H' d n' rv x g q=>?_⟩
  .have e:n'=n:=ok.gd
   subst e;exact hq _ _ H' .gB ok.ext q
  .have e:n'=n:=g
   subst e;exact hq d v H' rv x q
theorem U3 (F:uq K x fj st f fd)(hm:mg x=some (.ref f))(sc:eZ N ps (dJ st))(hb:Binds K fd ps [])(hN:1<=N.length)
  (body:∀(fq:ae) (A:Around) (outer:List Env) (s:aq) (H:Hp) (E:XK) (fa sa:Addr) (n0:Int) (S:List Addr) (hf:Y.iF H fa sa n0) (hS:fa∈S) (has:∀a∈S,H a≠none),fm k (A.deeper (envOfC fj (dJ st) s.heap.objs.size f fq)) ->
   zh (ky rq P w K mg base N fj (dJ st) f fq A outer s H E).De (Fr.feed C Y 0 fa sa n0 S H hf hS has) (fy st) (u Ct)) :
  eL P w K mg base (k+1) x ps (wd Y (kJ N.length ps.length λ_=>u Ct)):=by
 refine⟨f,fd,F.KQ sc (λvs H Q E h=>?_) (λfq A outer s H vs Q E hr h=>?_),hm,F.kp,hb⟩
 .obtain⟨fa,sa,us,S,ds,n,Qp,rfl,_,_,r,_,hF,_⟩:=h
  rw[ap,r.length];exact hF.1
 .obtain⟨fa,sa,us,S,ds,n,Qp,rfl,fe,hS,r,has,hF,hq⟩:=h
  refine⟨_,(body fq A outer s H E fa sa n S fe hS has hr).run,none::envOf (N.length - 1) ds,[],S,n,_,Ai rfl rfl r rfl rfl hN fe,hF.2,λeA σ' S' H' n' ok q=>?_,λv H' d n' rv x g q=>?_⟩
  .exact hq _ n' _ H' .gB ok.gd ok.ext q
  .exact hq d n' v H' rv g x q
end
noncomputable def dZ (F:UF)(ua:UA):UX:=λenv n Q=>ua env n λds n1=>F ds n1 Q Ct
mutual
def p9:ad->Bool
 | .list _=>false
 | .tuple ds=>pF ds
 | .dict _=>false
 | _=>true
def pF:List ad->Bool
 | []=>true
 | d::ds=>p9 d && pF ds
end
mutual
theorem eB.any {S S':List Addr}{H:Hp}:∀{d:ad} {v:V},p9 d=true->eB S H d v->eB S' H d v
 | .none,_,_,h=>h
 | .bool _,_,_,h=>h
 | .int _,_,_,h=>h
 | .str _,_,_,h=>h
 | .tuple ds,_,hn,h=>by
  obtain⟨a,xs,rfl,ha,r⟩:=h.fY;exact .tup ha (dP.any (by simpa [p9] using hn) r)
 | .list ds,_,hn,h=>by simp[p9] at hn
 | .dict _,_,hn,h=>by simp[p9] at hn
theorem dP.any {S S':List Addr}{H:Hp}:∀{ds:List ad} {vs:List V},pF ds=true->dP S H ds vs->dP S' H ds vs
 | [],_,_,h=>h
 | d::ds,_,hn,h=>by
  obtain⟨x,t,rfl,h1,h2⟩:=h.of_cons;simp only[pF,bA] at hn;exact .cons (eB.any hn.1 h1) (dP.any hn.2 h2)
end
noncomputable def Aj (F:UF)(ua:UA):UX:=λenv n Q=>ua env n λds n1=>F ds n1 (λd n'=>p9 d=true/\Q d n') Ct
section
theorem gg (D:eL X.prog X.w X.K X.mg X.base k x ps (uX C F))(hr:fm k X.A)(ha:KA X M (e::es) ua)(hg:Gl X x:=by rfl)(jj:(x == ("__debug__" : Str))=false:=by decide):KE X M (.Call (.Name x p) (e::es) [] pos) (dZ F ua) :=
 .of (lE D hr ha.run hg jj) λσ H R env pn S n Q ok hu k=>⟨env,pn,S,n,_,ok,hu,λvs H1 ds n1 el r1 x1 g1 _ q=>⟨S,ds,n1,Q,Ct,r1,(ok.step x1 g1).has,q,λd v H2 r2 x2 q2=>k v H2 d n1 r2 (x1.trans (x2.mono (!4))) (M.ik g1 x2 (!4)) q2,λc as z=>z.elim⟩⟩
theorem Jy (D:eL X.prog X.w X.K X.mg X.base k x ps (uX C F))(hr:fm k X.A)(ha:K6 X M (e::es) ua)(hg:Gl X x:=by rfl)(jj:(x == ("__debug__" : Str))=false:=by decide):KE X M (.Call (.Name x p) (e::es) [] pos) (Aj F ua) :=
 .of (lE D hr ha.run hg jj) λσ H R env pn S n Q ok hu k=>⟨env,pn,S,n,_,ok,hu,λvs H1 ds n1 r1 x1 g1 _ q=>⟨M.gs,ds,n1,_,Ct,r1.less ok.tf,M.vX g1,q,λd v H2 r2 x2 q2=>k v H2 d n1 (r2.any q2.1) (x1.trans (x2.mono (!4))) (M.ik g1 x2 (!4)) q2.2,λc as z=>z.elim⟩⟩
theorem eE (i:Nat){y:Str}{p2:Pos}{fa sa:Addr}(D:eL X.prog X.w X.K X.mg X.base k x ps (wd Y F))(hr:fm k X.A)(ha:KA X M es ua)
  (hG:M.G=λH n=>Y.iF H fa sa n:=by rfl) (OW:M.fa=.ref fa:=by rfl) (K3:M.gs=[fa]:=by rfl) (hfd:i∈M.fd:=by decide)
  (hN:X.N[i]? = some y:=by rfl) (hv:s9 X.env.scope y:=by (first | exact Or.inl rfl | exact Or.inr (Or.inl rfl) | exact Or.inr (Or.inr rfl))) (hd:(y == ("__debug__" : Str))=false:=by decide) (gP:(y == ("__classdict__" : Str))=false:=by decide)
  (hg:Gl X x:=by rfl) (jj:(x == ("__debug__" : Str))=false:=by decide):KE X M (.Call (.Name x p) (.Name y p2::es) [] pos) (dZ F ua) :=
 .of (lE D hr (gm (qv i hN hv hd gP) ha.run rfl) hg jj) λσ H R env pn S n Q ok hu k=>⟨_,ok.D3 i hfd,env,pn,S,n,_,ok,hu,λvs H1 ds n1 el r1 x1 g1 _ q=>by
  have mO:=ok.step x1 g1;refine⟨fa,sa,vs,S,ds,n1,Q,by rw[OW],by rw[hG] at g1;exact g1,ok.tf fa (by rw[K3];simp),r1,mO.has,q,λd n2 v H2 r2 f2 x2 q2=>k v H2 d n2 r2 (x1.trans (by rw[K3];exact x2)) (by rw[hG];exact f2) q2⟩⟩
noncomputable def Ak (Ex:XQ)(c:Str)(ua:UA):US:=λ_ env n=>ua env n λas _=>Ex c as
theorem GB (E:XK)(Ex:XQ)(C:Xc)(R:mn X.prog X.w X.K X.mg X.base x (C.cl x) (F' (C.cl x) f))(hf:C.fl x=[f])(hr:fm 2 X.A)(hl:lH X E)(hc:X.calm=true)(hx:∀c as,Ex c as->Rz C M.S0 M.gs M.H0 E c as)(ha:KA X M [e] ua)(hg:Gl X x:=by rfl)(jj:(x == ("__debug__" : Str))=false:=by decide) :
  KS X M (.Raise (some (.Call (.Name x p) [e] [] fJ)) none pos) (Ak Ex x ua):=.of (D1 E R hr hl hc ha.run hg jj) λD σ H env pn S n En ok hu k1 k2=>⟨env,pn,S,n,_,ok,hu,λvs H1 as n1 el r1 x1 g1 _ q=>by
 have hv:∃v,vs=[v]:=by
  match vs,el with
  | [v],_=>exact⟨v,rfl⟩
 obtain⟨v,rfl⟩:=hv;refine⟨by show 1<=100;decide,λy hy=>Nv (H0:=H1) (λdx H' hd x'=>?_) (.refl _ _) hy⟩;refine hx x as q dx H' [v] ((r1.ext (x'.mono (!4))).less ok.s0) (by rw[hf];exact hd) ((ok.step x1 g1).ext.trans (x'.mono (!4)))⟩
end
noncomputable def NQ (c:String)(d:ad):Bool:=match c,d with
 | "int",.int _=>true | "int",.bool _=>true | "bool",.bool _=>true | "tuple",.tuple _=>true | "list",.list _=>true | "str",.str _=>true | _,_=>false
noncomputable def NR (c:String)(u:UX):UX:=λenv n Q=>u env n λd n1=>Q (.bool (NQ c d)) n1
theorem U4 {K:W.Frag}{c:String}(hc:c = "int" \/ c = "bool" \/ c = "tuple" \/ c = "list" \/ c = "str")(d:ad):W.kitOne K (.type (TZ d)) (.type c)=some (NQ c d):=by
 rcases hc with rfl | rfl | rfl | rfl | rfl<;>cases d<;>rfl
theorem fC.ty {K:W.Frag}{gs S:List Addr}{H:Hp}{d:ad}{v:V}(h:fC gs S H d v):mG K H v (.type (TZ d)):=by
 rcases h with h | ⟨ds,a,xs,rfl,rfl,ha,_⟩ | ⟨t,kvs,a,xs,rfl,rfl,ha,_⟩
 .exact h.ty
 .exact .lst ha
 .cases t with
  | true=>exact .dT ha
  | false=>exact .dK ha
section
variable {X:Cx}{M:Fr}{e a b:Expr}{u w:UX}{p p2 q2 pos:Pos}{c:String}{x:Str}
theorem Rk (hm:X.mg "isinstance" = none)(hx:X.mg x=none)(h:KL X M e u)(hc:c = "int" \/ c = "bool" \/ c = "tuple" \/ c = "list" \/ c = "str" := by decide)(hv:bootBuiltins x=some (.type c):=by decide +kernel)(hg:Gl X "isinstance" := by rfl)(Yd:Gl X x:=by rfl)(hs:e8 e=true:=by rfl)(hn:x ≠ "__name__" := by decide)(jj:(x == ("__debug__" : Str))=false:=by decide) :
  KE X M (.Call (.Name "isinstance" p) [e,.Name x p2] [] pos) (NR c u) :=
 .of (fO (T3 X.K) hg hm (!3) (gm h.run (gm (KP c Yd hx hv hn jj) eY rfl) hs)) λσ H R env pn S n Q ok hu k=>⟨env,pn,S,n,_,ok,hu,λv H1 d n1 r1 x1 g1 _ q=>⟨v,_,c,_,rfl,r1.ty,U4 hc d,k _ H1 _ n1 (.bl _) x1 g1 q⟩⟩
theorem Al (ok:dY M env pn σ S H n)(x:Ext M.gs H H')(g:M.G H' n')(h:H' l=none):H l=none:=by
 by_cases z:l∈M.gs
 .exact absurd h (M.vX g l z)
 .exact x.fresh z h
noncomputable def Lg (u:UX):fh->Int->(List ad->Int->Prop)->Prop:=λenv n Q=>u env n λd n1=>match d with | .int j=>(-(2 ^ 62)<=j/\j<=16777216)/\Q (oy 0 j.toNat) n1 | _=>False
theorem GC (j:Int):dP S H (oy 0 j.toNat) (vI 0 j):=by
 unfold oy vI;rw[Int.sub_zero];generalize j.toNat=m
 induction m with
 | zero=>exact .nil
 | succ m ih =>
  rw[List.range_succ,a9,a9];exact ih.append (.cons (.int _) .nil)
theorem Jz (hm:X.mg "list" = none)(HQ:X.mg "range" = none)(hc:X.calm=true)(h:KE X M e u)(hg:Gl X "list" := by rfl)(HZ:Gl X "range" := by rfl)(hs:e8 e=true:=by rfl):KN X M (.Call (.Name "list" p) [.Call (.Name "range" p2) [e] [] q2] [] pos) (Lg u) :=
 .of (jb (tG hc) hg hm (!3) (gm (jb Fy HZ HQ (!3) (gm h.run eY hs)) eY)) λσ H R env pn S n Q ok hu k=>⟨env,pn,S,n,_,ok,hu,λv H1 d n1 r1 x1 g1 _ q=>by
  cases d with
  | int j =>
   refine⟨j,by rw[r1.eO],λr hr=>⟨r,0,j,rfl,dM,⟨!2,!2,q.1.1,by have:=q.1.2;omega⟩,by have:=q.1.2;omega,λl hl=>?_⟩⟩;have x2:Ext [] H1 (eR H1 r (.Kg 0 j)):=.new hr;have x3:Ext [] (eR H1 r (.Kg 0 j)) _:=.new (o:=.lst (vI 0 j)) hl;have Wi:=x2.trans x3;exact k l _ _ _ n1 (Al ok (x1.trans (x2.mono (!4))) (M.ik g1 x2 (!4)) hl) dM (GC j) (x1.trans (Wi.mono (!4))) (M.ik g1 Wi (!4)) q.2
  | _=>exact False.elim q⟩
noncomputable def yj:ad->Option Int | .int i=>some i | _=>none
noncomputable def iq (ds:List ad):Option (List Int):=ds.mapM yj
@[simp] theorem ir (ns:List Int):iq (ns.map .int)=some ns:=by
 unfold iq
 induction ns with
 | nil=>rfl
 | cons n ns ih=>rw[ak,cB,ih];rfl
theorem iu:∀{ds:List ad} {ns:List Int},iq ds=some ns->ds=ns.map .int
 | [],ns,h=>by cases h;rfl
 | d::ds,ns,h=>by
  unfold iq at h;rw[cB] at h
  cases d with
  | int i =>
   cases e:ds.mapM yj with
   | none=>simp[yj,e] at h
   | some ms =>
    simp[yj,e] at h;subst h;rw[iu (ds:=ds) e];rfl
  | _=>simp[yj] at h
theorem jd:∀{ns:List Int} {xs:List V},dP S H (ns.map .int) xs->xs=ns.map V.int
 | [],_,r=>r.fz
 | n::ns,_,r=>by
  obtain⟨x,t,rfl,r1,r2⟩:=r.of_cons;rw[r1.eO,jd r2];rfl
noncomputable def insI (a:Int):List Int->List Int | []=>[a] | b::l=>if a<=b then a::b::l else b::insI a l
noncomputable def sortI:List Int->List Int | []=>[] | a::l=>insI a (sortI l)
theorem insI_perm (a:Int):∀l,(insI a l).Perm (a::l)
 | []=>.refl _
 | b::l=>by
  unfold insI;split
  .exact .refl _
  .exact ((insI_perm a l).cons b).trans (.swap a b l)
theorem sortI_perm:∀l,(sortI l).Perm l
 | []=>.refl _
 | a::l=>(insI_perm a (sortI l)).trans ((sortI_perm l).cons a)
theorem qa (a:Int):∀l:List Int,l.Pairwise (·<=·)->(insI a l).Pairwise (·<=·)
 | [],_=>by simp[insI]
 | b::l,h=>by
  unfold insI;obtain⟨h1,h2⟩:=bY.mp h;split
  .rename_i qC
   exact bY.mpr ⟨λc hc=>by rcases au.mp hc with rfl | hc;exact qC;exact bD qC (h1 c hc),h⟩
  .rename_i qC
   refine bY.mpr ⟨λc hc=>?_,qa a l h2⟩;rcases au.mp ((insI_perm a l).mem_iff.mp hc) with rfl | hc
   .omega
   .exact h1 c hc
theorem i5:∀l,(sortI l).Pairwise (·<=·)
 | []=>.nil
 | a::l=>qa a _ (i5 l)
theorem m8 {l m:List Int}(h:l.Perm m)(hl:l.Pairwise (·<=·))(hm:m.Pairwise (·<=·)):l=m:=h.eq_of_pairwise (λa b _ _ h1 h2=>Int.le_antisymm h1 h2) hl hm
noncomputable def jD:List Int->List Int | []=>[] | a::l=>if a∈l then jD l else a::jD l
theorem je:∀{l:List Int},k∈jD l↔k∈l
 | []=>Iff.rfl
 | a::l=>by
  unfold jD;split
  .rename_i h
   rw[je,au];exact⟨.inr,λz=>z.elim (λe=>e ▸ h) id⟩
  .rw[au,je,au]
theorem jE:∀l:List Int,(jD l).Nodup
 | []=>List.nodup_nil
 | a::l=>by
  unfold jD;split
  .exact jE l
  .rename_i h
   exact bN.mpr ⟨λz=>h (je.mp z),jE l⟩
noncomputable def kK (l:List Int):List Int:=sortI (jD l)
theorem iw:k∈kK l↔k∈l:=((sortI_perm _).mem_iff).trans je
theorem mq (l:List Int):(kK l).Pairwise (· < ·):=lG (i5 _) ((sortI_perm _).nodup_iff.mpr (jE l))
theorem we:∀{l m:List Int},l.Pairwise (· < ·)->m.Pairwise (· < ·)->(∀k,k∈l↔k∈m)->l=m:=λ{l m} hl hm h=>by
 have nl:l.Nodup:=hl.imp λh=>by omega
 have nm:m.Nodup:=hm.imp λh=>by omega
 exact m8 ((cg nl nm).mpr h) (hl.imp λh=>by omega) (hm.imp λh=>by omega)
noncomputable def Am (u:UX):fh->Int->(List ad->Int->Prop)->Prop:=λenv n Q=>u env n λd n1=>pk (oz d) λds=>pk (iq ds) λns=>ns.length<64/\Q ((kK ns).map .int) n1
theorem JA (hm:X.mg "sorted" = none)(HQ:X.mg "set" = none)(hc:X.calm=true)(h:KL X M e u)(hg:Gl X "sorted" := by rfl)(HZ:Gl X "set" := by rfl)(hs:e8 e=true:=by rfl):KN X M (.Call (.Name "sorted" p) [.Call (.Name "set" p2) [e] [] q2] [] pos) (Am u) :=
 .of (vT X.K hc hg hm HZ HQ h.run rfl hs) λσ H R env pn S n Q ok hu k=>⟨env,pn,S,n,_,ok,hu,λv H1 d n1 r1 x1 g1 _ q=>by
  obtain⟨ds,e,ns,ei,hl,q⟩:=q;have e2:=iu ei;subst e2
  have fin:∀(l:Addr) (ms:List Int) (H2:Hp),Ext [] H1 H2->H1 l=none->H2 l=some (.lst (ms.map V.int))->ms.Pairwise (· < ·)->(∀k,k∈ms↔k∈ns)->ms.length<=ns.length->R (.ref l) H2:=λl ms H2 x2 hl h2 hp hm _=>by
   have em:ms=kK ns:=we hp (mq ns) λk=>(hm k).trans iw.symm;subst em;exact k l _ H2 _ n1 (Al ok x1 g1 hl) h2 (.ints _) (x1.trans (x2.mono (!4))) (M.ik g1 x2 (!4)) q
  cases d with
  | tuple es =>
   cases e;obtain⟨a,xs,rfl,sq,_,rs⟩:=r1.La (K:=X.K);rw[jd rs] at sq;exact⟨a,ns,rfl,.inr sq,hl,fin⟩
  | list es =>
   cases e;obtain⟨a,xs,rfl,sq,_,rs⟩:=r1.OQ (K:=X.K);rw[jd rs] at sq;exact⟨a,ns,rfl,.inl sq,hl,fin⟩
  | _=>cases e⟩
noncomputable def mP (u:UX):UX:=λenv n Q=>u env n λd n1=>Good d/\Q (.str d.shown) n1
theorem An (hr:fm kk X.A)(hm:X.mg "repr" = none)(h:KE X M e u)(hg:Gl X "repr" := by rfl)(hs:e8 e=true:=by rfl):KE X M (.Call (.Name "repr" p) [e] [] pos) (mP u) :=
 .of (fO (rC hr) hg hm (!3) (gm h.run eY hs)) λσ H R env pn S n Q ok hu k=>⟨env,pn,S,n,_,ok,hu,λv H1 d n1 r1 x1 g1 _ q=>⟨S,d,v,rfl,r1,q.1,k _ H1 _ n1 (.str _) x1 g1 q.2⟩⟩
noncomputable def NS:ad->Option Bool | .bool i=>some i | _=>none
noncomputable def Cu (ds:List ad):Option (List Bool):=ds.mapM NS
@[simp] theorem Lh (ns:List Bool):Cu (ns.map .bool)=some ns:=by
 unfold Cu
 induction ns with
 | nil=>rfl
 | cons n ns ih=>rw[ak,cB,ih];rfl
end
theorem nf (i:Nat)(l:List Nat)(h:l.contains i=false:=by rfl):i ∉ l:=λz=>by
 have:l.contains i=true:=List.contains_iff_mem.mpr z;rw[h] at this;cases this
theorem Li {P:Nat->Prop}:∀j∈([]:List Nat),P j:=λj h=>by cases h
theorem Wj {i j:Nat}{mp:List (Option Nat)}(h:mp[j]? = some (some i)):∀j'∈[j],∃i'∈[i],mp[j']? = some (some i'):=λj' hj=>by
 have e:=av.mp hj;subst e;exact⟨i,av.mpr rfl,h⟩
structure XF (K:W.Frag) (mg:Str->Option ae) (C:Xc) (oE all:List Str):Prop where
 nm:∀c∈all,mg c=some (.ref (C.cl c))
 UE:∀c∈oE,∀h,(h=c\/h = "JoinError")->W.exmOne K (.ref (C.cl c)) (.ref (C.cl h))=some true
 Wk:∀c∈oE,∀h∈all,W.kitOne K (.ref (C.cl c)) (.ref (C.cl h))=some (decide (h=c\/h = "JoinError"))
 val:∀c∈oE,W.kitOne K (.ref (C.cl c)) (.type "ValueError")=some true
 ci:∀c∈oE,DY K (C.cl c)
 fld:∀c∈oE,∀f∈C.fl c,W.findIn K (.ref (C.cl c)) f=some none
section
variable {X:Cx}{M:Fr}{C:Xc}{oE all:List Str}{e:Expr}{es:List Expr}{ua:UA}{F:UF}{k i j:Nat}{x f cn nm:Str}{ps:List Str}{b0:Stmt}{oo:List Stmt}{uh:US}{p pos gk px np z7 fJ:Pos}
theorem dY.drop (ok:dY M env pn σ S H n)(hj:j ∉ M.fd):dY M (env.set j none) pn (σ.set j none) S H n:=by
 refine⟨λi e he=>?_,λi k ds es a h1 h2 h3 h4=>?_,by rw[a7,a7,ok.len],λi hi=>?_,ok.gd,ok.ext,ok.s0,ok.sn,ok.has,ok.pin⟩
 .rcases eN he with⟨_,e1⟩ | ⟨ne,e1⟩
  .cases e1
  .obtain⟨v,hv,r⟩:=ok.val i e e1
   exact⟨v,by rw[aK ne];exact hv,r⟩
 .rcases eN h1 with⟨_,e1⟩ | ⟨n1,e1⟩
  .cases e1
  .rcases eN h2 with⟨_,e2⟩ | ⟨n2,e2⟩
   .cases e2
   .rw[aK n1] at h3
    rw[aK n2] at h4;exact ok.ne i k ds es a e1 e2 h3 h4
 .have:j≠i:=λz=>hj (z ▸ hi)
  rw[aK this];exact ok.D3 i hi
theorem dY.U5 (ok:dY M env pn σ S H n)(r:p7 M S H (.x c as) v)(hj:j ∉ M.fd):dY M (env.set j (some (.x c as))) pn (σ.set j (some v)) S H n:=by
 refine⟨λi e he=>?_,λi k ds es a h1 h2 h3 h4=>?_,by rw[a7,a7,ok.len],λi hi=>?_,ok.gd,ok.ext,ok.s0,ok.sn,ok.has,ok.pin⟩
 .rcases eN he with⟨rfl,e1⟩ | ⟨ne,e1⟩
  .cases e1
   have:j<env.length:=by
    by_cases z:j<env.length
    .exact z
    .rw[bp (by rw[a7];omega)] at he;cases he
   exact⟨v,kH (by rw[<- ok.len];exact this),r⟩
  .obtain⟨v,hv,r⟩:=ok.val i e e1
   exact⟨v,by rw[aK ne];exact hv,r⟩
 .rcases eN h1 with⟨_,e1⟩ | ⟨n1,e1⟩
  .cases e1
  .rcases eN h2 with⟨_,e2⟩ | ⟨n2,e2⟩
   .cases e2
   .rw[aK n1] at h3
    rw[aK n2] at h4;exact ok.ne i k ds es a e1 e2 h3 h4
 .have:j≠i:=λz=>hj (z ▸ hi)
  rw[aK this];exact ok.D3 i hi
noncomputable def JB (i:Nat)(oE:List Str)(h:Str):UX:=λenv n Q=>match env[i]? with | some (some (.x c _))=>c∈oE/\Q (.bool (decide (h=c\/h = "JoinError"))) n | _=>False
noncomputable def Cv (i:Nat)(oE:List Str):UX:=λenv n Q=>match env[i]? with | some (some (.x c _))=>c∈oE/\Q (.bool true) n | _=>False
noncomputable def Cw (i:Nat)(oE hs:List Str):UX:=λenv n Q=>match env[i]? with | some (some (.x c _))=>c∈oE/\Q (.bool (hs.any λh=>decide (h=c\/h = "JoinError"))) n | _=>False
noncomputable def JC (i:Nat)(oE:List Str)(fl:Str->List Str)(f:Str):UX:=λenv n Q=>match env[i]? with | some (some (.x c as))=>(c∈oE/\f∈fl c)/\pk (((fl c).zip as).lookup f) λd=>Q d n | _=>False
theorem r9:∀{fs:List Str} {as:List ad} {vs:List V},dP S H as vs->(fs.zip as).lookup f=some d->∃v,(fs.zip vs).lookup f=some v/\eB S H d v
 | [],_,_,_,h=>by cases h
 | g::fs,[],_,_,h=>by cases h
 | g::fs,a::as,_,r,h=>by
  obtain⟨v,t,rfl,r1,r2⟩:=r.of_cons;rw[List.zip_cons_cons,bS] at h;rw[List.zip_cons_cons,bS]
  cases e:f == g with
  | true=>rw[e] at h;cases h;exact⟨v,rfl,r1⟩
  | false=>rw[e] at h;exact r9 r2 h
theorem Rl (i:Nat)(hM:M.xc=C)(xf:XF X.K X.mg C oE all)(hh:h∈all)(hm:X.mg "isinstance" = none)(hN:X.N[i]? = some y:=by rfl)(hv:s9 X.env.scope y:=by (first | exact Or.inl rfl | exact Or.inr (Or.inl rfl) | exact Or.inr (Or.inr rfl)))(hd:(y == ("__debug__" : Str))=false:=by decide)(gP:(y == ("__classdict__" : Str))=false:=by decide)
  (hg:Gl X "isinstance" := by rfl) (Rm:Gl X h:=by rfl) (U6:(h == ("__debug__" : Str))=false:=by decide):KE X M (.Call (.Name "isinstance" p) [.Name y p2,.Name h p3] [] pos) (JB i oE h) :=
 .of (fO (pj X.K) hg hm (!3) (gm (qv i hN hv hd gP) (gm (BX (v:=.ref (C.cl h)) Rm (xf.nm h hh) rfl U6) eY rfl) rfl)) λσ H R env pn S n Q ok hu k=>by
  unfold JB at hu;split at hu
  .rename_i c as he
   obtain⟨v,hv,a,dx,vs,rfl,ha,DW,rv,_⟩:=ok.val i _ he;subst hM;exact⟨_,hv,a,_,dx,_,_,_,rfl,ha,DW,xf.ci c hu.1,.own (xf.Wk c hu.1 h hh),k _ H _ n (.bl _) (.refl _ _) ok.gd hu.2⟩
  .exact hu.elim
theorem NT (i:Nat)(hM:M.xc=C)(xf:XF X.K X.mg C oE all)(hm:X.mg "isinstance" = none)(Ye:X.mg "ValueError" = none)(hN:X.N[i]? = some y:=by rfl)(hv:s9 X.env.scope y:=by (first | exact Or.inl rfl | exact Or.inr (Or.inl rfl) | exact Or.inr (Or.inr rfl)))(hd:(y == ("__debug__" : Str))=false:=by decide)(gP:(y == ("__classdict__" : Str))=false:=by decide)
  (hg:Gl X "isinstance" := by rfl) (Rm:Gl X "ValueError" := by rfl):KE X M (.Call (.Name "isinstance" p) [.Name y p2,.Name "ValueError" p3] [] pos) (Cv i oE) :=
 .of (fO (pj X.K) hg hm (!3) (gm (qv i hN hv hd gP) (gm (KP "ValueError" Rm Ye (!3)) eY rfl) rfl)) λσ H R env pn S n Q ok hu k=>by
  unfold Cv at hu;split at hu
  .rename_i c as he
   obtain⟨v,hv,a,dx,vs,rfl,ha,DW,rv,_⟩:=ok.val i _ he;subst hM;exact⟨_,hv,a,_,dx,_,_,_,rfl,ha,DW,xf.ci c hu.1,.ty (xf.val c hu.1),k _ H _ n (.bl _) (.refl _ _) ok.gd hu.2⟩
  .exact hu.elim
structure SQ (X:Cx) (C:Xc) (es:List Expr) (hs:List Str):Prop where
 run:∃t,QA X es t/\∀σ H (R:List V->Hp->Prop),R (hs.map λh=>.ref (C.cl h)) H->t σ H R
theorem NU:SQ X C [] []:=⟨_,eY,λσ H R h=>h⟩
theorem D8 (xf:XF X.K X.mg C oE all)(hh:h∈all)(r:SQ X C es hs)(Rm:Gl X h:=by rfl)(U6:(h == ("__debug__" : Str))=false:=by decide):SQ X C (.Name h p3::es) (h::hs):=by
 obtain⟨t,q,k⟩:=r.run;exact⟨_,gm (BX (v:=.ref (C.cl h)) Rm (xf.nm h hh) rfl U6) q rfl,λσ H R hR=>k σ H _ hR⟩
theorem Cy {K:W.Frag}{mg:Str->Option ae}(xf:XF K mg C oE all){c:Str}(hc:c∈oE):∀{hs:List Str},(∀h∈hs,h∈all)->W.kitAny K (.ref (C.cl c)) ((hs.map λh=>C.cl h).map ae.ref)=some (hs.any λh=>decide (h=c\/h = "JoinError"))
 | [],_=>rfl
 | h::hs,ha=>by
  rw[ak,ak,cJ];show (match W.kitOne K (.ref (C.cl c)) (.ref (C.cl h)) with | some true=>some true | some false=>W.kitAny K (.ref (C.cl c)) ((hs.map λh=>C.cl h).map ae.ref) | none=>none)=_;rw[xf.Wk c hc h (ha h (ar ..))]
  cases e:decide (h=c\/h = "JoinError") with
  | true=>rfl
  | false=>exact Cy xf hc λg hg=>ha g (ao _ hg)
theorem NV (i:Nat)(hM:M.xc=C)(xf:XF X.K X.mg C oE all)(hh:∀h∈hs,h∈all)(hm:X.mg "isinstance" = none)(cs:SQ X C es hs)(hl:hs.length<=ax:=by decide)(hN:X.N[i]? = some y:=by rfl)(hv:s9 X.env.scope y:=by (first | exact Or.inl rfl | exact Or.inr (Or.inl rfl) | exact Or.inr (Or.inr rfl)))(hd:(y == ("__debug__" : Str))=false:=by decide)(gP:(y == ("__classdict__" : Str))=false:=by decide)
  (hg:Gl X "isinstance" := by rfl):KE X M (.Call (.Name "isinstance" p) [.Name y p2,.Tuple es k2 p3] [] pos) (Cw i oE hs):=by
 obtain⟨t,qt,kt⟩:=cs.run;refine .of (fO (pj X.K) hg hm (!3) (gm (qv i hN hv hd gP) (gm (FF qt) eY rfl) rfl)) λσ H R env pn S n Q ok hu k=>?_;unfold Cw at hu;split at hu
 .rename_i c as he
  obtain⟨v,hv,a,dx,vs,rfl,ha,DW,rv,_⟩:=ok.val i _ he;subst hM;refine⟨_,hv,kt σ H _ ⟨by rw[aj];exact hl,λt ht=>?_⟩⟩;have x1:Ext [] H (eR H t (.tup (hs.map λh=>.ref (M.xc.cl h)))):=.new ht;refine⟨a,_,dx,_,_,_,rfl,x1.keep _ _ (!4) ha,x1.keep _ _ (!4) DW,xf.ci c hu.1,.tup (ds:=hs.map λh=>M.xc.cl h) ?_ (Cy xf hu.1 hh),k _ _ _ n (.bl _) (x1.mono (!4)) (M.ik ok.gd x1 (!4)) hu.2⟩;rw[dM,bv];rfl
 .exact hu.elim
theorem Rn (i:Nat)(hM:M.xc=C)(xf:XF X.K X.mg C oE all)(hN:X.N[i]? = some y:=by rfl)(hv:s9 X.env.scope y:=by (first | exact Or.inl rfl | exact Or.inr (Or.inl rfl) | exact Or.inr (Or.inr rfl)))(hd:(y == ("__debug__" : Str))=false:=by decide)(gP:(y == ("__classdict__" : Str))=false:=by decide)
  (hb:attributeBase (.Name y p2) f X.env (eval (.Name y p2) X.env)=eval (.Name y p2) X.env:=by rfl):KE X M (.Attribute (.Name y p2) f pos) (JC i oE C.fl f) :=
 .of (Jn X.K (qv i hN hv hd gP) hb) λσ H R env pn S n Q ok hu k=>by
  unfold JC at hu;split at hu
  .rename_i c as he
   obtain⟨v,hv,a,dx,vs,rfl,ha,DW,rv,_⟩:=ok.val i _ he;subst hM;obtain⟨⟨h1,h2⟩,d,hl,q⟩:=hu;obtain⟨w,hw,oY⟩:=r9 rv hl;exact⟨_,hv,a,_,dx,_,w,rfl,ha,DW,(xf.ci c h1).cx,xf.fld c h1 f h2,hw,k w H d n oY (.refl _ _) ok.gd q⟩
  .exact hu.elim
end
noncomputable def jo:Int:=1099511627776
noncomputable def fE:UF:=λds n Q _=>match ds with | [.int m]=>(0<m/\m<1073741824/\n<jo)/\∀r:Int,0<=r->r<m->Q (.int r) (n+1) | _=>False
noncomputable def Cz (Y:zj):Sp:=λvs H Q _=>∃(fa sa:Addr) (n many:Int),vs=[.ref fa,.int many]/\Y.iF H fa sa n/\0<many/\many<1073741824/\n<jo/\∀(r:Int) (H':Hp),0<=r->r<many->Y.iF H' fa sa (n+1)->Ext [fa] H H'->Q (.int r) H'
noncomputable def qH (Y:zj)(K:W.Frag):Sp:=λvs H Q _=>∃(a:Addr) (ns:List Int),vs=[.ref a]/\gn K H a (ns.map V.int)/\∀(fa sa:Addr) (H':Hp),Y.iF H' fa sa 0->Ext [] H H'->H fa=none->H sa=none->Q (.ref fa) H'
noncomputable def yk (K:W.Frag):Sp:=λvs H Q _=>∃(a:Addr) (ns:List Int),vs=[.ref a]/\gn K H a (ns.map V.int)/\ns.length<=63/\∀H',Q (.bl true) H'
section
variable {P:aO}{w:World}{K:W.Frag}{mg:Str->Option ae}{base:Heap}{f:Addr}{fd:bF}{x:Str}{ps:List Str}{k:Nat}{C:Xc}{u:US}{Y:zj}{st Wl:Stmt}{rest:List Stmt}{N:List Str}{sn:Str}
theorem eL.imp {sp PL:Sp}(D:eL P w K mg base k x ps sp)(h:∀vs H Q E,PL vs H Q E->sp vs H Q E):eL P w K mg base k x ps PL:=let ⟨f,fd,F,r⟩:=D.ex;⟨f,fd,F.imp h,r⟩
theorem eL.up {sp:Sp}{k':Nat}(D:eL P w K mg base k x ps sp)(h:k<=k'):eL P w K mg base k' x ps sp:=let ⟨f,fd,F,r⟩:=D.ex;⟨f,fd,F.mono h,r⟩
theorem eL.draw (D:eL P w K mg base k x ps (Cz Y)):eL P w K mg base k x ps (wd Y fE):=D.imp λvs H Q E h=>by
 obtain⟨fa,sa,us,S,ds,n,Qp,rfl,fe,hS,r,has,hF,hq⟩:=h;unfold fE at hF;split at hF
 .rename_i m
  obtain⟨⟨h1,h2,h3⟩,h4⟩:=hF;obtain⟨v,t,rfl,r1,r2⟩:=r.of_cons;cases r2.fz;cases r1.eO;exact⟨fa,sa,n,m,rfl,fe,h1,h2,h3,λr H' r0 r1 Yf x=>hq _ _ _ H' (.int r) Yf x (h4 r r0 r1)⟩
 .exact hF.elim
theorem U7 (F:uq K "law" "law" st f fd)(sc:eZ N [sn] (dJ st))(hN:2<=N.length)
  (body:∀(fq:ae) (A:Around) (outer:List Env) (s:aq) (H:Hp) (E:XK),fm k (A.deeper (envOfC "law" (dJ st) s.heap.objs.size f fq)) ->
   QS (ky rq P w K mg base N "law" (dJ st) f fq A outer s H E).De Wl (EZ (rA (qH Y K) (E8 (LO 0) Mv)) (w9 1)) /\
   ∀(fa sa:Addr) (n0:Int) (S:List Addr) (H1:Hp) (hf:Y.iF H1 fa sa n0) (hS:fa∈S) (has:∀a∈S,H1 a≠none),zh (ky rq P w K mg base N "law" (dJ st) f fq A outer s H E).De (Fr.feed C Y 1 fa sa n0 S H1 hf hS has) rest u)
  (hb:fy st=Wl::rest) (hu:u { nx:=λ_ _=>False,rt:=λd _=>d=.bool true } (List.replicate N.length none) 0):iP P w K mg base rq (k+1) f fd [sn] (yk K):=by
 refine F.KQ sc (λvs H Q E h=>?_) (λfq A outer s H vs Q E hr h=>?_)
 .obtain⟨a,ns,rfl,_⟩:=h
  rfl
 .obtain⟨a,ns,rfl,hs,_,q⟩:=h
  obtain⟨q0,qr⟩:=body fq A outer s H E hr
  have Ro:uz (ky rq P w K mg base N "law" (dJ st) f fq A outer s H E).De rest (λD σ H'=>∃fa sa n0 S H1 hf hS has,Gj (Fr.feed C Y 1 fa sa n0 S H1 hf hS has) u D σ H') :=
   ⟨λpins s σ H D I ⟨fa,sa,n0,S,H1,hf,hS,has,h⟩=>(qr fa sa n0 S H1 hf hS has).run.run pins s σ H D I h⟩
  rw[hb];have wU:start N [V.ref a]=some (.ref a)::List.replicate (N.length - 1) none:=rfl;refine⟨_,e9 q0 Ro,_,by rw[wU];rfl,a,ns,rfl,hs,λfa sa H1 fe x1 OW Z1=>?_⟩;have has:∀b∈[fa],H1 b≠none:=λb hb=>by have e:=av.mp hb;subst e;exact Y.fa fe
  refine⟨fa,sa,0,[fa],H1,fe,av.mpr rfl,has,List.replicate N.length none,[],[fa],0,_,⟨λi e he=>?_,λi j ds es b h1=>?_,?_,?_,fe,.refl _ _,λb hb=>hb,λb hb=>.inl hb,has,λp hp=>by cases hp⟩,hu,λ_ _ _ _ _ _ z=>z.elim,λv H' d n' r _ _ e=>?_⟩
  .rw[cA] at he
   split at he<;>cases he
  .rw[cA] at h1
   split at h1<;>cases h1
  .rw[a7,wU,ap,cZ,cZ]
   omega
  .intro i hi
   have e:i=1:=av.mp hi;subst e;rw[wU];exact kH (by rw[ap,cZ];omega)
  .subst e
   rw[r.lD];exact q H'
end
noncomputable def JD:ad->ad->Option ad | .int i,.int j=>some (.int (Builtin.bitAnd i j)) | _,_=>none
section
theorem Rp:xU X (binaryOp .BitAnd) JD:=Co (g:=λi j=>.int (Builtin.bitAnd i j)) Mr (λ_ _ _ _=>.int _) λx y d e=>by
 cases x<;>cases y<;>simp[JD] at e;exact⟨_,_,rfl,rfl,e.symm⟩
end
theorem tO.U8 {K:W.Frag}{mg:Str->Option ae}{x:Str}{C J:Addr}(e:tO K C J)(o:D2 K mg x C)(bx:W.mroIn K C (.type "BaseException")=some true):W.exmOne K (.ref C) (.ref C)=some true:=by
 unfold W.exmOne;have h:W.subIn K (.ref C) (.type "BaseException")=some true:=bx;rw[h,if_pos (!4),o.UD];exact e.own
end L2
namespace L2
open PySem
mutual
def Gd (B:Nat):ad->Prop
 | .none=>True
 | .bool _=>True
 | .int i=>i.natAbs<=B
 | .str x=>(∀c∈x.cps.toList,c<1114112)/\x.cps.size<=60
 | .tuple ds=>Lj B ds
 | .list ds=>Lj B ds
 | .dict _=>False
def Lj (B:Nat):List ad->Prop
 | []=>True
 | d::ds=>Gd B d/\Lj B ds
end
theorem Rq:(10:Nat) ^ 50<2 ^ 1920:=by decide +kernel
mutual
theorem wg:∀d:ad,Gd (10 ^ 50) d->d.canLay0=true/\d.showable=true/\d.leavesShort 60=true
 | .none,_=>⟨rfl,rfl,rfl⟩
 | .bool _,_=>⟨rfl,rfl,rfl⟩
 | .int i,g=>by
  simp only[Gd] at g;refine⟨rfl,?_,?_⟩
  .simp only[ad.showable,decide_eq_true_eq]
   by_cases h:i.natAbs=0
   .rw[h];decide
   .exact (Nat.log2_lt h).mpr (cU g Rq)
  .simp only[ad.leavesShort,decide_eq_true_eq]
   have e:=int_text_length_le10 (k:=51) (!2) (cU g (by decide +kernel:(10:Nat) ^ 50<10 ^ 51));show (Str.ofString (toString i)).length<=60;rw[ofString_length];omega
 | .str x,g=>by
  simp only[Gd] at g;refine⟨?_,rfl,?_⟩
  .show ad.strOk x=true
   unfold ad.strOk;rw[Array.all_eq_true'];intro c hc;exact decide_eq_true (g.1 c (by simpa using hc))
  .simp only[ad.leavesShort,dn,decide_eq_true_eq]
   intro c hc;exact aL (g.1 c hc) (!2)
 | .tuple ds,g=>by simp only[Gd] at g;simpa only [ad.canLay0,ad.showable,ad.leavesShort] using wj ds g
 | .list ds,g=>by simp only[Gd] at g;simpa only [ad.canLay0,ad.showable,ad.leavesShort] using wj ds g
 | .dict _,g=>by simp only[Gd] at g
theorem wj:∀ds:List ad,Lj (10 ^ 50) ds->ad.canLayAll0 ds=true/\ad.showableAll ds=true/\ad.leavesShortAll 60 ds=true
 | [],_=>⟨rfl,rfl,rfl⟩
 | d::ds,g=>by
  simp only[Lj] at g;obtain⟨a1,a2,a3⟩:=wg d g.1;obtain⟨b1,b2,b3⟩:=wj ds g.2;simp only[ad.canLayAll0,ad.showableAll,ad.leavesShortAll,a1,a2,a3,b1,b2,b3];exact⟨rfl,rfl,rfl⟩
end
theorem JE (g:Gd (10 ^ 50) d)(hd:d.depth<=60)(hw:d.weight<=200000):Good d:=⟨(wg d g).1,(wg d g).2.1,(wg d g).2.2,hd,hw⟩
theorem Lk (h:i.natAbs<2 ^ k):ad.weight (.int i)<=k:=by
 simp only[ad.weight];split
 .omega
 .rename_i jS
  have:i.natAbs≠0:=λz=>jS (by simp;omega);have:=(Nat.log2_lt this).mpr h;omega
mutual
def Gq (B L:Nat):ad->Prop
 | .none=>True
 | .bool _=>True
 | .int i=>i.natAbs<=B
 | .str x=>(∀c∈x.cps.toList,c<1114112)/\x.cps.size<=L
 | .tuple ds=>EO B L ds
 | .list ds=>EO B L ds
 | .dict _=>False
def EO (B L:Nat):List ad->Prop
 | []=>True
 | d::ds=>Gq B L d/\EO B L ds
end
mutual
theorem wk {B L B' L':Nat}(h:B<=B')(k:L<=L'):∀d:ad,Gq B L d->Gq B' L' d
 | .none,_=>by simp[Gq]
 | .bool _,_=>by simp[Gq]
 | .int i,g=>by simp only[Gq] at g ⊢;omega
 | .str x,g=>by simp only[Gq] at g ⊢;exact⟨g.1,!1⟩
 | .tuple ds,g=>by simp only[Gq] at g ⊢;exact oF h k ds g
 | .list ds,g=>by simp only[Gq] at g ⊢;exact oF h k ds g
 | .dict _,g=>by simp only[Gq] at g
theorem oF {B L B' L':Nat}(h:B<=B')(k:L<=L'):∀ds:List ad,EO B L ds->EO B' L' ds
 | [],_=>by simp[EO]
 | d::ds,g=>by simp only[EO] at g ⊢;exact⟨wk h k d g.1,oF h k ds g.2⟩
end
mutual
theorem Ll:∀d:ad,Gq (10 ^ 50) 60 d->Gd (10 ^ 50) d
 | .none,_=>by simp[Gd]
 | .bool _,_=>by simp[Gd]
 | .int i,g=>by simp only[Gq] at g;simp only[Gd];exact g
 | .str x,g=>by simp only[Gq] at g;simp only[Gd];exact g
 | .tuple ds,g=>by simp only[Gq] at g;simp only[Gd];exact Ao ds g
 | .list ds,g=>by simp only[Gq] at g;simp only[Gd];exact Ao ds g
 | .dict _,g=>by simp only[Gq] at g
theorem Ao:∀ds:List ad,EO (10 ^ 50) 60 ds->Lj (10 ^ 50) ds
 | [],_=>by simp[Lj]
 | d::ds,g=>by simp only[EO] at g;simp only[Lj];exact⟨Ll d g.1,Ao ds g.2⟩
end
structure Sz (B L w p:Nat) (d:ad):Prop where
 gq:Gq B L d
 wt:d.weight<=w
 dp:d.depth<=p
structure pG (B L w p:Nat) (ds:List ad):Prop where
 gq:EO B L ds
 wt:ad.weightAll ds<=w
 dp:ad.depthAll ds<=p
section
variable {B L B' L' w w' p p':Nat}{d:ad}{ds es:List ad}
theorem Sz.mono (h:Sz B L w p d)(hB:B<=B')(hL:L<=L')(hw:w<=w')(hp:p<=p'):Sz B' L' w' p' d:=⟨wk hB hL d h.gq,aU h.wt hw,aU h.dp hp⟩
theorem pG.mono (h:pG B L w p ds)(hB:B<=B')(hL:L<=L')(hw:w<=w')(hp:p<=p'):pG B' L' w' p' ds:=⟨oF hB hL ds h.gq,aU h.wt hw,aU h.dp hp⟩
theorem Sz.gd (h:Sz B L w p d)(hB:B<=10 ^ 50)(hL:L<=60):Gd (10 ^ 50) d:=Ll d (wk hB hL d h.gq)
theorem Sz.good (h:Sz B L w p d)(hB:B<=10 ^ 50)(hL:L<=60)(hw:w<=200000)(hp:p<=60):Good d:=JE (h.gd hB hL) (aU h.dp hp) (aU h.wt hw)
theorem pG.nil:pG B L 0 0 []:=⟨by simp[EO],by simp[ad.weightAll],by simp[ad.depthAll]⟩
theorem pG.cons (h:Sz B L w p d)(t:pG B L w' p' ds):pG B L (w+1+w') (max p p') (d::ds):=by
 refine⟨by simp only[EO];exact⟨h.gq,t.gq⟩,?_,?_⟩
 .simp only[ad.weightAll];have:=h.wt;have:=t.wt;omega
 .simp only[ad.depthAll];have:=h.dp;have:=t.dp;omega
theorem Sz.tup (h:pG B L w p ds):Sz B L w (p+1) (.tuple ds):=⟨by simp only[Gq];exact h.gq,by simp only[ad.weight];exact h.wt,by simp only[ad.depth];have:=h.dp;omega⟩
theorem Sz.lst (h:pG B L w p ds):Sz B L w (p+1) (.list ds):=⟨by simp only[Gq];exact h.gq,by simp only[ad.weight];exact h.wt,by simp only[ad.depth];have:=h.dp;omega⟩
theorem Sz.small (h:i.natAbs<1024)(hB:1023<=B):Sz B L 10 0 (.int i):=⟨by simp only[Gq];omega,Lk h,by simp[ad.depth]⟩
theorem pG.all:∀{ds:List ad},(∀d∈ds,Sz B L w p d)->pG B L ((w+1) * ds.length) p ds
 | [],_=>pG.nil.mono (am _) (am _) (!4) (bL _)
 | d::ds,h=>by
  have t:=pG.all (ds:=ds) λi hi=>h i (ao _ hi);refine (pG.cons (h d (ar ..)) t).mono (am _) (am _) ?_ (!4);rw[ap,Nat.mul_succ];omega
end
section
variable {i j:Int}{ns ms:List Int}{x y:ad}
theorem oG (ns:List Int):ad.canLayAll0 (ns.map .int)=true:=by
 induction ns with
 | nil=>rfl
 | cons n ns ih=>simpa [ad.canLayAll0,ad.canLay0] using ih
theorem ym (ns:List Int):ad.depthAll (ns.map .int)=0:=by
 induction ns with
 | nil=>rfl
 | cons n ns ih=>simpa [ad.depthAll,ad.depth] using ih
theorem sd:∀ns ms:List Int,ad.eqvAll (ns.map .int) (ms.map .int)=decide (ns=ms)
 | [],[]=>rfl
 | [],m::ms=>rfl
 | n::ns,[]=>rfl
 | n::ns,m::ms=>by
  simp only[ak,ad.eqvAll,ad.eqv,sd ns ms,List.cons.injEq];by_cases h:n=m<;>simp[h]
theorem Ap (hx:x.canLay0=true)(hy:y.canLay0=true)(hd:x.depth<=60):uT x y=some (.bool (ad.eqv x y)):=if_pos ⟨hx,hy,hd⟩
theorem Aq (hx:x.canLay0=true)(hy:y.canLay0=true)(hd:x.depth<=60):Gn x y=some (.bool (!PyData.eqv x y)):=if_pos ⟨hx,hy,hd⟩
theorem i7:uT (.int i) (.int j)=some (.bool (decide (i=j))):=by
 rw[Ap rfl rfl (by simp[ad.depth])];simp only[ad.eqv];congr
theorem GD:Gn (.bool a) (.bool b)=some (.bool (!(a == b))):=by
 rw[Aq rfl rfl (by simp[ad.depth])];simp only[ad.eqv]
theorem D9:uT (.tuple (ns.map .int)) (.tuple (ms.map .int))=some (.bool (decide (ns=ms))):=by
 rw[Ap (show ad.canLay0 (.tuple _)=true from oG ns) (show ad.canLay0 (.tuple _)=true from oG ms) (by simp[ad.depth,ym])];simp only[ad.eqv,sd]
theorem uY:Gn (.tuple (ns.map .int)) (.tuple (ms.map .int))=some (.bool (!decide (ns=ms))):=by
 rw[Aq (show ad.canLay0 (.tuple _)=true from oG ns) (show ad.canLay0 (.tuple _)=true from oG ms) (by simp[ad.depth,ym])];simp only[ad.eqv,sd]
end
section
variable {α:Type}
theorem se (h0:0<=i)(h1:i<xs.length):rk xs i=xs[i.toNat]? := by
 unfold rk Kx;rw[if_pos h0,if_pos h1];rfl
theorem oH (a:α)(l:List α):rk (a::l) 0=some a:=by rw[se (!2) (by simp only[ap];omega)];rfl
theorem lO (a b:α)(l:List α):rk (a::b::l) 1=some b:=by rw[se (!2) (by simp only[ap];omega)];rfl
theorem GF {xs:List α}{i:Int}(h0:0<=i)(h1:i<xs.length):∃x,rk xs i=some x/\x∈xs:=by
 have:i.toNat<xs.length:=by omega
 exact⟨xs[i.toNat],by rw[se h0 h1];simp[this],bT _⟩
theorem wm (xs:List α)(k:Int)(h:0<=k):Ac xs none (some k)=xs.take k.toNat:=by
 unfold Ac;rw[show k=((k.toNat:Nat):Int) by omega,HT.ID,HT.Fb];simp only[List.drop_zero,Nat.sub_zero,br];by_cases hc:k.toNat<=xs.length
 .rw[Nat.min_eq_left hc]
 .rw[Nat.min_eq_right (!1),bC (am _),bC (!1)]
end
theorem mQ:jy (.tuple ds) (.int i)=rk ds i:=rfl
theorem Wm:jy (.list ds) (.int i)=rk ds i:=rfl
theorem fA (h0:0<m)(h1:m<1073741824)(h2:n<jo)(h:∀r:Int,0<=r->r<m->Q (.int r) (n+1)):fE [.int m] n Q X:=⟨⟨h0,h1,h2⟩,h⟩
section
variable {i j:Nat}{ue:UX}{uc:UT}{Q:List ad->Int->Prop}{env:fh}
theorem qb (f:ad->ad)(p:ad->Bool):∀(its acc:List ad) (n:Int) (env:fh),(∀d∈its,∀n Q,ue (env.set i (some (.s d))) n Q=Q (f d) n)->(∀d∈its,∀n Q,uc (env.set i (some (.s d))) n Q=Q (p d) n)->fH (iE i) uc ue Q its acc env n=Q (acc++(its.filter p).map f) n
 | [],acc,n,env,_,_=>by simp[fH]
 | d::ds,acc,n,env,h,k=>by
  have ih:=λacc=>qb f p ds acc n (env.set i (some (.s d))) (λe he n Q=>by rw[List.set_set];exact h e (ao _ he) n Q) (λe he n Q=>by rw[List.set_set];exact k e (ao _ he) n Q);simp only[fH,iE,k d (ar ..),h d (ar ..),ih]
  cases hp:p d with
  | true=>simp[hp]
  | false=>simp[hp]
end
theorem gC (Inv:List ad->List ad->fh->Int->Prop) :
  ∀(its pre:List ad) (env:fh) (n:Int),(∀pre d post env n (E':Cf),E'.rt=E.rt->Inv pre (d::post) env n->(∀eA n',Inv (pre++[d]) post eA n'->E'.nx eA n')->ug d env λGy=>ub E' Gy n)->Inv pre its env n->(∀pre env n,Inv pre [] env n->E.nx env n)->j9 ug ub E its env n
 | [],pre,env,n,_,h0,hd=>hd pre env n h0
 | d::ds,pre,env,n,hb,h0,hd=>hb pre d ds env n { nx:=j9 ug ub E ds,rt:=E.rt } rfl h0 λeA n' h'=>gC Inv ds (pre++[d]) eA n' hb h' hd
theorem CA (h:zo i j):Ab (.int i) (.int j)=some (.int (i * j)):=if_pos h
theorem GG:Ab (.int c) (.int (if b=true then 1 else 0))=some (.int (if b=true then c else 0)):=by
 cases b with
 | true=>rw[if_pos rfl,if_pos rfl,CA (.inr ⟨!2,!2⟩),Int.mul_one]
 | false=>rw[if_neg (!2),if_neg (!2),CA (.inr ⟨!2,!2⟩),Int.mul_zero]
theorem NW (h:xs.length+ys.length<=16777216):iS (.tuple xs) (.tuple ys)=some (.tuple (xs++ys)):=if_pos (by rw[show ax=16777216 by decide];exact h)
theorem NY (h:xs.length+ys.length<=16777216):iS (.list xs) (.list ys)=some (.list (xs++ys)):=if_pos (by rw[show ax=16777216 by decide];exact h)
theorem nc (h:ds.length<16777216):kI ds [d]=some (ds++[d]):=if_pos (by rw[show ax=16777216 by decide];exact h)
noncomputable def gz (lo:Int)(n:Nat):List Int:=(List.range n).map λ(k:Nat)=>lo+(k:Int)
theorem oI (lo:Int)(n:Nat):oy lo n=(gz lo n).map .int:=by unfold oy gz;rw[bv];rfl
theorem fF:i∈gz lo n↔lo<=i/\i<lo+n:=by
 unfold gz;rw[a5];constructor
 .rintro⟨k,hk,rfl⟩
  have:=cz.mp hk;omega
 .intro h
  exact⟨(i - lo).toNat,cz.mpr (!1),!1⟩
theorem fw (lo:Int)(n:Nat):(gz lo n).length=n:=by simp[gz]
theorem yn (p:ad->Bool)(ns:List Int):(ns.map ad.int).filter p=(ns.filter λi=>p (.int i)).map .int:=by rw[List.filter_map];rfl
theorem GH (f:ad->ad)(ns:List Int):(ns.map ad.int).map f=ns.map λi=>f (.int i):=by rw[bv];rfl
section
variable {ns:List Int}
theorem yo {i:Int}(h0:0<=i)(h1:i<ns.length):∃k,rk (ns.map ad.int) i=some (.int k)/\k∈ns/\ns[i.toNat]? = some k:=by
 have hl:i.toNat<ns.length:=by omega
 refine⟨ns[i.toNat],?_,bT _,by simp[hl]⟩;rw[se h0 (by simpa using h1),aC];simp[hl]
end
theorem mw (f:Int->ad)(p:Int->Bool)(ns:List Int)(acc:List ad)(n:Int)(env:fh)(h:∀k∈ns,∀n Q,ue (env.set i (some (.s (.int k)))) n Q=Q (f k) n)(hp:∀k∈ns,∀n Q,uc (env.set i (some (.s (.int k)))) n Q=Q (p k) n) :
  fH (iE i) uc ue Q (ns.map .int) acc env n=Q (acc++(ns.filter p).map f) n:=by
 rw[qb (λd=>match d with | .int k=>f k | _=>.none) (λd=>match d with | .int k=>p k | _=>false) _ _ _ _ (λd hd n Q=>?_) (λd hd n Q=>?_),yn,GH]
 .obtain⟨k,hk,rfl⟩:=a5.mp hd
  exact h k hk n Q
 .obtain⟨k,hk,rfl⟩:=a5.mp hd
  exact hp k hk n Q
noncomputable def GI (x y:ad):Option ad:=match x,y with | .str a,.str b=>some (.bool (!decide (a=b))) | _,_=>none
noncomputable def D' (x y:ad):Option ad:=match x,y with | .str a,.str b=>some (.bool (decide (a=b))) | _,_=>none
theorem yp:decide (V.str a=V.str b)=decide (a=b):=by
 rw[decide_eq_decide];exact⟨λh=>by cases h;rfl,λh=>by rw[h]⟩
theorem fC.qI (r:fC gs S H (.str x) v):v=.str x:=by
 rcases r with r | ⟨ds,a,xs,h,_⟩ | ⟨t,kvs,a,xs,h,_⟩
 .exact r.kB
 .cases h
 .cases h
section
theorem Rr:xU X (compareOp .NotEq) GI:=⟨_,PB,λgs S H dx dy x y d R _ _ r1 r2 e k=>by
 unfold GI at e;split at e
 .rename_i a b
  cases e;have e1:=r1.qI;have e2:=r2.qI;subst e1 e2;refine⟨rfl,?_⟩;rw[yp];exact k _ H (.bl _) (.refl _ _)
 .cases e⟩
theorem Rt:xU X (compareOp .Eq) D':=⟨_,Pz,λgs S H dx dy x y d R _ _ r1 r2 e k=>by
 unfold D' at e;split at e
 .rename_i a b
  cases e;have e1:=r1.qI;have e2:=r2.qI;subst e1 e2;refine⟨rfl,?_⟩;rw[yp];exact k _ H (.bl _) (.refl _ _)
 .cases e⟩
end
end L2
namespace L2
open PySem PySem.Spec PyProof.Rows
noncomputable def U9 (x:ad):Prop:=match x with | .tuple _=>True | .list _=>True | _=>False
theorem JF {X:Cx}{o:Expr}{to:TE}{name:Str}{gk fJ:Pos}{T id:String}{r:V->List V->Hp->VK->Prop}(pa:PlainAttrs T)(slot:Slot T name id)(Fg:typeOf (.builtin id)=pure (.type "method_descriptor"))(hm:Fe X id r)(ho:QE X o to)
  (jW:attributeBase o name X.env (eval o X.env)=eval o X.env) (jX:(gk.endLine == fJ.line)=true):QE X (.Call (.Attribute o name gk) [] [] fJ) (P1 X.K T r to):=⟨MJ pa slot Fg hm ho.run jW jX⟩
theorem JG {α:Type}{us:List α}{n:Nat}(h:us.length=n+1):∃a r,us=a::r/\r.length=n:=by
 cases us with
 | nil=>cases h
 | cons a r=>exact⟨a,r,rfl,Nat.succ.inj h⟩
theorem Ar {α:Type}{us:List α}(h:us.length=1):∃a,us=[a]:=by
 obtain⟨a,r,rfl,k⟩:=JG (n:=0) h;rw[List.eq_nil_of_length_eq_zero k];exact⟨_,rfl⟩
theorem Ea {α:Type}{us:List α}(h:us.length=2):∃a b,us=[a,b]:=by
 obtain⟨a,r,rfl,k⟩:=JG (n:=1) h;obtain⟨b,rfl⟩:=Ar k;exact⟨_,_,rfl⟩
theorem GJ {α:Type}{us:List α}(h:us.length=3):∃a b c,us=[a,b,c]:=by
 obtain⟨a,r,rfl,k⟩:=JG (n:=2) h;obtain⟨b,c,rfl⟩:=Ea k;exact⟨_,_,_,rfl⟩
theorem NZ {α:Type}{us:List α}(h:us.length=4):∃a b c d,us=[a,b,c,d]:=by
 obtain⟨a,r,rfl,k⟩:=JG (n:=3) h;obtain⟨b,c,d,rfl⟩:=GJ k;exact⟨_,_,_,_,rfl⟩
noncomputable def wo (op:CmpOp)(A:Around)(s:aq)(y x:ae)(b:Bool):Prop :=
 ∀(prog:aO) (w:World) (E:ae->aq->Prop) (Q:ae->aq->Prop),Q (.bool b) s->ay (model prog w) A (richCompare op y x) Q E s
noncomputable def oJ (e f:Nat->Bool)(fin:Bool):List Nat->Bool
 | []=>fin
 | i::r=>if e i then oJ e f fin r else f i
mutual
def pH (g:Bool):ad->ad->Option Bool
 | .int i,.int j=>some (if g then decide (j<i) else decide (i<j))
 | .tuple xs,.tuple ys=>qc g xs ys
 | _,_=>none
def qc (g:Bool):List ad->List ad->Option Bool
 | [],[]=>some false
 | [],_::_=>some (!g)
 | _::_,[]=>some g
 | x::xs,y::ys=>if ad.eqv x y then qc g xs ys else pH g x y
end
theorem uZ:∀(xs ys:List ad) (j:Nat) (r:Bool),qc g xs ys=some r->j<xs.length->j<ys.length->(∀i<j,SeqAt.pairEq xs ys i=true)->SeqAt.pairEq xs ys j=false->∃q,pH g (xs.getD j .none) (ys.getD j .none)=some q
 | [],_,_,_,_,h,_,_,_=>absurd h (dE _)
 | _::_,[],_,_,_,_,h,_,_=>absurd h (dE _)
 | x::xs,y::ys,j,r,e,h1,h2,al,hj=>by
  rw[qc] at e
  cases j with
  | zero =>
   have:ad.eqv x y=false:=hj;rw[this,if_neg (!2)] at e;exact⟨r,e⟩
  | succ j =>
   have:ad.eqv x y=true:=al 0 (Nat.succ_pos _);rw[this,if_pos rfl] at e;exact uZ xs ys j r e (bR h1) (bR h2) (λi hi=>al (i+1) (Nat.succ_lt_succ hi)) hj
theorem kc:∀{vs:List ae} {xs:List ad} {as:List Addr},ReadsAll h vs xs as->∀{j:Nat} (hj:j<vs.length),∃bs,Reads h vs[j] (xs.getD j .none) bs
 | _::_,_::_,_,.cons r rs,j,hj=>by
  cases j with
  | zero=>exact⟨_,r⟩
  | succ j=>exact kc rs (bR hj)
theorem yq:∀{xs:List ad} {j:Nat},j<xs.length->(xs.getD j .none).depth<=ad.depthAll xs
 | x::xs,0,_=>by simp only[ad.depthAll,List.getD_cons_zero];omega
 | x::xs,j+1,h=>by
  have:=yq (xs:=xs) (j:=j) (bR h);simp only[ad.depthAll,List.getD_cons_succ];omega
theorem As:∀{xs:List ad} {j:Nat},ad.canLayAll0 xs=true->j<xs.length->(xs.getD j .none).canLay0=true
 | x::xs,0,h,_=>by simp only[ad.canLayAll0,bA] at h;exact h.1
 | x::xs,j+1,h,hj=>by simp only[ad.canLayAll0,bA] at h;exact As (xs:=xs) (j:=j) h.2 (bR hj)
theorem u0 (e f:Nat->Bool)(fin:Bool):∀l:List Nat,oJ e f fin (l.map (· + 1))=oJ (λi=>e (i+1)) (λi=>f (i+1)) fin l
 | []=>rfl
 | i::l=>by rw[ak,oJ,oJ,u0 e f fin l]
theorem GK (l b:Addr)(xs ys:Array ae)(n m:Nat)(d1 d2:Option Addr)(s1 s2:Array (Option ae))(e f:Nat->Bool) :
  Meets (Builtin.«tuple.__lt__» ⟨[.ref l,.ref b],[]⟩) (λA R s=>s.heap.get? l=some { cls:=.type "tuple",dict:=d1,data:=.seq xs n,slots:=s1 }/\s.heap.get? b=some { cls:=.type "tuple",dict:=d2,data:=.seq ys m,slots:=s2 } /\
    (∀j (h1:j<xs.size) (h2:j<ys.size),SeqAt.EqAt A.in1 s xs[j] ys[j] (e j))/\(∀j (h1:j<xs.size) (h2:j<ys.size),(∀i<j,e i=true)->e j=false->wo .Lt A.in1 s xs[j] ys[j] (f j)) /\
    R (.ok (.ret (.bool (oJ e f (decide (xs.size<ys.size)) (List.range (min xs.size ys.size)))))) s) :=
 .of_wp λprog w A R s h=>by
  obtain⟨hp,g,d,tk,os⟩:=s;obtain⟨gl,gb,he,hf,h⟩:=h;have sub:=AutoSeq1.sub_tuple_tuple;have zl:(xs.toList.zip ys.toList).length=min xs.size ys.size:=by simp
  wp_walk using AutoSeq1.wpAny_loadPart' gl,AutoSeq1.wpAny_loadPart' gb,wpAny_forIn_list _ (λleft b s'=>b.1=none/\s'=⟨hp,g,d,tk,os⟩/\∃i,left=(xs.toList.zip ys.toList).drop i/\(∀k<i,e k=true)/\R (.ok (.ret (.bool (oJ e f (decide (xs.size<ys.size)) ((List.range (min xs.size ys.size)).drop i))))) ⟨hp,g,d,tk,os⟩) _
  case turn =>
   rintro⟨y,x⟩ left b s' ⟨nb,rfl,i,ez,al,rr⟩;have il:i<(xs.toList.zip ys.toList).length:=Nat.lt_of_not_le λq=>by rw[cE q] at ez;cases ez
   have im:i<min xs.size ys.size:=zl ▸ il;have i1:i<xs.size:=by omega
   have i2:i<ys.size:=by omega
   rw[bw il] at ez;injection ez with ep er;obtain rfl:y=xs[i]:=by simpa using congrArg Prod.fst ep
   obtain rfl:x=ys[i]:=by simpa using congrArg Prod.snd ep
   rw[show (List.range (min xs.size ys.size)).drop i=i::(List.range (min xs.size ys.size)).drop (i+1) by simp[bw,im],oJ] at rr;refine aa (he i i1 i2 prog w _ _ ?_)
   cases ei:e i with
   | true =>
    rw[ei,if_pos rfl] at rr
    wp_walk
    exact⟨rfl,rfl,i+1,er,λk hk=>(cF k i).elim (al k) λq=>by rw[show k=i by omega];exact ei,rr⟩
   | false =>
    rw[ei,if_neg (!2)] at rr;have hc:=hf i i1 i2 al ei prog w
    wp_walk using hc _ _
    exact⟨_,rfl,by simpa using rr⟩
  case fin =>
   rintro⟨b1,b2⟩ s' ⟨nb,rfl,i,ez,_,rr⟩;simp only at nb;subst nb;have ge:min xs.size ys.size<=i:=Nat.le_of_not_lt λq=>by rw[bw (zl.symm ▸ q)] at ez;cases ez
   rw[cE (by simpa using ge),oJ] at rr
   wp_walk
   exact⟨_,rfl,by simpa [Builtin.Tuple.tupleCompareSizes] using rr⟩
  case h=>exact⟨rfl,rfl,0,!4,!4,by simpa using h⟩
theorem wo.JH (hl:s.heap.IsTuple l xs)(hb:s.heap.IsTuple b ys)(hu:A.units<cLine)(he:∀j (h1:j<xs.size) (h2:j<ys.size),SeqAt.EqAt A.in1 s xs[j] ys[j] (e j))
  (hf:∀j (h1:j<xs.size) (h2:j<ys.size),(∀i<j,e i=true)->e j=false->wo .Lt A.in1 s xs[j] ys[j] (f j)):wo .Lt A s (.ref l) (.ref b) (oJ e f (decide (xs.size<ys.size)) (List.range (min xs.size ys.size))):=λprog w E Q h=>by
 obtain⟨⟨c1,d1,data,s1⟩,ho,hc,n,hd⟩:=id hl;obtain⟨⟨c2,d2,data2,s2⟩,Dr,Kv,n2,HJ⟩:=id hb;simp only at hc hd Kv HJ;subst hc hd Kv HJ;exact richCompare_meets_room (op:=.Lt) ⟨_,ho,rfl⟩ ⟨_,Dr,rfl⟩ F.slot_tuple_lt F.entry_tuple_lt (F.args_tuple_lt_2 _ _) (GK l b xs ys n n2 d1 d2 s1 s2 e f) ⟨ho,Dr,he,hf,show ae.bool _≠ae.notImplemented/\Q (.bool _) s from ⟨(λx=>nomatch x),h⟩⟩ hu
theorem lex_lt:∀(xs ys:List ad) (r:Bool),qc false xs ys=some r->oJ (SeqAt.pairEq xs ys) (λj=>(pH false (xs.getD j .none) (ys.getD j .none)).getD false) (decide (xs.length<ys.length)) (List.range (min xs.length ys.length))=r
 | [],[],r,e=>by cases e;rfl
 | [],y::ys,r,e=>by cases e;simp[oJ]
 | x::xs,[],r,e=>by cases e;simp[oJ]
 | x::xs,y::ys,r,e=>by
  rw[qc] at e;rw[ap,ap,Nat.succ_min_succ,cY,oJ]
  cases q:ad.eqv x y with
  | true =>
   rw[q,if_pos rfl] at e;rw[if_pos (show SeqAt.pairEq (x::xs) (y::ys) 0=true from q)];have:=lex_lt xs ys r e;rw[show List.map Nat.succ=List.map (· + 1) from rfl,u0,show decide (xs.length+1<ys.length+1)=decide (xs.length<ys.length) by simp];exact this
  | false =>
   rw[q,if_neg (!2)] at e;rw[if_neg (by rw[show SeqAt.pairEq (x::xs) (y::ys) 0=false from q];decide)];simp only[List.getD_cons_zero,e,Option.getD_some]
theorem Ru:∀(N:Nat) (da db:ad) (r:Bool) (A:Around) (s:aq) (a b:ae) (as bs:List Addr),da.depth<=N->Reads s.heap a da as->Reads s.heap b db bs->da.canLay0=true->db.canLay0=true->A.units+N<cLine->pH false da db=some r->wo .Lt A s a b r:=by
 intro N
 induction N with
 | zero =>
  intro da db r A s a b as bs hN ra rb ha hb hu e
  cases ra with
  | int i t =>
   cases rb with
   | int j u =>
    cases e;exact λprog w E Q h=>richCompare_gives (op:=.Lt) (typeIs_int s _ t) (typeIs_int s _ u) F.slot_int_lt F.entry_int_lt (F.args_int_lt_2 _ _) (gives_int_lt _ _ t u) (λx=>nomatch x) h
   | _=>simp[pH] at e
  | tuple=>simp[ad.depth] at hN
  | _=>simp[pH] at e
 | succ N ih =>
  intro da db r A s a b as bs hN ra rb ha hb hu e
  cases ra with
  | int i t =>
   cases rb with
   | int j u =>
    cases e;exact λprog w E Q h=>richCompare_gives (op:=.Lt) (typeIs_int s _ t) (typeIs_int s _ u) F.slot_int_lt F.entry_int_lt (F.args_int_lt_2 _ _) (gives_int_lt _ _ t u) (λx=>nomatch x) h
   | _=>simp[pH] at e
  | @tuple l o vs n xs Wn h1 h2 h3 h4 =>
   cases rb with
   | @tuple l' o' ws n' ys Wo k1 k2 k3 k4 =>
    have n1:vs.size=xs.length:=by simpa using SeqAt.ReadsAll.length _ _ _ h4
    have n2:ws.size=ys.length:=by simpa using SeqAt.ReadsAll.length _ _ _ k4
    simp only[ad.depth] at hN;simp only[pH] at e
    have he:∀j (j1:j<vs.size) (j2:j<ws.size),SeqAt.EqAt A.in1 s vs[j] ws[j] (SeqAt.pairEq xs ys j):=λj j1 j2=>by
     have U':A.in1.units+min (ad.depthAll xs) (ad.depthAll ys)<cLine:=by show A.units+1+_<_;omega
     have q:=SeqAt.eqAt_readsAll xs ys A.in1 s vs.toList ws.toList _ _ h4 k4 ha hb U' j (by simpa using j1) (by simpa using j2);rw[bE,bE] at q;exact q
    have hf:∀j (j1:j<vs.size) (j2:j<ws.size),(∀i<j,SeqAt.pairEq xs ys i=true)->SeqAt.pairEq xs ys j=false->wo .Lt A.in1 s vs[j] ws[j] ((pH false (xs.getD j .none) (ys.getD j .none)).getD false):=λj j1 j2 al hj=>by
     obtain⟨q,hq⟩:=uZ xs ys j r e (!1) (!1) al hj;obtain⟨Wq,r1⟩:=kc h4 (j:=j) (by simpa using j1);obtain⟨Wr,r2⟩:=kc k4 (j:=j) (by simpa using j2);rw[hq];have d1:=yq (xs:=xs) (j:=j) (!1);have q2:=ih _ _ q A.in1 s _ _ Wq Wr (!1) r1 r2 (As ha (!1)) (As hb (!1)) (by show A.units+1+_<_;omega) hq;rw[bE,bE] at q2;exact q2
    have:=wo.JH ⟨_,h1,h2,_,h3⟩ ⟨_,k1,k2,_,k3⟩ (show A.units<cLine by omega) he hf;rw[n1,n2,lex_lt xs ys r e] at this;exact this
   | _=>simp[pH] at e
  | _=>simp[pH] at e
theorem RM (hr:fm k A)(h:d<=k:=by decide):fm d A:=hr.mono h
theorem nd (N:List Str)(h:N.Nodup:=by decide +kernel):N.Nodup:=h
theorem co (N:List Str)(s:Scope)(h:iQ N s sc N' mp=true:=by decide +kernel):iQ N s sc N' mp=true:=h
theorem Rv (h1:s.kind=.function:=by rfl)(h2:s.isCoroutine=false:=by rfl)(h3:s.isGenerator=false:=by rfl)(h4:N.Nodup:=by decide +kernel)(h5:N.take ps.length=ps:=by rfl)
  (h6:∀x∈ps,s.names.lookup x=some .local\/s.names.lookup x=some .cell:=by decide +kernel) (h7:∀y∈s.names,y.2≠.free:=by decide +kernel):eZ N ps s:=⟨h1,h2,h3,h4,h5,h6,h7⟩
theorem Va (is:List Nat)(h:us=is.map iE:=by rfl):∀u∈us,∀d env (Q:fh->Prop),u d env Q->∃eA,Q eA:=λu hu=>by
 subst h;obtain⟨i,_,rfl⟩:=a5.mp hu;exact Rh
section
theorem qo (i:Nat)(hN:X.N.Nodup)(hx:Loc X.env.scope x:=by exact Or.inl rfl)(hi:X.N[i]? = some x:=by rfl)(hf:X.fn x=true\/X.env.scope.names.lookup x=some .local:=by (first | exact .inl rfl | exact .inr rfl | assumption))(hfd:i ∉ M.fd:=by exact nf _ _ rfl):KG X M (.Name x pos) (iE i):=X9 hN hx hi hf hfd
theorem gG (i:Nat)(hN:X.N.Nodup)(h:KE X M e ue)(hx:Loc X.env.scope x:=by exact Or.inl rfl)(hi:X.N[i]? = some x:=by rfl)(hs:swapsWith e (some (.Name x iD)) pos.line X.env=pure false:=by rfl)
  (hf:X.fn x=true\/X.env.scope.names.lookup x=some .local:=by (first | exact .inl rfl | exact .inr rfl | assumption)) (hfd:i ∉ M.fd:=by exact nf _ _ rfl):KS X M (.Assign [.Name x iD] e pos) (eI i ue):=Ri hN hx h hi hs hf hfd
theorem GL (i:Nat)(hN:X.N.Nodup)(h:KN X M e un)(hx:Loc X.env.scope x:=by exact Or.inl rfl)(hi:X.N[i]? = some x:=by rfl)(hs:swapsWith e (some (.Name x iD)) pos.line X.env=pure false:=by rfl)
  (hf:X.fn x=true\/X.env.scope.names.lookup x=some .local:=by (first | exact .inl rfl | exact .inr rfl | assumption)) (hfd:i ∉ M.fd:=by exact nf _ _ rfl):KS X M (.Assign [.Name x iD] e pos) (pA i un):=Rj hN hx h hi hs hf hfd
end
structure FM (K:W.Frag) (mg:Str->Option ae) (x:Str) (st:Stmt):Prop where
 ex:∃f fd,uq K x x st f fd/\mg x=some (.ref f)
structure N0 (K:W.Frag) (x:Str) (st:Stmt):Prop where
 ex:∃f fd,uq K x x st f fd/\W.nsIn K aR x=some (some (.ref f))
theorem N0.of {K:W.Frag}{x:Str}{st:Stmt}{f:Addr}{oc:ae}{od an:Option Addr}{zw:Array (Option ae)}{kV rf pm fq ct:ae}(a:W.nsIn K aR x=some (some (.ref f)))(l:K.lookup f=some ⟨oc,od,.func (W.fnOf x x (iX st) (fy st) (dJ st) .none kV rf pm an fq ct),zw⟩)
  (c:W.codeIn K fq x=true) (k:W.keepIn K (.ref f)=true):N0 K x st:=⟨f,_,zD l c k,a⟩
theorem N0.m {K:W.Frag}{x:Str}{st:Stmt}{h:Heap}{mg:Str->Option ae}(a:N0 K x st)(X:K.In h)(G:h.Ns aR mg):FM K mg x st :=
 let ⟨f,fd,F,n⟩:=a.ex;⟨f,fd,F,W.mg_of X G n⟩
noncomputable def GN (K:W.Frag)(t:Nat->Stmt):List (Str × Nat)->Prop
 | []=>True
 | (x,i)::r=>N0 K x (t i)/\GN K t r
theorem GO {K:W.Frag}{t:Nat->Stmt}:GN K t []:=trivial
theorem N1 {K:W.Frag}{t:Nat->Stmt}{x:Str}{i:Nat}{r:List (Str × Nat)}(h:N0 K x (t i))(hr:GN K t r):GN K t ((x,i)::r):=⟨h,hr⟩
noncomputable def BD (x:Str)(st:Stmt)(ps:List Str):Prop:=∀(kV rf pm:ae) (an:Option Addr) (fq ct:ae) (us:List ae),us.length=ps.length->bindArgs (W.fnOf x x (iX st) (fy st) (dJ st) .none kV rf pm an fq ct) ⟨us,[]⟩=pure (ps.zip us)
section
variable {P:aO}{w:World}{K:W.Frag}{mg:Str->Option ae}{base:Heap}{x:Str}{st:Stmt}{N ps:List Str}{k:Nat}{C:Xc}{Y:zj}
theorem lP (u:US)(N:List Str)(F:FM K mg x st)
  (body:eZ N ps (dJ st)->∀(f:Addr) (fq:ae) (A:Around) (outer:List Env) (s:aq) (H:Hp) (E:XK) (n0:Int) (S:List Addr) (has:∀a∈S,H a≠none),fm k (A.deeper (envOfC x (dJ st) s.heap.objs.size f fq))->(A.deeper (envOfC x (dJ st) s.heap.objs.size f fq)).units+64<cLine->zh (ky rq P w K mg base N x (dJ st) f fq A outer s H E).De (Fr.pure C n0 S H has) (fy st) u)
  (sc:eZ N ps (dJ st):=by exact Rv) (hb:BD x st ps:=by rw[999]) :
  eL P w K mg base (k+1) x ps (uX C (m7 N.length ps.length λ_=>u)) :=
 let ⟨f,_,F,hm⟩:=F.ex;U2 (u:=λ_=>u) F hm sc (F.binds hb) λfq A outer s H E n0 S has hr=>body sc f fq A outer s H E n0 S has hr hr.units
theorem CB (u:US)(N:List Str)(F:FM K mg x st)
  (body:eZ N ps (dJ st)->∀(f:Addr) (fq:ae) (A:Around) (outer:List Env) (s:aq) (H:Hp) (E:XK) (fa sa:Addr) (n0:Int) (S:List Addr) (hf:Y.iF H fa sa n0) (hS:fa∈S) (has:∀a∈S,H a≠none),fm k (A.deeper (envOfC x (dJ st) s.heap.objs.size f fq))->(A.deeper (envOfC x (dJ st) s.heap.objs.size f fq)).units+64<cLine ->
   zh (ky rq P w K mg base N x (dJ st) f fq A outer s H E).De (Fr.feed C Y 0 fa sa n0 S H hf hS has) (fy st) u)
  (sc:eZ N ps (dJ st):=by exact Rv) (hN:1<=N.length:=by decide) (hb:BD x st ps:=by rw[999]) :
  eL P w K mg base (k+1) x ps (wd Y (kJ N.length ps.length λ_=>u)) :=
 let ⟨f,_,F,hm⟩:=F.ex;U3 (u:=λ_=>u) F hm sc (F.binds hb) hN λfq A outer s H E fa sa n0 S hf hS has hr=>body sc f fq A outer s H E fa sa n0 S hf hS has hr hr.units
end
noncomputable def Oa (F:UF):Sp:=λvs H Q E=>∃S ds n Qp,dP S H ds vs/\(∀a∈S,H a≠none)/\F ds n Qp Ct/\∀a xs H' es,H a=none->H' a=some (.lst xs)->dP (a::S) H' es xs->Ext [] H H'->Qp (.list es) n->Q (.ref a) H'
noncomputable def Ob (M:Fr)(u:US):TS:=λD σ H=>∃env pn S n E,dY M env pn σ S H n/\u E env n/\∀a xs H' ds n',M.H0 a=none->H' a=some (.lst xs)->dP (a::M.S0) H' ds xs->Ext M.gs M.H0 H'->M.G H' n'->E.rt (.list ds) n'->D.rt (.ref a) H'
structure Lm (X:Cx) (M:Fr) (zf:List Stmt) (u:US):Prop where run:uz X zf (Ob M u)
noncomputable def ie (u w:US):US:=λE env n=>u { nx:=w E,rt:=λ_ _=>False } env n
section
variable {X:Cx}{M:Fr}{e:Expr}{es:List Expr}{st:Stmt}{zf:List Stmt}{u w:US}{ue:fh->Int->(List ad->Int->Prop)->Prop}{ua:UA}{F:UF}{x:Str}{ps:List Str}{k:Nat}{pos p:Pos}
theorem sf (h:KS X M st u)(hr:Lm X M zf w):Lm X M (st::zf) (ie u w):=⟨(e9 h.run hr.run).weaken λD σ H h=>Aa h λenv pn S n E h =>
 ⟨env,pn,S,n,_,h.1,h.2.1,λeA σ' S' H' n' lu q=>⟨eA,pn,S',n',E,lu,q,h.2.2⟩,λv H' d n' _ _ _ q=>False.elim q⟩⟩
theorem qJ (h:KN X M e ue):Lm X M [.Return (some e) pos] (fD (uL ue)):=⟨(gF (kC h.run)).weaken λD σ H h=>Aa h λenv pn S n E h =>
 ⟨env,pn,S,n,_,h.1,h.2.1,λa xs H' ds n' h0 h1 r x g _ q=>h.2.2 a xs H' ds n' (h.1.ext.fresh (λz=>h.1.has a (h.1.tf a z) h0) h0) h1 (r.less λb hb=>by
  rcases au.mp hb with rfl | hb
  .exact ar ..
  .exact ao _ (h.1.s0 b hb)) (h.1.ext.trans x) g q⟩⟩
noncomputable def Au (F:UF)(ua:UA):fh->Int->(List ad->Int->Prop)->Prop:=λenv n Q=>ua env n λds n1=>F ds n1 (λd n'=>match d with | .list es=>Q es n' | _=>False) Ct
theorem JI (D:eL X.prog X.w X.K X.mg X.base k x ps (Oa F))(hr:fm k X.A)(ha:KA X M (e::es) ua)(hg:Gl X x:=by rfl)(jj:(x == ("__debug__" : Str))=false:=by decide):KN X M (.Call (.Name x p) (e::es) [] pos) (Au F ua) :=
 .of (lE D hr ha.run hg jj) λσ H R env pn S n Q ok hu k=>⟨env,pn,S,n,_,ok,hu,λvs H1 ds n1 el r1 x1 g1 _ q=>⟨S,ds,n1,_,r1,(ok.step x1 g1).has,q,λa xs H2 es h0 h1 r x2 q2=>k a xs H2 es n1 (x1.fresh (λz=>(ok.step x1 g1).has a (ok.tf a z) h0) h0) h1 r (x1.trans (x2.mono (!4))) (M.ik g1 x2 (!4)) q2⟩⟩
theorem Eb:lH X (λ_ _ _=>False):=λpins σ e s' ⟨_,_,_,_,_,_,_,_,_,_,_,_,q⟩=>False.elim q
theorem JJ {kk:Nat}{u:UX}(hr:fm kk X.A)(hm:X.mg "repr" = none)(h:KL X M e u)(hg:Gl X "repr" := by rfl)(hs:e8 e=true:=by rfl):KE X M (.Call (.Name "repr" p) [e] [] pos) (mP u) :=
 .of (fO (rC hr) hg hm (!3) (gm h.run eY hs)) λσ H R env pn S n Q ok hu k=>⟨env,pn,S,n,_,ok,hu,λv H1 d n1 r1 x1 g1 _ q=>⟨M.gs,d,v,rfl,r1.less ok.tf,q.1,k _ H1 _ n1 (.str _) x1 g1 q.2⟩⟩
end
section
variable {P:aO}{w:World}{K:W.Frag}{mg:Str->Option ae}{base:Heap}{f:Addr}{fd:bF}{x:Str}{fj:Str}{st:Stmt}{N ps:List Str}{k:Nat}{C:Xc}
theorem Vb (u:US)(N:List Str)(F:FM K mg x st)
  (body:eZ N ps (dJ st)->∀(f:Addr) (fq:ae) (A:Around) (outer:List Env) (s:aq) (H:Hp) (E:XK) (n0:Int) (S:List Addr) (has:∀a∈S,H a≠none),fm k (A.deeper (envOfC x (dJ st) s.heap.objs.size f fq))->(A.deeper (envOfC x (dJ st) s.heap.objs.size f fq)).units+64<cLine->Lm (ky rq P w K mg base N x (dJ st) f fq A outer s H E).De (Fr.pure C n0 S H has) (fy st) u)
  (sc:eZ N ps (dJ st):=by exact Rv) (hb:BD x st ps:=by rw[999]) :
  eL P w K mg base (k+1) x ps (Oa (m7 N.length ps.length λ_=>u)):=by
 obtain⟨f,fd,F,hm⟩:=F.ex;refine⟨f,fd,F.KQ sc (λvs H Q E h=>?_) (λfq A outer s H vs Q E hr h=>?_),hm,F.kp,F.binds hb⟩
 .obtain⟨S,ds,n,Qp,r,_,hF,_⟩:=h
  rw[r.length];exact hF.1
 .obtain⟨S,ds,n,Qp,r,has,hF,hq⟩:=h
  refine⟨_,(body sc f fq A outer s H E n S has hr hr.units).run,envOf N.length ds,[],S,n,_,pE rfl rfl r rfl rfl,hF.2,λa xs H' es n' h0 h1 r x g q=>?_⟩;have e:n'=n:=g;subst e;exact hq a xs H' es h0 h1 r x q
end
noncomputable def si (C:Xc)(F:UF):Sp:=λvs H Q E=>∃S ds n Qp Xp,dP S H ds vs/\(∀a∈S,H a≠none)/\F ds n Qp Xp/\(∀a xs H' es,H a=none->H' a=some (.lst xs)->dP (a::S) H' es xs->Ext [] H H'->Qp (.list es) n->Q (.ref a) H')/\∀c as,Xp c as->Rz C S [] H E c as
noncomputable def JK (t:UT)(u w:US):US:=λE env n=>t env n λb n1=>if b=true then u E env n1 else w E env n1
noncomputable def mx (F:UF)(Ex:XQ)(ua:UA):fh->Int->(List ad->Int->Prop)->Prop:=λenv n Q=>ua env n λds n1=>F ds n1 (λd n'=>match d with | .list es=>Q es n' | _=>False) Ex
section
theorem Oc (hc:KB X M c uc)(hb:Lm X M body u)(hr:Lm X M zf w):Lm X M (.If c body [] pos::zf) (JK uc u w):=⟨(e9 (xq hc.run hb.run n6) hr.run).weaken λD σ H h=>Aa h λenv pn S n E h=>⟨env,pn,S,n,_,h.1,h.2.1,λb H1 n1 x1 g1 q=>by
 cases b with
 | true=>exact⟨env,pn,S,n1,E,h.1.step x1 g1,q,h.2.2⟩
 | false=>exact⟨env,pn,S,n1,E,h.1.step x1 g1,q,h.2.2⟩⟩⟩
theorem yr (E:XK)(Ex:XQ)(D:qm X.prog X.w X.K X.mg X.base k x ps (si C F))(hr:fm k X.A)(hl:lH X E)(hx:∀c as,Ex c as->Rz C M.S0 M.gs M.H0 E c as)(ha:KA X M (e::es) ua)(hg:Gl X x:=by rfl)(jj:(x == ("__debug__" : Str))=false:=by decide) :
  KN X M (.Call (.Name x p) (e::es) [] pos) (mx F Ex ua) :=
 .of (F6 E D hr hl ha.run hg jj) λσ H R env pn S n Q ok hu k=>⟨env,pn,S,n,_,ok,hu,λvs H1 ds n1 el r1 x1 g1 _ q=>⟨S,ds,n1,_,Ex,r1,(ok.step x1 g1).has,q,λa xs H2 es h0 h1 r x2 q2=>k a xs H2 es n1 (x1.fresh (λz=>(ok.step x1 g1).has a (ok.tf a z) h0) h0) h1 r (x1.trans (x2.mono (!4))) (M.ik g1 x2 (!4)) q2,
  λc as z dx H' Yg rv hd x'=>hx c as z dx H' Yg (rv.less ok.s0) hd ((ok.step x1 g1).ext.trans (x'.mono (!4)))⟩⟩
theorem GP (D:qm X.prog X.w X.K X.mg X.base k x ps (si C F))(hr:fm k X.A)(ha:KA X M (e::es) ua)(hg:Gl X x:=by rfl)(jj:(x == ("__debug__" : Str))=false:=by decide) :
  KN X M (.Call (.Name x p) (e::es) [] pos) (mx F Ct ua):=yr _ Ct D hr Eb (λ_ _ z=>z.elim) ha hg jj
theorem qm.Rw {P:aO}{w:World}{K:W.Frag}{mg:Str->Option ae}{base:Heap}(D:qm P w K mg base k x ps (si C F)):qm P w K mg base k x ps (uX C F):=by
 obtain⟨f,fd,G,h⟩:=D.ex;have w:∀vs H Q E,uX C F vs H Q E->si C F vs H Q E:=λvs H Q E ⟨S,ds,n,Qp,Xp,r,has,hF,hq,hx⟩=>⟨S,ds,n,Qp,Xp,r,has,hF,λa xs H' es h0 h1 rr x q=>hq _ _ H' (.lst h1 (λz=>has a z h0) (rr.less λ_ h=>ao _ h)) x q,hx⟩;exact⟨f,fd,G.imp w,h⟩
end
section
variable {P:aO}{w:World}{K:W.Frag}{mg:Str->Option ae}{base:Heap}{x:Str}{st:Stmt}{ps:List Str}{k:Nat}{C:Xc}
theorem Ln (u:XQ->US)(N:List Str)(F:FM K mg x st)
  (body:eZ N ps (dJ st)->∀(f:Addr) (fq:ae) (A:Around) (outer:List Env) (s:aq) (H:Hp) (E:XK) (n0:Int) (S:List Addr) (has:∀a∈S,H a≠none) (Ex:XQ),(∀c as,Ex c as->Rz C S [] H E c as)->fm k (A.deeper (envOfC x (dJ st) s.heap.objs.size f fq))->(A.deeper (envOfC x (dJ st) s.heap.objs.size f fq)).units+64<cLine->lH (ky (K4 P w) P w K mg base N x (dJ st) f fq A outer s H E) E ->
   Lm (ky (K4 P w) P w K mg base N x (dJ st) f fq A outer s H E) (Fr.pure C n0 S H has) (fy st) (u Ex))
  (sc:eZ N ps (dJ st):=by exact Rv) (hb:BD x st ps:=by rw[999]) :
  qm P w K mg base (k+1) x ps (si C (m7 N.length ps.length u)):=by
 obtain⟨f,fd,F,hm⟩:=F.ex;refine⟨f,fd,F.XJ sc (λvs H Q E h=>?_) (λfq A outer s H vs Q E hr h=>?_),hm,F.kp,F.binds hb⟩
 .obtain⟨S,ds,n,Qp,Xp,r,_,hF,_⟩:=h
  rw[r.length];exact hF.1
 .obtain⟨S,ds,n,Qp,Xp,r,has,hF,hq,hx⟩:=h
  refine⟨_,(body sc f fq A outer s H E n S has Xp hx hr hr.units DT).run,envOf N.length ds,[],S,n,_,pE rfl rfl r rfl rfl,hF.2,λa xs H' es n' h0 h1 r x g q=>?_⟩;have e:n'=n:=g;subst e;exact hq a xs H' es h0 h1 r x q
end
section
variable {X:Cx}{cn n np:Str}{C0:Addr}{j:Nat}{b0:Stmt}{oo:List Stmt}{th:TS}{ex:Expr}{te:XK->TE}{np z7 gk pos:Pos}
noncomputable def Rx (K:W.Frag)(C0:Addr)(j:Nat)(te:XK->TE)(th:TS):TS:=λD σ H=>te (rR K C0 j th D σ) σ H λ_ H1=>D.nx σ H1
theorem JL (K:W.Frag)(hm:X.mg cn=some (.ref C0))(hN:X.N.Nodup)(hj:X.N[j]? = some n)(z8:X.env.scope.names.lookup n=some .local)(he:Wd X ex te)(hs:∀x,uz (rQ X x) (b0::oo) th)
  (wU:X.stack=X.env::X.outer:=by rfl) (DR:X.env.frame=some X.env.locals:=by rfl) (hg:Gl X cn:=by rfl) (jj:(cn == ("__debug__" : Str))=false:=by decide) (IW:swapsWith ex none gk.line X.env=pure false:=by rfl) (hk:X.K=K:=by rfl) :
  QS X (.Try [.Expr ex gk] [.ExceptHandler (some (.Name cn np)) (some n) (b0::oo) z7] [] [] pos) (Rx K C0 j te th):=by
 subst hk;exact⟨λpins s σ H D I h=>wpAny_Try_except (wpAny_execs_cons (bJ (wpAny_Expr_any (E:=XP X pins σ (rR X.K C0 j th D σ)) (fN (he.run _ pins s σ H _ I h) λv s1 ⟨y,H1,I1,r1,q1⟩=>wpAny_execs_nil (wpAny_execs_nil ⟨_,H1,I1,q1⟩)) I.quiet IW) (λf s1 q=>q) λe s1 q=>D0 wU DR hm hg jj hN hj z8 hs q))⟩
end
noncomputable def GQ (j:Nat)(F:UF)(cn:Str)(oE:List Str)(ua:UA)(uh:US):US:=λE env n=>ua env n λds n1=>F ds n1 (λ_ n'=>E.nx env n') λc as=>(c∈oE/\(cn=c\/cn = "JoinError"))/\uh { nx:=λeA=>E.nx (eA.set j none),rt:=E.rt } (env.set j (some (.x c as))) n1
section
theorem Od (hM:M.xc=C)(xf:XF X.K X.mg C oE all)(Yh:cn∈all)(D:qm X.prog X.w X.K X.mg X.base k f ps (uX C F))(hr:fm k X.A)(hN:X.N.Nodup)(ha:∀Ex,KA (X.o5 Ex) M (e::es) ua)(hs:∀x,zh (rQ X x) M (b0::oo) uh)
  (Ws:j ∉ M.fd) (hj:X.N[j]? = some nm:=by rfl) (z8:X.env.scope.names.lookup nm=some .local:=by rfl) (wU:X.stack=X.env::X.outer:=by rfl) (DR:X.env.frame=some X.env.locals:=by rfl) (hg:Gl X cn:=by rfl) (jj:(cn == ("__debug__" : Str))=false:=by decide) (Yi:Gl X f:=by rfl) (MP:(f == ("__debug__" : Str))=false:=by decide)
  (IW:swapsWith (.Call (.Name f p) (e::es) [] fJ) none gk.line X.env=pure false:=by rfl) :
  KS X M (.Try [.Expr (.Call (.Name f p) (e::es) [] fJ) gk] [.ExceptHandler (some (.Name cn np)) (some nm) (b0::oo) z7] [] [] pos) (GQ j F cn oE ua uh) :=
 .of (JL X.K (xf.nm cn Yh) hN hj z8 (Jp D hr (λEx=>(ha Ex).run) Yi MP) (λy=>(hs y).run) wU DR hg jj IW) λD σ H env pn S n E ok hu k1 k2=>⟨env,pn,S,n,_,ok,hu,λvs H1 ds n1 el r1 x1 g1 _ q =>
  ⟨S,ds,n1,_,_,r1,(ok.step x1 g1).has,q,λd v H2 r2 x2 q2=>k1 _ _ _ _ _ ((ok.step x1 g1).step (x2.mono (!4)) (M.ik g1 x2 (!4))) q2,λc as z dx H' vs rv hd x'=>by
   refine⟨xf.UE c z.1.1 cn z.1.2,λy hy=>?_⟩;have lu:=(ok.step x1 g1).step (x'.mono (!4)) (M.ik g1 x' (!4));subst hM;have gy:y ∉ M.gs/\dx ∉ M.gs:=⟨λzz=>M.SH lu.gd y zz _ hy,λzz=>M.SH lu.gd dx zz _ hd⟩;exact⟨env.set j (some (.x c as)),pn,S,n1,_,lu.U5 ⟨y,dx,vs,rfl,hy,hd,rv,gy.1,gy.2⟩ Ws,z.2,λeA σ' S' MW n' Vc Yj=>k1 _ _ _ _ _ (Vc.drop Ws) Yj,k2⟩⟩⟩
end
noncomputable def CC (i:Nat):US:=λE env n=>match env[i]? with | some (some (.o ds))=>E.nx (env.set i (some (.o ds.reverse))) n | _=>False
section
theorem Ry (i:Nat)(hN:X.N[i]? = some x:=by rfl)(hv:s9 X.env.scope x:=by (first | exact Or.inl rfl | exact Or.inr (Or.inl rfl) | exact Or.inr (Or.inr rfl)))(hd:(x == ("__debug__" : Str))=false:=by decide)(gP:(x == ("__classdict__" : Str))=false:=by decide)
  (jW:attributeBase (.Name x p) "reverse" X.env (eval (.Name x p) X.env)=eval (.Name x p) X.env:=by rfl) (jX:(gk.endLine == fJ.line)=true:=by rfl)
  (hs:swapsWith (.Call (.Attribute (.Name x p) "reverse" gk) [] [] fJ) none pos.line X.env=pure false:=by rfl):KS X M (.Expr (.Call (.Attribute (.Name x p) "reverse" gk) [] [] fJ) pos) (CC i):=by
 refine .of (B2 (JF PySem.F.plainAttrs_list PySem.F.slot_list_reverse PySem.F.type_list_reverse zC (qv i hN hv hd gP) jW jX) hs) λD σ H env pn S n E ok hu k1 k2=>?_;unfold CC at hu;split at hu
 .rename_i ds he
  obtain⟨v,hv,a,xs,rfl,ha,ra,hs,h0⟩:=ok.val i _ he;exact⟨_,hv,.inl ⟨rfl,xs,gn.of ha⟩,a,xs,rfl,rfl,ha,k1 _ _ _ _ _ (ok.put he hv ha ra.reverse) hu⟩
 .exact hu.elim
end
end L2
namespace PySem
open Sem (wp)
open PyProof.Rows Builtin Builtin.Frozenset
end PySem
namespace L2
open PySem PySem.Spec PyProof.Rows
open PySem.W (KasT kas_asc kas_desc kas_tail3 kas_descPart kas_count kas_place kas_bin kas_sort kas_rev kas_ask kas_item kat_run kat_snds KatTups KatLex KatGo kat_cons kat_nil kat_go kat_yes kat_no kat_one kat_lt kas_mapM kas_first_eq)
noncomputable abbrev RA (n:Nat)(p:Array Nat):Prop:=p.Perm (cP (List.range n))
section
variable {prog:aO}{w:World}{A:Around}{E:ae->aq->Prop}{s:aq}
theorem sj (vs:List ae):(List.range vs.length).map (λi=>vs.getD i ae.none)=vs:=by
 refine du (!4) λi h1 h2=>?_;simp[aE,h2]
noncomputable def wq (prog:aO)(w:World)(A:Around)(vs:List ae)(s:aq)(G:Array Nat->Prop):Prop:=2<=vs.length->∃κ:SortKind,(∀(Q:SortKind->aq->Prop) (E:ae->aq->Prop),Q κ s->ay (model prog w) A (keyKind' vs.toArray) Q E s)/\∀E:ae->aq->Prop,ay (model prog w) A (sortRuns'.run (SortSt.mk' κ (vs.toArray.zip vs.toArray) #[] 7 none)) (λr s'=>s'=s/\∃p:Array Nat,RA vs.length p/\G p/\arrOf r.2=p.map (kas_item (vs.toArray.zip vs.toArray))/\failedOf r.2=none) E s
theorem tQ {a:Addr}{vs:List ae}{n:Nat}{P:Fin->aq->Prop}{G:Array Nat->Prop}(hG:vs.length<2->G (cP (List.range vs.length)))(ho:s.heap.get? a=some (seqObj "list" vs.toArray n))(HP:vs.length<1000000)
  (hk:∀s':aq,(∀b o,b≠a->s.heap.get? b=some o->s'.heap.get? b=some o)->wq prog w A vs s' G)
  (h:∀p:Array Nat,RA vs.length p->G p->P (.done (.ret .none)) { s with heap:=sortedHeap s.heap a vs (cP (p.toList.map λi=>vs.getD i ae.none)) }) :
  ay (model prog w) A (Builtin.«list.sort» ⟨[.ref a],[]⟩) P E s:=by
 rw[list_sort_plain];have ha:a<s.heap.objs.size:=aA ho;refine aa (listItems_at ho rfl ?_);refine aa (listUpdate_at ho rfl ?_);obtain⟨e1,SR⟩:∃e1,(s.heap.update a (Obj.mapSeq λ_=>#[])).get? a=some (seqObj "list" #[] e1):=⟨_,get?_update_seq ho (λ_=>#[])⟩;refine aa (seqEpoch_at SR rfl ?_);refine aa (wpAny_newTuple ?_);refine aa (wpAny_newList ?_);refine wpAny_holding ?_
 have SS:(((s.heap.update a (Obj.mapSeq λ_=>#[])).push (seqObj "tuple" vs.toArray 0)).push (seqObj "list" #[] 0)).get? a=some (seqObj "list" #[] e1):=by
  rw[dk _ _ _ (by rw[size_push',Heap.size_update];exact aN (cr ha)),dk _ _ _ (by rw[Heap.size_update];exact aN ha)];exact SR
 have Um:∀b o,b≠a->s.heap.get? b=some o->(((s.heap.update a (Obj.mapSeq λ_=>#[])).push (seqObj "tuple" vs.toArray 0)).push (seqObj "list" #[] 0)).get? b=some o:=λb o hb e=>ah _ (ah _ ((de _ _ _ _ hb).trans e));show ay (model prog w) A _ P E { s with heap:=((s.heap.update a (Obj.mapSeq λ_=>#[])).push (seqObj "tuple" vs.toArray 0)).push (seqObj "list" #[] 0) };dsimp only;have hsz:vs.toArray.size=vs.length:=by simp
 by_cases h2:vs.toArray.size<2
 .rw[if_pos h2,if_pos h2]
  refine aa (ai ?_);rw[StateT.run_pure];refine aa (ai ?_);dsimp only;refine aa (seqEpoch_at SS rfl ?_);refine aa (listUpdate_at SS rfl ?_ (hsz2:=by rw[Array.size_map];show (pairsOf vs).size<=_;rw[pairsOf_size,sizeLine_eq];omega));simp only[bne_self_eq_false,bX,if_false];have:=h (cP (List.range vs.length)) (Array.Perm.refl _) (hG (!1));rw[List.toList_toArray,sj] at this
  have e:(arrOf (SortSt.mk' general' (vs.toArray.zip vs.toArray) #[] 7 none)).map (·.2)=vs.toArray:=by
   show (vs.toArray.zip vs.toArray).map (·.2)=vs.toArray;apply cQ.mp;simp[List.map_snd_zip]
  refine ai ?_;rw[<- e] at this;exact this
 .rw[if_neg h2,if_neg h2]
  obtain⟨κ,kk,ka⟩:=hk { s with heap:=((s.heap.update a (Obj.mapSeq λ_=>#[])).push (seqObj "tuple" vs.toArray 0)).push (seqObj "list" #[] 0) } Um (!1);refine aa (kk _ _ ?_);refine aa (bJ (ka E) ?_ λ_ _ e=>e);rintro⟨⟨⟩,eK⟩ s' ⟨rfl,p,hp,hg,Yk,hf⟩;dsimp only;have RB:=kat_snds (ks:=vs) (vs:=vs) rfl Yk;have Uy:p.size=vs.length:=by have:=hp.size_eq;simpa using this
  refine aa (seqEpoch_at SS rfl ?_);refine aa (listUpdate_at SS rfl ?_ (hsz2:=by rw[RB,aD,aj,aT,Uy,sizeLine_eq];omega));rw[hf];simp only[bne_self_eq_false,bX,if_false];refine ai ?_;have:=h p hp hg;rw[<- RB] at this;exact this
theorem Av {l:Addr}{vs:List ae}{Q:ae->aq->Prop}{G:Array Nat->Prop}(hG:vs.length<2->G (cP (List.range vs.length)))(hl:s.heap.IsList l vs.toArray)(HP:vs.length<1000000)
  (hk:∀s':aq,(∀b o,s.heap.get? b=some o->s'.heap.get? b=some o)->∀A',A'.units<=A.units+8->wq prog w A' vs s' G)
  (h:∀p:Array Nat,RA vs.length p->G p->Q (.ref (s.heap.objs.size+1)) { s with heap:=sortedAll s.heap vs (cP (p.toList.map λi=>vs.getD i ae.none)) }) :
  ay (model prog w) A (call (.builtin "sorted") [.ref l]) Q E s:=by
 refine Calls.call_function_entry kind_sorted plain_sorted entry_sorted (args_sorted1 _) ?_;unfold Builtin.«sorted»;refine aa (m:=checkCount "sorted" 1 1 _) (ai ?_);refine aa (collect_list hl ?_);refine aa (wpAny_newList ?_)
 have hsz:((s.heap.push (seqObj "list" #[] 0)).update s.heap.objs.size (Obj.mapSeq (·++vs.toArray))).objs.size=s.heap.objs.size+1:=by
  rw[Heap.size_update,size_push']
 have EI:(((s.heap.push (seqObj "list" #[] 0)).update s.heap.objs.size (Obj.mapSeq (·++vs.toArray))).push (seqObj "list" vs.toArray 0)).get? (s.heap.objs.size+1)=some (seqObj "list" vs.toArray 0):=by
  rw[<- hsz];exact aH _ rfl
 have keep:∀b o,s.heap.get? b=some o->(((s.heap.push (seqObj "list" #[] 0)).update s.heap.objs.size (Obj.mapSeq (·++vs.toArray))).push (seqObj "list" vs.toArray 0)).get? b=some o:=λb o q=>by
  have ig:b<s.heap.objs.size:=aA q;rw[dk _ _ _ (by rw[hsz];exact aN (cr ig)),de _ _ _ _ (aN ig),dk _ _ _ (aN ig)];exact q
 show ay _ _ _ _ _ { s with heap:=((s.heap.push (seqObj "list" #[] 0)).update s.heap.objs.size (Obj.mapSeq (·++vs.toArray))).push (seqObj "list" vs.toArray 0) };rw[hsz];refine aa (wpAny_holding (wpAny_call_entry slot_list_sort ⟨_,EI,rfl⟩ entry_list_sort (tQ hG EI HP (λs' MX=>hk s' (λb o e=>MX b o (aN (cr (aA e))) (keep b o e)) _ ?_) λp hp hg=>⟨_,rfl,?_⟩) (args_list_sort _)))
 .show A.units+1+1<=A.units+8
  omega
 .exact ai ⟨_,rfl,h p hp hg⟩
noncomputable def Oe (h:Heap)(v:ae):Prop:=∃(a:Addr) (o:Obj) (xs:Array ae) (n:Nat) (row:List Int) (as:List Addr),v=.ref a/\h.get? a=some o/\o.cls=.type "tuple" /\ o.data=.seq xs n/\ReadsAll h xs.toList (row.map .int) as
theorem sk:∀{us:List ae} {row:List Int} {as:List Addr},ReadsAll h us (row.map .int) as->∀v∈us,∃i t,v=ae.int i t
 | [],_,_,_,v,hv=>by cases hv
 | u::us,[],_,r,v,hv=>by cases r
 | u::us,i::row,_,.cons r rs,v,hv=>by
  rcases au.mp hv with rfl | hv
  .cases r
   exact⟨_,_,rfl⟩
  .exact sk rs v hv
theorem CD (i j:Int)(t u:Tok)(A:Around)(s:aq):wo .Lt A s (.int i t) (.int j u) (decide (i<j)):=λprog w E Q h=>richCompare_gives (op:=.Lt) (typeIs_int s _ t) (typeIs_int s _ u) F.slot_int_lt F.entry_int_lt (F.args_int_lt_2 _ _) (gives_int_lt _ _ t u) (λx=>nomatch x) h
theorem kf:∀row:List Int,ad.canLayAll0 (row.map ad.int)=true
 | []=>rfl
 | i::row=>by simp only[ak,ad.canLayAll0,ad.canLay0,kf row,Bool.and_self]
theorem pI:∀row:List Int,ad.depthAll (row.map ad.int)=0
 | []=>rfl
 | i::row=>by simp only[ak,ad.depthAll,ad.depth,pI row];rfl
noncomputable def wu (h:Heap):List ae->List (Option ae)->Prop
 | [],[]=>True
 | v::vs,f::fs=>(∃a o xs n,v=.ref a/\h.get? a=some o/\o.cls=.type "tuple" /\ o.data=.seq xs n/\xs[0]? = f)/\wu h vs fs
 | _,_=>False
theorem ng:∀(vs:List ae) (fs:List (Option ae)) {Q:List (Option ae)->aq->Prop},wu s.heap vs fs->Q fs s->ay (model prog w) A (vs.mapM firstOfTuple') Q E s
 | [],[],_,_,h=>by rw[List.mapM_nil];exact ai h
 | [],_::_,_,t,_=>t.elim
 | _::_,[],_,t,_=>t.elim
 | v::vs,f::fs,Q,t,h=>by
  obtain⟨⟨a,o,xs,n,rfl,ho,hc,hd,hf⟩,t⟩:=t;rw[cB];refine aa ?_;rw[kas_first_eq];refine aa (W.Looks.here (show W.Looks (model prog w) s.heap (typeOf (.ref a)) o.cls from (W.Looks.ld ho).andThen .now) ?_);rw[hc,if_neg (by first | decide | simp)];refine aa (listItems_at ho hd (ai ?_));rw[hf];exact aa (ng vs fs (Q:=λbs s'=>ay (model prog w) A (pure (f::bs)) Q E s') t (ai h))
theorem u3:∀(vs:List ae),(∀v∈vs,Oe s.heap v)->∃fs,wu s.heap vs fs/\∀f∈fs,f=none\/∃i t,f=some (ae.int i t)
 | [],_=>⟨[],trivial,!4⟩
 | v::vs,h=>by
  obtain⟨fs,h1,h2⟩:=u3 vs λv hv=>h v (ao _ hv);obtain⟨a,o,xs,n,row,as,rfl,k1,k2,k3,k4⟩:=h v (ar ..);refine⟨xs[0]? :: fs,⟨⟨a,o,xs,n,rfl,k1,k2,k3,rfl⟩,h1⟩,λf hf=>?_⟩;rcases au.mp hf with rfl | hf
  .cases e:xs[0]? with
   | none=>exact .inl rfl
   | some u =>
    obtain⟨i,t,rfl⟩:=sk k4 u (by have:=Array.mem_of_getElem? e;simpa using this);exact .inr ⟨i,t,rfl⟩
  .exact h2 f hf
theorem sm:∀(vs:List ae) (fs:List (Option ae)),wu h vs fs->fs.all (·.isSome)=true->∃gs:List ae,fs=gs.map some/\KatTups h vs gs
 | [],[],_,_=>⟨[],rfl,trivial⟩
 | [],_::_,t,_=>t.elim
 | _::_,[],t,_=>t.elim
 | v::vs,none::fs,_,e=>by simp at e
 | v::vs,some g::fs,t,e=>by
  obtain⟨⟨a,o,xs,n,rfl,ho,hc,hd,hf⟩,t⟩:=t;obtain⟨gs,rfl,k⟩:=sm vs fs t (by simpa using e);exact⟨g::gs,rfl,W.KatTups.cons ho hc hd hf k⟩
theorem qd:∀{vs gs:List ae},KatTups h vs gs->gs.length=vs.length
 | [],[],_=>rfl
 | [],_::_,t=>t.elim
 | _::_,[],t=>t.elim
 | v::vs,g::gs,t=>by rw[ap,ap,qd t.2]
theorem Ec {vs:List ae}(h:∀v∈vs,Oe s.heap v)(h2:2<=vs.length):∃κ:SortKind,(κ=tuples' true\/κ=general'\/κ=oneType')/\∀(Q:SortKind->aq->Prop) (E:ae->aq->Prop),Q κ s->ay (model prog w) A (keyKind' vs.toArray) Q E s:=by
 obtain⟨fs,hf,hfi⟩:=u3 vs h;by_cases Fj:(fs.toArray.all (·.isSome))=true
 .refine⟨tuples' true,.inl rfl,λQ E hq=>?_⟩
  obtain⟨gs,rfl,k⟩:=sm vs fs hf (by simpa using Fj);refine W.kat_kind (T:=ae.type "int") k (by rw[qd k];omega) (λv hv=>?_) rfl hq;rcases hfi (some v) (List.mem_map_of_mem hv) with e | ⟨i,t,e⟩
  .cases e
  .cases e
   exact W.Looks.of_pure rfl
 .by_cases h0:(fs.toArray[0]?.bind id).isSome=true
  .refine⟨general',.inr (.inl rfl),λQ E hq=>?_⟩
   rw[PyProof.Rows.kat_kind_eq,List.mapM_toArray,map_eq_pure_bind];refine aa (aa (ng vs fs hf (ai ?_)));rw[if_neg Fj,if_pos h0];exact ai hq
  .refine⟨oneType',.inr (.inr rfl),λQ E hq=>?_⟩
   rw[PyProof.Rows.kat_kind_eq,List.mapM_toArray,map_eq_pure_bind];refine aa (aa (ng vs fs hf (ai ?_)));rw[if_neg Fj,if_neg h0]
   obtain⟨v₁,rest,rfl⟩:∃v₁ rest,vs=v₁::rest:=by
    match vs,h2 with
    | [],h2=>simp at h2
    | v₁::rest,_=>exact⟨v₁,rest,rfl⟩
   rw[oneTypeOnly'_eq,List.mapM_toArray,map_eq_pure_bind];refine aa (aa (aa (kas_mapM (r:=ae.type "tuple") _ (λv hv Q' hq=>?_) (ai ?_))))
   .obtain⟨a,o,xs,n,row,as,rfl,k1,k2,k3,k4⟩:=h v hv
    refine W.Looks.here ?_ hq;exact (show W.Looks (model prog w) s.heap (typeOf (.ref a)) o.cls from (W.Looks.ld k1).andThen .now) |> λz=>by rw[k2] at z;exact z
   .have RC:((List.map (λ_=>ae.type "tuple") (v₁::rest)).toArray.all λx=>x == ae.type "tuple")=true:=by
     simp only[List.all_toArray,List.all_map,dn];intro _ _;rfl
    have H9:(List.map (λ_=>ae.type "tuple") (v₁::rest)).toArray[0]? = some (ae.type "tuple"):=by simp
    rw[H9];simp only[RC,if_true];exact ai (ai hq)
end
noncomputable def yt:ad->Option (List Int) | .tuple ds=>iq ds | _=>none
noncomputable def pJ (ds:List ad):Option (List (List Int)):=ds.mapM yt
noncomputable def lp (r:List Int):ad:=.tuple (r.map .int)
theorem GR (h:yt d=some r):d=lp r:=by
 cases d with
 | tuple ds=>rw[lp,<- iu h]
 | _=>cases h
theorem so (rs:List (List Int)):pJ (rs.map lp)=some rs:=by
 unfold pJ
 induction rs with
 | nil=>rfl
 | cons r rs ih=>rw[ak,cB,ih,lp,yt,ir];rfl
theorem u4:∀{ds:List ad} {rs:List (List Int)},pJ ds=some rs->ds=rs.map lp
 | [],rs,h=>by cases h;rfl
 | d::ds,rs,h=>by
  unfold pJ at h;rw[cB] at h
  cases e1:yt d with
  | none=>rw[e1] at h;cases h
  | some r =>
   cases e:ds.mapM yt with
   | none=>rw[e1,e] at h;cases h
   | some ms =>
    rw[e1,e] at h;cases h;rw[GR e1,u4 (ds:=ds) e];rfl
theorem ee.at:∀{xs:List V} {us:List ae},ee xs us->∀j,j<us.length->RelV (xs.getD j .gB) (us.getD j ae.none)
 | _,[],_,j,hj=>absurd hj (dE _)
 | _,u::us,q,j,hj=>by
  cases q with
  | cons q1 q2 =>
   cases j with
   | zero=>exact q1
   | succ j=>exact ee.at q2 j (bR hj)
theorem dP.Wt:∀{ds:List ad} {xs:List V},dP S H ds xs->∀j,j<ds.length->eB S H (ds.getD j .none) (xs.getD j .gB)
 | [],_,_,j,hj=>absurd hj (dE _)
 | d::ds,_,r,j,hj=>by
  obtain⟨x,t,rfl,h1,h2⟩:=r.of_cons
  cases j with
  | zero=>exact h1
  | succ j=>exact dP.Wt h2 j (bR hj)
theorem ee.pick (q:ee xs us):∀l:List Nat,(∀j∈l,j<us.length)->ee (l.map λj=>xs.getD j .gB) (l.map λj=>us.getD j ae.none)
 | [],_=>.nil
 | j::l,h=>.cons (q.at j (h j (ar ..))) (ee.pick q l λk hk=>h k (ao _ hk))
theorem dP.pick {S:List Addr}{H:Hp}{rs:List (List Int)}{xs:List V}(r:dP S H (rs.map lp) xs):∀l:List Nat,(∀j∈l,j<rs.length)->dP S H ((l.map λj=>rs.getD j []).map lp) (l.map λj=>xs.getD j .gB)
 | [],_=>.nil
 | j::l,h=>by
  have hj:=h j (ar ..);have:=r.Wt j (by rw[aj];exact hj);have e:(rs.map lp).getD j .none=lp (rs.getD j []):=by simp[aE,hj]
  rw[e] at this;exact .cons this (dP.pick r l λk hk=>h k (ao _ hk))
section
theorem GS (rs:List (List Int)):ad.canLayAll0 (rs.map lp)=true:=by
 have:∀r:List Int,ad.canLayAll0 (r.map .int)=true:=λr=>by
  induction r with
  | nil=>rfl
  | cons a r ih=>simpa [ad.canLayAll0,ad.canLay0] using ih
 induction rs with
 | nil=>rfl
 | cons r rs ih=>simp only[ak,ad.canLayAll0,lp,ad.canLay0,this,ih];rfl
end
noncomputable def JM:Bool->Keyed->Array Keyed->Nat->Nat->Nat->StateT SortSt Sem (Option Nat):=sortPriv% PySem.Builtin.gallop
noncomputable def mR:Nat->StateT SortSt Sem Unit:=sortPriv% PySem.Builtin.setMinGallop
noncomputable def GU:Array Keyed->Array Keyed->StateT SortSt Sem (Array Keyed):=sortPriv% PySem.Builtin.mergeLo
noncomputable def GV:Array Keyed->Array Keyed->StateT SortSt Sem (Array Keyed):=sortPriv% PySem.Builtin.mergeHi
noncomputable abbrev nh (st:SortSt)(g:Nat):SortSt:=SortSt.mk' (kindOf st) (arrOf st) (pendingOf st) g (failedOf st)
theorem pK (g:Nat):mR g=modify λs=>nh s g:=rfl
section
theorem eS {arr:Array Keyed}{i:Nat}{st:SortSt}{Q:Keyed->SortSt->Prop}(hi:i<arr.size)(h:Q arr[i] st):wpS (model prog w) A E s (elem' arr i) Q st:=by
 rw[elem'_eq,getElem?_pos arr i hi];exact wpS_pure h
theorem JN {β:Type}{a b:Nat}{f:Nat->β->StateT SortSt Sem (ForInStep β)}(I:β->SortSt->Prop)(RD:∀i c st,I c st->wpS (model prog w) A E s (f i c) (λr eK=>match r with | .done c'=>I c' eK | .yield c'=>I c' eK) st){c:β}{st:SortSt}(h:I c st):wpS (model prog w) A E s (forIn [a:b] c f) I st :=
 wpS_forRange (I:=λ_=>I) (λi c st _ _ h=>RD i c st h) (λ_ _ h=>h) h
end
section
variable {prog:aO}{w:World}{A:Around}{E:ae->aq->Prop}{s:aq}
theorem Ed {st:SortSt}{g:Nat}{Q:Unit->SortSt->Prop}(h:Q () (nh st g)):wpS (model prog w) A E s (mR g) Q st:=by
 rw[pK];exact wpS_modify h
noncomputable def Lo (a b out:Array Keyed)(ia ib:Nat):Prop:=(out.toList++a.toList.drop ia++b.toList.drop ib).Perm (a.toList++b.toList)
theorem wx (a:Array Keyed)(i:Nat):(a.extract i a.size).toList=a.toList.drop i:=by
 rw[cM,cp,bC (!4)]
theorem dW {α:Type}{c:Prop}[Decidable c]{m1 m2:StateT SortSt Sem α}{Q:α->SortSt->Prop}{st:SortSt}(h1:c->wpS (model prog w) A E s m1 Q st)(h2:¬c->wpS (model prog w) A E s m2 Q st):wpS (model prog w) A E s (if c then m1 else m2) Q st:=by
 by_cases h:c
 .rw[if_pos h];exact h1 h
 .rw[if_neg h];exact h2 h
theorem Lo.done (h:Lo a b out ia ib):(out++a.extract ia a.size++b.extract ib b.size).toList.Perm (a.toList++b.toList):=by
 rw[aP,aP,wx,wx];exact h
theorem Lo.last (h:Lo a b out ia ib):(out++b.extract ib b.size++a.extract ia a.size).toList.Perm (a.toList++b.toList):=by
 refine List.Perm.trans ?_ h;rw[aP,aP,wx,wx,aF,aF];exact List.Perm.append_left _ cK
theorem Lo.as (k:Nat)(h:Lo a b out ia ib):Lo a b (out++a.extract ia (ia+k)) (ia+k) ib:=by
 unfold Lo at h ⊢
 have e:a.toList.drop ia=(a.extract ia (ia+k)).toList++a.toList.drop (ia+k):=by
  rw[cM,cp,cV,<- List.drop_drop,List.take_append_drop]
 rw[e] at h;simpa using h
theorem Lo.bs (k:Nat)(h:Lo a b out ia ib):Lo a b (out++b.extract ib (ib+k)) ia (ib+k):=by
 unfold Lo at h ⊢
 have e:b.toList.drop ib=(b.extract ib (ib+k)).toList++b.toList.drop (ib+k):=by
  rw[cM,cp,cV,<- List.drop_drop,List.take_append_drop]
 rw[e] at h;refine List.Perm.trans ?_ h;rw[aP,aF,aF,aF];refine List.Perm.append_left _ ?_;rw[<- aF,<- aF];exact List.Perm.append_right _ cK
theorem Lo.a1 (h:Lo a b out ia ib)(hi:ia<a.size):Lo a b (out.push a[ia]) (ia+1) ib:=by
 have:=h.as 1;rwa [show out++a.extract ia (ia+1)=out.push a[ia] from cQ.mp (by simp[bw,hi,List.take])] at this
theorem Lo.b1 (h:Lo a b out ia ib)(hi:ib<b.size):Lo a b (out.push b[ib]) ia (ib+1):=by
 have:=h.bs 1;rwa [show out++b.extract ib (ib+1)=out.push b[ib] from cQ.mp (by simp[bw,hi,List.take])] at this
structure Mo (a b:Array Keyed) (i:Nat) (out:Array Keyed) (ia ib:Nat):Prop where
 lo:Lo a b out ia ib
 la:ia+1<a.size
 lb:ib<b.size
 up:i<ia+ib
theorem Mo.a1 (h:Mo a b i out ia ib)(e:¬ (ia+1+1 == a.size)=true):Mo a b i (out.push (a[ia]'(by have:=h.la;omega))) (ia+1) ib:=by
 have:=h.la;have:=h.up;rw[beq_iff_eq] at e;exact⟨h.lo.a1 _,!1,h.lb,!1⟩
theorem Mo.as (h:Mo a b i out ia ib)(hk:k<=a.size - ia)(e:¬ (ia+k+1 == a.size)=true)(e':¬ (ia+k == a.size)=true):Mo a b i (out++a.extract ia (ia+k)) (ia+k) ib:=by
 have:=h.la;have:=h.up;rw[beq_iff_eq] at e e';exact⟨h.lo.as k,!1,h.lb,!1⟩
theorem Mo.bs (h:Mo a b i out ia ib)(hk:k<=b.size - ib)(e:¬ (ib+k == b.size)=true):Mo a b i (out++b.extract ib (ib+k)) ia (ib+k):=by
 have:=h.lb;have:=h.up;rw[beq_iff_eq] at e;exact⟨h.lo.bs k,h.la,!1,!1⟩
theorem Mo.b1 (h:Mo a b i out ia ib)(e:¬ (ib+1 == b.size)=true):Mo a b i (out.push (b[ib]'h.lb)) ia (ib+1):=by
 have:=h.lb;have:=h.up;rw[beq_iff_eq] at e;exact⟨h.lo.b1 _,h.la,!1,!1⟩
theorem Mo.lt (h:Mo a b i out ia ib):ia<a.size:=by
 have:=h.la;omega
noncomputable def Hi (a b out:Array Keyed)(na nb:Nat):Prop:=(a.toList.take na++b.toList.take nb++out.toList).Perm (a.toList++b.toList)
theorem qK (a:Array Keyed)(i:Nat):(a.extract 0 i).toList=a.toList.take i:=by
 rw[cM,cp,Nat.sub_zero,List.drop_zero]
theorem Hi.done (h:Hi a b out na nb):(a.extract 0 na++b.extract 0 nb++out.reverse).toList.Perm (a.toList++b.toList):=by
 rw[aP,aP,qK,qK,bU];exact (List.Perm.append_left _ (dl _)).trans h
theorem Hi.first (h:Hi a b out na nb):(b.extract 0 nb++a.extract 0 na++out.reverse).toList.Perm (a.toList++b.toList):=by
 rw[aP,aP,qK,qK,bU];exact ((List.Perm.append_left _ (dl _)).trans (List.Perm.append_right _ cK)).trans h
theorem qL (a:Array Keyed)(h:k<=n):a.toList.take n=a.toList.take k++(a.extract k n).toList:=by
 rw[cM,cp,show n=k+(n - k) by omega,List.take_add,cV]
theorem Hi.as (h:Hi a b out na nb)(hk:k<=na):Hi a b (out++(a.extract k na).reverse) k nb:=by
 unfold Hi at h ⊢;rw[qL a hk] at h;refine List.Perm.trans ?_ h;rw[aP,bU,aF,aF,aF];refine List.Perm.append_left _ ?_;rw[<- aF,<- aF];refine (List.Perm.append_left _ (dl _)).trans ?_;exact cK.trans (by rw[aF])
theorem Hi.bs (h:Hi a b out na nb)(hk:k<=nb):Hi a b (out++(b.extract k nb).reverse) na k:=by
 unfold Hi at h ⊢;rw[qL b hk] at h;refine List.Perm.trans ?_ h;rw[aP,bU,aF,aF,aF];refine List.Perm.append_left _ (List.Perm.append_left _ ?_);exact (List.Perm.append_left _ (dl _)).trans cK
theorem Aw (a:Array Keyed)(h:n<a.size):(a.extract n (n+1)).reverse=#[a[n]]:=cQ.mp (by simp[bw,h,List.take])
theorem Hi.a1 (h:Hi a b out na nb)(h0:0<na)(hi:na - 1<a.size):Hi a b (out.push a[na - 1]) (na - 1) nb:=by
 have:=h.as (Nat.sub_le na 1);have e:=Aw a hi;rw[show na - 1+1=na by omega] at e;rw[e] at this;simpa using this
theorem Hi.b1 (h:Hi a b out na nb)(h0:0<nb)(hi:nb - 1<b.size):Hi a b (out.push b[nb - 1]) na (nb - 1):=by
 have:=h.bs (Nat.sub_le nb 1);have e:=Aw b hi;rw[show nb - 1+1=nb by omega] at e;rw[e] at this;simpa using this
structure Mh (a b:Array Keyed) (i:Nat) (out:Array Keyed) (na nb:Nat):Prop where
 hi:Hi a b out na nb
 la:0<na
 lb:1<nb
 ua:na<a.size
 ub:nb<=b.size
 up:i+na+nb<a.size+b.size
theorem Mh.xa (h:Mh a b i out na nb):na - 1<a.size:=by
 have:=h.ua;omega
theorem Mh.xb (h:Mh a b i out na nb):nb - 1<b.size:=by
 have:=h.ub;have:=h.lb;omega
theorem Mh.a1 (h:Mh a b i out na nb)(e:¬ (na - 1 == 0)=true):Mh a b i (out.push (a[na - 1]'h.xa)) (na - 1) nb:=by
 obtain⟨h1,h2,h3,h4,h5,h6⟩:=h;rw[beq_iff_eq] at e;exact⟨h1.a1 h2 _,!1,h3,!1,h5,!1⟩
theorem Mh.b1 (h:Mh a b i out na nb)(e:¬ (nb - 1 == 1)=true):Mh a b i (out.push (b[nb - 1]'h.xb)) na (nb - 1):=by
 obtain⟨h1,h2,h3,h4,h5,h6⟩:=h;rw[beq_iff_eq] at e;exact⟨h1.b1 (!1) _,h2,!1,h4,!1,!1⟩
theorem Mh.as (h:Mh a b i out na nb)(hk:k<=na)(e:¬ (k == 0)=true):Mh a b i (out++(a.extract k na).reverse) k nb:=by
 obtain⟨h1,h2,h3,h4,h5,h6⟩:=h;rw[beq_iff_eq] at e;exact⟨h1.as hk,!1,h3,!1,h5,!1⟩
theorem Mh.bs (h:Mh a b i out na nb)(hk:k<=nb)(e:¬ (k == 1)=true)(e':¬ (k == 0)=true):Mh a b i (out++(b.extract k nb).reverse) na k:=by
 obtain⟨h1,h2,h3,h4,h5,h6⟩:=h;rw[beq_iff_eq] at e e';exact⟨h1.bs hk,h2,!1,h4,!1,!1⟩
end
section
variable {prog:aO}{w:World}{A:Around}{E:ae->aq->Prop}{s:aq}{a₀:Array Keyed}{κ:SortKind}
noncomputable abbrev Run:=Nat × Nat × Nat
noncomputable def Ch:Nat->List Run->Nat->Prop
 | lo,[],hi=>lo=hi
 | lo,(s,n,_)::l,hi=>s=lo/\1<=n/\Ch (lo+n) l hi
structure Sb (a₀:Array Keyed) (κ:SortKind) (hi:Nat) (st:SortSt):Prop where
 perm:(arrOf st).Perm a₀
 kind:kindOf st=κ
 failed:failedOf st=none
 ch:Ch 0 (pendingOf st).toList hi
 le:hi<=a₀.size
theorem Sb.size {st:SortSt}{hi:Nat}(h:Sb a₀ κ hi st):(arrOf st).size=a₀.size:=h.perm.size_eq
theorem Sb.arr {st:SortSt}{hi:Nat}(h:Sb a₀ κ hi st){xs:Array Keyed}(hp:xs.Perm (arrOf st)):Sb a₀ κ hi (setArr st xs):=⟨hp.trans h.perm,h.kind,h.failed,h.ch,h.le⟩
theorem Sb.g {st:SortSt}{hi:Nat}(h:Sb a₀ κ hi st)(g:Nat):Sb a₀ κ hi (nh st g):=⟨h.perm,h.kind,h.failed,h.ch,h.le⟩
theorem Ch.split:∀{l:List Run} {lo hi i:Nat},Ch lo l hi->i+1<l.length->∃pre sa na p nb q post,l=pre++(sa,na,p)::(sa+na,nb,q)::post/\pre.length=i/\lo<=sa/\1<=na/\1<=nb/\sa+na+nb<=hi/\∀p',Ch lo (pre++(sa,na+nb,p')::post) hi
 | (sa,na,p)::(sb,nb,q)::post,lo,hi,0,h,_=>by
  obtain⟨rfl,h1,rfl,h2,h3⟩:=h
  have le:∀{l:List Run} {lo hi:Nat},Ch lo l hi->lo<=hi:=λ{l}=>by
   induction l with
   | nil=>intro lo hi h;exact dA h
   | cons x l ih=>intro lo hi h;exact aU (Nat.le_add_right _ _) (ih h.2.2)
  exact⟨[],_,_,_,_,_,_,rfl,rfl,am _,h1,h2,le h3,λp'=>⟨rfl,!1,by rw[<- Nat.add_assoc];exact h3⟩⟩
 | (s,n,p)::l,lo,hi,i+1,h,Fz=>by
  obtain⟨rfl,h1,h2⟩:=h;obtain⟨pre,sa,na,p',nb,q,post,rfl,e,b1,b2,b3,b4,b5⟩:=Ch.split h2 (bR Fz);exact⟨(s,n,p)::pre,sa,na,p',nb,q,post,rfl,by rw[ap,e],!1,b2,b3,b4,λp'=>⟨rfl,h1,b5 p'⟩⟩
 | [_],_,_,0,_,h=>by simp at h
 | [],_,_,_,_,h=>by simp at h
theorem Ch.push (h1:1<=n):∀{l:List Run} {lo hi:Nat},Ch lo l hi->Ch lo (l++[(hi,n,p)]) (hi+n)
 | [],lo,hi,h=>⟨h.symm,h1,by rw[show lo=hi from h];rfl⟩
 | _::_,lo,hi,h=>⟨h.1,h.2.1,Ch.push h1 h.2.2⟩
theorem Ch.mod (pw:Nat):∀{l:List Run} {i lo hi:Nat},Ch lo l hi->Ch lo (l.modify i λx=>(x.1,x.2.1,pw)) hi
 | [],i,lo,hi,h=>by simpa using h
 | _::_,0,lo,hi,h=>h
 | _::l,i+1,lo,hi,h=>⟨h.1,h.2.1,Ch.mod pw (l:=l) (i:=i) h.2.2⟩
theorem CF (f:Nat):∀(l:List Keyed) (j:Nat) (xs:Array Keyed),f+j+l.length<=xs.size->((l.zipIdx j).foldl (λa x=>a.setIfInBounds (f+x.2) x.1) xs).toList=xs.toList.take (f+j)++l++xs.toList.drop (f+j+l.length)
 | [],j,xs,_=>by simp
 | z::l,j,xs,h=>by
  rw[ap] at h;rw[List.zipIdx_cons,cq];dsimp only;rw[CF f l (j+1) _ (by rw[Array.size_setIfInBounds];omega),Array.toList_setIfInBounds,ap];have hz:f+j<xs.toList.length:=by rw[aT];omega
  have e1:(xs.toList.set (f+j) z).take (f+(j+1))=xs.toList.take (f+j)++[z]:=by
   rw[<- Nat.add_assoc,List.take_succ,List.take_set_of_le (am _),ce hz];rfl
  have e2:(xs.toList.set (f+j) z).drop (f+(j+1)+l.length)=xs.toList.drop (f+j+(l.length+1)):=by
   rw[List.drop_set_of_lt (!1)];congr 1;omega
  rw[e1,e2,aF,aF,aF];rfl
end
section
variable {prog:aO}{w:World}{A:Around}{E:ae->aq->Prop}{s:aq}{a₀:Array Keyed}{κ:SortKind}
theorem JO {x st:SortSt}{Q:PUnit->SortSt->Prop}(h:Q ⟨⟩ x):wpS (model prog w) A E s (set x:StateT SortSt Sem PUnit) Q st:=by
 unfold wpS;rw[StateT.run_set];exact ai ⟨rfl,h⟩
theorem wy {a:Array Keyed}{i j:Nat}{x:Keyed}(h:x∈a.extract i j):x∈a:=by
 obtain⟨k,hk,rfl⟩:=Array.getElem_of_mem h;rw[ck];exact be _
end
open PySem.W (kas_ask kas_item)
theorem JP {α:Type}(d:α){l m:List α}(h:l.Perm m):∃p:List Nat,p.Perm (List.range m.length)/\l=p.map λi=>m.getD i d:=by
 induction h with
 | nil=>exact⟨[],.nil,rfl⟩
 | cons x _ ih =>
  obtain⟨p,hp,e⟩:=ih;refine⟨0::p.map (· + 1),?_,?_⟩
  .rw[ap,cY]
   exact (hp.map _).cons 0
  .rw[ak,bv,e]
   rfl
 | swap x y l =>
  refine⟨1::0::(List.range l.length).map (· + 2),?_,?_⟩
  .rw[ap,ap,cY,cY,ak,bv]
   exact .swap ..
  .have e:(List.range l.length).map (λi=>l.getD i d)=l:=du (!4) λi h1 h2=>by simp[aE,h2]
   rw[ak,ak,bv];show _=_::_::(List.range l.length).map (λi=>l.getD i d);rw[e];rfl
 | trans _ _ Yl Ym =>
  obtain⟨p,hp,e⟩:=Yl;obtain⟨q,hq,e2⟩:=Ym;have hl:=hq.length_eq;subst e2;rw[aj] at hp;refine⟨p.map λi=>q.getD i 0,?_,?_⟩
  .refine List.Perm.trans ?_ hq
   have:=hp.map λi=>q.getD i 0;rwa [show (List.range q.length).map (λi=>q.getD i 0)=q from du (!4) λi h1 h2=>by simp[aE,h2]] at this
  .rw[e,bv]
   refine cy λi hi=>?_;have Fz:i<q.length:=by simpa using hp.mem_iff.mp hi
   simp[aE,Fz]
section
variable {prog:aO}{w:World}{A:Around}{E:ae->aq->Prop}{s:aq}{key:Keyed->Int}
noncomputable def sr (prog:aO)(w:World)(A:Around)(s:aq)(key:Keyed->Int)(κ:SortKind)(x y:Keyed):Prop:=∀C:Bool->aq->Prop,C (decide (key x<key y)) s->ay (model prog w) A (keyLt' κ x.1 y.1) C (λ_ _=>False) s
theorem GW {x y:Keyed}{st:SortSt}{Q:Option Bool->SortSt->Prop}(hc:sr prog w A s key (kindOf st) x y)(h:Q (some (decide (key x<key y))) st):wpS (model prog w) A E s (lt' x y) Q st:=by
 rw[lt'_eq];refine wpS_bind (wpS_get ?_);refine wpS_bind (wpS_lift (wpAny_attempt (bJ (hc (λb s'=>s'=s/\wpS (model prog w) A E s (pure (some b)) Q st) ⟨rfl,wpS_pure h⟩) (λb s' hb=>hb) λ_ _ hF=>hF.elim)))
noncomputable def kA (key:Keyed->Int)(xs:Array Keyed)(i:Nat):Int:=match xs[i]? with | some x=>key x | none=>0
theorem gL (h:i<xs.size):kA key xs i=key xs[i]:=by
 unfold kA;rw[getElem?_pos xs i h]
noncomputable def Ax (left:Bool)(q a:Int):Bool:=if left=true then decide (a<q) else !decide (q<a)
theorem GX (h:a<=b)(hb:Ax left q b=true):Ax left q a=true:=by
 unfold Ax at hb ⊢
 cases left with
 | true =>
  rw[if_pos rfl,decide_eq_true_eq] at hb ⊢;omega
 | false =>
  rw[if_neg (!2),Bool.not_eq_true',decide_eq_false_iff_not] at hb ⊢;omega
theorem kg {left:Bool}{it:Keyed}{arr:Array Keyed}{base n hint:Nat}{st:SortSt}{Q:Option Nat->SortSt->Prop}(hn:base+n<=arr.size)(hh:hint<n)
  (hc:∀x∈arr,sr prog w A s key (kindOf st) it x/\sr prog w A s key (kindOf st) x it) (hs:∀i j,i<=j->j<n->kA key arr (base+i)<=kA key arr (base+j))
  (h:∀k,k<=n->(∀i,i<k->Ax left (key it) (kA key arr (base+i))=true)->(∀i,k<=i->i<n->Ax left (key it) (kA key arr (base+i))=false)->Q (some k) st):wpS (model prog w) A E s (JM left it arr base n hint) Q st:=by
 obtain⟨B,hB⟩:∃B:Nat->Bool,∀i,Ax left (key it) (kA key arr (base+i))=B i:=⟨_,λ_=>rfl⟩
 have an:∀i j,i<=j->j<n->B j=true->B i=true:=λi j h1 h2 h3=>by
  rw[<- hB] at h3 ⊢;exact GX (hs i j h1 h2) h3
 simp only[hB] at h
 have hb:∀{i:Nat} {Q:Option Bool->SortSt->Prop},i<n->Q (some (B i)) st->wpS (model prog w) A E s (elem' arr (base+i) >>= λx=>if left=true then lt' x it else lt' it x >>= λr=>pure (r.map λb=>!b)) Q st:=λ{i Q} hi q=>by
  have ig:base+i<arr.size:=by omega
  refine wpS_bind (eS ig ?_);have e:=hB i;rw[gL ig] at e;unfold Ax at e
  cases left with
  | true =>
   rw[if_pos rfl] at e ⊢;exact GW (hc _ (be _)).2 (e ▸ q)
  | false =>
   rw[if_neg (!2)] at e ⊢;exact wpS_bind (GW (hc _ (be _)).1 (wpS_pure (by rw[bH,e];exact q)))
 have RE:∀{f:Nat->Option (Option Nat) × Nat × Nat->StateT SortSt Sem (ForInStep (Option (Option Nat) × Nat × Nat))} {lo hi:Nat},hi<=n->(∀i,i<lo->i<n->B i=true)->(∀i,hi<=i->i<n->B i=false) ->
   (∀i lo hi (Q:ForInStep (Option (Option Nat) × Nat × Nat)->SortSt->Prop),hi<=n->(hi<=lo->Q (.done (none,lo,hi)) st)->(∀m,lo+(hi - lo) / 2=m->m<hi->(B m=true->Q (.yield (none,m+1,hi)) st)/\(B m=false->Q (.yield (none,lo,m)) st))->wpS (model prog w) A E s (f i (none,lo,hi)) Q st) ->
   wpS (model prog w) A E s (forIn [0:n] ((none,lo,hi):Option (Option Nat) × Nat × Nat) f) (λc eK=>eK=st/\∃lo hi,c=(none,lo,hi)/\hi<=n/\(∀i,i<lo->i<n->B i=true)/\(∀i,hi<=i->i<n->B i=false)/\hi<=lo) st:=λ{f lo hi} h1 h2 h3 hf=>by
  refine wpS_forRange (I:=λi c eK=>eK=st/\∃lo hi,c=(none,lo,hi)/\hi<=n/\(∀i,i<lo->i<n->B i=true)/\(∀i,hi<=i->i<n->B i=false)/\hi<=lo+(n - i)) ?_ ?_ ⟨rfl,_,_,rfl,h1,h2,h3,!1⟩
  .rintro i _ st a1 a2 ⟨rfl,lo,hi,rfl,b1,b2,b3,b4⟩
   refine hf i lo hi _ b1 (λtj=>⟨rfl,_,_,rfl,b1,b2,b3,tj⟩) λm hm ig=>⟨λe=>⟨rfl,_,_,rfl,b1,λj j1 j2=>an j m (!1) (!1) e,b3,!1⟩,λe=>⟨rfl,_,_,rfl,!1,b2,λj j1 j2=>?_,!1⟩⟩
   cases e2:B j with
   | false=>rfl
   | true=>rw[an m j j1 j2 e2] at e;cases e
  .rintro _ st ⟨rfl,lo,hi,rfl,b1,b2,b3,b4⟩
   exact⟨rfl,_,_,rfl,b1,b2,b3,!1⟩
 refine wpS_bind (hb hh ?_);dsimp only
 cases e0:B hint with
 | true =>
  refine wpS_bind (wpS_mono (wpS_forRange (I:=λi c eK=>eK=st/\∃l u,c=(none,l,u)/\hint+l<n/\B (hint+l)=true/\i+1<=u) (Q:=λc eK=>eK=st/\∃l u,c=(none,l,u)/\hint+l<n/\B (hint+l)=true/\(n - hint<=u\/hint+u<n/\B (hint+u)=false)) ?_ ?_ ⟨rfl,_,_,rfl,hh,e0,am _⟩) ?_)
  .rintro i _ st a1 a2 ⟨rfl,l,u,rfl,b1,b2,b3⟩
   dsimp only;refine dW (λ_=>wpS_pure ⟨rfl,_,_,rfl,b1,b2,.inl (!1)⟩) λig=>wpS_bind (hb (!1) ?_);dsimp only
   cases e:B (hint+u) with
   | true=>exact wpS_pure ⟨rfl,_,_,rfl,!1,e,!1⟩
   | false=>exact wpS_pure ⟨rfl,_,_,rfl,b1,b2,.inr ⟨!1,e⟩⟩
  .rintro _ st ⟨rfl,l,u,rfl,b1,b2,b3⟩
   exact⟨rfl,_,_,rfl,b1,b2,.inl (!1)⟩
  .rintro _ st ⟨rfl,l,u,rfl,b1,b2,b3⟩
   have Vd:∀i,hint+min u (n - hint)<=i->i<n->B i=false:=λi i1 i2=>by
    rcases b3 with b3 | ⟨b3,b4⟩
    .omega
    .cases e:B i with
     | false=>rfl
     | true=>rw[an (hint+u) i (!1) i2 e] at b4;cases b4
   dsimp only;refine wpS_bind (wpS_mono (RE (lo:=hint+l+1) (hi:=hint+min u (n - hint)) (!1) (λi i1 i2=>an i _ (!1) b1 b2) Vd ?_) ?_)
   .intro i lo hi Q q0 q1 q2
    dsimp only;refine dW (λ_=>wpS_pure (q1 (!1))) λ_=>wpS_bind (hb (!1) ?_);have:=q2 _ rfl (!1);dsimp only
    cases e:B (lo+(hi - lo) / 2) with
    | true=>exact wpS_pure (this.1 e)
    | false=>exact wpS_pure (this.2 e)
   .rintro _ st ⟨rfl,lo,hi,rfl,c1,c2,c3,c4⟩
    exact wpS_pure (h hi c1 (λj hj=>c2 j (!1) (!1)) c3)
 | false =>
  refine wpS_bind (wpS_mono (wpS_forRange (I:=λi c eK=>eK=st/\∃l u,c=(none,l,u)/\l<=hint/\B (hint - l)=false/\i+1<=u) (Q:=λc eK=>eK=st/\∃l u,c=(none,l,u)/\l<=hint/\B (hint - l)=false/\(hint+1<=u\/u<=hint/\B (hint - u)=true)) ?_ ?_ ⟨rfl,_,_,rfl,bL _,e0,am _⟩) ?_)
  .rintro i _ st a1 a2 ⟨rfl,l,u,rfl,b1,b2,b3⟩
   dsimp only;refine dW (λ_=>wpS_pure ⟨rfl,_,_,rfl,b1,b2,.inl (!1)⟩) λig=>wpS_bind (hb (!1) ?_);dsimp only
   cases e:B (hint - u) with
   | true=>exact wpS_pure ⟨rfl,_,_,rfl,b1,b2,.inr ⟨!1,e⟩⟩
   | false=>exact wpS_pure ⟨rfl,_,_,rfl,!1,e,!1⟩
  .rintro _ st ⟨rfl,l,u,rfl,b1,b2,b3⟩
   exact⟨rfl,_,_,rfl,b1,b2,.inl (!1)⟩
  .rintro _ st ⟨rfl,l,u,rfl,b1,b2,b3⟩
   have P8:∀i,i<hint+1 - min u (hint+1)->i<n->B i=true:=λi i1 i2=>by
    rcases b3 with b3 | ⟨b3,b4⟩
    .omega
    .exact an i (hint - u) (!1) (!1) b4
   have Vd:∀i,hint - l<=i->i<n->B i=false:=λi i1 i2=>by
    cases e:B i with
    | false=>rfl
    | true=>rw[an (hint - l) i i1 i2 e] at b2;cases b2
   dsimp only;refine wpS_bind (wpS_mono (RE (lo:=hint+1 - min u (hint+1)) (hi:=hint - l) (!1) P8 Vd ?_) ?_)
   .intro i lo hi Q q0 q1 q2
    dsimp only;refine dW (λ_=>wpS_pure (q1 (!1))) λ_=>wpS_bind (hb (!1) ?_);have:=q2 _ rfl (!1);dsimp only
    cases e:B (lo+(hi - lo) / 2) with
    | true=>exact wpS_pure (this.1 e)
    | false=>exact wpS_pure (this.2 e)
   .rintro _ st ⟨rfl,lo,hi,rfl,c1,c2,c3,c4⟩
    exact wpS_pure (h hi c1 (λj hj=>c2 j (!1) (!1)) c3)
end
section
variable {prog:aO}{w:World}{A:Around}{E:ae->aq->Prop}{s:aq}{key:Keyed->Int}
theorem Wu {P:Nat->Prop}{ia k:Nat}(h:∀j,j<k->P (ia+j)):∀i,ia<=i->i<ia+k->P i:=λi h1 h2=>Nat.add_sub_cancel' h1 ▸ h (i - ia) (!1)
theorem Wv {P:Nat->Prop}{ia k n:Nat}(h:∀j,k<=j->j<n - ia->P (ia+j)):∀i,ia+k<=i->i<n->P i:=λi h1 h2=>Nat.add_sub_cancel' (show ia<=i by omega) ▸ h (i - ia) (!1) (!1)
noncomputable abbrev Nd (key:Keyed->Int)(l:List Keyed):Prop:=l.Pairwise λx y=>key x<=key y
noncomputable def Sk (key:Keyed->Int)(a:Array Keyed):Prop:=∀i j,i<=j->j<a.size->kA key a i<=kA key a j
theorem gw (h:x∈(a.extract i j).toList):∃k,i<=k/\k<j/\k<a.size/\key x=kA key a k:=by
 obtain⟨k,hk,rfl⟩:=cb h;rw[aT,bi] at hk;refine⟨i+k,!1,!1,!1,?_⟩;rw[bE,ck,gL (!1)]
theorem lQ (h:Sk key a)(i j:Nat):Nd key (a.extract i j).toList:=by
 refine cm.mpr λp q hp hq Z2=>?_;rw[aT,bi] at hp hq;rw[bE,bE,ck,ck];have:=h (i+p) (i+q) (!1) (!1);rwa [gL (!1),gL (!1)] at this
theorem RG (h:Sk key a):Nd key a.toList:=by
 have:=lQ h 0 a.size;rwa [Array.extract_size] at this
theorem CG (out a:Array Keyed)(hi:i<a.size):out++a.extract i (i+1)=out.push a[i]:=cQ.mp (by simp[bw,hi,List.take])
structure tR (key:Keyed->Int) (a b out:Array Keyed) (ia ib:Nat):Prop where
 GY:Nd key out.toList
 ba:∀x∈out.toList,∀i,ia<=i->i<a.size->key x<=kA key a i
 bb:∀x∈out.toList,∀i,ib<=i->i<b.size->key x<=kA key b i
theorem jM (h1:Nd key l)(h2:Nd key m)(h3:∀x∈l,∀y∈m,key x<=key y):Nd key (l++m):=List.pairwise_append.mpr ⟨h1,h2,h3⟩
section
variable {a b out:Array Keyed}{ia ib:Nat}
theorem tR.as (h:tR key a b out ia ib)(sa:Sk key a)(k:Nat)(tj:∀i,ia<=i->i<ia+k->i<a.size->∀j,ib<=j->j<b.size->kA key a i<=kA key b j):tR key a b (out++a.extract ia (ia+k)) (ia+k) ib:=by
 refine⟨?_,λx hx i i1 i2=>?_,λx hx i i1 i2=>?_⟩
 .rw[aP]
  refine jM h.GY (lQ sa _ _) λx hx y hy=>?_;obtain⟨k,k1,k2,k3,e⟩:=gw (key:=key) hy;rw[e];exact h.ba x hx k k1 k3
 all_goals
  rw[aP] at hx;rcases aB.mp hx with hx | hx
 .exact h.ba x hx i (!1) i2
 .obtain⟨k,k1,k2,k3,e⟩:=gw (key:=key) hx
  rw[e];exact sa _ _ (!1) i2
 .exact h.bb x hx i i1 i2
 .obtain⟨k,k1,k2,k3,e⟩:=gw (key:=key) hx
  rw[e];exact tj k k1 k2 k3 i i1 i2
theorem tR.bs (h:tR key a b out ia ib)(sb:Sk key b)(k:Nat)(tj:∀i,ib<=i->i<ib+k->i<b.size->∀j,ia<=j->j<a.size->kA key b i<=kA key a j):tR key a b (out++b.extract ib (ib+k)) ia (ib+k):=by
 have:=tR.as (key:=key) (a:=b) (b:=a) (out:=out) (ia:=ib) (ib:=ia) ⟨h.GY,h.bb,h.ba⟩ sb k tj;exact⟨this.GY,this.bb,this.ba⟩
theorem tR.a1 (h:tR key a b out ia ib)(sa:Sk key a)(hi:ia<a.size)(tj:∀j,ib<=j->j<b.size->kA key a ia<=kA key b j):tR key a b (out.push a[ia]) (ia+1) ib:=by
 have:=h.as sa 1 λi i1 i2 i3 j j1 j2=>by rw[show i=ia by omega];exact tj j j1 j2
 rwa [CG out a hi] at this
theorem tR.b1 (h:tR key a b out ia ib)(sb:Sk key b)(hi:ib<b.size)(tj:∀j,ia<=j->j<a.size->kA key b ib<=kA key a j):tR key a b (out.push b[ib]) ia (ib+1):=by
 have:=h.bs sb 1 λi i1 i2 i3 j j1 j2=>by rw[show i=ib by omega];exact tj j j1 j2
 rwa [CG out b hi] at this
theorem tR.done (h:tR key a b out ia ib)(sa:Sk key a)(sb:Sk key b)(he:a.size<=ia\/b.size<=ib):Nd key (out++a.extract ia a.size++b.extract ib b.size).toList:=by
 rw[aP,aP];refine jM (jM h.GY (lQ sa _ _) λx hx y hy=>?_) (lQ sb _ _) λx hx y hy=>?_
 .obtain⟨k,k1,k2,k3,e⟩:=gw (key:=key) hy
  rw[e];exact h.ba x hx k k1 k3
 .obtain⟨k,k1,k2,k3,e⟩:=gw (key:=key) hy
  rw[e];rcases aB.mp hx with hx | hx
  .exact h.bb x hx k k1 k3
  .obtain⟨j,j1,j2,j3,_⟩:=gw (key:=key) hx
   omega
theorem tR.last (h:tR key a b out ia ib)(sa:Sk key a)(sb:Sk key b)(hl:∀j,j<b.size->kA key b j<=kA key a (a.size - 1))(he:ia+1=a.size):Nd key (out++b.extract ib b.size++a.extract ia a.size).toList:=by
 rw[aP,aP];refine jM (jM h.GY (lQ sb _ _) λx hx y hy=>?_) (lQ sa _ _) λx hx y hy=>?_
 .obtain⟨k,k1,k2,k3,e⟩:=gw (key:=key) hy
  rw[e];exact h.bb x hx k k1 k3
 .obtain⟨k,k1,k2,k3,e⟩:=gw (key:=key) hy
  rw[e];rcases aB.mp hx with hx | hx
  .exact h.ba x hx k k1 k3
  .obtain⟨j,j1,j2,j3,e⟩:=gw (key:=key) hx
   rw[e,show k=a.size - 1 by omega];exact hl j j3
end
theorem GZ:Ax false q a=true↔a<=q:=by unfold Ax;rw[if_neg (!2),Bool.not_eq_true',decide_eq_false_iff_not];omega
theorem Ay:Ax false q a=false↔q<a:=by unfold Ax;rw[if_neg (!2),Bool.not_eq_false',decide_eq_true_eq]
theorem G0:Ax true q a=true↔a<q:=by unfold Ax;rw[if_pos rfl,decide_eq_true_eq]
theorem Az:Ax true q a=false↔q<=a:=by unfold Ax;rw[if_pos rfl,decide_eq_false_iff_not];omega
inductive SU {γ:Type} (key:Keyed->Int) (a b:Array Keyed) (st:SortSt) (i:Nat) (P:Nat->Nat->Prop):Option (Array Keyed) × Array Keyed × Nat × Nat × γ->SortSt->Prop
 | mk (out:Array Keyed) (ia ib:Nat) (z:γ) (g:Nat) (m:Mo a b i out ia ib) (o:tR key a b out ia ib) (p:P ia ib):SU key a b st i P (none,out,ia,ib,z) (nh st g)
inductive SV {γ:Type} (key:Keyed->Int) (a b:Array Keyed) (st:SortSt) (i:Nat):Option (Array Keyed) × Array Keyed × Nat × Nat × γ->SortSt->Prop
 | nx (out:Array Keyed) (ia ib:Nat) (z:γ) (g:Nat) (m:Mo a b i out ia ib) (o:tR key a b out ia ib):SV key a b st i (none,out,ia,ib,z) (nh st g)
 | rt (x out:Array Keyed) (ia ib:Nat) (z:γ) (g:Nat) (h:x.toList.Perm (a.toList++b.toList)) (n:Nd key x.toList):SV key a b st i (some x,out,ia,ib,z) (nh st g)
inductive Ve {γ:Type} (key:Keyed->Int) (a b:Array Keyed) (st:SortSt):Option (Array Keyed) × γ->SortSt->Prop
 | mk (x:Array Keyed) (z:γ) (g:Nat) (h:x.toList.Perm (a.toList++b.toList)) (n:Nd key x.toList):Ve key a b st (some x,z) (nh st g)
noncomputable abbrev JQ:Nat->Nat->Prop:=λ_ _=>True
theorem Ee {a b:Array Keyed}{st:SortSt}{Q:Array Keyed->SortSt->Prop}(ha:1<=a.size)(hb:1<=b.size)(hc:∀x∈a,∀y∈b,sr prog w A s key (kindOf st) x y/\sr prog w A s key (kindOf st) y x)
  (sa:Sk key a) (sb:Sk key b) (H9:kA key b 0<=kA key a 0) (Of:∀j,j<b.size->kA key b j<=kA key a (a.size - 1))
  (h:∀out g,out.toList.Perm (a.toList++b.toList)->Nd key out.toList->Q out (nh st g)):wpS (model prog w) A E s (GU a b) Q st:=by
 refine wpS_bind (wpS_lift (wpAny_rule ⟨rfl,?_⟩));refine wpS_bind (eS (!1) ?_)
 have h0:Lo a b #[b[0]] 0 1:=by
  have:=Lo.b1 (a:=a) (b:=b) (out:=#[]) (ia:=0) (ib:=0) (by simp[Lo]) (!1);simpa using this
 have o0:tR key a b #[b[0]] 0 1:=by
  have:=tR.b1 (key:=key) (a:=a) (b:=b) (out:=#[]) (ia:=0) (ib:=0) ⟨!4,!4,!4⟩ sb (!1) λj _ hj=>bD H9 (sa _ _ (bL _) hj);simpa using this
 dsimp only;refine dW (λe=>wpS_pure (h _ (gallopOf st) h0.done (o0.done sa sb (.inr (by rw[beq_iff_eq] at e;omega))))) λe1=>?_;refine dW (λe=>wpS_pure (h _ (gallopOf st) h0.last (o0.last sa sb Of (by rw[beq_iff_eq] at e;omega)))) λe2=>?_;refine wpS_bind (wpS_get ?_);rw[beq_iff_eq] at e1 e2;refine wpS_bind (wpS_mono (wpS_forRange (I:=λi=>SU key a b st i JQ) (Q:=Ve key a b st) ?step ?fin (.mk _ _ _ _ (gallopOf st) ⟨h0,!1,!1,!1⟩ o0 trivial)) ?post)
 case post =>
  rintro _ _ ⟨x,t,g',hx,hn⟩;exact wpS_pure (h _ _ hx hn)
 case fin =>
  rintro _ _ ⟨out,ia,ib,g,g',m,o,_⟩;have:=m.la;have:=m.lb;have:=m.up;omega
 case step =>
  rintro i _ _ _ hi ⟨out,ia,ib,g,g',m,o,_⟩;dsimp only;refine wpS_bind (wpS_mono (wpS_forRange (I:=λj=>SU key a b st i λia ib=>0<j->i+1<ia+ib) (Q:=SV key a b st (i+1)) ?s1 ?f1 (.mk _ _ _ _ _ m o (!1))) ?p1)
  case f1 =>
   rintro _ _ ⟨out,ia,ib,z,g',m,o,hp⟩;exact .nx _ _ _ _ _ ⟨m.lo,m.la,m.lb,hp (!1)⟩ o
  case s1 =>
   rintro j _ _ _ hj ⟨out,ia,ib,⟨ac,bc⟩,g',⟨lo,la,lb,up⟩,o,hp⟩;dsimp only;have Og:ia<a.size:=by omega
   refine wpS_bind (eS lb (wpS_bind (eS Og (wpS_bind (GW (hc _ (be _) _ (be _)).2 ?_)))));dsimp only;rw[<- gL (key:=key) lb,<- gL (key:=key) Og];refine dW (λhw=>wpS_bind (eS lb ?_)) λhw=>wpS_bind (eS Og ?_)
   .have hw:kA key b ib<kA key a ia:=of_decide_eq_true hw
    have o1:=o.b1 sb lb λj j1 j2=>bD (cw hw) (sa _ _ j1 j2);refine dW (λe=>wpS_pure (.rt _ _ _ _ _ _ (lo.b1 lb).done (o1.done sa sb (.inr (by rw[beq_iff_eq] at e;omega))))) λe=>?_;rw[beq_iff_eq] at e;refine dW (λ_=>wpS_pure (.nx _ _ _ _ _ ⟨lo.b1 lb,la,!1,!1⟩ o1)) λ_=>wpS_pure (.mk _ _ _ _ _ ⟨lo.b1 lb,la,!1,!1⟩ o1 (!1))
   .have hw:kA key a ia<=kA key b ib:=by have:¬ kA key b ib<kA key a ia:=λz=>hw (decide_eq_true z);omega
    have o1:=o.a1 sa Og λj j1 j2=>bD hw (sb _ _ j1 j2);refine dW (λe=>wpS_pure (.rt _ _ _ _ _ _ (lo.a1 Og).last (o1.last sa sb Of (by rw[beq_iff_eq] at e;omega)))) λe=>?_;rw[beq_iff_eq] at e;refine dW (λ_=>wpS_pure (.nx _ _ _ _ _ ⟨lo.a1 Og,!1,!1,!1⟩ o1)) λ_=>wpS_pure (.mk _ _ _ _ _ ⟨lo.a1 Og,!1,!1,!1⟩ o1 (!1))
  case p1 =>
   rintro _ _ (⟨out,ia,ib,⟨ac,bc⟩,g',m,o⟩ | ⟨x,out,ia,ib,t,g',hx,hn⟩)
   .dsimp only
    refine wpS_bind (wpS_lift (wpAny_rule ⟨rfl,?_⟩));refine wpS_bind (wpS_mono (wpS_forRange (I:=λ_=>SU key a b st (i+1) JQ) (Q:=SV key a b st (i+1)) ?s2 ?f2 (.mk _ _ _ _ _ m o trivial)) ?p2)
    case f2 =>
     rintro _ _ ⟨out,ia,ib,z,g',m,o,_⟩;exact .nx _ _ _ _ _ m o
    case p2 =>
     rintro _ _ (⟨out,ia,ib,⟨mg,ac,bc⟩,g',m,o⟩ | ⟨x,out,ia,ib,t,g',hx,hn⟩)
     .exact wpS_bind (Ed (wpS_pure (.mk _ _ _ _ _ m o trivial)))
     .exact wpS_pure (.mk _ _ _ hx hn)
    case s2 =>
     rintro j _ _ _ hj ⟨out,ia,ib,⟨mg,ac,bc⟩,g',m,o,_⟩;dsimp only;refine dW (λ_=>wpS_bind (Ed ?_)) λ_=>wpS_bind (Ed ?_)
     all_goals
      have hl:=m.la;have Lp:=m.lb;refine wpS_bind (eS m.lb (wpS_bind (kg (key:=key) (!1) (!1) (λx hx=>⟨(hc x hx _ (be _)).2,(hc x hx _ (be _)).1⟩) (λi j h1 h2=>sa _ _ (!1) (!1)) λk hk Lq DC=>?_)));rw[<- gL (key:=key) m.lb] at Lq DC;have g1:=Wu (P:=λi=>kA key a i<=kA key b ib) λj hj=>GZ.mp (Lq j hj);have g2:=Wv (P:=λi=>kA key b ib<=kA key a i) λj h1 h2=>cw (Ay.mp (DC j h1 h2));have oA:=o.as sa k λi i1 i2 i3 j j1 j2=>bD (g1 i i1 i2) (sb _ _ j1 j2);dsimp only;refine dW (λ_=>dW (λe=>wpS_pure (.rt _ _ _ _ _ _ (m.lo.as k).last (oA.last sa sb Of (by rw[beq_iff_eq] at e;omega)))) λe=>dW (λe'=>wpS_pure (.rt _ _ _ _ _ _ (m.lo.as k).done (oA.done sa sb (.inl (by rw[beq_iff_eq] at e';omega))))) λe'=>?_) λG1=>?_
      all_goals first
       | (replace m:=m.as hk e e';replace o:=oA)
       | (have G1:k=0:=(!1);subst G1;rw[Nat.add_zero] at g2)
      all_goals
       have Lp:=m.lb;have oB:=o.b1 sb m.lb λj j1 j2=>g2 j j1 j2;refine wpS_bind (eS m.lb (dW (λe=>wpS_pure (.rt _ _ _ _ _ _ (m.lo.b1 m.lb).done (oB.done sa sb (.inr (by rw[beq_iff_eq] at e;omega))))) λe=>?_));replace m:=m.b1 e;replace o:=oB;have Lp:=m.lb;have Yn:=m.lt;refine wpS_bind (eS m.lt (wpS_bind (kg (key:=key) (!1) (!1) (λx hx=>hc _ (be _) x hx) (λi j h1 h2=>sb _ _ (!1) (!1)) λk' D4 RH RI=>?_)));rw[<- gL (key:=key) m.lt] at RH RI;have q3:=Wu (P:=λi=>kA key b i<_) λj hj=>G0.mp (RH j hj);have oC:=o.bs sb k' λi i1 i2 i3 j j1 j2=>bD (cw (q3 i i1 i2)) (sa _ _ j1 j2);have g3:=Wv (P:=λi=>_<=kA key b i) λj h1 h2=>Az.mp (RI j h1 h2);dsimp only;refine dW (λ_=>dW (λe=>wpS_pure (.rt _ _ _ _ _ _ (m.lo.bs k').done (oC.done sa sb (.inr (by rw[beq_iff_eq] at e;omega))))) λe=>?_) λG1=>?_
       all_goals first
        | (replace m:=m.bs D4 e;replace o:=oC)
        | (have G1:k'=0:=(!1);subst G1;rw[Nat.add_zero] at g3)
       all_goals
        have Yn:=m.lt;have oD:=o.a1 sa m.lt λj j1 j2=>g3 j j1 j2;exact wpS_bind (eS m.lt (dW (λe=>wpS_pure (.rt _ _ _ _ _ _ (m.lo.a1 m.lt).last (oD.last sa sb Of (by rw[beq_iff_eq] at e;omega)))) λe=>dW (λ_=>wpS_pure (.nx _ _ _ _ _ (m.a1 e) oD)) λ_=>wpS_pure (.mk _ _ _ _ _ (m.a1 e) oD trivial)))
   .exact wpS_pure (.mk _ _ _ hx hn)
end
section
variable {prog:aO}{w:World}{A:Around}{E:ae->aq->Prop}{s:aq}{key:Keyed->Int}
structure tS (key:Keyed->Int) (a b out:Array Keyed) (na nb:Nat):Prop where
 GY:Nd key out.toList.reverse
 ba:∀x∈out.toList,∀i,i<na->i<a.size->kA key a i<=key x
 bb:∀x∈out.toList,∀i,i<nb->i<b.size->kA key b i<=key x
section
theorem tS.as (h:tS key a b out na nb)(sa:Sk key a)(hk:k<=na)(tj:∀i,k<=i->i<na->i<a.size->∀j,j<nb->j<b.size->kA key b j<=kA key a i):tS key a b (out++(a.extract k na).reverse) k nb:=by
 refine⟨?_,λx hx i i1 i2=>?_,λx hx i i1 i2=>?_⟩
 .rw[aP,bU,List.reverse_append,List.reverse_reverse]
  refine jM (lQ sa _ _) h.GY λx hx y hy=>?_;obtain⟨k,k1,k2,k3,e⟩:=gw (key:=key) hx;rw[e];exact h.ba y (c6.mp hy) k k2 k3
 all_goals
  rw[aP,bU] at hx;rcases aB.mp hx with hx | hx
 .exact h.ba x hx i (!1) i2
 .obtain⟨k,k1,k2,k3,e⟩:=gw (key:=key) (c6.mp hx)
  rw[e];exact sa _ _ (!1) k3
 .exact h.bb x hx i i1 i2
 .obtain⟨k,k1,k2,k3,e⟩:=gw (key:=key) (c6.mp hx)
  rw[e];exact tj k k1 k2 k3 i i1 i2
theorem tS.bs (h:tS key a b out na nb)(sb:Sk key b)(hk:k<=nb)(tj:∀i,k<=i->i<nb->i<b.size->∀j,j<na->j<a.size->kA key a j<=kA key b i):tS key a b (out++(b.extract k nb).reverse) na k:=by
 have:=tS.as (key:=key) (a:=b) (b:=a) (out:=out) (na:=nb) (nb:=na) ⟨h.GY,h.bb,h.ba⟩ sb hk tj;exact⟨this.GY,this.bb,this.ba⟩
theorem G2 (out a:Array Keyed)(h0:0<n)(h:n - 1<a.size):out++(a.extract (n - 1) n).reverse=out.push a[n - 1]:=by
 have e:=Aw a h;rw[show n - 1+1=n by omega] at e;rw[e];simp
theorem tS.a1 (h:tS key a b out na nb)(sa:Sk key a)(h0:0<na)(hi:na - 1<a.size)(tj:∀j,j<nb->j<b.size->kA key b j<=kA key a (na - 1)):tS key a b (out.push a[na - 1]) (na - 1) nb:=by
 have:=h.as sa (Nat.sub_le na 1) λi i1 i2 i3 j j1 j2=>by rw[show i=na - 1 by omega];exact tj j j1 j2
 rwa [G2 out a h0 hi] at this
theorem tS.b1 (h:tS key a b out na nb)(sb:Sk key b)(h0:0<nb)(hi:nb - 1<b.size)(tj:∀j,j<na->j<a.size->kA key a j<=kA key b (nb - 1)):tS key a b (out.push b[nb - 1]) na (nb - 1):=by
 have:=h.bs sb (Nat.sub_le nb 1) λi i1 i2 i3 j j1 j2=>by rw[show i=nb - 1 by omega];exact tj j j1 j2
 rwa [G2 out b h0 hi] at this
theorem tS.done (h:tS key a b out na nb)(sa:Sk key a)(sb:Sk key b)(he:na=0\/nb=0):Nd key (a.extract 0 na++b.extract 0 nb++out.reverse).toList:=by
 rw[aP,aP,bU];refine jM (jM (lQ sa _ _) (lQ sb _ _) λx hx y hy=>?_) h.GY λx hx y hy=>?_
 .obtain⟨k,k1,k2,k3,e⟩:=gw (key:=key) hx
  obtain⟨j,j1,j2,j3,_⟩:=gw (key:=key) hy;omega
 .have hy:=c6.mp hy
  rcases aB.mp hx with hx | hx
  .obtain⟨k,k1,k2,k3,e⟩:=gw (key:=key) hx
   rw[e];exact h.ba y hy k k2 k3
  .obtain⟨k,k1,k2,k3,e⟩:=gw (key:=key) hx
   rw[e];exact h.bb y hy k k2 k3
theorem tS.first (h:tS key a b out na nb)(sa:Sk key a)(sb:Sk key b)(H9:kA key b 0<=kA key a 0)(he:nb<=1):Nd key (b.extract 0 nb++a.extract 0 na++out.reverse).toList:=by
 rw[aP,aP,bU];refine jM (jM (lQ sb _ _) (lQ sa _ _) λx hx y hy=>?_) h.GY λx hx y hy=>?_
 .obtain⟨k,k1,k2,k3,e⟩:=gw (key:=key) hx
  obtain⟨j,j1,j2,j3,e'⟩:=gw (key:=key) hy;rw[e,e',show k=0 by omega];exact bD H9 (sa _ _ (bL _) j3)
 .have hy:=c6.mp hy
  rcases aB.mp hx with hx | hx
  .obtain⟨k,k1,k2,k3,e⟩:=gw (key:=key) hx
   rw[e];exact h.bb y hy k k2 k3
  .obtain⟨k,k1,k2,k3,e⟩:=gw (key:=key) hx
   rw[e];exact h.ba y hy k k2 k3
end
inductive SW {γ:Type} (key:Keyed->Int) (a b:Array Keyed) (st:SortSt) (i:Nat) (P:Nat->Nat->Prop):Option (Array Keyed) × Nat × Nat × Array Keyed × γ->SortSt->Prop
 | mk (na nb:Nat) (out:Array Keyed) (z:γ) (g:Nat) (m:Mh a b i out na nb) (o:tS key a b out na nb) (p:P na nb):SW key a b st i P (none,na,nb,out,z) (nh st g)
inductive SX {γ:Type} (key:Keyed->Int) (a b:Array Keyed) (st:SortSt) (i:Nat):Option (Array Keyed) × Nat × Nat × Array Keyed × γ->SortSt->Prop
 | nx (na nb:Nat) (out:Array Keyed) (z:γ) (g:Nat) (m:Mh a b i out na nb) (o:tS key a b out na nb):SX key a b st i (none,na,nb,out,z) (nh st g)
 | rt (x:Array Keyed) (na nb:Nat) (out:Array Keyed) (z:γ) (g:Nat) (h:x.toList.Perm (a.toList++b.toList)) (n:Nd key x.toList):SX key a b st i (some x,na,nb,out,z) (nh st g)
theorem Ef {a b:Array Keyed}{st:SortSt}{Q:Array Keyed->SortSt->Prop}(ha:1<=a.size)(hb:1<=b.size)(hc:∀x∈a,∀y∈b,sr prog w A s key (kindOf st) x y/\sr prog w A s key (kindOf st) y x)
  (sa:Sk key a) (sb:Sk key b) (H9:kA key b 0<=kA key a 0) (Of:∀j,j<b.size->kA key b j<=kA key a (a.size - 1))
  (h:∀out g,out.toList.Perm (a.toList++b.toList)->Nd key out.toList->Q out (nh st g)):wpS (model prog w) A E s (GV a b) Q st:=by
 refine wpS_bind (wpS_lift (wpAny_rule ⟨rfl,?_⟩));refine wpS_bind (eS (!1) ?_)
 have h0:Hi a b #[a[a.size - 1]] (a.size - 1) b.size:=by
  have:=Hi.a1 (a:=a) (b:=b) (out:=#[]) (na:=a.size) (nb:=b.size) (by simp[Hi,bC]) (!1) (!1);simpa using this
 have o0:tS key a b #[a[a.size - 1]] (a.size - 1) b.size:=by
  have:=tS.a1 (key:=key) (a:=a) (b:=b) (out:=#[]) (na:=a.size) (nb:=b.size) ⟨!4,!4,!4⟩ sa (!1) (!1) λj j1 _=>Of j j1;simpa using this
 dsimp only;refine dW (λe=>wpS_pure (h _ (gallopOf st) h0.done (o0.done sa sb (.inl (by rw[beq_iff_eq] at e;omega))))) λe1=>?_;refine dW (λe=>wpS_pure (h _ (gallopOf st) h0.first (o0.first sa sb H9 (by rw[beq_iff_eq] at e;omega)))) λe2=>?_;refine wpS_bind (wpS_get ?_);rw[beq_iff_eq] at e1 e2;refine wpS_bind (wpS_mono (wpS_forRange (I:=λi=>SW key a b st i JQ) (Q:=Ve key a b st) ?step ?fin (.mk _ _ _ _ (gallopOf st) ⟨h0,!1,!1,!1,!1,!1⟩ o0 trivial)) ?post)
 case post =>
  rintro _ _ ⟨x,t,g',hx,hn⟩;exact wpS_pure (h _ _ hx hn)
 case fin =>
  rintro _ _ ⟨na,nb,out,g,g',m,o,_⟩;have:=m.up;omega
 case step =>
  rintro i _ _ _ hi ⟨na,nb,out,g,g',m,o,_⟩;dsimp only;refine wpS_bind (wpS_mono (wpS_forRange (I:=λj=>SW key a b st i λna nb=>0<j->i+1+na+nb<a.size+b.size) (Q:=SX key a b st (i+1)) ?s1 ?f1 (.mk _ _ _ _ _ m o (!1))) ?p1)
  case f1 =>
   rintro _ _ ⟨na,nb,out,z,g',m,o,hp⟩;exact .nx _ _ _ _ _ ⟨m.hi,m.la,m.lb,m.ua,m.ub,hp (!1)⟩ o
  case s1 =>
   rintro j _ _ _ hj ⟨na,nb,out,⟨ac,bc⟩,g',m,o,hp⟩;dsimp only;have:=m.la;have:=m.lb;have:=m.up;refine wpS_bind (eS m.xb (wpS_bind (eS m.xa (wpS_bind (GW (hc _ (be _) _ (be _)).2 ?_)))));dsimp only;rw[<- gL (key:=key) m.xb,<- gL (key:=key) m.xa];refine dW (λhw=>wpS_bind (eS m.xa ?_)) λhw=>wpS_bind (eS m.xb ?_)
   .have hw:kA key b (nb - 1)<kA key a (na - 1):=of_decide_eq_true hw
    have o1:=o.a1 sa m.la m.xa λj j1 j2=>bD (sb _ _ (!1) m.xb) (cw hw);refine dW (λe=>wpS_pure (.rt _ _ _ _ _ _ (m.hi.a1 m.la m.xa).done (o1.done sa sb (.inl (by rw[beq_iff_eq] at e;omega))))) λe=>?_;have m1:=m.a1 e;refine dW (λ_=>wpS_pure (.nx _ _ _ _ _ ⟨m1.hi,m1.la,m1.lb,m1.ua,m1.ub,!1⟩ o1)) λ_=>wpS_pure (.mk _ _ _ _ _ m1 o1 (!1))
   .have hw:kA key a (na - 1)<=kA key b (nb - 1):=by have:¬ kA key b (nb - 1)<kA key a (na - 1):=λz=>hw (decide_eq_true z);omega
    have o1:=o.b1 sb (!1) m.xb λj j1 j2=>bD (sa _ _ (!1) m.xa) hw;refine dW (λe=>wpS_pure (.rt _ _ _ _ _ _ (m.hi.b1 (!1) m.xb).first (o1.first sa sb H9 (by rw[beq_iff_eq] at e;omega)))) λe=>?_;have m1:=m.b1 e;refine dW (λ_=>wpS_pure (.nx _ _ _ _ _ ⟨m1.hi,m1.la,m1.lb,m1.ua,m1.ub,!1⟩ o1)) λ_=>wpS_pure (.mk _ _ _ _ _ m1 o1 (!1))
  case p1 =>
   rintro _ _ (⟨na,nb,out,⟨ac,bc⟩,g',m,o⟩ | ⟨x,na,nb,out,t,g',hx,hn⟩)
   .dsimp only
    refine wpS_bind (wpS_lift (wpAny_rule ⟨rfl,?_⟩));refine wpS_bind (wpS_mono (wpS_forRange (I:=λ_=>SW key a b st (i+1) JQ) (Q:=SX key a b st (i+1)) ?s2 ?f2 (.mk _ _ _ _ _ m o trivial)) ?p2)
    case f2 =>
     rintro _ _ ⟨na,nb,out,z,g',m,o,_⟩;exact .nx _ _ _ _ _ m o
    case p2 =>
     rintro _ _ (⟨na,nb,out,⟨mg,ac,bc⟩,g',m,o⟩ | ⟨x,na,nb,out,t,g',hx,hn⟩)
     .exact wpS_bind (Ed (wpS_pure (.mk _ _ _ _ _ m o trivial)))
     .exact wpS_pure (.mk _ _ _ hx hn)
    case s2 =>
     rintro j _ _ _ hj ⟨na,nb,out,⟨mg,ac,bc⟩,g',m,o,_⟩;dsimp only;refine dW (λ_=>wpS_bind (Ed ?_)) λ_=>wpS_bind (Ed ?_)
     all_goals
      have h1:=m.la;have h2:=m.ua;have h5:=m.ub;refine wpS_bind (eS m.xb (wpS_bind (kg (key:=key) (!1) (!1) (λx hx=>⟨(hc x hx _ (be _)).2,(hc x hx _ (be _)).1⟩) (λi j q1 q2=>sa _ _ (!1) (!1)) λk hk Lq DC=>?_)));rw[<- gL (key:=key) m.xb] at Lq DC
      have g1:∀i,i<k->kA key a i<=kA key b (nb - 1):=λi i1=>by
       have:=GZ.mp (Lq i i1);rwa [cW] at this
      have g2:∀i,k<=i->i<na->kA key b (nb - 1)<=kA key a i:=λi i1 i2=>by
       have:=Ay.mp (DC i i1 i2);rw[cW] at this;omega
      have Yo:=m.xb;have oA:=o.as sa hk λi i1 i2 i3 j j1 j2=>bD (sb _ _ (!1) Yo) (g2 i i1 i2);dsimp only;refine dW (λ_=>dW (λe=>wpS_pure (.rt _ _ _ _ _ _ (m.hi.as hk).done (oA.done sa sb (.inl (by rw[beq_iff_eq] at e;omega))))) λe=>?_) λG1=>?_
      all_goals first
       | (replace m:=m.as hk e;replace o:=oA)
       | (have G1:k=na:=(!1);subst G1)
      all_goals
       have h3:=m.lb;have oB:=o.b1 sb (!1) m.xb λj j1 j2=>g1 j j1;refine wpS_bind (eS m.xb (dW (λe=>wpS_pure (.rt _ _ _ _ _ _ (m.hi.b1 (!1) m.xb).first (oB.first sa sb H9 (by rw[beq_iff_eq] at e;omega)))) λe=>?_));replace m:=m.b1 e;replace o:=oB;have h4:=m.lb;have h5:=m.ub;have h6:=m.la;have h7:=m.ua;refine wpS_bind (eS m.xa (wpS_bind (kg (key:=key) (!1) (!1) (λx hx=>hc _ (be _) x hx) (λi j q1 q2=>sb _ _ (!1) (!1)) λk' D4 RH RI=>?_)));rw[<- gL (key:=key) m.xa] at RH RI
       have g3:∀i,i<k'->kA key b i<=_:=λi i1=>by
        have:=G0.mp (RH i i1);rw[cW] at this;exact cw this
       have Yp:=m.xa
       have oC:=o.bs sb D4 λi i1 i2 i3 j j1 j2=>by
        have:=Az.mp (RI i i1 i2);rw[cW] at this;exact bD (sa _ _ (!1) Yp) this
       dsimp only;refine dW (λ_=>dW (λe=>wpS_pure (.rt _ _ _ _ _ _ (m.hi.bs D4).first (oC.first sa sb H9 (by rw[beq_iff_eq] at e;omega)))) λe=>dW (λe'=>wpS_pure (.rt _ _ _ _ _ _ (m.hi.bs D4).done (oC.done sa sb (.inr (by rw[beq_iff_eq] at e';omega))))) λe'=>?_) λG1=>?_
       all_goals first
        | (replace m:=m.bs D4 e e';replace o:=oC)
        | (have G1:k'=_:=Nat.le_antisymm D4 (!1);subst G1)
       all_goals
        have oD:=o.a1 sa m.la m.xa λj j1 j2=>g3 j j1;exact wpS_bind (eS m.xa (dW (λe=>wpS_pure (.rt _ _ _ _ _ _ (m.hi.a1 m.la m.xa).done (oD.done sa sb (.inl (by rw[beq_iff_eq] at e;omega))))) λe=>dW (λ_=>wpS_pure (.nx _ _ _ _ _ (m.a1 e) oD)) λ_=>wpS_pure (.mk _ _ _ _ _ (m.a1 e) oD trivial)))
   .exact wpS_pure (.mk _ _ _ hx hn)
end
section
variable {prog:aO}{w:World}{A:Around}{E:ae->aq->Prop}{s:aq}{a₀:Array Keyed}{κ:SortKind}{key:Keyed->Int}
noncomputable def Sg (key:Keyed->Int)(xs:Array Keyed)(lo hi:Nat):Prop:=∀i j,lo<=i->i<=j->j<hi->kA key xs i<=kA key xs j
noncomputable def Dg (key:Keyed->Int)(xs:Array Keyed)(lo hi:Nat):Prop:=∀i j,lo<=i->i<=j->j<hi->kA key xs j<=kA key xs i
theorem Sg.more {xs:Array Keyed}{lo m:Nat}(h:Sg key xs lo m)(h1:lo<m)(h2:kA key xs (m - 1)<=kA key xs m):Sg key xs lo (m+1):=λi j i1 i2 i3=>by
 by_cases hj:j=m
 .subst hj
  by_cases hi:i=j
  .subst hi;exact dc _
  .exact bD (h i (j - 1) i1 (!1) (!1)) h2
 .exact h i j i1 i2 (!1)
theorem Dg.more {xs:Array Keyed}{lo m:Nat}(h:Dg key xs lo m)(h1:lo<m)(h2:kA key xs m<=kA key xs (m - 1)):Dg key xs lo (m+1):=λi j i1 i2 i3=>by
 by_cases hj:j=m
 .subst hj
  by_cases hi:i=j
  .subst hi;exact dc _
  .exact bD h2 (h i (j - 1) i1 (!1) (!1))
 .exact h i j i1 i2 (!1)
theorem Sg.one (xs:Array Keyed)(lo:Nat):Sg key xs lo (lo+1):=λi j i1 i2 i3=>by rw[show i=j by omega];exact dc _
theorem Sg.AA {xs ys:Array Keyed}{lo hi:Nat}(h:Sg key xs lo hi)(e:∀i,lo<=i->i<hi->kA key ys i=kA key xs i):Sg key ys lo hi:=λi j i1 i2 i3=>by
 rw[e i i1 (!1),e j (!1) i3];exact h i j i1 i2 i3
theorem Dg.AA {xs ys:Array Keyed}{lo hi:Nat}(h:Dg key xs lo hi)(e:∀i,lo<=i->i<hi->kA key ys i=kA key xs i):Dg key ys lo hi:=λi j i1 i2 i3=>by
 rw[e i i1 (!1),e j (!1) i3];exact h i j i1 i2 i3
theorem Ch.within:∀{l:List Run} {lo hi:Nat},Ch lo l hi->lo<=hi/\∀r∈l,lo<=r.1/\r.1+r.2.1<=hi
 | [],lo,hi,h=>⟨dA h,!4⟩
 | (s,n,p)::l,lo,hi,h=>by
  obtain⟨rfl,h1,h2⟩:=h;obtain⟨h3,h4⟩:=Ch.within h2;refine⟨!1,λr hr=>?_⟩;rcases au.mp hr with rfl | hr
  .exact⟨am _,h3⟩
  .have:=h4 r hr
   omega
structure So (key:Keyed->Int) (a₀:Array Keyed) (κ:SortKind) (hi:Nat) (st:SortSt):Prop where
 sb:Sb a₀ κ hi st
 seg:∀r∈(pendingOf st).toList,Sg key (arrOf st) r.1 (r.1+r.2.1)
theorem So.arr {st:SortSt}{hi:Nat}(h:So key a₀ κ hi st){xs:Array Keyed}(hp:xs.Perm (arrOf st))(e:∀i,i<hi->kA key xs i=kA key (arrOf st) i):So key a₀ κ hi (setArr st xs) :=
 ⟨h.sb.arr hp,λr hr=>(h.seg r hr).AA λi i1 i2=>e i (by have:=(Ch.within h.sb.ch).2 r hr;omega)⟩
noncomputable def Call3 (prog:aO)(w:World)(A:Around)(s:aq)(key:Keyed->Int)(κ:SortKind)(a₀:Array Keyed):Prop:=∀x∈a₀,∀y∈a₀,sr prog w A s key κ x y
theorem So.cmp {st:SortSt}{hi:Nat}(h:So key a₀ κ hi st)(hc:Call3 prog w A s key κ a₀){x y:Keyed}(hx:x∈arrOf st)(hy:y∈arrOf st):sr prog w A s key (kindOf st) x y:=by
 rw[h.sb.kind];exact hc x (h.sb.perm.mem_iff.mp hx) y (h.sb.perm.mem_iff.mp hy)
theorem So.lt {st:SortSt}{hi i j:Nat}{Q:Option Bool->SortSt->Prop}(h:So key a₀ κ hi st)(hc:Call3 prog w A s key κ a₀)(hi:i<a₀.size)(hj:j<a₀.size)(q:Q (some (decide (kA key (arrOf st) i<kA key (arrOf st) j))) st):wpS (model prog w) A E s (ltAt' i j) Q st:=by
 rw[ltAt'_eq];have e:=h.sb.size;rw[gL (!1),gL (!1)] at q;refine wpS_bind (wpS_get (wpS_bind (eS (!1) (wpS_bind (eS (!1) (GW ?_ q))))));exact h.cmp hc (be _) (be _)
theorem G3 {α:Type}{r:Option α}{lo n lq hi:Nat}{st:SortSt}{f:Nat->Option α × Nat->StateT SortSt Sem (ForInStep (Option α × Nat))}{Q:Option α × Nat->SortSt->Prop}(h:So key a₀ κ hi st)(hc:Call3 prog w A s key κ a₀)(hl:lo+lq<=a₀.size)(h1:1<=n)(hn:n<=lq)(hs:Sg key (arrOf st) lo (lo+n))
  (hf:∀i m,f i (none,m)=ltAt' (lo+m) (lo+m - 1) >>= λx=>match x with | some b=>if b=true then pure (ForInStep.done (none,m)) else pure (ForInStep.yield (none,m+1)) | none=>pure (ForInStep.done (r,m)))
  (q:∀m,n<=m->m<=lq->Sg key (arrOf st) lo (lo+m)->(m<lq->kA key (arrOf st) (lo+m)<kA key (arrOf st) (lo+m - 1))->Q (none,m) st):wpS (model prog w) A E s (forIn [n:lq] ((none,n):Option α × Nat) f) Q st:=by
 refine wpS_forRange (I:=λx c eK=>eK=st/\c=(none,x)/\Sg key (arrOf st) lo (lo+x)) ?_ ?_ ⟨rfl,rfl,hs⟩
 .rintro x _ st a1 a2 ⟨rfl,rfl,hx⟩
  rw[hf];refine wpS_bind (h.lt hc (!1) (!1) ?_);by_cases ig:kA key (arrOf st) (lo+x)<kA key (arrOf st) (lo+x - 1)
  .rw[decide_eq_true ig]
   exact wpS_pure (q _ a1 (!1) hx λ_=>ig)
  .rw[decide_eq_false ig]
   exact wpS_pure ⟨rfl,rfl,hx.more (!1) (!1)⟩
 .rintro _ st ⟨rfl,rfl,hx⟩
  rw[show max n lq=lq by omega] at hx ⊢;exact q _ hn (am _) hx λz=>absurd z (bt _)
theorem yu {i j lo:Nat}{st:SortSt}{Q:Unit->SortSt->Prop}(h:So key a₀ κ lo st)(hi:lo<=i)(hj:j<=a₀.size)(q:∀eK,So key a₀ κ lo eK->(∀k,kA key (arrOf eK) k=if i<=k/\k<j then kA key (arrOf st) (i+j - 1 - k) else kA key (arrOf st) k)->Q () eK):wpS (model prog w) A E s (reverseSlice' i j) Q st:=by
 rw[reverseSlice'_eq]
 have e:∀k,kA key (mirror (arrOf st) i j ((j - i) / 2)) k=if i<=k/\k<j then kA key (arrOf st) (i+j - 1 - k) else kA key (arrOf st) k:=λk=>by
  have:=getElem?_mirror_all (xs:=arrOf st) (i:=i) (j:=j) (by rw[h.sb.size];exact hj) k;unfold kA;rw[this];by_cases hk:i<=k/\k<j
  .rw[if_pos hk,if_pos hk]
  .rw[if_neg hk,if_neg hk]
 refine wpS_modify (q _ (h.arr (mirror_perm _ _ _ _) λk hk=>?_) e);rw[e,if_neg (!1)]
theorem AB {lo lq:Nat}{st:SortSt}{Q:Option Nat->SortSt->Prop}(h:So key a₀ κ lo st)(hc:Call3 prog w A s key κ a₀)(hl:lo+lq<=a₀.size)(h1:1<=lq)
  (q:∀m eK,So key a₀ κ lo eK->1<=m->m<=lq->Sg key (arrOf eK) lo (lo+m)->Q (some m) eK):wpS (model prog w) A E s (countRun' lo lq) Q st:=by
 rw[countRun'_eq];refine wpS_bind (G3 (r:=some none) h hc hl (am 1) h1 (Sg.one _ _) (λi m=>bind_congr λx=>by cases x<;>rfl) λm m1 m2 hs Vf=>?_);dsimp only;refine dW (λ_=>wpS_pure (q _ _ h m1 m2 hs)) λe=>?_;rw[beq_iff_eq] at e;have Vf:=Vf (!1)
 have go:∀eK,So key a₀ κ lo eK->Dg key (arrOf eK) lo (lo+(m+1))->∀{f:Nat->Option (Option Nat) × Nat × Nat->StateT SortSt Sem (ForInStep (Option (Option Nat) × Nat × Nat))},
   (∀x wW eK (Q:ForInStep (Option (Option Nat) × Nat × Nat)->SortSt->Prop),So key a₀ κ lo eK->m+1<=x->x<lq->wW<x->(∀i,lo+x - (wW+1)<=i->i<lo+x->kA key (arrOf eK) i=kA key (arrOf eK) (lo+x - 1)) ->
    (kA key (arrOf eK) (lo+x)<kA key (arrOf eK) (lo+x - 1)->∀JR,So key a₀ κ lo JR->(∀k,kA key (arrOf JR) k=kA key (arrOf eK) k)->Q (.yield (none,x+1,0)) JR) ->
    (kA key (arrOf eK) (lo+x - 1)<kA key (arrOf eK) (lo+x)->Q (.done (none,x,wW)) eK)->(kA key (arrOf eK) (lo+x)=kA key (arrOf eK) (lo+x - 1)->Q (.yield (none,x+1,wW+1)) eK)->wpS (model prog w) A E s (f x (none,x,wW)) Q eK) ->
   wpS (model prog w) A E s (forIn [m+1:lq] ((none,m+1,0):Option (Option Nat) × Nat × Nat) f) (λc eK=>∃x wW,c=(none,x,wW)/\m+1<=x/\x<=lq/\So key a₀ κ lo eK/\Dg key (arrOf eK) lo (lo+x)/\wW<x/\∀i,lo+x - (wW+1)<=i->i<lo+x->kA key (arrOf eK) i=kA key (arrOf eK) (lo+x - 1)) eK:=λeK h hd f hf=>by
  refine wpS_forRange (I:=λx c eK=>∃wW,c=(none,x,wW)/\m+1<=x/\x<=lq/\So key a₀ κ lo eK/\Dg key (arrOf eK) lo (lo+x)/\wW<x/\∀i,lo+x - (wW+1)<=i->i<lo+x->kA key (arrOf eK) i=kA key (arrOf eK) (lo+x - 1)) ?_ ?_ ⟨_,rfl,am _,!1,h,hd,!1,λi i1 i2=>by rw[show i=lo+(m+1) - 1 by omega]⟩
  .rintro x _ st a1 a2 ⟨wW,rfl,b1,b2,h,hd,b3,b4⟩
   refine hf x wW st _ h b1 a2 b3 b4 (λig JR h2 e2=>⟨_,rfl,!1,!1,h2,?_,!1,λi i1 i2=>by rw[show i=lo+(x+1) - 1 by omega]⟩) (λig=>⟨_,_,rfl,b1,b2,h,hd,b3,b4⟩) λYq=>⟨_,rfl,!1,!1,h,Dg.more (m:=lo+x) hd (!1) (!1),!1,λi i1 i2=>?_⟩
   .refine Dg.AA (Dg.more (m:=lo+x) hd (!1) (!1)) λi _ _=>e2 i
   .by_cases hi:i=lo+x
    .rw[hi];rfl
    .rw[b4 i (!1) (!1),<- Yq];rfl
  .rintro _ st ⟨wW,rfl,b1,b2,h,hd,b3,b4⟩
   rw[show max (m+1) lq=lq by omega] at *;exact⟨_,_,rfl,b1,b2,h,hd,b3,b4⟩
 have hD:∀eK,So key a₀ κ lo eK->(∀k,kA key (arrOf eK) k=kA key (arrOf st) k)->(m > 1->¬ kA key (arrOf st) lo<kA key (arrOf st) (lo+m - 1))->Dg key (arrOf eK) lo (lo+(m+1)):=λeK _ e2 hr=>by
  refine Dg.AA (Dg.more (m:=lo+m) (λi j i1 i2 i3=>?_) (!1) (cw Vf)) λi _ _=>e2 i;by_cases hm:m > 1
  .have:=hr hm
   have a:=hs lo i (am _) i1 (!1);have b:=hs j (lo+m - 1) (!1) (!1) (!1);omega
  .rw[show i=j by omega];exact dc _
 refine dW (λhm=>wpS_bind (h.lt hc (!1) (!1) (dW (λ_=>wpS_pure (q _ _ h m1 m2 hs)) λhr=>wpS_bind (yu h (am _) (!1) λIp h2 e2=>?_)))) λhm=>?_;have hr:¬ kA key (arrOf st) lo<kA key (arrOf st) (lo+m - 1):=λz=>hr (decide_eq_true z)
 have e2:∀k,kA key (arrOf Ip) k=kA key (arrOf st) k:=λk=>by
  rw[e2];split
  .rename_i hk
   have a1:=hs lo k (am _) hk.1 (!1);have a2:=hs k (lo+m - 1) (!1) (!1) (!1);have a3:=hs lo (lo+(lo+m) - 1 - k) (am _) (!1) (!1);have a4:=hs (lo+(lo+m) - 1 - k) (lo+m - 1) (!1) (!1) (!1);omega
  .rfl
 have hd:=hD Ip h2 e2 λ_=>hr;clear e2;generalize Ip=st at h2 hd ⊢;replace h:=h2
 rotate_left
 have hd:=hD st h (λk=>rfl) λz=>absurd z hm
 all_goals
  refine wpS_bind (wpS_lift (wpAny_rule ⟨rfl,wpS_bind (wpS_mono (go st h hd ?_) ?_)⟩))
  .intro x wW eK Q h c1 c2 c3 c4 k1 k2 k3
   dsimp only;refine wpS_bind (h.lt hc (!1) (!1) (dW (λhw=>?_) λhw=>wpS_bind (h.lt hc (!1) (!1) (dW (λRJ=>wpS_pure (k2 (of_decide_eq_true RJ))) λRJ=>wpS_pure (k3 ?_)))))
   .have hw:=of_decide_eq_true hw
    refine dW (λhq=>wpS_bind (yu h (!1) (!1) λIq h3 e3=>wpS_pure (k1 hw Iq h3 λk=>?_))) λhq=>wpS_pure (k1 hw eK h λk=>rfl);rw[e3];split
    .rw[c4 k (!1) (!1),c4 _ (!1) (!1)]
    .rfl
   .have:¬ kA key (arrOf eK) (lo+x)<kA key (arrOf eK) (lo+x - 1):=λz=>hw (decide_eq_true z)
    have:¬ kA key (arrOf eK) (lo+x - 1)<kA key (arrOf eK) (lo+x):=λz=>RJ (decide_eq_true z);omega
  .rintro _ st ⟨x,wW,rfl,x1,x2,h,hd,c3,c4⟩
   dsimp only;refine dW (λ_=>wpS_bind (yu h (!1) (!1) λIq h3 e3=>wpS_bind (yu h3 (am _) (!1) λYr h4 e4=>?_))) λ_=>wpS_bind (yu h (am _) (!1) λYr h4 e4=>?_)
   .have e3:∀k,kA key (arrOf Iq) k=kA key (arrOf st) k:=λk=>by
     rw[e3];split
     .rw[c4 k (!1) (!1),c4 _ (!1) (!1)]
     .rfl
    refine wpS_bind (G3 (r:=some none) h4 hc hl (!1) x2 (λi j i1 i2 i3=>?_) (λi m=>bind_congr λx=>by cases x<;>rfl) λm m1 m2 hs _=>wpS_pure (q _ _ h4 (!1) m2 hs));rw[e4,e4,if_pos ⟨!1,!1⟩,if_pos ⟨!1,!1⟩,e3,e3];exact hd _ _ (!1) (!1) (!1)
   .refine wpS_bind (G3 (r:=some none) h4 hc hl (!1) x2 (λi j i1 i2 i3=>?_) (λi m=>bind_congr λx=>by cases x<;>rfl) λm m1 m2 hs _=>wpS_pure (q _ _ h4 (!1) m2 hs))
    rw[e4,e4,if_pos ⟨!1,!1⟩,if_pos ⟨!1,!1⟩];exact hd _ _ (!1) (!1) (!1)
end
section
variable {prog:aO}{w:World}{A:Around}{E:ae->aq->Prop}{s:aq}{a₀:Array Keyed}{κ:SortKind}{key:Keyed->Int}
theorem Eg (hs:src<xs.size)(hd:d<=src)(k:Nat):kA key (bubble xs src d) k=if k=src - d then kA key xs src else if src - d<k/\k<=src then kA key xs (k - 1) else kA key xs k:=by
 have e:=getElem?_bubble hs d hd k;unfold kA;rw[e];by_cases h1:k=src - d
 .rw[if_pos h1,if_pos h1]
 .rw[if_neg h1,if_neg h1]
  by_cases h2:src - d<k/\k<=src
  .rw[if_pos h2,if_pos h2]
  .rw[if_neg h2,if_neg h2]
theorem wz {lo n ok:Nat}{st:SortSt}{Q:Bool->SortSt->Prop}(h:So key a₀ κ lo st)(hc:Call3 prog w A s key κ a₀)(hl:lo+n<=a₀.size)(h1:1<=ok)(h2:ok<=n)(hs:Sg key (arrOf st) lo (lo+ok))(q:∀eK,So key a₀ κ lo eK->Sg key (arrOf eK) lo (lo+n)->Q true eK):wpS (model prog w) A E s (binarySort' lo n ok) Q st:=by
 rw[binarySort'_eq];refine wpS_bind (wpS_mono (wpS_forRange (I:=λk c eK=>c=(none,())/\So key a₀ κ lo eK/\Sg key (arrOf eK) lo (lo+k)) (Q:=λc eK=>c=(none,())/\So key a₀ κ lo eK/\Sg key (arrOf eK) lo (lo+n)) ?_ ?_ ⟨rfl,h,by rw[show max ok 1=ok by omega];exact hs⟩) ?_)
 .rintro k _ st a1 a2 ⟨rfl,h,hs⟩
  have sz:=h.sb.size;dsimp only;refine wpS_bind (wpS_mono (wpS_forRange (I:=λi c eK=>eK=st/\∃l r,c=(none,l,r)/\l<=r/\r<=k/\(∀i,i<l->kA key (arrOf st) (lo+i)<=kA key (arrOf st) (lo+k))/\(∀i,r<=i->i<k->kA key (arrOf st) (lo+k)<=kA key (arrOf st) (lo+i))/\r<=l+(k - i)) (Q:=λc eK=>eK=st/\∃l r,c=(none,l,r)/\l=r/\r<=k/\(∀i,i<l->kA key (arrOf st) (lo+i)<=kA key (arrOf st) (lo+k))/\(∀i,r<=i->i<k->kA key (arrOf st) (lo+k)<=kA key (arrOf st) (lo+i))) ?_ ?_ ⟨rfl,_,_,rfl,bL _,am _,λi hi=>by omega,λi i1 i2=>by omega,!1⟩) ?_)
  .rintro i _ eK b1 b2 ⟨rfl,l,r,rfl,c1,c2,c3,c4,c5⟩
   dsimp only;refine dW (λe=>wpS_pure ⟨rfl,_,_,rfl,!1,c2,c3,c4⟩) λe=>wpS_bind (h.lt hc (!1) (!1) ?_);generalize hm:(l+r) / 2=m;dsimp only;by_cases ig:kA key (arrOf eK) (lo+k)<kA key (arrOf eK) (lo+m)
   .rw[decide_eq_true ig,if_pos rfl]
    exact wpS_pure ⟨rfl,_,_,rfl,!1,!1,c3,λi i1 i2=>bD (cw ig) (hs _ _ (!1) (!1) (!1)),!1⟩
   .rw[decide_eq_false ig,if_neg (!2)]
    exact wpS_pure ⟨rfl,_,_,rfl,!1,c2,λi i1=>bD (hs _ (lo+m) (!1) (!1) (!1)) (!1),c4,!1⟩
  .rintro _ eK ⟨rfl,l,r,rfl,c1,c2,c3,c4,c5⟩
   exact⟨rfl,_,_,rfl,!1,c2,c3,c4⟩
  .rintro _ eK ⟨rfl,l,r,rfl,rfl,c2,c3,c4⟩
   dsimp only;rw[moveDown'_eq];have e:=Eg (key:=key) (xs:=arrOf eK) (src:=lo+k) (d:=lo+k - (lo+l)) (!1) (!1);rw[show lo+k - (lo+k - (lo+l))=lo+l by omega] at e;refine wpS_bind (wpS_modify (wpS_pure ⟨rfl,h.arr (bubble_perm _ _ _) λi hi=>?_,λi j i1 i2 i3=>?_⟩))
   .rw[e,if_neg (!1),if_neg (!1)]
   .show kA key (bubble (arrOf eK) (lo+k) (lo+k - (lo+l))) i<=kA key (bubble (arrOf eK) (lo+k) (lo+k - (lo+l))) j
    rw[e,e];by_cases x1:i=lo+l
    .rw[if_pos x1]
     by_cases y1:j=lo+l
     .rw[if_pos y1];exact dc _
     .rw[if_neg y1,if_pos ⟨!1,!1⟩]
      have:=c4 (j - 1 - lo) (!1) (!1);rwa [show lo+(j - 1 - lo)=j - 1 by omega] at this
    .rw[if_neg x1]
     by_cases x2:lo+l<i/\i<=lo+k
     .rw[if_pos x2,if_neg (!1),if_pos ⟨!1,!1⟩]
      exact hs _ _ (!1) (!1) (!1)
     .rw[if_neg x2]
      have hi:i<lo+l:=by omega
      by_cases y1:j=lo+l
      .rw[if_pos y1]
       have:=c3 (i - lo) (!1);rwa [show lo+(i - lo)=i by omega] at this
      .rw[if_neg y1]
       by_cases y2:lo+l<j/\j<=lo+k
       .rw[if_pos y2]
        exact hs _ _ (!1) (!1) (!1)
       .rw[if_neg y2]
        exact hs _ _ (!1) (!1) (!1)
 .rintro _ st ⟨rfl,h,hs⟩
  rw[show max (max ok 1) n=n by omega] at hs;exact⟨rfl,h,hs⟩
 .rintro _ st ⟨rfl,h,hs⟩
  exact wpS_pure (q _ h hs)
theorem Ch.two:∀{l m:List Run} {lo hi:Nat},Ch lo (l++m) hi->∃mid,Ch lo l mid/\Ch mid m hi
 | [],m,lo,hi,h=>⟨lo,rfl,h⟩
 | (s,n,p)::l,m,lo,hi,h=>by
  obtain⟨rfl,h1,h2⟩:=h;obtain⟨mid,h3,h4⟩:=Ch.two h2;exact⟨mid,⟨rfl,h1,h3⟩,h4⟩
theorem Oh (h:ys.toList=xs.toList.take f++l++xs.toList.drop (f+l.length))(hf:f+l.length<=xs.size):(∀i,i<f\/f+l.length<=i->kA key ys i=kA key xs i)/\∀i (hi:i<l.length),kA key ys (f+i)=key l[i]:=by
 have ht:(xs.toList.take f).length=f:=by rw[bO,aT];omega
 have e:∀i,ys[i]? = (xs.toList.take f++l++xs.toList.drop (f+l.length))[i]? := λi=>by rw[<- h,a8]
 refine⟨λi hi=>?_,λi hi=>?_⟩
 .unfold kA
  rw[e]
  have:(xs.toList.take f++l++xs.toList.drop (f+l.length))[i]? = xs[i]? := by
   rcases hi with hi | hi
   .rw[aF,bM (!1),List.getElem?_take,if_pos hi,a8]
   .rw[bK (by rw[aG,ht];exact hi),aG,ht,List.getElem?_drop,a8]
    congr 1;omega
  rw[this]
 .unfold kA
  rw[e,aF,bK (!1),ht,show f+i - f=i by omega,bM hi,aV hi]
theorem Lr {xs:Array Keyed}{lo hi:Nat}(h:Sg key xs lo hi)(hh:hi<=xs.size){i j:Nat}(Z3:lo<=i)(hj:j<=hi):Sk key (xs.extract i j):=λp q h1 h2=>by
 rw[bi] at h2
 have e:∀p,p<(xs.extract i j).size->kA key (xs.extract i j) p=kA key xs (i+p):=λp hp=>by
  rw[bi] at hp;rw[gL (by rw[bi];omega),ck,gL (!1)]
 rw[e p (by rw[bi];omega),e q (by rw[bi];omega)];exact h _ _ (!1) (!1) (!1)
theorem CH (hp:p<j - i)(hj:j<=xs.size):kA key (xs.extract i j) p=kA key xs (i+p):=by
 rw[gL (by rw[bi];omega),ck,gL (!1)]
theorem u5 {i hi:Nat}{st:SortSt}{Q:Bool->SortSt->Prop}(h:So key a₀ κ hi st)(hc:Call3 prog w A s key κ a₀)(hl:i+1<(pendingOf st).size)(q:∀eK,So key a₀ κ hi eK->(pendingOf eK).size+1=(pendingOf st).size->(∀i,hi<=i->kA key (arrOf eK) i=kA key (arrOf st) i)->Q true eK):wpS (model prog w) A E s (mergeAt' i) Q st:=by
 obtain⟨pre,sa,na,p,nb,p2,post,e,rfl,b1,b2,b3,b4,b5⟩:=Ch.split h.sb.ch (by simpa using hl);refine wpS_bind (wpS_get ?_);have g1:(pendingOf st)[pre.length]? = some (sa,na,p):=by rw[<- a8,e];simp
 have g2:(pendingOf st)[pre.length+1]? = some (sa+na,nb,p2):=by rw[<- a8,e];simp[List.getElem?_append]
 have g3:(((pendingOf st).setIfInBounds pre.length (sa,na+nb,p)).eraseIdxIfInBounds (pre.length+1)).toList=pre++(sa,na+nb,p)::post:=by
  rw[Array.toList_eraseIdxIfInBounds,Array.toList_setIfInBounds,e];rw[List.set_append_right _ _ (am _),Nat.sub_self,aw,List.eraseIdx_append_of_length_le (!1),cV];rfl
 rw[g1,g2];refine wpS_bind (JO ?_);generalize ((pendingOf st).setIfInBounds pre.length (sa,na+nb,p)).eraseIdxIfInBounds (pre.length+1)=pd at g3 ⊢
 have hsz:pd.size+1=(pendingOf st).size:=by
  have x1:=congrArg List.length g3;have x2:=congrArg List.length e;simp only[aT,aG,ap] at x1 x2;omega
 have EL:Sb a₀ κ hi (setPending st pd):=⟨h.sb.perm,h.sb.kind,h.sb.failed,by show Ch 0 pd.toList hi;rw[g3];exact b5 p,h.sb.le⟩;have sz:=h.sb.size;have le:=h.sb.le;have sA:Sg key (arrOf st) sa (sa+na):=h.seg (sa,na,p) (by rw[e];simp);have sB:Sg key (arrOf st) (sa+na) (sa+na+nb):=h.seg (sa+na,nb,p2) (by rw[e];simp)
 have Dv:∀r∈pre,r.1+r.2.1<=sa:=λr hr=>by
  have:=h.sb.ch;rw[e] at this;obtain⟨mid,c1,c2⟩:=Ch.two this;have:=(Ch.within c1).2 r hr;have:=c2.1;omega
 have gX:∀r∈post,sa+na+nb<=r.1:=λr hr=>by
  have:=h.sb.ch;rw[e] at this;obtain⟨mid,c1,c2⟩:=Ch.two this;have:=(Ch.within c2.2.2.2.2).2 r hr;have:=c2.1;omega
 have all:∀(xs:Array Keyed),(∀i,i<sa\/sa+na+nb<=i->kA key xs i=kA key (arrOf st) i)->Sg key xs sa (sa+na+nb)->∀r∈pd.toList,Sg key xs r.1 (r.1+r.2.1):=λxs hx hs r hr=>by
  rw[g3] at hr;rcases aB.mp hr with hr | hr
  .have h1:=Dv r hr
   exact (h.seg r (by rw[e];exact a6 _ hr)).AA λi i1 i2=>hx i (.inl (!1))
  .rcases au.mp hr with rfl | hr
   .show Sg key xs sa (sa+(na+nb))
    rw[<- Nat.add_assoc];exact hs
   .have h1:=gX r hr
    exact (h.seg r (by rw[e];exact aJ _ (ao _ (ao _ hr)))).AA λi i1 i2=>hx i (.inr (!1))
 have xb:sa+na<(arrOf st).size:=by omega
 refine wpS_bind (eS (arr:=arrOf st) xb (wpS_bind (kg (key:=key) (arr:=arrOf st) (!1) (!1) (λx hx=>⟨h.cmp hc (be _) hx,h.cmp hc hx (be _)⟩) (λi j q1 q2=>sA _ _ (!1) (!1) (!1)) λk hk k1 k2=>?_)));rw[<- gL (key:=key) xb] at k1 k2
 have k1:∀i,sa<=i->i<sa+k->kA key (arrOf st) i<=kA key (arrOf st) (sa+na):=λi i1 i2=>by
  have:=GZ.mp (k1 (i - sa) (!1));rwa [show sa+(i - sa)=i by omega] at this
 have k2:∀i,sa+k<=i->i<sa+na->kA key (arrOf st) (sa+na)<kA key (arrOf st) i:=λi i1 i2=>by
  have:=Ay.mp (k2 (i - sa) (!1) (!1));rwa [show sa+(i - sa)=i by omega] at this
 dsimp only;refine dW (λe1=>wpS_pure (q _ ⟨EL,all _ (λi _=>rfl) λi j i1 i2 i3=>?_⟩ hsz λ_ _=>rfl)) λe1=>?_
 .rw[beq_iff_eq] at e1
  show kA key (arrOf st) i<=kA key (arrOf st) j;by_cases x1:j<sa+na
  .exact sA _ _ i1 i2 x1
  .by_cases x2:sa+na<=i
   .exact sB _ _ x2 i2 i3
   .exact bD (k1 i i1 (!1)) (sB _ _ (am _) (!1) i3)
 rw[beq_iff_eq] at e1;have xa:sa+k+(na - k) - 1<(arrOf st).size:=by omega
 refine wpS_bind (eS (arr:=arrOf st) xa (wpS_bind (kg (key:=key) (arr:=arrOf st) (!1) (!1) (λx hx=>⟨h.cmp hc (be _) hx,h.cmp hc hx (be _)⟩) (λi j q1 q2=>sB _ _ (!1) (!1) (!1)) λk' D4 k3 k4=>?_)));rw[<- gL (key:=key) xa,show sa+k+(na - k) - 1=sa+na - 1 by omega] at k3 k4
 have k3:∀i,sa+na<=i->i<sa+na+k'->kA key (arrOf st) i<kA key (arrOf st) (sa+na - 1):=λi i1 i2=>by
  have:=G0.mp (k3 (i - (sa+na)) (!1));rwa [show sa+na+(i - (sa+na))=i by omega] at this
 have k4:∀i,sa+na+k'<=i->i<sa+na+nb->kA key (arrOf st) (sa+na - 1)<=kA key (arrOf st) i:=λi i1 i2=>by
  have:=Az.mp (k4 (i - (sa+na)) (!1) (!1));rwa [show sa+na+(i - (sa+na))=i by omega] at this
 dsimp only;refine dW (λe2=>wpS_pure (q _ ⟨EL,all _ (λi _=>rfl) λi j i1 i2 i3=>?_⟩ hsz λ_ _=>rfl)) λe2=>?_
 .rw[beq_iff_eq] at e2
  show kA key (arrOf st) i<=kA key (arrOf st) j;by_cases x1:j<sa+na
  .exact sA _ _ i1 i2 x1
  .by_cases x2:sa+na<=i
   .exact sB _ _ x2 i2 i3
   .exact bD (sA i (sa+na - 1) i1 (!1) (!1)) (k4 j (!1) i3)
 rw[beq_iff_eq] at e2
 have fin:∀(out:Array Keyed) (g:Nat),out.toList.Perm (((arrOf st).extract (sa+k) (sa+na)).toList++((arrOf st).extract (sa+na) (sa+na+k')).toList)->Nd key out.toList->wpS (model prog w) A E s (do
   modify λs=>setArr s (out.toList.zipIdx.foldl (λa x=>a.setIfInBounds (sa+k+x.2) x.1) (arrOf s))
   return (failedOf (<- get)).isNone) Q (nh (setPending st pd) g):=λout g ho hn=>by
  refine wpS_bind (wpS_modify (wpS_bind (wpS_get ?_)))
  have eX:out.toList.length=na - k+k':=by
   rw[ho.length_eq,aG,aT,aT,bi,bi];omega
  have mL:=CF (sa+k) out.toList 0 (arrOf st) (!1);rw[Nat.add_zero] at mL
  have hp:(out.toList.zipIdx.foldl (λa x=>a.setIfInBounds (sa+k+x.2) x.1) (arrOf st)).Perm (arrOf st):=by
   rw[cj,mL]
   have e3:(arrOf st).toList=(arrOf st).toList.take (sa+k)++(((arrOf st).extract (sa+k) (sa+na)).toList++((arrOf st).extract (sa+na) (sa+na+k')).toList)++(arrOf st).toList.drop (sa+k+out.toList.length):=by
    rw[<- aF,<- qL _ (!1),<- qL _ (!1),show sa+k+out.toList.length=sa+na+k' by omega,List.take_append_drop]
   exact ((List.Perm.append_left _ ho).append_right _).trans (.of_eq e3.symm)
  obtain⟨z1,z2⟩:=Oh (key:=key) mL (!1);generalize ON:(out.toList.zipIdx.foldl (λa x=>a.setIfInBounds (sa+k+x.2) x.1) (arrOf st))=xs at hp z1 z2;rw[eX] at z1
  have zb:∀i,sa+k<=i->i<sa+na+k'->∃j,(sa+k<=j/\j<sa+na+k')/\kA key xs i=kA key (arrOf st) j:=λi i1 i2=>by
   have OU:i - (sa+k)<out.toList.length:=by omega
   have:=z2 (i - (sa+k)) OU;rw[show sa+k+(i - (sa+k))=i by omega] at this;have hm:=ho.mem_iff.mp (bT OU);rcases aB.mp hm with hm | hm
   .obtain⟨j,j1,j2,j3,ej⟩:=gw (key:=key) hm
    exact⟨j,⟨j1,!1⟩,this.trans ej⟩
   .obtain⟨j,j1,j2,j3,ej⟩:=gw (key:=key) hm
    exact⟨j,⟨!1,j2⟩,this.trans ej⟩
  have RK:∀i j,sa<=i->i<sa+k->sa+k<=j->j<sa+na+nb->kA key (arrOf st) i<=kA key (arrOf st) j:=λi j i1 i2 j1 j2=>by
   by_cases x:j<sa+na
   .exact sA _ _ i1 (!1) x
   .exact bD (k1 i i1 i2) (sB _ _ (am _) (!1) j2)
  have Ys:∀i j,sa<=i->i<sa+na+k'->sa+na+k'<=j->j<sa+na+nb->kA key (arrOf st) i<=kA key (arrOf st) j:=λi j i1 i2 j1 j2=>by
   by_cases x:i<sa+na
   .exact bD (sA i (sa+na - 1) i1 (!1) (!1)) (k4 j j1 j2)
   .exact sB _ _ (!1) (!1) j2
  have Vg:Sg key xs sa (sa+na+nb):=λi j i1 i2 i3=>by
   by_cases x1:i<sa+k
   .rw[z1 i (.inl x1)]
    by_cases y1:j<sa+k
    .rw[z1 j (.inl y1)]
     exact sA _ _ i1 i2 (!1)
    .by_cases y2:j<sa+na+k'
     .obtain⟨j',⟨u1,u2⟩,ej⟩:=zb j (!1) y2
      rw[ej];exact RK i j' i1 x1 u1 (!1)
     .rw[z1 j (.inr (!1))]
      exact RK i j i1 x1 (!1) i3
   .by_cases x2:i<sa+na+k'
    .by_cases y2:j<sa+na+k'
     .have v1:=z2 (i - (sa+k)) (!1)
      have v2:=z2 (j - (sa+k)) (!1);rw[show sa+k+(i - (sa+k))=i by omega] at v1;rw[show sa+k+(j - (sa+k))=j by omega] at v2;rw[v1,v2];by_cases SD:i=j
      .subst SD;exact dc _
      .exact cm.mp hn _ _ (!1) (!1) (!1)
     .obtain⟨i',⟨u1,u2⟩,ei⟩:=zb i (!1) x2
      rw[ei,z1 j (.inr (!1))];exact Ys i' j (!1) u2 (!1) i3
    .rw[z1 i (.inr (!1)),z1 j (.inr (!1))]
     exact sB _ _ (!1) i2 i3
  have h2:So key a₀ κ hi (setArr (nh (setPending st pd) g) xs):=⟨(EL.g g).arr hp,all xs (λi hi=>z1 i (!1)) Vg⟩;have ef:=h2.sb.failed;refine wpS_pure ?_;have:(failedOf (setArr (nh (setPending st pd) g) xs)).isNone=true:=by rw[ef];rfl
  have:=this ▸ q _ h2 hsz λi hi=>z1 i (!1);exact this
 have wX:∀x∈(arrOf st).extract (sa+k) (sa+na),∀y∈(arrOf st).extract (sa+na) (sa+na+k'),sr prog w A s key (kindOf st) x y/\sr prog w A s key (kindOf st) y x:=λx hx y hy=>⟨h.cmp hc (wy hx) (wy hy),h.cmp hc (wy hy) (wy hx)⟩;have m1:Sk key ((arrOf st).extract (sa+k) (sa+na)):=Lr sA (!1) (!1) (am _);have m2:Sk key ((arrOf st).extract (sa+na) (sa+na+k')):=Lr sB (!1) (am _) (!1)
 have m3:kA key ((arrOf st).extract (sa+na) (sa+na+k')) 0<=kA key ((arrOf st).extract (sa+k) (sa+na)) 0:=by
  rw[CH (!1) (!1),CH (!1) (!1)];exact cw (k2 _ (!1) (!1))
 have m4:∀j,j<((arrOf st).extract (sa+na) (sa+na+k')).size->kA key ((arrOf st).extract (sa+na) (sa+na+k')) j<=kA key ((arrOf st).extract (sa+k) (sa+na)) (((arrOf st).extract (sa+k) (sa+na)).size - 1):=λj hj=>by
  rw[bi] at hj;rw[bi,CH (!1) (!1),CH (!1) (!1),show sa+k+(min (sa+na) (arrOf st).size - (sa+k) - 1)=sa+na - 1 by omega];exact cw (k3 _ (!1) (!1))
 exact dW (λ_=>wpS_bind (Ee (a:=(arrOf st).extract (sa+k) (sa+na)) (b:=(arrOf st).extract (sa+na) (sa+na+k')) (by rw[bi];omega) (by rw[bi];omega) wX m1 m2 m3 m4 fin)) λ_=>wpS_bind (Ef (a:=(arrOf st).extract (sa+k) (sa+na)) (b:=(arrOf st).extract (sa+na) (sa+na+k')) (by rw[bi];omega) (by rw[bi];omega) wX m1 m2 m3 m4 fin)
theorem Ch.count:∀{l:List Run} {lo hi:Nat},Ch lo l hi->lo+l.length<=hi
 | [],lo,hi,h=>dA h
 | (s,n,p)::l,lo,hi,h=>by
  have:=Ch.count h.2.2;have:=h.2.1;rw[ap];omega
theorem AD {st:SortSt}{Q:Unit->SortSt->Prop}(h:So key a₀ κ 0 st)(hc:Call3 prog w A s key κ a₀)(q:∀eK,(arrOf eK).Perm a₀->Nd key (arrOf eK).toList->failedOf eK=none->Q () eK):wpS (model prog w) A E s sortRuns' Q st:=by
 rw[sortRuns'_eq];refine wpS_bind (wpS_get ?_);have sz:=h.sb.size;dsimp only;rw[sz];generalize minRun' a₀.size a₀.size 0=mr;refine wpS_bind (wpS_mono (wpS_forRange (I:=λi c eK=>∃lo,c=(none,lo)/\So key a₀ κ lo eK/\(i<=lo\/a₀.size<=lo)) (Q:=λc eK=>∃lo,c=(none,lo)/\So key a₀ κ lo eK/\a₀.size<=lo) ?_ ?_ ⟨_,rfl,h,.inl (am _)⟩) ?_)
 .rintro i _ st a1 a2 ⟨lo,rfl,h,P8⟩
  have:=h.sb.le;dsimp only;refine dW (λe=>wpS_pure ⟨_,rfl,h,e⟩) λe=>wpS_bind (AB h hc (!1) (!1) λm st h m1 m2 hs=>?_);dsimp only
  have push:∀(n:Nat) (st:SortSt),1<=n->lo+n<=a₀.size->So key a₀ κ lo st->Sg key (arrOf st) lo (lo+n)->wpS (model prog w) A E s (do
    modify λs=>setPending s ((pendingOf s).push (lo,n,0))
    pure (ForInStep.yield ((none,lo+n):Option Unit × Nat))) (λr eK =>
   match r with
   | ForInStep.done c'=>∃lo,c'=(none,lo)/\So key a₀ κ lo eK/\a₀.size<=lo
   | ForInStep.yield c'=>∃lo,c'=(none,lo)/\So key a₀ κ lo eK/\(i+1<=lo\/a₀.size<=lo)) st:=λn st n1 n2 h hs=>by
   refine wpS_bind (wpS_modify (wpS_pure ⟨_,rfl,⟨⟨h.sb.perm,h.sb.kind,h.sb.failed,?_,n2⟩,λr hr=>?_⟩,!1⟩))
   .show Ch 0 ((pendingOf st).push (lo,n,0)).toList _
    rw[dj];exact h.sb.ch.push n1
   .have hr:r∈((pendingOf st).push (lo,n,0)).toList:=hr
    rw[dj] at hr;rcases aB.mp hr with hr | hr
    .exact h.seg r hr
    .rw[av.mp hr];exact hs
  refine dW (λe1=>wpS_bind (wpS_lift (wpAny_rule ⟨rfl,wpS_bind (wz h hc (!1) m1 (!1) hs λst h hs=>?_)⟩))) λ_=>?_
  all_goals
   try rw[if_neg (!2)]
   refine wpS_bind (wpS_get ?_)
   cases (pendingOf st).back? with
   | none=>exact push _ _ (!1) (!1) h hs
   | some x =>
    dsimp only;refine wpS_bind (wpS_mono (JN (λc eK=>c=(none,())/\So key a₀ κ lo eK/\Sg key (arrOf eK) lo (lo+_)) ?_ ⟨rfl,h,hs⟩) ?_)
    .rintro i _ st ⟨rfl,h,hs⟩
     refine wpS_bind (wpS_get ?_);by_cases e3:(pendingOf st).size > 1
     .rw[if_pos e3,getElem?_pos (pendingOf st) _ (!1)]
      dsimp only;refine dW (λ_=>wpS_pure ⟨rfl,h,hs⟩) λ_=>wpS_bind (u5 h hc (!1) λst h _ hk=>wpS_pure ⟨rfl,h,hs.AA λi i1 _=>hk i i1⟩)
     .rw[if_neg e3]
      exact wpS_pure ⟨rfl,h,hs⟩
    .rintro _ st ⟨rfl,h,hs⟩
     dsimp only;refine wpS_bind (wpS_modify (push _ _ (!1) (!1) ⟨⟨h.sb.perm,h.sb.kind,h.sb.failed,?_,h.sb.le⟩,λr hr=>?_⟩ hs))
     .show Ch 0 (Array.modify _ _ _).toList _
      rw[Array.toList_modify];exact h.sb.ch.mod _
     .have hr:r∈(Array.modify _ _ _).toList:=hr
      rw[Array.toList_modify] at hr;obtain⟨j,hj,rfl⟩:=cb hr;rw[List.length_modify] at hj;rw[List.getElem_modify];split
      .exact h.seg (pendingOf st).toList[j] (bT hj)
      .exact h.seg _ (bT hj)
 .rintro _ st ⟨lo,rfl,h,P8⟩
  exact⟨_,rfl,h,!1⟩
 .rintro _ st ⟨lo,rfl,h,P8⟩
  have e0:lo=a₀.size:=by have:=h.sb.le;omega
  subst e0;dsimp only;refine wpS_bind (wpS_mono (wpS_forRange (I:=λi c eK=>c=(none,())/\So key a₀ κ a₀.size eK/\((pendingOf eK).size<=1\/(pendingOf eK).size+i<=a₀.size)) (Q:=λc eK=>c=(none,())/\So key a₀ κ a₀.size eK/\(pendingOf eK).size<=1) ?_ ?_ ⟨rfl,h,.inr (by have:=Ch.count h.sb.ch;rw[aT] at this;omega)⟩) ?_)
  .rintro i _ st a1 a2 ⟨rfl,h,hp⟩
   refine wpS_bind (wpS_get (dW (λe=>wpS_pure ⟨rfl,h,e⟩) λe=>wpS_bind (u5 h hc ?_ λst h hsz _=>wpS_pure ⟨rfl,h,.inr (!1)⟩)));have:∀(c:Prop) [Decidable c] (x:Nat),(if c then x - 1 else x)<=x:=λc _ x=>by split<;>omega
   exact cU (Nat.succ_le_succ (this _ _)) (!1)
  .rintro _ st ⟨rfl,h,hp⟩
   exact⟨rfl,h,!1⟩
  .rintro _ st ⟨rfl,h,hp⟩
   refine wpS_pure (q _ h.sb.perm ?_ h.sb.failed);have BB:=h.sb.ch;have Ww:=h.seg;have hsz:=h.sb.size;have hl:(pendingOf st).toList.length<=1:=by rw[aT];exact hp
   generalize (pendingOf st).toList=l at BB Ww hl;refine RG λi j i1 i2=>?_
   match l,hl with
   | [],_ =>
    have:0=a₀.size:=BB;omega
   | [(s,n,p)],_ =>
    obtain⟨rfl,_,h3⟩:=BB;have h3:0+n=a₀.size:=h3;exact Ww (0,n,p) (av.mpr rfl) i j (bL _) i1 (by show j<0+n;omega)
end
open PySem.W (KatLex kat_cons kat_yes kat_no kat_one kat_lt kas_item)
noncomputable def jF:List Int->List Int->Bool
 | [],[]=>false
 | [],_::_=>true
 | _::_,[]=>false
 | a::r,b::t=>if a=b then jF r t else decide (a<b)
theorem CI (a b:Int):ad.eqv (.int a) (.int b)=decide (a=b):=by
 by_cases h:a=b
 .subst h;simp[ad.eqv]
 .simp[ad.eqv,h]
theorem wA:∀xs ys:List Int,qc false (xs.map ad.int) (ys.map ad.int)=some (jF xs ys)
 | [],[]=>rfl
 | [],_::_=>rfl
 | _::_,[]=>rfl
 | x::xs,y::ys=>by
  rw[ak,ak,qc,jF,CI,wA xs ys];by_cases h:x=y
  .rw[if_pos h,if_pos (decide_eq_true h)]
  .rw[if_neg h,if_neg (by simpa using h)]
   rfl
theorem wB:∀a:List Int,jF a a=false
 | []=>rfl
 | x::a=>by rw[jF,if_pos rfl,wB a]
theorem wC:∀{a b c:List Int},jF a b=true->jF b c=true->jF a c=true
 | [],[],_,h,_=>by cases h
 | [],_::_,[],_,h=>by cases h
 | [],_::_,_::_,_,_=>rfl
 | _::_,[],_,h,_=>by cases h
 | _::_,_::_,[],_,h=>by cases h
 | x::a,y::b,z::c,h,k=>by
  rw[jF] at h k ⊢;by_cases h1:x=y
  .subst h1
   rw[if_pos rfl] at h;by_cases h2:x=z
   .rw[if_pos h2] at k ⊢
    exact wC h k
   .rw[if_neg h2] at k ⊢
    exact k
  .rw[if_neg h1,decide_eq_true_eq] at h
   by_cases h2:y=z
   .subst h2
    rw[if_neg h1];exact decide_eq_true h
   .rw[if_neg h2,decide_eq_true_eq] at k
    rw[if_neg (!1)];exact decide_eq_true (!1)
theorem wD:∀{a b:List Int},jF a b=false->jF b a=false->a=b
 | [],[],_,_=>rfl
 | [],_::_,h,_=>by cases h
 | _::_,[],_,h=>by cases h
 | x::a,y::b,h,k=>by
  rw[jF] at h k;by_cases h1:x=y
  .subst h1
   rw[if_pos rfl] at h k;rw[wD h k]
  .rw[if_neg h1,decide_eq_false_iff_not] at h
   rw[if_neg (λz=>h1 z.symm),decide_eq_false_iff_not] at k;omega
theorem Oi (h:jF a b=true):jF b a=false:=by
 cases e:jF b a with
 | false=>rfl
 | true =>
  have:=wC h e;rw[wB] at this;cases this
theorem G4 {a b c:List Int}(h:jF b a=false)(k:jF c b=false):jF c a=false:=by
 cases e:jF c a with
 | false=>rfl
 | true =>
  cases e2:jF a b with
  | true=>rw[wC e e2] at k;cases k
  | false =>
   have:=wD e2 h;subst this;rw[e] at k;cases k
noncomputable def Oj (R:List (List Int))(a:List Int):Int:=((R.countP λt=>jF t a:Nat):Int)
theorem G5:∀{l:List (List Int)} {a:List Int},(∀x∈l,p x=true->q x=true)->a∈l->q a=true->p a=false->l.countP p<l.countP q
 | [],a,_,h,_,_=>by cases h
 | x::l,a,h,ha,hq,hp=>by
  have tj:l.countP p<=l.countP q:=List.countP_mono_left λy hy=>h y (ao _ hy);rw[cR,cR];rcases au.mp ha with rfl | ha
  .simp[hq,hp]
   omega
  .have ih:=G5 (λy hy=>h y (ao _ hy)) ha hq hp
   have hx:=h x (ar ..)
   cases e1:p x with
   | true=>rw[hx e1];simp;omega
   | false =>
    cases q x<;>simp<;>omega
theorem Ls (ha:a∈R):decide (Oj R a<Oj R b)=jF a b:=by
 cases e:jF a b with
 | true =>
  refine decide_eq_true ?_;unfold Oj;exact Int.ofNat_lt.mpr (G5 (λx _ hx=>wC hx e) ha e (wB a))
 | false =>
  refine decide_eq_false ?_;unfold Oj
  have:R.countP (λt=>jF t b)<=R.countP (λt=>jF t a):=List.countP_mono_left λx _ hx=>by
   cases e2:jF x a with
   | true=>rfl
   | false =>
    have:=G4 e e2;rw[hx] at this;cases this
  omega
noncomputable def gY (rs:List (List Int)):List (List Int):=rs.mergeSort λa b=>!jF b a
noncomputable abbrev JS (rs:List (List Int)):Prop:=rs.Pairwise λa b=>jF b a=false
theorem ix (rs:List (List Int)):(gY rs).Perm rs:=List.mergeSort_perm _ _
theorem yv (rs:List (List Int)):JS (gY rs):=by
 have:=List.pairwise_mergeSort (le:=λa b=>!jF b a) (λa b c h k=>by
  rw[Bool.not_eq_true'] at h k ⊢
  exact G4 h k) (λa b=>by
  cases h:jF b a with
  | false=>simp
  | true=>simp[Oi h]) rs
 exact this.imp λh=>by simpa using h
theorem CJ:∀{a b:List (List Int)},a.Perm b->JS a->JS b->a=b
 | [],b,h,_,_=>by rw[List.nil_perm.mp h]
 | x::a,[],h,_,_=>by have:=h.length_eq;simp at this
 | x::a,y::b,h,h1,h2=>by
  obtain⟨a1,a2⟩:=bY.mp h1;obtain⟨b1,b2⟩:=bY.mp h2
  have wX:x=y:=by
   have hx:x∈y::b:=h.mem_iff.mp (ar ..);have hy:y∈x::a:=h.mem_iff.mpr (ar ..);rcases au.mp hx with e | hx
   .exact e
   .rcases au.mp hy with e | hy
    .exact e.symm
    .exact wD (b1 x hx |> λz=>z) (a1 y hy) |>.symm ▸ rfl
  subst wX;rw[CJ (h.cons_inv) a2 b2]
theorem u6 (h:a.Perm b)(h1:JS a):a=gY b:=CJ (h.trans (ix b).symm) h1 (yv b)
theorem AE (h:a.Perm b):gY a=gY b:=u6 ((ix a).trans h) (yv a)
section
variable {prog:aO}{w:World}{A:Around}{E:ae->aq->Prop}{s:aq}
noncomputable def qp (h:Heap)(v:ae)(row:List Int):Prop:=∃(a:Addr) (o:Obj) (xs:Array ae) (n:Nat) (as:List Addr),v=.ref a/\h.get? a=some o/\o.cls=.type "tuple" /\ o.data=.seq xs n/\ReadsAll h xs.toList (row.map .int) as
theorem qp.tup (t:qp h v row):Oe h v:=by
 obtain⟨a,o,xs,n,as,h⟩:=t;exact⟨a,o,xs,n,row,as,h⟩
noncomputable def vInt:ae->Int | .int i _=>i | _=>0
noncomputable def kh (h:Heap)(v:ae):List Int:=match v with
 | .ref a=>(match h.get? a with | some o=>(match o.data with | .seq xs _=>xs.toList.map vInt | _=>[]) | none=>[])
 | _=>[]
theorem u7:∀{us:List ae} {row:List Int} {as:List Addr},ReadsAll h us (row.map .int) as->us.map vInt=row
 | [],[],_,_=>rfl
 | [],_::_,_,r=>by cases r
 | u::us,[],_,r=>by cases r
 | u::us,i::row,_,r=>by
  rw[ak] at r
  cases r with
  | cons r rs =>
   cases r;rw[ak,u7 rs];rfl
theorem qp.row {h:Heap}{v:ae}{row:List Int}(t:qp h v row):kh h v=row:=by
 obtain⟨a,o,xs,n,as,rfl,h1,h2,h3,h4⟩:=t;unfold kh;simp only[h1,h3];exact u7 h4
theorem Eh (hu:A.units<cLine):∀(us vs:List ae) (r t:List Int) (as bs:List Addr) (i:Nat),ReadsAll s.heap us (r.map .int) as->ReadsAll s.heap vs (t.map .int) bs->(fin=decide (r.length<t.length)\/True)->(∀b,(b=if r.take (min r.length t.length)=t.take (min r.length t.length) then fin else jF r t)->Q b s)->KatLex prog w A true fin Q (us.zip vs) i s:=by
 intro us vs r t as bs i h1 h2 _ hq
 induction us generalizing vs r t as bs i with
 | nil =>
  cases r with
  | nil=>exact hq _ (!4)
  | cons _ _=>cases h1
 | cons u us ih =>
  cases r with
  | nil=>cases h1
  | cons a r =>
   cases vs with
   | nil =>
    cases t with
    | nil=>exact hq _ (!4)
    | cons _ _=>cases h2
   | cons v vs =>
    cases t with
    | nil=>cases h2
    | cons b t =>
     rw[ak] at h1 h2
     cases h1 with
     | cons g1 h1 =>
      cases h2 with
      | cons g2 h2 =>
       cases g1 with
       | int _ t1 =>
        cases g2 with
        | int _ t2 =>
         rw[List.zip_cons_cons];have he:=SeqAt.eqAt_reads (.int a) (.int b) A s _ _ [] [] (.int a t1) (.int b t2) rfl rfl (by simpa [ad.depth] using hu);rw[CI] at he;refine kat_cons (he prog w _ _ ?_);by_cases qC:a=b
         .subst qC
          rw[decide_eq_true rfl];refine kat_yes (ih vs r t _ _ (i+1) h1 h2 (.inr trivial) λb hb=>hq b ?_);rw[hb,jF,if_pos rfl];have:min (a::r).length (a::t).length=min r.length t.length+1:=by simp only[ap];omega
          rw[this,cc,cc];simp
         .rw[decide_eq_false qC]
          have zg:Q (decide (a<b)) s:=hq _ (by
           have:min (a::r).length (b::t).length=min r.length t.length+1:=by simp only[ap];omega
           rw[this,cc,cc,if_neg (by simp[qC]),jF,if_neg qC])
          refine kat_no ?_
          cases i with
          | zero=>exact oneLt_int zg
          | succ i=>exact kat_one _ _ (CD a b t1 t2 A s prog w _ _ zg)
theorem CK:∀r t:List Int,(if r.take (min r.length t.length)=t.take (min r.length t.length) then decide (r.length<t.length) else jF r t)=jF r t
 | [],[]=>rfl
 | [],_::_=>by simp[jF]
 | _::_,[]=>by simp[jF]
 | a::r,b::t=>by
  have ih:=CK r t;have:min (a::r).length (b::t).length=min r.length t.length+1:=by simp only[ap];omega
  rw[this,cc,cc,jF];by_cases h:a=b
  .subst h
   rw[if_pos rfl];simpa using ih
  .rw[if_neg (by simp[h])]
theorem AF (hx:qp s.heap x r)(hy:qp s.heap y t)(hu:A.units+1<cLine)(hq:Q (jF r t) s):ay (model prog w) A (keyLt' (tuples' true) x y) Q E s:=by
 obtain⟨a,o,xs,n,as,rfl,h1,h2,h3,h4⟩:=hx;obtain⟨b,o',ys,m,bs,rfl,k1,k2,k3,k4⟩:=hy;have n1:xs.size=r.length:=by have:=SeqAt.ReadsAll.length _ _ _ h4;simpa using this
 have n2:ys.size=t.length:=by have:=SeqAt.ReadsAll.length _ _ _ k4;simpa using this
 refine kat_lt h1 h3 k1 k3 (Eh (!1) xs.toList ys.toList r t as bs 0 h4 k4 (.inr trivial) λb hb=>?_);rw[hb,n1,n2,CK];exact hq
theorem yy (hx:qp s.heap x r)(hy:qp s.heap y t)(hu:A.units+1<cLine)(hq:Q (jF r t) s):ay (model prog w) A (keyLt' general' x y) Q E s:=by
 obtain⟨a,o,xs,n,as,rfl,h1,h2,h3,h4⟩:=hx;obtain⟨b,o',ys,m,bs,rfl,k1,k2,k3,k4⟩:=hy;have e:∀x y,keyLt' general' x y=oneLt' false x y:=λ_ _=>rfl;rw[e];exact kat_one _ _ (Ru 1 (.tuple (r.map .int)) (.tuple (t.map .int)) (jF r t) A s _ _ as bs (by rw[ad.depth,pI];exact am _) (.tuple h1 h2 h3 h4) (.tuple k1 k2 k3 k4) (by rw[ad.canLay0];exact kf r) (by rw[ad.canLay0];exact kf t) hu (by rw[pH];exact wA r t) prog w _ _ hq)
theorem JT (hx:qp s.heap x row)(hy:qp s.heap y oK)(hu:A.units+2<cLine)(hq:Q (jF row oK) s):ay (model prog w) A (keyLt' oneType' x y) Q E s:=by
 obtain⟨a,⟨c1,d1,data,s1⟩,xs,n,as,rfl,h1,h2,h3,h4⟩:=hx;obtain⟨b,⟨c2,d2,data2,s2⟩,ys,m,bs,rfl,k1,k2,k3,k4⟩:=hy;simp only at h2 h3 k2 k3;subst h2 h3 k2 k3;rw[keyLt'_oneType,oneLt'_eq];simp only[if_true];refine aa (wpAny_cRoomFor (!1) ?_);have n1:xs.size=row.length:=by have:=SeqAt.ReadsAll.length _ _ _ h4;simpa using this
 have n2:ys.size=oK.length:=by have:=SeqAt.ReadsAll.length _ _ _ k4;simpa using this
 have he:∀j (j1:j<xs.size) (j2:j<ys.size),SeqAt.EqAt A.in1 s xs[j] ys[j] (SeqAt.pairEq (row.map ad.int) (oK.map ad.int) j):=λj j1 j2=>by
  have U':A.in1.units+min (ad.depthAll (row.map ad.int)) (ad.depthAll (oK.map ad.int))<cLine:=by rw[pI];show A.units+1+_<_;omega
  have q:=SeqAt.eqAt_readsAll (row.map ad.int) (oK.map ad.int) A.in1 s xs.toList ys.toList _ _ h4 k4 (kf row) (kf oK) U' j (by simpa using j1) (by simpa using j2);rw[bE,bE] at q;exact q
 have hf:∀j (j1:j<xs.size) (j2:j<ys.size),(∀i<j,SeqAt.pairEq (row.map ad.int) (oK.map ad.int) i=true)->SeqAt.pairEq (row.map ad.int) (oK.map ad.int) j=false->wo .Lt A.in1 s xs[j] ys[j] ((pH false ((row.map ad.int).getD j .none) ((oK.map ad.int).getD j .none)).getD false):=λj j1 j2 _ _=>by
  obtain⟨Wq,r1⟩:=kc h4 (j:=j) (by simpa using j1);obtain⟨Wr,r2⟩:=kc k4 (j:=j) (by simpa using j2);have e1:(row.map ad.int).getD j .none=.int (row.getD j 0):=by simp[aE,show j<row.length by omega]
  have e2:(oK.map ad.int).getD j .none=.int (oK.getD j 0):=by simp[aE,show j<oK.length by omega]
  rw[e1,bE] at r1;rw[e2,bE] at r2;rw[e1,e2];generalize xs[j]=X1 at r1 ⊢;generalize ys[j]=Y1 at r2 ⊢;cases r1;cases r2;exact CD _ _ _ _ _ _
 refine aa (wpAny_callSpecialIfBound?_slot ⟨_,h1,rfl⟩ F.slot_tuple_lt (call_meets F.slot_tuple_lt ⟨_,h1,rfl⟩ F.entry_tuple_lt (F.args_tuple_lt_2 _ _) (GK a b xs ys n m d1 d2 s1 s2 _ _) ⟨h1,k1,he,hf,?_⟩));have:=lex_lt (row.map ad.int) (oK.map ad.int) _ (wA row oK);rw[aj,aj,<- n1,<- n2] at this;rw[this];exact wpAny_truthy_bool hq
theorem AG {vs:List ae}(h:∀v∈vs,qp s.heap v (kh s.heap v))(hu:A.units+2<cLine):wq prog w A vs s (λp=>JS (p.toList.map λi=>kh s.heap (vs.getD i ae.none))):=λh2=>by
 obtain⟨κ,hk,kk⟩:=Ec (prog:=prog) (w:=w) (A:=A) (λv hv=>(h v hv).tup) h2;have hz:(vs.toArray.zip vs.toArray).size=vs.length:=by simp
 refine⟨κ,kk,λE=>AD (key:=λx=>Oj (vs.map (kh s.heap)) (kh s.heap x.1)) (a₀:=vs.toArray.zip vs.toArray) (κ:=κ) (Q:=λ_ eK=>∃p:Array Nat,RA vs.length p/\JS (p.toList.map λi=>kh s.heap (vs.getD i ae.none))/\arrOf eK=p.map (kas_item (vs.toArray.zip vs.toArray))/\failedOf eK=none) ⟨⟨Array.Perm.refl _,rfl,rfl,rfl,bL _⟩,λr hr=>by cases hr⟩ (λx hx y hy=>?_) λeK hp hn hf=>?_⟩
 .obtain⟨i,hi,rfl⟩:=Array.getElem_of_mem hx
  obtain⟨j,hj,rfl⟩:=Array.getElem_of_mem hy;intro C hC;have SY:vs[i]'(!1)∈vs:=bT _;have Vh:vs[j]'(!1)∈vs:=bT _;have e1:((vs.toArray.zip vs.toArray)[i]).1=vs[i]'(!1):=by simp
  have e2:((vs.toArray.zip vs.toArray)[j]).1=vs[j]'(!1):=by simp
  have e:decide (Oj (vs.map (kh s.heap)) (kh s.heap ((vs.toArray.zip vs.toArray)[i]).1)<Oj (vs.map (kh s.heap)) (kh s.heap ((vs.toArray.zip vs.toArray)[j]).1))=jF (kh s.heap (vs[i]'(!1))) (kh s.heap (vs[j]'(!1))):=by
   simp only[e1,e2];exact Ls (List.mem_map_of_mem SY)
  replace hC:C (jF (kh s.heap (vs[i]'(!1))) (kh s.heap (vs[j]'(!1)))) s:=e ▸ hC;rw[e1,e2];rcases hk with rfl | rfl | rfl
  .exact AF (h _ SY) (h _ Vh) (!1) hC
  .exact yy (h _ SY) (h _ Vh) (!1) hC
  .exact JT (h _ SY) (h _ Vh) (!1) hC
 .obtain⟨p,h1,h2⟩:=JP ((ae.none,ae.none):Keyed) (cj.mp hp)
  have ig:∀i∈p,i<vs.length:=λi hi=>by have:=h1.mem_iff.mp hi;simpa [hz] using this
  refine⟨p.toArray,?_,?_,?_,hf⟩
  rotate_left 2
  .refine cQ.mp ?_
   rw[h2];simp[kas_item]
  .rw[RA,cj]
   simpa [hz] using h1
  .rw[h2] at hn
   rw[List.toList_toArray];refine cu.mpr ((cu.mp hn).imp_of_mem ?_);intro i j hi hj tj;have hi:=ig i hi;have hj:=ig j hj;have e:∀i,i<vs.length->((vs.toArray.zip vs.toArray).toList.getD i ((ae.none,ae.none):Keyed)).1=vs.getD i ae.none:=λi hi=>by simp[aE,hi]
   have hm:kh s.heap (vs.getD j ae.none)∈vs.map (kh s.heap):=List.mem_map_of_mem (by rw[aE,aV hj];exact bT _);have:=Ls (R:=vs.map (kh s.heap)) (b:=kh s.heap (vs.getD i ae.none)) hm;rw[<- this];refine decide_eq_false ?_;simp only[e i hi,e j hj] at tj;omega
end
section
theorem AH (hM:N<=1000000)(hu:X.A.units+64<cLine):gj X (.builtin "sorted") (λxs H Q=>∃(p:Addr) (ys:List V) (S:List Addr) (rs:List (List Int)),xs=[.ref p]/\gn X.K H p ys/\dP S H (rs.map lp) ys/\rs.length<N/\∀(l:Addr) (Vi:List V),dP S H ((gY rs).map lp) Vi->H l=none->Q (.ref l) (eR H l (.lst Vi))):=by
 intro pins s σ H xs us Q I r h;obtain⟨p,ys,S,rs,rfl,hp,hr,HP,q⟩:=h;obtain⟨u,rfl,ru⟩:=vals1 r;cases ru;obtain⟨its,rv,ht,hz⟩:=I.list hp;have eX:its.length=rs.length:=by rw[<- rv.length,hr.length,aj]
 refine Av (G:=λp=>JS (p.toList.map λi=>rs.getD i [])) (λh2=>?_) ht.isList (!1) (λs' held A' hA=>?_) λpm QD Ol=>?_
 .rw[eX] at h2 ⊢
  rw[List.toList_toArray]
  match rs,h2 with
  | [],_=>exact List.Pairwise.nil
  | [a],_=>simp[JS]
 .have G6:∀j (hj:j<its.length),qp s'.heap its[j] (rs.getD j []):=λj hj=>by
   obtain⟨as,ra⟩:=dP.reads (I.kept (h':=s'.heap) (t':=s.toks) held).hok (GS rs) hr rv;obtain⟨bs,rj⟩:=kc ra hj;have e:(rs.map lp).getD j .none=lp (rs.getD j []):=by simp[aE,show j<rs.length by omega]
   rw[e,lp] at rj;generalize its[j]=z at rj ⊢
   cases rj with
   | tuple a1 a2 a3 a4=>exact⟨_,_,_,_,_,rfl,a1,a2,a3,a4⟩
  have:=AG (prog:=X.prog) (w:=X.w) (A:=A') (s:=s') (vs:=its) (λv hv=>by
   obtain⟨j,hj,rfl⟩:=cb hv;rw[(G6 j hj).row];exact G6 j hj) (!1)
  intro h2;obtain⟨κ,kk,kr⟩:=this h2;refine⟨κ,kk,λE=>bJ (kr E) ?_ λ_ _ e=>e⟩;rintro r s2 ⟨rfl,p,hp,Ol,rest⟩;refine⟨rfl,p,hp,?_,rest⟩;have mL:p.toList.Perm (List.range its.length):=by have:=cj.mp hp;simpa using this
  show JS (p.toList.map λi=>rs.getD i [])
  rw[show (p.toList.map λi=>rs.getD i [])=p.toList.map λi=>kh s2.heap (its.getD i ae.none) from cy λi hi=>by
   have hi:i<its.length:=by simpa using mL.mem_iff.mp hi
   rw[aE (l:=its),aV hi,Option.getD_some,(G6 i hi).row]]
  exact Ol
 .have mL:pm.toList.Perm (List.range rs.length):=by have:=cj.mp QD;simpa [eX] using this
  have ig:∀j∈pm.toList,j<rs.length:=λj hj=>by simpa using mL.mem_iff.mp hj
  have hv:ee (pm.toList.map λj=>ys.getD j .gB) (pm.toList.map λj=>its.getD j ae.none):=rv.pick _ λj hj=>by rw[eX];exact ig j hj
  have Wx:=hr.pick _ ig
  have Vj:(pm.toList.map λj=>rs.getD j []).Perm rs:=by
   have:=mL.map λj=>rs.getD j [];rwa [show (List.range rs.length).map (λj=>rs.getD j [])=rs from du (!4) λi h1 h2=>by simp[aE,h2]] at this
  rw[u6 Vj Ol] at Wx;have hsz:(pm.toList.map λj=>ys.getD j V.gB).length<=ax:=by rw[aj,mL.length_eq,b9,show ax=16777216 by decide];omega
  have kp:∀b o,s.heap.get? b=some o->(sortedAll s.heap its (cP (pm.toList.map λj=>its.getD j ae.none))).get? b=some o:=λb o e=>sortedAll_old e;obtain⟨n,nw⟩:=sortedAll_at s.heap its (cP (pm.toList.map λj=>its.getD j ae.none));exact⟨.ref (s.heap.objs.size+1),_,I.laid (t':=s.toks) (o:=.lst (pm.toList.map λj=>ys.getD j V.gB)) kp (b8 _) ⟨hsz,_,n,hv,by simpa using nw⟩,rfl,q _ _ Wx (I.hok.fresh (b8 _))⟩
end
noncomputable def yz (u:UX):fh->Int->(List ad->Int->Prop)->Prop:=λenv n Q=>u env n λd n1=>match d with | .list ds=>pk (pJ ds) λrs=>rs.length<4000/\Q ((gY rs).map lp) n1 | _=>False
section
theorem CL (hm:X.mg "sorted" = none)(hu:X.A.units+64<cLine)(h:KL X M e u)(hg:Gl X "sorted" := by rfl)(hs:e8 e=true:=by rfl):KN X M (.Call (.Name "sorted" p) [e] [] pos) (yz u) :=
 .of (fO (AH (N:=4000) (!2) hu) hg hm (!3) (gm h.run eY hs)) λσ H R env pn S n Q ok hu k=>⟨env,pn,S,n,_,ok,hu,λv H1 d n1 r1 x1 g1 _ q=>by
  cases d with
  | list es =>
   obtain⟨rs,ei,hl,q⟩:=q;have e2:=u4 ei;subst e2;obtain⟨a,xs,rfl,sq,_,rr⟩:=r1.OQ (K:=X.K);refine⟨a,xs,S,rs,rfl,sq,rr,hl,λl Vi G7 hl=>?_⟩;exact k l _ _ _ n1 (Al ok x1 g1 hl) dM ((G7.fresh hl).ext (.new hl)) (x1.trans (.new hl)) (M.ik g1 (.new (S:=[]) hl) (!4)) q
  | _=>exact False.elim q⟩
end
noncomputable abbrev iO:=List (List Int × ad)
noncomputable def wF (t:Bool)(d:ad):Option (List Int):=match t,d with | false,.int i=>some [i] | true,.tuple ds=>iq ds | _,_=>none
noncomputable def eP (kvs:iO)(k:List Int):Option ad:=(kvs.find? λp=>decide (p.1=k)).map (·.2)
noncomputable def iG (kvs:iO)(k:List Int)(d:ad):iO:=if (kvs.any λp=>decide (p.1=k))=true then kvs.map (λp=>if p.1=k then (p.1,d) else p) else kvs++[(k,d)]
section
variable {κ:Type}[DecidableEq κ]{S:List Addr}{H:Hp}{f:List Int->κ}
noncomputable def ni (f:List Int->κ):iO->List V->List (κ × V)
 | p::kvs,x::xs=>(f p.1,x)::ni f kvs xs
 | _,_=>[]
theorem wG (f:List Int->κ):∀{kvs:iO} {xs:List V},dP S H (kvs.map (·.2)) xs->(ni f kvs xs).length=kvs.length
 | [],_,r=>by cases r.fz;rfl
 | p::kvs,_,r=>by
  obtain⟨x,t,rfl,r1,r2⟩:=r.of_cons;rw[ni,ap,wG f r2,ap]
theorem wH:∀{kvs:iO} {xs:List V},dP S H (kvs.map (·.2)) xs->(∀p∈kvs,f p.1=f k->p.1=k)->(eP kvs k=none/\gR (ni f kvs xs) (f k)=none)\/∃d v,eP kvs k=some d/\gR (ni f kvs xs) (f k)=some v/\eB S H d v
 | [],_,r,_=>by cases r.fz;exact .inl ⟨rfl,rfl⟩
 | p::kvs,_,r,inj=>by
  obtain⟨x,t,rfl,r1,r2⟩:=r.of_cons;by_cases e:p.1=k
  .refine .inr ⟨p.2,x,?_,?_,r1⟩
   .unfold eP;rw[bQ,decide_eq_true e];rfl
   .rw[ni,fZ (by rw[e])]
  .have e2:¬ f p.1=f k:=λz=>e (inj p (ar ..) z)
   have ih:=wH r2 λq hq=>inj q (ao _ hq);have h1:eP (p::kvs) k=eP kvs k:=by unfold eP;rw[bQ,decide_eq_false e]
   rw[h1,ni,f6 (p:=(f p.1,x)) e2];exact ih
theorem CM:∀{kvs:iO} {xs:List V},dP S H (kvs.map (·.2)) xs->(∀p∈kvs,f p.1=f k->p.1=k)->((ni f kvs xs).any λkv=>decide (kv.1=f k))=kvs.any λp=>decide (p.1=k)
 | [],_,r,_=>by cases r.fz;rfl
 | p::kvs,_,r,inj=>by
  obtain⟨x,t,rfl,r1,r2⟩:=r.of_cons;rw[ni,cJ,cJ,CM r2 λq hq=>inj q (ao _ hq)];congr 1;rw[decide_eq_decide];exact⟨inj p (ar ..),λz=>by rw[z]⟩
theorem CN (rv:eB S H d v):∀{kvs:iO} {xs:List V},dP S H (kvs.map (·.2)) xs->(∀p∈kvs,f p.1=f k->p.1=k) ->
  ∃ys,(ni f kvs xs).map (λkv=>if kv.1=f k then (kv.1,v) else kv)=ni f (kvs.map λp=>if p.1=k then (p.1,d) else p) ys/\dP S H ((kvs.map λp=>if p.1=k then (p.1,d) else p).map (·.2)) ys
 | [],_,r,_=>⟨[],by cases r.fz;rfl,.nil⟩
 | p::kvs,_,r,inj=>by
  obtain⟨x,t,rfl,r1,r2⟩:=r.of_cons;obtain⟨ys,h1,h2⟩:=CN rv r2 λq hq=>inj q (ao _ hq);by_cases e:p.1=k
  .refine⟨v::ys,?_,?_⟩
   .rw[ni,ak,ak,h1,if_pos e,ni,if_pos (by rw[e])]
   .rw[ak,ak,if_pos e]
    exact .cons rv h2
  .have e2:¬ f p.1=f k:=λz=>e (inj p (ar ..) z)
   refine⟨x::ys,?_,?_⟩
   .rw[ni,ak,ak,h1,if_neg e,ni,if_neg e2]
   .rw[ak,ak,if_neg e]
    exact .cons r1 h2
theorem yB:∀{kvs:iO} {xs:List V} (d:ad),dP S H (kvs.map (·.2)) xs->ni f kvs xs++[(f k,v)]=ni f (kvs++[(k,d)]) (xs++[v])
 | [],_,d,r=>by cases r.fz;rfl
 | p::kvs,_,d,r=>by
  obtain⟨x,t,rfl,r1,r2⟩:=r.of_cons;rw[ni,bj,yB d r2];rfl
theorem CO (rv:eB S H d v)(r:dP S H (kvs.map (·.2)) xs)(inj:∀p∈kvs,f p.1=f k->p.1=k) :
  ∃ys,kD (ni f kvs xs) (f k) v=ni f (iG kvs k d) ys/\dP S H ((iG kvs k d).map (·.2)) ys:=by
 unfold kD iG;rw[CM r inj];split
 .exact CN rv r inj
 .refine⟨xs++[v],yB d r,?_⟩
  rw[a9];exact r.append (.cons rv .nil)
end
theorem AI:∀(kvs:iO) (xs:List V),EK kvs xs=ni (λk=>(Sum.inl (k.headD 0):Key)) kvs xs
 | [],xs=>by cases xs<;>rfl
 | p::kvs,[]=>rfl
 | p::kvs,x::xs=>by rw[EK,ni,AI kvs xs]
theorem AJ:∀(kvs:iO) (xs:List V),HN kvs xs=ni (λk=>(k.map Sum.inl:List Key)) kvs xs
 | [],xs=>by cases xs<;>rfl
 | p::kvs,[]=>rfl
 | p::kvs,x::xs=>by rw[HN,ni,AJ kvs xs]
theorem CP:∀{a b:List Int},(a.map Sum.inl:List Key)=b.map Sum.inl->a=b
 | [],[],_=>rfl
 | [],_::_,h=>by cases h
 | _::_,[],h=>by cases h
 | x::a,y::b,h=>by
  rw[ak,ak] at h;injection h with h1 h2;injection h1 with h1;rw[h1,CP h2]
theorem one_inj {a b:List Int}(ha:a.length=1)(hb:b.length=1)(h:(Sum.inl (a.headD 0):Key)=Sum.inl (b.headD 0)):a=b:=by
 match a,b,ha,hb with
 | [x],[y],_,_=>injection h with h;simpa using h
theorem my {gs S:List Addr}{H:Hp}{t:Bool}{d:ad}{v:V}{k:List Int}(r:fC gs S H d v)(e:wF t d=some k):(t=false->k.length=1) /\
  (∀(a:Addr) (kvs:iO) (xs:List V),H a=some (wV t kvs xs)->dP S H (kvs.map (·.2)) xs->(t=false->∀p∈kvs,p.1.length=1) ->
   ((eP kvs k=none/\ll H a v none)\/∃d v',eP kvs k=some d/\ll H a v (some v')/\eB S H d v') /\
   ∀(d':ad) (v':V),eB S H d' v'->kvs.length<ax->∃ys,rF H a v v' (eR H a (wV t (iG kvs k d') ys))/\dP S H ((iG kvs k d').map (·.2)) ys):=by
 cases t with
 | false =>
  obtain⟨i,rfl⟩:∃i,d=.int i:=by
   cases d with
   | int i=>exact⟨i,rfl⟩
   | _=>cases e
  cases e;rw[r.eO];refine⟨λ_=>rfl,λa kvs xs ha rr hk=>?_⟩;have lx:H a=some (.dK (ni (λk=>(Sum.inl (k.headD 0):Key)) kvs xs)):=by rw[<- AI];exact ha
  have inj:∀p∈kvs,(Sum.inl (p.1.headD 0):Key)=Sum.inl (([i]:List Int).headD 0)->p.1=[i]:=λp hp h=>one_inj (hk rfl p hp) rfl h;refine⟨?_,λd' v' rv hl=>?_⟩
  .have hg:ll H a (.int i) (gR (ni (λk=>(Sum.inl (k.headD 0):Key)) kvs xs) (Sum.inl i)):=ll.k (k:=Sum.inl i) lx
   rcases wH (f:=λk=>(Sum.inl (k.headD 0):Key)) (k:=[i]) rr inj with⟨h1,h2⟩ | ⟨d,v,h1,h2,h3⟩
   .have Qx:gR (ni (λk=>(Sum.inl (k.headD 0):Key)) kvs xs) (Sum.inl i)=none:=h2
    rw[Qx] at hg;exact .inl ⟨h1,hg⟩
   .have Qx:gR (ni (λk=>(Sum.inl (k.headD 0):Key)) kvs xs) (Sum.inl i)=some v:=h2
    rw[Qx] at hg;exact .inr ⟨d,v,h1,hg,h3⟩
  .obtain⟨ys,h1,h2⟩:=CO (f:=λk=>(Sum.inl (k.headD 0):Key)) (k:=[i]) rv rr inj
   refine⟨ys,?_,h2⟩;have hp:=rF.k (k:=Sum.inl i) (v:=v') lx (by rw[wG _ rr];exact hl);have Yt:kD (ni (λk=>(Sum.inl (k.headD 0):Key)) kvs xs) (Sum.inl i) v'=ni (λk=>(Sum.inl (k.headD 0):Key)) (iG kvs [i] d') ys:=h1;rw[Yt,<- AI] at hp;exact hp
 | true =>
  obtain⟨ds,rfl⟩:∃ds,d=.tuple ds:=by
   cases d with
   | tuple ds=>exact⟨ds,rfl⟩
   | _=>cases e
  have e':ds=k.map .int:=iu e;subst e';obtain⟨b,ys,rfl,hb,rb⟩:=r.fY;rw[jd rb] at hb;have NK:H b=some (.tup ((k.map (Sum.inl:Int->Key)).map kV)):=by rw[bv];exact hb
  refine⟨(λz=>by cases z),λa kvs xs ha rr hk=>?_⟩;have lx:H a=some (.dT (ni (λk=>(k.map Sum.inl:List Key)) kvs xs)):=by rw[<- AJ];exact ha
  have inj:∀p∈kvs,(p.1.map Sum.inl:List Key)=k.map Sum.inl->p.1=k:=λp _ h=>CP h;refine⟨?_,λd' v' rv hl=>?_⟩
  .have hg:=ll.t lx NK
   rcases wH (f:=λk=>(k.map Sum.inl:List Key)) (k:=k) rr inj with⟨h1,h2⟩ | ⟨d,v,h1,h2,h3⟩
   .rw[h2] at hg
    exact .inl ⟨h1,hg⟩
   .rw[h2] at hg
    exact .inr ⟨d,v,h1,hg,h3⟩
  .obtain⟨ys,h1,h2⟩:=CO (f:=λk=>(k.map Sum.inl:List Key)) (k:=k) rv rr inj
   refine⟨ys,?_,h2⟩;have hp:=rF.t (v:=v') lx NK (by rw[wG _ rr];exact hl);rw[h1,<- AJ] at hp;exact hp
theorem Ext.Vk (hp:p∈S)(h:H p=Option.some (wV t kvs xs)):Ext S H (eR H p o) :=
 ⟨λb u hb e=>by rw[dS (λ(z:b=p)=>hb (by rw[z];exact hp))];exact e,λb ys e=>by rw[dS (λz=>by rw[z,h] at e;cases t<;>cases e)];exact e⟩
theorem Ext.RL (a:Ext S H0 H)(h0:H0 p=none):Ext S H0 (eR H p o) :=
 ⟨λb u hb e=>by rw[dS (λz=>by rw[z,h0] at e;cases e)];exact a.keep b u hb e,λb ys e=>by rw[dS (λz=>by rw[z,h0] at e;cases e)];exact a.tup b ys e⟩
noncomputable def Om (env:fh)(i:Nat)(a:Addr):Prop:=∀j t kvs,j≠i->env[j]? ≠ some (some (.d a t kvs))
section
theorem dY.Vl (ok:dY M env pn σ S H n)(h0:H a=none)(h1:H' a=some (wV t kvs xs))(r:dP (a::S) H' (kvs.map (·.2)) xs)(hk:t=false->∀p∈kvs,p.1.length=1)(x:Ext M.gs H H')(g:M.G H' n')(hi:i ∉ M.fd) :
  dY M (env.set i (some (.d a t kvs))) pn (σ.set i (some (.ref a))) (a::S) H' n':=by
 have hg:∀b∈M.gs,b∈a::S:=λb hb=>ao _ (ok.tf b hb);have lu:=ok.step x g;refine⟨λj e he=>?_,λj k ds es b h2 h3 h4 h5=>?_,by rw[a7,a7,ok.len],λj hj=>?_,g,lu.ext,λb hb=>ao _ (ok.s0 b hb),λb hb=>?_,λb hb=>?_,λp hp=>?_⟩
 .rcases eN he with⟨rfl,e1⟩ | ⟨ne,e1⟩
  .cases e1
   have:i<env.length:=by
    by_cases z:i<env.length
    .exact z
    .rw[bp (by rw[a7];omega)] at he;cases he
   exact⟨.ref a,kH (by rw[<- ok.len];exact this),rfl,xs,h1,r,hk,ar ..,ok.anew h0⟩
  .obtain⟨v',hv,rv⟩:=ok.val j e e1
   exact⟨v',by rw[aK ne];exact hv,(rv.fresh h0).step hg x⟩
 .rcases eN h2 with⟨_,e1⟩ | ⟨n1,e1⟩
  .cases e1
  .rcases eN h3 with⟨_,e2⟩ | ⟨n2,e2⟩
   .cases e2
   .rw[aK n1] at h4
    rw[aK n2] at h5;exact ok.ne j k ds es b e1 e2 h4 h5
 .have:i≠j:=λz=>hi (z ▸ hj)
  rw[aK this];exact ok.D3 j hj
 .rcases au.mp hb with z | z
  .rw[z];exact .inr (ok.anew h0)
  .exact ok.sn b z
 .rcases au.mp hb with z | z
  .rw[z,h1];simp
  .exact lu.has b z
 .exact ((ok.pin p hp).fresh h0).ext (x.mono hg)
theorem dY.only (ok:dY M env pn σ S H n)(h0:H a=none)(j:Nat)(t:Bool)(kvs:iO):env[j]? ≠ some (some (.d a t kvs)):=λz=>by
 obtain⟨v,_,_,xs,ha,_,_,hs,_⟩:=ok.val j _ z;exact ok.has a hs h0
theorem dY.putD (ok:dY M env pn σ S H n)(he:env[i]? = some (some (.d a t kvs)))(ho:Om env i a)(r:dP S H (gT.map (·.2)) ys)(hk:t=false->∀p∈gT,p.1.length=1) :
  dY M (env.set i (some (.d a t gT))) pn σ S (eR H a (wV t gT ys)) n:=by
 obtain⟨v',hv,rfl,xs,ha,_,_,hs,h0⟩:=ok.val i _ he;have x:Ext [a] H (eR H a (wV t gT ys)):=.Vk (!4) ha;have xS:Ext S H (eR H a (wV t gT ys)):=x.mono (by simpa using hs);refine⟨λj e hj=>?_,λj k qD ji b h2 h3 h4 h5=>?_,by rw[a7,ok.len],ok.D3,M.ik ok.gd x (by simpa using h0),ok.ext.RL h0,ok.s0,ok.sn,λb hb=>?_,λp hp=>(ok.pin p hp).ext xS⟩
 .rcases eN hj with⟨rfl,e1⟩ | ⟨ne,e1⟩
  .cases e1
   exact⟨_,hv,rfl,ys,dM,r.ext xS,hk,hs,h0⟩
  .obtain⟨w,hw,oY⟩:=ok.val j e e1
   refine⟨w,hw,?_⟩
   cases e with
   | s d=>exact eB.ext xS oY
   | o ji =>
    obtain⟨b,zs,e2,hb,r2,DF,Gp⟩:=oY;subst e2;exact⟨b,zs,rfl,by rw[dS (λz=>by rw[z,ha] at hb;exact nX hb.symm)];exact hb,r2.ext xS,DF,Gp⟩
   | x c as =>
    obtain⟨b,dx,vs,e2,hb,hd,r2,g1,g2⟩:=oY;exact⟨b,dx,vs,e2,by rw[dS (λz=>by rw[z,ha] at hb;cases t<;>cases hb)];exact hb,by rw[dS (λz=>by rw[z,ha] at hd;cases t<;>cases hd)];exact hd,r2.ext xS,g1,g2⟩
   | d b t2 Yu =>
    obtain⟨e2,zs,hb,r2,DC,DF,Gp⟩:=oY;have Yv:b≠a:=λz=>ho j t2 Yu (λz2=>ne z2.symm) (z ▸ e1);exact⟨e2,zs,by rw[dS Yv];exact hb,r2.ext xS,DC,DF,Gp⟩
 .rcases eN h2 with⟨_,e1⟩ | ⟨n1,e1⟩
  .cases e1
  .rcases eN h3 with⟨_,e2⟩ | ⟨n2,e2⟩
   .cases e2
   .exact ok.ne j k qD ji b e1 e2 h4 h5
 .by_cases z:b=a
  .rw[z,dM];simp
  .rw[dS z];exact ok.has b hb
end
theorem ER {X:Cx}(h:X.A.units+64<cLine):X.A.units+1<cLine:=by omega
noncomputable def CQ (i:Nat)(t:Bool):US:=λE env n=>∀a:Addr,(∀(j:Nat) (t':Bool) (kv:iO),env[j]? ≠ some (some (oq.d a t' kv)))->E.nx (env.set i (some (.d a t []))) n
noncomputable def oM (i:Nat)(uk uv:UX):US:=λE env n=>uv env n λd n1=>match env[i]? with | some (some (.d a t kvs))=>uk env n1 λk n2=>pk (wF t k) λkk=>(kvs.length<ax/\Om env i a)/\E.nx (env.set i (some (.d a t (iG kvs kk d)))) n2 | _=>False
noncomputable def sv (i:Nat)(uk:UX):UX:=λenv n Q=>match env[i]? with | some (some (.d a t kvs))=>uk env n λk n1=>pk (wF t k) λkk=>pk (eP kvs kk) λd=>Q d n1 | _=>False
noncomputable def wI (i:Nat)(uk:UX):UX:=λenv n Q=>uk env n λk n1=>match env[i]? with | some (some (.d a t kvs))=>pk (wF t k) λkk=>Q (.bool (eP kvs kk).isSome) n1 | _=>False
theorem JU (hk:t=false->∀p∈kvs,p.1.length=1)(h1:t=false->k.length=1):t=false->∀p∈iG kvs k d,p.1.length=1:=λht p hp=>by
 unfold iG at hp;split at hp
 .obtain⟨q,hq,rfl⟩:=a5.mp hp
  split
  .exact hk ht q hq
  .exact hk ht q hq
 .rcases aB.mp hp with hp | hp
  .exact hk ht p hp
  .rw[av.mp hp];exact h1 ht
section
theorem CS (hN:X.N.Nodup)(hx:Loc X.env.scope x)(hi:X.N[i]? = some x:=by rfl)(hs:swapsWith (.Dict [] [] p) (some (.Name x iD)) pos.line X.env=pure false:=by rfl)
  (hf:X.fn x=true\/X.env.scope.names.lookup x=some .local:=by (first | exact .inl rfl | exact .inr rfl | assumption)) (hfd:i ∉ M.fd:=by decide):KS X M (.Assign [.Name x iD] (.Dict [] [] p) pos) (CQ i false):=.of (jk hN hi hx rG hs hf) λD σ H env pn S n E ok hu k1 k2 a ha =>
 k1 _ _ _ _ _ (ok.Vl (t:=false) (kvs:=[]) (xs:=[]) ha dM .nil (!4) (.new ha) (ok.grow (.new ha)) hfd) (hu a λj t kv=>ok.only ha j t kv)
theorem AK (i:Nat)(hu:X.A.units+1<cLine)(hk:KL X M ke uk)(hv:KE X M ve uv)(hN:X.N[i]? = some x:=by rfl)(G8:s9 X.env.scope x:=by (first | exact Or.inl rfl | exact Or.inr (Or.inl rfl) | exact Or.inr (Or.inr rfl)))(hd:(x == ("__debug__" : Str))=false:=by decide)(gP:(x == ("__classdict__" : Str))=false:=by decide)
  (hs:swapsWith ve (some (.Subscript (.Name x p) ke iD)) pos.line X.env=pure false:=by rfl):KS X M (.Assign [.Subscript (.Name x p) ke iD] ve pos) (oM i uk uv):=.of (vM hu (qv i hN G8 hd gP) hk.run hv.run hs) λD σ H env pn S n E ok tm k1 k2=>by
 refine⟨env,pn,S,n,_,ok,tm,λv H1 d n1 r1 x1 g1 _ q=>?_⟩;have mO:=ok.step x1 g1;split at q
 .rename_i a t kvs he
  obtain⟨v0,Ei,rfl,xs,ha,rr,HW,Vm,h0⟩:=mO.val i _ he;refine⟨_,Ei,env,pn,S,n1,_,mO,q,λy H3 kd n2 r2 x2 g2 _ q2=>?_⟩;obtain⟨kk,ek,⟨hl,ho⟩,q2⟩:=q2;have HY:=mO.step x2 g2;obtain⟨Wy,RN,e',nO,lx,G7,tU,_,_⟩:=HY.val i _ he;obtain⟨h1,h2⟩:=my r2 ek;obtain⟨ys,hp,hr⟩:=(h2 a kvs nO lx G7 tU).2 d v (r1.ext (x2.mono mO.tf)) hl;exact⟨a,_,rfl,hp,k1 _ _ _ _ _ (HY.putD he ho hr (JU tU h1)) q2⟩
 .exact q.elim
theorem G9 (i:Nat)(hu:X.A.units+1<cLine)(hk:KL X M ke uk)(hN:X.N[i]? = some x:=by rfl)(G8:s9 X.env.scope x:=by (first | exact Or.inl rfl | exact Or.inr (Or.inl rfl) | exact Or.inr (Or.inr rfl)))(hd:(x == ("__debug__" : Str))=false:=by decide)(gP:(x == ("__classdict__" : Str))=false:=by decide)
  (hs:FN ke:=by exact λ_ _=>rfl):KE X M (.Subscript (.Name x p) ke pos) (sv i uk):=.of (qA hu (qv i hN G8 hd gP) hk.run hs) λσ H R env pn S n Q ok tm k=>by
 unfold sv at tm;split at tm
 .rename_i a t kvs he
  obtain⟨v0,Ei,rfl,xs,ha,rr,HW,Vm,h0⟩:=ok.val i _ he;refine⟨_,Ei,env,pn,S,n,_,ok,tm,λy H1 kd n1 r1 x1 g1 _ q=>?_⟩;obtain⟨kk,ek,d,ed,q⟩:=q;have mO:=ok.step x1 g1;obtain⟨Wy,RN,e',nO,lx,G7,tU,_,_⟩:=mO.val i _ he;rcases ((my r1 ek).2 a kvs nO lx G7 tU).1 with⟨z,_⟩ | ⟨d',v',z,hg,hr⟩
  .rw[z] at ed;cases ed
  .rw[z] at ed
   cases ed;exact⟨a,v',rfl,hg,k v' H1 _ n1 hr x1 g1 q⟩
 .exact tm.elim
theorem Lu (i:Nat)(hu:X.A.units+1<cLine)(hk:KL X M ke uk)(hN:X.N[i]? = some x:=by rfl)(G8:s9 X.env.scope x:=by (first | exact Or.inl rfl | exact Or.inr (Or.inl rfl) | exact Or.inr (Or.inr rfl)))(hd:(x == ("__debug__" : Str))=false:=by decide)(gP:(x == ("__classdict__" : Str))=false:=by decide)
  (hm:behindInMarks .In (.Name x p)=false:=by first | exact lz _ | rfl):KE X M (.Compare ke [.In] [.Name x p] pos) (wI i uk):=.of (⟨LU (FO hu hk.run.run (qv i hN G8 hd gP).run) hm⟩:QE X _ _) λσ H R env pn S n Q ok tm k=>by
 refine⟨env,pn,S,n,_,ok,tm,λy H1 kd n1 r1 x1 g1 _ q=>?_⟩;have mO:=ok.step x1 g1;split at q
 .rename_i a t kvs he
  obtain⟨kk,ek,q⟩:=q;obtain⟨v0,Ei,rfl,nO,lx,G7,tU,_,_⟩:=mO.val i _ he;rcases ((my r1 ek).2 a kvs nO lx G7 tU).1 with⟨z,hg⟩ | ⟨d',v',z,hg,hr⟩
  .rw[z] at q
   exact⟨_,Ei,a,_,rfl,hg,k _ H1 _ n1 (.bl _) x1 g1 q⟩
  .rw[z] at q
   exact⟨_,Ei,a,_,rfl,hg,k _ H1 _ n1 (.bl _) x1 g1 q⟩
 .exact q.elim
theorem RO (i:Nat)(hu:X.A.units+1<cLine)(hk:KL X M ke uk)(hN:X.N[i]? = some x:=by rfl)(G8:s9 X.env.scope x:=by (first | exact Or.inl rfl | exact Or.inr (Or.inl rfl) | exact Or.inr (Or.inr rfl)))(hd:(x == ("__debug__" : Str))=false:=by decide)(gP:(x == ("__classdict__" : Str))=false:=by decide)
  (hm:behindInMarks .In (.Name x p)=false:=by first | exact lz _ | rfl):KB X M (.Compare ke [.In] [.Name x p] pos) (fi (wI i uk)):=.of (⟨LV (FO hu hk.run.run (qv i hN G8 hd gP).run) hm⟩:QT X _ _) λσ H R env pn S n Q ok tm k=>by
 refine⟨env,pn,S,n,_,ok,tm,λy H1 kd n1 r1 x1 g1 _ q=>?_⟩;have mO:=ok.step x1 g1;split at q
 .rename_i a t kvs he
  obtain⟨kk,ek,q⟩:=q;obtain⟨v0,Ei,rfl,nO,lx,G7,tU,_,_⟩:=mO.val i _ he;rcases ((my r1 ek).2 a kvs nO lx G7 tU).1 with⟨z,hg⟩ | ⟨d',v',z,hg,hr⟩
  .rw[z] at q
   exact⟨_,Ei,a,_,rfl,hg,_,rfl,k _ H1 n1 x1 g1 q⟩
  .rw[z] at q
   exact⟨_,Ei,a,_,rfl,hg,_,rfl,k _ H1 n1 x1 g1 q⟩
 .exact q.elim
noncomputable def sy (i:Nat)(uk ud:UX):UX:=λenv n Q=>match env[i]? with | some (some (.d a t kvs))=>uk env n λk n1=>ud env n1 λd n2=>pk (wF t k) λkk=>Q ((eP kvs kk).getD d) n2 | _=>False
theorem JV (i:Nat)(hu:X.A.units+1<cLine)(hk:KE X M ke uk)(hv:KE X M ve ud)(m:M2 X (.Name x p) "get" gk ke ve fJ)(hN:X.N[i]? = some x:=by rfl)(G8:s9 X.env.scope x:=by (first | exact Or.inl rfl | exact Or.inr (Or.inl rfl) | exact Or.inr (Or.inr rfl)))(hd:(x == ("__debug__" : Str))=false:=by decide)(gP:(x == ("__classdict__" : Str))=false:=by decide) :
  KE X M (.Call (.Attribute (.Name x p) "get" gk) [ke,ve] [] fJ) (sy i uk ud):=.of (rH hu (qv i hN G8 hd gP) hk.run hv.run m) λσ H R env pn S n Q ok tm k=>by
 unfold sy at tm;split at tm
 .rename_i a t kvs he
  obtain⟨v0,Ei,rfl,xs,ha,rr,HW,Vm,h0⟩:=ok.val i _ he
  have Yw:T9 H a:=by
   cases t with
   | false=>exact .inl ⟨_,.inl ha⟩
   | true=>exact .inr ⟨_,.inl ha⟩
  refine⟨_,Ei,a,rfl,Yw,env,pn,S,n,_,ok,tm,λy H1 kd n1 r1 x1 g1 _ q=>?_⟩;have mO:=ok.step x1 g1;refine⟨env,pn,S,n1,_,mO,q,λz H2 d n2 r2 x2 g2 _ q2=>?_⟩;obtain⟨kk,ek,q2⟩:=q2;have HY:=mO.step x2 g2;obtain⟨Wy,RN,e',nO,lx,G7,tU,_,_⟩:=HY.val i _ he;have Yx:fC M.gs S H2 kd y:=.inl (r1.ext (x2.mono mO.tf));rcases ((my Yx ek).2 a kvs nO lx G7 tU).1 with⟨z',hg⟩ | ⟨d',v',z',hg,hr⟩
  .rw[z'] at q2
   exact⟨_,hg,k _ H2 _ n2 r2 (x1.trans x2) g2 q2⟩
  .rw[z'] at q2
   exact⟨_,hg,k _ H2 _ n2 hr (x1.trans x2) g2 q2⟩
 .exact tm.elim
theorem yC:∀{kvs:iO} {xs:List V},dP S H (kvs.map (·.2)) xs->(EK kvs xs).map (·.1)=(kvs.map λp=>p.1.headD 0).map Sum.inl
 | [],_,r=>by cases r.fz;rfl
 | p::kvs,_,r=>by
  obtain⟨x,t,rfl,r1,r2⟩:=r.of_cons;rw[EK,ak,yC r2];rfl
noncomputable def CT (i:Nat):fh->Int->(List ad->Int->Prop)->Prop:=λenv n Q=>match env[i]? with | some (some (.d _ false kvs))=>kvs.length<64/\Q ((sortI (kvs.map λp=>p.1.headD 0)).map .int) n | _=>False
theorem JW (i:Nat)(hm:X.mg "sorted" = none)(hc:X.calm=true)(hg:Gl X "sorted" := by rfl)(hN:X.N[i]? = some x:=by rfl)(G8:s9 X.env.scope x:=by (first | exact Or.inl rfl | exact Or.inr (Or.inl rfl) | exact Or.inr (Or.inr rfl)))(hd:(x == ("__debug__" : Str))=false:=by decide)(gP:(x == ("__classdict__" : Str))=false:=by decide)
  (hs:e8 (.Name x p2)=true:=by rfl):KN X M (.Call (.Name "sorted" p) [.Name x p2] [] pos) (CT i) :=
 .of (fO (vO hc) hg hm (!3) (gm (qv i hN G8 hd gP) eY hs)) λσ H R env pn S n Q ok tm k=>by
  unfold CT at tm;split at tm
  .rename_i a kvs he
   obtain⟨hl,q⟩:=tm;obtain⟨v0,Ei,rfl,xs,ha,rr,HW,Vm,h0⟩:=ok.val i _ he;refine⟨_,Ei,a,_,kvs.map (λp=>p.1.headD 0),rfl,ha,yC rr,by rw[aj];exact hl,λl ms pm ps hl=>?_⟩;have em:ms=sortI (kvs.map λp=>p.1.headD 0):=m8 (pm.trans (sortI_perm _).symm) ps (i5 _);subst em;exact k l _ _ _ n hl dM (.ints _) (.new hl) (ok.grow (.new hl)) q
  .exact tm.elim
end
noncomputable def oN (p:ad × ad):Option (List Int × ad):=match p.1 with | .tuple ks=>(iq ks).map λk=>(k,p.2) | _=>none
noncomputable def OX (d:ad):Option (Bool × iO):=match d with | .dict ((.bool t,.none)::l)=>(l.mapM oN).map λkvs=>(t,kvs) | _=>none
theorem G':∀kvs:iO,(kvs.map λp=>(ad.tuple (p.1.map .int),p.2)).mapM oN=some kvs
 | []=>rfl
 | p::kvs=>by
  have e:oN (ad.tuple (p.1.map .int),p.2)=some p:=by
   unfold oN;simp only[ir];rfl
  rw[ak,cB,G' kvs,e];rfl
theorem AL (t:Bool)(kvs:iO):OX (h8 t kvs)=some (t,kvs):=by
 unfold h8 mM OX;simp only[G',bH]
theorem yD:∀{l:List (ad × ad)} {kvs:iO},l.mapM oN=some kvs->l=kvs.map λp=>(ad.tuple (p.1.map .int),p.2)
 | [],kvs,h=>by cases h;rfl
 | p::l,kvs,h=>by
  rw[cB] at h
  cases hp:oN p with
  | none=>rw[hp] at h;cases h
  | some q =>
   cases hl:l.mapM oN with
   | none=>rw[hp,hl] at h;cases h
   | some r =>
    rw[hp,hl] at h;cases h;rw[ak,<- yD hl];congr 1;unfold oN at hp;split at hp
    .rename_i ks he
     cases ha:iq ks with
     | none=>rw[ha] at hp;cases hp
     | some k =>
      rw[ha] at hp;cases hp;rw[<- iu ha];cases p;simp only at he;rw[he]
    .cases hp
theorem Ha (h:OX d=some (t,kvs)):d=h8 t kvs:=by
 unfold OX at h;split at h
 .rename_i t' l
  cases hl:l.mapM oN with
  | none=>rw[hl] at h;cases h
  | some r =>
   rw[hl] at h;cases h;rw[h8,mM,<- yD hl]
 .cases h
theorem Hb (h:mM t kvs=mM t' gT):t=t'/\kvs=gT:=by
 have h1:=AL t kvs;rw[h8,h,<- h8,AL] at h1;cases h1;exact⟨rfl,rfl⟩
theorem fC.RP (r:fC gs S H d v)(e:OX d=some (t,kvs)):∃a xs,v=.ref a/\H a=some (wV t kvs xs)/\dP S H (kvs.map (·.2)) xs/\(t=false->∀p∈kvs,p.1.length=1):=by
 rw[Ha e] at r;obtain⟨a,t',gT,xs,e1,e2,ha,hk,hr⟩:=fC.o8 r;obtain⟨rfl,rfl⟩:=Hb e2;exact⟨a,xs,e1,ha,hr,hk⟩
noncomputable def u9 (ud uk:UX):UX:=λenv n Q=>ud env n λd n1=>pk (OX d) λtk=>uk env n1 λk n2=>pk (wF tk.1 k) λkk=>pk (eP tk.2 kk) λx=>Q x n2
section
variable {X:Cx}{M:Fr}{o e ke ve:Expr}{uk uv ud:UX}{pos iD p p2:Pos}
theorem AM (hu:X.A.units+1<cLine)(ho:KL X M o ud)(hk:KL X M ke uk)(hs:FN ke:=by exact λ_ _=>rfl):KE X M (.Subscript o ke pos) (u9 ud uk):=.of (qA hu ho.run hk.run hs) λσ H R env pn S n Q ok tm k=>by
 refine⟨env,pn,S,n,_,ok,tm,λv H1 d n1 r1 x1 g1 _ q=>?_⟩;obtain⟨⟨t,kvs⟩,e,q⟩:=q;have mO:=ok.step x1 g1;refine⟨env,pn,S,n1,_,mO,q,λy H2 kd n2 r2 x2 g2 _ q2=>?_⟩;obtain⟨kk,ek,x,ex,q2⟩:=q2;obtain⟨a,xs,rfl,ha,rr,HW⟩:=(r1.ext mO.tf x2).RP e;rcases ((my r2 ek).2 a kvs xs ha rr HW).1 with⟨z,_⟩ | ⟨d',v',z,hg,hr⟩
 .rw[z] at ex;cases ex
 .rw[z] at ex
  cases ex;exact⟨a,v',rfl,hg,k v' H2 _ n2 hr (x1.trans x2) g2 q2⟩
end
end L2
open PySem
namespace Odj
end Odj
open PySem
namespace Odj
noncomputable abbrev tq:=List (Int × Bool)
noncomputable def gD (o:tq)(k:Int):Bool:=((o.find? λp=>decide (p.1=k)).map (·.2)).getD false
noncomputable def fQ (o:tq)(k:Int):tq:=if o.any (λp=>decide (p.1=k)) then o.map (λp=>if p.1=k then (p.1,!(gD o k)) else p) else o++[(k,!(gD o k))]
noncomputable def eh (row:List Int):tq:=row.foldl fQ []
noncomputable def jG (o:tq):List Int:=(o.filter (·.2)).map (·.1)
noncomputable def fc (o:tq):List Int:=o.map (·.1)
theorem vc (o:tq)(k:Int):fc (fQ o k)=if k∈fc o then fc o else fc o++[k]:=by
 unfold fQ fc;by_cases h:k∈o.map (·.1)
 .have h':o.any (λp=>decide (p.1=k))=true:=by
   obtain⟨p,hp,e⟩:=a5.mp h;exact dv.mpr ⟨p,hp,decide_eq_true e⟩
  rw[if_pos h',if_pos h,bv];apply cy;intro p _;simp only[Function.comp];split<;>rfl
 .have h':¬ o.any (λp=>decide (p.1=k))=true:=by
   intro z;obtain⟨p,hp,e⟩:=dv.mp z;exact h (a5.mpr ⟨p,hp,of_decide_eq_true e⟩)
  rw[if_neg h',if_neg h,a9];rfl
theorem AO (h:(fc o).Nodup):(fc (fQ o k)).Nodup:=by
 rw[vc];split
 .exact h
 .rename_i hk
  rw[cv];refine⟨h,!4,λa ha b hb=>?_⟩;have:b=k:=by simpa using hb
  subst this;intro z;subst z;exact hk ha
theorem Hc (o:tq)(k:Int):(fQ o k).length<=o.length+1:=by
 unfold fQ;split
 .simp
 .simp
theorem Hd (h:x∈fc (fQ o k)):x=k\/x∈fc o:=by
 rw[vc] at h;split at h
 .exact .inr h
 .rcases aB.mp h with z | z
  .exact .inr z
  .exact .inl (by simpa using z)
theorem He {o:tq}(h:(fc o).Nodup){i:Nat}{p:Int × Bool}(hp:o[i]? = some p):gD o p.1=p.2:=by
 induction o generalizing i with
 | nil=>cases hp
 | cons q o ih =>
  unfold fc at h;rw[ak,bN] at h
  cases i with
  | zero =>
   have:q=p:=by simpa using hp
   subst this;simp[gD]
  | succ i =>
   have AQ:o[i]? = some p:=by simpa using hp
   have hm:p.1∈o.map (·.1):=a5.mpr ⟨p,bP AQ,rfl⟩;have jS:¬ q.1=p.1:=λz=>h.1 (z ▸ hm);have:=ih h.2 AQ;unfold gD at this ⊢;rw[bQ];simp only[jS,decide_false];exact this
end Odj
open PySem
namespace Odj
theorem sC:∀{l1 l2:List Int},l1.Pairwise (· < ·)->l2.Pairwise (· < ·)->(∀k,k∈l1↔k∈l2)->l1=l2
 | [],[],_,_,_=>rfl
 | [],b::l2,_,_,h=>absurd ((h b).mpr (ar ..)) (!4)
 | a::l1,[],_,_,h=>absurd ((h a).mp (ar ..)) (!4)
 | a::l1,b::l2,h1,h2,h=>by
  obtain⟨q1,r1⟩:=bY.mp h1;obtain⟨q2,r2⟩:=bY.mp h2
  have e:a=b:=by
   rcases au.mp ((h a).mp (ar ..)) with z | z
   .exact z
   .rcases au.mp ((h b).mpr (ar ..)) with y | y
    .exact y.symm
    .have:=q2 a z
     have:=q1 b y;omega
  subst e;rw[sC r1 r2 λk=>?_];constructor
  .intro hk
   rcases au.mp ((h k).mp (ao _ hk)) with z | z
   .have:=q1 k hk
    omega
   .exact z
  .intro hk
   rcases au.mp ((h k).mpr (ao _ hk)) with z | z
   .have:=q2 k hk
    omega
   .exact z
noncomputable def AR (row ns:List Int):Prop:=ns.Pairwise (· < ·)/\∀k,k∈ns↔row.count k % 2=1
end Odj
namespace Odj
open PySem L2
noncomputable def eG (row:List Int):List Int:=kK (row.filter λk=>decide (row.count k % 2=1))
noncomputable def fV:UF:=λds n Q _=>match ds with
 | [.list es]=>pk (iq es) λrow=>((jD row).length<=60/\row.length<=100000)/\Q (.tuple ((eG row).map .int)) n
 | [.tuple es]=>pk (iq es) λrow=>((jD row).length<=60/\row.length<=100000)/\Q (.tuple ((eG row).map .int)) n
 | _=>False
noncomputable def Ej:List Str:=["TooMany"]
noncomputable def JX:List Str:=["JoinError", "NoPaper", "NoWalk", "NoText", "NoTurns", "NoTie", "TooMany", "NoLine"]
noncomputable def FL (c:Str):List Str:=(([("TooMany",["word"])]:List (Str × List Str)).lookup c).getD []
noncomputable abbrev XC (cl:Str->Addr):Xc:=⟨cl,FL⟩
noncomputable def nj:US:=(fD (dZ fV (dG (eJ iS (dH 0) (dH 1)) dO)))
noncomputable def gc:UF:=m7 2 2 (λ_=>nj)
noncomputable def pL:US:=(d9 (pA 2 dO)
 (d9 (iY (v5 1) (iE 3)
 (lj 2 jC (dG (OT (eJ jy (eJ jy (dH 0) (uC (.int 1))) (dH 3)) OR (OS (uC (.int 2)))) dO)))
 (fD (Aj fV (dG (dH 2) dO)))))
noncomputable def mz:UF:=m7 4 2 (λ_=>pL)
noncomputable def lR:US:=(fD (nP gx (dG (uL (gK (SM (dH 0)) [none,none,some 1] (NH [(iE 1),(iE 0)]) (fi (eJ uT (dH 0) (dH 2))) (d7 1))) dO)))
noncomputable def iH:UF:=m7 2 2 (λ_=>lR)
noncomputable def nk:US:=(d9 (eI 1 (uL (Lg (eJ jy (dH 0) (uC (.int 0))))))
 (d9 (iY (NJ (eJ jy (dH 0) (uC (.int 1)))) (iE 2)
 (d9 (eI 3 (nP uU (dG (eJ jy (dH 1) (eJ jy (dH 2) (uC (.int 0)))) (dG (eJ jy (dH 1) (eJ jy (dH 2) (uC (.int 1)))) dO))))
 (d9 (eI 4 (nP uV (dG (eJ jy (dH 1) (eJ jy (dH 2) (uC (.int 0)))) (dG (eJ jy (dH 1) (eJ jy (dH 2) (uC (.int 1)))) dO))))
 (eI 1 (uL (gK (HX (dH 1)) [none,some 3,some 4] (iE 0) pB (K9 (fi (eJ uT (dH 0) (dH 2))) (d7 1) (d7 0))))))))
 (fD (nP gx (dG (uL (gK (HX (uL (Am (dH 1)))) [none,some 1] (iE 0) pB (dZ iH (dG (d7 1) (dG (d7 0) dO))))) dO)))))
noncomputable def kL:UF:=m7 5 1 (λ_=>nk)
noncomputable def lS:US:=(fD (K9 (fi (eJ uT (eJ jy (dH 0) (uC (.int 0))) (dH 1))) (eJ jy (dH 0) (uC (.int 1))) (eJ jy (dH 0) (uC (.int 0)))))
noncomputable def iI:UF:=m7 2 2 (λ_=>lS)
noncomputable def lT:US:=(d9 (CQ 1 false)
 (d9 (iY (NJ (dZ kL (dG (d7 0) dO))) (iE 2)
 (oM 1 (eJ jy (dH 2) (uC (.int 0))) (gi dO)))
 (d9 (eI 3 (uC (.bool true)))
 (d9 (rZ (fi (d7 3))
 (d9 (eI 3 (uC (.bool false)))
 (iY (UP (eJ jy (dH 0) (uC (.int 1)))) (NH [(iE 4),(iE 5)])
 (iT (fi (eJ Gn (wI 1 (eJ jy (dH 5) (uC (.int 0)))) (wI 1 (eJ jy (dH 5) (uC (.int 1)))))) (d9 (eI 6 (K9 (fi (wI 1 (eJ jy (dH 5) (uC (.int 0))))) (eJ jy (dH 5) (uC (.int 0))) (eJ jy (dH 5) (uC (.int 1)))))
 (d9 (oM 1 (dZ iI (dG (d7 5) (dG (d7 6) dO))) (dZ gc (dG (sv 1 (dH 6)) (dG (gi (dG (d7 4) dO)) dO))))
 (eI 3 (uC (.bool true))))) gu))))
 (yg 1)))))
noncomputable def jH:UF:=m7 7 1 (λ_=>lT)
noncomputable def kM:US:=(d9 (eI 2 (uL (gK (SM (eJ jy (dH 0) (uC (.int 1)))) [none,none,some 1] (NH [(iE 0),(iE 1)]) pB (dZ gc (dG (gi (dG (d7 0) dO)) (dG (dZ gc (dG (u9 (dH 2) (eJ jy (dH 1) (uC (.int 0)))) (dG (u9 (dH 2) (eJ jy (dH 1) (uC (.int 1)))) dO))) dO))))))
 (fD (uL (gK (HX (dH 2)) [none] (iE 0) (fi (eJ Gn (dH 0) (gi dO))) (d7 0)))))
noncomputable def i8:UF:=m7 3 2 (λ_=>kM)
noncomputable def nq:US:=(ie (eI 2 (uL (dG (d7 0) dO))) (ie (iY (v5 1) (iE 3)
 (eI 2 (eJ iS (dH 2) (uL (gK (HX (dH 2)) [none,some 3] (iE 0) pB (dZ gc (dG (d7 0) (dG (d7 1) dO)))))))) (fD (uL (yz (dH 2))))))
noncomputable def kN:UF:=m7 4 2 (λ_=>nq)
noncomputable def lU (Ex:XQ):US:=(ie (eI 2 (dZ jH (dG (d7 0) dO)))
 (ie (eI 3 (dZ i8 (dG (d7 0) (dG (d7 2) dO))))
 (ie (iT (fi (eJ K' (nP j8 (dG (dH 3) dO)) (uC (.int (10))))) (Ak Ex "TooMany" (dG (uC (.str "sets")) dO)) gu)
 (ie (eI 4 (gi dO))
 (ie (iY (v5 1) (iE 5)
 (eI 4 (dZ gc (dG (d7 4) (dG (u9 (dH 2) (dH 5)) dO)))))
 (JK (fi (eJ Gn (dZ mz (dG (d7 0) (dG (d7 4) dO))) (dH 1))) (fD (uL dO))
 (fD (uL (Au kN (dG (d7 4) (dG (d7 3) dO)))))))))))
noncomputable def jI:UF:=m7 6 2 (lU)
noncomputable def lV (Ex:XQ):US:=(fD (uL (mx jI Ex (dG (d7 0) (dG (gi dO) dO)))))
noncomputable def gM:UF:=m7 1 1 (lV)
noncomputable def lW:US:=(d9 (eI 2 (eJ jy (uL (dG (uC (.int 1)) (dG (uC (.int 2)) (dG (uC (.int 3)) (dG (uC (.int 0)) (dG (uC (.int 5)) (dG (uC (.int 1)) (dG (uC (.int 99)) (dG (dZ fE (dG (uC (.int 100)) dO)) dO))))))))) (dZ fE (dG (uC (.int 8)) dO))))
 (fD (K9 (pq (fi (d7 1)) (fi (eJ uT (dZ fE (dG (uC (.int 3)) dO)) (uC (.int 0))))) (Wf Nx (d7 2)) (d7 2))))
noncomputable def fR:UF:=kJ 3 2 (λ_=>lW)
noncomputable def pM:US:=(d9 (eI 4 (eJ iS (uC (.int 1)) (dZ fE (dG (d7 1) dO))))
 (d9 (eI 5 (dZ fE (dG (uC (.int 4)) dO)))
 (d9 (pA 6 dO)
 (v8 (iT (fi (eJ OP (dH 5) (uC (.int 2)))) (pA 6 (gK (OV (eJ pz (dH 4) (uC (.int 1)))) [none,some 0,some 3] (iE 0) pB (gi (dG (d7 0) (dG (eJ iS (dH 0) (uC (.int 1))) (dG (dZ fR (dG (d7 2) dO)) dO)))))) gu)
 (v8 (iT (pq (fi (eJ uT (dH 5) (uC (.int 0)))) (fi (eJ K' (dH 4) (uC (.int 1))))) (lj 6 kI (dG (gi (dG (uC (.int 0)) (dG (eJ pz (dH 4) (uC (.int 1))) (dG (dZ fR (dG (d7 3) dO)) dO)))) dO)) gu)
 (d9 (iY (Le (eJ Ab (dZ fE (dG (eJ iS (dH 2) (uC (.int 1))) dO)) (nP intD (dG (eJ K' (dH 4) (uC (.int 1))) dO)))) (iE 7)
 (d9 (eI 8 (dZ fE (dG (eJ pz (dH 4) (uC (.int 1))) dO)))
 (d9 (eI 9 (gi (dG (d7 8) (dG (eJ iS (eJ iS (dH 8) (uC (.int 1))) (dZ fE (dG (eJ pz (eJ pz (dH 4) (uC (.int 1))) (dH 8)) dO))) (dG (dZ fR (dG (d7 3) dO)) dO)))))
 (v8 (iT (pq (fi (eJ Gn (dH 6) (uL dO))) (fi (eJ uT (dZ fE (dG (uC (.int 5)) dO)) (uC (.int 0))))) (eI 9 (eJ jy (dH 6) (dZ fE (dG (nP j8 (dG (dH 6) dO)) dO)))) gu)
 (lj 6 iZ (dG (dZ fE (dG (eJ iS (nP j8 (dG (dH 6) dO)) (uC (.int 1))) dO)) (dG (d7 9) dO)))))))
 (fD (gi (dG (d7 4) (dG (nP gx (dG (OT (dH 6) OR (OS (d7 2))) dO)) dO))))))))))
noncomputable def mB:UF:=kJ 10 4 (λ_=>pM)
noncomputable def nr:US:=(d9 (CQ 2 false)
 (d9 (iY (v5 1) (iE 3)
 (iY (NJ (OT (eJ jy (eJ jy (dH 0) (uC (.int 1))) (dH 3)) OR (OS (uC (.int 2))))) (iE 4)
 (oM 2 (dH 4) (Cn (sy 2 (d7 4) (uC (.bool false)))))))
 (fD (nP gx (dG (uL (gK (HX (uL (CT 2))) [none,some 2] (iE 0) (fi (sv 1 (dH 0))) (d7 0))) dO)))))
noncomputable def kO:UF:=m7 5 2 (λ_=>nr)
noncomputable def jq:US:=(d9 (pA 2 dO)
 (d9 (eI 3 (nP j8 (dG (eJ jy (dH 0) (uC (.int 1))) dO)))
 (d9 (iY (Le (eJ Gm (uC (.int 1)) (dH 3))) (iE 4)
 (d9 (eI 5 (nP gx (dG (uL (gK (OV (d7 3)) [none,some 4] (iE 0) (fi (eJ uT (eJ JD (eJ Jt (dH 1) (dH 0)) (uC (.int 1))) (uC (.int 1)))) (d7 0))) dO)))
 (iT (fi (eJ uT (dZ kO (dG (d7 0) (dG (d7 5) dO))) (dH 1))) (lj 2 kI (dG (d7 5) dO)) gu)))
 (fD (uL (yz (dH 2)))))))
noncomputable def gZ:UF:=m7 6 2 (λ_=>jq)
noncomputable def lX:US:=(d9 (eI 1 (mP (d7 0)))
 (d9 (eI 2 (mP (dZ gZ (dG (d7 0) (dG (gi dO) dO)))))
 (d9 (iY (Le (uC (.int 2))) (iE 3)
 (d9 (pA 4 (mx gM Ct (dG (d7 0) dO)))
 (d9 (iT (UL (rT (fi (NR "list" (dH 4)))) (fi (eJ GI (mP (dH 4)) (dH 2)))) (fD (uC (.bool false))) gu)
 (d9 (CC 4)
 (lj 4 kI (dG (uC .none) dO))))))
 (fD (eJ D' (mP (d7 0)) (dH 1))))))
noncomputable def gN:UF:=m7 5 1 (λ_=>lX)
noncomputable def nu:US:=(d9 (eI 1 (uC .none))
 (d9 (GQ 2 gM "JoinError" Ej (dG (d7 0) dO)
 (d9 (eI 3 (Cw 2 Ej ["NoLine", "NoPaper", "NoText", "NoTie", "NoTurns", "NoWalk"]))
 (iT (pq (fi (JB 2 Ej "TooMany")) (pq (fi (Cv 2 Ej)) (rT (fi (d7 3))))) (eI 1 (JC 2 Ej FL "word")) gu)))
 (fD (d7 1))))
noncomputable def kP:UF:=m7 4 1 (λ_=>nu)
noncomputable def nv:US:=(d9 (eI 3 (dZ fE (dG (eJ pz (dH 1) (uC (.int 1))) dO)))
 (d9 (eI 4 (eJ iS (eJ iS (dH 3) (uC (.int 1))) (dZ fE (dG (eJ pz (eJ pz (dH 1) (uC (.int 1))) (dH 3)) dO))))
 (fD (gi (dG (d7 1) (dG (nP gx (dG (uL (gK (OV (d7 2)) [none,some 3,some 4,some 0] (iE 0) pB (gi (dG (d7 1) (dG (d7 2) (dG (dZ fR (dG (uC (.bool true)) dO)) dO)))))) dO)) dO))))))
noncomputable def jr:UF:=kJ 5 3 (λ_=>nv)
noncomputable def jO:US:=(d9 (pA 2 (dG (gi (dG (uC (.int 0)) (dG (uC (.int 1)) (dG (uC (.int 1)) dO)))) (dG (gi (dG (uC (.int 1)) (dG (uC (.int 2)) (dG (uC (.int 1)) dO)))) (dG (gi (dG (uC (.int 2)) (dG (uC (.int 3)) (dG (uC (.int 1)) dO)))) dO))))
 (d9 (rZ (fi (eJ OP (nP j8 (dG (dH 2) dO)) (dH 1)))
 (d9 (eI 3 (dZ fE (dG (uC (.int 3)) dO)))
 (lj 2 iZ (dG (dZ fE (dG (eJ iS (nP j8 (dG (dH 2) dO)) (uC (.int 1))) dO)) (dG (gi (dG (d7 3) (dG (eJ iS (eJ iS (dH 3) (uC (.int 1))) (dZ fE (dG (eJ pz (uC (.int 3)) (dH 3)) dO))) (dG (dZ fR (dG (uC (.bool true)) dO)) dO)))) dO)))))
 (fD (gi (dG (uC (.int 4)) (dG (nP gx (dG (dH 2) dO)) dO))))))
noncomputable def iC:UF:=kJ 4 2 (λ_=>jO)
noncomputable def yE:US:=(d9 (iY (Le (uC (.int 4))) (iE 2)
 (iT (rT (fi (dZ gN (dG (dZ mB (dG (uC (.int 5)) (dG (uC (.int 7)) (dG (uC (.bool true)) dO)))) dO)))) (fD (uC (.bool false))) gu))
 (d9 (eI 3 (dZ fE (dG (uC (.int 16)) dO)))
 (v8 (iT (pq (fi (eJ uT (dH 3) (uC (.int 0)))) (rT (fi (dZ gN (dG (dZ jr (dG (uC (.int 2)) (dG (uC (.int 11)) dO))) dO))))) (fD (uC (.bool false))) gu)
 (v8 (iT (pq (fi (eJ uT (dH 3) (uC (.int 1)))) (rT (fi (dZ gN (dG (dZ iC (dG (uC (.int 11)) dO)) dO))))) (fD (uC (.bool false))) gu)
 (fD (eJ uT (dZ kP (dG (dZ jr (dG (eJ iS (uC (.int 2)) (dZ fE (dG (uC (.int 4)) dO))) (dG (eJ iS (uC (.int 12)) (dZ fE (dG (uC (.int 5)) dO))) dO))) dO)) (uC (.str "sets"))))))))
noncomputable def top (i:Nat):Stmt:=PySem.Challenge.pw_oddjoins_k10_all_even_sets.main.body.getD i (.Pass ⟨0,0,0,0⟩)
structure qM (mg:Str->Option ae):Prop where
 ValueError:mg "ValueError" = none
 enumerate:mg "enumerate" = none
 int:mg "int" = none
 isinstance:mg "isinstance" = none
 len:mg "len" = none
 list:mg "list" = none
 max:mg "max" = none
 min:mg "min" = none
 range:mg "range" = none
 repr:mg "repr" = none
 set:mg "set" = none
 sorted:mg "sorted" = none
 tuple:mg "tuple" = none
noncomputable abbrev N2:List Str:=["one", "other"]
noncomputable abbrev N3:List Str:=["web", "some", "ends", "number"]
noncomputable abbrev N4:List Str:=["least", "leasts"]
noncomputable abbrev N5:List Str:=["web", "leasts", "tie", "low", "high"]
noncomputable abbrev N6:List Str:=["least", "low", "high"]
noncomputable abbrev N7:List Str:=["own", "place", "least"]
noncomputable abbrev N8:List Str:=["leasts", "least"]
noncomputable abbrev N9:List Str:=["tie", "place"]
noncomputable abbrev Yy:List Str:=["web", "ways", "part", "grown", "number", "tie", "near"]
noncomputable abbrev Wz:List Str:=["even"]
noncomputable abbrev Vn:List Str:=["web", "ways", "evens"]
noncomputable abbrev Vo:List Str:=["number", "tie", "ways"]
noncomputable abbrev WA:List Str:=["other", "even"]
noncomputable abbrev WB:List Str:=["some", "base", "found", "even"]
noncomputable abbrev Yz:List Str:=["web"]
noncomputable abbrev YA:List Str:=["web", "told", "ways", "base", "join", "place"]
noncomputable abbrev YB:List Str:=["_law_feed_here", "_law_signed", "_law_price_here"]
noncomputable abbrev WC:List Str:=["_law_k", "_law_feed_here", "_law_signed"]
noncomputable abbrev WD:List Str:=["_law_feed_here", "_law_most", "_law_ties", "_law_signed", "_law_many_here", "_law_way", "_law_found", "_law_k", "_law_a", "_law_tie"]
noncomputable abbrev WE:List Str:=["_law_place", "_law_odd"]
noncomputable abbrev WG:List Str:=["_law_web_here", "_law_some", "_law_odd", "_law_number", "_law_place"]
noncomputable abbrev WH:List Str:=["_law_k", "_law_number"]
noncomputable abbrev WI:List Str:=["_law_web_here", "_law_told", "_law_found", "_law_ties", "_law_number", "_law_some"]
noncomputable abbrev YC:List Str:=["_law_web_here", "_law_kept", "_law_due", "_law_turn", "_law_found"]
noncomputable abbrev YD:List Str:=["_law_web_here", "_law_word_here", "e", "_law_others"]
noncomputable abbrev WJ:List Str:=["_law_k", "_law_a", "_law_b", "_law_feed_here"]
noncomputable abbrev WK:List Str:=["_law_feed_here", "_law_places", "_law_ties", "_law_a", "_law_b"]
noncomputable abbrev YE:List Str:=["_law_feed_here", "_law_ties", "_law_found", "_law_a"]
noncomputable abbrev YF:List Str:=["_law_script", "_law_feed_here", "_law_k", "_law_great"]
section
variable (P:aO)(w:World)(K:W.Frag)(mg:Str->Option ae)(base:Heap)(cl:Str->Addr)(Y:zj)
noncomputable abbrev ny:Prop:=eL P w K mg base 1 "odd_ones" ["row"] (uX (XC cl) fV)
noncomputable abbrev iy:Prop:=eL P w K mg base 2 "by_turns" ["one", "other"] (uX (XC cl) gc)
noncomputable abbrev pN:Prop:=eL P w K mg base 2 "odds_of" ["web", "some"] (uX (XC cl) mz)
noncomputable abbrev nz:Prop:=eL P w K mg base 2 "parts_of" ["web"] (uX (XC cl) kL)
noncomputable abbrev lY:Prop:=eL P w K mg base 1 "places_of" ["leasts", "least"] (uX (XC cl) iH)
noncomputable abbrev lZ:Prop:=eL P w K mg base 1 "other_end" ["tie", "place"] (uX (XC cl) iI)
noncomputable abbrev l3:Prop:=eL P w K mg base 3 "ways_home" ["web"] (uX (XC cl) jH)
noncomputable abbrev kQ:Prop:=eL P w K mg base 3 "base_rings" ["web", "ways"] (uX (XC cl) i8)
noncomputable abbrev nA:Prop:=eL P w K mg base 3 "all_from" ["some", "base"] (Oa kN)
noncomputable abbrev jJ:Prop:=qm P w K mg base 5 "all_evens" ["web"] (si (XC cl) gM)
noncomputable abbrev l4:Prop:=qm P w K mg base 4 "all_joins" ["web", "told"] (si (XC cl) jI)
noncomputable abbrev iz:Prop:=eL P w K mg base 1 "_law_draw" ["_law_feed_here", "_law_many_here"] (wd Y fE)
noncomputable abbrev iK:Prop:=eL P w K mg base 2 "_law_price" ["_law_feed_here", "_law_signed"] (wd Y fR)
noncomputable abbrev pO:Prop:=eL P w K mg base 3 "_law_web" ["_law_feed_here", "_law_most", "_law_ties", "_law_signed"] (wd Y mB)
noncomputable abbrev nB:Prop:=eL P w K mg base 1 "_law_odds" ["_law_web_here", "_law_some"] (uX (XC cl) kO)
noncomputable abbrev js:Prop:=eL P w K mg base 2 "_law_all_sets" ["_law_web_here", "_law_told"] (uX (XC cl) gZ)
noncomputable abbrev l5:Prop:=eL P w K mg base 6 "_law_right" ["_law_web_here"] (uX (XC cl) gN)
noncomputable abbrev nC:Prop:=eL P w K mg base 6 "_law_word" ["_law_web_here"] (uX (XC cl) kP)
noncomputable abbrev nD:Prop:=eL P w K mg base 3 "_law_many" ["_law_feed_here", "_law_places", "_law_ties"] (wd Y jr)
noncomputable abbrev jP:Prop:=eL P w K mg base 3 "_law_between" ["_law_feed_here", "_law_ties"] (wd Y iC)
end
theorem yF (ns:List Int):ad.canLayAll0 (ns.map ad.int)=true:=by
 induction ns with
 | nil=>rfl
 | cons n ns ih=>simpa [ad.canLayAll0,ad.canLay0] using ih
theorem AS (ns:List Int):ad.depthAll (ns.map ad.int)=0:=by
 induction ns with
 | nil=>rfl
 | cons n ns ih=>simpa [ad.depthAll,ad.depth] using ih
structure iF (H:Hp) (fa sa:Addr) (n:Int):Prop where
 ex:∃(ns:List Int) (i c:Int),H fa=some (.lst [.ref sa,.int i,.int c,.int n])/\H sa=some (.lst (ns.map V.int))
 ne:sa≠fa
 lo:0<=n
theorem iF.ext {S:List Addr}{H H':Hp}{fa sa:Addr}{n:Int}(f:iF H fa sa n)(x:Ext S H H')(h1:fa ∉ S)(h2:sa ∉ S):iF H' fa sa n:=by
 obtain⟨ns,i,c,e1,e2⟩:=f.ex;exact⟨⟨ns,i,c,x.keep _ _ h1 e1,x.keep _ _ h2 e2⟩,f.ne,f.lo⟩
theorem iF.put {H:Hp}{fa sa:Addr}{n:Int}(f:iF H fa sa n)(i c n':Int)(h:0<=n'):iF (eR H fa (.lst [.ref sa,.int i,.int c,.int n'])) fa sa n'/\Ext [fa] H (eR H fa (.lst [.ref sa,.int i,.int c,.int n'])):=by
 obtain⟨ns,i0,c0,e1,e2⟩:=f.ex;exact⟨⟨⟨ns,i,c,dM,by rw[dS f.ne];exact e2⟩,f.ne,h⟩,.set (!4) e1⟩
noncomputable def yG:zj where
 iF:=iF
 ext:=λf x h1 h2=>f.ext x h1 h2
 fa:=λf=>let ⟨_,_,_,e,_⟩:=f.ex;by rw[e];simp
 sa:=λf=>let ⟨_,_,_,_,e⟩:=f.ex;by rw[e];simp
 nx:=λf φ=>let ⟨_,_,_,e,_⟩:=f.ex;by rw[e];simp
noncomputable abbrev Oo (K:W.Frag):Sp:=qH yG K
noncomputable abbrev Oq:Sp:=Cz yG
section
variable {P:aO}{w:World}{K:W.Frag}{mg:Str->Option ae}{base:Heap}{f:Addr}{fd:bF}
theorem Ot (F:uq K "_law_feed" "_law_feed" (top 26) f fd)(hm:mg "_law_feed" = some (.ref f))(B:qM mg):eL P w K mg base 1 "_law_feed" ["_law_script"] (Oo K):=by
 refine⟨f,fd,?_,hm,F.kp,F.binds λ_ _ _ _ _ _ us hl=>by obtain⟨_,rfl⟩:=Ar hl;rfl⟩;have sc:eZ ["_law_script"] ["_law_script"] (dJ (top 26)):=⟨rfl,rfl,rfl,!3,rfl,!3,!3⟩;refine F.KQ sc (λvs H Q E h=>?_) (λfq A outer s H vs Q E hr h=>?_)
 .obtain⟨a,ns,rfl,_⟩:=h
  rfl
 .obtain⟨a,ns,rfl,hs,q⟩:=h
  refine⟨_,(gF (kC (zK (gm (xp (V5 K) (qv 0) BZ (B0 eC)) (gm eC (gm eC (gm eC eY))))))),?_⟩;refine⟨_,rfl,63,rfl,a,_,rfl,hs,λp hp=>⟨by show 4<=ax;decide,λl hl=>?_⟩⟩;have mL:p≠l:=λz=>by rw[<- z,dM] at hl;cases hl
  have YG:H l=none:=by rw[dS mL.symm] at hl;exact hl
  have x:Ext [] H (eR (eR H p (.lst (nS (ns.map V.int) none (some 63)))) l (.lst [.ref p,.int 0,.int 0,.int 0])):=(Ext.new hp).trans (.new hl);refine q l p _ ⟨⟨(ns.drop (HT.gp (ns.map V.int).length 0 none)).take (HT.gp (ns.map V.int).length (ns.map V.int).length (some 63) - HT.gp (ns.map V.int).length 0 none),0,0,dM,?_⟩,mL,!2⟩ x YG hp;rw[dS mL,dM];unfold nS;rw[List.map_take,List.map_drop]
theorem Ou (F:uq K "_law_draw" "_law_draw" (top 27) f fd)(hm:mg "_law_draw" = some (.ref f))(B:qM mg):eL P w K mg base 1 "_law_draw" ["_law_feed_here", "_law_many_here"] Oq:=by
 refine⟨f,fd,?_,hm,F.kp,F.binds λ_ _ _ _ _ _ us hl=>by obtain⟨_,_,rfl⟩:=Ea hl;rfl⟩;have sc:eZ ["_law_feed_here", "_law_many_here", "_law_found", "_law_cell", "_law_mixed"] ["_law_feed_here", "_law_many_here"] (dJ (top 27)):=⟨rfl,rfl,rfl,!3,rfl,!3,!3⟩;refine F.KQ sc (λvs H Q E h=>?_) (λfq A outer s H vs Q E hr h=>?_)
 .obtain⟨fa,sa,n,many,rfl,_⟩:=h
  rfl
 .obtain⟨fa,sa,n,many,rfl,fe,m0,m1,nm,q⟩:=h
  refine⟨_,(e9 (vK (gr q9 (iV fX (qv 0) eC (λ_ _=>rfl)) eC) (vJ (qv 0) eC nV))
   (e9 (xq (nY Ks (iV fX (qv 0) eC (λ_ _=>rfl)) eC (lz _)) (e9 (jk (i:=2) sc.nd rfl (Or.inl rfl) (gr mU (iV fX (qv 0) eC (λ_ _=>rfl)) (qv 1)))
   (e9 (vK (gr qy (iV fX (qv 0) eC (λ_ _=>rfl)) (qv 1)) (vJ (qv 0) eC nV))
   (gF (kC (qv 2))))) n6)
   (e9 (jk (i:=3) sc.nd rfl (Or.inl rfl) eC)
   (B1 (xq (nY (M0 hr) (iV fX (qv 0) eC (λ_ _=>rfl)) (zK eY) (lz _)) (gF (jk (i:=3) sc.nd rfl (Or.inl rfl) (iV fX (iV fX (qv 0) eC (λ_ _=>rfl)) (gr mU (iV fX (qv 0) eC (λ_ _=>rfl)) (fO kz (by rfl) B.len (!3) (gm (iV fX (qv 0) eC (λ_ _=>rfl)) eY))) (λ_ _=>rfl)))) n6)
   (e9 (vK (gr q9 (iV fX (qv 0) eC (λ_ _=>rfl)) eC) (vJ (qv 0) eC nV))
   (B1 (xq (QW.pt (FD (nY PH (qv 3) (gr Mn eC eC) (lz _)) (BY (nY PF (iV fX (qv 0) eC (λ_ _=>rfl)) (fO kz (by rfl) B.len (!3) (gm (iV fX (qv 0) eC (λ_ _=>rfl)) eY)) (lz _))))) (e9 (vK (gr qy (qv 3) (qv 1)) (vJ (qv 0) eC nV))
   (gF (kC (gr mU (qv 3) (qv 1))))) n6)
   (e9 (jk (i:=4) sc.nd rfl (Or.inl rfl) (gr mU (gr o6 (gr q9 (gr mU (qv 3) eC) (gr o6 eC (iV fX (qv 0) eC (λ_ _=>rfl)))) eC) eC))
   (e9 (jk (i:=4) sc.nd rfl (Or.inl rfl) (gr mU (gr o6 (gr q9 (gr qy (qv 4) eC) (gr o6 (gr o6 eC (iV fX (qv 0) eC (λ_ _=>rfl))) (iV fX (qv 0) eC (λ_ _=>rfl)))) eC) eC))
   (gF (kC (gr mU (gr qy (qv 4) eC) (qv 1)))))))))))),?_⟩
  obtain⟨ns,i,c,e1,e2⟩:=fe.ex;have n0:=fe.lo;obtain⟨f1,x1⟩:=fe.put i c (n+1) (!1);refine⟨_,rfl,fa,_,3,_,rfl,rfl,gn.of e1,rfl,n,1,rfl,rfl,_,rfl,fa,_,3,3,rfl,rfl,e1,rfl,?_⟩;refine⟨_,rfl,fa,_,2,_,rfl,rfl,gn.of dM,rfl,c,0,rfl,rfl,_,rfl,MT (λhc=>?_) (λhc=>?_)⟩
  .refine⟨_,rfl,fa,_,2,_,rfl,rfl,gn.of dM,rfl,_,rfl,c,many,rfl,rfl,m0,?_⟩
   refine⟨_,rfl,fa,_,2,_,rfl,rfl,gn.of dM,rfl,_,rfl,c,many,rfl,rfl,⟨m0,m1⟩,_,rfl,fa,_,2,2,rfl,rfl,dM,rfl,?_⟩;obtain⟨f2,x2⟩:=f1.put i (c / many) (n+1) (!1);exact⟨_,rfl,q _ _ (dF _ (!1)) (dh _ m0) f2 (x1.trans x2)⟩
  .-- the cell
   refine⟨λσ' H'=>∃cell:Int,σ'=[some (.ref fa),some (.int many),none,some (.int cell),none]/\iF H' fa sa (n+1)/\Ext [fa] H H',?_,?_⟩
   .refine⟨_,rfl,fa,_,0,_,rfl,rfl,gn.of dM,rfl,bL _,λp hp=>?_⟩
    have Z4:p≠fa:=λz=>by rw[z,dM] at hp;cases hp
    have x2:Ext [] (eR H fa (.lst [.ref sa,.int i,.int c,.int (n+1)])) (eR (eR H fa (.lst [.ref sa,.int i,.int c,.int (n+1)])) p (.lst [])):=.new hp;have f2:=f1.ext x2 (!4) (!4);have x3:=x1.trans (x2.mono (S':=[fa]) (!4));have a2:(eR (eR H fa (.lst [.ref sa,.int i,.int c,.int (n+1)])) p (.lst [])) sa=some (.lst (ns.map V.int)):=x2.keep _ _ (!4) (by rw[dS fe.ne];exact e2);have a1:(eR (eR H fa (.lst [.ref sa,.int i,.int c,.int (n+1)])) p (.lst [])) fa=some (.lst [.ref sa,.int i,.int c,.int (n+1)]):=x2.keep _ _ (!4) dM;refine⟨[],.list (ns.map .int),.list [],.lst a2 (!4) (.ints ns),.lst dM (!4) .nil,yF ns,rfl,by simp[ad.depth,AS],_,rfl,?_⟩
    cases ns with
    | nil=>exact IM ⟨7,rfl,f2,x3⟩
    | cons k ns =>
     refine MS ?_;have hl:(0:Int)<(((k::ns).map V.int).length:Nat):=by simp
     obtain⟨v,hv,NO⟩:=M1 (xs:=(k::ns).map V.int) (dF i (!1)) (dh i hl)
     obtain⟨z,rfl⟩:∃z,v=V.int z:=by
      rw[aC] at NO
      cases e:(k::ns)[(i % (((k::ns).map V.int).length:Nat)).toNat]? with
      | none=>rw[e] at NO;cases NO
      | some z=>rw[e] at NO;exact⟨z,(Option.some.inj NO).symm⟩
     refine⟨_,rfl,fa,_,0,_,rfl,rfl,gn.of a1,rfl,_,rfl,fa,_,1,_,rfl,rfl,gn.of a1,rfl,_,rfl,fa,_,0,_,rfl,rfl,gn.of a1,rfl,sa,_,rfl,.inl (gn.of a2),i,_,rfl,rfl,hl,sa,_,_,_,rfl,rfl,gn.of a2,hv,z,rfl,f2,x3⟩
   .rintro σ' H' ⟨cell,rfl,f2,x2⟩
    obtain⟨YH,i2,c2,b1,b2⟩:=f2.ex;obtain⟨f3,x3⟩:=f2.put (i2+1) c2 (n+1) (!1);have b3:(eR H' fa (.lst [.ref sa,.int (i2+1),.int c2,.int (n+1)])) sa=some (.lst (YH.map V.int)):=by rw[dS fe.ne];exact b2
    refine⟨_,rfl,fa,_,1,_,rfl,rfl,gn.of b1,rfl,i2,1,rfl,rfl,_,rfl,fa,_,1,1,rfl,rfl,b1,rfl,?_⟩;refine⟨λσ' H2=>σ'=[some (.ref fa),some (.int many),none,some (.int cell),none]/\H2=eR H' fa (.lst [.ref sa,.int (i2+1),.int c2,.int (n+1)]),?_,?_⟩
    .refine⟨_,rfl,10,18,rfl,rfl,⟨!2,!2,!2⟩,cell,_,rfl,rfl,_,rfl,MT (λhb=>?_) (λhb=>?_)⟩
     .refine⟨_,rfl,fa,_,1,_,rfl,rfl,gn.of dM,rfl,_,rfl,fa,_,0,_,rfl,rfl,gn.of dM,rfl,sa,_,rfl,.inl (gn.of b3),_,_,rfl,rfl,_,rfl,MT (λhd=>?_) (λhd=>?_)⟩
      .refine⟨_,rfl,_,rfl,cell,many,rfl,rfl,⟨m0,m1⟩,_,rfl,fa,_,2,2,rfl,rfl,dM,rfl,?_⟩
       obtain⟨f4,x4⟩:=f3.put (i2+1) (cell / many) (n+1) (!1);exact⟨_,rfl,_,rfl,cell,many,rfl,rfl,m0,q _ _ (dF _ (!1)) (dh _ m0) f4 ((x2.trans x3).trans x4)⟩
      .exact⟨rfl,rfl⟩
     .exact IM ⟨rfl,rfl⟩
    .rintro σ' H2 ⟨rfl,rfl⟩
     have nb:-(2 ^ 64)<n+1/\n+1<2 ^ 64:=by
      have:jo=1099511627776:=rfl;constructor<;>omega
     refine⟨_,rfl,_,_,rfl,rfl,(by show (0:Int)<1000000007;decide),_,rfl,fa,_,3,_,rfl,rfl,gn.of dM,rfl,_,_,rfl,rfl,.inl ⟨!2,!2⟩,_,_,rfl,rfl,_,_,rfl,rfl,.inr ⟨!2,!2⟩,_,_,rfl,rfl,(by show (0:Int)<2147483629;decide),?_⟩;refine⟨_,rfl,_,_,rfl,rfl,⟨!2,!2⟩,_,rfl,fa,_,3,_,rfl,rfl,gn.of dM,rfl,_,_,rfl,rfl,.inl ⟨!2,!2⟩,_,rfl,fa,_,3,_,rfl,rfl,gn.of dM,rfl,_,_,rfl,rfl,.inr nb,_,_,rfl,rfl,_,_,rfl,rfl,.inr ⟨!2,!2⟩,_,_,rfl,rfl,(by show (0:Int)<2147483587;decide),?_⟩;exact⟨_,rfl,_,_,rfl,rfl,⟨!2,!2⟩,_,rfl,_,_,rfl,rfl,m0,q _ _ (dF _ (!1)) (dh _ m0) f3 (x2.trans x3)⟩
end
end Odj
namespace L2
open PySem
theorem Ext.put {S:List Addr}{H0 H:Hp}{p:Addr}{o:HO}(a:Ext S H0 H)(h0:H0 p=none):Ext S H0 (eR H p o) :=
 ⟨λb u hb e=>by rw[dS (λz=>by rw[z,h0] at e;cases e)];exact a.keep b u hb e,λb ys e=>by rw[dS (λz=>by rw[z,h0] at e;cases e)];exact a.tup b ys e⟩
end L2
namespace Odj
open PySem L2
noncomputable def fW (o:tq):List (Key × V):=o.map λp=>((Sum.inl p.1:Key),V.bl p.2)
theorem vd (o:tq)(k:Int):gR (fW o) (Sum.inl k)=((o.find? λp=>decide (p.1=k)).map (·.2)).map V.bl:=by
 induction o with
 | nil=>rfl
 | cons p o ih =>
  have e:fW (p::o)=((Sum.inl p.1:Key),V.bl p.2)::fW o:=rfl;by_cases h:p.1=k
  .rw[e,fZ (by rw[h]),bQ]
   simp[h]
  .rw[e,f6 (λz=>h (Sum.inl.inj z)),ih,bQ]
   simp[h]
theorem oO (o:tq)(k:Int):(gR (fW o) (Sum.inl k)).getD (.bl false)=.bl (gD o k):=by
 rw[vd];unfold gD;cases (o.find? λp=>decide (p.1=k))<;>rfl
theorem CU {o:tq}(h:(fc o).Nodup){i:Nat}{p:Int × Bool}(hp:o[i]? = some p):gR (fW o) (Sum.inl p.1)=some (.bl p.2):=by
 have e:=He h hp;rw[vd];unfold gD at e
 cases hf:(o.find? λq=>decide (q.1=p.1)) with
 | none =>
  have:=List.find?_eq_none.mp hf p (bP hp);simp at this
 | some q =>
  rw[hf] at e;have e':q.2=p.2:=e;simp[e']
theorem sD (o:tq)(k:Int):kD (fW o) (Sum.inl k) (.bl (!gD o k))=fW (fQ o k):=by
 have ha:((fW o).any λkv=>decide (kv.1=Sum.inl k))=o.any λp=>decide (p.1=k):=by
  unfold fW;rw[List.any_map];congr 1;funext p;show decide ((Sum.inl p.1:Key)=Sum.inl k)=decide (p.1=k);by_cases h:p.1=k
  .simp[h]
  .have:¬ (Sum.inl p.1:Key)=Sum.inl k:=λz=>h (Sum.inl.inj z)
   simp[h]
 unfold kD fQ;rw[ha];split
 .unfold fW
  rw[bv,bv];apply cy;intro p _;simp only[Function.comp];by_cases h:p.1=k
  .simp[h]
  .have:¬ (Sum.inl p.1:Key)=Sum.inl k:=λz=>h (Sum.inl.inj z)
   simp[h]
 .unfold fW
  rw[a9];rfl
theorem oP (o:tq):(fW o).length=o.length:=by unfold fW;rw[aj]
theorem vf (row:List Int)(k:Int):eh (row++[k])=fQ (eh row) k:=by
 unfold eh;rw[List.foldl_append];rfl
noncomputable def JY (row ns:List Int):Prop:=ns.Perm (jG (eh row))/\ns.Pairwise (·<=·)
theorem AU (o:tq)(k j:Int):gD (fQ o k) j=if j=k then !gD o k else gD o j:=by
 have e:=oO (fQ o k) j;rw[<- sD,FK] at e;by_cases h:j=k
 .subst h
  rw[if_pos rfl] at e;rw[if_pos rfl];exact (V.bl.inj e).symm
 .rw[if_neg (λz=>h (Sum.inl.inj z)),oO] at e
  rw[if_neg h];exact (V.bl.inj e).symm
theorem sE (k:Int):∀(row:List Int) (o:tq),gD (row.foldl fQ o) k=(gD o k != decide (row.count k % 2=1))
 | [],o=>by simp
 | x::row,o=>by
  rw[cq,sE k row,AU,cT];by_cases h:k=x
  .subst h
   rw[if_pos rfl];have h2:=Nat.mod_two_eq_zero_or_one (row.count k);rcases h2 with z | z
   .have e1:(row.count k+if (k == k)=true then 1 else 0) % 2=1:=by simp;omega
    simp only[e1,z];cases gD o k<;>rfl
   .have e1:(row.count k+if (k == k)=true then 1 else 0) % 2=0:=by simp;omega
    simp only[e1,z];cases gD o k<;>rfl
  .rw[if_neg h]
   have e1:(x == k)=false:=by
    rw[beq_eq_false_iff_ne];exact λz=>h z.symm
   simp[e1]
theorem qf (row:List Int)(k:Int):gD (eh row) k=decide (row.count k % 2=1):=by
 unfold eh;rw[sE];have:gD [] k=false:=rfl;rw[this];cases decide (row.count k % 2=1)<;>rfl
theorem sF:∀(row:List Int) (o:tq),(fc o).Nodup->(fc (row.foldl fQ o)).Nodup
 | [],o,h=>h
 | x::row,o,h=>sF row _ (AO h)
theorem kR (row:List Int):(fc (eh row)).Nodup:=sF row [] (by simp[fc])
theorem sG:∀(row:List Int) (o:tq),(row.foldl fQ o).length<=o.length+row.length
 | [],o=>by simp
 | x::row,o=>by
  rw[cq,ap];have:=sG row (fQ o x);have:=Hc o x;omega
theorem nE (row:List Int):(eh row).length<=row.length:=by
 have:=sG row [];unfold eh;simpa using this
theorem JZ {o:tq}{k:Int}(h:gD o k=true):k∈fc o:=by
 unfold gD at h
 cases hf:(o.find? λp=>decide (p.1=k)) with
 | none=>rw[hf] at h;cases h
 | some p=>exact a5.mpr ⟨p,List.mem_of_find?_eq_some hf,by simpa using List.find?_some hf⟩
theorem Hf {o:tq}(hn:(fc o).Nodup):jG o=(fc o).filter (gD o):=by
 unfold jG fc;rw[List.filter_map];congr 1;apply List.filter_congr;intro p hp;obtain⟨i,hi⟩:=List.getElem?_of_mem hp;exact (He hn hi).symm
theorem qN {row ns:List Int}(h:JY row ns):AR row ns/\ns.length<=row.length:=by
 have hn:=kR row;have ht:=Hf hn;have Vp:ns.Nodup:=h.1.symm.nodup (by rw[ht];exact hn.filter _);refine⟨⟨?_,λk=>?_⟩,?_⟩
 .have:=h.2.and Vp
  exact this.imp λz=>by
   have h1:=z.1;have h2:=z.2;omega
 .rw[h.1.mem_iff,ht,aW,qf]
  constructor
  .intro z;exact of_decide_eq_true z.2
  .intro z
   exact⟨JZ (by rw[qf];exact decide_eq_true z),decide_eq_true z⟩
 .rw[h.1.length_eq]
  unfold jG;rw[aj];exact aU (bG _ _) (nE row)
noncomputable def Ek:Sp:=λvs H Q _=>∃(a:Addr) (row:List Int),vs=[.ref a]/\(H a=some (.lst (row.map V.int))\/H a=some (.tup (row.map V.int)))/\(eh row).length<=60/\row.length<=100000 /\
 ∀(ns:List Int) (p:Addr) (H':Hp),AR row ns->ns.length<=row.length->H' p=some (.tup (ns.map V.int))->Ext [] H H'->Q (.ref p) H'
section
variable {P:aO}{w:World}{K:W.Frag}{mg:Str->Option ae}{base:Heap}{f:Addr}{fd:bF}
theorem yH (F:uq K "odd_ones" "odd_ones" (top 10) f fd)(hm:mg "odd_ones" = some (.ref f))(B:qM mg):eL P w K mg base 1 "odd_ones" ["row"] Ek:=by
 refine⟨f,fd,?_,hm,F.kp,F.binds λ_ _ _ _ _ _ us hl=>by obtain⟨_,rfl⟩:=Ar hl;rfl⟩;have sc:eZ ["row", "odd", "number"] ["row"] (dJ (top 10)):=⟨rfl,rfl,rfl,!3,rfl,!3,!3⟩;refine F.KQ sc (λvs H Q E h=>?_) (λfq A outer s H vs Q E hr h=>?_)
 .obtain⟨a,row,rfl,_⟩:=h
  rfl
 .obtain⟨a,row,rfl,ha,hb,OY,q⟩:=h
  have hsz:ax=16777216:=by decide
  have hu:=Qb hr;rcases ha with ha | ha
  .skip
   refine⟨_,(e9 (jk (i:=1) sc.nd rfl (Or.inr rfl) rG)
   (e9 (zM PassesOwn.never rfl (FI K (qv 0)) (nZ (i:=2) sc.nd rfl (Or.inl rfl)) (gF (vM hu (qv 1) (qv 2) (zJ (rH hu (qv 1) (qv 2) FC ⟨rfl,rfl,rfl,rfl⟩)))))
   (gF (kC (jb (zN K) (by rfl) B.tuple (!3) (gm (fO (og K) (by rfl) B.sorted (!3) (gm (vL (N:=["number", "odd"]) (mp:=[none,some 1]) rfl (B5 (qv 1)) rfl (by show iQ ["row", "odd", "number"] (dJ (top 10)) _ _ _=true;decide +kernel) λ_ _ _ _ _=>⟨(nZ (i:=0) (by show List.Nodup [("number" : Str),("odd" : Str)];decide +kernel) rfl (Or.inl rfl)),(zL (zI (qA hu (qv 1) (qv 0) (λ_ _=>rfl)))),(qv 0)⟩) eY)) eY)))))),?_⟩
   intro d hd;have QL:a≠d:=eF ha hd
   refine⟨_,rfl,a,rfl,⟨_,gn.of (by rw[dS QL];exact ha)⟩,E5 (xs:=row.map V.int) (λi σ' H'=>(∃y,σ'=[some (.ref a),some (.ref d),y])/\H' d=some (.dK (fW (eh (row.take i))))/\Ext [] H H')
    ⟨⟨none,rfl⟩,dM,.new hd⟩ (λi σ' H' _ h=>gn.of (h.2.2.keep _ _ (!4) ha)) ?_ ?_⟩
   .rintro i x σ' H' hx ⟨⟨y,rfl⟩,hD,x1⟩
    rw[aC] at hx
    cases hk:row[i]? with
    | none=>rw[hk] at hx;cases hx
    | some k =>
     rw[hk] at hx;cases hx;have ol:=nE (row.take i);rw[bO] at ol;refine⟨_,rfl,d,rfl,.inl ⟨_,.inl hD⟩,_,rfl,_,ll.k (k:=Sum.inl k) hD,_,oO _ _,_,rfl,_,rfl,d,_,rfl,rF.k (k:=Sum.inl k) hD (by rw[oP];omega),⟨_,rfl⟩,?_,x1.put hd⟩;rw[dM,sD,dm,hk];show _=some (HO.dK (fW (eh (row.take i++[k]))));rw[vf]
   .rintro σ' H' ⟨⟨y,rfl⟩,hD,x1⟩
    rw[bC (by rw[aj];exact am _)] at hD;have ol:(eh row).length<=60/\(fc (eh row)).Nodup:=⟨hb,kR row⟩
    refine⟨_,rfl,d,_,rfl,hD,λo=>uG (λi ys σ' H2=>(∃y,σ'=[y,some (.ref d)])/\H2=eR H' d (.qS o (.dK (fW (eh row))))/\ys=(((eh row).take i).filter (·.2)).map λp=>V.int p.1) ⟨⟨none,rfl⟩,rfl,rfl⟩
     (λi ys σ' H2 h=>by rw[h.2.1];exact dM) ?_ ?_⟩
    .rintro i k v ys σ' H2 El ⟨⟨y,rfl⟩,rfl,rfl⟩
     unfold fW at El;rw[aC] at El
     cases hp:(eh row)[i]? with
     | none=>rw[hp] at El;cases El
     | some p =>
      rw[hp] at El;cases El
      have hl:((((eh row).take i).filter (·.2)).map λp=>V.int p.1).length<ax:=by
       rw[aj];have:=bG (·.2) ((eh row).take i);rw[bO] at this;omega
      refine⟨hl,_,rfl,_,rfl,d,.bl p.2,rfl,.inl ⟨_,Sum.inl p.1,.inr ⟨o,dM⟩,rfl,(CU ol.2 hp).symm⟩,_,rfl,?_⟩;have et:(eh row).take (i+1)=(eh row).take i++[p]:=by rw[dm,hp];rfl
      cases Hg:p.2 with
      | true=>exact MS ⟨_,rfl,⟨_,rfl⟩,rfl,by rw[et,cH,a9];simp[cS,Hg];rfl⟩
      | false=>exact IM ⟨⟨_,rfl⟩,rfl,by rw[et,cH,a9];simp[cS,Hg]⟩
    .rintro ys σ' H2 ⟨⟨y,rfl⟩,rfl,rfl⟩
     rw[bC (by rw[oP];exact am _)];have e:((eh row).filter (·.2)).map (λp=>V.int p.1)=(jG (eh row)).map V.int:=by unfold jG;rw[bv];rfl
     rw[e]
     have hl:(jG (eh row)).length<=60:=by
      unfold jG;rw[aj];have:=bG (·.2) (eh row);omega
     refine⟨by rw[aj];omega,λD Vq=>⟨D,jG (eh row),rfl,gn.of dM,!1,λl ms p1 p2 BQ=>⟨l,_,rfl,.inl ⟨gn.of dM,λt ht=>q ms t _ (qN ⟨p1,p2⟩).1 (qN ⟨p1,p2⟩).2 dM ?_⟩⟩⟩⟩;exact (((x1.put hd).trans (.new Vq)).trans (.new BQ)).trans (.new ht)
  .skip
   refine⟨_,(e9 (jk (i:=1) sc.nd rfl (Or.inr rfl) rG)
   (e9 (zM PassesOwn.never rfl (Jc K (qv 0)) (nZ (i:=2) sc.nd rfl (Or.inl rfl)) (gF (vM hu (qv 1) (qv 2) (zJ (rH hu (qv 1) (qv 2) FC ⟨rfl,rfl,rfl,rfl⟩)))))
   (gF (kC (jb (zN K) (by rfl) B.tuple (!3) (gm (fO (og K) (by rfl) B.sorted (!3) (gm (vL (N:=["number", "odd"]) (mp:=[none,some 1]) rfl (B5 (qv 1)) rfl (by show iQ ["row", "odd", "number"] (dJ (top 10)) _ _ _=true;decide +kernel) λ_ _ _ _ _=>⟨(nZ (i:=0) (by show List.Nodup [("number" : Str),("odd" : Str)];decide +kernel) rfl (Or.inl rfl)),(zL (zI (qA hu (qv 1) (qv 0) (λ_ _=>rfl)))),(qv 0)⟩) eY)) eY)))))),?_⟩
   intro d hd;have QL:a≠d:=eF ha hd
   refine⟨_,rfl,a,rfl,⟨_,iW.of (by rw[dS QL];exact ha)⟩,Ir (K:=K) (a:=a) (xs:=row.map V.int) (λi σ' H'=>(∃y,σ'=[some (.ref a),some (.ref d),y])/\H' d=some (.dK (fW (eh (row.take i))))/\Ext [] H H')
    ⟨⟨none,rfl⟩,dM,.new hd⟩ (λi σ' H' _ h=>iW.of (h.2.2.tup _ _ ha)) ?_ ?_⟩
   .rintro i x σ' H' hx ⟨⟨y,rfl⟩,hD,x1⟩
    rw[aC] at hx
    cases hk:row[i]? with
    | none=>rw[hk] at hx;cases hx
    | some k =>
     rw[hk] at hx;cases hx;have ol:=nE (row.take i);rw[bO] at ol;refine⟨_,rfl,d,rfl,.inl ⟨_,.inl hD⟩,_,rfl,_,ll.k (k:=Sum.inl k) hD,_,oO _ _,_,rfl,_,rfl,d,_,rfl,rF.k (k:=Sum.inl k) hD (by rw[oP];omega),⟨_,rfl⟩,?_,x1.put hd⟩;rw[dM,sD,dm,hk];show _=some (HO.dK (fW (eh (row.take i++[k]))));rw[vf]
   .rintro σ' H' ⟨⟨y,rfl⟩,hD,x1⟩
    rw[bC (by rw[aj];exact am _)] at hD;have ol:(eh row).length<=60/\(fc (eh row)).Nodup:=⟨hb,kR row⟩
    refine⟨_,rfl,d,_,rfl,hD,λo=>uG (λi ys σ' H2=>(∃y,σ'=[y,some (.ref d)])/\H2=eR H' d (.qS o (.dK (fW (eh row))))/\ys=(((eh row).take i).filter (·.2)).map λp=>V.int p.1) ⟨⟨none,rfl⟩,rfl,rfl⟩
     (λi ys σ' H2 h=>by rw[h.2.1];exact dM) ?_ ?_⟩
    .rintro i k v ys σ' H2 El ⟨⟨y,rfl⟩,rfl,rfl⟩
     unfold fW at El;rw[aC] at El
     cases hp:(eh row)[i]? with
     | none=>rw[hp] at El;cases El
     | some p =>
      rw[hp] at El;cases El
      have hl:((((eh row).take i).filter (·.2)).map λp=>V.int p.1).length<ax:=by
       rw[aj];have:=bG (·.2) ((eh row).take i);rw[bO] at this;omega
      refine⟨hl,_,rfl,_,rfl,d,.bl p.2,rfl,.inl ⟨_,Sum.inl p.1,.inr ⟨o,dM⟩,rfl,(CU ol.2 hp).symm⟩,_,rfl,?_⟩;have et:(eh row).take (i+1)=(eh row).take i++[p]:=by rw[dm,hp];rfl
      cases Hg:p.2 with
      | true=>exact MS ⟨_,rfl,⟨_,rfl⟩,rfl,by rw[et,cH,a9];simp[cS,Hg];rfl⟩
      | false=>exact IM ⟨⟨_,rfl⟩,rfl,by rw[et,cH,a9];simp[cS,Hg]⟩
    .rintro ys σ' H2 ⟨⟨y,rfl⟩,rfl,rfl⟩
     rw[bC (by rw[oP];exact am _)];have e:((eh row).filter (·.2)).map (λp=>V.int p.1)=(jG (eh row)).map V.int:=by unfold jG;rw[bv];rfl
     rw[e]
     have hl:(jG (eh row)).length<=60:=by
      unfold jG;rw[aj];have:=bG (·.2) (eh row);omega
     refine⟨by rw[aj];omega,λD Vq=>⟨D,jG (eh row),rfl,gn.of dM,!1,λl ms p1 p2 BQ=>⟨l,_,rfl,.inl ⟨gn.of dM,λt ht=>q ms t _ (qN ⟨p1,p2⟩).1 (qN ⟨p1,p2⟩).2 dM ?_⟩⟩⟩⟩;exact (((x1.put hd).trans (.new Vq)).trans (.new BQ)).trans (.new ht)
theorem vg:∀(row:List Int) (o:tq) (k:Int),k∈fc (row.foldl fQ o)->k∈fc o\/k∈row
 | [],o,k,h=>.inl h
 | x::row,o,k,h=>by
  rcases vg row _ k h with h | h
  .rcases Hd h with h | h
   .exact .inr (by rw[h];exact ar ..)
   .exact .inl h
  .exact .inr (ao _ h)
theorem Em (row:List Int)(k:Int)(h:k∈fc (eh row)):k∈row:=by
 rcases vg row [] k h with h | h
 .simp[fc] at h
 .exact h
theorem kS {S:List Addr}{H:Hp}:∀ns:List Int,dP S H (ns.map .int) (ns.map V.int)
 | []=>.nil
 | n::ns=>.cons (.int n) (kS ns)
theorem Hh {row ns:List Int}(h:AR row ns):ns=eG row:=by
 refine sC h.1 (mq _) λk=>?_;unfold eG;rw[h.2,iw,aW];constructor
 .intro z
  exact⟨cI.mp (!1),decide_eq_true z⟩
 .intro z
  exact of_decide_eq_true z.2
theorem vh (row:List Int):(eh row).length<=(jD row).length:=by
 have h:=fU (kR row) (ns:=jD row) λk hk=>je.mpr ?_
 .unfold fc at h
  rwa [aj] at h
 .exact Em row k hk
theorem AV (F:uq K "odd_ones" "odd_ones" (top 10) f fd)(hm:mg "odd_ones" = some (.ref f))(B:qM mg){C:Xc}:eL P w K mg base 1 "odd_ones" ["row"] (uX C fV) :=
 (yH F hm B).imp λvs H Q E ⟨S,ds,n,Qp,Xp,r,has,hF,hq,_⟩=>by
  unfold fV at hF;split at hF
  .rename_i es
   obtain⟨row,e,⟨h1,h2⟩,q⟩:=hF;obtain⟨v,t,rfl,rv,rn⟩:=r.of_cons;cases rn.fz;obtain⟨a,xs,rfl,ha,_,rs⟩:=rv.fL;rw[iu e] at rs;rw[jd rs] at ha;refine⟨a,row,rfl,.inl ha,aU (vh row) h1,h2,λns p H' ho _ hp x=>hq _ _ H' (.tup hp (kS _)) x ?_⟩;rw[Hh ho];exact q
  .rename_i es
   obtain⟨row,e,⟨h1,h2⟩,q⟩:=hF;obtain⟨v,t,rfl,rv,rn⟩:=r.of_cons;cases rn.fz;obtain⟨a,xs,rfl,ha,rs⟩:=rv.fY;rw[iu e] at rs;rw[jd rs] at ha;refine⟨a,row,rfl,.inr ha,aU (vh row) h1,h2,λns p H' ho _ hp x=>hq _ _ H' (.tup hp (kS _)) x ?_⟩;rw[Hh ho];exact q
  .exact hF.elim
end
end Odj
namespace Odj
open PySem PySem.Spec L2
section
variable {P:aO}{w:World}{K:W.Frag}{mg:Str->Option ae}{base:Heap}{f:Addr}{fd:bF}{cl:Str->Addr}{Y:zj}
theorem Eo {C J:Addr}(F:uq K "__init__" "TooMany.__init__" (uR (top 7) 0) f fd)(r:RF K C J f)(j:Nq K J)(m:mg "TooMany" = some (.ref C))(n0:W.findIn K (.ref C) "word" = some none):mn P w K mg base "TooMany" C (F' C "word"):=by
 have sc:eZ ["self", "word"] ["self", "word"] (dJ (uR (top 7) 0)):=⟨rfl,rfl,rfl,!3,rfl,!3,!3⟩;refine Gf r j m (ps:=["self", "word"]) (F.KQ (k:=0) sc (λvs H Q E h=>?_) (λfq A outer s H vs Q E hr h=>?_)) (F.binds λ_ _ _ _ _ _ us hl=>match us,hl with | [_,_],_=>rfl)
 .obtain⟨x,a,rfl,_⟩:=h
  rfl
 .obtain⟨x,a,rfl,hx,q⟩:=h
  exact⟨_,(gF (Jm K C (qv 0) (qv 1))),_,rfl,_,rfl,x,rfl,(r.mk' j).ec,n0,.inl ⟨hx,q⟩⟩
end
section
variable {P:aO}{w:World}{K:W.Frag}{mg:Str->Option ae}{base:Heap}{f:Addr}{fd:bF}{cl:Str->Addr}{Y:zj}
theorem AW (F:FM K mg "by_turns" (top 12))(B:qM mg)(iA:ny P w K mg base cl) :
  iy P w K mg base cl :=
 lP nj N2 F λsc f fq A outer s H E n0 S has hr hu =>
 (d6 (gW (gg iA (RM hr) (d4 (hZ jm (fM 0) (fM 1)) dQ))))
theorem Ep (F:FM K mg "odds_of" (top 13))(B:qM mg)(iA:ny P w K mg base cl) :
  pN P w K mg base cl :=
 lP pL N3 F λsc f fq A outer s H E n0 S has hr hu =>
 (eM (GL 2 sc.nd (lL dQ))
 (eM (lh PassesOwn.never rfl (Cr 1) (qo 3 sc.nd)
 (d6 (pD 2 PySem.F.plainAttrs_list PySem.F.slot_list_extend PySem.F.type_list_extend (GA) (d4 (NB (KE.loose (gQ (KE.loose (gQ (fM 0) (KE.loose dU))) (fM 3))) vY (vZ dU)) dQ))))
 (d6 (gW (Jy iA (RM hr) (gS (fM 2) fP))))))
theorem AX (F:FM K mg "parts_of" (top 14))(B:qM mg)(l6:lY P w K mg base cl) :
  nz P w K mg base cl :=
 lP nk N5 F λsc f fq A outer s H E n0 S has hr hu =>
 (eM (gG 1 sc.nd (KN.data (Jz B.list B.range rfl (gQ (fM 0) (KE.loose dU)))) (Or.inr rfl))
 (eM (lh PassesOwn.never rfl (Gx (gQ (fM 0) (KE.loose dU))) (qo 2 sc.nd)
 (eM (gG 3 sc.nd (xX (ND rfl) B.min (gS (KE.loose (gQ (fM 1) (KE.loose (gQ (fM 2) (KE.loose dU))))) (gS (KE.loose (gQ (fM 1) (KE.loose (gQ (fM 2) (KE.loose dU))))) fP))) (Or.inr rfl))
 (eM (gG 4 sc.nd (xX (NF rfl) B.max (gS (KE.loose (gQ (fM 1) (KE.loose (gQ (fM 2) (KE.loose dU))))) (gS (KE.loose (gQ (fM 1) (KE.loose (gQ (fM 2) (KE.loose dU))))) fP))) (Or.inr rfl))
 (d6 (gG 1 sc.nd (KN.data (lM [] (N:=N6) (mp:=[none,some 3,some 4]) rfl (yf (fM 1)) rfl (co N5 (dJ (top 14))) (λ_ _ _ _ _=>⟨(qo 0 (nd N6)),pC,(Js (gU (rV hu) (fM 0) (fM 2)) (ip 1) (ip 0))⟩) (hfd:=Li))) (Or.inr rfl))))))
 (d6 (gW (xY kG B.tuple (gS (KE.loose (KN.data (lM [] (N:=N4) (mp:=[none,some 1]) rfl (yf (KE.loose (KN.data (JA B.sorted B.set rfl (fM 1))))) rfl (co N5 (dJ (top 14))) (λ_ _ _ _ _=>⟨(qo 0 (nd N4)),pC,(gg l6 (RM hr) (d4 (ip 1) (d4 (ip 0) dQ)))⟩) (hfd:=Li)))) fP))))))
theorem yI (F:FM K mg "places_of" (top 15))(B:qM mg) :
  lY P w K mg base cl :=
 lP lR N8 F λsc f fq A outer s H E n0 S has hr hu =>
 (d6 (gW (xY kG B.tuple (gS (KE.loose (KN.data (lM [] (N:=N7) (mp:=[none,none,some 1]) rfl (Gv B.enumerate (fM 0)) rfl (co N8 (dJ (top 15))) (λ_ _ _ _ _=>⟨(UM (n':=2) rfl (D6 (qo 1 (nd N7)) (D6 (qo 0 (nd N7)) Ae)) (Va [1,0]) rfl),(v9 (gU (rV hu) (fM 0) (fM 2))),(ip 1)⟩) (hfd:=Li)))) fP))))
end
section
variable {P:aO}{w:World}{K:W.Frag}{mg:Str->Option ae}{base:Heap}{f:Addr}{fd:bF}{cl:Str->Addr}{Y:zj}
theorem yJ (F:FM K mg "other_end" (top 17))(B:qM mg) :
  lZ P w K mg base cl :=
 lP lS N9 F λsc f fq A outer s H E n0 S has hr hu =>
 (d6 (gW (Js (gU (rV hu) (KE.loose (gQ (fM 0) (KE.loose dU))) (fM 1)) (gQ (fM 0) (KE.loose dU)) (gQ (fM 0) (KE.loose dU)))))
theorem yL (F:FM K mg "ways_home" (top 20))(B:qM mg)(l7:lZ P w K mg base cl)(ff:iy P w K mg base cl)(nF:nz P w K mg base cl) :
  l3 P w K mg base cl :=
 lP lT Yy F λsc f fq A outer s H E n0 S has hr hu =>
 (eM (CS (i:=1) sc.nd (Or.inl rfl) (hfd:=(nf 1 [])))
 (eM (lh PassesOwn.never rfl (Gx (gg nF (RM hr) (d4 (ip 0) dQ))) (qo 2 sc.nd)
 (d6 (AK 1 (ER hu) (KE.loose (gQ (fM 2) (KE.loose dU))) (ic dQ))))
 (eM (gG 3 sc.nd rS)
 (eM (Cs PassesOwn.never (mN (ip 3))
 (eM (gG 3 sc.nd rS)
 (d6 (lh PassesOwn.never rfl (NL B.enumerate (gQ (fM 0) (KE.loose dU))) (UM (n':=2) rfl (D6 (qo 4 sc.nd) (D6 (qo 5 sc.nd) Ae)) (Va [4,5]) rfl)
 (d6 (rY (gU (Ju hu) (KE.loose (Lu 1 (ER hu) (KE.loose (gQ (fM 5) (KE.loose dU))))) (KE.loose (Lu 1 (ER hu) (KE.loose (gQ (fM 5) (KE.loose dU)))))) (eM (gG 6 sc.nd (Js (RO 1 (ER hu) (KE.loose (gQ (fM 5) (KE.loose dU)))) (gQ (fM 5) (KE.loose dU)) (gQ (fM 5) (KE.loose dU))))
 (eM (AK 1 (ER hu) (KE.loose (gg l7 (RM hr) (d4 (ip 5) (d4 (ip 6) dQ)))) (gg ff (RM hr) (d4 (G9 1 (ER hu) (fM 6)) (d4 (ic (d4 (ip 4) dQ)) dQ))))
 (d6 (gG 3 sc.nd rS)))) gV))))))
 (d6 (NM 1))))))
theorem wJ (F:FM K mg "base_rings" (top 21))(B:qM mg)(ff:iy P w K mg base cl) :
  kQ P w K mg base cl :=
 lP kM Vn F λsc f fq A outer s H E n0 S has hr hu =>
 (eM (Gz (i:=2) false [] sc.nd (N:=Vo) (mp:=[none,none,some 1]) rfl (Gv B.enumerate (KE.loose (gQ (fM 0) (KE.loose dU)))) rfl (co Vn (dJ (top 21))) (λ_ _ _ _ _=>⟨(UM (n':=2) rfl (D6 (qo 0 (nd Vo)) (D6 (qo 1 (nd Vo)) Ae)) (Va [0,1]) rfl),pC,(gg ff (RM hr) (d4 (ic (d4 (ip 0) dQ)) (d4 (gg ff (RM hr) (d4 (AM (ER hu) (fM 2) (KE.loose (gQ (fM 1) (KE.loose dU)))) (d4 (AM (ER hu) (fM 2) (KE.loose (gQ (fM 1) (KE.loose dU)))) dQ))) dQ)))⟩) (hfd:=Li) (hfi:=(nf 2 [])))
 (d6 (gW (KN.data (lM [] (N:=Wz) (mp:=[none]) rfl (yf (fM 2)) rfl (co Vn (dJ (top 21))) (λ_ _ _ _ _=>⟨(qo 0 (nd Wz)),(v9 (gU (Ju hu) (fM 0) (KE.loose (ic dQ)))),(ip 0)⟩) (hfd:=Li))))))
theorem AY (F:FM K mg "all_from" (top 22))(B:qM mg)(ff:iy P w K mg base cl) :
  nA P w K mg base  :=
 Vb (C:=XC λ_=>0) nq WB F λsc f fq A outer s H E n0 S has hr hu =>
 (sf (gG 2 sc.nd (KN.data (lL (d4 (ip 0) dQ)))) (sf (lh PassesOwn.never rfl (Cr 1) (qo 3 sc.nd (Or.inr rfl))
 (d6 (gG 2 sc.nd (hZ jm (fM 2) (KE.loose (KN.data (lM [] (N:=WA) (mp:=[none,some 3]) rfl (yf (fM 2)) rfl (co WB (dJ (top 22))) (λ_ _ _ _ _=>⟨(qo 0 (nd WA)),pC,(gg ff (RM hr) (d4 (ip 0) (d4 (ip 1) dQ)))⟩) (hfd:=Li)))))))) (qJ (CL B.sorted hu (fM 2)))))
end
section
variable {P:aO}{w:World}{K:W.Frag}{mg:Str->Option ae}{base:Heap}{f:Addr}{fd:bF}{cl:Str->Addr}{Y:zj}
theorem yM (F:FM K mg "all_evens" (top 23))(B:qM mg)(l8:l4 P w K mg base cl) :
  jJ P w K mg base cl :=
 Ln lV Yz F λsc f fq A outer s H E n0 S has Ex hx hr hu Nr =>
 (qJ (yr E Ex l8 (RM hr) Nr hx (d4 (ip 0) (d4 (ic dQ) dQ))))
theorem yN (F:FM K mg "all_joins" (top 24))(B:qM mg)(g6:∃t,mg "MOST_BASE_RINGS" = some (.int 10 t))(l9:l3 P w K mg base cl)(kT:kQ P w K mg base cl)(ff:iy P w K mg base cl)(pP:pN P w K mg base cl)(nG:nA P w K mg base )(pQ:mn P w K mg base "TooMany" (cl "TooMany") (F' (cl "TooMany") "word")) :
  l4 P w K mg base cl :=
 Ln lU YA F λsc f fq A outer s H E n0 S has Ex hx hr hu Nr =>
 (sf (gG 2 sc.nd (gg l9 (RM hr) (d4 (ip 0) dQ)))
 (sf (gG 3 sc.nd (gg kT (RM hr) (d4 (ip 0) (d4 (ip 2) dQ))))
 (sf (rY (gU Ny (KE.loose (xX uW B.len (gS (fM 3) fP))) (KE.loose (UH g6))) (d6 (GB E Ex (XC cl) pQ (show FL "TooMany" = (["word"]:List Str) by decide +kernel) (RM hr) Nr rfl hx (d4 K8 dQ))) gV)
 (sf (gG 4 sc.nd (ic dQ))
 (sf (lh PassesOwn.leaving rfl (Cr 1) (qo 5 sc.nd)
 (d6 (gG 4 sc.nd (gg ff (RM hr) (d4 (ip 4) (d4 (AM (ER hu) (fM 2) (fM 5)) dQ))))))
 (Oc (gU (Ju hu) (KE.loose (gg pP (RM hr) (d4 (ip 0) (d4 (ip 4) dQ)))) (fM 1)) (qJ (lL dQ))
 (qJ (JI nG (RM hr) (d4 (ip 4) (d4 (ip 3) dQ))))))))))
theorem yO (F:FM K mg "_law_price" (top 28))(B:qM mg)(d5:iz P w K mg base Y) :
  iK P w K mg base Y :=
 CB (C:=XC λ_=>0) lW YB F λsc f fq A outer s H E fa sa n0 S hf hS has hr hu =>
 (eM (gG 2 sc.nd (gQ (KE.loose (KN.data (lL (d4 dU (d4 dU (d4 dU (d4 dU (d4 dU (d4 dU (d4 dU (d4 (eE 0 d5 (RM hr) (d4 dU dQ) (hfd:=(by decide:0∈[0]))) dQ))))))))))) (KE.loose (eE 0 d5 (RM hr) (d4 dU dQ) (hfd:=(by decide:0∈[0]))))))
 (d6 (gW (Js (KW.kb (w_and (mN (ip 1)) (pv (gU (rV hu) (KE.loose (eE 0 d5 (RM hr) (d4 dU dQ) (hfd:=(by decide:0∈[0])))) (KE.loose dU))))) (Q5 (ip 2)) (ip 2)))))
theorem Er (F:FM K mg "_law_web" (top 29))(B:qM mg)(d5:iz P w K mg base Y)(fk:iK P w K mg base Y) :
  pO P w K mg base Y :=
 CB (C:=XC λ_=>0) pM WD F λsc f fq A outer s H E fa sa n0 S hf hS has hr hu =>
 (eM (gG 4 sc.nd (hZ jm (KE.loose dU) (KE.loose (eE 0 d5 (RM hr) (d4 (ip 1) dQ) (hfd:=(by decide:0∈[0]))))))
 (eM (gG 5 sc.nd (eE 0 d5 (RM hr) (d4 dU dQ) (hfd:=(by decide:0∈[0]))))
 (eM (GL 6 sc.nd (lL dQ))
 (yh (rY (gU Q7 (fM 5) (KE.loose dU)) (d6 (Gz (i:=6) true [1] sc.nd (N:=WC) (mp:=[none,some 0,some 3]) rfl (v7 B.range (hZ ou (fM 4) (KE.loose dU))) rfl (co WD (dJ (top 29))) (λ_ _ _ _ _=>⟨(qo 0 (nd WC)),pC,(ic (d4 (ip 0) (d4 (hZ jm (fM 0) (KE.loose dU)) (d4 (eE 1 fk (RM hr) (d4 (ip 2) dQ) (hfd:=(by decide:1∈[1]))) dQ))))⟩) (hfd:=(Wj (i:=0) rfl)) (hfi:=(nf 6 [0])))) gV)
 (yh (rY (KW.kb (w_and (gU (rV hu) (fM 5) (KE.loose dU)) (pv (gU Ny (fM 4) (KE.loose dU))))) (d6 (pD 6 PySem.F.plainAttrs_list PySem.F.slot_list_append PySem.F.type_list_append (r6) (d4 (ic (d4 dU (d4 (hZ ou (fM 4) (KE.loose dU)) (d4 (eE 0 fk (RM hr) (d4 (ip 3) dQ) (hfd:=(by decide:0∈[0]))) dQ)))) dQ))) gV)
 (eM (lh PassesOwn.never rfl (qG B.range (hZ Rb (KE.loose (eE 0 d5 (RM hr) (d4 (hZ jm (fM 2) (KE.loose dU)) dQ) (hfd:=(by decide:0∈[0])))) (KE.loose (xY Rf B.int (gS (KE.loose (Gk Ny (fM 4) (KE.loose dU))) fP))))) (qo 7 sc.nd)
 (eM (gG 8 sc.nd (eE 0 d5 (RM hr) (d4 (hZ ou (fM 4) (KE.loose dU)) dQ) (hfd:=(by decide:0∈[0]))))
 (eM (gG 9 sc.nd (ic (d4 (ip 8) (d4 (hZ jm (KE.loose (hZ jm (fM 8) (KE.loose dU))) (KE.loose (eE 0 d5 (RM hr) (d4 (hZ ou (KE.loose (hZ ou (fM 4) (KE.loose dU))) (fM 8)) dQ) (hfd:=(by decide:0∈[0]))))) (d4 (eE 0 fk (RM hr) (d4 (ip 3) dQ) (hfd:=(by decide:0∈[0]))) dQ)))))
 (yh (rY (KW.kb (w_and (gU (Ju hu) (fM 6) (KE.loose (KN.data (lL dQ)))) (pv (gU (rV hu) (KE.loose (eE 0 d5 (RM hr) (d4 dU dQ) (hfd:=(by decide:0∈[0])))) (KE.loose dU))))) (d6 (gG 9 sc.nd (gQ (fM 6) (KE.loose (eE 0 d5 (RM hr) (d4 (xX uW B.len (gS (fM 6) fP)) dQ) (hfd:=(by decide:0∈[0]))))))) gV)
 (d6 (pD 6 PySem.F.plainAttrs_list PySem.F.slot_list_insert PySem.F.type_list_insert (yi) (d4 (eE 0 d5 (RM hr) (d4 (hZ jm (KE.loose (xX uW B.len (gS (fM 6) fP))) (KE.loose dU)) dQ) (hfd:=(by decide:0∈[0]))) (d4 (ip 9) dQ))))))))
 (d6 (gW (ic (d4 (ip 4) (d4 (xY kG B.tuple (gS (KE.loose (NB (fM 6) vY (vZ (ip 2)))) fP)) dQ)))))))))))
end
section
variable {P:aO}{w:World}{K:W.Frag}{mg:Str->Option ae}{base:Heap}{f:Addr}{fd:bF}{cl:Str->Addr}{Y:zj}
theorem AZ (F:FM K mg "_law_odds" (top 30))(B:qM mg) :
  nB P w K mg base cl :=
 lP nr WG F λsc f fq A outer s H E n0 S has hr hu =>
 (eM (CS (i:=2) sc.nd (Or.inr rfl) (hfd:=(nf 2 [])))
 (eM (lh PassesOwn.never rfl (Cr 1) (qo 3 sc.nd)
 (d6 (lh PassesOwn.never rfl (Gx (NB (KE.loose (gQ (KE.loose (gQ (fM 0) (KE.loose dU))) (fM 3))) vY (vZ dU))) (qo 4 sc.nd)
 (d6 (AK 2 (ER hu) (fM 4) (k_not (JV 2 (ER hu) (ip 4) rS ⟨rfl,rfl,rfl,rfl⟩)))))))
 (d6 (gW (xY kG B.tuple (gS (KE.loose (KN.data (lM [] (N:=WE) (mp:=[none,some 2]) rfl (yf (KE.loose (KN.data (JW 2 B.sorted rfl)))) rfl (co WG (dJ (top 30))) (λ_ _ _ _ _=>⟨(qo 0 (nd WE)),(v9 (mN (G9 1 (ER hu) (fM 0)))),(ip 0)⟩) (hfd:=Li)))) fP))))))
theorem sH (F:FM K mg "_law_all_sets" (top 31))(B:qM mg)(nH:nB P w K mg base cl) :
  js P w K mg base cl :=
 lP jq WI F λsc f fq A outer s H E n0 S has hr hu =>
 (eM (GL 2 sc.nd (lL dQ))
 (eM (gG 3 sc.nd (xX uW B.len (gS (KE.loose (gQ (fM 0) (KE.loose dU))) fP)))
 (eM (lh PassesOwn.never rfl (qG B.range (hZ Q8 (KE.loose dU) (fM 3))) (qo 4 sc.nd (Or.inr rfl))
 (eM (gG 5 sc.nd (xY kG B.tuple (gS (KE.loose (KN.data (lM [] (N:=WH) (mp:=[none,some 4]) rfl (v7 B.range (ip 3)) rfl (co WI (dJ (top 31))) (λ_ _ _ _ _=>⟨(qo 0 (nd WH)),(v9 (gU (rV hu) (KE.loose (hZ Rp (KE.loose (hZ Q9 (fM 1) (fM 0))) (KE.loose dU))) (KE.loose dU))),(ip 0)⟩) (hfd:=Li)))) fP)))
 (d6 (rY (gU (rV hu) (KE.loose (gg nH (RM hr) (d4 (ip 0) (d4 (ip 5) dQ)))) (fM 1)) (d6 (pD 2 PySem.F.plainAttrs_list PySem.F.slot_list_append PySem.F.type_list_append (r6) (d4 (ip 5) dQ))) gV))))
 (d6 (gW (KN.data (CL B.sorted hu (fM 2))))))))
theorem yQ (F:FM K mg "_law_right" (top 32))(B:qM mg)(gO:jJ P w K mg base cl)(jt:js P w K mg base cl) :
  l5 P w K mg base cl :=
 lP lX YC F λsc f fq A outer s H E n0 S has hr hu =>
 (eM (gG 1 sc.nd (An hr B.repr (ip 0)))
 (eM (gG 2 sc.nd (An hr B.repr (gg jt (RM hr) (d4 (ip 0) (d4 (ic dQ) dQ)))))
 (eM (lh PassesOwn.never rfl (qG B.range dU) (qo 3 sc.nd)
 (eM (GL 4 sc.nd (GP gO (RM hr) (d4 (ip 0) dQ)))
 (eM (rY (KW.kb (w_or (xV (mN (Rk B.isinstance B.list (fM 4)))) (Q4 (gU Rr (KE.loose (JJ hr B.repr (fM 4))) (fM 2))))) (d6 (gW rS)) gV)
 (eM (Ry 4)
 (d6 (pD 4 PySem.F.plainAttrs_list PySem.F.slot_list_append PySem.F.type_list_append (r6) (d4 K7 dQ)))))))
 (d6 (gW (Gk Rt (KE.loose (An hr B.repr (ip 0))) (fM 1)))))))
theorem A0 (F:FM K mg "_law_word" (top 33))(B:qM mg)(gO:jJ P w K mg base cl)(xf:XF K mg (XC cl) Ej JX) :
  nC P w K mg base cl :=
 lP nu YD F λsc f fq A outer s H E n0 S has hr hu =>
 (eM (gG 1 sc.nd K7)
 (eM (Od (j:=2) rfl xf (!3) (qm.Rw gO) (RM hr) sc.nd (λ_=>(d4 (ip 0) dQ)) (λ_=>(eM (gG 3 sc.nd (NV 2 rfl xf (!3) B.isinstance (D8 xf (!3) (D8 xf (!3) (D8 xf (!3) (D8 xf (!3) (D8 xf (!3) (D8 xf (!3) NU))))))))
 (d6 (rY (KW.kb (w_and (mN (Rl 2 rfl xf (!3) B.isinstance)) (w_and (mN (NT 2 rfl xf B.isinstance B.ValueError)) (pv (xV (mN (ip 3))))))) (d6 (gG 1 sc.nd (Rn 2 rfl xf))) gV)))) (nf 2 []))
 (d6 (gW (ip 1)))))
end
section
variable {P:aO}{w:World}{K:W.Frag}{mg:Str->Option ae}{base:Heap}{f:Addr}{fd:bF}{cl:Str->Addr}{Y:zj}
theorem A1 (F:FM K mg "_law_many" (top 34))(B:qM mg)(fk:iK P w K mg base Y)(d5:iz P w K mg base Y) :
  nD P w K mg base Y :=
 CB (C:=XC λ_=>0) nv WK F λsc f fq A outer s H E fa sa n0 S hf hS has hr hu =>
 (eM (gG 3 sc.nd (eE 0 d5 (RM hr) (d4 (hZ ou (fM 1) (KE.loose dU)) dQ) (hfd:=(by decide:0∈[0]))) (Or.inr rfl))
 (eM (gG 4 sc.nd (hZ jm (KE.loose (hZ jm (fM 3) (KE.loose dU))) (KE.loose (eE 0 d5 (RM hr) (d4 (hZ ou (KE.loose (hZ ou (fM 1) (KE.loose dU))) (fM 3)) dQ) (hfd:=(by decide:0∈[0]))))) (Or.inr rfl))
 (d6 (gW (ic (d4 (ip 1) (d4 (xY kG B.tuple (gS (KE.loose (KN.data (lM [3] (N:=WJ) (mp:=[none,some 3,some 4,some 0]) rfl (v7 B.range (ip 2)) rfl (co WK (dJ (top 34))) (λ_ _ _ _ _=>⟨(qo 0 (nd WJ)),pC,(ic (d4 (ip 1) (d4 (ip 2) (d4 (eE 3 fk (RM hr) (d4 rS dQ) (hfd:=(by decide:3∈[3]))) dQ))))⟩) (hfd:=(Wj (i:=0) rfl))))) fP)) dQ)))))))
theorem tV (F:FM K mg "_law_between" (top 35))(B:qM mg)(fk:iK P w K mg base Y)(d5:iz P w K mg base Y) :
  jP P w K mg base Y :=
 CB (C:=XC λ_=>0) jO YE F λsc f fq A outer s H E fa sa n0 S hf hS has hr hu =>
 (eM (GL 2 sc.nd (lL (d4 (ic (d4 dU (d4 dU (d4 dU dQ)))) (d4 (ic (d4 dU (d4 dU (d4 dU dQ)))) (d4 (ic (d4 dU (d4 dU (d4 dU dQ)))) dQ)))))
 (eM (Cs PassesOwn.never (gU Q7 (KE.loose (xX uW B.len (gS (fM 2) fP))) (fM 1))
 (eM (gG 3 sc.nd (eE 0 d5 (RM hr) (d4 dU dQ) (hfd:=(by decide:0∈[0]))))
 (d6 (pD 2 PySem.F.plainAttrs_list PySem.F.slot_list_insert PySem.F.type_list_insert (yi) (d4 (eE 0 d5 (RM hr) (d4 (hZ jm (KE.loose (xX uW B.len (gS (fM 2) fP))) (KE.loose dU)) dQ) (hfd:=(by decide:0∈[0]))) (d4 (ic (d4 (ip 3) (d4 (hZ jm (KE.loose (hZ jm (fM 3) (KE.loose dU))) (KE.loose (eE 0 d5 (RM hr) (d4 (hZ ou (KE.loose dU) (fM 3)) dQ) (hfd:=(by decide:0∈[0]))))) (d4 (eE 0 fk (RM hr) (d4 rS dQ) (hfd:=(by decide:0∈[0]))) dQ)))) dQ))))))
 (d6 (gW (ic (d4 dU (d4 (xY kG B.tuple (gS (fM 2) fP)) dQ)))))))
end
section
variable {P:aO}{w:World}{K:W.Frag}{mg:Str->Option ae}{base:Heap}{f:Addr}{fd:bF}{cl:Str->Addr}{Y:zj}
theorem RQ (F:uq K "law" "law" (top 36) f fd)(B:qM mg)(nI:eL P w K mg base 1 "_law_feed" ["_law_script"] (qH Y K))(nK:nC P w K mg base cl)(kU:nD P w K mg base Y)(d5:iz P w K mg base Y)(iL:l5 P w K mg base cl)(jQ:jP P w K mg base Y)(pR:pO P w K mg base Y)(YI:yE { nx:=λ_ _=>False,rt:=λd _=>d=.bool true } (List.replicate 4 none) 0) :
  iP P w K mg base rq 20 f fd ["_law_script"] (yk K):=by
 have sc:eZ YF ["_law_script"] (dJ (top 36)):=Rv;refine U7 (C:=XC cl) (Y:=Y) (k:=19) (u:=yE) F sc (!2) (λfq A outer s H E hr=>⟨jk (i:=1) sc.nd rfl (Or.inl rfl) (lE nI (RM hr) (gm (qv 0) eY)),λfa sa n0 S H1 hf hS has=>?_⟩) rfl YI;have hu:=hr.units;unfold yE;exact (eM (lh PassesOwn.never rfl (qG B.range dU) (qo 2 sc.nd)
 (d6 (rY (xV (mN (gg iL (RM hr) (d4 (eE 1 pR (RM hr) (d4 dU (d4 dU (d4 rS dQ))) (hfd:=(by decide:1∈[1]))) dQ)))) (d6 (gW rS)) gV)))
 (eM (gG 3 sc.nd (eE 1 d5 (RM hr) (d4 dU dQ) (hfd:=(by decide:1∈[1]))))
 (yh (rY (KW.kb (w_and (gU (rV hu) (fM 3) (KE.loose dU)) (pv (xV (mN (gg iL (RM hr) (d4 (eE 1 kU (RM hr) (d4 dU (d4 dU dQ)) (hfd:=(by decide:1∈[1]))) dQ))))))) (d6 (gW rS)) gV)
 (yh (rY (KW.kb (w_and (gU (rV hu) (fM 3) (KE.loose dU)) (pv (xV (mN (gg iL (RM hr) (d4 (eE 1 jQ (RM hr) (d4 dU dQ) (hfd:=(by decide:1∈[1]))) dQ))))))) (d6 (gW rS)) gV)
 (d6 (gW (Gk (rV hu) (KE.loose (gg nK (RM hr) (d4 (eE 1 kU (RM hr) (d4 (hZ jm (KE.loose dU) (KE.loose (eE 1 d5 (RM hr) (d4 dU dQ) (hfd:=(by decide:1∈[1]))))) (d4 (hZ jm (KE.loose dU) (KE.loose (eE 1 d5 (RM hr) (d4 dU dQ) (hfd:=(by decide:1∈[1]))))) dQ)) (hfd:=(by decide:1∈[1]))) dQ))) (KE.loose K8))))))))
end
end Odj
namespace Odj
open PySem L2
local macro_rules | `(tactic| simp! [$ls,*]) => do let ex <- ("m7 kJ envOf List.length_cons List.length_nil List.map_cons List.map_nil List.cons_append List.nil_append List.append_nil List.replicate_succ List.replicate_zero Nat.reduceSub Nat.reduceAdd true_and and_true d9 gu iT fD yg eI pA d7 dH uC dO dG gi uL eJ fi fb pq UL rT Cn K9 Wf nP NR dZ Aj Ak lj iY v5 NJ UP Le gK HX SM OV pB OT OR OS Lg Am U9 mP iE NH Ad p8 dI Q2 oz mQ Wm List.getElem?_cons_zero List.getElem?_cons_succ List.set_cons_zero List.set_cons_succ Option.join_some Option.join_none if_true if_false Bool.not_true Bool.not_false Bool.true_eq_false Bool.false_eq_true reduceIte".splitOn " ").toArray.mapM λs => `(Lean.Parser.Tactic.simpLemma| $(Lean.mkIdent s.toName):ident);`(tactic| simp only[$ls,*, $ex,*])
noncomputable abbrev fK:=Int × Int × Int
noncomputable def eU (t:fK):ad:=.tuple [.int t.1,.int t.2.1,.int t.2.2]
noncomputable def gA (many:Int)(ts:List fK):ad:=.tuple [.int many,.tuple (ts.map eU)]
noncomputable def dR (ns:List Int):ad:=.tuple (ns.map .int)
theorem vi:∀ts:List fK,ad.canLayAll0 (ts.map eU)=true
 | []=>rfl
 | t::ts=>by simp only[ak,ad.canLayAll0,eU,ad.canLay0,vi ts];rfl
theorem Hj (ts:List fK):(ad.list (ts.map eU)).canLay0=true:=vi ts
theorem vj:∀ts:List fK,ad.depthAll (ts.map eU)<=1
 | []=>by simp[ad.depthAll]
 | t::ts=>by have:=vj ts;simp only[ak,ad.depthAll,eU,ad.depth];omega
theorem Hk (ts:List fK):(ad.list (ts.map eU)).depth<=60:=by have:=vj ts;simp only[ad.depth];omega
theorem qg (i j:Int):pz (.int i) (.int j)=some (.int (i - j)):=by simp only[pz]
theorem ki (i j:Int):iS (.int i) (.int j)=some (.int (i+j)):=by simp only[iS]
section
variable {n:Int}{Q:ad->Int->Prop}{X:XQ}
noncomputable def kj (t:fK)(x:Int):Int:=if t.1=x then t.2.1 else t.1
theorem wK (t:fK)(x:Int):iI [eU t,.int x] n Q X=Q (.int (kj t x)) n:=by
 simp! [iI,lS,eU,oH,lO,i7,kj];by_cases h:t.1=x<;>simp[h]
theorem oQ {ts:List fK}{i:Int}(h0:0<=i)(h1:i<(ts.length:Int)):∃t,ts[i.toNat]? = some t/\t∈ts/\rk (ts.map eU) i=some (eU t):=by
 have hl:i.toNat<ts.length:=by omega
 refine⟨ts[i.toNat],by simp[hl],bT _,?_⟩;rw[se h0 (by simpa using h1),aC];simp[hl]
end
noncomputable def ma (ts:List fK)(k:Int):List Int:=[(ts.getD k.toNat (0,0,0)).1,(ts.getD k.toNat (0,0,0)).2.1]
noncomputable def eD (ts:List fK)(ks:List Int):List Int:=(ks.map (ma ts)).flatten
noncomputable abbrev g7 (ts:List fK)(ks:List Int):Prop:=∀k∈ks,0<=k/\k<(ts.length:Int)
theorem gf (ts:List fK)(k:Int)(ks:List Int):eD ts (k::ks)=ma ts k++eD ts ks:=rfl
theorem oR (ts:List fK)(a b:List Int):eD ts (a++b)=eD ts a++eD ts b:=by
 unfold eD;rw[a9,List.flatten_append]
theorem nL {ts:List fK}{a b:List Int}(h:a.Perm b):(eD ts a).Perm (eD ts b):=(h.map _).flatten
noncomputable def Hl (ts:List fK)(ks:List Int):Prop:=∀v,(eD ts ks).count v % 2=0
theorem sI {l:List Int}(h:l.Nodup)(k:Int):l.count k=if k∈l then 1 else 0:=List.Nodup.count h
theorem gE {row:List Int}{v:Int}:v∈eG row↔row.count v % 2=1:=by
 unfold eG;rw[iw,aW];constructor
 .intro z
  exact of_decide_eq_true z.2
 .intro z
  exact⟨cI.mp (!1),decide_eq_true z⟩
theorem jK (row:List Int):(eG row).Pairwise (· < ·):=mq _
theorem g8 {l:List Int}(h:l.Pairwise (· < ·)):l.Nodup:=h.imp λh z=>by omega
theorem i9 (row:List Int):(eG row).Nodup:=g8 (jK row)
theorem kl {a b:List Int}(ha:a.Nodup)(hb:b.Nodup){k:Int}:k∈eG (a++b)↔¬ (k∈a↔k∈b):=by
 rw[gE,bf,sI ha,sI hb];by_cases h1:k∈a<;>by_cases h2:k∈b<;>simp[h1,h2]
theorem A2 {a s:List Int}(ha:a.Nodup)(hs:s.Nodup):(eG (a++s)).Perm ((a.filter λk=>!decide (k∈s))++(s.filter λk=>!decide (k∈a))):=by
 refine (cg (i9 _) (cv.mpr ⟨ha.filter _,hs.filter _,λx hx y hy e=>?_⟩)).mpr λk=>?_
 .subst e
  have h1:=(aW.mp hx).1;have h2:=(aW.mp hy).2;simp[h1] at h2
 .rw[kl ha hs,aB,aW,aW]
  by_cases h1:k∈a<;>by_cases h2:k∈s<;>simp[h1,h2]
theorem Es {a s:List Int}(ha:a.Nodup)(hs:s.Nodup):(a.filter λk=>decide (k∈s)).Perm (s.filter λk=>decide (k∈a)):=by
 refine (cg (ha.filter _) (hs.filter _)).mpr λk=>?_;rw[aW,aW];simp[and_comm]
theorem kW {α:Type}(l:List α):l.filter (λ_=>true)=l:=by simp
theorem CV (row:List Int):(jD row).length<=row.length:=fU (jE row) λk hk=>je.mp hk
theorem CW {ts:List fK}{a b:List Int}(ha:g7 ts a)(hb:g7 ts b):g7 ts (eG (a++b)):=λk hk=>by
 have:k∈a++b:=cI.mp (by have:=gE.mp hk;omega);exact (aB.mp this).elim (ha k) (hb k)
theorem Ov {a b:List Int}(ha:a.Pairwise (· < ·))(hb:b.Pairwise (·<=·))(h:b.Perm a):b=a:=m8 h hb (ha.imp λh=>by omega)
section
variable {n:Int}{X:XQ}{Q:ad->Int->Prop}
theorem A3 {row:List Int}(h1:(jD row).length<=60)(h2:row.length<=100000):fV [.tuple (row.map .int)] n Q X=Q (dR (eG row)) n:=by
 simp only[fV,ir,dI,h1,h2,true_and,dR,and_self]
theorem iM {a b:List Int}(h:a.length+b.length<=60):gc [dR a,dR b] n Q X=Q (dR (eG (a++b))) n:=by
 have e:iS (.tuple (a.map .int)) (.tuple (b.map .int))=some (.tuple ((a++b).map .int)):=by rw[NW (by rw[aj,aj];omega),a9]
 have hl:(a++b).length<=60:=by rw[aG];exact h
 simp! [gc,nj];rw[dR,dR];simp! [e,A3 (aU (CV (a++b)) hl) (!1)]
end
theorem oS (k:List Int):eP [] k=none:=rfl
theorem jf (p:List Int × ad)(kvs:iO)(k:List Int):eP (p::kvs) k=if p.1=k then some p.2 else eP kvs k:=by
 unfold eP;rw[bQ];by_cases h:p.1=k
 .rw[decide_eq_true h,if_pos h];rfl
 .rw[decide_eq_false h,if_neg h]
theorem vk (k j:List Int)(d:ad):∀kvs:iO,(kvs.any λp=>decide (p.1=k))=false->eP (kvs++[(k,d)]) j=if j=k then some d else eP kvs j
 | [],_=>by
  rw[aQ,jf,oS];by_cases h:j=k
  .rw[if_pos h.symm,if_pos h]
  .rw[if_neg (λz=>h z.symm),if_neg h]
 | p::kvs,ha=>by
  rw[cJ,Bool.or_eq_false_iff] at ha;have hp:¬ p.1=k:=of_decide_eq_false ha.1;rw[bj,jf,vk k j d kvs ha.2,jf];by_cases h:p.1=j
  .rw[if_pos h,if_pos h,if_neg (λz=>hp (h.trans z))]
  .rw[if_neg h,if_neg h]
theorem yR (k j:List Int)(d:ad):∀kvs:iO,eP (kvs.map λp=>if p.1=k then (p.1,d) else p) j=(eP kvs j).map λx=>if j=k then d else x
 | []=>rfl
 | p::kvs=>by
  rw[ak,jf,jf,yR k j d kvs];by_cases h:p.1=k
  .rw[if_pos h]
   by_cases h2:p.1=j
   .rw[if_pos h2,if_pos h2,bH,if_pos (h2.symm.trans h)]
   .rw[if_neg h2,if_neg h2]
  .rw[if_neg h]
   by_cases h2:p.1=j
   .rw[if_pos h2,if_pos h2,bH,if_neg (λz=>h (h2.trans z))]
   .rw[if_neg h2,if_neg h2]
theorem me (k:List Int):∀kvs:iO,(kvs.any λp=>decide (p.1=k))=(eP kvs k).isSome
 | []=>rfl
 | p::kvs=>by
  rw[cJ,jf,me k kvs];by_cases h:p.1=k
  .rw[if_pos h,decide_eq_true h];rfl
  .rw[if_neg h,decide_eq_false h];rfl
theorem ju (kvs:iO)(k j:List Int)(d:ad):eP (iG kvs k d) j=if j=k then some d else eP kvs j:=by
 unfold iG;split
 .rename_i h
  rw[me] at h;rw[yR];by_cases hj:j=k
  .subst hj
   obtain⟨x,hx⟩:=bZ.mp h;rw[hx,if_pos rfl,bH,if_pos rfl]
  .rw[if_neg hj]
   cases eP kvs j with
   | none=>rfl
   | some x=>rw[bH,if_neg hj]
 .rename_i h
  exact vk k j d kvs (Bool.eq_false_iff.mpr h)
noncomputable def fS (kvs:iO):List (List Int):=kvs.map (·.1)
theorem oU (kvs:iO)(k:List Int)(d:ad):fS (iG kvs k d)=if k∈fS kvs then fS kvs else fS kvs++[k]:=by
 have ha:((kvs.any λp=>decide (p.1=k))=true)↔k∈fS kvs:=by
  rw[dv,fS,a5];constructor
  .rintro⟨p,hp,h⟩;exact⟨p,hp,of_decide_eq_true h⟩
  .rintro⟨p,hp,h⟩;exact⟨p,hp,decide_eq_true h⟩
 unfold iG;by_cases h:(kvs.any λp=>decide (p.1=k))=true
 .rw[if_pos h,if_pos (ha.mp h),fS,fS,bv]
  refine cy λp _=>?_;show (if p.1=k then (p.1,d) else p).1=p.1;split<;>rfl
 .rw[if_neg h,if_neg (λz=>h (ha.mpr z)),fS,fS,a9]
  rfl
structure nM (row:List Int) (kvs:iO):Prop where
 val:∀k,eP kvs [k]=if k∈row then some (.bool (decide (row.count k % 2=1))) else none
 mem:∀l,l∈fS kvs↔∃k∈row,l=[k]
 nd:(fS kvs).Nodup
theorem nM.nil:nM [] []:=⟨λk=>by rw[oS];simp,λl=>by simp[fS],by simp[fS]⟩
theorem nM.step {row:List Int}{kvs:iO}(h:nM row kvs)(k:Int):∃b,(eP kvs [k]).getD (.bool false)=.bool b/\nM (row++[k]) (iG kvs [k] (.bool (!b))):=by
 refine⟨decide (row.count k % 2=1),?_,λj=>?_,λl=>?_,?_⟩
 .rw[h.val]
  split
  .rfl
  .rename_i hk
   rw[List.count_eq_zero.mpr hk];rfl
 .rw[ju]
  by_cases hj:j=k
  .subst hj
   rw[if_pos rfl,if_pos (!4),bf];have:(row.count j + [j].count j) % 2=1↔¬ row.count j % 2=1:=by simp;omega
   congr 2;rw[<- decide_not,decide_eq_decide];exact this.symm
  .rw[if_neg (by simpa using hj),h.val,bf]
   have e:[k].count j=0:=by simp[List.count_singleton];exact λz=>hj z.symm
   rw[e,Nat.add_zero];simp[hj]
 .rw[oU]
  split
  .rename_i hm
   rw[h.mem];obtain⟨k',D4,e⟩:=(h.mem [k]).mp hm;have:k=k':=by simpa using e
   subst this;constructor
   .rintro⟨j,hj,e⟩;exact⟨j,a6 _ hj,e⟩
   .rintro⟨j,hj,e⟩
    rcases aB.mp hj with hj | hj
    .exact⟨j,hj,e⟩
    .rw[av.mp hj] at e;exact⟨k,D4,e⟩
  .rw[aB,h.mem,av]
   constructor
   .rintro (⟨j,hj,e⟩ | e)
    .exact⟨j,a6 _ hj,e⟩
    .exact⟨k,!4,e⟩
   .rintro⟨j,hj,e⟩
    rcases aB.mp hj with hj | hj
    .exact .inl ⟨j,hj,e⟩
    .rw[av.mp hj] at e;exact .inr e
 .rw[oU]
  split
  .exact h.nd
  .rename_i hm
   rw[cv];exact⟨h.nd,!4,λa ha b hb=>by rw[av.mp hb];exact λz=>hm (z ▸ ha)⟩
theorem nM.heads {row:List Int}{kvs:iO}(h:nM row kvs):(kvs.map λp=>p.1.headD 0).Nodup/\∀k,k∈(kvs.map λp=>p.1.headD 0)↔k∈row:=by
 have e:(kvs.map λp=>p.1.headD 0)=(fS kvs).map λl=>l.headD 0:=by rw[fS,bv];rfl
 rw[e];refine⟨?_,λk=>?_⟩
 .have:∀l:List (List Int),l.Nodup->(∀a∈l,a∈fS kvs)->(l.map λl=>l.headD 0).Nodup:=by
   intro l
   induction l with
   | nil=>intro _ _;exact List.nodup_nil
   | cons a l ih =>
    intro hn hm;obtain⟨n1,n2⟩:=bN.mp hn;rw[ak,bN];refine⟨λz=>?_,ih n2 λb hb=>hm b (ao _ hb)⟩;obtain⟨b,hb,qC⟩:=a5.mp z;obtain⟨x,_,rfl⟩:=(h.mem a).mp (hm a (ar ..));obtain⟨y,_,rfl⟩:=(h.mem b).mp (hm b (ao _ hb));have e:y=x:=by simpa using qC
    exact n1 (e ▸ hb)
  exact this _ h.nd λ_ ha=>ha
 .rw[a5]
  constructor
  .rintro⟨l,hl,rfl⟩
   obtain⟨x,hx,rfl⟩:=(h.mem l).mp hl;exact hx
  .intro hk
   exact⟨[k],(h.mem _).mpr ⟨k,hk,rfl⟩,rfl⟩
theorem nM.sorted {row:List Int}{kvs:iO}(h:nM row kvs):(sortI (kvs.map λp=>p.1.headD 0)).filter (λk=>decide (row.count k % 2=1))=eG row:=by
 obtain⟨h1,h2⟩:=h.heads;refine we ?_ (mq _) λk=>?_
 .exact (lG (i5 _) ((sortI_perm _).nodup_iff.mpr h1)).sublist List.filter_sublist
 .rw[aW,(sortI_perm _).mem_iff,h2,eG,iw,aW]
structure sL (many:Int) (sg:Bool) (t:fK):Prop where
 a0:0<=t.1
 ab:t.1<t.2.1
 bm:t.2.1<many
 pr:t.2.2.natAbs<=99
 pl:sg=false->0<=t.2.2
structure Vr (many:Int) (sg:Bool) (ts:List fK):Prop where
 m0:1<=many
 RR:∀t∈ts,sL many sg t
section
variable {n:Int}{X:XQ}{Q:ad->Int->Prop}
theorem g9 {sg:Bool}(hn:n+3<=jo)(h:∀(p:Int) (n':Int),p.natAbs<=99->(sg=false->0<=p)->n<=n'->n'<=n+3->Q (.int p) n'):fR [.bool sg] n Q X:=by
 unfold fR lW;simp only[m7,kJ,envOf,ak,bq,ap,bg,Nat.reduceSub,Nat.reduceAdd,aX,bu,bj,aQ];with_reducible generalize ht:fD _=t
 simp! [d9];refine fA (!2) (!2) (!1) λb b0 b1=>?_;refine fA (!2) (!2) (!1) λc c0 c1=>?_;obtain⟨x,hx,hm⟩:=GF (xs:=[ad.int 1,.int 2,.int 3,.int 0,.int 5,.int 1,.int 99,.int b]) c0 (by simpa using c1)
 obtain⟨p,rfl,p0,p1⟩:∃p:Int,x=.int p/\0<=p/\p<=99:=by
  simp only[au,bB,or_false] at hm;rcases hm with rfl | rfl | rfl | rfl | rfl | rfl | rfl | rfl<;>exact⟨_,rfl,!1,!1⟩
 simp! [hx];subst ht
 cases sg with
 | false =>
  simp! [d9];exact h p _ (!1) (λ_=>p0) (!1) (!1)
 | true =>
  simp! [d9];refine fA (!2) (!2) (!1) λd d0 d1=>?_;simp! [i7,Nx];split
  .exact h (-p) _ (!1) (λz=>by cases z) (!1) (!1)
  .exact h p _ (!1) (λz=>by cases z) (!1) (!1)
theorem vm {many:Int}{sg:Bool}{Q:List ad->Int->Prop}{x1:Option oq}:∀(xs:List Int) (acc:List fK) (n:Int) (x0:Option oq),(∀k∈xs,0<=k/\k+1<many)->n+3 * xs.length<=jo->(∀t∈acc,sL many sg t) ->
  (∀(ts:List fK) (n':Int),(∀t∈ts,sL many sg t)->ts.length=acc.length+xs.length->n<=n'->n'<=n+3 * xs.length->Q (ts.map eU) n') ->
  fH (iE 0) pB (gi (dG (d7 0) (dG (eJ iS (dH 0) (uC (.int 1))) (dG (dZ fR (dG (d7 2) dO)) dO)))) Q (xs.map .int) (acc.map eU) [x0,x1,some (.s (.bool sg))] n
 | [],acc,n,x0,_,_,ha,h=>h acc n ha (!4) (!1) (!4)
 | k::xs,acc,n,x0,hk,hn,ha,h=>by
  rw[ap] at hn h;have Lq:=hk k (ar ..);rw[ak,fH,iE];simp only[aw];rw[pB,if_pos rfl];simp only[gi,dG,d7,eJ,dH,uC,dO,dZ,ki,dI,af,ag];refine g9 (!1) λp n1 hp hs h1 h2=>?_;have e:acc.map eU++[ad.tuple [.int k,.int (k+1),.int p]]=(acc++[(k,k+1,p)]).map eU:=by rw[a9];rfl
  rw[e];refine vm xs (acc++[(k,k+1,p)]) n1 _ (λj hj=>hk j (ao _ hj)) (!1) (λt ht=>?_) λts n' ht hl h3 h4=>h ts n' ht (by rw[hl];simp;omega) (!1) (!1);rcases aB.mp ht with ht | ht
  .exact ha t ht
  .rw[av.mp ht]
   exact⟨Lq.1,by show k<k+1;omega,Lq.2,hp,hs⟩
structure RS (m k many way:Int) (sg:Bool) (n e:Int) (c:Nat) (env:fh) (n':Int):Prop where
 ex:∃ts:List fK,env=[none,some (.s (.int m)),some (.s (.int k)),some (.s (.bool sg)),some (.s (.int many)),some (.s (.int way)),some (.o (ts.map eU)),none,none,none]/\(∀t∈ts,sL many sg t)/\ts.length<=c
 lo:n<=n'
 hi:n'<=n+e
structure Vs (m k many way:Int) (sg:Bool) (ts:List fK) (x7 x8:Option oq) (n:Int) (env:fh) (n':Int):Prop where
 ex:∃t:fK,env=[none,some (.s (.int m)),some (.s (.int k)),some (.s (.bool sg)),some (.s (.int many)),some (.s (.int way)),some (.o (ts.map eU)),x7,x8,some (.s (eU t))]/\sL many sg t
 lo:n<=n'
 hi:n'<=n+2
theorem A4 {m k:Int}{sg:Bool}(hm:1<=m)(Z5:m<=9)(hk:0<=k)(YJ:k<=16)(hn:n+400<=jo)(h:∀(many:Int) (ts:List fK) (n':Int),Vr many sg ts->many<=m->(ts.length:Int)<=k->n<=n'->n'<=n+400->Q (gA many ts) n'):mB [.int m,.int k,.bool sg] n Q X:=by
 have Hm:jo=1099511627776:=by decide
 unfold mB pM;simp only[m7,kJ,envOf,ak,bq,ap,bg,Nat.reduceSub,Nat.reduceAdd,aX,bu,bj,aQ];with_reducible generalize Vt:fD _=t5
 with_reducible generalize YK:v8 (iT (pq (fi (eJ Gn _ _)) _) _ _) _=lc
 with_reducible generalize Lp:d9 (eI 8 _) _=lb
 with_reducible generalize RT:d9 (iY _ _ _) t5=t4
 with_reducible generalize Vu:v8 (iT (pq (fi (eJ uT _ _)) _) _ _) t4=t3
 simp! [d9];refine fA (!1) (!1) (!1) λr r0 r1=>?_;simp! [ki];obtain⟨many,em,k0,k1⟩:∃many:Int,1+r=many/\1<=many/\many<=m:=⟨_,rfl,!1,!1⟩;rw[em];refine fA (!2) (!2) (!1) λway w0 w1=>?_;refine⟨RS m k many way sg n 30 8,?_,?_⟩
 .simp! [OP]
  split
  .simp! [qg]
   refine⟨⟨!1,!1⟩,?_⟩;rw[oI];refine vm (many:=many) (sg:=sg) _ [] _ _ (λj hj=>by have:=fF.mp hj;omega) (by rw[fw];omega) (!4) λts n' ht hl h1 h2=>?_;rw[fw] at hl h2;exact⟨⟨ts,rfl,ht,by rw[hl];simp;omega⟩,!1,!1⟩
  .exact⟨⟨[],rfl,!4,!4⟩,!1,!1⟩
 .rintro eA n1 ⟨⟨ts,rfl,oV,hl⟩,WL,TJ⟩
  rw[<- Vu];refine⟨RS m k many way sg n 33 9,?_,?_⟩
  .simp! [i7,K']
   split
   .split
    .simp! [qg]
     rename_i hw hg;have Z6:1<many:=of_decide_eq_true hg;refine g9 (!1) λp n2 hp hs h1 h2=>?_;rw[nc (by rw[aj];omega),dI];refine⟨⟨ts++[(0,many - 1,p)],by rw[a9];rfl,λt ht=>?_,by simp;omega⟩,!1,!1⟩;rcases aB.mp ht with ht | ht
     .exact oV t ht
     .rw[av.mp ht]
      exact⟨dc 0,by show (0:Int)<many - 1;omega,by show many - 1<many;omega,hp,hs⟩
    .exact⟨⟨ts,rfl,oV,!1⟩,!1,!1⟩
   .exact⟨⟨ts,rfl,oV,!1⟩,!1,!1⟩
  .rintro eA n2 ⟨⟨ts,rfl,oV,hl⟩,YL,YM⟩
   subst RT;simp! [ki];refine fA (!1) (!1) (!1) λc c0 c1=>?_;simp! [K',intD,GG];have hj:0<=(if decide (1<many)=true then c else 0)/\(if decide (1<many)=true then c else 0)<=16:=by split<;>omega
   have TK:0<(if decide (1<many)=true then c else 0)->1<many:=by
    split
    .rename_i hh;intro _;exact of_decide_eq_true hh
    .intro z;omega
   generalize (if decide (1<many)=true then c else 0)=j at hj TK ⊢;refine⟨!1,!1,?_⟩;refine gC (λpre post env n'=>∃(us:List fK) (x7 x8 x9:Option oq),env=[none,some (.s (.int m)),some (.s (.int k)),some (.s (.bool sg)),some (.s (.int many)),some (.s (.int way)),some (.o (us.map eU)),x7,x8,x9]/\(∀t∈us,sL many sg t)/\us.length=ts.length+pre.length/\n2<=n'/\n'<=n2+1+10 * pre.length/\pre.length+post.length=j.toNat) _ [] _ _ ?_ ⟨ts,none,none,none,rfl,oV,rfl,!1,!4,by simp[oy]⟩ ?_
   .rintro pre d post env n' E' hE ⟨us,x7,x8,x9,rfl,ML,SA,WM,YN,hp⟩ wL
    rw[ap] at hp;have Z7:1<many:=TK (!1);rw[iE];simp only[az,aw];subst Lp;simp! [qg];refine fA (!1) (!1) (!1) λa a0 a1=>?_;simp! [ki,qg];refine fA (!1) (!1) (!1) λb b0 b1=>?_;simp! [ki];refine g9 (!1) λp n3 AQ hs h1 h2=>?_;have hT:sL many sg (a,a+1+b,p):=⟨a0,by show a<a+1+b;omega,by show a+1+b<many;omega,AQ,hs⟩;subst YK;refine⟨Vs m k many way sg us (some (.s d)) (some (.s (.int a))) n3,?_,?_⟩
    .simp! [d9]
     rw[Aq (x:=.list (us.map eU)) (y:=.list []) (Hj us) rfl (Hk us)]
     cases us with
     | nil =>
      simp! [bq,ad.eqv,ad.eqvAll];exact⟨⟨_,rfl,hT⟩,!1,!1⟩
     | cons u us =>
      simp! [ak,ad.eqv,ad.eqvAll];refine fA (!2) (!2) (!1) λe e0 e1=>?_;simp! [i7];split
      .simp! [j8,ap,aj]
       rw[ap] at SA;refine fA (!1) (!1) (!1) λg g0 g1=>?_;obtain⟨t,h3,h4,h5⟩:=oQ (ts:=u::us) (i:=g) g0 (by rw[ap];omega);rw[ak] at h5;simp! [h5];exact⟨⟨t,rfl,ML t h4⟩,!1,!1⟩
      .exact⟨⟨_,rfl,hT⟩,!1,!1⟩
    .rintro eA n4 ⟨⟨t,rfl,ht⟩,Z8,Z9⟩
     simp! [j8,ki,aj];refine fA (!1) (!1) (!1) λg g0 g1=>?_
     have Hn:iZ (us.map eU) [.int g,eU t]=some ((us.take g.toNat++t::us.drop g.toNat).map eU):=by
      simp only[iZ];rw[if_pos ⟨by rw[aj,show ax=16777216 by decide];omega,g0,!1⟩,a9,ak,List.map_take,List.map_drop]
     simp! [Hn];refine wL _ _ ⟨_,_,_,_,rfl,λt' Ow=>?_,by simp;omega,!1,by rw[aG];simp;omega,by simp;omega⟩;rcases aB.mp Ow with Ow | Ow
     .exact ML t' (List.mem_of_mem_take Ow)
     .rcases au.mp Ow with rfl | Ow
      .exact ht
      .exact ML t' (List.mem_of_mem_drop Ow)
   .rintro pre env n' ⟨us,x7,x8,x9,rfl,ML,SA,WM,YN,hp⟩
    rw[bg] at hp;subst Vt;simp! [Rc,wm _ k hk,gx];rw[<- List.map_take];exact h many (us.take k.toNat) n' ⟨k0,λt ht=>ML t (List.mem_of_mem_take ht)⟩ k1 (by rw[bO];omega) (!1) (!1)
end
noncomputable abbrev J1 (many:Int)(ts:List fK):Prop:=∀t∈ts,0<=t.1/\t.1<many/\0<=t.2.1/\t.2.1<many
section
variable {n:Int}{X:XQ}{Q:ad->Int->Prop}
theorem CY {E:Cf}{a:Addr}{row:List Int}{kvs:iO}{d0 d1 d3:ad}{k:Int}(h:nM row kvs)(hl:kvs.length<1000)
  (hq:∀gT,nM (row++[k]) gT->gT.length<=kvs.length+1->E.nx [some (.s d0),some (.s d1),some (.d a false gT),some (.s d3),some (.s (.int k))] n) :
  oM 2 (dH 4) (Cn (sy 2 (d7 4) (uC (.bool false)))) E [some (.s d0),some (.s d1),some (.d a false kvs),some (.s d3),some (.s (.int k))] n:=by
 obtain⟨b,hb,hs⟩:=h.step k;have hsz:ax=16777216:=by decide
 have eX:(iG kvs [k] (.bool (!b))).length<=kvs.length+1:=by
  unfold iG;split
  .rw[aj];omega
  .simp
 have zg:=hq _ hs eX;simp only[oM,Cn,sy,d7,uC,dH,wF,dI,hb,af,ag];refine⟨⟨!1,λj t kv hj=>?_⟩,zg⟩;rcases j with _ | _ | _ | _ | _ | j
 .simp
 .simp
 .exact absurd rfl hj
 .simp
 .simp
 .simp
theorem Ho {ts:List fK}{k:Int}(h:0<=k/\k<(ts.length:Int)):rk (ts.map eU) k=some (eU (ts.getD k.toNat (0,0,0))):=by
 obtain⟨t,h1,_,h2⟩:=oQ h.1 h.2;rw[h2,aE,h1];rfl
theorem sM {many:Int}{ts:List fK}(w:J1 many ts):∀{s:List Int},g7 ts s->∀v∈eD ts s,0<=v/\v<many
 | [],_,v,hv=>by simp[eD] at hv
 | k::s,h,v,hv=>by
  rw[gf] at hv;rcases aB.mp hv with hv | hv
  .obtain⟨t,h1,h2,_⟩:=oQ (ts:=ts) (h k (ar ..)).1 (h k (ar ..)).2
   have hw:=w t h2;have e:ts.getD k.toNat (0,0,0)=t:=by rw[aE,h1];rfl
   unfold ma at hv;rw[e] at hv;simp only[au,bB,or_false] at hv;rcases hv with rfl | rfl<;>omega
  .exact sM w (λj hj=>h j (ao _ hj)) v hv
theorem nM.Sn {row:List Int}{kvs:iO}(h:nM row kvs){many:Int}(hr:∀v∈row,0<=v/\v<many):kvs.length<=many.toNat:=by
 obtain⟨h1,h2⟩:=h.heads;have:=fU h1 (ns:=gz 0 many.toNat) λv hv=>fF.mpr (by have:=hr v ((h2 v).mp hv);omega);rwa [aj,fw] at this
theorem yS {many:Int}{ts:List fK}(w:J1 many ts)(hm:many<=60){s:List Int}(h:g7 ts s)(hq:Q (dR (eG (eD ts s))) n):kO [gA many ts,dR s] n Q X:=by
 have e0:gA many ts=.tuple [.int many,.tuple (ts.map eU)]:=rfl;unfold kO nr;simp only[m7,kJ,envOf,ak,bq,ap,bg,Nat.reduceSub,Nat.reduceAdd,aX,bu,bj,aQ];with_reducible generalize CZ:fD _=tr
 with_reducible generalize hb:iY (NJ _) _ _=b
 rw[true_and,d9];intro a ha;simp only[az,aw,d9,iY,v5,af,ag,dR];refine gC (λpre post env n'=>n'=n/\∃(p q:List Int) (kvs:iO) (x3 x4:Option oq),env=[some (.s (gA many ts)),some (.s (.tuple (s.map .int))),some (.d a false kvs),x3,x4]/\post=q.map .int/\s=p++q/\nM (eD ts p) kvs) _ [] _ _ ?_ ⟨rfl,[],s,[],_,_,rfl,rfl,rfl,nM.nil⟩ ?_
 .rintro pre d post env n' E' hE ⟨rfl,p,q,kvs,x3,x4,rfl,gX,hs,ho⟩ wL
  cases q with
  | nil=>cases gX
  | cons k q =>
   rw[ak] at gX;injection gX with h1 h2;subst h1;have hk:=h k (by rw[hs];simp);have hp:g7 ts p:=λj hj=>h j (by rw[hs];exact a6 _ hj);have Hn:=sM w hp;have II:=ho.Sn Hn;rw[iE];simp only[az,aw];subst hb;have YO:=Ho hk;rw[e0];simp only[iY,NJ,OT,OR,OS,eJ,dH,uC,af,ag,mQ,lO,dI,YO,eU,Rc,wm _ 2 (!2),show Int.toNat 2=2 from rfl,cc,List.take_zero,oz];rw[<- e0];simp only[j9,iE,az,aw];refine CY ho (!1) λYQ SR WN=>?_;refine CY SR (!1) λVv Dr BQ=>?_;refine wL _ _ ⟨rfl,p++[k],q,Vv,_,_,rfl,h2,by rw[hs];simp,?_⟩;rw[oR,gf];rw[aF] at Dr;exact Dr
 .rintro pre env n' ⟨rfl,p,q,kvs,x3,x4,rfl,gX,hs,ho⟩
  cases q with
  | cons k q=>cases gX
  | nil =>
   rw[bn] at hs;subst hs;have II:=ho.Sn (sM w h);subst CZ;have Et:=ho.heads.2;simp only[fD,nP,dG,uL,dO,gK,HX,CT,p8,oz,dI,ak,bq,af,ag];refine⟨!1,?_⟩
   rw[mw (λk=>.int k) (λk=>decide ((eD ts s).count k % 2=1)) _ _ _ _ (λk _ n Q=>by simp! [d9]) (λk hk n Q=>by
    have hv:=ho.val k;rw[if_pos ((Et k).mp ((sortI_perm _).mem_iff.mp hk))] at hv;simp only[fi,sv,dH,wF,dI,hv,fb,Option.join_some,aw,af,ag]),aQ,ho.sorted]
   simp only[gx,dI];exact hq
end
theorem mf (row:List Int)(v:Int):(eG row).count v % 2=row.count v % 2:=by
 rw[sI (i9 row)];by_cases h:v∈eG row
 .rw[if_pos h,gE.mp h]
 .rw[if_neg h]
  have:¬ row.count v % 2=1:=λz=>h (gE.mpr z);omega
theorem Hq {a b:List Int}(h:∀v,a.count v % 2=b.count v % 2):eG a=eG b :=
 Ov (jK b) ((jK a).imp λh=>by omega) ((cg (i9 a) (i9 b)).mpr λv=>by rw[gE,gE,h v])
noncomputable def hU (ls:List Int)(t:fK):List Int:=match ls[t.1.toNat]?,ls[t.2.1.toNat]? with
 | some a,some b=>ls.map λl=>if l=(if a<b then b else a) then (if b<a then b else a) else l
 | _,_=>ls
structure Kl (many:Nat) (ts:List fK) (ls:List Int):Prop where
 len:ls.length=many
 join:∀t∈ts,ls[t.1.toNat]? = ls[t.2.1.toNat]?
 Eu:∀C:Nat->Prop,(∀t∈ts,(C t.1.toNat↔C t.2.1.toNat))->∀p q l,ls[p]? = some l->ls[q]? = some l->(C p↔C q)
theorem Kl.begin (many:Nat):Kl many [] (gz 0 many):=by
 refine⟨by rw[fw],!4,λC _ p q l h1 h2=>?_⟩
 have e:∀(p:Nat) (l:Int),(gz 0 many)[p]? = some l->l=(p:Int):=λp l h=>by
  unfold gz at h;rw[aC] at h
  cases hr:(List.range many)[p]? with
  | none=>rw[hr] at h;cases h
  | some x =>
   rw[hr] at h;have:=aY.mp hr;obtain⟨hl,hx⟩:=this;rw[List.getElem_range] at hx;cases h;show 0+(x:Int)=p;omega
 have a:=e p l h1;have b:=e q l h2;have:p=q:=by omega
 rw[this]
theorem Ew {x y M m:Int}(jS:¬ x=y)(h:(if x=M then m else x)=(if y=M then m else y)):(x=M/\y=m)\/(x=m/\y=M):=by
 by_cases h1:x=M
 .by_cases h2:y=M
  .exact absurd (h1.trans h2.symm) jS
  .rw[if_pos h1,if_neg h2] at h
   exact .inl ⟨h1,h.symm⟩
 .by_cases h2:y=M
  .rw[if_neg h1,if_pos h2] at h
   exact .inr ⟨h,h2⟩
  .rw[if_neg h1,if_neg h2] at h
   exact absurd h jS
theorem Kl.step {many:Nat}{ts:List fK}{ls:List Int}(k:Kl many ts ls){t:fK}(h1:t.1.toNat<many)(h2:t.2.1.toNat<many):Kl many (ts++[t]) (hU ls t):=by
 have l1:t.1.toNat<ls.length:=by rw[k.len];exact h1
 have l2:t.2.1.toNat<ls.length:=by rw[k.len];exact h2
 obtain⟨a,ha⟩:∃a,ls[t.1.toNat]? = some a:=⟨ls[t.1.toNat],by simp[l1]⟩;obtain⟨b,hb⟩:∃b,ls[t.2.1.toNat]? = some b:=⟨ls[t.2.1.toNat],by simp[l2]⟩
 have e:hU ls t=ls.map λl=>if l=(if a<b then b else a) then (if b<a then b else a) else l:=by
  unfold hU;rw[ha,hb]
 rw[e];refine⟨by rw[aj];exact k.len,λu hu=>?_,λC hC p q l hp hq=>?_⟩
 .rw[aC,aC]
  rcases aB.mp hu with hu | hu
  .rw[k.join u hu]
  .have eu:=av.mp hu
   subst eu;rw[ha,hb];simp only[bH,Option.some.injEq];by_cases qC:a<b
   .have:¬ b<a:=by omega
    simp only[qC,this,if_true,if_false];by_cases h:a=b<;>simp[h]
   .simp only[qC,if_false,if_true]
    by_cases h:b<a
    .have:b≠a:=by omega
     simp[h,this]
    .have:a=b:=by omega
     simp[this]
 .rw[aC] at hp hq
  have RU:∀u∈ts,(C u.1.toNat↔C u.2.1.toNat):=λu hu=>hC u (a6 _ hu);have qC:=hC t (aJ _ (av.mpr rfl))
  cases AQ:ls[p]? with
  | none=>rw[AQ] at hp;cases hp
  | some x =>
   cases zg:ls[q]? with
   | none=>rw[zg] at hq;cases hq
   | some y =>
    rw[AQ] at hp;rw[zg] at hq;simp only[bH,Option.some.injEq] at hp hq;by_cases wX:x=y
    .subst wX
     exact k.Eu C RU p q x AQ zg
    .have hM:(if a<b then b else a)=a\/(if a<b then b else a)=b:=by
      split
      .exact .inr rfl
      .exact .inl rfl
     have hm:(if b<a then b else a)=a\/(if b<a then b else a)=b:=by
      split
      .exact .inr rfl
      .exact .inl rfl
     have RV:=Ew wX (hp.trans hq.symm)
     have hx:x=a\/x=b:=by
      rcases RV with⟨z,_⟩ | ⟨z,_⟩
      .rw[z];exact hM
      .rw[z];exact hm
     have hy:y=a\/y=b:=by
      rcases RV with⟨_,z⟩ | ⟨_,z⟩
      .rw[z];exact hm
      .rw[z];exact hM
     have px:C p↔C t.1.toNat:=by
      rcases hx with rfl | rfl
      .exact k.Eu C RU p _ x AQ ha
      .exact (k.Eu C RU p _ x AQ hb).trans qC.symm
     have py:C q↔C t.1.toNat:=by
      rcases hy with rfl | rfl
      .exact k.Eu C RU q _ y zg ha
      .exact (k.Eu C RU q _ y zg hb).trans qC.symm
     exact px.trans py.symm
theorem Kl.fold {many:Nat}:∀{us ts:List fK} {ls:List Int},Kl many ts ls->(∀t∈us,t.1.toNat<many/\t.2.1.toNat<many)->Kl many (ts++us) (us.foldl hU ls)
 | [],ts,ls,k,_=>by simpa using k
 | t::us,ts,ls,k,h=>by
  have:=Kl.fold (us:=us) (k.step (h t (ar ..)).1 (h t (ar ..)).2) λu hu=>h u (ao _ hu);rw[aF] at this;exact this
noncomputable def gH (p:Int->Bool):Nat->List Int->List Int
 | _,[]=>[]
 | k,x::xs=>if p x=true then (k:Int)::gH p (k+1) xs else gH p (k+1) xs
theorem sN {p:Int->Bool}{i:Int}:∀{xs:List Int} {k:Nat},i∈gH p k xs↔∃j x,i=((k+j:Nat):Int)/\xs[j]? = some x/\p x=true
 | [],k=>by simp[gH]
 | x::xs,k=>by
  have ih:=sN (p:=p) (i:=i) (xs:=xs) (k:=k+1)
  have key:(∃j y,i=((k+1+j:Nat):Int)/\xs[j]? = some y/\p y=true)↔∃j y,i=((k+(j+1):Nat):Int)/\(x::xs)[j+1]? = some y/\p y=true:=by
   constructor
   .rintro⟨j,y,e,h⟩
    exact⟨j,y,!1,h⟩
   .rintro⟨j,y,e,h⟩
    exact⟨j,y,!1,h⟩
  unfold gH;constructor
  .intro h
   split at h
   .rename_i hp
    rcases au.mp h with rfl | h
    .exact⟨0,x,rfl,rfl,hp⟩
    .obtain⟨j,y,h⟩:=key.mp (ih.mp h)
     exact⟨j+1,y,h⟩
   .obtain⟨j,y,h⟩:=key.mp (ih.mp h)
    exact⟨j+1,y,h⟩
  .rintro⟨j,y,e,h1,h2⟩
   cases j with
   | zero =>
    simp only[af,Option.some.injEq] at h1;subst h1;rw[if_pos h2];exact au.mpr (.inl e)
   | succ j =>
    have:=ih.mpr (key.mpr ⟨j,y,e,h1,h2⟩);split
    .exact ao _ this
    .exact this
section
variable {n:Int}{X:XQ}
theorem yT {p:Int->Bool}{uc:UT}{Q:List ad->Int->Prop}{rest:fh}:∀(xs:List Int) (k:Nat) (acc:List ad) (x y:Option oq),(∀a∈xs,∀(b:Int) n Q,uc (some (.s (.int a))::some (.s (.int b))::rest) n Q=Q (p a) n) ->
  fH (NH [iE 1,iE 0]) uc (d7 1) Q (((xs.map ad.int).zipIdx k).map λq=>ad.tuple [.int (q.2:Nat),q.1]) acc (x::y::rest) n=Q (acc++(gH p k xs).map .int) n
 | [],k,acc,x,y,_=>by simp[fH,gH]
 | a::xs,k,acc,x,y,h=>by
  have ih:=λacc x y=>yT (Q:=Q) xs (k+1) acc x y λb hb=>h b (ao _ hb);simp only[ak,List.zipIdx_cons,fH,NH,Ad,iE,aw,az,h a (ar ..)];unfold gH;by_cases hp:p a=true
  .simp! [hp,if_true]
   rw[ih];simp
  .have AQ:p a=false:=by simpa using hp
   simp only[AQ,bX,if_false];rw[ih]
variable {Q:ad->Int->Prop}
theorem wM (ls:List Int)(l:Int):iH [.list (ls.map .int),.int l] n Q X=Q (dR (gH (λa=>decide (a=l)) 0 ls)) n:=by
 simp! [iH,lR,gJ];rw[yT (p:=λa=>decide (a=l)) _ _ _ _ _ λa _ b n Q=>by simp! [i7]];simp! [gx,dR]
noncomputable def dN (many:Int)(ts:List fK):List Int:=ts.foldl hU (gz 0 many.toNat)
theorem sO (ls:List Int)(t:fK):(hU ls t).length=ls.length:=by
 unfold hU;split<;>simp
theorem yU {many:Int}{ts:List fK}(h0:0<=many)(h1:many<60)(ok:∀t∈ts,0<=t.1/\t.1<many/\0<=t.2.1/\t.2.1<many) :
  kL [gA many ts] n Q X=Q (.tuple ((kK (dN many ts)).map λl=>dR (gH (λa=>decide (a=l)) 0 (dN many ts)))) n:=by
 simp! [kL,nk,gA,oH,lO];have hd:(-(2 ^ 62)<=many/\many<=16777216):=⟨!1,!1⟩;simp only[hd,true_and]
 have key:∀(us:List fK) (ls:List Int) (w:ad) (x2 x3 x4:Option oq),ls.length=many.toNat->(∀t∈us,t∈ts)->j9 (iE 2) (d9 (eI 3 (nP uU (dG (eJ jy (dH 1) (eJ jy (dH 2) (uC (ad.int 0)))) (dG (eJ jy (dH 1) (eJ jy (dH 2) (uC (ad.int 1)))) dO))))
   (d9 (eI 4 (nP uV (dG (eJ jy (dH 1) (eJ jy (dH 2) (uC (ad.int 0)))) (dG (eJ jy (dH 1) (eJ jy (dH 2) (uC (ad.int 1)))) dO))))
    (eI 1 (uL (gK (HX (dH 1)) [none,some 3,some 4] (iE 0) pB (K9 (fi (eJ uT (dH 0) (dH 2))) (d7 1) (d7 0)))))))
   { nx:=fD (nP gx (dG (uL (gK (HX (uL (Am (dH 1)))) [none,some 1] (iE 0) pB (dZ iH (dG (d7 1) (dG (d7 0) dO))))) dO)) { nx:=λx n'=>Q ad.none n',rt:=Q },rt:=Q }
   (us.map eU) [some (.s w),some (.s (.list (ls.map .int))),x2,x3,x4] n=Q (.tuple ((kK (us.foldl hU ls)).map λl=>dR (gH (λa=>decide (a=l)) 0 (us.foldl hU ls)))) n:=by
  intro us
  induction us with
  | nil =>
   intro ls w x2 x3 x4 hl _;have HP:ls.length<64:=by omega
   simp! [j9,bq,ir,HP];rw[mw (λl=>dR (gH (λa=>decide (a=l)) 0 ls)) (λ_=>true) _ _ _ _ (λk _ n Q=>by simp! [wM]) (λk _ n Q=>by simp! [d9])];simp! [gx,kW,List.foldl_nil]
  | cons t us ih =>
   intro ls w x2 x3 x4 hl oV;have ht:=ok t (oV t (ar ..));obtain⟨a,ha,_,lx⟩:=yo (ns:=ls) (i:=t.1) ht.1 (!1);obtain⟨b,hb,_,NK⟩:=yo (ns:=ls) (i:=t.2.1) ht.2.2.1 (!1)
   have e:hU ls t=ls.map λl=>if l=(if a<b then b else a) then (if b<a then b else a) else l:=by
    unfold hU;rw[lx,NK]
   simp! [j9,eU,oH,lO,ha,hb,uU,uV]
   rw[mw (λl=>.int (if l=(if a<b then b else a) then (if b<a then b else a) else l)) (λ_=>true) _ _ _ _ (λk _ n Q=>by
    simp! [i7,gt_iff_lt];by_cases hk:k=(if a<b then b else a)<;>simp[hk]) (λk _ n Q=>by simp! [d9])]
   have e2:(ls.map λl=>ad.int (if l=(if a<b then b else a) then (if b<a then b else a) else l))=(hU ls t).map .int:=by rw[e,bv];rfl
   simp! [kW,e2];rw[cq];exact ih (hU ls t) _ _ _ _ (by rw[sO];exact hl) λu hu=>oV u (ao _ hu)
 rw[oI];exact key ts _ _ _ _ _ (fw _ _) (λ_ h=>h)
end
theorem sP (ts:List fK)(p:Int->Bool)(u:Int):∀l:List Int,(eD ts l).count u=(eD ts (l.filter p)).count u+(eD ts (l.filter λk=>!p k)).count u
 | []=>rfl
 | k::l=>by
  have ih:=sP ts p u l
  cases hp:p k with
  | true =>
   rw[cC hp,cD (by simp[hp]),gf,gf,bf,bf];omega
  | false =>
   rw[cD (by simp[hp]),cC (by simp[hp]),gf,gf,bf,bf];omega
theorem yV (p:Int->Bool):∀l:List Int,l.length=(l.filter p).length+(l.filter λk=>!p k).length
 | []=>rfl
 | k::l=>by
  have ih:=yV p l
  cases hp:p k with
  | true =>
   rw[cC hp,cD (by simp[hp]),ap,ap];omega
  | false =>
   rw[cD (by simp[hp]),cC (by simp[hp]),ap,ap];omega
theorem iB {ts:List fK}{a s:List Int}(ha:a.Nodup)(hs:s.Nodup)(u:Int):(eD ts (eG (a++s))).count u % 2=((eD ts a).count u+(eD ts s).count u) % 2:=by
 have h1:=(nL (ts:=ts) (A2 ha hs)).count_eq u;rw[oR,bf] at h1;have h2:=sP ts (λk=>decide (k∈s)) u a;have h3:=sP ts (λk=>decide (k∈a)) u s;have h4:=(nL (ts:=ts) (Es ha hs)).count_eq u;omega
theorem Hr {l:List Int}(h:∀v,l.count v % 2=0):eG l=[]:=c7.mpr λk hk=>by
 have:=gE.mp hk;have:=h k;omega
noncomputable def lr (ls:List Int)(v:Int):Int:=(gH (λa=>decide (a=ls.getD v.toNat 0)) 0 ls).headD 0
theorem getD_at {ls:List Int}{i:Nat}(h:i<ls.length):ls[i]? = some (ls.getD i 0):=by
 rw[aE,aV h];rfl
theorem Hs {ls:List Int}{v:Int}(h0:0<=v)(h1:v<(ls.length:Int)):lr ls v∈gH (λa=>decide (a=ls.getD v.toNat 0)) 0 ls:=by
 have hm:v∈gH (λa=>decide (a=ls.getD v.toNat 0)) 0 ls:=sN.mpr ⟨v.toNat,ls.getD v.toNat 0,!1,getD_at (!1),!4⟩;unfold lr
 cases h:gH (λa=>decide (a=ls.getD v.toNat 0)) 0 ls with
 | nil=>rw[h] at hm;cases hm
 | cons a r=>exact ar ..
theorem Lv {ls:List Int}{v:Int}(h0:0<=v)(h1:v<(ls.length:Int)):0<=lr ls v/\lr ls v<(ls.length:Int)/\ls.getD (lr ls v).toNat 0=ls.getD v.toNat 0:=by
 obtain⟨j,x,e,hx,hp⟩:=sN.mp (Hs h0 h1);have hj:=(aY.mp hx).1;rw[e];refine⟨!1,!1,?_⟩;rw[show ((0+j:Nat):Int).toNat=j by omega,aE,hx];exact of_decide_eq_true hp
theorem C1 {ls:List Int}{u v:Int}(h:ls.getD u.toNat 0=ls.getD v.toNat 0):lr ls u=lr ls v:=by
 unfold lr;rw[h]
noncomputable abbrev hV (ts:List fK)(k:Int):fK:=ts.getD k.toNat (0,0,0)
noncomputable abbrev km (many:Int)(ts:List fK):Prop:=∀t∈ts,0<=t.1/\t.1<t.2.1/\t.2.1<many
theorem kX {ts:List fK}{k:Int}(h:0<=k/\k<(ts.length:Int)):hV ts k∈ts:=by
 obtain⟨t,h1,h2,_⟩:=oQ (ts:=ts) h.1 h.2;unfold hV;rw[aE,h1];exact h2
theorem J2 (kvs:iO)(k:List Int):(eP kvs k).isSome=true↔k∈fS kvs:=by
 rw[<- me,dv,fS,a5];constructor
 .rintro⟨p,hp,h⟩;exact⟨p,hp,of_decide_eq_true h⟩
 .rintro⟨p,hp,h⟩;exact⟨p,hp,decide_eq_true h⟩
noncomputable abbrev bI (p:Prop)[Decidable p]:Nat:=if p then 1 else 0
structure Fo (many:Int) (ts:List fK) (rt:Int->Int) (kvs:iO) (tr:List Int):Prop where
 val:∀v d,eP kvs [v]=some d->0<=v/\v<many/\∃w:List Int,d=dR w/\w.Pairwise (· < ·)/\(∀k∈w,k∈tr)/\∀u,(eD ts w).count u % 2=(bI (u=v)+bI (u=rt v)) % 2
 key:∀l∈fS kvs,∃v,l=[v]
 nd:(fS kvs).Nodup
 num:g7 ts tr
 RR:∀k∈tr,∃wa wb,eP kvs [(hV ts k).1]=some (dR wa)/\eP kvs [(hV ts k).2.1]=some (dR wb)/\eG ([k]++eG (wa++wb))=[]
 free:∀S:List Int,S.Nodup->(∀k∈S,k∈tr)->Hl ts S->S=[]
 cnt:kvs≠[]->tr.length<kvs.length
theorem Fo.nil (many:Int)(ts:List fK)(rt:Int->Int):Fo many ts rt [] []:=⟨λv d h=>(by rw[oS] at h;cases h),λl h=>(by simp[fS] at h),by simp[fS],λk hk=>(by cases hk),λk hk=>(by cases hk),λS _ h _=>c7.mpr λk hk=>(by cases h k hk),λz=>absurd rfl z⟩
section
variable {many:Int}{ts:List fK}{rt:Int->Int}{kvs:iO}{tr:List Int}
theorem C2 {y:Int}{d:ad}(h:∀l∈fS kvs,∃v,l=[v]):∀l∈fS (iG kvs [y] d),∃v,l=[v]:=λl hl=>by
 rw[oU] at hl;split at hl
 .exact h l hl
 .rcases aB.mp hl with hl | hl
  .exact h l hl
  .exact⟨y,av.mp hl⟩
theorem Ht {y:Int}{d:ad}(h:(fS kvs).Nodup):(fS (iG kvs [y] d)).Nodup:=by
 rw[oU];split
 .exact h
 .rename_i hm
  rw[cv];exact⟨h,!4,λa ha b hb=>by rw[av.mp hb];exact λz=>hm (z ▸ ha)⟩
theorem Fo.root (F:Fo many ts rt kvs []){p:Int}(h0:0<=p)(h1:p<many)(hr:rt p=p):Fo many ts rt (iG kvs [p] (dR [])) []:=by
 refine⟨λv d h=>?_,C2 F.key,Ht F.nd,F.num,λk hk=>(by cases hk),F.free,λz=>List.length_pos_iff.mpr z⟩;rw[ju] at h;by_cases hv:v=p
 .subst hv
  rw[if_pos rfl] at h;cases h;refine⟨h0,h1,[],rfl,List.Pairwise.nil,!4,λu=>?_⟩;rw[hr];show 0 % 2=(bI (u=v)+bI (u=v)) % 2;omega
 .rw[if_neg (by simpa using hv)] at h
  exact F.val v d h
theorem sQ {ts:List fK}{k x y:Int}(h:(hV ts k).1=x/\(hV ts k).2.1=y\/(hV ts k).2.1=x/\(hV ts k).1=y)(u:Int):(ma ts k).count u=bI (u=x)+bI (u=y):=by
 have c1:∀a b:Int,[a,b].count u=bI (u=a)+bI (u=b):=λa b=>by
  have e:∀a:Int,(if (a == u)=true then 1 else 0)=bI (u=a):=λa=>by
   by_cases h:u=a
   .subst h;simp[bI]
   .rw[bI,if_neg h,if_neg (by simpa using λz=>h z.symm)]
  rw[cT,cT,List.count_nil,e,e];omega
 show [(hV ts k).1,(hV ts k).2.1].count u=_;rw[c1];rcases h with⟨rfl,rfl⟩ | ⟨rfl,rfl⟩
 .rfl
 .exact Nat.add_comm _ _
theorem Fo.grow (F:Fo many ts rt kvs tr){k x y:Int}{w:List Int}(hk:0<=k/\k<(ts.length:Int))(wX:(hV ts k).1=x/\(hV ts k).2.1=y\/(hV ts k).2.1=x/\(hV ts k).1=y)(jS:x≠y)(y0:0<=y)(y1:y<many)
  (hx:eP kvs [x]=some (dR w)) (hy:eP kvs [y]=none) (hr:rt y=rt x):Fo many ts rt (iG kvs [y] (dR (eG (w++[k])))) (tr++[k]):=by
 obtain⟨_,_,w',ew,hw,YR,YS⟩:=F.val x _ hx
 have e:w'=w:=by
  have:w'.map ad.int=w.map ad.int:=by injection ew.symm
  exact List.map_inj_right (λa b h=>by injection h) |>.mp this
 subst e;have Ox:∀v d,eP kvs [v]=some d->v≠y:=λv d h z=>by rw[z,hy] at h;cases h
 have YT:∀u,(eD ts [k]).count u=bI (u=x)+bI (u=y):=λu=>by
  show (ma ts k++[]).count u=_;rw[bn];exact sQ wX u
 have keep:∀{v:Int} {d:ad},eP kvs [v]=some d->eP (iG kvs [y] (dR (eG (w'++[k])))) [v]=some d:=λ{v d} h=>by
  rw[ju,if_neg (by simpa using Ox v d h)];exact h
 have xk:eP (iG kvs [y] (dR (eG (w'++[k])))) [y]=some (dR (eG (w'++[k]))):=by rw[ju,if_pos rfl]
 refine⟨λv d h=>?_,C2 F.key,Ht F.nd,λj hj=>?_,λj hj=>?_,λS hS Jh RW=>?_,λ_=>?_⟩
 .rw[ju] at h
  by_cases hv:v=y
  .subst hv
   rw[if_pos rfl] at h;cases h;refine⟨y0,y1,_,rfl,jK _,λj hj=>?_,λu=>?_⟩
   .have hj:j∈w'++[k]:=cI.mp (by have:=gE.mp hj;omega)
    rcases aB.mp hj with hj | hj
    .exact a6 _ (YR j hj)
    .exact aJ _ hj
   .have h1:=iB (ts:=ts) (g8 hw) (by simp:[k].Nodup) u
    have h2:=YS u;have h3:=YT u;rw[hr];generalize bI (u=x)=A at h2 h3;generalize bI (u=v)=B at h3 ⊢;generalize bI (u=rt x)=C at h2 ⊢;omega
  .rw[if_neg (by simpa using hv)] at h
   obtain⟨a,b,w2,e2,h2,h3,h4⟩:=F.val v d h;exact⟨a,b,w2,e2,h2,λj hj=>a6 _ (h3 j hj),h4⟩
 .rcases aB.mp hj with hj | hj
  .exact F.num j hj
  .rw[av.mp hj];exact hk
 .rcases aB.mp hj with hj | hj
  .obtain⟨wa,wb,h1,h2,h3⟩:=F.RR j hj
   exact⟨wa,wb,keep h1,keep h2,h3⟩
  .rw[av.mp hj]
   have ev:∀a b:List Int,(∀v,(a++b).count v=(w'++eG (w'++[k])).count v)->eG ([k]++eG (a++b))=[]:=λa b qC=>Hr λv=>by
    have h1:=mf (a++b) v;have h2:=mf (w'++[k]) v;have h3:=qC v;rw[bf] at h2 h3 ⊢;rw[bf] at h3;rw[bf] at h1;omega
   rcases wX with⟨e1,e2⟩ | ⟨e1,e2⟩
   .rw[e1,e2]
    exact⟨w',_,keep hx,xk,ev _ _ λv=>rfl⟩
   .rw[e1,e2]
    exact⟨_,w',xk,keep hx,ev _ _ λv=>by rw[bf,bf];omega⟩
 .by_cases WO:k∈S
  .exfalso
   have hp:=List.perm_cons_erase WO;have hc:=(nL (ts:=ts) hp).count_eq y;rw[gf,bf,sQ wX y] at hc
   have h0:(eD ts (S.erase k)).count y=0:=List.count_eq_zero.mpr λhm=>by
    obtain⟨l,hl,S3⟩:=List.mem_flatten.mp hm;obtain⟨j,hj,rfl⟩:=a5.mp hl
    have OZ:j≠k:=λz=>by
     subst z;exact (bN.mp (hp.nodup_iff.mp hS)).1 hj
    have YU:j∈tr:=by
     rcases aB.mp (Jh j (List.mem_of_mem_erase hj)) with h | h
     .exact h
     .exact absurd (av.mp h) OZ
    obtain⟨wa,wb,h1,h2,_⟩:=F.RR j YU;have S3:y∈[(hV ts j).1,(hV ts j).2.1]:=S3;simp only[au,bB,or_false] at S3;rcases S3 with e | e
    .exact Ox _ _ h1 e.symm
    .exact Ox _ _ h2 e.symm
   have h2:=RW y;rw[show bI (y=x)=0 from if_neg (λz=>jS z.symm),show bI (y=y)=1 from if_pos rfl,h0] at hc;omega
  .exact F.free S hS (λj hj=>by
    rcases aB.mp (Jh j hj) with h | h
    .exact h
    .exact absurd (av.mp h ▸ hj) WO) RW
 .have h1:=F.cnt λz=>by rw[z,oS] at hx;cases hx
  have:(iG kvs [y] (dR (eG (w'++[k])))).length=kvs.length+1:=by
   unfold iG;rw[if_neg (by rw[me,hy];simp),aG,bo]
  rw[aG,bo];omega
end
structure jv (many:Int) (ts:List fK) (kvs:iO) (tr:List Int):Prop where
 fo:Fo many ts (lr (dN many ts)) kvs tr
 all:∀v,0<=v->v<many->(eP kvs [v]).isSome=true
theorem sR (many:Int)(ts:List fK):(dN many ts).length=many.toNat:=by
 have:∀(us:List fK) (ls:List Int),(us.foldl hU ls).length=ls.length:=by
  intro us
  induction us with
  | nil=>intro ls;rfl
  | cons t us ih=>intro ls;rw[cq,ih,sO]
 unfold dN;rw[this,fw]
theorem vn {many:Int}{ts:List fK}(ok:km many ts):Kl many.toNat ts (dN many ts):=by
 have:=Kl.fold (us:=ts) (Kl.begin many.toNat) λt ht=>by
  have:=ok t ht;omega
 rwa [aQ] at this
theorem A5 {many:Int}{ts:List fK}(ok:km many ts){t:fK}(ht:t∈ts):lr (dN many ts) t.1=lr (dN many ts) t.2.1:=by
 refine C1 ?_;have:=(vn ok).join t ht;rw[aE,aE,this]
theorem Oy {many:Int}{ts:List fK}(ok:km many ts){C:Int->Prop}(hC:∀t∈ts,(C t.1↔C t.2.1)){v:Int}(h0:0<=v)(h1:v<many):C v↔C (lr (dN many ts) v):=by
 have hl:=sR many ts;obtain⟨r0,r1,hr⟩:=Lv (ls:=dN many ts) (v:=v) h0 (!1)
 have hm:=(vn ok).Eu (λi=>C (i:Int)) (λt ht=>by
  have:=ok t ht;rw[show ((t.1.toNat:Nat):Int)=t.1 by omega,show ((t.2.1.toNat:Nat):Int)=t.2.1 by omega];exact hC t ht) v.toNat (lr (dN many ts) v).toNat _ (getD_at (!1)) (by rw[<- hr];exact getD_at (!1))
 rwa [show ((v.toNat:Nat):Int)=v by omega,show (((lr (dN many ts) v).toNat:Nat):Int)=lr (dN many ts) v by omega] at hm
theorem Lw (i:Int):wF false (.int i)=some [i]:=rfl
noncomputable abbrev Pl (x:Option oq):Prop:=∀a t kvs,x≠some (.d a t kvs)
theorem yW (d:ad):Pl (some (.s d)):=λ_ _ _ z=>by cases z
theorem Hu:Pl none:=λ_ _ _ z=>by cases z
theorem C3 {e:Option oq}{a:Addr}:∀(pre post:List (Option oq)),(∀x∈pre++post,Pl x)->Om (pre++e::post) pre.length a
 | pre,post,h=>λj t kvs hj z=>by
  by_cases h1:j<pre.length
  .rw[bM h1] at z
   exact h _ (a6 _ (bP z)) a t kvs rfl
  .rw[bK (!1)] at z
   obtain⟨i,hi⟩:∃i,j - pre.length=i+1:=⟨j - pre.length - 1,!1⟩;rw[hi,ag] at z;exact h _ (aJ _ (bP z)) a t kvs rfl
theorem Fo.len {many:Int}{ts:List fK}{rt:Int->Int}{kvs:iO}{tr:List Int}(F:Fo many ts rt kvs tr):kvs.length<=many.toNat:=by
 have h1:((fS kvs).map λl=>l.headD 0).Nodup:=by
  refine cu.mpr (List.Pairwise.imp_of_mem ?_ F.nd);intro a b ha hb qC z;obtain⟨x,rfl⟩:=F.key a ha;obtain⟨y,rfl⟩:=F.key b hb;exact qC (by simpa using z)
 have h2:=fU (ns:=gz 0 many.toNat) h1 λv hv=>by
  obtain⟨l,hl,rfl⟩:=a5.mp hv;obtain⟨x,rfl⟩:=F.key l hl;obtain⟨d,hd⟩:=bZ.mp ((J2 kvs [x]).mpr hl);have:=F.val x d hd;exact fF.mpr ⟨this.1,by have:=this.2.1;simp;omega⟩
 rw[aj,fS,aj,fw] at h2;exact h2
theorem kY {ts:List fK}{w tr:List Int}(h1:w.Pairwise (· < ·))(h2:∀k∈w,k∈tr)(h3:g7 ts tr):w.length<=ts.length:=by
 have:=fU (ns:=gz 0 ts.length) (g8 h1) λk hk=>fF.mpr (by have:=h3 k (h2 k hk);omega);rwa [fw] at this
theorem J' {kvs:iO}{k:List Int}{d:ad}(h:eP kvs k=none):(iG kvs k d).length=kvs.length+1:=by
 unfold iG;have:(kvs.any λp=>decide (p.1=k))=false:=by rw[me,h];rfl
 rw[if_neg (by simp[this]),aG,bo]
theorem Oz {ts:List fK}{pre post:List ad}{d:ad}(h:pre++d::post=gJ (ts.map eU)):pre.length<ts.length/\d=.tuple [.int (pre.length:Nat),eU (hV ts (pre.length:Nat))]:=by
 unfold gJ at h;have h1:=congrArg (λl=>l[pre.length]?) h;simp only[bK (am _),Nat.sub_self,af,aC,List.getElem?_zipIdx] at h1;have h2:=congrArg List.length h;rw[aG,ap,aj,List.length_zipIdx,aj] at h2;have hl:pre.length<ts.length:=by omega
 refine⟨hl,?_⟩;rw[aV hl] at h1;simp only[bH,Option.some.injEq,cW] at h1;rw[h1];simp[hV,aE,hl]
section
variable {n:Int}{X:XQ}{Q:ad->Int->Prop}
theorem wN {many:Int}{ts:List fK}(m0:1<=many)(m1:many<60)(ok:km many ts)(hl:ts.length<=30)(hq:∀kvs tr,jv many ts kvs tr->Q (h8 false kvs) n):jH [gA many ts] n Q X:=by
 have hsz:ax=16777216:=by decide
 have e0:gA many ts=.tuple [.int many,.tuple (ts.map eU)]:=rfl;have Of:=sR many ts;unfold jH lT;simp only[m7,kJ,envOf,ak,bq,ap,bg,Nat.reduceSub,Nat.reduceAdd,aX,bu,bj,aQ];with_reducible generalize YV:d9 (eI 3 (uC (.bool true))) _=wh
 rw[true_and,d9,CQ];intro a ha;simp only[az,aw];rw[d9,iY,NJ,dZ,dG,d7];simp only[af,ag];rw[dO,yU (!1) m1 (λt ht=>by have:=ok t ht;omega)];simp only[oz,dI]
 refine gC (λpre post env n'=>n'=n/\pre++post=((kK (dN many ts)).map λl=>dR (gH (λa=>decide (a=l)) 0 (dN many ts)))/\∃(kvs:iO) (x2:Option oq),env=[some (.s (gA many ts)),some (.d a false kvs),x2,none,none,none,none]/\Pl x2/\Fo many ts (lr (dN many ts)) kvs [] /\
  ∀l∈dN many ts,dR (gH (λa=>decide (a=l)) 0 (dN many ts))∈pre->(eP kvs [(gH (λa=>decide (a=l)) 0 (dN many ts)).headD 0]).isSome=true) _ [] _ _ ?_ ⟨rfl,rfl,[],none,rfl,Hu,Fo.nil _ _ _,!4⟩ ?_
 .rintro pre d post env n' E' hE ⟨rfl,hp,kvs,x2,rfl,DS,F,C4⟩ wL
  obtain⟨l,WN,rfl⟩:∃l∈kK (dN many ts),dR (gH (λa=>decide (a=l)) 0 (dN many ts))=d:=a5.mp (hp ▸ aJ pre (ar ..));have YW:l∈dN many ts:=iw.mp WN;obtain⟨j,hj,NP⟩:=cb YW
  have Vw:(dN many ts).getD ((j:Int)).toNat 0=l:=by
   rw[aE,br,aV hj,NP];rfl
  have OY:(gH (λa=>decide (a=l)) 0 (dN many ts)).headD 0=lr (dN many ts) (j:Int):=by unfold lr;rw[Vw]
  have Et:=Hs (ls:=dN many ts) (v:=(j:Int)) (!1) (!1);have Hn:=Lv (ls:=dN many ts) (v:=(j:Int)) (!1) (!1);rw[Vw] at Et Hn;rw[<- OY] at Hn Et
  have RX:lr (dN many ts) ((gH (λa=>decide (a=l)) 0 (dN many ts)).headD 0)=(gH (λa=>decide (a=l)) 0 (dN many ts)).headD 0:=by
   conv=>rhs;rw[OY]
   exact C1 (by rw[Hn.2.2,Vw])
  obtain⟨p,r,O0⟩:∃p r,gH (λa=>decide (a=l)) 0 (dN many ts)=p::r:=by
   cases h:gH (λa=>decide (a=l)) 0 (dN many ts) with
   | nil=>rw[h] at Et;cases Et
   | cons p r=>exact⟨p,r,rfl⟩
  have eX:=F.len;rw[iE];simp only[az,aw];rw[oM,gi,dO];simp only[af,ag];rw[eJ,dH];simp only[af,ag]
  have MY:jy (dR (gH (λa=>decide (a=l)) 0 (dN many ts))) (.int 0)=some (.int ((gH (λa=>decide (a=l)) 0 (dN many ts)).headD 0)):=by
   rw[O0];show jy (.tuple (.int p::r.map .int)) (.int 0)=_;rw[mQ,oH];rfl
  rw[uC,MY,dI,Lw,dI]
  refine⟨⟨!1,C3 [_] [_,_,_,_,_] (by
   intro x hx;simp only[bj,aQ,au,bB,or_false] at hx;rcases hx with rfl | rfl | rfl | rfl | rfl | rfl<;>first | exact yW _ | exact Hu)⟩,?_⟩
  simp only[az,aw];refine wL _ _ ⟨rfl,by rw[aF];exact hp,_,_,rfl,yW _,F.root Hn.1 (!1) RX,λl' Nh hm=>?_⟩;rw[ju];split
  .rfl
  .rename_i jS
   rcases aB.mp hm with hm | hm
   .exact C4 l' Nh hm
   .exfalso
    have e:=av.mp hm
    have:gH (λa=>decide (a=l')) 0 (dN many ts)=gH (λa=>decide (a=l)) 0 (dN many ts):=by
     have:(gH (λa=>decide (a=l')) 0 (dN many ts)).map ad.int=(gH (λa=>decide (a=l)) 0 (dN many ts)).map ad.int:=by injection e
     exact List.map_inj_right (λa b h=>by injection h) |>.mp this
    rw[this] at jS;exact jS rfl
 .rintro pre env n' ⟨rfl,hp,kvs,x2,rfl,DS,F,C4⟩
  rw[bn] at hp
  have kZ:∀v,0<=v->v<many->(eP kvs [lr (dN many ts) v]).isSome=true:=λv v0 v1=>by
   have hm:(dN many ts).getD v.toNat 0∈dN many ts:=bP (getD_at (!1));exact C4 _ hm (hp ▸ a5.mpr ⟨_,iw.mpr hm,rfl⟩)
  clear C4 hp;show wh _ _ _;subst YV;with_reducible generalize YX:iT _ _ _=bd
  rw[d9,eI,uC];simp only[az,aw];rw[d9];unfold rZ
  refine⟨λm env n2=>n2=n'/\∃(kvs:iO) (tr:List Int) (g:Bool) (x2 x4 x5 x6:Option oq),env=[some (.s (gA many ts)),some (.d a false kvs),x2,some (.s (.bool g)),x4,x5,x6]/\(Pl x2/\Pl x4/\Pl x5/\Pl x6)/\Fo many ts (lr (dN many ts)) kvs tr/\(∀v,0<=v->v<many->(eP kvs [lr (dN many ts) v]).isSome=true) /\
   (g=false->∀t∈ts,(eP kvs [t.1]).isSome=(eP kvs [t.2.1]).isSome)/\m=(if g=true then 1 else 0)+(many.toNat - kvs.length),⟨_,rfl,kvs,[],true,x2,none,none,none,rfl,⟨DS,Hu,Hu,Hu⟩,F,kZ,λz=>(by cases z),rfl⟩,?_⟩
  clear kZ F DS;rintro m env n' ⟨rfl,kvs,tr,g,x2,x4,x5,x6,rfl,⟨p2,p4,p5,p6⟩,F,kZ,hg,rfl⟩;rw[fi,d7];simp only[af,ag];rw[fb]
  cases g with
  | false =>
   rw[if_neg (!2)];show yg 1 _ _ _;rw[yg];simp only[af,ag];refine hq kvs tr ⟨F,λv v0 v1=>?_⟩;refine (Oy ok (C:=λv=>(eP kvs [v]).isSome=true) (λt ht=>by rw[hg rfl t ht]) v0 v1).mpr (kZ v v0 v1)
  | true =>
   rw[if_pos rfl,d9,eI,uC];simp only[az,aw];rw[iY,UP,eJ,dH];simp only[af,ag];rw[uC,e0,mQ,lO,dI];simp only[oz,dI];rw[<- e0]
   refine gC (λpre post env RY=>RY=n'/\pre++post=gJ (ts.map eU)/\∃(kv:iO) (tr:List Int) (g:Bool) (x2 x4 x5 x6:Option oq),env=[some (.s (gA many ts)),some (.d a false kv),x2,some (.s (.bool g)),x4,x5,x6]/\(Pl x2/\Pl x4/\Pl x5/\Pl x6)/\Fo many ts (lr (dN many ts)) kv tr/\(∀v,0<=v->v<many->(eP kv [lr (dN many ts) v]).isSome=true) /\
    (g=true->kvs.length<kv.length)/\(g=false->kv.length=kvs.length/\∀i:Nat,i<pre.length->(eP kv [(hV ts i).1]).isSome=(eP kv [(hV ts i).2.1]).isSome)) _ [] _ _ ?_ ⟨rfl,rfl,kvs,tr,false,x2,x4,x5,x6,rfl,⟨p2,p4,p5,p6⟩,F,kZ,λz=>(by cases z),λ_=>⟨rfl,λi hi=>(by cases hi)⟩⟩ ?_
   .clear p2 p4 p5 p6 F kZ hg
    rintro pre d post env RY E' hE ⟨rfl,hp,kv,tr,g,x2,x4,x5,x6,rfl,⟨p2,p4,p5,p6⟩,F,kZ,Np,HZ⟩ wL;obtain⟨mL,rfl⟩:=Oz hp;obtain⟨k,hk⟩:∃k:Int,k=(pre.length:Nat):=⟨_,rfl⟩;rw[<- hk];have S5:0<=k/\k<(ts.length:Int):=by omega
    have Lx:=kX S5;have YY:=ok _ Lx;have Vx:=A5 ok Lx;generalize ht:hV ts k=t at Lx YY Vx ⊢
    have AQ:(pre++[ad.tuple [.int (pre.length:Nat),eU (hV ts (pre.length:Nat))]])++post=gJ (ts.map eU):=by
     rw[aF];exact hp
    subst YX;rw[NH,Ad];simp only[Ad,iE,az,aw];rw[iT,fi,eJ,wI,eJ,dH];simp only[af,ag];rw[uC,eU,mQ,oH,dI,Lw,dI,wI,eJ,dH];simp only[af,ag];rw[uC,mQ,lO,dI,Lw,dI,GD,dI,fb]
    have Ly:∀(g':Bool),g'=g->(eP kv [t.1]).isSome=(eP kv [t.2.1]).isSome->E'.nx [some (.s (gA many ts)),some (.d a false kv),x2,some (.s (.bool g)),some (.s (.int k)),some (.s (.tuple [.int t.1,.int t.2.1,.int t.2.2])),x6] RY:=λg' _ hs=>by
     refine wL _ _ ⟨rfl,AQ,kv,tr,g,_,_,_,_,rfl,⟨p2,yW _,yW _,p6⟩,F,kZ,Np,λz=>⟨(HZ z).1,λi hi=>?_⟩⟩;rw[aG,bo] at hi;by_cases h:i<pre.length
     .exact (HZ z).2 i h
     .have:(i:Int)=k:=by omega
      rw[this,ht];exact hs
    have Lz:∀x y w,(t.1=x/\t.2.1=y\/t.2.1=x/\t.1=y)->kj t x=y->eP kv [x]=some (dR w)->eP kv [y]=none->d9 (oM 1 (dZ iI (dG (d7 5) (dG (d7 6) dO))) (dZ gc (dG (sv 1 (dH 6)) (dG (gi (dG (d7 4) dO)) dO))))
      (eI 3 (uC (.bool true))) E' [some (.s (gA many ts)),some (.d a false kv),x2,some (.s (.bool g)),some (.s (.int k)),some (.s (.tuple [.int t.1,.int t.2.1,.int t.2.2])),some (.s (.int x))] RY:=λx y w wX YZ hx hy=>by
     have Y0:=F.val x _ hx;have jS:x≠y:=by rcases wX with⟨rfl,rfl⟩ | ⟨rfl,rfl⟩<;>omega
     have WQ:0<=y/\y<many:=by rcases wX with⟨rfl,rfl⟩ | ⟨rfl,rfl⟩<;>omega
     have Vy:lr (dN many ts) y=lr (dN many ts) x:=by rcases wX with⟨rfl,rfl⟩ | ⟨rfl,rfl⟩<;>first | exact Vx | exact Vx.symm
     obtain⟨_,_,w2,ew,Y2,RJ,_⟩:=Y0
     have e:w2=w:=by
      have:w2.map ad.int=w.map ad.int:=by injection ew.symm
      exact List.map_inj_right (λa b h=>by injection h) |>.mp this
     subst e;have OI:=kY Y2 RJ F.num;have F2:=F.grow (k:=k) (x:=x) (y:=y) (w:=w2) S5 (by rw[ht];exact wX) jS WQ.1 WQ.2 hx hy Vy;have Y3:=J' (d:=dR (eG (w2++[k]))) hy;have eX:=F.len;rw[d9,oM,dZ,dG,sv];simp only[af,ag];rw[dH];simp only[af,ag];rw[Lw,dI,hx,dI,dG,gi,dG,d7];simp only[af,ag];rw[dO,dO];rw[show ad.tuple [.int k]=dR [k] from rfl,iM (by simp;omega)];try simp only[af,ag]
     rw[dZ,dG,d7];simp only[af,ag];rw[dG,d7];simp only[af,ag];rw[dO,show ad.tuple [.int t.1,.int t.2.1,.int t.2.2]=eU t from rfl,wK,YZ,Lw,dI]
     refine⟨⟨!1,C3 [_] [_,_,_,_,_] (by
      intro z hz;simp only[bj,aQ,au,bB,or_false] at hz;rcases hz with rfl | rfl | rfl | rfl | rfl | rfl<;>first | exact yW _ | exact p2)⟩,?_⟩
     simp only[az,aw];rw[eI,uC];simp only[az,aw];refine wL _ _ ⟨rfl,AQ,_,tr++[k],true,_,_,_,_,rfl,⟨p2,yW _,yW _,yW _⟩,F2,λv v0 v1=>?_,λ_=>?_,λz=>(by cases z)⟩
     .rw[ju]
      split
      .rfl
      .exact kZ v v0 v1
     .rw[Y3]
      cases g with
      | true=>have:=Np rfl;omega
      | false=>have:=(HZ rfl).1;omega
    have DM:∀v,(eP kv [v]).isSome=true->∃w,eP kv [v]=some (dR w):=λv hv=>by
     obtain⟨d,hd⟩:=bZ.mp hv;obtain⟨_,_,w,rfl,_⟩:=F.val v d hd;exact⟨w,hd⟩
    have pW:∀v,(eP kv [v]).isSome=false->eP kv [v]=none:=λv hv=>by simpa using hv
    have Vz:kj t t.1=t.2.1:=if_pos rfl;have VA:kj t t.2.1=t.1:=if_neg (!1)
    cases EL:(eP kv [t.1]).isSome with
    | true =>
     cases Hg:(eP kv [t.2.1]).isSome with
     | true =>
      rw[if_neg (!2),gu];exact Ly g rfl (by rw[EL,Hg])
     | false =>
      obtain⟨w,hw⟩:=DM _ EL;rw[if_pos (!2),d9,eI,K9,fi,wI,eJ,dH];simp only[af,ag];rw[uC,mQ,oH,dI,Lw,dI,EL,fb,if_pos rfl,eJ,dH];simp only[af,ag];rw[uC,mQ,oH,dI];simp only[az,aw];exact Lz t.1 t.2.1 w (.inl ⟨rfl,rfl⟩) Vz hw (pW _ Hg)
    | false =>
     cases Hg:(eP kv [t.2.1]).isSome with
     | true =>
      obtain⟨w,hw⟩:=DM _ Hg;rw[if_pos (!2),d9,eI,K9,fi,wI,eJ,dH];simp only[af,ag];rw[uC,mQ,oH,dI,Lw,dI,EL,fb,if_neg (!2),eJ,dH];simp only[af,ag];rw[uC,mQ,lO,dI];simp only[az,aw];exact Lz t.2.1 t.1 w (.inr ⟨rfl,rfl⟩) VA hw (pW _ EL)
     | false =>
      rw[if_neg (!2),gu];exact Ly g rfl (by rw[EL,Hg])
   .rintro pre env RY ⟨rfl,hp,kv,tr,g,x2,x4,x5,x6,rfl,ps,F2,Ka,Np,HZ⟩
    rw[bn] at hp;have mL:pre.length=ts.length:=by rw[hp];simp[gJ]
    have eX:=F2.len;have WR:=F.len;refine⟨_,?_,rfl,kv,tr,g,x2,x4,x5,x6,rfl,ps,F2,Ka,λz t ht=>?_,rfl⟩
    .cases g with
     | true=>have:=Np rfl;simp only[if_true];omega
     | false=>have:=(HZ rfl).1;simp only[if_true,bX,if_false];omega
    .obtain⟨i,hi,rfl⟩:=cb ht
     have:=(HZ z).2 i (!1);rwa [show hV ts (i:Int)=ts[i] by simp[hV,aE,hi]] at this
end
noncomputable def ja (kvs:iO)(v:Int):List Int:=match eP kvs [v] with
 | some (.tuple ds)=>(iq ds).getD []
 | _=>[]
theorem wO {kvs:iO}{v:Int}{w:List Int}(h:eP kvs [v]=some (dR w)):ja kvs v=w:=by
 unfold ja;rw[h];show (iq (w.map .int)).getD []=w;rw[ir];rfl
noncomputable def f9 (ts:List fK)(kvs:iO)(k:Int):List Int:=eG ([k]++eG (ja kvs (hV ts k).1++ja kvs (hV ts k).2.1))
section
variable {many:Int}{ts:List fK}{kvs:iO}{tr:List Int}
theorem jv.way (h:jv many ts kvs tr){v:Int}(h0:0<=v)(h1:v<many):eP kvs [v]=some (dR (ja kvs v))/\(ja kvs v).Pairwise (· < ·)/\(∀k∈ja kvs v,k∈tr)/\∀u,(eD ts (ja kvs v)).count u % 2=(bI (u=v)+bI (u=lr (dN many ts) v)) % 2:=by
 obtain⟨d,hd⟩:=bZ.mp (h.all v h0 h1);obtain⟨_,_,w,rfl,hw⟩:=h.fo.val v d hd;rw[wO hd];exact⟨hd,hw⟩
theorem jv.OA (h:jv many ts kvs tr){v:Int}(h0:0<=v)(h1:v<many):(ja kvs v).length<=ts.length:=kY (h.way h0 h1).2.1 (h.way h0 h1).2.2.1 h.fo.num
theorem iN {l:List Int}{k:Int}(h:k∈eG l):k∈l:=cI.mp (by have:=gE.mp h;omega)
theorem oW (h:jv many ts kvs tr)(ok:km many ts){k:Int}(hk:0<=k/\k<(ts.length:Int)):∀j∈f9 ts kvs k,j=k\/j∈tr:=λj hj=>by
 have ht:=ok _ (kX hk);rcases aB.mp (iN hj) with h1 | h1
 .exact .inl (av.mp h1)
 .rcases aB.mp (iN h1) with h1 | h1
  .exact .inr ((h.way ht.1 (!1)).2.2.1 j h1)
  .exact .inr ((h.way (!1) ht.2.2).2.2.1 j h1)
theorem sS (h:jv many ts kvs tr)(ok:km many ts){k:Int}(hk:0<=k/\k<(ts.length:Int)):g7 ts (f9 ts kvs k):=λj hj=>by
 rcases oW h ok hk j hj with rfl | h1
 .exact hk
 .exact h.fo.num j h1
theorem qO (ts:List fK)(kvs:iO)(k:Int):(f9 ts kvs k).Pairwise (· < ·):=jK _
theorem vo (h:jv many ts kvs tr)(ok:km many ts){k:Int}(hk:0<=k/\k<(ts.length:Int)):Hl ts (f9 ts kvs k):=λu=>by
 have Lx:=kX hk;have ht:=ok _ Lx;obtain⟨_,a1,_,a2⟩:=h.way ht.1 (!1);obtain⟨_,c1,_,c2⟩:=h.way (show 0<=(hV ts k).2.1 by omega) ht.2.2;have h1:=iB (ts:=ts) (g8 a1) (g8 c1) u;have h2:=iB (ts:=ts) (by simp:[k].Nodup) (i9 (ja kvs (hV ts k).1++ja kvs (hV ts k).2.1)) u
 have h3:(eD ts [k]).count u=bI (u=(hV ts k).1)+bI (u=(hV ts k).2.1):=by
  show (ma ts k++[]).count u=_;rw[bn];exact sQ (.inl ⟨rfl,rfl⟩) u
 have h4:=a2 u;have h5:=c2 u;rw[A5 ok Lx] at h4;unfold f9;generalize bI (u=(hV ts k).1)=A at h3 h4;generalize bI (u=(hV ts k).2.1)=B at h3 h5;generalize bI (u=lr (dN many ts) (hV ts k).2.1)=C at h4 h5;omega
theorem yX (h:jv many ts kvs tr){k:Int}(hk:k∈tr):f9 ts kvs k=[]:=by
 obtain⟨wa,wb,h1,h2,h3⟩:=h.fo.RR k hk;unfold f9;rw[wO h1,wO h2];exact h3
theorem sU (h:jv many ts kvs tr)(ok:km many ts){k:Int}(hk:0<=k/\k<(ts.length:Int))(hn:k ∉ tr):k∈f9 ts kvs k:=by
 have ht:=ok _ (kX hk);unfold f9;rw[kl (by simp:[k].Nodup) (i9 _)];intro z;have hm:=z.mp (av.mpr rfl);rcases aB.mp (iN hm) with h1 | h1
 .exact hn ((h.way ht.1 (!1)).2.2.1 k h1)
 .exact hn ((h.way (!1) ht.2.2).2.2.1 k h1)
theorem Kb (h:jv many ts kvs tr)(ok:km many ts){k:Int}(hk:0<=k/\k<(ts.length:Int)):f9 ts kvs k≠[]↔k ∉ tr :=
 ⟨λh1 h2=>h1 (yX h h2),λh1 h2=>by have:=sU h ok hk h1;rw[h2] at this;cases this⟩
end
section
variable {n:Int}{X:XQ}{Q:ad->Int->Prop}
theorem Ey (ts:List fK):gJ (ts.map eU)=(gz 0 ts.length).map λk=>.tuple [.int k,eU (hV ts k)]:=by
 refine List.ext_getElem? λi=>?_;unfold gJ gz;rw[aC,List.getElem?_zipIdx,aC,aC,aC];by_cases hi:i<ts.length
 .rw[aV hi,aV (by simpa using hi)]
  simp[hV,aE,hi]
 .rw[bp (!1),bp (by simp;omega)]
  rfl
theorem qP {α:Type}(I:fh->Prop)(g f:α->ad)(p:α->Bool){ug:UG}{uc:UT}{ue:UX}{Q:List ad->Int->Prop}{n:Int}:∀(xs:List α) (acc:List ad) (env:fh),(∀k∈xs,∀env,I env->∃eA,I eA/\(∀K,ug (g k) env K=K eA)/\(∀n Q,uc eA n Q=Q (p k) n)/\(∀n Q,ue eA n Q=Q (f k) n))->I env ->
  fH ug uc ue Q (xs.map g) acc env n=Q (acc++(xs.filter p).map f) n
 | [],acc,env,_,_=>by simp[fH]
 | a::xs,acc,env,h,hi=>by
  obtain⟨eA,Fz,h1,h2,h3⟩:=h a (ar ..) env hi;have ih:=λacc=>qP I g f p (ug:=ug) (uc:=uc) (ue:=ue) (Q:=Q) (n:=n) xs acc eA (λk hk=>h k (ao _ hk)) Fz;rw[ak,fH,h1,h2]
  cases hp:p a with
  | true =>
   rw[if_pos rfl,h3,ih,cC hp,ak,aF];rfl
  | false=>rw[if_neg (!2),ih,cD (by simp[hp])]
theorem Hv {env:fh}{n:Int}{Q:ad->Int->Prop}{uk ud:UX}{v:Int}{kvs:iO}{d:ad}(h1:∀n Q,uk env n Q=Q (.int v) n)(h2:∀n Q,ud env n Q=Q (h8 false kvs) n)(h3:eP kvs [v]=some d):u9 ud uk env n Q=Q d n:=by
 rw[u9,h2,AL,dI];simp only[h1,Lw,dI,h3]
theorem Kc (w:List Int):Gn (dR w) (.tuple [])=some (.bool (!decide (w=[]))):=by
 rw[show ad.tuple []=.tuple (([]:List Int).map .int) from rfl,dR,uY]
theorem tW {many:Int}{ts:List fK}{kvs:iO}{tr:List Int}(h:jv many ts kvs tr)(ok:km many ts)(hl:ts.length<=28):i8 [gA many ts,h8 false kvs] n Q X=Q (.list ((((gz 0 ts.length).map (f9 ts kvs)).filter λw=>!decide (w=[])).map dR)) n:=by
 have e0:gA many ts=.tuple [.int many,.tuple (ts.map eU)]:=rfl;rw[e0];simp! [i8,kM,lO,SM,Ey]
 rw[qP (λenv=>∃x y,env=[x,y,some (.s (h8 false kvs))]) _ (λk=>dR (f9 ts kvs k)) (λ_=>true) _ _ _ (λk hk env ⟨x,y,he⟩=>by
  subst he;have hk:=fF.mp hk;have S5:0<=k/\k<(ts.length:Int):=by omega
  have ht:=ok _ (kX S5);have w1:=h.way ht.1 (show (hV ts k).1<many by omega);have w2:=h.way (show 0<=(hV ts k).2.1 by omega) ht.2.2;have l1:=h.OA ht.1 (show (hV ts k).1<many by omega);have l2:=h.OA (show 0<=(hV ts k).2.1 by omega) ht.2.2;refine⟨[some (.s (.int k)),some (.s (eU (hV ts k))),some (.s (h8 false kvs))],⟨_,_,rfl⟩,λK=>by simp! [d9],λn Q=>by simp! [d9],λn Q=>?_⟩;rw[dZ,dG,gi,dG,d7];simp only[af,ag];rw[dO,dG,dZ,dG];rw[Hv (v:=(hV ts k).1) (kvs:=kvs) (d:=dR (ja kvs (hV ts k).1)) (λn Q=>by rw[eU];simp! [oH]) (λn Q=>by simp! [d9]) w1.1,dG]
  rw[Hv (v:=(hV ts k).2.1) (kvs:=kvs) (d:=dR (ja kvs (hV ts k).2.1)) (λn Q=>by rw[eU];simp! [lO]) (λn Q=>by simp! [d9]) w2.1,dO,iM (!1),dO,show ad.tuple [.int k]=dR [k] from rfl,iM (by
   have h1:=fU (ms:=eG (ja kvs (hV ts k).1++ja kvs (hV ts k).2.1)) (ns:=ja kvs (hV ts k).1++ja kvs (hV ts k).2.1) (i9 _) λj hj=>iN hj;rw[aG] at h1;rw[bo];omega)]
  rfl) ⟨_,_,rfl⟩]
 rw[kW,aQ];simp! [d9];rw[show ((gz 0 ts.length).map λk=>dR (f9 ts kvs k))=((gz 0 ts.length).map (f9 ts kvs)).map dR by rw[bv];rfl]
 rw[qP (λenv=>∃x,env=[x]) dR dR (λw=>!decide (w=[])) _ _ _ (λw hw env ⟨x,he⟩=>by
  subst he;obtain⟨k,hk,rfl⟩:=a5.mp hw;have hk:=fF.mp hk;have eX:=kY (qO ts kvs k) (λj hj=>hj) (sS h ok (by omega:0<=k/\k<(ts.length:Int)))
  exact⟨[some (.s (dR (f9 ts kvs k)))],⟨_,rfl⟩,λK=>by simp! [d9],λn Q=>by
   rw[fi,eJ,dH];simp only[af];rw[gi,dO,Kc,dI,fb],λn Q=>by simp! [d9]⟩) ⟨_,rfl⟩]
 rw[aQ]
end
noncomputable def jz (m:Nat)(r:Nat):List Int:=(gz 0 m).filter λk=>decide (r / 2 ^ k.toNat % 2=1)
theorem yY (p:Int->Bool):∀m:Nat,∃r:Nat,r<2 ^ m/\∀k:Nat,k<m->(r / 2 ^ k % 2=1↔p k=true)
 | 0=>⟨0,!2,λk hk=>by omega⟩
 | m+1=>by
  obtain⟨r,hr,h⟩:=yY p m;have Y4:(2:Nat) ^ (m+1)=2 * 2 ^ m:=by rw[Nat.pow_succ];omega
  cases hp:p m with
  | false =>
   refine⟨r,!1,λk hk=>?_⟩;by_cases e:k=m
   .subst e
    rw[Nat.div_eq_of_lt hr,hp];simp
   .exact h k (!1)
  | true =>
   refine⟨r+2 ^ m,!1,λk hk=>?_⟩;by_cases e:k=m
   .subst e
    rw[Nat.add_div_right _ (Nat.pow_pos (!2)),Nat.div_eq_of_lt hr,hp];simp
   .have Y5:k<m:=by omega
    have e2:(2:Nat) ^ m=2 ^ k * (2 * 2 ^ (m - k - 1)):=by
     rw[<- Nat.pow_succ',<- Nat.pow_add];congr 1;omega
    rw[e2,Nat.add_mul_div_left _ _ (Nat.pow_pos (!2)),Nat.add_mul_mod_self_left];exact h k Y5
theorem Hw (m:Nat):(gz 0 m).Pairwise (· < ·):=by
 unfold gz;exact cu.mpr (List.pairwise_lt_range.imp λh=>by omega)
theorem C5 (ts:List fK)(r:Nat):g7 ts (jz ts.length r):=λk hk=>by have:=fF.mp (aW.mp hk).1;omega
theorem Hx (m r:Nat):(jz m r).Pairwise (· < ·):=(Hw m).sublist List.filter_sublist
theorem Kd {ts:List fK}{ks:List Int}(hk:g7 ts ks)(hl:ks.Pairwise (· < ·)):∃r:Nat,r<2 ^ ts.length/\jz ts.length r=ks:=by
 obtain⟨r,hr,h⟩:=yY (λk=>decide (k∈ks)) ts.length;refine⟨r,hr,we (Hx _ _) hl λk=>?_⟩;unfold jz;rw[aW,fF];constructor
 .rintro⟨h1,h2⟩
  have:=(h k.toNat (!1)).mp (of_decide_eq_true h2);rw[show ((k.toNat:Nat):Int)=k by omega] at this;exact of_decide_eq_true this
 .intro hm
  have hb:=hk k hm;refine⟨!1,decide_eq_true ((h k.toNat (!1)).mpr ?_)⟩;rw[show ((k.toNat:Nat):Int)=k by omega];exact decide_eq_true hm
noncomputable def jR (ts:List fK)(told:List Int):List (List Int):=((List.range (2 ^ ts.length)).filter λr=>decide (eG (eD ts (jz ts.length r))=told)).map (jz ts.length)
theorem sV {ts:List fK}{told ks:List Int}:ks∈jR ts told↔g7 ts ks/\ks.Pairwise (· < ·)/\eG (eD ts ks)=told:=by
 unfold jR;rw[a5];constructor
 .rintro⟨r,hr,rfl⟩
  exact⟨C5 ts r,Hx _ _,of_decide_eq_true (aW.mp hr).2⟩
 .rintro⟨h1,h2,h3⟩
  obtain⟨r,hr,rfl⟩:=Kd h1 h2;exact⟨r,aW.mpr ⟨cz.mpr hr,decide_eq_true h3⟩,rfl⟩
section
variable {n:Int}{X:XQ}{Q:ad->Int->Prop}
theorem qu {many:Int}{ts:List fK}{told:List Int}(w:J1 many ts)(hm:many<=60)(hl:ts.length<=11)(h:Q (.list ((gY (jR ts told)).map dR)) n):gZ [gA many ts,dR told] n Q X:=by
 have e0:gA many ts=.tuple [.int many,.tuple (ts.map eU)]:=rfl;have hsz:ax=16777216:=by decide
 have Y6:(2:Nat) ^ ts.length<=2 ^ 11:=cN (!2) hl;have VB:(1:Int) * 2 ^ ts.length=((2 ^ ts.length:Nat):Int):=by simp
 have VC:Gm (.int 1) (.int (ts.length:Nat))=some (.int ((2 ^ ts.length:Nat):Int)):=by
  simp only[Gm];rw[br,if_pos ⟨!1,!1,!1⟩,VB]
 have hand:∀i:Int,0<=i->i<2048->Builtin.bitAnd i 1=i % 2:=λi i0 i1=>by
  have:∀x:Fin 2048,Builtin.bitAnd (x.val:Int) 1=(x.val:Int) % 2:=by decide +kernel
  have:=this ⟨i.toNat,!1⟩;rwa [show (((⟨i.toNat,!1⟩:Fin 2048).val:Nat):Int)=i by show ((i.toNat:Nat):Int)=i;omega] at this
 unfold gZ jq;simp only[m7,kJ,envOf,ak,bq,ap,bg,Nat.reduceSub,Nat.reduceAdd,aX,bu,bj,aQ];with_reducible generalize CZ:fD _=tr
 with_reducible generalize hb:d9 (eI 5 _) _=b
 simp only[pA,dO,d9,eI,nP,dG,eJ,dH,uC,true_and,af,ag,az,aw];rw[e0,mQ,lO,dI,<- e0];simp only[j8,aj,dI,az,aw,iY,Le,eJ,uC,dH,af,ag,VC];generalize Y7:(2:Nat) ^ ts.length=NN at Y6;refine⟨!1,!1,?_⟩;rw[br,oI];refine gC (λpre post env n'=>n'=n/\∃x4 x5:Option oq,env=[some (.s (gA many ts)),some (.s (dR told)),some (.o ((((List.range pre.length).filter λr=>decide (eG (eD ts (jz ts.length r))=told)).map (jz ts.length)).map dR)),some (.s (.int (ts.length:Nat))),x4,x5]/\pre++post=(gz 0 NN).map ad.int) _ [] _ _ ?_ ⟨rfl,_,_,rfl,rfl⟩ ?_
 .rintro pre d post env n' E' hE ⟨rfl,x4,x5,rfl,hp⟩ wL
  have Hy:pre.length<NN:=by
   have:=congrArg List.length hp;rw[aG,ap,aj,fw] at this;omega
  have hd:d=.int (pre.length:Nat):=by
   have h1:=congrArg (λl=>l[pre.length]?) hp;simp only[bK (am _),Nat.sub_self,af,aC] at h1;unfold gz at h1;rw[aC,List.getElem?_range Hy] at h1;simpa using h1
  subst hd;rw[iE];simp only[az,aw];subst hb;rw[d9,eI,nP,dG,uL,gK,OV,d7];simp only[af,ag,p8,ak,bq,Option.join_some];refine⟨⟨!1,!1⟩,?_⟩;rw[br,oI]
  rw[mw (λk=>.int k) (λk=>decide (pre.length / 2 ^ k.toNat % 2=1)) _ _ _ _ (λk _ n Q=>by simp! [d9]) (λk hk n Q=>by
   have hk:=fF.mp hk;have SG:(0:Int)<=(pre.length:Int) / 2 ^ k.toNat:=Int.ediv_nonneg (!1) (by exact cw (Int.pow_pos (!2)));have Y8:(pre.length:Int) / 2 ^ k.toNat<2048:=Int.lt_of_le_of_lt (Int.ediv_le_self _ (!1)) (!1)
   have e2:((pre.length:Int) / 2 ^ k.toNat % 2=1)↔(pre.length / 2 ^ k.toNat % 2=1):=by
    have:((pre.length / 2 ^ k.toNat % 2:Nat):Int)=(pre.length:Int) / 2 ^ k.toNat % 2:=by simp
    omega
   simp! [Jt,show (0:Int)<=k from hk.1,if_true,JD,hand _ SG Y8,i7,e2]),aQ]
  rw[dO];simp only[gx,dI,az,aw];show iT _ _ _ E' [some (.s (gA many ts)),some (.s (dR told)),some (.o ((((List.range pre.length).filter λr=>decide (eG (eD ts (jz ts.length r))=told)).map (jz ts.length)).map dR)),some (.s (.int (ts.length:Nat))),some (.s (.int (pre.length:Nat))),some (.s (dR (jz ts.length pre.length)))] n';rw[iT,fi,eJ,dZ,dG,d7];simp only[af,ag];rw[dG,d7];simp only[af,ag];rw[dO];refine yS w hm (C5 ts _) ?_;rw[dH];simp only[af,ag];rw[show uT (dR (eG (eD ts (jz ts.length pre.length)))) (dR told)=some (.bool (decide (eG (eD ts (jz ts.length pre.length))=told))) from D9,dI,fb];have Y9:=bG (λr=>decide (eG (eD ts (jz ts.length r))=told)) (List.range pre.length);rw[b9] at Y9;by_cases hd:eG (eD ts (jz ts.length pre.length))=told
  .rw[decide_eq_true hd,if_pos rfl]
   simp only[lj,dG,d7,dO,af,ag];rw[nc (by rw[aj,aj];omega),dI];refine wL _ _ ⟨rfl,some (.s (.int (pre.length:Nat))),some (.s (dR (jz ts.length pre.length))),?_,by rw[aF];exact hp⟩;rw[aG,bo,List.range_succ,cH,a9,a9];simp only[cS,decide_eq_true hd,if_true,List.filter_nil,ak,bq,az,aw]
  .rw[decide_eq_false hd,if_neg (!2),gu]
   refine wL _ _ ⟨rfl,some (.s (.int (pre.length:Nat))),some (.s (dR (jz ts.length pre.length))),?_,by rw[aF];exact hp⟩;rw[aG,bo,List.range_succ,cH];simp only[cS,decide_eq_false hd,bX,if_false,List.filter_nil,bn]
 .rintro pre env n' ⟨rfl,x4,x5,rfl,hp⟩
  rw[bn] at hp;have Hy:pre.length=NN:=by rw[hp,aj,fw]
  rw[Hy,<- Y7]
  have II:(jR ts told).length<=2 ^ ts.length:=by
   unfold jR;rw[aj];have:=bG (λr=>decide (eG (eD ts (jz ts.length r))=told)) (List.range (2 ^ ts.length));rwa [b9] at this
  rw[<- CZ];have G6:∀l:List (List Int),l.map dR=l.map lp:=λl=>rfl;simp only[fD,uL,yz,dH,af,ag];rw[G6,so,dI];exact⟨by show (jR ts told).length<4000;omega,h⟩
end
theorem vp (p:Int->Bool):∀(m:Nat) (l:List Int),l.length<=m->(∀v,l.count v % 2=0)->(l.countP p) % 2=0
 | _,[],_,_=>rfl
 | 0,a::r,h,_=>by simp at h
 | m+1,a::r,h,he=>by
  have h1:=he a;rw[List.count_cons_self] at h1;have hm:a∈r:=cI.mp (!1);have hp:=List.perm_cons_erase hm;have hl:=hp.length_eq;rw[ap] at h hl
  have ih:=vp p m (r.erase a) (!1) λv=>by
   have h2:=he v;have h3:=hp.count_eq v;rw[cT] at h2 h3;omega
  rw[cR,hp.countP_eq,cR];omega
theorem Hz (p:Int->Bool)(l:List Int):((eG l).countP p) % 2=(l.countP p) % 2:=by
 have:=vp p _ (eG l++l) (am _) λv=>by
  have:=mf l v;rw[bf];omega
 rw[List.countP_append] at this;omega
theorem qQ {a b:List Int}(ha:a.Pairwise (· < ·))(hb:b.Pairwise (· < ·))(h:∀k,k∈a↔k∈b):a=b:=we ha hb h
structure yZ (ts:List fK) (told s:List Int):Prop where
 num:g7 ts s
 lt:s.Pairwise (· < ·)
 od:eG (eD ts s)=told
theorem yZ.turn {ts:List fK}{told s e:List Int}(h:yZ ts told s)(he:Hl ts e)(hn:g7 ts e)(hl:e.Pairwise (· < ·)):yZ ts told (eG (s++e)):=by
 refine⟨CW h.num hn,jK _,?_⟩;rw[<- h.od];refine Hq λv=>?_;have h1:=iB (ts:=ts) (g8 h.lt) (g8 hl) v;have h2:=he v;omega
noncomputable def y3 (l:List (List Int))(base:List (List Int)):List (List Int):=base.foldl (λl e=>l++l.map λx=>eG (x++e)) l
section
variable {many:Int}{ts:List fK}{kvs:iO}{tr told:List Int}
structure y4 (ts:List fK) (tr told:List Int) (D:List Int) (l:List (List Int)):Prop where
 nd:l.Nodup
 jn:∀x∈l,yZ ts told x
 sub:∀x∈l,∀k∈x,k∈tr\/k∈D
 ex:∀s:Int->Bool,∃x∈l,∀k∈D,(k∈x↔s k=true)
theorem y4.step (H:jv many ts kvs tr)(ok:km many ts){D:List Int}{l:List (List Int)}(h:y4 ts tr told D l){k:Int}(hk:0<=k/\k<(ts.length:Int))(hn:k ∉ tr)(hD:k ∉ D)(Y':∀j∈D,j ∉ tr):y4 ts tr told (D++[k]) (l++l.map λx=>eG (x++f9 ts kvs k)):=by
 have OY:=qO ts kvs k;have WS:=sU H ok hk hn;have mt:∀x∈l,∀j,(j∈eG (x++f9 ts kvs k)↔¬ (j∈x↔j∈f9 ts kvs k)):=λx hx j=>kl (g8 (h.jn x hx).lt) (g8 OY);have S6:∀x∈l,k ∉ x:=λx hx z=>(h.sub x hx k z).elim hn hD;refine⟨cv.mpr ⟨h.nd,?_,λx hx y hy e=>?_⟩,λx hx=>?_,λx hx j hj=>?_,λs=>?_⟩
 .refine cu.mpr (List.Pairwise.imp_of_mem ?_ h.nd)
  intro x y hx hy wX z;refine wX (qQ (h.jn x hx).lt (h.jn y hy).lt λj=>?_);have h1:=mt x hx j;have h2:=mt y hy j;rw[z] at h1;have:=h1.symm.trans h2;by_cases a:j∈x<;>by_cases b:j∈y<;>by_cases c:j∈f9 ts kvs k<;>simp_all
 .subst e
  obtain⟨y,hy,e⟩:=a5.mp hy;refine S6 x hx ?_;rw[<- e,mt y hy];exact λz=>S6 y hy (z.mpr WS)
 .rcases aB.mp hx with hx | hx
  .exact h.jn x hx
  .obtain⟨y,hy,rfl⟩:=a5.mp hx
   exact (h.jn y hy).turn (vo H ok hk) (sS H ok hk) OY
 .rcases aB.mp hx with hx | hx
  .exact (h.sub x hx j hj).imp id λz=>a6 _ z
  .obtain⟨y,hy,rfl⟩:=a5.mp hx
   rcases aB.mp (iN hj) with z | z
   .exact (h.sub y hy j z).imp id λz=>a6 _ z
   .rcases oW H ok hk j z with rfl | z
    .exact .inr (aJ _ (av.mpr rfl))
    .exact .inl z
 .obtain⟨x,hx,hs⟩:=h.ex s
  cases e:s k with
  | false =>
   refine⟨x,a6 _ hx,λj hj=>?_⟩;rcases aB.mp hj with hj | hj
   .exact hs j hj
   .rw[av.mp hj,e]
    simp[S6 x hx]
  | true =>
   refine⟨_,aJ _ (a5.mpr ⟨x,hx,rfl⟩),λj hj=>?_⟩;rw[mt x hx];rcases aB.mp hj with hj | hj
   .have:j ∉ f9 ts kvs k:=λz=>by
     rcases oW H ok hk j z with e | z
     .exact hD (e ▸ hj)
     .exact Y' j hj z
    rw[<- hs j hj];simp[this]
   .rw[av.mp hj,e]
    simp[S6 x hx,WS]
noncomputable def mh (ts:List fK)(tr:List Int):List Int:=(gz 0 ts.length).filter λk=>!decide (k∈tr)
theorem mi {k:Int}:k∈mh ts tr↔(0<=k/\k<(ts.length:Int))/\k ∉ tr:=by
 unfold mh;rw[aW,fF];simp
theorem A6 (m:Nat):(gz 0 m).Nodup:=g8 (Hw m)
theorem y4.go (H:jv many ts kvs tr)(ok:km many ts):∀(ks:List Int) (D:List Int) (l:List (List Int)),y4 ts tr told D l->(D++ks).Nodup->(∀k∈D++ks,(0<=k/\k<(ts.length:Int))/\k ∉ tr)->y4 ts tr told (D++ks) (y3 l (ks.map (f9 ts kvs)))
 | [],D,l,h,_,_=>by rw[bn];exact h
 | k::ks,D,l,h,hn,hk=>by
  have HW:=hk k (aJ _ (ar ..));have Za:k ∉ D:=λz=>(cv.mp hn).2.2 k z k (ar ..) rfl;have e:D++k::ks=(D++[k])++ks:=by rw[aF];rfl
  rw[e] at hn hk ⊢;exact y4.go H ok ks (D++[k]) _ (h.step H ok HW.1 HW.2 Za λj hj=>(hk j (a6 _ (a6 _ hj))).2) hn hk
theorem HA (H:jv many ts kvs tr)(ok:km many ts):((gz 0 ts.length).map (f9 ts kvs)).filter (λw=>!decide (w=[]))=(mh ts tr).map (f9 ts kvs):=by
 unfold mh;rw[List.filter_map];congr 1;refine List.filter_congr λk hk=>?_;have hk:=fF.mp hk;have:=Kb H ok (k:=k) (!1);show (!decide (f9 ts kvs k=[]))=!decide (k∈tr);by_cases h:k∈tr
 .rw[decide_eq_true h,decide_eq_true (yX H h)]
 .rw[decide_eq_false h,decide_eq_false (this.mpr h)]
theorem Ke (ts:List fK)(told:List Int):(jR ts told).Nodup:=by
 unfold jR;refine cu.mpr (List.Pairwise.imp_of_mem ?_ (List.nodup_range.filter _));intro a b ha hb qC z;have ha:=cz.mp (aW.mp ha).1;have hb:=cz.mp (aW.mp hb).1
 have key:∀m a b:Nat,a<2 ^ m->b<2 ^ m->(∀k,k<m->(a / 2 ^ k % 2=1↔b / 2 ^ k % 2=1))->a=b:=by
  intro m
  induction m with
  | zero=>intro a b ha hb _;simp at ha hb;omega
  | succ m ih =>
   intro a b ha hb hk;rw[Nat.pow_succ] at ha hb;have h0:=hk 0 (!1)
   have h1:=ih (a / 2) (b / 2) (!1) (!1) λk D4=>by
    have:=hk (k+1) (!1);rw[Nat.pow_succ',<- Nat.div_div_eq_div_mul,<- Nat.div_div_eq_div_mul] at this;exact this
   simp at h0;omega
 refine qC (key _ a b ha hb λk hk=>?_)
 have hm:∀r:Nat,((k:Int)∈jz ts.length r↔r / 2 ^ k % 2=1):=λr=>by
  unfold jz;rw[aW,fF,decide_eq_true_eq,br];exact⟨λh=>h.2,λh=>⟨!1,h⟩⟩
 rw[<- hm a,<- hm b,z]
theorem HB (H:jv many ts kvs tr)(ok:km many ts){j:List Int}(hj:yZ ts told j)(hs:∀k∈j,k∈tr):(y3 [j] ((mh ts tr).map (f9 ts kvs))).Perm (jR ts told):=by
 have h:=y4.go H ok (told:=told) (mh ts tr) [] [j] ⟨!4,by simpa using hj,λx hx k hk=>.inl (hs k (by rw[av.mp hx] at hk;exact hk)),λs=>⟨j,!4,!4⟩⟩ (by rw[aQ];exact (A6 _).filter _) (λk hk=>by rw[aQ] at hk;exact mi.mp hk);rw[aQ] at h;have Vp:=Ke ts told;refine (cg h.nd Vp).mpr λS=>?_;rw[sV];constructor
 .intro hS
  have:=h.jn S hS;exact⟨this.num,this.lt,this.od⟩
 .rintro⟨h1,h2,h3⟩
  obtain⟨x,hx,hs⟩:=h.ex λk=>decide (k∈S);have O1:=h.jn x hx;have h0:=H.fo.free (eG (S++x)) (i9 _) (λk hk=>?_) λv=>?_
  .have:S=x:=qQ h2 O1.lt λk=>by
    have:=kl (g8 h2) (g8 O1.lt) (k:=k);rw[h0] at this;by_cases a:k∈S<;>by_cases b:k∈x<;>simp_all
   rw[this];exact hx
  .refine Classical.byContradiction λhn=>?_
   have Ss:=CW h1 O1.num k hk;have:=hs k (mi.mpr ⟨Ss,hn⟩);rw[kl (g8 h2) (g8 O1.lt)] at hk;rw[decide_eq_true_eq] at this;exact hk this.symm
  .have e1:=iB (ts:=ts) (g8 h2) (g8 O1.lt) v
   have e2:=mf (eD ts S) v;have e3:=mf (eD ts x) v;rw[h3] at e2;rw[O1.od] at e3;omega
noncomputable def LA (kvs:iO)(told:List Int):List Int:=told.foldl (λj p=>eG (j++ja kvs p)) []
theorem sW (H:jv many ts kvs tr):∀(us pre j:List Int),(∀p∈us,0<=p/\p<many)->j.Pairwise (· < ·)->(∀k∈j,k∈tr)->(∀u,(eD ts j).count u % 2=(pre.count u+(pre.map (lr (dN many ts))).count u) % 2) ->
  (us.foldl (λj p=>eG (j++ja kvs p)) j).Pairwise (· < ·)/\(∀k∈us.foldl (λj p=>eG (j++ja kvs p)) j,k∈tr)/\∀u,(eD ts (us.foldl (λj p=>eG (j++ja kvs p)) j)).count u % 2=((pre++us).count u+((pre++us).map (lr (dN many ts))).count u) % 2
 | [],pre,j,_,h1,h2,h3=>by rw[bn];exact⟨h1,h2,h3⟩
 | p::us,pre,j,hp,h1,h2,h3=>by
  obtain⟨_,w1,w2,w3⟩:=H.way (hp p (ar ..)).1 (hp p (ar ..)).2;rw[cq,show pre++p::us=(pre++[p])++us by rw[aF];rfl];refine sW H us (pre++[p]) _ (λq hq=>hp q (ao _ hq)) (jK _) (λk hk=>?_) λu=>?_
  .rcases aB.mp (iN hk) with z | z
   .exact h2 k z
   .exact w2 k z
  .have e1:=iB (ts:=ts) (g8 h1) (g8 w1) u
   have e2:=h3 u;have e3:=w3 u;rw[bf,a9,bf]
   have c:∀a:Int,[a].count u=bI (u=a):=λa=>by
    rw[cT,List.count_nil];by_cases h:u=a
    .subst h;simp[bI]
    .rw[bI,if_neg h,if_neg (by simpa using λz=>h z.symm)]
   rw[ak,bq,c,c];omega
theorem A7 (ok:km many ts){S:List Int}(hS:g7 ts S)(hr:∀p∈told,0<=p/\p<many)(h:eG (eD ts S)=told)(u:Int):((told.map (lr (dN many ts))).count u) % 2=0:=by
 have h1:=Hz (λv=>decide (lr (dN many ts) v=u)) (eD ts S);rw[h] at h1
 have h2:(told.map (lr (dN many ts))).count u=told.countP (λv=>decide (lr (dN many ts) v=u)):=by
  rw[List.count,List.countP_map];congr 1
 have h3:∀l:List Int,g7 ts l->(eD ts l).countP (λv=>decide (lr (dN many ts) v=u)) % 2=0:=by
  intro l
  induction l with
  | nil=>intro _;rfl
  | cons k l ih =>
   intro hl;have hk:=hl k (ar ..);have e:=A5 ok (kX hk);have:=ih λj hj=>hl j (ao _ hj);rw[gf,List.countP_append]
   have:[(hV ts k).1,(hV ts k).2.1].countP (λv=>decide (lr (dN many ts) v=u)) % 2=0:=by
    rw[cR,cR,List.countP_nil,e];split<;>omega
   have:(ma ts k).countP (λv=>decide (lr (dN many ts) v=u)) % 2=0:=this;omega
 have:=h3 S hS;omega
end
theorem sX:∀(base l:List (List Int)),(y3 l base).length=l.length * 2 ^ base.length
 | [],l=>by simp[y3]
 | e::base,l=>by
  have:=sX base (l++l.map λx=>eG (x++e));unfold y3 at this ⊢;rw[cq,this,aG,aj,ap,Nat.pow_succ,Nat.mul_comm (2 ^ base.length) 2,<- Nat.mul_assoc];congr 1;omega
theorem HC {m:Nat}{a b:List Int}(ha:∀k∈a,0<=k/\k<(m:Int))(hb:∀k∈b,0<=k/\k<(m:Int)):(eG (a++b)).length<=m:=by
 have:=fU (ns:=gz 0 m) (i9 (a++b)) λk hk=>fF.mpr (by
  rcases aB.mp (iN hk) with z | z
  .have:=ha k z;omega
  .have:=hb k z;omega)
 rwa [fw] at this
theorem A8 (ns:List Int):p9 (dR ns)=true:=by
 have:∀ns:List Int,pF (ns.map .int)=true:=by
  intro ns
  induction ns with
  | nil=>rfl
  | cons a ns ih=>simpa [pF,p9] using ih
 exact this _
theorem OH (t:fK):Rc (eU t) none (some 2)=some (.tuple [.int t.1,.int t.2.1]):=by
 simp only[eU,Rc,wm _ 2 (!2)];rfl
theorem y6 {ts:List fK}{k:Int}{t:fK}(h:ts[k.toNat]? = some t):ma ts k=[t.1,t.2.1]:=by
 unfold ma;rw[aE,h];rfl
theorem Ez (l:List (List Int)):pJ (l.map dR)=some l:=so l
section
variable {n:Int}{X:XQ}{Q:ad->Int->Prop}
theorem A9 {row:List Int}(h1:(jD row).length<=60)(h2:row.length<=100000):fV [.list (row.map .int)] n Q X=Q (dR (eG row)) n:=by
 simp only[fV,ir,dI,h1,h2,true_and,dR,and_self]
theorem Ba {many:Int}{ts:List fK}{ks:List Int}(hk:g7 ts ks)(hl:2 * ks.length<=60):mz [gA many ts,dR ks] n Q X=Q (dR (eG (eD ts ks))) n:=by
 simp! [mz,pL,dR];have hsz:ax=16777216:=by decide
 have key:∀(us ps:List Int) (x1 x3:Option oq),g7 ts us->ps.length+2 * us.length<=60->j9 (iE 3) (lj 2 jC (dG (OT (eJ jy (eJ jy (dH 0) (uC (.int 1))) (dH 3)) OR (OS (uC (.int 2)))) dO))
   { nx:=fD (Aj fV (dG (dH 2) dO)) { nx:=λx n'=>Q ad.none n',rt:=Q },rt:=Q } (us.map .int) [some (.s (gA many ts)),x1,some (.o (ps.map .int)),x3] n=Q (dR (eG (ps++eD ts us))) n:=by
  intro us
  induction us with
  | nil =>
   intro ps x1 x3 _ hl;have Zb:ps.length<=60:=by simp at hl;omega
   simp! [j9,bq,A9 (aU (CV ps) Zb) (by omega:ps.length<=100000),A8];simp[eD]
  | cons k us ih =>
   intro ps x1 x3 hu hl;rw[ap] at hl;obtain⟨t,ht,_,ha⟩:=oQ (hu k (ar ..)).1 (hu k (ar ..)).2
   have ex:jC (ps.map .int) [.tuple [.int t.1,.int t.2.1]]=some ((ps++ma ts k).map .int):=by
    simp only[jC];rw[if_pos (by rw[aj,hsz];simp;omega),y6 ht,a9];rfl
   have:=ih (ps++ma ts k) x1 (some (.s (.int k))) (λj hj=>hu j (ao _ hj)) (by rw[aG,y6 ht];simp;omega);rw[gA] at this ⊢;simp! [j9,lO,ha,OH,ex];rw[this,aF,<- gf]
 exact key ks [] _ _ hk (by simp only[bg];omega)
theorem y7 {m:Nat}{j:List Int}{base:List (List Int)}(hm:m<=28)(hj:∀k∈j,0<=k/\k<(m:Int))(NP:j.length<=m)(hb:∀e∈base,e.length<=m/\∀k∈e,0<=k/\k<(m:Int))(hl:base.length<=10)(h:Q (.list ((gY (y3 [j] base)).map dR)) n):kN [dR j,.list (base.map dR)] n Q X:=by
 unfold kN nq;simp only[m7,kJ,envOf,ak,bq,ap,bg,Nat.reduceSub,Nat.reduceAdd,aX,bu,bj,aQ];with_reducible generalize CZ:fD _=tr
 rw[true_and,ie,eI,uL,dG,d7];simp only[af,ag];rw[dO];simp only[az,aw];rw[ie,iY,v5];simp only[af,ag,oz,dI];refine gC (λpre post env n'=>n'=n/\∃(done left l:List (List Int)) (x3:Option oq),env=[some (.s (dR j)),some (.s (.list (base.map dR))),some (.s (.list (l.map dR))),x3]/\done++left=base/\post=left.map dR/\l=y3 [j] done/\∀x∈l,x.length<=m/\∀k∈x,0<=k/\k<(m:Int)) _ [] _ _ ?_ ⟨rfl,[],base,[j],none,rfl,rfl,rfl,rfl,λx hx=>by rw[av.mp hx];exact⟨NP,hj⟩⟩ ?_
 .rintro pre d post env n' E' hE ⟨rfl,done,left,l,x3,rfl,xw,gX,BQ,hx⟩ wL
  cases left with
  | nil=>cases gX
  | cons e left =>
   rw[ak] at gX;injection gX with e1 e2;subst e1;have VD:e∈base:=by rw[<- xw];exact aJ _ (ar ..)
   have eX:=sX done [j];rw[<- BQ,bo,Nat.one_mul] at eX
   have Zc:done.length<=9:=by
    have:=congrArg List.length xw;rw[aG,ap] at this;omega
   have hp:(2:Nat) ^ done.length<=2 ^ 9:=cN (!2) Zc;rw[iE];simp only[az,aw];rw[eI,eJ,dH];simp only[af,ag];rw[uL,gK,HX,dH];simp only[af,ag,oz,dI]
   rw[qP (λenv=>∃x,env=[x,some (.s (dR e))]) dR (λx=>dR (eG (x++e))) (λ_=>true) _ _ _ (λx Zd env ⟨y,he⟩=>by
    subst he;refine⟨[some (.s (dR x)),some (.s (dR e))],⟨_,rfl⟩,λK=>by simp! [d9],λn Q=>by simp! [d9],λn Q=>?_⟩;rw[dZ,dG,d7];simp only[af,ag];rw[dG,d7];simp only[af,ag];rw[dO,iM (by have:=(hx x Zd).1;have:=(hb e VD).1;omega)]) ⟨_,by simp! [d9];rfl⟩]
   rw[kW,aQ,NY (by rw[aj,aj];omega),dI];simp only[az,aw];refine wL _ _ ⟨rfl,done++[e],left,l++l.map λx=>eG (x++e),some (.s (dR e)),?_,by rw[aF];exact xw,e2,by rw[BQ];unfold y3;rw[List.foldl_append];rfl,λx HM=>?_⟩
   .rw[a9,bv]
    rfl
   .rcases aB.mp HM with HM | HM
    .exact hx x HM
    .obtain⟨y,hy,rfl⟩:=a5.mp HM
     refine⟨HC (hx y hy).2 (hb e VD).2,λk hk=>?_⟩;rcases aB.mp (iN hk) with z | z
     .exact (hx y hy).2 k z
     .exact (hb e VD).2 k z
 .rintro pre env n' ⟨rfl,done,left,l,x3,rfl,xw,gX,BQ,hx⟩
  have:left=[]:=by simpa using gX.symm
  subst this;rw[bn] at xw;subst xw;have eX:=sX done [j];rw[<- BQ,bo,Nat.one_mul] at eX;have hp:(2:Nat) ^ done.length<=2 ^ 10:=cN (!2) hl;show tr _ _ _;subst CZ;rw[fD,uL,yz,dH];simp only[af,ag];rw[Ez,dI,BQ];exact⟨by rw[<- BQ];omega,h⟩
noncomputable def C6 (X:XQ):Prop:=X "TooMany" [.str "sets"]
theorem wQ {many:Int}{ts:List fK}{told:List Int}(m0:1<=many)(m1:many<60)(ok:km many ts)(hl:ts.length<=28)(hr:∀p∈told,0<=p/\p<many)(ht:told.Pairwise (· < ·))
  (hA:∀kvs tr,jv many ts kvs tr->(mh ts tr).length<=10->Q (.list ((gY (jR ts told)).map dR)) n) (hB:∀kvs tr,jv many ts kvs tr->10<(mh ts tr).length->C6 X):jI [gA many ts,dR told] n Q X:=by
 unfold jI lU;simp only[m7,kJ,envOf,ak,bq,ap,bg,Nat.reduceSub,Nat.reduceAdd,aX,bu,bj,aQ];with_reducible generalize Vu:ie (eI 3 _) _=t3
 rw[true_and,ie,eI,dZ,dG,d7];simp only[af,ag];rw[dO];refine wN m0 m1 ok (!1) λkvs tr H=>?_;simp only[az,aw];subst Vu;with_reducible generalize RT:ie (iT _ _ _) _=t4
 rw[ie,eI,dZ,dG,d7];simp only[af,ag];rw[dG,d7];simp only[af,ag];rw[dO,tW H ok hl,HA H ok];simp only[az,aw];subst RT;with_reducible generalize Vt:ie (eI 4 _) _=t5
 rw[ie,iT,fi,eJ,nP,dG,dH];simp only[af,ag];rw[dO];simp only[j8,dI,aj];rw[uC];simp only[K',dI,fb];by_cases RZ:10<(mh ts tr).length
 .rw[if_pos (decide_eq_true (!1)),Ak,dG,uC,dO]
  exact hB kvs tr H RZ
 rw[if_neg (by rw[decide_eq_true_eq];omega),gu];show t5 _ _ _;subst Vt;with_reducible generalize VE:JK _ _ _=t6
 rw[ie,eI,gi,dO];simp only[az,aw];rw[ie,iY,v5,dR];simp only[af,ag,oz,dI];have OI:∀p,0<=p->p<many->(ja kvs p).length<=ts.length:=λp p0 p1=>H.OA p0 p1;refine gC (λpre post env n'=>n'=n/\∃(done left j:List Int) (x5:Option oq),env=[some (.s (gA many ts)),some (.s (.tuple (told.map .int))),some (.s (h8 false kvs)),some (.s (.list (((mh ts tr).map (f9 ts kvs)).map dR))),some (.s (dR j)),x5]/\done++left=told/\post=left.map .int/\j=LA kvs done) _ [] _ _ ?_ ⟨rfl,[],told,[],none,rfl,rfl,rfl,rfl⟩ ?_
 .rintro pre d post env n' E' hE ⟨rfl,done,left,j,x5,rfl,xw,gX,hj⟩ wL
  cases left with
  | nil=>cases gX
  | cons p left =>
   rw[ak] at gX;injection gX with e1 e2;subst e1;have O0:=hr p (by rw[<- xw];exact aJ _ (ar ..));obtain⟨w1,w2,w3,_⟩:=H.way O0.1 O0.2;have WT:=sW H done [] [] (λq hq=>hr q (by rw[<- xw];exact a6 _ hq)) List.Pairwise.nil (!4) (λu=>rfl);have NP:j.length<=ts.length:=by rw[hj];exact kY WT.1 WT.2.1 H.fo.num
   rw[iE];simp only[az,aw];rw[eI,dZ,dG,d7];simp only[af,ag];rw[dG,Hv (v:=p) (kvs:=kvs) (d:=dR (ja kvs p)) (λn Q=>by simp only[dH,af,ag]) (λn Q=>by simp only[dH,af,ag]) w1,dO,iM (by have:=OI p O0.1 O0.2;omega)];simp only[az,aw];refine wL _ _ ⟨rfl,done++[p],left,_,_,rfl,by rw[aF];exact xw,e2,?_⟩;rw[hj];unfold LA;rw[List.foldl_append];rfl
 .rintro pre env n' ⟨rfl,done,left,j,x5,rfl,xw,gX,hj⟩
  have:left=[]:=by simpa using gX.symm
  subst this;rw[bn] at xw;subst xw;obtain⟨j1,j2,j3⟩:=sW H done [] [] hr List.Pairwise.nil (!4) (λu=>rfl);rw[show (done.foldl (λj p=>eG (j++ja kvs p)) [])=j from hj.symm] at j1 j2 j3;rw[aQ] at j3;have OZ:g7 ts j:=λk hk=>H.fo.num k (j2 k hk);have NP:=kY j1 j2 H.fo.num;show t6 _ _ _;subst VE;rw[JK,fi,eJ,dZ,dG,d7];simp only[af,ag];rw[dG,d7];simp only[af,ag];rw[dO,Ba OZ (!1),dH];simp only[af,ag];rw[dR,uY,dI,fb];by_cases xN:eG (eD ts j)=done
  .rw[decide_eq_true xN,c8,if_neg (!2),fD,uL,Au,dG,d7]
   simp only[af,ag];rw[dG,d7];simp only[af,ag];rw[dO];refine y7 (m:=ts.length) hl (λk hk=>OZ k hk) NP (λe he=>?_) (by rw[aj];omega) ?_
   .obtain⟨k,hk,rfl⟩:=a5.mp he
    have hk:=mi.mp hk;have h1:=sS H ok hk.1;exact⟨kY (qO ts kvs k) (λj hj=>hj) h1,h1⟩
   .have:=AE (HB H ok (told:=done) ⟨OZ,j1,xN⟩ j2)
    rw[this];exact hA kvs tr H (!1)
  .rw[decide_eq_false xN,Bool.not_false,if_pos rfl,fD,uL,dO]
   have pW:jR ts done=[]:=c7.mpr λS hS=>by
    obtain⟨s1,s2,s3⟩:=sV.mp hS;refine xN (qQ (jK _) ht λu=>?_);rw[gE,j3 u];have h1:=A7 ok s1 hr s3 u;have h2:=List.Nodup.count (g8 ht) (a:=u);by_cases hu:u∈done
    .rw[if_pos hu] at h2
     simp only[hu,iff_true];omega
    .rw[if_neg hu] at h2
     simp only[hu,iff_false];omega
   have:=hA kvs tr H (!1);rw[pW,show gY []=[] from List.perm_nil.mp (ix [])] at this;exact this
end
theorem EA (x:Str):GI (.str x) (.str x)=some (.bool false):=by simp[GI]
theorem EB (x:Str):D' (.str x) (.str x)=some (.bool true):=by simp[D']
theorem EC {ts:List fK}{told:List Int}(hl:ts.length<=11):Good (.list ((gY (jR ts told)).map dR)):=by
 have eX:(gY (jR ts told)).length<=2 ^ 11:=by
  rw[(ix _).length_eq];unfold jR;rw[aj];have h1:=bG (λr=>decide (eG (eD ts (jz ts.length r))=told)) (List.range (2 ^ ts.length));rw[b9] at h1;exact aU h1 (cN (!2) hl)
 have he:∀d∈(gY (jR ts told)).map dR,Sz 16 11 55 1 d:=λd hd=>by
  obtain⟨S,hS,rfl⟩:=a5.mp hd;obtain⟨s1,s2,_⟩:=sV.mp ((ix _).mem_iff.mp hS);have sl:=kY s2 (λk hk=>hk) s1
  have h4:pG 16 11 (5 * (S.map ad.int).length) 0 (S.map ad.int):=pG.all λd hd=>by
   obtain⟨i,hi,rfl⟩:=a5.mp hd;have:=s1 i hi;exact⟨by simp only[Gq];omega,Lk (!1),by simp[ad.depth]⟩
  rw[aj] at h4;exact (Sz.tup h4).mono (am _) (am _) (!1) (!1)
 have:=Sz.lst (pG.all he);rw[aj] at this;exact this.good (!3) (!2) (!1) (!2)
theorem HD {many:Int}{ts:List fK}(m0:1<=many)(m1:many<=9)(oV:∀t∈ts,sL many true t)(hl:ts.length<=20):Good (gA many ts):=by
 have h1:pG 1023 11 (34 * (ts.map eU).length) 1 (ts.map eU):=pG.all λd hd=>by
  obtain⟨t,Lx,rfl⟩:=a5.mp hd;have h:=oV t Lx;have a0:=h.a0;have ab:=h.ab;have bm:=h.bm;have pr:=h.pr;exact (Sz.tup (pG.cons (Sz.small (!1) (!2)) (pG.cons (Sz.small (!1) (!2)) (pG.cons (Sz.small (!1) (!2)) pG.nil)))).mono (am _) (am _) (!1) (!1)
 rw[aj] at h1;have h3:=Sz.tup (pG.cons (Sz.small (i:=many) (L:=11) (!1) (am 1023)) (pG.cons (Sz.tup h1) pG.nil));exact h3.good (!3) (!2) (!1) (!1)
section
variable {many:Int}{ts:List fK}{kvs:iO}{tr:List Int}
theorem OB (hl:ts.length<=10):(mh ts tr).length<=10:=by
 have:=bG (λk=>!decide (k∈tr)) (gz 0 ts.length);rw[fw] at this;exact aU this hl
theorem Bb (H:jv many ts kvs tr)(ok:km many ts)(hl:ts.length=11):(mh ts tr).length<=10:=by
 have h0:∃j,j∈tr:=by
  refine Classical.byContradiction λhn=>?_;have hk:(0:Int)<=0/\(0:Int)<(ts.length:Int):=by omega
  have Ze:(0:Int) ∉ tr:=λz=>hn ⟨_,z⟩;have ho:=sU H ok hk Ze
  have e:f9 ts kvs 0=[0]:=qQ (qO ts kvs 0) (!4) λj=>by
   rw[av];constructor
   .intro hj
    rcases oW H ok hk j hj with h | h
    .exact h
    .exact absurd ⟨_,h⟩ hn
   .rintro rfl
    exact ho
  have RW:=vo H ok hk (hV ts 0).1;rw[e] at RW;have Hn:=ok _ (kX hk);have e2:eD ts [0]=[(hV ts 0).1,(hV ts 0).2.1]:=rfl;rw[e2,List.count_cons_self,cT,List.count_nil,if_neg (by rw[beq_iff_eq];omega)] at RW;omega
 obtain⟨j,hj⟩:=h0;have OZ:=H.fo.num j hj
 have:=fU (ms:=j::mh ts tr) (ns:=gz 0 ts.length) (bN.mpr ⟨λz=>(mi.mp z).2 hj,(A6 _).filter _⟩) λk hk=>by
  rcases au.mp hk with rfl | hk
  .exact fF.mpr (!1)
  .have:=(mi.mp hk).1
   exact fF.mpr (!1)
 rw[ap,fw] at this;omega
theorem Kf (H:jv many ts kvs tr){a b:Int}(hp:∀t∈ts,t.1=a/\t.2.1=b)(hl:12<=ts.length):10<(mh ts tr).length:=by
 have one:∀j∈tr,∀k∈tr,j=k:=λj hj k hk=>Classical.byContradiction λjS=>by
  have:=H.fo.free [j,k] (by simp[jS]) (by simp[hj,hk]) λv=>by
   have e1:=hp _ (kX (H.fo.num j hj));have e2:=hp _ (kX (H.fo.num k hk));have e3:eD ts [j,k]=[(hV ts j).1,(hV ts j).2.1]++[(hV ts k).1,(hV ts k).2.1]:=rfl;rw[e3,e1.1,e1.2,e2.1,e2.2,bf];omega
  cases this
 have h3:=yV (λk=>!decide (k∈tr)) (gz 0 ts.length);rw[fw] at h3
 have h4:((gz 0 ts.length).filter λk=>!(!decide (k∈tr))).length<=1:=by
  cases CZ:tr with
  | nil =>
   have e:((gz 0 ts.length).filter λk=>!(!decide (k∈([]:List Int))))=[]:=List.filter_eq_nil_iff.mpr (!4);rw[e];decide
  | cons j r =>
   have:=fU (ns:=[j]) ((A6 ts.length).filter λk=>!(!decide (k∈tr))) λk hk=>by
    have:=(aW.mp hk).2;simp only[Bool.not_not,decide_eq_true_eq] at this;exact av.mpr (one k this j (by rw[CZ];exact ar ..))
   rw[CZ] at this;exact this
 unfold mh;omega
end
section
variable {n:Int}{X:XQ}{Q:ad->Int->Prop}
theorem oX {many:Int}{ts:List fK}(m0:1<=many)(m1:many<60)(ok:km many ts)(hl:ts.length<=28)(hA:∀kvs tr,jv many ts kvs tr->(mh ts tr).length<=10->Q (.list ((gY (jR ts [])).map dR)) n)(hB:∀kvs tr,jv many ts kvs tr->10<(mh ts tr).length->C6 X):gM [gA many ts] n Q X:=by
 unfold gM lV;simp only[m7,kJ,envOf,ak,bq,ap,bg,Nat.reduceSub,Nat.reduceAdd,aX,bu,bj,aQ];rw[true_and,fD,uL,mx,dG,d7];simp only[af,ag];rw[dG,gi,dO,dO];exact wQ (told:=[]) m0 m1 ok hl (!4) List.Pairwise.nil (λkvs tr H z=>hA kvs tr H z) hB
theorem k8 {many:Int}{ts:List fK}(m0:1<=many)(m1:many<=9)(oV:∀t∈ts,sL many true t)(hl:ts.length<=11)(hq:Q (.bool true) n):gN [gA many ts] n Q X:=by
 have hsz:ax=16777216:=by decide
 have ok:km many ts:=λt h=>⟨(oV t h).a0,(oV t h).ab,(oV t h).bm⟩;have tok:J1 many ts:=λt h=>by have:=ok t h;omega
 have hg:=HD m0 m1 oV (!1);have K3:=EC (ts:=ts) (told:=[]) hl
 have eX:(gY (jR ts [])).length<4000:=by
  rw[(ix _).length_eq];unfold jR;rw[aj];have h1:=bG (λr=>decide (eG (eD ts (jz ts.length r))=[])) (List.range (2 ^ ts.length));rw[b9] at h1;have:(2:Nat) ^ ts.length<=2 ^ 11:=cN (!2) hl;omega
 have calm:∀{Q:ad->Int->Prop} {X:XQ} {n:Int},Q (.list ((gY (jR ts [])).map dR)) n->gM [gA many ts] n Q X:=λh =>
  oX m0 (!1) ok (!1) (λkvs tr H _=>h) λkvs tr H z=>by
   by_cases Zf:ts.length<=10
   .have:=OB (tr:=tr) Zf
    omega
   .have:=Bb H ok (!1)
    omega
 unfold gN lX;simp only[m7,kJ,envOf,ak,bq,ap,bg,Nat.reduceSub,Nat.reduceAdd,aX,bu,bj,aQ];with_reducible generalize VE:fD (eJ D' _ _)=t6
 with_reducible generalize Lp:d9 (pA 4 _) _=lb
 rw[true_and,d9,eI,mP,d7];simp only[af,ag];refine⟨hg,?_⟩;simp only[az,aw];rw[d9,eI,mP,dZ,dG,d7];simp only[af,ag];rw[dG,gi,dO,dO];refine qu (told:=[]) tok (!1) hl ?_;refine⟨K3,?_⟩;simp only[az,aw];rw[d9,iY,Le,uC];refine⟨!2,!2,?_⟩;generalize Tx:ad.str (gA many ts).shown=sh;refine gC (λpre post env n'=>n'=n/\∃x3 x4:Option oq,env=[some (.s (gA many ts)),some (.s sh),some (.s (.str (ad.list ((gY (jR ts [])).map dR)).shown)),x3,x4]) _ [] _ _ ?_ ⟨rfl,none,none,rfl⟩ ?_
 .rintro pre d post env n' E' hE ⟨rfl,x3,x4,rfl⟩ wL
  rw[iE];simp only[az,aw];subst Lp;rw[d9,pA,mx,dG,d7];simp only[af,ag];rw[dO];refine calm ?_;simp only[az,aw];have i1:NQ "list" (.list ((gY (jR ts [])).map dR))=true:=rfl;rw[d9,iT,UL,rT,fi,NR,dH];simp only[af,ag];rw[i1,fb,c8,if_neg (!2),fi,eJ,mP,dH];simp only[af,ag];refine⟨K3,?_⟩;rw[dH];simp only[af,ag];rw[EA,dI,fb,if_neg (!2),gu];dsimp only;rw[d9,CC];simp only[af,ag,az,aw];rw[lj];simp only[af,ag];rw[dG,uC,dO,nc (by rw[List.length_reverse,aj];omega),dI];exact wL _ _ ⟨rfl,_,_,rfl⟩
 .rintro pre env n' ⟨rfl,x3,x4,rfl⟩
  show t6 _ _ _;subst VE;rw[fD,eJ,mP,d7];simp only[af,ag];refine⟨hg,?_⟩;rw[dH];simp only[af,ag];rw[<- Tx,EB,dI];exact hq
theorem y8 {many:Int}{ts:List fK}(m0:1<=many)(m1:many<60)(ok:km many ts)(hl:ts.length<=28){a b:Int}(hp:∀t∈ts,t.1=a/\t.2.1=b)(hm:12<=ts.length)(hq:Q (.str "sets") n):kP [gA many ts] n Q X:=by
 have h1:("TooMany" : Str)∈Ej:=by decide +kernel
 have f1:("word" : Str)∈FL "TooMany" := by decide +kernel
 have f0:FL "TooMany" = (["word"]:List Str):=by decide +kernel
 have l1:((FL "TooMany").zip [ad.str "sets"]).lookup ("word" : Str)=some (.str "sets"):=by rw[f0];rfl
 have i4:decide (("TooMany" : Str) = "TooMany" \/ ("TooMany" : Str) = "JoinError")=true:=by decide +kernel
 have i6:((["NoLine", "NoPaper", "NoText", "NoTie", "NoTurns", "NoWalk"]:List Str).any λh=>decide (h = "TooMany" \/ h = "JoinError"))=false:=by decide +kernel
 unfold kP nu;simp only[m7,kJ,envOf,ak,bq,ap,bg,Nat.reduceSub,Nat.reduceAdd,aX,bu,bj,aQ];with_reducible generalize CZ:fD (d7 1)=tr
 with_reducible generalize Zg:d9 (eI 3 _) _=su
 simp only[true_and,d9,eI,uC,GQ,dG,d7,dO,az,aw,af,ag];refine oX m0 m1 ok hl (λkvs tr H z=>?_) λkvs tr H z=>?_
 .have:=Kf H hp hm
  omega
 .show _/\_
  refine⟨⟨h1,.inr trivial⟩,?_⟩;rw[<- Zg,d9];simp only[eI,Cw,iT,pq,rT,fi,JB,Cv,d7,JC,h1,f1,i4,i6,l1,dI,fb,true_and,and_self,if_true,Bool.not_false,az,aw,af,ag];rw[<- CZ];exact hq
end
theorem vq {WU:UX}{a b:Int}{Q:List ad->Int->Prop}{env:fh}(hu:∀(x:Option oq) (n:Int) (Q:ad->Int->Prop),n+3<=jo->(∀(p n':Int),p.natAbs<=99->n<=n'->n'<=n+3->Q (eU (a,b,p)) n')->WU (x::env) n Q):∀(xs:List Int) (acc:List fK) (n:Int) (x0:Option oq),n+3 * xs.length<=jo->(∀t∈acc,t.1=a/\t.2.1=b/\t.2.2.natAbs<=99) ->
  (∀(ts:List fK) (n':Int),(∀t∈ts,t.1=a/\t.2.1=b/\t.2.2.natAbs<=99)->ts.length=acc.length+xs.length->n<=n'->n'<=n+3 * xs.length->Q (ts.map eU) n') ->
  fH (iE 0) pB WU Q (xs.map .int) (acc.map eU) (x0::env) n
 | [],acc,n,x0,_,ha,h=>h acc n ha (!4) (!1) (!4)
 | k::xs,acc,n,x0,hn,ha,h=>by
  rw[ap] at hn h;rw[ak,fH,iE];simp only[aw];rw[pB,if_pos rfl];refine hu _ _ _ (!1) λp n1 hp h1 h2=>?_;have e:acc.map eU++[eU (a,b,p)]=(acc++[(a,b,p)]).map eU:=by rw[a9];rfl
  rw[e];refine vq hu xs (acc++[(a,b,p)]) n1 _ (!1) (λt ht=>?_) λts n' ht hl h3 h4=>h ts n' ht (by rw[hl];simp;omega) (!1) (!1);rcases aB.mp ht with ht | ht
  .exact ha t ht
  .rw[av.mp ht]
   exact⟨rfl,rfl,hp⟩
section
variable {n:Int}{X:XQ}{Q:ad->Int->Prop}
theorem qh {many c:Int}(m2:2<=many)(m9:many<=9)(c0:0<=c)(c1:c<=20)(hn:n+100<=jo)(h:∀(a b:Int) (ts:List fK) (n':Int),0<=a->a<b->b<many->(∀t∈ts,t.1=a/\t.2.1=b/\t.2.2.natAbs<=99)->(ts.length:Int)=c->n<=n'->n'<=n+100->Q (gA many ts) n'):jr [.int many,.int c] n Q X:=by
 have Hm:jo=1099511627776:=by decide
 unfold jr nv;simp only[m7,kJ,envOf,ak,bq,ap,bg,Nat.reduceSub,Nat.reduceAdd,aX,bu,bj,aQ];with_reducible generalize CZ:fD (gi _)=tr
 rw[true_and,d9,eI,dZ,dG,eJ,dH];simp only[af,ag];rw[uC,qg,dI,dO];refine fA (!1) (!1) (!1) λa a0 a1=>?_;simp only[az,aw];rw[d9,eI,eJ,eJ,dH];simp only[af,ag];rw[uC,ki,dI,dZ,dG,eJ,eJ,dH];simp only[af,ag];rw[uC,qg,dI,dH];simp only[af,ag];rw[qg,dI,dO];refine fA (!1) (!1) (!1) λb b0 b1=>?_;rw[ki,dI];simp only[az,aw];subst CZ;rw[fD,gi,dG,d7];simp only[af,ag];rw[dG,nP,dG,uL,gK,OV,d7];simp only[af,ag];refine⟨⟨!1,!1⟩,?_⟩;rw[oI];simp only[p8,ak,bq,af,ag,Option.join_none,Option.join_some];refine vq (a:=a) (b:=a+1+b) (λx n Q hn h=>?_) (gz 0 c.toNat) [] _ _ (by rw[fw];omega) (!4) λts n1 oV hl h1 h2=>?_
 .rw[gi,dG,d7]
  simp only[af,ag];rw[dG,d7];simp only[af,ag];rw[dG,dZ,dG,uC,dO];refine g9 hn λp n' hp _ h1 h2=>?_;rw[dO];exact h p n' hp h1 h2
 .rw[fw] at h2 hl
  rw[bg] at hl;rw[dO];simp only[gx,dI];rw[dO];exact h a (a+1+b) ts n1 a0 (!1) (!1) oV (!1) (!1) (!1)
theorem sY (hn:n+100<=jo)(h:∀(ts:List fK) (n':Int),(∀t∈ts,sL 4 true t)->ts.length=11->n<=n'->n'<=n+100->Q (gA 4 ts) n'):iC [.int 11] n Q X:=by
 have Hm:jo=1099511627776:=by decide
 have hsz:ax=16777216:=by decide
 unfold iC jO;simp only[m7,kJ,envOf,ak,bq,ap,bg,Nat.reduceSub,Nat.reduceAdd,aX,bu,bj,aQ];with_reducible generalize CZ:fD (gi _)=tr
 with_reducible generalize Lp:d9 (eI 3 _) _=lb
 rw[true_and,d9,pA];simp only[dG,gi,uC,dO,az,aw];rw[d9];unfold rZ;refine⟨λm env n'=>∃(ts:List fK) (x3:Option oq),env=[none,some (.s (.int 11)),some (.o (ts.map eU)),x3]/\(∀t∈ts,sL 4 true t)/\ts.length+m=11/\n<=n'/\n' + 6 * m<=n+48,⟨8,[(0,1,1),(1,2,1),(2,3,1)],none,rfl,λt ht=>?_,rfl,!1,!1⟩,?_⟩
 .simp only[au,bB,or_false] at ht
  rcases ht with rfl | rfl | rfl<;>exact⟨!2,!2,!2,!2,λz=>by cases z⟩
 .rintro m env n' ⟨ts,x3,rfl,oV,hl,h0,h1⟩
  rw[fi,eJ,nP,dG,dH];simp only[af,ag];rw[dO];simp only[j8,dI,aj];rw[dH];simp only[af,ag,OP,dI,fb];by_cases ig:((ts.length:Nat):Int)<11
  .rw[if_pos (decide_eq_true ig)]
   subst Lp;rw[d9,eI,dZ,dG,uC,dO];refine fA (!2) (!2) (!1) λa a0 a1=>?_;simp only[az,aw];rw[lj];simp only[af,ag];rw[dG,dZ,dG,eJ,nP,dG,dH];simp only[af,ag];rw[dO];simp only[j8,dI,aj];rw[uC,ki,dI,dO];refine fA (!1) (!1) (!1) λg g0 g1=>?_;rw[dG,gi,dG,d7];simp only[af,ag];rw[dG,eJ,eJ,dH];simp only[af,ag];rw[uC,ki,dI,dZ,dG,eJ,uC,dH];simp only[af,ag];rw[qg,dI,dO];refine fA (!1) (!1) (!1) λb b0 b1=>?_;rw[ki,dI,dG,dZ,dG,uC,dO];refine g9 (!1) λp n2 hp hs h2 h3=>?_;rw[dO,dO]
   have Hn:iZ (ts.map eU) [.int g,eU (a,a+1+b,p)]=some ((ts.take g.toNat++(a,a+1+b,p)::ts.drop g.toNat).map eU):=by
    simp only[iZ];rw[if_pos ⟨by rw[aj,hsz];omega,g0,!1⟩,a9,ak,List.map_take,List.map_drop]
   rw[show ad.tuple [.int a,.int (a+1+b),.int p]=eU (a,a+1+b,p) from rfl,Hn,dI];refine⟨m - 1,!1,_,_,rfl,λt ht=>?_,?_,!1,!1⟩
   .rcases aB.mp ht with ht | ht
    .exact oV t (List.mem_of_mem_take ht)
    .rcases au.mp ht with rfl | ht
     .exact⟨a0,by show a<a+1+b;omega,by show a+1+b<4;omega,hp,λz=>by cases z⟩
     .exact oV t (List.mem_of_mem_drop ht)
   .simp only[aG,ap,bO,cO]
    omega
  .rw[if_neg (by rw[decide_eq_true_eq];exact ig)]
   show tr _ _ _;subst CZ;rw[fD,gi,dG,uC,dG,nP,dG,dH];simp only[af,ag];rw[dO];simp only[gx,dI];rw[dO];exact h ts n' oV (!1) (!1) (!1)
theorem HE:yE { nx:=λ_ _=>False,rt:=λd _=>d=.bool true } (List.replicate 4 none) 0:=by
 have Hm:jo=1099511627776:=by decide
 unfold yE;simp only[m7,kJ,envOf,ak,bq,ap,bg,Nat.reduceSub,Nat.reduceAdd,aX,bu,bj,aQ];with_reducible generalize Zh:d9 (eI 3 _) _=t2
 rw[d9,iY,Le,uC];refine⟨!2,!2,?_⟩;refine gC (λpre post env n'=>(0<=n'/\n'<=400 * pre.length/\pre.length+post.length=4)/\∃x2:Option oq,env=[none,none,x2,none]) _ [] _ _ ?_ ⟨⟨!1,!4,rfl⟩,none,rfl⟩ ?_
 .rintro pre d post env n' E' hE ⟨⟨Uu,WL,hp⟩,x2,rfl⟩ wL
  rw[ap] at hp;rw[iE];simp only[az,aw];rw[iT,rT,fi,dZ,dG,dZ,dG,uC,dG,uC,dG,uC,dO];refine A4 (!2) (!2) (!2) (!2) (!1) λmany ts n1 w m1 tl h1 h2=>?_;rw[dO];refine k8 w.m0 (!1) w.RR (!1) ?_;rw[fb,c8,if_neg (!2),gu];exact wL _ _ ⟨⟨!1,by rw[aG,bo];omega,by rw[aG,bo];omega⟩,_,rfl⟩
 .rintro pre env n0 ⟨⟨Uu,WL,hp⟩,x2,rfl⟩
  rw[bg] at hp;show t2 _ _ _;subst Zh;with_reducible generalize RT:v8 _ (fD _)=t4
  rw[d9,eI,dZ,dG,uC,dO];refine fA (!2) (!2) (!1) λr r0 r1=>?_;simp only[az,aw];refine⟨λenv n'=>(0<=n'/\n'<=2000)/\env=[none,none,x2,some (.s (.int r))],?_,?_⟩
  .rw[iT,pq,fi,eJ,dH]
   simp only[af,ag];rw[uC,i7,dI,fb];by_cases hr:r=0
   .rw[if_pos (decide_eq_true hr),rT,fi,dZ,dG,dZ,dG,uC,dG,uC,dO]
    refine qh (!2) (!2) (!2) (!2) (!1) λa b ts n1 a0 ab b1 oV hl h1 h2=>?_;rw[dO];refine k8 (!2) (!2) (λt ht=>?_) (!1) ?_
    .have:=oV t ht
     exact⟨!1,!1,!1,this.2.2,λz=>by cases z⟩
    .rw[fb,c8,if_neg (!2),gu]
     exact⟨⟨!1,!1⟩,rfl⟩
   .rw[if_neg (by rw[decide_eq_true_eq];exact hr),if_neg (!2),gu]
    exact⟨⟨!1,!1⟩,rfl⟩
  .rintro env n1 ⟨⟨TJ,YL⟩,rfl⟩
   subst RT;refine⟨λenv n'=>(0<=n'/\n'<=3000)/\env=[none,none,x2,some (.s (.int r))],?_,?_⟩
   .rw[iT,pq,fi,eJ,dH]
    simp only[af,ag];rw[uC,i7,dI,fb];by_cases hr:r=1
    .rw[if_pos (decide_eq_true hr),rT,fi,dZ,dG,dZ,dG,uC,dO]
     refine sY (!1) λts n2 oV hl h1 h2=>?_;rw[dO];refine k8 (!2) (!2) oV (!1) ?_;rw[fb,c8,if_neg (!2),gu];exact⟨⟨!1,!1⟩,rfl⟩
    .rw[if_neg (by rw[decide_eq_true_eq];exact hr),if_neg (!2),gu]
     exact⟨⟨!1,!1⟩,rfl⟩
   .rintro env n2 ⟨⟨YM,WM⟩,rfl⟩
    have es:uT (.str "sets") (.str "sets")=some (.bool true):=by
     have h1:(ad.str "sets").canLay0=true:=by decide +kernel
     have h2:ad.eqv (.str "sets") (.str "sets")=true:=by decide +kernel
     rw[Ap h1 h1 (by simp[ad.depth]),h2]
    rw[fD,eJ,dZ,dG,dZ,dG,eJ,uC,dZ,dG,uC,dO];refine fA (!2) (!2) (!1) λm m0 m1=>?_;rw[ki,dI,dG,eJ,uC,dZ,dG,uC,dO];refine fA (!2) (!2) (!1) λc c0 c1=>?_;rw[ki,dI,dO];refine qh (!1) (!1) (!1) (!1) (!1) λa b ts n3 a0 ab b1 oV hl h1 h2=>?_;rw[dO];refine y8 (!1) (!1) (λt ht=>by have:=oV t ht;omega) (!1) (λt ht=>⟨(oV t ht).1,(oV t ht).2.1⟩) (!1) ?_;rw[uC,es,dI]
end
theorem all_mk {l:W.OpenLaw}{w:World}{K:W.Frag}{h:Heap}{mg:Str->Option ae}{fa:Addr}{VF:Addr}{VG R0:Option Addr}{VH:Array (Option ae)}{VI R1 R3 R4 OC R5:ae}{nN:Tok}{eW:Addr}{wR:ClassData}{jg:Addr}{Bc:ClassData}{kn:Addr}{ED:ClassData}{ko:Addr}{EE:ClassData}{jh:Addr}{Bd:ClassData}{mD:Addr}{HF:ClassData}{d8:Addr}{Be:ClassData}{ku:Addr}{EF:ClassData}{Zi Zj:ae}{Zk Zl:Option Addr}{WV:ClassData}{Zm VJ:Array (Option ae)}{jN:Addr}{VL:Array DictEntry}{jn:Nat}{Bf Bg:Str}{EG jw:Addr}{Bh y9:List ae}{Bi Bj:Bool}{Bk:List Str}{y':Option Bool}{Bl Bm Bn:Option Addr}{Bo Bp Bq Br Bs:Option ae}{Bt Bu Bv Bw sZ Bx:ae}{By:Array (Option ae)}(X:K.In h)(G:h.Ns aR mg)(OW:mg "law" = some (.ref fa))
  (a36:W.nsIn K aR "law" = some (some (.ref VF)))
  (l36:K.lookup VF=some ⟨VI,VG,.func (W.fnOf "law" "law" (iX (top 36)) (fy (top 36)) (dJ (top 36)) .none R1 R3 R4 R0 OC R5),VH⟩)
  (c36:W.codeIn K OC "law" = true)
  (k36:W.keepIn K (.ref VF)=true)
  (AF0:GN K top [("odd_ones",10),("by_turns",12),("odds_of",13),("parts_of",14),("places_of",15),("other_end",17),("ways_home",20),("base_rings",21),("all_from",22),("all_evens",23),("all_joins",24),("_law_feed",26),("_law_draw",27),("_law_price",28),("_law_web",29),("_law_odds",30),("_law_all_sets",31),("_law_right",32),("_law_word",33),("_law_many",34),("_law_between",35)])
  (g_MOST_BASE_RINGS:W.nsIn K aR "MOST_BASE_RINGS" = some (some (.int 10 nN)))
  (z_ValueError:W.nsIn K aR "ValueError" = some none)
  (z_enumerate:W.nsIn K aR "enumerate" = some none)
  (z_int:W.nsIn K aR "int" = some none)
  (z_isinstance:W.nsIn K aR "isinstance" = some none)
  (z_len:W.nsIn K aR "len" = some none)
  (z_list:W.nsIn K aR "list" = some none)
  (z_max:W.nsIn K aR "max" = some none)
  (z_min:W.nsIn K aR "min" = some none)
  (z_range:W.nsIn K aR "range" = some none)
  (z_repr:W.nsIn K aR "repr" = some none)
  (z_set:W.nsIn K aR "set" = some none)
  (z_sorted:W.nsIn K aR "sorted" = some none)
  (z_tuple:W.nsIn K aR "tuple" = some none)
  (na_JoinError:W.nsIn K aR "JoinError" = some (some (.ref eW)))
  (ty_JoinError:W.typeIn K (.ref eW)=some (.type "type"))
  (cl_JoinError:W.clsIn K eW=some wR)
  (na_NoPaper:W.nsIn K aR "NoPaper" = some (some (.ref jg)))
  (ty_NoPaper:W.typeIn K (.ref jg)=some (.type "type"))
  (cl_NoPaper:W.clsIn K jg=some Bc)
  (na_NoWalk:W.nsIn K aR "NoWalk" = some (some (.ref kn)))
  (ty_NoWalk:W.typeIn K (.ref kn)=some (.type "type"))
  (cl_NoWalk:W.clsIn K kn=some ED)
  (na_NoText:W.nsIn K aR "NoText" = some (some (.ref ko)))
  (ty_NoText:W.typeIn K (.ref ko)=some (.type "type"))
  (cl_NoText:W.clsIn K ko=some EE)
  (na_NoTurns:W.nsIn K aR "NoTurns" = some (some (.ref jh)))
  (ty_NoTurns:W.typeIn K (.ref jh)=some (.type "type"))
  (cl_NoTurns:W.clsIn K jh=some Bd)
  (na_NoTie:W.nsIn K aR "NoTie" = some (some (.ref mD)))
  (ty_NoTie:W.typeIn K (.ref mD)=some (.type "type"))
  (cl_NoTie:W.clsIn K mD=some HF)
  (na_TooMany:W.nsIn K aR "TooMany" = some (some (.ref d8)))
  (ty_TooMany:W.typeIn K (.ref d8)=some (.type "type"))
  (cl_TooMany:W.clsIn K d8=some Be)
  (na_NoLine:W.nsIn K aR "NoLine" = some (some (.ref ku)))
  (ty_NoLine:W.typeIn K (.ref ku)=some (.type "type"))
  (cl_NoLine:W.clsIn K ku=some EF)
  (lJ:K.lookup eW=some ⟨Zi,Zk,.cls WV,Zm⟩)
  (nJ:WV.ns=jN)
  (lN:K.lookup jN=some ⟨Zj,Zl,.dict VL jn,VJ⟩)
  (sJ:xR VL=true)
  (iJ:nsFind VL "__init__" = none)
  (xJ:W.mroIn K eW (.type "BaseException")=some true)
  (o_TooMany:K.lookup d8=some (PySem.excClassObj Bf Bg d8 EG Bh (.ref eW::L2.pZ) Bi Bk y9 Bj y' Bl Bo Bp Bq Br Bs "ValueError.__new__"))
  (fiTooMany:W.findIn K (.ref d8) "__init__" = some (some (.ref jw)))
  (fnTooMany:W.isFn K (.ref jw)=true)
  (kpTooMany:W.keepIn K (.ref d8)=true)
  (gaTooMany:W.findIn K (.ref d8) "__getattribute__" = some (some (.builtin "BaseException.__getattribute__")))
  (ghTooMany:W.findIn K (.ref d8) "__getattr__" = some none)
  (saTooMany:W.findIn K (.ref d8) "__setattr__" = some (some (.builtin "object.__setattr__")))
  (hdTooMany:W.hasDictIn K d8=true)
  (bxTooMany:W.mroIn K d8 (.type "BaseException")=some true)
  (obTooMany:W.mroIn K d8 (.type "object")=some true)
  (hcTooMany:W.findIn K (.ref d8) "__class__" = some (some (.builtin "object.__class__")))
  (hgTooMany:W.specialIn K (.builtin "object.__class__") "__get__" = some (some (.builtin "getset_descriptor.__get__")))
  (tkTooMany:W.takesIn K (.builtin "object.__class__")=some true)
  (owTooMany:W.mroIn K d8 (.ref d8)=some true)
  (veTooMany:W.mroIn K d8 (.type "ValueError")=some true)
  (upTooMany:W.mroIn K d8 (.ref eW)=some true)
  (no_TooMany_NoPaper:W.mroIn K d8 (.ref jg)=some false)
  (no_TooMany_NoWalk:W.mroIn K d8 (.ref kn)=some false)
  (no_TooMany_NoText:W.mroIn K d8 (.ref ko)=some false)
  (no_TooMany_NoTurns:W.mroIn K d8 (.ref jh)=some false)
  (no_TooMany_NoTie:W.mroIn K d8 (.ref mD)=some false)
  (no_TooMany_NoLine:W.mroIn K d8 (.ref ku)=some false)
  (lITooMany:K.lookup jw=some ⟨Bt,Bm,.func (W.fnOf "__init__" "TooMany.__init__" (iX (uR (top 7) 0)) (fy (uR (top 7) 0)) (dJ (uR (top 7) 0)) .none Bu Bv Bw Bn sZ Bx),By⟩)
  (cITooMany:W.codeIn K sZ "TooMany.__init__" = true)
  (kITooMany:W.keepIn K (.ref jw)=true)
  (fd_TooMany_word:W.findIn K (.ref d8) "word" = some none) :
  ∃fd:bF,(∀(s:aq) (v:ae),BindsTo s fd ⟨[v],[]⟩ [("_law_script",v)])/\∀base:Heap,K.In base->base.Ns aR mg->iP l.prog w K mg base rq 20 fa fd ["_law_script"] (yk K):=by
 have e:=OW.symm.trans (W.mg_of X G a36);cases e;have Zn:=zD (st:=top 36) l36 c36 k36;obtain⟨Zo,Zp,Zq,Zr,Zs,Zt,Zu,Zv,Zw,Zx,Zy,Zz,ZA,ZC,ZD,ZE,ZF,ZG,ZH,ZI,ZJ,_⟩:=AF0;refine⟨W.fnOf "law" "law" (iX (top 36)) (fy (top 36)) (dJ (top 36)) .none R1 R3 R4 R0 OC R5,λs v=>.of_eq rfl,λbase _ _=>?_⟩;have mj:=lK X G na_JoinError ty_JoinError cl_JoinError;have vt:=lK X G na_NoPaper ty_NoPaper cl_NoPaper;have za:=lK X G na_NoWalk ty_NoWalk cl_NoWalk;have zc:=lK X G na_NoText ty_NoText cl_NoText;have vw:=lK X G na_NoTurns ty_NoTurns cl_NoTurns;have C7:=lK X G na_NoTie ty_NoTie cl_NoTie;have mE:=lK X G na_TooMany ty_TooMany cl_TooMany;have zd:=lK X G na_NoLine ty_NoLine cl_NoLine;subst nJ;have ZK:Nq K eW:=⟨_,_,_,_,_,_,_,_,_,lJ,lN,z9 sJ,iJ⟩;have fg:tO K d8 eW:=⟨⟨⟨gaTooMany,ghTooMany,saTooMany,hdTooMany,bxTooMany,obTooMany⟩,hcTooMany,hgTooMany,tkTooMany⟩,owTooMany,veTooMany,upTooMany,xJ⟩;have Bz:RF K d8 eW jw:=⟨⟨_,_,_,_,_,_,_,_,_,_,_,_,_,_,_,o_TooMany⟩,fiTooMany,fnTooMany,kpTooMany,fg⟩;have BA:=zD (st:=uR (top 7) 0) lITooMany cITooMany kITooMany;let cl:Str->Addr:=λc=>(([("JoinError",eW),("NoPaper",jg),("NoWalk",kn),("NoText",ko),("NoTurns",jh),("NoTie",mD),("TooMany",d8),("NoLine",ku)]:List (Str × Addr)).lookup c).getD 0;have LB:cl "JoinError" = eW:=rfl;have O2:cl "NoPaper" = jg:=rfl;have R6:cl "NoWalk" = kn:=rfl;have R7:cl "NoText" = ko:=rfl;have O3:cl "NoTurns" = jh:=rfl;have S7:cl "NoTie" = mD:=rfl;have O4:cl "TooMany" = d8:=rfl;have R8:cl "NoLine" = ku:=rfl
 have xf:XF K mg (XC cl) Ej JX:=by
  refine⟨λc hc=>?_,λc hc h hh=>?_,λc hc h hh=>?_,λc hc=>?_,λc hc=>?_,λc hc f hf=>?_⟩
  .have hq:=hc
   simp only[JX,au,bB,or_false] at hq;rcases hq with rfl | rfl | rfl | rfl | rfl | rfl | rfl | rfl
   .exact mj.nm
   .exact vt.nm
   .exact za.nm
   .exact zc.nm
   .exact vw.nm
   .exact C7.nm
   .exact mE.nm
   .exact zd.nm
  .have hq:=hc
   simp only[Ej,au,bB,or_false] at hq;subst hq;rcases hh with rfl | rfl
   .exact fg.U8 mE bxTooMany
   .exact fg.UE mj
  .have hq:=hc
   simp only[Ej,au,bB,or_false] at hq;subst hq;have hq:=hh;simp only[JX,au,bB,or_false] at hq;rcases hq with rfl | rfl | rfl | rfl | rfl | rfl | rfl | rfl
   .exact fg.one mj fg.up
   .exact fg.one vt no_TooMany_NoPaper
   .exact fg.one za no_TooMany_NoWalk
   .exact fg.one zc no_TooMany_NoText
   .exact fg.one vw no_TooMany_NoTurns
   .exact fg.one C7 no_TooMany_NoTie
   .exact fg.one mE fg.own
   .exact fg.one zd no_TooMany_NoLine
  .have hq:=hc
   simp only[Ej,au,bB,or_false] at hq;subst hq;exact fg.isVal
  .have hq:=hc
   simp only[Ej,au,bB,or_false] at hq;subst hq;exact fg.ci
  .have hq:=hc
   simp only[Ej,au,bB,or_false] at hq;subst hq;have ZL:f∈(["word"]:List Str):=hf;have hq:=ZL;simp only[au,bB,or_false] at hq;subst hq;exact fd_TooMany_word
 have pQ:mn l.prog w K mg base "TooMany" (cl "TooMany") (F' (cl "TooMany") "word"):=Eo BA Bz ZK mE.nm fd_TooMany_word;have g6:∃t,mg "MOST_BASE_RINGS" = some (.int 10 t):=⟨_,W.mg_of X G g_MOST_BASE_RINGS⟩;have B:qM mg:=⟨W.mg_none_of X G z_ValueError,W.mg_none_of X G z_enumerate,W.mg_none_of X G z_int,W.mg_none_of X G z_isinstance,W.mg_none_of X G z_len,W.mg_none_of X G z_list,W.mg_none_of X G z_max,W.mg_none_of X G z_min,W.mg_none_of X G z_range,W.mg_none_of X G z_repr,W.mg_none_of X G z_set,W.mg_none_of X G z_sorted,W.mg_none_of X G z_tuple⟩;obtain⟨_,_,ZM,ZN⟩:=(Zz.m X G).ex;have nI:eL l.prog w K mg base 1 "_law_feed" ["_law_script"] (qH yG K):=Ot ZM ZN B;have nH:nB l.prog w K mg base cl:=AZ (ZE.m X G) B;have jt:js l.prog w K mg base cl:=sH (ZF.m X G) B nH;obtain⟨_,_,ZO,ZP⟩:=(ZA.m X G).ex;have d5:iz l.prog w K mg base yG:=(Ou ZO ZP B).draw.up (!2);have fk:iK l.prog w K mg base yG:=yO (ZC.m X G) B d5;have jQ:jP l.prog w K mg base yG:=tV (ZJ.m X G) B fk d5;have kU:nD l.prog w K mg base yG:=A1 (ZI.m X G) B fk d5;have l7:lZ l.prog w K mg base cl:=yJ (Zt.m X G) B;obtain⟨_,_,ZQ,ZR⟩:=(Zo.m X G).ex;have iA:ny l.prog w K mg base cl:=AV ZQ ZR B;have ff:iy l.prog w K mg base cl:=AW (Zp.m X G) B iA;have l6:lY l.prog w K mg base cl:=yI (Zs.m X G) B;have nF:nz l.prog w K mg base cl:=AX (Zr.m X G) B l6;have l9:l3 l.prog w K mg base cl:=yL (Zu.m X G) B l7 ff nF;have kT:kQ l.prog w K mg base cl:=wJ (Zv.m X G) B ff;have pP:pN l.prog w K mg base cl:=Ep (Zq.m X G) B iA;have nG:nA l.prog w K mg base  := AY (Zw.m X G) B ff;have l8:l4 l.prog w K mg base cl:=yN (Zy.m X G) B g6 l9 kT ff pP nG pQ;have gO:jJ l.prog w K mg base cl:=yM (Zx.m X G) B l8;have iL:l5 l.prog w K mg base cl:=yQ (ZG.m X G) B gO jt;have pR:pO l.prog w K mg base yG:=Er (ZD.m X G) B d5 fk;have nK:nC l.prog w K mg base cl:=A0 (ZH.m X G) B gO xf;exact RQ Zn B nI nK kU d5 iL jQ pR HE
theorem walk {l:W.OpenLaw}{q:aO}{loose:List Str}{XP:(Str->Option ae)->Heap->Prop}{YP:World->Heap->Prop}{d:DefRec}{K:Params->W.Frag}(hn:l.most=some 63)(MP:d.params.defaults=[])
  (hY:∀(w:World) (h:Heap),YP w h->(K w.params).In h)
  (F:∀(w:World) (mg:Str->Option ae) (fa:Addr) (h:Heap),(K w.params).In h->h.Ns aR mg->mg d.name=some (.ref fa) ->
   ∃fd:bF,(∀(s:aq) (u:ae),BindsTo s fd ⟨[u],[]⟩ [("_law_script",u)])/\∀base:Heap,(K w.params).In base->base.Ns aR mg->iP l.prog w (K w.params) mg base rq 20 fa fd ["_law_script"] (yk (K w.params))) :
  W.WalkO q loose XP YP l.row.toRowW d [] (λf vs=>PySem.call f vs) :=
 L2.IL (n:=63) (k:=20) (x := "_law_script") (CX:=λ_=>rq) (sp:=λw=>yk (K w.params)) hn (!2) MP ⟨rfl,!2,!2,rfl⟩ hY F (λ_ _ a ns hl _ hS=>⟨a,ns,rfl,hS,hl,λ_=>rfl⟩) λ_ _ _ _ _ z=>z
end Odj
theorem PySem.W.Fast.tw5532599547162719868:True:=⟨⟩
theorem PySem.W.Fast.tw615947481473306304:True:=⟨⟩
theorem PySem.W.Fast.tw833729759579315248:True:=⟨⟩
theorem PySem.W.Fast.tw10943351813533982828:True:=⟨⟩
theorem PySem.W.Fast.tw7031636886107388477:True:=⟨⟩
theorem PySem.W.Fast.tw7495632348455768165:True:=⟨⟩
theorem PySem.W.Fast.tw4976499476880750159:True:=⟨⟩
theorem PySem.W.Fast.tw10294540580045472455:True:=⟨⟩
theorem PySem.W.Fast.tw2497115044312569655:True:=⟨⟩
theorem PySem.W.Fast.tw13253082289450888985:True:=⟨⟩
theorem PySem.W.Fast.tw1173062511125658524:True:=⟨⟩
theorem PySem.W.Fast.tw1210504787747380957:True:=⟨⟩
theorem PySem.W.Fast.tw11097429162904307120:True:=⟨⟩
theorem PySem.W.Fast.tw14552106383159989305:True:=⟨⟩
theorem PySem.W.Fast.tw15827800066114740983:True:=⟨⟩
theorem PySem.W.Fast.tw9641455911333343976:True:=⟨⟩
theorem PySem.W.Fast.tw5332517747781883648:True:=⟨⟩
theorem PySem.W.Fast.tw11002482021904039791:True:=⟨⟩
theorem PySem.W.Fast.tw9742036592005123767:True:=⟨⟩
theorem PySem.W.Fast.tw2010934296227890940:True:=⟨⟩
theorem PySem.W.Fast.tw18416174686795432726:True:=⟨⟩
theorem PySem.W.Fast.tw663700334136875543:True:=⟨⟩
theorem PySem.W.Fast.tw8979990364987182961:True:=⟨⟩
theorem PySem.W.Fast.tw15200147609241465454:True:=⟨⟩
theorem PySem.W.Fast.tw12934914482525847865:True:=⟨⟩
theorem PySem.W.Fast.tw8743814518400015311:True:=⟨⟩
theorem PySem.W.Fast.tw13031984972656986303:True:=⟨⟩
theorem PySem.W.Fast.tw9795095249295662884:True:=⟨⟩
theorem PySem.W.Fast.tw6554559392955847438:True:=⟨⟩
theorem PySem.W.Fast.tw9696284084925766620:True:=⟨⟩
theorem PySem.W.Fast.tw16580259809328508709:True:=⟨⟩
theorem PySem.W.Fast.tw3872119135966235299:True:=⟨⟩
theorem PySem.W.Fast.tw15123336501876545696:True:=⟨⟩
theorem PySem.W.Fast.tw8925428616563480162:True:=⟨⟩
theorem PySem.W.Fast.tw16883019642609344870:True:=⟨⟩
theorem PySem.W.Fast.tw10385309260331703267:True:=⟨⟩
theorem PySem.W.Fast.tw10251441632996024466:True:=⟨⟩
theorem PySem.W.Fast.tw5987673819902127613:True:=⟨⟩
theorem PySem.W.Fast.tw7136541774057704871:True:=⟨⟩
theorem PySem.W.Fast.tw15847311989428411548:True:=⟨⟩
theorem PySem.W.Fast.tw5419530226892360566:True:=⟨⟩
theorem PySem.W.Fast.tw2016803040554943786:True:=⟨⟩
theorem PySem.W.Fast.tw10060930628211161147:True:=⟨⟩
theorem PySem.W.Fast.tw14998343040812206970:True:=⟨⟩
theorem PySem.W.Fast.tw10227984511116602099:True:=⟨⟩
theorem PySem.W.Fast.tw522878962774383120:True:=⟨⟩
theorem PySem.W.Fast.tw7488466302079925779:True:=⟨⟩
theorem PySem.W.Fast.tw4157766164967104693:True:=⟨⟩
theorem PySem.W.Fast.tw11592917620924552195:True:=⟨⟩
theorem PySem.W.Fast.tw13240296516249787036:True:=⟨⟩
theorem PySem.W.Fast.tw14152692961170255743:True:=⟨⟩
theorem PySem.W.Fast.tw16915958597288886510:True:=⟨⟩
theorem PySem.W.Fast.tw521503049273101494:True:=⟨⟩
theorem PySem.W.Fast.tw6298416487117679524:True:=⟨⟩
theorem PySem.W.Fast.tw5186612924254233584:True:=⟨⟩
theorem PySem.W.Fast.tw9656829884551662694:True:=⟨⟩
theorem PySem.W.Fast.tw13371189617884498350:True:=⟨⟩
theorem PySem.W.Fast.tw479430251916794901:True:=⟨⟩
theorem PySem.W.Fast.tw18202274094032897941:True:=⟨⟩
theorem PySem.W.Fast.tw16271667208091913669:True:=⟨⟩
theorem PySem.W.Fast.tw7688252531642864686:True:=⟨⟩
theorem PySem.W.Fast.tw12390387851471327723:True:=⟨⟩
theorem PySem.W.Fast.tw14733880502871864517:True:=⟨⟩
theorem PySem.W.Fast.tw7759721915226501745:True:=⟨⟩
theorem PySem.W.Fast.tw16941784701170164705:True:=⟨⟩
theorem PySem.W.Fast.tw10035295605370986065:True:=⟨⟩
theorem PySem.W.Fast.tw13766564567310893696:True:=⟨⟩
theorem PySem.W.Fast.tw17922104853450708023:True:=⟨⟩
theorem PySem.W.Fast.tw8504679156574354606:True:=⟨⟩
theorem PySem.W.Fast.tw13615362604411984783:True:=⟨⟩
theorem PySem.W.Fast.tw12104447661718582064:True:=⟨⟩
theorem PySem.W.Fast.tw4230233207866077070:True:=⟨⟩
theorem PySem.W.Fast.tw18377113227251238418:True:=⟨⟩
theorem PySem.W.Fast.tw16036981282975137379:True:=⟨⟩
theorem PySem.W.Fast.tw9341801771891267832:True:=⟨⟩
theorem PySem.W.Fast.tw11371849248897921748:True:=⟨⟩
theorem PySem.W.Fast.tw17022195742109586839:True:=⟨⟩
theorem PySem.W.Fast.tw12934841693877042012:True:=⟨⟩
theorem PySem.W.Fast.tw11629348073028701960:True:=⟨⟩
theorem PySem.W.Fast.tw12683510095434312916:True:=⟨⟩
theorem PySem.W.Fast.tw13032399933995134790:True:=⟨⟩
theorem PySem.W.Fast.tw14298270348851964180:True:=⟨⟩
theorem PySem.W.Fast.tw3388674183143771342:True:=⟨⟩
theorem PySem.W.Fast.tw16053730810309163516:True:=⟨⟩
theorem PySem.W.Fast.tw8706301535900462039:True:=⟨⟩
theorem PySem.W.Fast.tw11401378039858953267:True:=⟨⟩
theorem PySem.W.Fast.tw15777373721758627491:True:=⟨⟩
theorem PySem.W.Fast.tw8427229613358472104:True:=⟨⟩
theorem PySem.W.Fast.tw6293807637839002517:True:=⟨⟩
theorem PySem.W.Fast.tw6171527039971503966:True:=⟨⟩
theorem PySem.W.Fast.tw7785426777181416019:True:=⟨⟩
theorem PySem.W.Fast.tw11409783590619815162:True:=⟨⟩
theorem PySem.W.Fast.tw2540626893074881932:True:=⟨⟩
theorem PySem.W.Fast.tw830996885419988816:True:=⟨⟩
theorem PySem.W.Fast.tw17644139590571705278:True:=⟨⟩
theorem PySem.W.Fast.tw17077337033818261703:True:=⟨⟩
theorem PySem.W.Fast.tw17271806162650194998:True:=⟨⟩
theorem PySem.W.Fast.tw11416239031180506269:True:=⟨⟩
theorem PySem.W.Fast.tw7057250911616119269:True:=⟨⟩
theorem PySem.W.Fast.tw8248163400164719226:True:=⟨⟩
theorem PySem.W.Fast.tw1902731162914321938:True:=⟨⟩
theorem PySem.W.Fast.tw100712135842432662:True:=⟨⟩
theorem PySem.W.Fast.tw7881024270517199886:True:=⟨⟩
theorem PySem.W.Fast.tw4144492043412716779:True:=⟨⟩
theorem PySem.W.Fast.tw16936003632807617438:True:=⟨⟩
theorem PySem.W.Fast.tw5978864871254702883:True:=⟨⟩
theorem PySem.W.Fast.tw2185697739937888103:True:=⟨⟩
theorem PySem.W.Fast.tw3788358541457399853:True:=⟨⟩
theorem PySem.W.Fast.tw2498336258999228517:True:=⟨⟩
theorem PySem.W.Fast.tw3856839550725644103:True:=⟨⟩
theorem PySem.W.Fast.tw36007556021937600:True:=⟨⟩
theorem PySem.W.Fast.tw2253753437790064767:True:=⟨⟩
theorem PySem.W.Fast.tw3472691375465538170:True:=⟨⟩
theorem PySem.W.Fast.tw5791262511279026266:True:=⟨⟩
theorem PySem.W.Fast.tw8970975122997901210:True:=⟨⟩
theorem PySem.W.Fast.tw13620845458791664187:True:=⟨⟩
theorem PySem.W.Fast.tw16453880037302038518:True:=⟨⟩
theorem PySem.W.Fast.tw10143084526584365535:True:=⟨⟩
theorem PySem.W.Fast.tw3563842907617939940:True:=⟨⟩
theorem PySem.W.Fast.tw987398333160263267:True:=⟨⟩
theorem PySem.W.Fast.tw9278774288424263945:True:=⟨⟩
theorem PySem.W.Fast.tw5003511576478035696:True:=⟨⟩
theorem PySem.W.Fast.tw17489309803010137870:True:=⟨⟩
theorem PySem.W.Fast.tw8999679446511657216:True:=⟨⟩
open PySem PySem.W PyProof.Rows
set_option maxRecDepth 100000 in
set_option maxHeartbeats 0 in
theorem PySem.Challenge.cw_oddjoins_k10_all_even_sets_holds : PySem.Challenge.rw_oddjoins_k10_all_even_sets.Holds := by
 w_on; o_law; k_head; (case hw=>w_witness2)
 k_fill
 refine Odj.walk (l:=PySem.Challenge.rw_oddjoins_k10_all_even_sets) rfl rfl (fun w h Y=>W.kIn_of Y) ?F
 case F =>
  intro w mg fa h KX G P7
  refine' Odj.all_mk KX G P7 ?a36 ?l36 ?c36 ?k36 ?AF0 ?g_MOST_BASE_RINGS ?z_ValueError ?z_enumerate ?z_int ?z_isinstance ?z_len ?z_list ?z_max ?z_min ?z_range ?z_repr ?z_set ?z_sorted ?z_tuple ?na_JoinError ?ty_JoinError ?cl_JoinError ?na_NoPaper ?ty_NoPaper ?cl_NoPaper ?na_NoWalk ?ty_NoWalk ?cl_NoWalk ?na_NoText ?ty_NoText ?cl_NoText ?na_NoTurns ?ty_NoTurns ?cl_NoTurns ?na_NoTie ?ty_NoTie ?cl_NoTie ?na_TooMany ?ty_TooMany ?cl_TooMany ?na_NoLine ?ty_NoLine ?cl_NoLine ?lJ ?nJ ?lN ?sJ ?iJ ?xJ ?o_TooMany ?fiTooMany ?fnTooMany ?kpTooMany ?gaTooMany ?ghTooMany ?saTooMany ?hdTooMany ?bxTooMany ?obTooMany ?hcTooMany ?hgTooMany ?tkTooMany ?owTooMany ?veTooMany ?upTooMany ?no_TooMany_NoPaper ?no_TooMany_NoWalk ?no_TooMany_NoText ?no_TooMany_NoTurns ?no_TooMany_NoTie ?no_TooMany_NoLine ?lITooMany ?cITooMany ?kITooMany ?fd_TooMany_word
  (case a36=>k_is); (case l36=>k_is); (case c36=>k_is); (case k36=>k_is)
  (case AF0=>repeat' first | exact L2.GO | (refine L2.N1 ?_ ?_) | (apply L2.N0.of <;> k_is)); (case g_MOST_BASE_RINGS=>k_is); (case z_ValueError=>k_is); (case z_enumerate=>k_is)
  (case z_int=>k_is); (case z_isinstance=>k_is); (case z_len=>k_is); (case z_list=>k_is)
  (case z_max=>k_is); (case z_min=>k_is); (case z_range=>k_is); (case z_repr=>k_is)
  (case z_set=>k_is); (case z_sorted=>k_is); (case z_tuple=>k_is); (case na_JoinError=>k_is)
  (case ty_JoinError=>k_is); (case cl_JoinError=>k_is); (case na_NoPaper=>k_is); (case ty_NoPaper=>k_is)
  (case cl_NoPaper=>k_is); (case na_NoWalk=>k_is); (case ty_NoWalk=>k_is); (case cl_NoWalk=>k_is)
  (case na_NoText=>k_is); (case ty_NoText=>k_is); (case cl_NoText=>k_is); (case na_NoTurns=>k_is)
  (case ty_NoTurns=>k_is); (case cl_NoTurns=>k_is); (case na_NoTie=>k_is); (case ty_NoTie=>k_is)
  (case cl_NoTie=>k_is); (case na_TooMany=>k_is); (case ty_TooMany=>k_is); (case cl_TooMany=>k_is)
  (case na_NoLine=>k_is); (case ty_NoLine=>k_is); (case cl_NoLine=>k_is); (case lJ=>k_is)
  (case nJ=>rfl); (case lN=>k_is); (case sJ=>rfl); (case iJ=>rfl)
  (case xJ=>k_is); (case o_TooMany=>k_is); (case fiTooMany=>k_is); (case fnTooMany=>k_is)
  (case kpTooMany=>k_is); (case gaTooMany=>k_is); (case ghTooMany=>k_is); (case saTooMany=>k_is)
  (case hdTooMany=>k_is); (case bxTooMany=>k_is); (case obTooMany=>k_is); (case hcTooMany=>k_is)
  (case hgTooMany=>k_is); (case tkTooMany=>k_is); (case owTooMany=>k_is); (case veTooMany=>k_is)
  (case upTooMany=>k_is); (case no_TooMany_NoPaper=>k_is); (case no_TooMany_NoWalk=>k_is); (case no_TooMany_NoText=>k_is)
  (case no_TooMany_NoTurns=>k_is); (case no_TooMany_NoTie=>k_is); (case no_TooMany_NoLine=>k_is); (case lITooMany=>k_is)
  (case cITooMany=>k_is); (case kITooMany=>k_is); (case fd_TooMany_word=>k_is)
