import PyProof.Rows.All
import Wide.All
import OpenK.AllK
import Wide.FinOn
import Lean
import PyProof.EqAt
import PyProof.EqKinds
import PyProof.TupleCall
import KE.KTryMore
import KE.KRevIter
import PyProof.CollectIter
import PyProof.P3Eq
import PyProof.MinMaxWalk
import PyProof.StrCalls2
import PyProof.FactsAll.set_2
import KE.KSortTup
import PyProof.Rows.CallKwBuiltin
import PyProof.P3Statements
import PySem.Challenge.RW_oddjoins_k11_all_joins
set_option compiler.extract_closed false
set_option Elab.async false
set_option linter.all false
set_option maxRecDepth 100000
set_option maxHeartbeats 8000000
open PySem renaming wpAny_bind→aa, PyData→ad, Value→ag, wpAny_pure→ai, Shared→aq, sizeLine→ax, wpAny→az, NameKind→aM, Program→aP, mainGlobals→aR, wpAny_newObj_type→be, wpAny_mono→bF, FuncData→bG
open List renaming getElem?_cons_zero→ae, getElem?_cons_succ→af, map_cons→aj, length_map→ak, mem_cons_of_mem→ao, length_cons→ap, mem_cons_self→ar, mem_cons→au, set_cons_zero→av, mem_singleton→aw, set_cons_succ→ay, mem_append→aB, getElem?_map→aC, size_toArray→aD, getD_eq_getElem?_getD→aE, append_assoc→aG, length_append→aI, mem_append_right→aJ, getElem?_set_ne→aK, nil_append→aO, getElem?_eq_getElem→aV, mem_filter→aW, getElem?_eq_some_iff→aX, replicate_succ→aZ, mem_map→a5, mem_append_left→a6, length_set→a7, map_append→a8, append_nil→bg, length_nil→bh, count_append→bj, cons_append→bn, map_nil→bo, length_singleton→bp, getElem?_eq_none→bq, map_map→bu, length_filter_le→bw, replicate_zero→bA, drop_eq_getElem_cons→bB, take_of_length_le→bC, getElem?_append_right→bJ, not_mem_nil→bK, getElem?_append_left→bM, nodup_cons→bN, mem_of_getElem?→bO, find?_cons→bP, length_take→bQ, length_range→bS, lookup_cons→bU, getElem_mem→bV, perm_ext_iff_of_nodup→bY, filterMap_cons→bZ, pairwise_cons→b8, pairwise_map→cc, getElem_of_mem→ce, take_succ_cons→cf, getElem?_set_self→cg, any_cons→ck, pairwise_iff_getElem→cq, extract_eq_take_drop→cr, foldl_cons→cu, nodup_append→cw, map_congr_left→cA, mem_range→cB, getElem?_replicate→cC, mapM_cons→cD, filter_cons_of_pos→cE, filter_cons_of_neg→cF, drop_of_length_le→cG, filter_append→cJ, count_pos_iff→cK, perm_append_comm→cL, flatten_cons→cM, toArray→cO, countP_cons→cQ, filter_cons→cR, count_cons→cS, range_succ_eq_map→cW, length_replicate→cY, length_drop→cZ, mem_reverse→c6, eq_nil_iff_forall_not_mem→c7, lookup→c8, mem_filterMap→de, reverse_perm→dj, take_add_one→dk, all_eq_true→dm, ext_getElem→dq, any_eq_true→du, foldl→dz
open PySem.Heap renaming get?_push_of_some→ah, lt_size→aA, get?_push_size→aF, get?_update_other→aH, get?_update_self→aS, size_push→bX, get?_update_ne→dc, get?_push_ne→di
open Nat renaming le_refl→am, lt_of_lt_of_le→aL, ne_of_lt→aN, le_trans→aU, lt_irrefl→bt, zero_le→bL, lt_of_succ_lt_succ→bR, le_succ→cb, ne_of_gt→cj, lt_succ_of_lt→cv, pow_le_pow_right→cz, lt_or_ge→cH, lt_of_le_of_lt→cT, add_sub_cancel_left→cU, zero_add→cV, lt_succ_self→dn, le_of_lt→dw, le_of_eq→dA, lt_trans→dB, not_lt→dD, not_lt_zero→dF
open Array renaming toList_append→aQ, length_toList→aT, getElem?_toList→a9, getElem_mem→bf, size_extract→bi, getElem_toList→bE, toList_reverse→bW, perm_iff_toList_perm→cm, getElem_extract→cp, getElem?_eq_none→cI, toList_extract→cN, toList_inj→cP, getElem?_eq_some_iff→df, toList_push→dh
open Bool renaming false_ne_true→aY, and_eq_true→bv, false_eq_true→bT, not_true→dl, eq_iff_iff→dE
open Int renaming toNat_natCast→br, le_trans→bD, le_of_lt→cy, le_refl→c9, emod_lt_of_pos→dg, emod_nonneg→dG
open Option renaming map_some→bH, isSome_iff_exists→b9, join_some→dv, map_eq_some_iff→dC
set_option hygiene false
local macro_rules |`(tactic|rw[$n:num])=>match n.getNat with
|3=>`(tactic|(intro _;rfl))
|999=>`(tactic|(intro _ _ _ _ _ _ us hl;first | (obtain⟨_,rfl⟩:=AM hl;rfl) | (obtain⟨_,_,rfl⟩:=Es hl;rfl) | (obtain⟨_,_,_,rfl⟩:=GW hl;rfl) | (obtain⟨_,_,_,_,rfl⟩:=Ow hl;rfl) | (obtain⟨_,_,_,_,_,rfl⟩:=len5 hl;rfl) | (obtain⟨_,_,_,_,_,_,rfl⟩:=len6 hl;rfl) | (cases us<;>first | rfl | cases hl)))
|_=>Lean.Macro.throwUnsupported
local macro_rules |`(!$n:num)=>match n.getNat with
|1=>`(by omega)
|2=>`(by decide)
|3=>`(by decide +kernel)
|4=>`(by simp)
|_=>Lean.Macro.throwUnsupported
noncomputable section
namespace L2
open PySem PySem.Spec PyProof.Rows
noncomputable abbrev Key:=Sum Int Str
noncomputable def qQ:Key->ag->Bool
 | .inl k,v=>ag.isInt k v
 | .inr x,v=>ag.isStrOf x v
noncomputable def Tz (w:World):Key->Int
 | .inl k=>hashInt k
 | .inr x=>hashStr w x
theorem fF:∀{k:Key} {v:ag},qQ k v=true->(∃i t,k=Sum.inl i/\v=ag.int i t)\/(∃x t,k=Sum.inr x/\v=ag.str x t)
 | .inl i,v,h=>by
  obtain⟨t,e⟩:=ag.isInt_shape (k:=i) (v:=v) h;exact .inl ⟨i,t,rfl,e⟩
 | .inr x,v,h=>by
  obtain⟨t,e⟩:=ag.isStrOf_shape (x:=x) (v:=v) h;exact .inr ⟨x,t,rfl,e⟩
theorem Dq (i:Int)(t:Tok):qQ (.inl i) (.int i t)=true:=by simp[qQ,ag.isInt]
theorem Dr (x:Str)(t:Tok):qQ (.inr x) (.str x t)=true:=by simp[qQ,ag.isStrOf]
theorem LV (a b:Int):decide ((Sum.inl a:Key)=Sum.inl b)=(a == b):=by
 by_cases e:a=b
 .subst e;simp
 .have h:¬ (Sum.inl a:Key)=Sum.inl b:=λq=>e (Sum.inl.inj q)
  rw[decide_eq_false h];exact (beq_eq_false_iff_ne.mpr e).symm
theorem LW (a b:Str):decide ((Sum.inr a:Key)=Sum.inr b)=decide (a=b):=by
 by_cases e:a=b
 .subst e;simp
 .have h:¬ (Sum.inr a:Key)=Sum.inr b:=λq=>e (Sum.inr.inj q)
  rw[decide_eq_false h,decide_eq_false e]
theorem LX (a:Int)(b:Str):decide ((Sum.inl a:Key)=Sum.inr b)=false:=decide_eq_false (λq=>nomatch q)
theorem LY (a:Str)(b:Int):decide ((Sum.inr a:Key)=Sum.inl b)=false:=decide_eq_false (λq=>nomatch q)
noncomputable def fJ (prog:aP)(w:World):PySem.KeyKind prog w Key where
 is:=qQ
 hash:=Tz w
 inj:=λv a b ha hb=>by
  rcases fF ha with⟨i,t,rfl,rfl⟩ | ⟨x,t,rfl,rfl⟩
  .rcases fF hb with⟨j,u,rfl,e⟩ | ⟨y,u,rfl,e⟩
   .injection e with e1 _;rw[e1]
   .exact nomatch e
  .rcases fF hb with⟨j,u,rfl,e⟩ | ⟨y,u,rfl,e⟩
   .exact nomatch e
   .injection e with e1 _;rw[e1]
 byValue:=λk v h=>by
  rcases fF h with⟨i,t,rfl,rfl⟩ | ⟨x,t,rfl,rfl⟩<;>rfl
 pyHash:=λhv h=>by
  rcases fF hv with⟨i,t,rfl,rfl⟩ | ⟨x,t,rfl,rfl⟩
  .exact wpAny_pyHash_int h
  .exact wpAny_pyHash_str h
 eqBool:=λhu hv h=>by
  rcases fF hu with⟨i,t,rfl,rfl⟩ | ⟨x,t,rfl,rfl⟩
  .rcases fF hv with⟨j,u,rfl,rfl⟩ | ⟨y,u,rfl,rfl⟩
   .rw[LV] at h;exact wpAny_eqBool_int h
   .rw[LX] at h;exact SeqAt.EqAt.int_str i t y u _ _ _ _ h
  .rcases fF hv with⟨j,u,rfl,rfl⟩ | ⟨y,u,rfl,rfl⟩
   .rw[LY] at h;exact SeqAt.EqAt.str_int x t j u _ _ _ _ h
   .rw[LW] at h;exact wpAny_eqBool_str h
 «strs»:=λk x t v h=>by
  rcases fF h with⟨i,u,rfl,e⟩ | ⟨y,u,rfl,e⟩
  .exact nomatch e
  .injection e with e1 _
   subst e1;cases v<;>rfl
theorem xq (prog:aP)(w:World)(i:Int)(t:Tok):(fJ prog w).is (.inl i) (.int i t)=true:=Dq i t
theorem xr (prog:aP)(w:World)(x:Str)(t:Tok):(fJ prog w).is (.inr x) (.str x t)=true:=Dr x t
inductive V where
 | gT | bl (b:Bool) | int (i:Int) | str (x:Str) | E1 (b:Array UInt8) | LZ (b:UInt64) | ref (a:Addr) | ty (n:String)
 deriving DecidableEq
noncomputable def RelV:V->ag->Prop
 | .gT,u=>u=ag.none
 | .bl b,u=>u=ag.bool b
 | .int i,u=>∃t,u=ag.int i t
 | .str x,u=>∃t,u=ag.str x t
 | .E1 b,u=>∃t,u=ag.bytes b t
 | .LZ b,u=>∃t,u=ag.float b t
 | .ref a,u=>u=ag.ref a
 | .ty n,u=>u=ag.type n
noncomputable abbrev eh:List V->List ag->Prop:=Paired RelV
theorem eh.length (r:eh xs us):xs.length=us.length:=Paired.length r
theorem eh.get:∀{xs:List V} {us:List ag} {i:Nat} {x:V},eh xs us->xs[i]? = some x->∃u,us[i]? = some u/\RelV x u
 | _,_,_,_,.nil,e=>by simp at e
 | _,_,0,_,.cons r _,e=>by simp at e;subst e;exact⟨_,rfl,r⟩
 | _,_,i+1,x,.cons _ t,e=>by
  obtain⟨u,h1,h2⟩:=eh.get (i:=i) (x:=x) t (by simpa using e);exact⟨u,by simpa using h1,h2⟩
theorem eh.set (r:RelV x u):∀{xs:List V} {us:List ag} (i:Nat),eh xs us->eh (xs.set i x) (us.set i u)
 | _,_,_,.nil=>.nil
 | _,_,0,.cons _ t=>.cons r t
 | _,_,i+1,.cons q t=>.cons q (eh.set r i t)
theorem eh.append:∀{xs ys:List V} {us ws:List ag},eh xs us->eh ys ws->eh (xs++ys) (us++ws)
 | _,_,_,_,.nil,s=>s
 | _,_,_,_,.cons r t,s=>.cons r (eh.append t s)
theorem eh.take:∀{xs:List V} {us:List ag} (n:Nat),eh xs us->eh (xs.take n) (us.take n)
 | _,_,0,_=>.nil
 | _,_,_+1,.nil=>.nil
 | _,_,n+1,.cons r t=>.cons r (eh.take n t)
theorem eh.drop:∀{xs:List V} {us:List ag} (n:Nat),eh xs us->eh (xs.drop n) (us.drop n)
 | _,_,0,r=>r
 | _,_,_+1,.nil=>.nil
 | _,_,n+1,.cons _ t=>eh.drop n t
noncomputable def mL:Option V->Option ag->Prop
 | some v,some u=>RelV v u
 | none,none=>True
 | _,_=>False
noncomputable def KV {κ:Type}:List (κ × V)->List (κ × ag)->Prop:=Paired λ(p:κ × V) (q:κ × ag)=>p.1=q.1/\RelV p.2 q.2
noncomputable def kV:Key->V
 | .inl i=>.int i
 | .inr x=>.str x
inductive HO where
 | lst (xs:List V)
 | tup (xs:List V)
 | dK (kvs:List (Key × V)) | dT (kvs:List (List Key × V))
 | set (S:Int->Bool) (n:Nat)
 | ins (C dx:Addr) (fs:List (Str × V))
 | own (x:Addr)
 | xd (fs:List (Str × V))
 | met (f x:Addr)
 | Fc (lo hi:Int)
 | qR (o:Obj) (u:HO)
 | L7 (ps:Array ag)
 | ext (φ:Heap->Prop)
noncomputable abbrev Hp:=Addr->Option HO
noncomputable def eZ (H:Hp)(a:Addr)(o:HO):Hp:=λb=>if b=a then some o else H b
theorem dP:eZ H a o a=some o:=by unfold eZ;rw[if_pos rfl]
theorem dY (h:b≠a):eZ H a o b=H b:=by unfold eZ;rw[if_neg h]
theorem Pt {H:Hp}{a b:Addr}{o u:HO}(h:H a=some o)(h':H b=some u)(d:o≠u):a≠b:=by
 intro e;subst e;rw[h] at h';exact d (Option.some.inj h')
theorem eK {H:Hp}{a b:Addr}{o:HO}(h:H a=some o)(h':H b=none):a≠b:=by
 intro e;subst e;rw[h] at h';cases h'
section
variable (P:aP)(w:World)
noncomputable def tE (h:Heap)(a:Addr)(items:Array ag):Prop:=∃o,h.get? a=some o/\o.cls=.type "tuple" /\ ∃n,o.data=.seq items n/\o.dict=none
omit P w in
theorem tE.tup (p:tE h a items):IsTup h a items:=let ⟨o,e,c,n,d,_⟩:=p;⟨o,e,c,n,d⟩
omit P w in
theorem tE.new (h:Heap)(items:Array ag):tE (h.push { cls:=.type "tuple",data:=.seq items }) h.objs.size items:=⟨_,aF _ rfl,rfl,_,rfl,rfl⟩
noncomputable def fy (H:Hp)(h:Heap)(a:Addr):HO->Prop
 | .lst xs=>xs.length<=ax/\∃(its:List ag) (n:Nat),eh xs its/\h.get? a=some { cls:=.type "list",data:=.seq its.toArray n }
 | .tup xs=>xs.length<=ax/\∃its:List ag,eh xs its/\tE h a its.toArray
 | .dK kvs=>kvs.length<=ax/\(a == sysModules)=false/\∃vs,KV kvs vs/\h.DictOf (fJ P w) a vs
 | .dT kvs=>kvs.length<=ax/\(a == sysModules)=false/\∃xs:List (List Key × Addr × ag),
   Paired (λ(p:List Key × V) (q:List Key × Addr × ag)=>p.1=q.1/\H q.2.1=some (.tup (p.1.map kV))/\RelV p.2 q.2.2) kvs xs /\
   ∃o es ep,h.get? a=some o/\o.ExactDict/\o.data=.dict es ep/\es.toList=xs.map (entryOfKey (tupleKind (fJ P w)))/\(xs.map (·.1)).Nodup
 | .set S n=>h.SetOf (intKind P w) a S n
 | .ins C dx fs=>H dx=some (.own a)/\fs.length<=1000/\dx≠a/\h.get? a=some (W.instObj C dx) /\
   ∃mA,h.Ns1 dx mA/\(∀f,mL (fs.lookup f) (mA f))/\PySem.Within mA (fs.map (·.1))
 | .own _=>∃o,h.get? a=some o
 | .xd fs=>∃mA,h.Ns1 a mA/\∀f,mL (fs.lookup f) (mA f)
 | .Fc lo hi=>∃t u v,h.get? a=some { cls:=.type "range",data:=.fields #[.int lo t,.int hi u,.int 1 v] }
 | .qR o u=>h.get? a=some o/\fy H h a u
 | .L7 ps=>h.get? a=some { cls:=.none,data:=.fields ps }
 | .met f x=>h.get? a=some (W.methodObj (.ref f) (.ref x))
 | .ext φ=>φ h/\(∃o,h.get? a=some o)/\∀h1 h2:Heap,φ h1->(∀o,h1.get? a=some o->h2.get? a=some o)->φ h2
noncomputable def j7 (H:Hp)(h:Heap):Prop:=∀a o,H a=some o->fy P w H h a o
end
section
variable {P:aP}{w:World}{H H':Hp}{h h':Heap}{a:Addr}{o:HO}
theorem fy.lt (x:fy P w H h a o):a<h.objs.size:=by
 cases o with
 | lst xs=>obtain⟨_,_,_,_,e⟩:=x;exact aA e
 | tup xs=>obtain⟨_,_,_,p⟩:=x;exact p.tup.lt
 | dK kvs=>obtain⟨_,_,_,_,o,_,_,e,_⟩:=x;exact aA e
 | dT kvs=>obtain⟨_,_,_,_,o,_,_,e,_⟩:=x;exact aA e
 | set S n=>obtain⟨o,_,_,_,e,_⟩:=x;exact aA e
 | ins C dx fs=>obtain⟨_,_,_,e,_⟩:=x;exact aA e
 | own y=>obtain⟨_,e⟩:=x;exact aA e
 | xd fs=>obtain⟨_,⟨_,_,_,e,_⟩,_⟩:=x;exact aA e
 | Fc lo hi=>obtain⟨_,_,_,e⟩:=x;exact aA e
 | qR ob u=>obtain⟨e,_⟩:=x;exact aA e
 | L7 ps=>exact aA (show h.get? a=some _ from x)
 | met f y=>exact aA (show h.get? a=some _ from x)
 | ext φ=>obtain⟨_,⟨_,e⟩,_⟩:=x;exact aA e
theorem Paired.L8 {α β:Type}{F G:α->β->Prop}:∀{l₁:List α} {l₂:List β},Paired F l₁ l₂->(∀a b,F a b->G a b)->Paired G l₁ l₂
 | _,_,.nil,_=>.nil
 | _,_,.cons r t,f=>.cons (f _ _ r) (Paired.L8 t f)
theorem fy.xt (x:fy P w H h a o)(k:∀b u,(b=a\/H b=some (.own a))->h.get? b=some u->h'.get? b=some u)
  (ho:∀b,H b=some (.own a)->H' b=some (.own a)) (ht:∀b xs,H b=some (.tup xs)->H' b=some (.tup xs)):fy P w H' h' a o:=by
 induction o with
 | lst xs=>obtain⟨z,its,n,r,e⟩:=x;exact⟨z,its,n,r,k _ _ (.inl rfl) e⟩
 | tup xs=>obtain⟨z,its,r,ob,e,c⟩:=x;exact⟨z,its,r,ob,k _ _ (.inl rfl) e,c⟩
 | dK kvs=>obtain⟨z,y,vs,r,ob,es,ep,e,c⟩:=x;exact⟨z,y,vs,r,ob,es,ep,k _ _ (.inl rfl) e,c⟩
 | dT kvs =>
  obtain⟨z,y,xs,r,ob,es,ep,e,c⟩:=x;exact⟨z,y,xs,Paired.L8 r λp q z=>⟨z.1,ht _ _ z.2.1,z.2.2⟩,ob,es,ep,k _ _ (.inl rfl) e,c⟩
 | set S n=>obtain⟨ob,es,ep,t,e,c⟩:=x;exact⟨ob,es,ep,t,k _ _ (.inl rfl) e,c⟩
 | ins C dx fs =>
  obtain⟨d,z,ne,e,mA,⟨od,es,ep,e2,c⟩,r⟩:=x;exact⟨ho _ d,z,ne,k _ _ (.inl rfl) e,mA,⟨od,es,ep,k _ _ (.inr d) e2,c⟩,r⟩
 | own y=>obtain⟨ob,e⟩:=x;exact⟨ob,k _ _ (.inl rfl) e⟩
 | xd fs=>obtain⟨mA,⟨od,es,ep,e,c⟩,r⟩:=x;exact⟨mA,⟨od,es,ep,k _ _ (.inl rfl) e,c⟩,r⟩
 | Fc lo hi=>obtain⟨t,u,v,e⟩:=x;exact⟨t,u,v,k _ _ (.inl rfl) e⟩
 | qR ob u ih=>obtain⟨e,q⟩:=x;exact⟨k _ _ (.inl rfl) e,ih q⟩
 | L7 ps =>
  have e:h.get? a=some { cls:=.none,data:=.fields ps }:=x;show h'.get? a=some { cls:=.none,data:=.fields ps };exact k a _ (.inl rfl) e
 | met f y =>
  have e:h.get? a=some (W.methodObj (.ref f) (.ref y)):=x;show h'.get? a=some (W.methodObj (.ref f) (.ref y));exact k a _ (.inl rfl) e
 | ext φ=>obtain⟨p,⟨o,e⟩,st⟩:=x;exact⟨st _ _ p λo q=>k _ _ (.inl rfl) q,⟨o,k _ _ (.inl rfl) e⟩,st⟩
theorem j7.lt (x:j7 P w H h)(e:H a=some o):a<h.objs.size:=(x a o e).lt
theorem j7.fresh (x:j7 P w H h)(e:h.objs.size<=a):H a=none:=by
 cases q:H a with
 | none=>rfl
 | some u=>exact absurd (aL (x.lt q) e) (bt _)
theorem j7.kept (x:j7 P w H h)(k:∀b u,h.get? b=some u->h'.get? b=some u):j7 P w H h':=λa o e =>
 (x a o e).xt (λb u _ q=>k b u q) (λ_ q=>q) λ_ _ q=>q
theorem j7.laid (x:j7 P w H h)(k:∀b u,h.get? b=some u->h'.get? b=some u)(hp:h.objs.size<=a)(new:fy P w (eZ H a o) h' a o):j7 P w (eZ H a o) h':=λb u e=>by
 have hn:=x.fresh hp;by_cases hb:b=a
 .subst hb;rw[dP] at e;cases e;exact new
 .rw[dY hb] at e
  exact (x b u e).xt (λc v _ q=>k c v q) (λc q=>by rw[dY (eK q hn)];exact q) λc xs q=>by rw[dY (eK q hn)];exact q
end
noncomputable def Rd (H:Hp)(a:Addr)(u:HO):Prop:=H a=some u\/∃o,H a=some (.qR o u)
theorem Rd.ok (r:Rd H a u)(x:j7 P w H h):fy P w H h a u:=by
 rcases r with r | ⟨o,r⟩
 .exact x a u r
 .obtain⟨_,q⟩:=x a _ r
  exact q
noncomputable def Pu:Option HO->Prop
 | some (.lst _)=>True
 | some (.dK _)=>True
 | some (.dT _)=>True
 | some (.set _ _)=>True
 | some (.ins _ _ _)=>True
 | some (.ext _)=>True
 | _=>False
section
theorem j7.write (ok:j7 P w H h)(mu:Pu (H x))(he:e=x\/H e=some (.own x))(k:∀b u,b≠e->h.get? b=some u->h'.get? b=some u)(OZ:∃u,h'.get? e=some u)
  (new:fy P w (eZ H x o') h' x o'):j7 P w (eZ H x o') h':=λb u q=>by
 have Pw:∀c y,H c=some (.own y)->c≠x:=λc y r z=>by subst z;rw[r] at mu;exact mu
 have TB:∀c xs,H c=some (.tup xs)->c≠x:=λc xs r z=>by subst z;rw[r] at mu;exact mu
 by_cases hb:b=x
 .subst hb;rw[dP] at q;cases q;exact new
 .rw[dY hb] at q
  by_cases L9:b=e
  .have q':H b=some (.own x):=by
    rcases he with z | z
    .exact absurd (L9.trans z) hb
    .rw[L9];exact z
   rw[q] at q';cases q';obtain⟨v,hv⟩:=OZ;exact⟨v,by rw[L9];exact hv⟩
  .refine (ok b u q).xt (λc v hc r=>k c v ?_ r) (λc r=>by rw[dY (Pw c b r)];exact r) λc xs r=>by rw[dY (TB c xs r)];exact r
   rcases hc with rfl | hc
   .exact L9
   .rintro rfl
    rcases he with z | z
    .exact Pw c b hc z
    .rw[hc] at z;cases z;exact hb rfl
end
structure Un (fs ex:List Addr) (H H':Hp) (h h':Heap):Prop where
 keep:∀b o,h.get? b=some o->H b=none->b ∉ fs->b ∉ ex->h'.get? b=some o
 slot:∀b o,h.get? b=some o->H b=none->b∈fs->b ∉ ex->∃sl,h'.get? b=some { o with slots:=sl }
 free:∀b o,h.get? b=some o->H b=none->b ∉ ex->H' b=none
 there:∀b o,h.get? b=some o->b ∉ ex->∃o',h'.get? b=some o'
 tF:∀b xs,H b=some (.tup xs)->H' b=some (.tup xs)
 qS:∀b o u,H b=some (.qR o u)->H' b=some (.qR o u)
 tG:∀b ps,H b=some (.L7 ps)->∃more,H' b=some (.L7 (ps++more))
section
variable {fs fs' ex ex':List Addr}{H H1 H2:Hp}{h h1 h2 h':Heap}{a x e:Addr}{o:HO}
theorem Un.any (u:Un fs ex H H1 h h1)(q:h.get? b=some ob)(n:H b=none)(hx:b ∉ ex):∃sl,h1.get? b=some { ob with slots:=sl }:=by
 by_cases hb:b∈fs
 .exact u.slot b ob q n hb hx
 .exact⟨ob.slots,u.keep b ob q n hb hx⟩
theorem Un.kept (k:∀b u,h.get? b=some u->h'.get? b=some u):Un fs ex H H h h' :=
 ⟨λb ob q _ _ _=>k b ob q,λb ob q _ _ _=>⟨ob.slots,k b ob q⟩,λ_ _ _ n _=>n,λb ob q _=>⟨ob,k b ob q⟩,λ_ _ q=>q,λ_ _ _ q=>q,λ_ ps q=>⟨#[],by rw[q];simp⟩⟩
theorem Un.refl:Un fs ex H H h h:=Un.kept λ_ _ q=>q
theorem Un.laid (k:∀b u,h.get? b=some u->h'.get? b=some u)(hp:h.objs.size<=a)(hn:H a=none):Un fs ex H (eZ H a o) h h' where
 keep:=λb u q _ _ _=>k b u q
 slot:=λb u q _ _ _=>⟨u.slots,k b u q⟩
 free:=λb u q n _=>by rw[dY (aN (aL (aA q) hp))];exact n
 there:=λb u q _=>⟨u,k b u q⟩
 tF:=λb xs q=>by rw[dY (eK q hn)];exact q
 qS:=λb u xs q=>by rw[dY (eK q hn)];exact q
 tG:=λb ps q=>⟨#[],by rw[dY (eK q hn),q];simp⟩
theorem Un.write (mu:Pu (H x))(he:e=x\/H e=some (.own x))(k:∀b u,b≠e->h.get? b=some u->h'.get? b=some u)(OZ:∃u,h'.get? e=some u):Un fs ex H (eZ H x o) h h':=by
 have hx:∀b,H b=none->b≠x:=λb n z=>by subst z;rw[n] at mu;exact mu
 have hb:∀b,H b=none->b≠e:=λb n z=>by
  subst z;rcases he with r | r
  .exact hx b n r
  .rw[n] at r;cases r
 have hm:∀b u,H b=some u->¬ Pu (some u)->b≠x:=λb u q nm z=>by subst z;rw[q] at mu;exact nm mu
 refine⟨λb u q n _ _=>k b u (hb b n) q,λb u q n _ _=>⟨u.slots,k b u (hb b n) q⟩,λb u q n _=>by rw[dY (hx b n)];exact n,λb u q _=>?_,
  λb xs q=>by rw[dY (hm b _ q λz=>z)];exact q,λb u xs q=>by rw[dY (hm b _ q λz=>z)];exact q,λb ps q=>⟨#[],by rw[dY (hm b _ q λz=>z),q];simp⟩⟩
 by_cases L9:b=e
 .subst L9;exact OZ
 .exact⟨u,k b u L9 q⟩
end
noncomputable def Sy (h:Heap)(H:Hp):List Addr:=(List.range h.objs.size).filter λa=>(H a).isSome
noncomputable def vH (h:Heap)(H:Hp):Heap:=W.hideAll h (Sy h H)
theorem Ds (h:Heap)(H:Hp):(vH h H).objs.size=h.objs.size:=W.hideAll_size _ _
theorem Fd (e:h.get? b=some o)(n:H b=none):(vH h H).get? b=some o :=
 W.hideAll_get _ e λhm=>by
  have q:(H b).isSome=true:=(aW.mp hm).2;rw[n] at q;simp at q
theorem Ii (e:(vH h H).get? b=some o):h.get? b=some o/\H b=none:=by
 have e':h.get? b=some o:=W.of_hideAll (Sy h H) e;refine⟨e',?_⟩
 cases q:H b with
 | none=>rfl
 | some x =>
  have hm:b∈Sy h H:=aW.mpr ⟨cB.mpr (aA e'),by simp[q]⟩;have z:(vH h H).get? b=none:=W.hideAll_none (Sy h H) hm;rw[z] at e;cases e
noncomputable def Ij (g h:Heap)(L:Addr):List (Addr × Obj):=(List.range h.objs.size).filterMap λa=>if a=L\/(g.get? a).isSome=true then none else (h.get? a).map λo=>(a,o)
noncomputable def rest (g h:Heap)(L d:Addr):List (Addr × Obj):=(Ij g h L).filter λp=>decide (p.1≠d)
structure Mod (K:W.Frag) (mg:Str->Option ag) (base:Heap):Prop where
 Px:K.In base
 glob:base.Ns aR mg
 blt:∃mb,base.Ns builtinsNs mb/\∀x:Str,x ≠ "__name__" -> mb x=bootBuiltins x
 nolimit:base.NoLimit
structure Cx where
 prog:aP
 w:World
 K:W.Frag
 mg:Str->Option ag
 base:Heap
 A:Around
 N:List Str
 s₀:aq
 H₀:Hp
 env:Env
 outer:List Env
 stack:List Env
 ex:List Addr
 fn:Str->Bool
 calm:Bool
 pn:List (Addr × Obj)
 xe:ag->aq->Prop
noncomputable def m7 (l:List Env):List Addr:=l.filterMap (·.frame)
noncomputable abbrev Cx.fs (X:Cx):List Addr:=m7 X.outer
noncomputable def tH (sc:Scope)(x:Str):Prop:=sc.names.lookup x=some .local\/sc.names.lookup x=some .cell\/sc.names.lookup x=some .free
noncomputable def Loc (sc:Scope)(x:Str):Prop:=sc.names.lookup x=some .local\/sc.names.lookup x=some .cell
noncomputable def Look (env:Env)(h:Heap)(m:Str->Option ag)(x:Str)(u:ag):Prop :=
 (env.kindOf x=some .local/\m x=some u)\/((env.kindOf x=some .cell\/env.kindOf x=some .free)/\∃c,env.cells.lookup x=some c/\h.IsCell c (some u))
structure Cx.Ok (X:Cx):Prop where
 mod:Mod X.K X.mg X.base
 kind:X.env.scope.kind=.function
 glob:X.env.globals=aR
 blt:X.env.builtins=builtinsNs
 above:X.s₀.heap.objs.size<=X.env.locals
 inj:∀x y c,X.env.cells.lookup x=some c->X.env.cells.lookup y=some c->x=y
 has:∀x,(X.env.kindOf x=some .cell\/X.env.kindOf x=some .free)->∃c,X.env.cells.lookup x=some c
 O0:∀x c,X.fn x=true->X.env.cells.lookup x=some c->X.s₀.heap.objs.size<=c
 hd:X.calm=true->X.A.handled=none
 frames:X.A.frames=some X.stack
 Py:X.stack=X.outer\/(X.stack=X.env::X.outer/\X.env.frame=some X.env.locals)
 TF:∀b∈X.ex,b≠X.env.locals/\∀x c,X.env.cells.lookup x=some c->c≠b
 bs:∀b o,X.base.get? b=some o->X.s₀.heap.get? b=some o/\X.H₀ b=none
 Ik:X.base.objs.size<=X.s₀.heap.objs.size
 Dt:∀b o,X.base.get? b=some o->b ∉ X.ex
 Fe:∀b∈X.ex,b ∉ X.fs
 ph:X.s₀.heap.FunFrames X.base X.outer
 Ks:∀b∈X.fs,X.H₀ b=none
structure Inv (X:Cx) (pins:List (Addr × Obj)) (σ:List (Option V)) (H:Hp) (s:aq):Prop where
 ok:X.Ok
 os:s.os=X.s₀.os
 bare:AllBare s.gens
 base:Un X.fs X.ex X.H₀ H X.s₀.heap s.heap
 loc:∃m,s.heap.Ns X.env.locals m/\∀(i:Nat) (x:Str) (v:V),X.N[i]? = some x->σ[i]? = some (some v)->tH X.env.scope x->∃u,RelV v u/\Look X.env s.heap m x u
 cell:∀x c,X.env.cells.lookup x=some c->∃v,s.heap.IsCell c v
 free:H X.env.locals=none
 freeC:∀x c,X.env.cells.lookup x=some c->H c=none
 pin:∀p∈X.pn++pins,s.heap.get? p.1=some p.2/\H p.1=none/\p.1≠X.env.locals/\p.1 ∉ X.fs/\∀v,p.2.data≠.cell v
 hok:j7 X.prog X.w H s.heap
 len:σ.length=X.N.length
section
variable {X:Cx}{pins:List (Addr × Obj)}{σ:List (Option V)}{H H':Hp}{s:aq}{h':Heap}
theorem Cx.Ok.TH (ok:X.Ok){b:Addr}{o:Obj}(e:X.base.get? b=some o):b ∉ X.fs:=λhb=>by
 have:=(ok.ph.mem hb).1;rw[e] at this;cases this
theorem Inv.bs (I:Inv X pins σ H s):∀b o,X.base.get? b=some o->s.heap.get? b=some o/\H b=none:=λb o e =>
 ⟨I.base.keep b o (I.ok.bs b o e).1 (I.ok.bs b o e).2 (I.ok.TH e) (I.ok.Dt b o e),I.base.free b o (I.ok.bs b o e).1 (I.ok.bs b o e).2 (I.ok.Dt b o e)⟩
theorem Inv.bk (I:Inv X pins σ H s):∀b o,X.base.get? b=some o->s.heap.get? b=some o:=λb o e=>(I.bs b o e).1
theorem Inv.mod (I:Inv X pins σ H s):Mod X.K X.mg X.base:=I.ok.mod
theorem Inv.m8 (I:Inv X pins σ H s):X.K.In s.heap:=I.ok.mod.Px.keeps I.bk
theorem Inv.lt (I:Inv X pins σ H s):X.env.locals<s.heap.objs.size:=let ⟨_,hn,_⟩:=I.loc;hn.lt
theorem Inv.sz (I:Inv X pins σ H s):X.s₀.heap.objs.size<=s.heap.objs.size:=aU I.ok.above (dw I.lt)
theorem Inv.Pz (I:Inv X pins σ H s)(h:s.heap.objs.size<=a):a ∉ X.fs:=λhb=>by
 obtain⟨_,o,ho,_⟩:=I.ok.ph.mem hb;exact absurd (aL (aA ho) (aU I.sz h)) (bt _)
theorem Inv.Ff (I:Inv X pins σ H s):∀x c,X.env.cells.lookup x=some c->c≠X.env.locals:=λx c e z=>by
 obtain⟨v,o,ho,hd⟩:=I.cell x c e;obtain⟨m,⟨o',es,ep,HM,Il,_⟩,_⟩:=I.loc;rw[z,HM] at ho;cases ho;rw[Il] at hd;cases hd
theorem Inv.ph (I:Inv X pins σ H s):s.heap.FunFrames X.base X.outer:=by
 have all:∀(l:List Env),(∀b∈m7 l,b∈X.fs)->X.s₀.heap.FunFrames X.base l->s.heap.FunFrames X.base l:=by
  intro l
  induction l with
  | nil=>intro _ _;trivial
  | cons env r ih =>
   intro hs hl;obtain⟨hk,⟨L,o,hf,hn,ho,hd⟩,hr⟩:=hl;have hL:L∈X.fs:=hs L (by unfold m7;rw[bZ,hf];exact ar);obtain⟨sl,e⟩:=I.base.slot L o ho (I.ok.Ks L hL) hL λz=>I.ok.Fe L z hL;exact⟨hk,⟨L,_,hf,hn,e,hd⟩,ih (λb hb=>hs b (by unfold m7;rw[bZ,hf];exact ao _ hb)) hr⟩
 exact all X.outer (λ_ hb=>hb) I.ok.ph
theorem Inv.stack (I:Inv X pins σ H s):s.heap.FunFrames X.base X.stack:=by
 rcases I.ok.Py with e | ⟨e,hf⟩
 .rw[e];exact I.ph
 .rw[e]
  obtain⟨m,hn,_⟩:=I.loc;refine .cons (by rw[I.ok.kind];decide) hf hn ?_ I.ph;exact Heap.get?_none_of_le (aU I.ok.Ik I.ok.above)
theorem Inv.qT (I:Inv X pins σ H s):∀b∈m7 X.stack,b∈X.env.locals::X.fs:=λb hb=>by
 rcases I.ok.Py with e | ⟨e,hf⟩
 .rw[e] at hb;exact ao _ hb
 .rw[e] at hb
  unfold m7 at hb;rw[bZ,hf] at hb;exact hb
theorem Inv.qy (I:Inv X pins σ H s):∀b∈m7 X.stack,H b=none:=λb hb=>by
 rcases au.mp (I.qT b hb) with e | hb
 .rw[e];exact I.free
 .obtain⟨_,o,ho,_⟩:=I.ok.ph.mem hb
  exact I.base.free b o ho (I.ok.Ks b hb) λz=>I.ok.Fe b z hb
theorem Inv.step {g':Array GenState}{t':Nat}{d':Drawn}{ch:List Addr}(I:Inv X pins σ H s)
  (BW:∀b∈ch,(b∈X.ex\/X.s₀.heap.objs.size<=b)/\b≠X.env.locals/\(∀x c,X.env.cells.lookup x=some c->c≠b)/\∀p∈X.pn++pins,p.1≠b)
  (keep:∀b o,b≠X.env.locals->b ∉ X.fs->b ∉ ch->s.heap.get? b=some o->H b=none->h'.get? b=some o)
  (slot:∀b o,b≠X.env.locals->b∈X.fs->b ∉ ch->s.heap.get? b=some o->H b=none->∃sl,h'.get? b=some { o with slots:=sl }) (free:∀b o,b ∉ ch->s.heap.get? b=some o->H b=none->H' b=none)
  (there:∀b o,b ∉ ch->s.heap.get? b=some o->∃o',h'.get? b=some o')
  (tF:∀b xs,H b=some (.tup xs)->H' b=some (.tup xs)) (qS:∀b o u,H b=some (.qR o u)->H' b=some (.qR o u)) (tG:∀b ps,H b=some (.L7 ps)->∃more,H' b=some (.L7 (ps++more)))
  (ns:∀m,s.heap.Ns X.env.locals m->h'.Ns X.env.locals m) (hok:j7 X.prog X.w H' h') (hg:AllBare g') :
  Inv X pins σ H' { s with heap:=h',gens:=g',drawn:=d',toks:=t' }:=by
 have Wb:∀b o,X.s₀.heap.get? b=some o->b≠X.env.locals:=λb o e=>aN (aL (aA e) I.ok.above)
 have SA:∀b o,X.s₀.heap.get? b=some o->b ∉ X.ex->b ∉ ch:=λb o e hx hb=>by
  rcases (BW b hb).1 with z | z
  .exact hx z
  .exact absurd (aL (aA e) z) (bt _)
 have Kt:∀x c,X.env.cells.lookup x=some c->∀v,s.heap.IsCell c v->h'.IsCell c v:=λx c e v ⟨o,ho,hd⟩=>by
  have PB:c ∉ ch:=λz=>(BW c z).2.2.1 x c e rfl;by_cases hc:c∈X.fs
  .obtain⟨sl,q⟩:=slot c o (I.Ff x c e) hc PB ho (I.freeC x c e)
   exact⟨_,q,hd⟩
  .exact⟨o,keep c o (I.Ff x c e) hc PB ho (I.freeC x c e),hd⟩
 refine⟨I.ok,I.os,hg,⟨λb o e n hb hx=>?_,λb o e n hb hx=>?_,λb o e n hx=>?_,λb o e hx=>?_,λb xs e=>tF b xs (I.base.tF b xs e),λb o xs e=>qS b o xs (I.base.qS b o xs e),λb ps e=>?_⟩,?_,λx c e=>?_,?_,λx c e=>?_,λp hp=>?_,hok,I.len⟩
 .exact keep b o (Wb b o e) hb (SA b o e hx) (I.base.keep b o e n hb hx) (I.base.free b o e n hx)
 .obtain⟨sl,e1⟩:=I.base.slot b o e n hb hx
  obtain⟨TJ,e2⟩:=slot b _ (Wb b o e) hb (SA b o e hx) e1 (I.base.free b o e n hx);exact⟨TJ,e2⟩
 .obtain⟨o',e1⟩:=I.base.there b o e hx
  exact free b o' (SA b o e hx) e1 (I.base.free b o e n hx)
 .obtain⟨o',e1⟩:=I.base.there b o e hx
  exact there b o' (SA b o e hx) e1
 .obtain⟨m1,e1⟩:=I.base.tG b ps e
  obtain⟨m2,e2⟩:=tG b _ e1;exact⟨m1++m2,by rw[e2,Array.append_assoc]⟩
 .obtain⟨m,hn,hl⟩:=I.loc
  refine⟨m,ns m hn,λi x v e1 e2 e3=>?_⟩;obtain⟨u,r,l⟩:=hl i x v e1 e2 e3;refine⟨u,r,?_⟩;rcases l with l | ⟨k,c,e,z⟩
  .exact .inl l
  .exact .inr ⟨k,c,e,Kt x c e _ z⟩
 .obtain⟨v,z⟩:=I.cell x c e
  exact⟨v,Kt x c e v z⟩
 .obtain⟨m,⟨o,_,_,ho,_⟩,_⟩:=I.loc
  exact free _ o (λz=>(BW _ z).2.1 rfl) ho I.free
 .obtain⟨v,o,ho,hd⟩:=I.cell x c e
  exact free c o (λz=>(BW c z).2.2.1 x c e rfl) ho (I.freeC x c e)
 .obtain⟨e,n,ne,nf,d⟩:=I.pin p hp
  have PB:p.1 ∉ ch:=λz=>(BW p.1 z).2.2.2 p hp rfl;exact⟨keep p.1 p.2 ne nf PB e n,free p.1 p.2 PB e n,ne,nf,d⟩
theorem Inv.un {t':Nat}(I:Inv X pins σ H s)(u:Un X.fs [] H H' s.heap h')(hok:j7 X.prog X.w H' h'):Inv X pins σ H' { s with heap:=h',toks:=t' }:=by
 obtain⟨m,⟨o,es,ep,ho,r⟩,_⟩:=id I.loc;obtain⟨sl,hL⟩:=u.any ho I.free (!4)
 exact I.step (g':=s.gens) (d':=s.drawn) (ch:=[]) (λ_ z=>nomatch z) (λb o _ hb _ e n=>u.keep b o e n hb (!4)) (λb o _ hb _ e n=>u.slot b o e n hb (!4)) (λb o _ e n=>u.free b o e n (!4)) (λb o _ e=>u.there b o e (!4)) u.tF u.qS u.tG (λm' hm=>by
  obtain⟨o',jv,SD,HM,r'⟩:=hm;rw[ho] at HM;cases HM;exact⟨_,jv,SD,hL,r'⟩) hok I.bare
theorem Inv.call {g':Array GenState}{t':Nat}{d':Drawn}{ch:List Addr}(I:Inv X pins σ H s)(u:Un (m7 X.stack) ch H H' s.heap h')(hok:j7 X.prog X.w H' h')(hg:AllBare g')
  (BW:∀b∈ch,(b∈X.ex\/X.s₀.heap.objs.size<=b)/\b≠X.env.locals/\(∀x c,X.env.cells.lookup x=some c->c≠b)/\∀p∈X.pn++pins,p.1≠b) :
  Inv X pins σ H' { s with heap:=h',gens:=g',drawn:=d',toks:=t' }:=by
 obtain⟨m,⟨o,es,ep,ho,r⟩,_⟩:=id I.loc;obtain⟨sl,hL⟩:=u.any ho I.free λz=>(BW _ z).2.1 rfl
 exact I.step (ch:=ch) BW (λb o hL hb hc e n=>u.keep b o e n (λz=>(au.mp (I.qT b z)).elim hL hb) hc) (λb o _ _ hc e n=>u.any e n hc) (λb o hc e n=>u.free b o e n hc) (λb o hc e=>u.there b o e hc) u.tF u.qS u.tG (λm' hm=>by
  obtain⟨o',jv,SD,HM,r'⟩:=hm;rw[ho] at HM;cases HM;exact⟨_,jv,SD,hL,r'⟩) hok hg
theorem Inv.turned {t':Nat}{it:Addr}(I:Inv X pins σ H s)(k:∀b o,b≠it->s.heap.get? b=some o->h'.get? b=some o)(hn:H it=none)(hL:it≠X.env.locals)
  (h1:it∈X.ex\/X.s₀.heap.objs.size<=it) (h2:∀x c,X.env.cells.lookup x=some c->c≠it) (h3:∀p∈X.pn++pins,p.1≠it):Inv X pins σ H { s with heap:=h',toks:=t' }:=by
 have Ku:∀b u,H b=some u->b≠it:=λb u e z=>by rw[z,hn] at e;cases e
 refine I.step (g':=s.gens) (d':=s.drawn) (ch:=[it]) (λb hb=>?_) (λb o _ _ hc e _=>k b o (λz=>hc (by simp[z])) e) (λb o _ _ hc e _=>⟨o.slots,k b o (λz=>hc (by simp[z])) e⟩) (λ_ _ _ _ n=>n)
  (λb o hc e=>⟨o,k b o (λz=>hc (by simp[z])) e⟩) (λ_ _ e=>e) (λ_ _ _ e=>e) (λb ps e=>⟨#[],by rw[e];simp⟩) (λm hm=>?_) (λb u e=>?_) I.bare
 .have e:b=it:=by simpa using hb
  subst e;exact⟨h1,hL,h2,h3⟩
 .obtain⟨o,es,ep,ho,r⟩:=hm
  exact⟨o,es,ep,k _ o (Ne.symm hL) ho,r⟩
 .refine (I.hok b u e).xt (λc v hc q=>k c v ?_ q) (λ_ q=>q) λ_ _ q=>q
  rcases hc with z | z
  .rw[z];exact Ku b u e
  .exact Ku c _ z
theorem Inv.tok (I:Inv X pins σ H s)(t:Nat):Inv X pins σ H { s with toks:=t }:=I.un (h':=s.heap) (t':=t) Un.refl I.hok
theorem Inv.kept {t':Nat}(I:Inv X pins σ H s)(k:∀b u,s.heap.get? b=some u->h'.get? b=some u):Inv X pins σ H { s with heap:=h',toks:=t' }:=I.un (Un.kept k) (I.hok.kept k)
theorem Inv.laid {a:Addr}{o:HO}{t':Nat}(I:Inv X pins σ H s)(k:∀b u,s.heap.get? b=some u->h'.get? b=some u)(hp:s.heap.objs.size<=a)(new:fy X.prog X.w (eZ H a o) h' a o) :
  Inv X pins σ (eZ H a o) { s with heap:=h',toks:=t' }:=I.un (Un.laid k hp (I.hok.fresh hp)) (I.hok.laid k hp new)
theorem Inv.write {x e:Addr}{o:HO}{t':Nat}(I:Inv X pins σ H s)(mu:Pu (H x))(he:e=x\/H e=some (.own x))(k:∀b u,b≠e->s.heap.get? b=some u->h'.get? b=some u)(OZ:∃u,h'.get? e=some u)
  (new:fy X.prog X.w (eZ H x o) h' x o):Inv X pins σ (eZ H x o) { s with heap:=h',toks:=t' }:=I.un (Un.write mu he k OZ) (I.hok.write mu he k OZ new)
theorem Inv.qz (I:Inv X pins σ H s)(h:∀p∈PD,s.heap.get? p.1=some p.2/\H p.1=none/\p.1≠X.env.locals/\p.1 ∉ X.fs/\∀v,p.2.data≠.cell v):Inv X PD σ H s :=
 ⟨I.ok,I.os,I.bare,I.base,I.loc,I.cell,I.free,I.freeC,λp hp=>(aB.mp hp).elim (λz=>I.pin p (a6 _ z)) (h p),I.hok,I.len⟩
theorem qU {N:List Str}(hN:N.Nodup){i j:Nat}{x:Str}(a:N[i]? = some x)(b:N[j]? = some x):i=j:=by
 obtain⟨h1,e1⟩:=aX.mp a;obtain⟨h2,e2⟩:=aX.mp b;exact (List.getElem_inj hN).mp (e1.trans e2.symm)
theorem um {M:Model}{A:Around}{E:ag->aq->Prop}{i:Nat}{x:Str}{v:V}{u:ag}{Q:Unit->aq->Prop}(I:Inv X pins σ H s)(hN:X.N.Nodup)(hi:X.N[i]? = some x)(hx:Loc X.env.scope x)(r:RelV v u)
  (h:∀s',Inv X pins (σ.set i (some v)) H s'->(∃a,Heap.SameBut a s.heap s'.heap/\(a=X.env.locals\/X.env.cells.lookup x=some a))->Q () s') (hf:X.fn x=true\/X.env.scope.names.lookup x=some .local:=by (first | exact .inl rfl | exact .inr rfl | assumption)):az M A (storeName X.env x u) Q E s:=by
 obtain⟨m,hn,hl⟩:=id I.loc;have TK:(X.env.scope.kind == .class || (X.env.scope.kind == .module && X.env.locals != X.env.globals))=false:=by rw[I.ok.kind];rfl
 have PF:i<σ.length:=by rw[I.len];exact (aX.mp hi).1
 have Ff:=I.Ff
 have BX:∀{a:Addr} {h':Heap},(∃o,s.heap.get? a=some o/\H a=none)->Heap.SameBut a s.heap h'->j7 X.prog X.w H h':=λ{a h'} ha hs b ob e=>by
  obtain⟨_,_,BY⟩:=ha;refine (I.hok b ob e).xt (λc w' hc q=>(hs.2 c ?_).trans q) (λ_ q=>q) λ_ _ q=>q;rintro rfl;rcases hc with rfl | hc
  .rw[BY] at e;cases e
  .rw[BY] at hc;cases hc
 rcases hx with hk | hk
 .refine wpAny_storeName_local hk hn (λh' xu hs=>?_) TK
  obtain⟨oL,_,_,E2,_⟩:=id hn;refine h _ ⟨I.ok,I.os,I.bare,⟨λb o e n hb hx=>?_,λb o e n hb hx=>?_,I.base.free,λb o e hx=>?_,I.base.tF,I.base.qS,I.base.tG⟩,⟨_,xu,λj y v' e1 e2 e3=>?_⟩,λy c e=>?_,I.free,I.freeC,λp hp=>?_,BX ⟨oL,E2,I.free⟩ hs,by simpa using I.len⟩ ⟨_,hs,.inl rfl⟩
  .exact (hs.2 b (aN (aL (aA e) I.ok.above))).trans (I.base.keep b o e n hb hx)
  .obtain⟨sl,e1⟩:=I.base.slot b o e n hb hx
   exact⟨sl,(hs.2 b (aN (aL (aA e) I.ok.above))).trans e1⟩
  .obtain⟨o',e1⟩:=I.base.there b o e hx
   exact⟨o',(hs.2 b (aN (aL (aA e) I.ok.above))).trans e1⟩
  .by_cases hj:j=i
   .subst hj
    rw[hi] at e1;cases e1;rw[cg PF] at e2;cases e2;exact⟨u,r,.inl ⟨hk,!4⟩⟩
   .rw[aK (Ne.symm hj)] at e2
    obtain⟨u',r',q⟩:=hl j y v' e1 e2 e3;refine⟨u',r',?_⟩;rcases q with⟨k,e⟩ | ⟨k,c,e,z⟩
    .refine .inl ⟨k,?_⟩
     have:y≠x:=λe=>hj (qU hN e1 (e ▸ hi));simp[this,e]
    .exact .inr ⟨k,c,e,z.sameBut hs (Ff y c e)⟩
  .obtain⟨w',z⟩:=I.cell y c e
   exact⟨w',z.sameBut hs (Ff y c e)⟩
  .obtain⟨e,n,ne,nf,d⟩:=I.pin p hp
   exact⟨(hs.2 p.1 ne).trans e,n,ne,nf,d⟩
 .have TL:X.fn x=true:=by
   rcases hf with z | z
   .exact z
   .rw[z] at hk;cases hk
  obtain⟨c,hc⟩:=I.ok.has x (.inl hk);obtain⟨w',z⟩:=I.cell x c hc;refine wpAny_storeName_cell I.ok.kind hk hc z (λh' Du hs=>?_);obtain⟨oc,Wc,TM⟩:=id z;refine h { s with heap:=h' } ⟨I.ok,I.os,I.bare,⟨λb o e n hb hx=>?_,λb o e n hb hx=>?_,I.base.free,λb o e hx=>?_,I.base.tF,I.base.qS,I.base.tG⟩,⟨m,hn.sameBut hs (Ne.symm (Ff x c hc)),λj y v' e1 e2 e3=>?_⟩,λy c' e=>?_,I.free,I.freeC,λp hp=>?_,BX ⟨oc,Wc,I.freeC x c hc⟩ hs,by simpa using I.len⟩ ⟨c,hs,.inr hc⟩
  .exact (hs.2 b (aN (aL (aA e) (I.ok.O0 x c TL hc)))).trans (I.base.keep b o e n hb hx)
  .obtain⟨sl,e1⟩:=I.base.slot b o e n hb hx
   exact⟨sl,(hs.2 b (aN (aL (aA e) (I.ok.O0 x c TL hc)))).trans e1⟩
  .obtain⟨o',e1⟩:=I.base.there b o e hx
   exact⟨o',(hs.2 b (aN (aL (aA e) (I.ok.O0 x c TL hc)))).trans e1⟩
  .by_cases hj:j=i
   .subst hj
    rw[hi] at e1;cases e1;rw[cg PF] at e2;cases e2;exact⟨u,r,.inr ⟨.inl hk,c,hc,Du⟩⟩
   .rw[aK (Ne.symm hj)] at e2
    obtain⟨u',r',q⟩:=hl j y v' e1 e2 e3;refine⟨u',r',?_⟩;rcases q with q | ⟨k,c',e,z'⟩
    .exact .inl q
    .refine .inr ⟨k,c',e,z'.sameBut hs ?_⟩
     rintro rfl;exact hj (qU hN e1 (I.ok.inj _ _ _ e hc ▸ hi))
  .by_cases PH:c'=c
   .subst PH;exact⟨_,Du⟩
   .obtain⟨w2,z2⟩:=I.cell y c' e
    exact⟨w2,z2.sameBut hs PH⟩
  .obtain⟨e,n,ne,nf,d⟩:=I.pin p hp
   refine⟨(hs.2 p.1 ?_).trans e,n,ne,nf,d⟩;intro q;rw[q,Wc] at e;have q':oc=p.2:=Option.some.inj e;exact d w' (by rw[<- q'];exact TM)
theorem qV (I:Inv X pins σ H s)(hN:X.N.Nodup)(hi:X.N[i]? = some x)(hx:Loc X.env.scope x)(r:RelV v u)
  (h:∀s',Inv X pins (σ.set i (some v)) H s'->Q () s') (hf:X.fn x=true\/X.env.scope.names.lookup x=some .local:=by (first | exact .inl rfl | exact .inr rfl | assumption)):az M A (storeName X.env x u) Q E s :=
 um I hN hi hx r (λs' I' _=>h s' I') hf
theorem Inv.Kv {s':aq}{ch:List Addr}(I:Inv X pins σ H s)(ho:s'.os=s.os)(u:Un (m7 X.stack) ch H H' s.heap s'.heap)(hok:j7 X.prog X.w H' s'.heap)(hg:AllBare s'.gens)
  (BW:∀b∈ch,(b∈X.ex\/X.s₀.heap.objs.size<=b)/\b≠X.env.locals/\(∀x c,X.env.cells.lookup x=some c->c≠b)/\∀p∈X.pn++pins,p.1≠b):Inv X pins σ H' s':=by
 obtain⟨h',g',d',t',o'⟩:=s';have e:o'=s.os:=ho;subst e;exact I.call (g':=g') (t':=t') (d':=d') u hok hg BW
end
noncomputable abbrev XK:=ag->Option Addr->Hp->Prop
noncomputable abbrev St:=List (Option V)
noncomputable abbrev VK:=V->Hp->Prop
noncomputable abbrev TE:=St->Hp->VK->Prop
noncomputable abbrev TT:=St->Hp->(Bool->Hp->Prop)->Prop
noncomputable abbrev TA:=St->Hp->(List V->Hp->Prop)->Prop
structure Ends where
 nx:St->Hp->Prop
 rt:VK
 bk:St->Hp->Prop:=λ_ _=>False
 ct:St->Hp->Prop:=λ_ _=>False
noncomputable abbrev TS:=Ends->St->Hp->Prop
noncomputable def EP (X:Cx)(pins:List (Addr × Obj))(σ:St)(Q:VK)(u:ag)(s':aq):Prop:=∃v H',Inv X pins σ H' s'/\RelV v u/\Q v H'
noncomputable def TP (X:Cx)(pins:List (Addr × Obj))(σ:St)(Q:Bool->Hp->Prop)(b:Bool)(s':aq):Prop:=∃H',Inv X pins σ H' s'/\Q b H'
noncomputable def AP (X:Cx)(pins:List (Addr × Obj))(σ:St)(Q:List V->Hp->Prop)(us:List ag)(s':aq):Prop:=∃vs H',Inv X pins σ H' s'/\eh vs us/\Q vs H'
noncomputable def SP (X:Cx)(pins:List (Addr × Obj))(D:Ends)(f:Flow)(s':aq):Prop :=
 match f with
 | .next=>∃σ' H',Inv X pins σ' H' s'/\D.nx σ' H'
 | .brk=>∃σ' H',Inv X pins σ' H' s'/\D.bk σ' H'
 | .cont=>∃σ' H',Inv X pins σ' H' s'/\D.ct σ' H'
 | .ret u=>∃v σ' H',Inv X pins σ' H' s'/\RelV v u/\D.rt v H'
noncomputable def PE (X:Cx)(e:Expr)(t:TE):Prop :=
 ∀(pins:List (Addr × Obj)) (s:aq) (σ:St) (H:Hp) (Q:VK),Inv X pins σ H s->t σ H Q->az (model X.prog X.w) X.A (eval e X.env) (EP X pins σ Q) X.xe s
noncomputable def PT (X:Cx)(e:Expr)(t:TT):Prop :=
 ∀(pins:List (Addr × Obj)) (s:aq) (σ:St) (H:Hp) (Q:Bool->Hp->Prop),Inv X pins σ H s->t σ H Q->az (model X.prog X.w) X.A (isTrue e X.env (eval e X.env)) (TP X pins σ Q) X.xe s
noncomputable def PW (X:Cx)(e:Expr)(t:TT):Prop :=
 ∀(mS:Sem ag) (pins:List (Addr × Obj)) (s:aq) (σ:St) (H:Hp) (Q:Bool->Hp->Prop),Inv X pins σ H s->t σ H Q->az (model X.prog X.w) X.A (isTrue e X.env mS) (TP X pins σ Q) X.xe s
theorem PW.pt (h:PW X e t):PT X e t:=h _
noncomputable def PA (X:Cx)(es:List Expr)(t:TA):Prop :=
 ∀(pos:Pos) (pins:List (Addr × Obj)) (s:aq) (σ:St) (H:Hp) (Q:List V->Hp->Prop),Inv X pins σ H s->t σ H Q->az (model X.prog X.w) X.A (spliced (backTo pos (starEach es X.env))) (AP X pins σ Q) X.xe s
noncomputable def PS (X:Cx)(st:Stmt)(t:TS):Prop :=
 ∀(pins:List (Addr × Obj)) (s:aq) (σ:St) (H:Hp) (D:Ends),Inv X pins σ H s->t D σ H->az (model X.prog X.w) X.A (exec st X.env) (SP X pins D) X.xe s
noncomputable def zy (X:Cx)(st:List Stmt)(t:TS):Prop :=
 ∀(pins:List (Addr × Obj)) (s:aq) (σ:St) (H:Hp) (D:Ends),Inv X pins σ H s->t D σ H->az (model X.prog X.w) X.A (execs st X.env) (SP X pins D) X.xe s
theorem fM {α:Type}{t:Sem α}{Q Q':α->aq->Prop}{M:Model}{A:Around}{E:ag->aq->Prop}{s:aq}(h:az M A t Q E s)(hQ:∀a s,Q a s->Q' a s):az M A t Q' E s:=bF h hQ λ_ _ x=>x
section
variable {X:Cx}
noncomputable def Ma (i:Nat):TE:=λσ H Q=>∃v,σ[i]? = some (some v)/\Q v H
noncomputable def tC (v:V):TE:=λ_ H Q=>Q v H
theorem Mb (hN:X.N[i]? = some x)(hv:tH X.env.scope x)(hd:(x == ("__debug__" : Str))=false:=by decide)(ic:(x == ("__classdict__" : Str))=false:=by decide):PE X (.Name x pos) (Ma i):=by
 intro pins s σ H Q I h;obtain⟨v,e,h⟩:=h;obtain⟨m,hn,hl⟩:=I.loc;obtain⟨u,r,l⟩:=hl i x v hN e hv;have fin:EP X pins σ Q u s:=⟨v,H,I,r,h⟩;rcases l with⟨hk,hm⟩ | ⟨hk,c,hc,Kw⟩
 .exact wpAny_Name (wpAny_loadName_local I.ok.kind hk hn hm fin) hd
 .rcases hk with hk | hk
  .exact wpAny_Name (wpAny_loadName_cell I.ok.kind hk hc Kw fin) hd
  .exact wpAny_Name (wpAny_loadName_free I.ok.kind hk hc Kw fin ic) hd
theorem Mc {i j pos}:PE X (.Constant (.int i) j pos) (tC (.int i)):=λ_ _ _ H _ I h=>wpAny_Constant_int ⟨.int i,H,I.tok _,⟨_,rfl⟩,h⟩
theorem PJ {b j pos}:PE X (.Constant (.bool b) j pos) (tC (.bl b)):=λ_ _ _ H _ I h=>Constant_bool ⟨.bl b,H,I,rfl,h⟩
theorem Md {j pos}:PE X (.Constant .none j pos) (tC .gT):=λ_ _ _ H _ I h=>Constant_none ⟨.gT,H,I,rfl,h⟩
theorem Me {x j pos}:PE X (.Constant (.str x) j pos) (tC (.str x)):=λ_ _ _ H _ I h=>Calls.Constant_str ⟨.str x,H,I.tok _,⟨_,rfl⟩,h⟩
noncomputable def Gl (X:Cx)(x:Str):Prop:=X.env.kindOf x=some .globalImplicit
theorem nZ (I:Inv X pins σ H s)(hg:Gl X x)(hm:X.mg x=some u)(h:Q u s)
  (hd:(x == ("__debug__" : Str))=false:=by decide):az (model X.prog X.w) X.A (eval (.Name x pos) X.env) Q E s :=
 Calls.Name_function_global I.ok.kind hg (Calls.loadGlobal_global (by rw[I.ok.glob];exact I.mod.glob.keeps I.bk) hm h) hd
theorem qW (I:Inv X pins σ H s)(hg:Gl X x)(hm:X.mg x=none)(hv:bootBuiltins x=some u)(h:Q u s)
  (hn:x ≠ "__name__" := by decide) (hd:(x == ("__debug__" : Str))=false:=by decide):az (model X.prog X.w) X.A (eval (.Name x pos) X.env) Q E s:=by
 obtain⟨mb,h1,h2⟩:=I.mod.blt;exact Calls.Name_function_global I.ok.kind hg (Calls.loadGlobal_builtin (by rw[I.ok.glob];exact I.mod.glob.keeps I.bk) hm (by rw[I.ok.blt];exact h1.keeps I.bk) ((h2 x hn).trans hv) h) hd
theorem BZ {x:Str}{v:V}{u:ag}{pos:Pos}(hg:Gl X x)(hm:X.mg x=some u)(r:RelV v u)(hd:(x == ("__debug__" : Str))=false:=by decide):PE X (.Name x pos) (tC v) :=
 λ_ _ _ H _ I h=>nZ I hg hm ⟨v,H,I,r,h⟩ hd
theorem Im (hg:Gl X x)(hm:X.mg x=none)(hv:bootBuiltins x=some u)(r:RelV v u)(hn:x ≠ "__name__" := by decide)(hd:(x == ("__debug__" : Str))=false:=by decide):PE X (.Name x pos) (tC v) :=
 λ_ _ _ H _ I h=>qW I hg hm hv ⟨v,H,I,r,h⟩ hn hd
variable {a b:Expr}{ta tb:TE}{pos:Pos}
noncomputable def PC (X:Cx)(op:CmpOp)(a b:Expr)(t:TE):Prop :=
 ∀(pins:List (Addr × Obj)) (s:aq) (σ:St) (H:Hp) (Q:VK),Inv X pins σ H s->t σ H Q ->
  az (model X.prog X.w) X.A (eval a X.env) (λv s₁=>az (model X.prog X.w) X.A (eval b X.env) (λu s₂=>az (model X.prog X.w) X.A (compareOp op v u) (EP X pins σ Q) X.xe s₂) X.xe s₁) X.xe s
noncomputable def tB (t:TE):TT:=λσ H Q=>t σ H λx H1=>∃c,x=.bl c/\Q c H1
theorem Mf (h:PC X op a b t)(h1:behindInMarks op b=false:=by first | exact Fg _ (!2) (!2) | rfl):PE X (.Compare a [op] [b] pos) t:=λpins s σ H Q I hw=>wpAny_Compare1 (h pins s σ H Q I hw) h1
theorem Mg (h:PC X op a b t)(h1:behindInMarks op b=false:=by first | exact Fg _ (!2) (!2) | rfl):PT X (.Compare a [op] [b] pos) (tB t):=by
 intro pins s σ H Q I hw;refine wpAny_isTrue_Compare1 (fM (h pins s σ H _ I hw) λv s1 h1=>fM h1 λu s2 h2=>fM h2 λc s3 ⟨x,H1,I1,r1,q1⟩=>?_) h1;obtain⟨d,rfl,q⟩:=q1;cases r1;exact wpAny_truthy_bool ⟨H1,I1,q⟩
theorem Mi {e:Expr}{t:TE}(h:PE X e t)(he:∀mS,isTrue e X.env mS=(do let v <- mS;standAt e.pos;holding [v] (truthy v)):=by rw[3]):PT X e (tB t):=by
 intro pins s σ H Q I hw;refine isTrue_plain (fM (h pins s σ H _ I hw) λv s1 ⟨x,H1,I1,r1,q1⟩=>?_) (he _);obtain⟨d,rfl,q⟩:=q1;cases r1;exact wpAny_truthy_bool ⟨H1,I1,q⟩
variable {tA Io:TT}{rest:List Expr}
noncomputable def PK (t u:TT):TT:=λσ H Q=>t σ H λc H1=>if c=true then u σ H1 Q else Q false H1
noncomputable def Wd (t u:TT):TT:=λσ H Q=>t σ H λc H1=>if c=true then Q true H1 else u σ H1 Q
noncomputable def PL (t:TT):TT:=λσ H Q=>t σ H λc H1=>Q (!c) H1
theorem pw_and1 (ha:PT X a tA):PW X (.BoolOp .And [a] pos) tA:=by
 intro wh pins s σ H Q I h;refine isTrue_and (fM (ha pins s σ H Q I h) λc s1 e=>?_)
 cases c with
 | true=>exact isTrue_and_nil e
 | false=>exact e
theorem pw_or1 (ha:PT X a tA):PW X (.BoolOp .Or [a] pos) tA:=by
 intro wh pins s σ H Q I h;refine isTrue_or (fM (ha pins s σ H Q I h) λc s1 e=>?_)
 cases c with
 | false=>exact isTrue_or_nil e
 | true=>exact e
theorem pw_and (ha:PT X a tA)(hb:PW X (.BoolOp .And (b::rest) pos) Io):PW X (.BoolOp .And (a::b::rest) pos) (PK tA Io):=by
 intro wh pins s σ H Q I h;refine isTrue_and (fM (ha pins s σ H _ I h) λc s1 ⟨H1,I1,q1⟩=>?_)
 cases c with
 | true=>exact hb wh pins s1 σ H1 Q I1 q1
 | false=>exact⟨H1,I1,q1⟩
theorem pw_or (ha:PT X a tA)(hb:PW X (.BoolOp .Or (b::rest) pos) Io):PW X (.BoolOp .Or (a::b::rest) pos) (Wd tA Io):=by
 intro wh pins s σ H Q I h;refine isTrue_or (fM (ha pins s σ H _ I h) λc s1 ⟨H1,I1,q1⟩=>?_)
 cases c with
 | true=>exact⟨H1,I1,q1⟩
 | false=>exact hb wh pins s1 σ H1 Q I1 q1
theorem Mj (ha:PT X a tA):PT X (.UnaryOp .Not a pos) (PL tA):=by
 intro pins s σ H Q I h;exact isTrue_not (ha pins s σ H (λc H1=>Q (!c) H1) I h)
noncomputable def Kx (ta tb:TE):TE:=λσ H Q=>ta σ H λx H1=>∃c,x=.bl c/\if c=true then tb σ H1 Q else Q (.bl false) H1
noncomputable def Ky (ta:TE):TE:=λσ H Q=>ta σ H λx H1=>∃c,x=.bl c/\Q (.bl (!c)) H1
theorem Mk {op}(h:PE X a t):PE X (.BoolOp op [a] pos) t:=λpins s σ H Q I hw=>BoolOp_one (h pins s σ H Q I hw)
theorem Ml (ha:PE X a ta)(hb:PE X (.BoolOp .And (b::rest) pos) tb):PE X (.BoolOp .And (a::b::rest) pos) (Kx ta tb):=by
 intro pins s σ H Q I h;refine BoolOp_and (fM (ha pins s σ H _ I h) λv s1 ⟨x,H1,I1,r1,q1⟩=>?_);obtain⟨c,rfl,q1⟩:=q1;cases r1;refine wpAny_truthy_bool ?_
 cases c with
 | true=>exact hb pins s1 σ H1 Q I1 q1
 | false=>exact⟨.bl false,H1,I1,rfl,q1⟩
theorem Mm (ha:PE X a ta):PE X (.UnaryOp .Not a pos) (Ky ta):=by
 intro pins s σ H Q I h;refine UnaryOp_ (fM (ha pins s σ H _ I h) λv s1 ⟨x,H1,I1,r1,q1⟩=>?_);obtain⟨c,rfl,q1⟩:=q1;cases r1;exact not_of (wpAny_truthy_bool ⟨.bl (!c),H1,I1,rfl,q1⟩)
noncomputable def We (t:TT)(ta tb:TE):TE:=λσ H Q=>t σ H λc H1=>if c=true then ta σ H1 Q else tb σ H1 Q
theorem Fh (hc:PT X c tA)(ha:PE X a ta)(hb:PE X b tb):PE X (.IfExp c a b pos) (We tA ta tb):=by
 intro pins s σ H Q I h;refine wpAny_IfExp (fM (hc pins s σ H _ I h) λd s1 ⟨H1,I1,q1⟩=>?_)
 cases d with
 | true=>exact ha pins s1 σ H1 Q I1 q1
 | false=>exact hb pins s1 σ H1 Q I1 q1
end
noncomputable def gK (K:W.Frag)(H:Hp)(a:Addr)(xs:List V):Prop :=
 Rd H a (.lst xs) \/
  ∃(o:Obj) (its:Array ag) (n:Nat),K.lookup a=some o/\o.cls=.type "list" /\ o.dict=none/\o.data=.seq its n/\its.size<=ax/\eh xs its.toList
noncomputable def ja (K:W.Frag)(H:Hp)(a:Addr)(xs:List V):Prop :=
 Rd H a (.tup xs) \/
  ∃(o:Obj) (its:Array ag) (n:Nat),K.lookup a=some o/\o.cls=.type "tuple" /\ o.data=.seq its n/\its.size<=ax/\eh xs its.toList
noncomputable def TN:ag->Option V
 | .none=>some .gT
 | .bool b=>some (.bl b)
 | .int i _=>some (.int i)
 | .str x _=>some (.str x)
 | .bytes b _=>some (.E1 b)
 | .float b _=>some (.LZ b)
 | .ref a=>some (.ref a)
 | .type n=>some (.ty n)
 | _=>none
theorem RelV.abs (r:RelV x u):TN u=some x:=by
 cases x with
 | gT=>cases r;rfl
 | bl _=>cases r;rfl
 | int _=>obtain⟨t,rfl⟩:=r;rfl
 | str _=>obtain⟨t,rfl⟩:=r;rfl
 | E1 _=>obtain⟨t,rfl⟩:=r;rfl
 | LZ _=>obtain⟨t,rfl⟩:=r;rfl
 | ref _=>cases r;rfl
 | ty _=>cases r;rfl
theorem RelV.inj (r:RelV x u)(q:RelV y u):x=y:=Option.some.inj (r.abs.symm.trans q.abs)
theorem eh.inj:∀{xs ys:List V} {us:List ag},eh xs us->eh ys us->xs=ys
 | _,_,_,.nil,.nil=>rfl
 | _,_,_,.cons r t,.cons r' t'=>by rw[r.inj r',eh.inj t t']
section
theorem gK.of {K:W.Frag}(h:H a=some (.lst xs)):gK K H a xs:=.inl (.inl h)
theorem ja.of {K:W.Frag}(h:H a=some (.tup xs)):ja K H a xs:=.inl (.inl h)
theorem Inv.list (I:Inv X pins σ H s)(h:gK X.K H a xs):∃its:List ag,eh xs its/\PlainL s.heap a its.toArray/\xs.length<=ax:=by
 rcases h with h | ⟨o,its,n,hk,hc,hd,hs,hz,r⟩
 .obtain⟨z,its,n,r,e⟩:=h.ok I.hok
  exact⟨its,r,⟨_,n,e,rfl,rfl,rfl⟩,z⟩
 .refine⟨its.toList,r,⟨o,n,I.m8 a o hk,hc,hd,by simpa using hs⟩,?_⟩
  have e:=r.length;simp only[aT] at e;omega
theorem Inv.tuple (I:Inv X pins σ H s)(h:ja X.K H a xs):∃its:List ag,eh xs its/\IsTup s.heap a its.toArray/\xs.length<=ax:=by
 rcases h with h | ⟨o,its,n,hk,hc,hs,hz,r⟩
 .obtain⟨z,its,r,p⟩:=h.ok I.hok
  exact⟨its,r,p.tup,z⟩
 .refine⟨its.toList,r,⟨o,I.m8 a o hk,hc,n,by simpa using hs⟩,?_⟩
  have e:=r.length;simp only[aT] at e;omega
theorem Inv.xv (I:Inv X pins σ H s)(h:gK X.K H a xs)(h':gK X.K H a ys):xs=ys:=by
 obtain⟨its,r,⟨o,n,e,_,_,d⟩,_⟩:=I.list h;obtain⟨its',r',⟨o',n',e',_,_,d'⟩,_⟩:=I.list h';rw[e] at e';cases e';rw[d] at d';injection d' with d1 _;have:its=its':=by simpa using congrArg Array.toList d1
 subst this;exact r.inj r'
theorem Inv.uo (I:Inv X pins σ H s)(h:ja X.K H a xs)(h':ja X.K H a ys):xs=ys:=by
 obtain⟨its,r,⟨o,e,_,n,d⟩,_⟩:=I.tuple h;obtain⟨its',r',⟨o',e',_,n',d'⟩,_⟩:=I.tuple h';rw[e] at e';cases e';rw[d] at d';injection d' with d1 _;have:its=its':=by simpa using congrArg Array.toList d1
 subst this;exact r.inj r'
end
noncomputable abbrev Cx.pj (X:Cx)(E:ag->aq->Prop):Cx:={ X with xe:=E }
noncomputable abbrev Cx.Dv (X:Cx):Cx:=X.pj λ_ _=>False
theorem Cx.Ok.pj {X:Cx}(ok:X.Ok)(E:ag->aq->Prop):(X.pj E).Ok :=
 ⟨ok.mod,ok.kind,ok.glob,ok.blt,ok.above,ok.inj,ok.has,ok.O0,ok.hd,ok.frames,ok.Py,ok.TF,ok.bs,ok.Ik,ok.Dt,ok.Fe,ok.ph,ok.Ks⟩
theorem Cx.Ok.jZ {X:Cx}{E:ag->aq->Prop}(ok:(X.pj E).Ok):X.Ok :=
 ⟨ok.mod,ok.kind,ok.glob,ok.blt,ok.above,ok.inj,ok.has,ok.O0,ok.hd,ok.frames,ok.Py,ok.TF,ok.bs,ok.Ik,ok.Dt,ok.Fe,ok.ph,ok.Ks⟩
section
variable {X:Cx}{pins:List (Addr × Obj)}{σ:St}{H:Hp}{s:aq}{E:ag->aq->Prop}
theorem Inv.pj (I:Inv X pins σ H s)(E:ag->aq->Prop):Inv (X.pj E) pins σ H s:=⟨I.ok.pj E,I.os,I.bare,I.base,I.loc,I.cell,I.free,I.freeC,I.pin,I.hok,I.len⟩
theorem Inv.jZ (I:Inv (X.pj E) pins σ H s):Inv X pins σ H s:=⟨I.ok.jZ,I.os,I.bare,I.base,I.loc,I.cell,I.free,I.freeC,I.pin,I.hok,I.len⟩
theorem SP.jZ (h:SP (X.pj E) pins D f s'):SP X pins D f s':=by
 cases f with
 | next=>obtain⟨σ',H',I,q⟩:=h;exact⟨σ',H',I.jZ,q⟩
 | brk=>obtain⟨σ',H',I,q⟩:=h;exact⟨σ',H',I.jZ,q⟩
 | cont=>obtain⟨σ',H',I,q⟩:=h;exact⟨σ',H',I.jZ,q⟩
 | ret u=>obtain⟨v,σ',H',I,r,q⟩:=h;exact⟨v,σ',H',I.jZ,r,q⟩
theorem zy.Dv {st:List Stmt}{t:TS}(h:zy X.Dv st t):zy X st t:=λpins s σ H D I hw =>
 bF (h pins s σ H D (I.pj _) hw) (λ_ _ q=>q.jZ) λ_ _ z=>False.elim z
end
section
variable {X:Cx}{st:Stmt}{rest:List Stmt}{t u:TS}{e:Expr}{te:TE}{pos:Pos}
noncomputable def Kz:TS:=λD σ H=>D.nx σ H
noncomputable def PM (t u:TS):TS:=λD σ H=>t { D with nx:=u D } σ H
theorem Ip:zy X [] Kz:=λ_ _ σ H _ I h=>wpAny_execs_nil ⟨σ,H,I,h⟩
theorem Fi (h1:PS X st t)(h2:zy X rest u):zy X (st::rest) (PM t u):=by
 intro pins s σ H D I h;refine wpAny_execs_cons (fM (h1 pins s σ H { D with nx:=u D } I h) λf s1 q=>?_)
 cases f with
 | next =>
  obtain⟨σ',H',I',q⟩:=q;exact h2 pins s1 σ' H' D I' q
 | ret v=>exact q
 | brk=>exact q
 | cont=>exact q
theorem Iq (h1:PS X st t):zy X [st] t:=by
 intro pins s σ H D I h;refine wpAny_execs_cons (fM (h1 pins s σ H D I h) λf s1 q=>?_)
 cases f with
 | next=>exact wpAny_execs_nil q
 | ret v=>exact q
 | brk=>exact q
 | cont=>exact q
theorem Inv.quiet {pins:List (Addr × Obj)}{σ:St}{H:Hp}{s:aq}(I:Inv X pins σ H s):interactive X.env=false:=by simp[interactive,I.ok.kind]
noncomputable def KC (te:TE):TS:=λD σ H=>te σ H λ_ H1=>D.nx σ H1
theorem Ir (he:PE X e te)(hs:swapsWith e none pos.line X.env=pure false:=by rfl):PS X (.Expr e pos) (KC te):=by
 intro pins s σ H D I h;exact wpAny_Expr_any (fM (he pins s σ H _ I h) λv s1 ⟨x,H1,I1,r1,q1⟩=>⟨σ,H1,I1,q1⟩) I.quiet hs
noncomputable def PN (te:TE):TS:=λD σ H=>te σ H D.rt
theorem Mn (he:PE X e te):PS X (.Return (some e) pos) (PN te):=by
 intro pins s σ H D I h;exact wpAny_Return_some (fM (he pins s σ H _ I h) λv s1 ⟨x,H1,I1,r1,q1⟩=>⟨x,σ,H1,I1,r1,q1⟩)
noncomputable def PQ (c:TT)(t u:TS):TS:=λD σ H=>c σ H λb H1=>if b=true then t D σ H1 else u D σ H1
theorem PR (hc:PT X c tc)(ha:zy X a t)(hb:zy X b u):PS X (.If c a b pos) (PQ tc t u):=by
 intro pins s σ H D I h;refine wpAny_If (fM (hc pins s σ H _ I h) λd s1 ⟨H1,I1,q1⟩=>?_)
 cases d with
 | true=>exact ha pins s1 σ H1 D I1 q1
 | false=>exact hb pins s1 σ H1 D I1 q1
end
noncomputable abbrev TG:=V->St->Hp->(St->Hp->Prop)->Prop
noncomputable abbrev Mp:=List V->St->Hp->(St->Hp->Prop)->Prop
noncomputable def PG (X:Cx)(target:Expr)(t:TG):Prop :=
 ∀(pins:List (Addr × Obj)) (s:aq) (σ:St) (H:Hp) (v:V) (u:ag) (Q:St->Hp->Prop),Inv X pins σ H s->RelV v u->t v σ H Q ->
  az (model X.prog X.w) X.A (assign target X.env u) (λ_ s'=>∃σ' H',Inv X pins σ' H' s'/\Q σ' H') X.xe s
noncomputable def PU (X:Cx)(ts:List Expr)(t:Mp):Prop :=
 ∀(pins:List (Addr × Obj)) (s:aq) (σ:St) (H:Hp) (vs:List V) (us:List ag) (Q:St->Hp->Prop),Inv X pins σ H s->eh vs us->t vs σ H Q ->
  az (model X.prog X.w) X.A (assignInOrder ((assignEach ts X.env).map (·.2)) us) (λ_ s'=>∃σ' H',Inv X pins σ' H' s'/\Q σ' H') X.xe s
noncomputable abbrev PV:=V->V->V->Hp->(Hp->Prop)->Prop
noncomputable def Mq (X:Cx)(t:PV):Prop :=
 ∀(pins:List (Addr × Obj)) (s:aq) (σ:St) (H:Hp) (o i v:V) (ov iv u:ag) (Q:Hp->Prop),Inv X pins σ H s->RelV o ov->RelV i iv->RelV v u->t o i v H Q ->
  az (model X.prog X.w) X.A (setItem ov iv u) (λ_ s'=>∃H',Inv X pins σ H' s'/\Q H') X.xe s
section
variable {X:Cx}{pos:Pos}
noncomputable def xw (i:Nat):TG:=λv σ H Q=>Q (σ.set i (some v)) H
theorem Iu (hN:X.N.Nodup)(hi:X.N[i]? = some x)(hx:Loc X.env.scope x)(hf:X.fn x=true\/X.env.scope.names.lookup x=some .local:=by (first | exact .inl rfl | exact .inr rfl | assumption)):PG X (.Name x pos) (xw i):=by
 intro pins s σ H v u Q I r h;exact wpAny_assign_Name (qV I hN hi hx r (λs' I'=>⟨_,H,I',h⟩) hf)
noncomputable def PX:Mp:=λvs σ H Q=>vs=[]/\Q σ H
noncomputable def KD (t:TG)(u:Mp):Mp:=λvs σ H Q=>∃v r,vs=v::r/\t v σ H λσ' H'=>u r σ' H' Q
theorem Iv:PU X [] PX:=by
 intro pins s σ H vs us Q I r h;obtain⟨e,h⟩:=h;subst e;cases r;exact assignInOrder_nil ⟨σ,H,I,h⟩
theorem Fj (h1:PG X e t)(h2:PU X es u)
  (hs:(assignEach (e::es) X.env).map (·.2)=assign e X.env::(assignEach es X.env).map (·.2):=by rfl):PU X (e::es) (KD t u):=by
 intro pins s σ H vs us Q I r h;obtain⟨v,vr,e1,h⟩:=h;subst e1
 cases r with
 | cons r rr =>
  rw[hs];refine assignInOrder_cons (fM (h1 pins s σ H _ _ _ I r h) λ_ s1 ⟨σ1,H1,I1,q1⟩=>?_);exact h2 pins s1 σ1 H1 _ _ Q I1 rr q1
noncomputable def PY (K:W.Frag)(n:Nat)(t:Mp):TG:=λv σ H Q=>∃a xs,v=.ref a/\ja K H a xs/\xs.length=n/\t xs σ H Q
theorem Mr (hc:X.calm=true)(h:PU X es t)
  (hn:(assignEach es X.env).length=n:=by rfl) (xl:(assignEach es X.env).findIdx? (·.1)=none:=by rfl):PG X (.Tuple es k pos) (PY X.K n t):=by
 intro pins s σ H v u Q I r hw;obtain⟨a,xs,e1,hq,hl,hw⟩:=hw;subst e1;cases r;obtain⟨its,rv,ht,hz⟩:=I.tuple hq;refine assign_Tuple_tuple (I.ok.hd hc) ht (by simp[hn,<- hl,rv.length]) xl λh' hx=>?_;have I1:Inv X pins σ H { s with heap:=h' }:=I.kept (t':=s.toks) λb o e=>hx b o (aN (aA e)) e;exact h pins _ σ H xs _ Q I1 (by simpa using rv) hw
noncomputable def PZ (to ti:TE)(t:PV):TG:=λv σ H Q=>to σ H λo H1=>ti σ H1 λi H2=>t o i v H2 λH3=>Q σ H3
theorem Ms (ho:PE X o to)(hi:PE X i ti)(hs:Mq X t)
  (ha:∀v,assign (.Subscript o i pos) X.env v=(do
   let ov <- holding [v] (eval o X.env);let iv <- holding [v,ov] (eval i X.env)
   standAt pos
   holding [v,ov,iv] (setItem ov iv v)
   release [v,ov,iv] []):=by rw[3]):PG X (.Subscript o i pos) (PZ to ti t):=by
 intro pins s σ H v u Q I r h;rw[ha];refine aa (wpAny_holding (fM (ho pins s σ H _ I h) λov s1 ⟨x,H1,I1,r1,q1⟩=>?_));refine aa (wpAny_holding (fM (hi pins s1 σ H1 _ I1 q1) λiv s2 ⟨y,H2,I2,r2,q2⟩=>?_));refine aa (wpAny_standAt (aa (wpAny_holding (fM (hs pins s2 σ H2 x y v ov iv u _ I2 r1 r2 r q2) λ_ s3 ⟨H3,I3,q3⟩=>?_))));exact wpAny_release ⟨σ,H3,I3,q3⟩
noncomputable def Fl (te:TE)(g:TG):TS:=λD σ H=>te σ H λx H1=>g x σ H1 D.nx
theorem Mt (he:PE X e te)(hg:PG X tg g)(hs:swapsWithSole [tg] e pos.line X.env=pure false:=by rfl)(hw:swappedStores [tg] e X.env=pure none:=by rfl)
  (h1:(assignEach [tg] X.env).map (·.2)=[assign tg X.env]:=by rfl):PS X (.Assign [tg] e pos) (Fl te g):=by
 intro pins s σ H D I h;refine wpAny_Assign_stores (fM (he pins s σ H _ I h) λv s1 ⟨x,H1,I1,r1,q1⟩=>?_) hs hw;rw[h1];exact fM (hg pins s1 σ H1 x v _ I1 r1 q1) λ_ s2 q=>q
theorem Mu {i:Nat}{x:Str}{e:Expr}{te:TE}{iT:Pos}(hN:X.N.Nodup)(hi:X.N[i]? = some x)(hx:Loc X.env.scope x)(he:PE X e te)(hs:swapsWith e (some (.Name x iT)) pos.line X.env=pure false:=by rfl)(hf:X.fn x=true\/X.env.scope.names.lookup x=some .local:=by (first | exact .inl rfl | exact .inr rfl | assumption)) :
  PS X (.Assign [.Name x iT] e pos) (Fl te (xw i)):=by
 intro pins s σ H D I h;refine wpAny_Assign_Name (fM (he pins s σ H _ I h) λv s1 ⟨y,H1,I1,r1,q1⟩=>?_) hs;exact qV I1 hN hi hx r1 (λs2 I2=>⟨_,H1,I2,q1⟩) hf
end
section
noncomputable def Fm (c:TT)(tb:TS):TS:=λD σ H=>∃W:Nat->St->Hp->Prop,(∃m,W m σ H)/\∀m σ H,W m σ H ->
 c σ H λb H1=>if b=true then ∃N:St->Hp->Prop,(∀σ' H',N σ' H'->∃m',m' < m/\W m' σ' H')/\tb { D with nx:=N,ct:=N,bk:=D.nx } σ H1 else D.nx σ H1
theorem Fn (hp:PassesOwn (model X.prog X.w) X.A X.env X.xe)(hc:PT X c tc)(hb:zy X body tb):PS X (.While c body [] pos) (Fm tc tb):=by
 intro pins s σ H D I h;obtain⟨W,⟨m0,w0⟩,turn⟩:=h;refine wpAny_While (codeAny_whileLoop (λn s'=>∃σ' H',Inv X pins σ' H' s'/\W n σ' H') ?_ m0 ⟨σ,H,I,w0⟩);rintro n s1 ⟨σ1,H1,I1,w1⟩;refine wpAny_passesOwn hp (fM (hc pins s1 σ1 H1 _ I1 (turn n σ1 H1 w1)) λb s2 ⟨H2,I2,q2⟩=>?_)
 cases b with
 | true =>
  obtain⟨N,hN,q2⟩:=q2;rw[if_pos rfl];refine wpAny_passesOwn hp (fM (hb pins s2 σ1 H2 _ I2 q2) λf s3 q3=>?_)
  cases f with
  | next =>
   obtain⟨σ3,H3,I3,n3⟩:=q3;obtain⟨m',hm,w3⟩:=hN σ3 H3 n3;exact⟨m',hm,σ3,H3,I3,w3⟩
  | cont =>
   obtain⟨σ3,H3,I3,n3⟩:=q3;obtain⟨m',hm,w3⟩:=hN σ3 H3 n3;exact⟨m',hm,σ3,H3,I3,w3⟩
  | brk=>exact q3
  | ret v=>exact q3
 | false =>
  rw[if_neg aY];exact wpAny_execs_nil ⟨σ1,H2,I2,q2⟩
end
structure It where
 go:Nat->Hp->Prop
 HN:Nat->Hp->V->Hp->Prop
 stop:Nat->Hp->Prop
noncomputable def qm (X:Cx)(pins:List (Addr × Obj))(H:Hp)(b:Addr):Prop :=
 H b=none/\b≠X.env.locals/\b ∉ X.fs/\(b∈X.ex\/X.s₀.heap.objs.size<=b)/\(∀x c,X.env.cells.lookup x=some c->c≠b)/\∀p∈X.pn++pins,p.1≠b
theorem Inv.qX (I:Inv X pins σ H s)(hb:s.heap.objs.size<=b)(hn:H' b=none):qm X pins H' b:=by
 refine⟨hn,cj (aL I.lt hb),I.Pz hb,.inr (aU I.sz hb),λx c e z=>?_,λp hp z=>?_⟩
 .obtain⟨v,q⟩:=I.cell x c e
  exact absurd (aL q.lt (by rw[z];exact hb)) (bt _)
 .exact absurd (aL (aA (I.pin p hp).1) (by rw[z];exact hb)) (bt _)
structure zG (P:aP) (w:World) (K:W.Frag) (tg:Expr) (J:It) (fp:List Addr) (it:Addr) (tn:Nat->Heap->Prop):Prop where
 mem:it∈fp
 obj:∀i h,tn i h->∀b∈fp,∃o,h.get? b=some o/\∀v,o.data≠.cell v
 keep:∀i h h',tn i h->(∀b∈fp,∀o,h.get? b=some o->h'.get? b=some o)->tn i h'
 item:∀(X:Cx),X.prog=P->X.w=w->X.K=K->X.calm=true->∀(i:Nat) (pins:List (Addr × Obj)) (s:aq) (σ:St) (H:Hp) (E:ag->aq->Prop),Inv X pins σ H s->(∀b∈fp,qm X pins H b)->tn i s.heap->J.go i H ->
  az (model P w) X.A (pyNext (.ref it)) (λr s1=>∃u,r=some u /\
   az (model P w) X.A (letOwnedTupleGo tg (.ref it) u) (λ_ s2=>∃x H',Inv X pins σ H' s2/\RelV x u/\J.HN i H x H'/\tn (i+1) s2.heap/\∀b∈fp,H' b=none) E s1) E s
 done:∀(X:Cx),X.prog=P->X.w=w->X.K=K->X.calm=true->∀(i:Nat) (pins:List (Addr × Obj)) (s:aq) (σ:St) (H:Hp) (E:ag->aq->Prop),Inv X pins σ H s->(∀b∈fp,qm X pins H b)->tn i s.heap->J.stop i H ->
  az (model P w) X.A (pyNext (.ref it)) (λr s1=>r=none/\Inv X pins σ H s1) E s
 self:∀(A:Around) (i:Nat) (s:aq) (Q:ag->aq->Prop) (E:ag->aq->Prop),tn i s.heap->Q (.ref it) s->az (model P w) A (pyIter (.ref it)) Q E s
noncomputable abbrev TI:=St->Hp->(It->Hp->Prop)->Prop
noncomputable def Wf (X:Cx)(pins:List (Addr × Obj))(σ:St)(tg:Expr)(R:It->Hp->Prop)(TQ:ag)(s2:aq):Prop :=
 ∃(it:Addr) (fp:List Addr) (tn:Nat->Heap->Prop) (J:It) (H':Hp),TQ=.ref it/\Inv X pins σ H' s2/\zG X.prog X.w X.K tg J fp it tn/\tn 0 s2.heap/\(∀b∈fp,qm X pins H' b)/\R J H'
noncomputable def PI (X:Cx)(tg iter:Expr)(wi:TI):Prop :=
 ∀(pins:List (Addr × Obj)) (s:aq) (σ:St) (H:Hp) (R:It->Hp->Prop),Inv X pins σ H s->wi σ H R ->
  az (model X.prog X.w) X.A (eval iter X.env) (λv s1=>az (model X.prog X.w) X.A (pyIter v) (Wf X pins σ tg R) X.xe s1) X.xe s
theorem B0 {M:Model}{A:Around}{E:ag->aq->Prop}{s:aq}{tg:Expr}{it:Addr}{u:ag}{o:Obj}{n:String}{vs:Array ag}{Q:Unit->aq->Prop}(ho:s.heap.get? it=some o)(hc:o.cls=.type n)(hd:o.data=.fields vs)
  (hn:["enumerate", "zip", "dict_itemiterator", "dict_reverseitemiterator", "odict_iterator", "itertools.zip_longest", "itertools.pairwise"].contains n=false) (hQ:Q () s):az M A (letOwnedTupleGo tg (.ref it) u) Q E s:=by
 unfold letOwnedTupleGo
 cases tg<;>first
  | exact ai hQ
  | (cases u<;>first
    | exact ai hQ
    | (refine aa (wpAny_load ho ?_);rw[hc,hd];show az M A (if (["enumerate", "zip", "dict_itemiterator", "dict_reverseitemiterator", "odict_iterator", "itertools.zip_longest", "itertools.pairwise"].contains n && vs[0]? == some (rawInt _))=true then _ else _) Q E s;rw[if_neg (by intro h;rw[hn,Bool.false_and] at h;cases h)];exact ai hQ))
noncomputable def Iw (K:W.Frag)(a:Addr):It :=
 ⟨λi H=>∃xs x,gK K H a xs/\xs[i]? = some x,λi H x H'=>H'=H/\∀xs,gK K H a xs->xs[i]? = some x,λi H=>∃xs,gK K H a xs/\xs.length<=i⟩
noncomputable def Iy (K:W.Frag)(a:Addr):It :=
 ⟨λi H=>∃xs x,ja K H a xs/\xs[i]? = some x,λi H x H'=>H'=H/\∀xs,ja K H a xs->xs[i]? = some x,λi H=>∃xs,ja K H a xs/\xs.length<=i⟩
noncomputable def SE (lo:Int)(n:Nat):It:=⟨λi _=>i<n,λi H x H'=>H'=H/\x=.int (lo+i),λi _=>n<=i⟩
theorem uq {P:aP}{w:World}{K:W.Frag}{tg:Expr}(a it:Addr):zG P w K tg (Iw K a) [it] it (λi h=>h.IsListIter it a i) where
 mem:=by simp
 obj:=λi h st b hb=>by
  have e:b=it:=by simpa using hb
  subst e;obtain⟨o,e,c,d⟩:=st;exact⟨o,e,λv z=>by rw[d] at z;cases z⟩
 keep:=λi h h' st k=>st.at λo e=>k it (!4) o e
 item:=by
  intro X hP hw hK hc i pins s σ H E I hf st hg;subst hP hw hK;obtain⟨xs,x,hq,hx⟩:=hg;obtain⟨its,rv,p,hz⟩:=I.list hq;obtain⟨u,hu,ru⟩:=rv.get hx;obtain⟨f0,f1,f2,f3,f4,f5⟩:=hf it (!4);refine wpAny_pyNext_list_item st p.isList (x:=u) (by simpa using hu) λh' eM sb=>?_;have I1:Inv X pins σ H { s with heap:=h' }:=I.turned (t':=s.toks) (λb o hb e=>(sb.2 b hb).trans e) f0 f1 f3 f4 f5;obtain⟨o,e,c,d⟩:=id eM;exact⟨u,rfl,B0 (s:={ s with heap:=h' }) e c d (!2) ⟨x,H,I1,ru,⟨rfl,λys hy=>by rw[I.xv hy hq];exact hx⟩,eM,λb hb=>(hf b hb).1⟩⟩
 done:=by
  intro X hP hw hK hc i pins s σ H E I hf st hg;subst hP hw hK;obtain⟨xs,hq,hx⟩:=hg;obtain⟨its,rv,p,hz⟩:=I.list hq;obtain⟨f0,f1,f2,f3,f4,f5⟩:=hf it (!4);have hl:=rv.length;exact wpAny_pyNext_list_end (I.ok.hd hc) st p.isList (by simp;omega) λh' eb=>⟨rfl,I.turned (t':=s.toks) (λb o hb e=>eb b o hb e) f0 f1 f3 f4 f5⟩
 self:=λ_ _ _ _ _ st h=>wpAny_pyIter_listiter st h
theorem qY {P:aP}{w:World}{K:W.Frag}{tg:Expr}(a it:Addr):zG P w K tg (Iy K a) [it] it (λi h=>h.IsTupleIter it a i) where
 mem:=by simp
 obj:=λi h st b hb=>by
  have e:b=it:=by simpa using hb
  subst e;obtain⟨o,e,c,d⟩:=st;exact⟨o,e,λv z=>by rw[d] at z;cases z⟩
 keep:=λi h h' st k=>st.at λo e=>k it (!4) o e
 item:=by
  intro X hP hw hK hc i pins s σ H E I hf st hg;subst hP hw hK;obtain⟨xs,x,hq,hx⟩:=hg;obtain⟨its,rv,p,hz⟩:=I.tuple hq;obtain⟨u,hu,ru⟩:=rv.get hx;obtain⟨f0,f1,f2,f3,f4,f5⟩:=hf it (!4);refine wpAny_pyNext_tuple_item st (show s.heap.IsTuple a its.toArray from p) (x:=u) (by simpa using hu) λh' eM sb=>?_;have I1:Inv X pins σ H { s with heap:=h' }:=I.turned (t':=s.toks) (λb o hb e=>(sb.2 b hb).trans e) f0 f1 f3 f4 f5;obtain⟨o,e,c,d⟩:=id eM;exact⟨u,rfl,B0 (s:={ s with heap:=h' }) e c d (!2) ⟨x,H,I1,ru,⟨rfl,λys hy=>by rw[I.uo hy hq];exact hx⟩,eM,λb hb=>(hf b hb).1⟩⟩
 done:=by
  intro X hP hw hK hc i pins s σ H E I hf st hg;subst hP hw hK;obtain⟨xs,hq,hx⟩:=hg;obtain⟨its,rv,p,hz⟩:=I.tuple hq;obtain⟨f0,f1,f2,f3,f4,f5⟩:=hf it (!4);have hl:=rv.length;exact wpAny_pyNext_tuple_end (I.ok.hd hc) st (show s.heap.IsTuple a its.toArray from p) (by simp;omega) λh' eb=>⟨rfl,I.turned (t':=s.toks) (λb o hb e=>eb b o hb e) f0 f1 f3 f4 f5⟩
 self:=λ_ _ _ _ _ st h=>wpAny_pyIter_tupleiter st h
theorem zH {P:aP}{w:World}{K:PySem.W.Frag}{tg:Expr}(it:Addr)(lo:Int)(n:Nat):zG P w K tg (SE lo n) [it] it (λi h=>IsRangeIter h it (lo+(i:Nat) * 1) ((n:Int) - (i:Nat)) 1) where
 mem:=by simp
 obj:=λi h st b hb=>by
  have e:b=it:=by simpa using hb
  subst e
  exact⟨_,st,λv z=>by
   have z':Data.fields _=Data.cell v:=z;cases z'⟩
 keep:=λi h h' st k=>k it (!4) _ st
 item:=by
  intro X hP hw hK hc i pins s σ H E I hf st hg;subst hP hw hK;obtain⟨f0,f1,f2,f3,f4,f5⟩:=hf it (!4);have W:=Walks.range (prog:=X.prog) (w:=X.w) (I.ok.hd hc) it lo 1 n;refine W.item i s _ _ hg st λv h' tk hv eM kk=>?_;obtain⟨t,rfl⟩:=hv;have I1:Inv X pins σ H { s with heap:=h',toks:=tk }:=I.turned (λb o hb e=>kk b o (by simpa using hb) e) f0 f1 f3 f4 f5;refine⟨_,rfl,B0 (s:={ s with heap:=h',toks:=tk }) (n := "range_iterator") eM rfl rfl (!2) ⟨.int (lo+i),H,I1,⟨t,?_⟩,⟨rfl,rfl⟩,eM,λb hb=>(hf b hb).1⟩⟩;rw[Int.mul_one]
 done:=by
  intro X hP hw hK hc i pins s σ H E I hf st hg;subst hP hw hK;obtain⟨f0,f1,f2,f3,f4,f5⟩:=hf it (!4);exact wpAny_pyNext_range_end (I.ok.hd hc) st (by have:n<=i:=hg;omega) λh' eb=>⟨rfl,I.turned (t':=s.toks) (λb o hb e=>eb b o hb e) f0 f1 f3 f4 f5⟩
 self:=λ_ _ _ _ _ st h=>wpAny_pyIter_rangeiter st h
section
variable {X:Cx}{tg:Expr}
noncomputable def Fp (K:W.Frag)(tl:TE):TI:=λσ H R=>tl σ H λx H1=>∃a,x=.ref a/\(∃xs,gK K H1 a xs)/\R (Iw K a) H1
noncomputable def Mv (K:W.Frag)(tl:TE):TI:=λσ H R=>tl σ H λx H1=>∃a,x=.ref a/\(∃xs,ja K H1 a xs)/\R (Iy K a) H1
theorem Iz {l:Expr}{tl:TE}(hl:PE X l tl):PI X tg l (Fp X.K tl):=by
 intro pins s σ H R I h;refine fM (hl pins s σ H _ I h) λv s1 ⟨x,H1,I1,r1,q1⟩=>?_;obtain⟨a,e,⟨xs,hq⟩,q⟩:=q1;subst e;cases r1;obtain⟨its,rv,p,hz⟩:=I1.list hq;refine wpAny_pyIter_list p.isList ?_;refine⟨s1.heap.objs.size,[s1.heap.objs.size],_,_,H1,rfl,I1.kept (t':=s1.toks) λb o e=>ah _ e,uq a _,⟨_,aF _ rfl,rfl,rfl⟩,λb hb=>?_,q⟩;have e:b=s1.heap.objs.size:=by simpa using hb
 subst e;exact I1.qX (am _) (I1.hok.fresh (am _))
theorem Mw {l:Expr}{tl:TE}(hl:PE X l tl):PI X tg l (Mv X.K tl):=by
 intro pins s σ H R I h;refine fM (hl pins s σ H _ I h) λv s1 ⟨x,H1,I1,r1,q1⟩=>?_;obtain⟨a,e,⟨xs,hq⟩,q⟩:=q1;subst e;cases r1;obtain⟨its,rv,p,hz⟩:=I1.tuple hq;refine wpAny_pyIter_tuple (show s1.heap.IsTuple a its.toArray from p) ?_;refine⟨s1.heap.objs.size,[s1.heap.objs.size],_,_,H1,rfl,I1.kept (t':=s1.toks) λb o e=>ah _ e,qY a _,⟨_,aF _ rfl,rfl,rfl⟩,λb hb=>?_,q⟩;have e:b=s1.heap.objs.size:=by simpa using hb
 subst e;exact I1.qX (am _) (I1.hok.fresh (am _))
theorem Fq {pins:List (Addr × Obj)}{σ:St}{H:Hp}{s:aq}{R:It->Hp->Prop}{E:ag->aq->Prop}{lo hi:Int}{t u v:Tok}{tk:Nat}(I:Inv X pins σ H s)(h1:-(2 ^ 62)<=lo)(h2:lo<2 ^ 62)(h3:-(2 ^ 62)<=hi)(h4:hi<2 ^ 62)
  (q:R (SE lo (hi - lo).toNat) H):az (model X.prog X.w) X.A (pyIter (.ref s.heap.objs.size)) (Wf X pins σ tg R) E { s with heap:=s.heap.push { cls:=.type "range",data:=.fields #[.int lo t,.int hi u,.int 1 v] },toks:=tk }:=by
 refine wpAny_pyIter_range (IsRange.new ..) (small_one h1 h2 h3 h4) ?_;have I1:Inv X pins σ H { s with heap:=s.heap.push { cls:=.type "range",data:=.fields #[.int lo t,.int hi u,.int 1 v] },toks:=tk }:=I.kept λb o e=>ah _ e
 refine⟨(s.heap.push { cls:=.type "range",data:=.fields #[.int lo t,.int hi u,.int 1 v] }).objs.size,[(s.heap.push { cls:=.type "range",data:=.fields #[.int lo t,.int hi u,.int 1 v] }).objs.size],_,_,H,rfl,
  I1.kept (t':=tk) λb o e=>ah _ e,zH _ lo (hi - lo).toNat,?_,λb hb=>?_,q⟩
 .have e1:lo+((0:Nat):Int) * 1=lo:=by simp
  have e2:(((hi - lo).toNat:Nat):Int) - ((0:Nat):Int)=Builtin.Range.rangeSize lo hi 1:=by rw[rangeSize_one];split<;>omega
  show IsRangeIter _ _ (lo+((0:Nat):Int) * 1) ((((hi - lo).toNat:Nat):Int) - ((0:Nat):Int)) 1;rw[e1,e2];exact aF _ rfl
 .have e:b=(s.heap.push { cls:=.type "range",data:=.fields #[.int lo t,.int hi u,.int 1 v] }).objs.size:=by simpa using hb
  subst e;exact I1.qX (am _) (I1.hok.fresh (am _))
noncomputable def KH (ta:TA):TI:=λσ H R=>ta σ H λvs H1=>∃j:Int,vs=[.int j]/\-(2 ^ 62)<=j/\j<2 ^ 62/\R (SE 0 j.toNat) H1
theorem Dw (hg:Gl X "range")(hm:X.mg "range" = none)(ha:PA X [a] ta)(hs:starEach [a] X.env=[(false,eval a X.env)]:=by rfl):PI X tg (.Call (.Name "range" p) [a] [] pos) (KH ta):=by
 intro pins s σ H R I h;refine Call_ (qW I hg hm boot_range (PyProof.Rows.callWith_type1 (fM (ha pos pins s σ H _ I h) λus s1 ⟨vs,H1,I1,r1,q1⟩=>?_) hs rfl));obtain⟨j,e,q1,q2,q⟩:=q1;subst e
 cases r1 with
 | cons r rr =>
  cases rr;obtain⟨t,rfl⟩:=r;exact call_range_1 (Fq I1 (!1) (!1) q1 q2 (by simpa using q))
noncomputable def P0 (wi:TI)(g:TG)(tb:TS):TS:=λD σ H=>wi σ H λJ H1=>∃W:Nat->Nat->St->Hp->Prop,(∃m,W 0 m σ H1)/\∀i m σ H,W i m σ H ->
 (J.stop i H/\D.nx σ H)\/(J.go i H/\∃N:St->Hp->Prop,(∀σ' H',N σ' H'->∃m',m' < m/\W (i+1) m' σ' H')/\∀x H',J.HN i H x H'->g x σ H' λσ2 H2=>tb { D with nx:=N,ct:=N,bk:=D.nx } σ2 H2)
noncomputable def qZ (fp:List Addr)(h:Heap):List (Addr × Obj):=fp.filterMap λb=>(h.get? b).map λo=>(b,o)
theorem kF (hb:b∈fp)(e:h.get? b=some o):(b,o)∈qZ fp h:=de.mpr ⟨b,hb,by rw[e];rfl⟩
theorem Dx (hp:p∈qZ fp h):p.1∈fp/\h.get? p.1=some p.2:=by
 obtain⟨b,hb,e⟩:=de.mp hp
 cases q:h.get? b with
 | none=>rw[q] at e;cases e
 | some o =>
  rw[q] at e;have e':(b,o)=p:=Option.some.inj e;subst e';exact⟨hb,q⟩
theorem Inv.pinned (I:Inv X pins σ H s)(hf:∀b∈fp,qm X pins H b)(ho:∀b∈fp,∃o,s.heap.get? b=some o/\∀v,o.data≠.cell v):Inv X (pins++qZ fp s.heap) σ H s :=
 I.qz λp hp=>(aB.mp hp).elim (λz=>I.pin p (aJ _ z)) λz=>by
  obtain⟨hb,e⟩:=Dx z;obtain⟨f0,f1,f2,_⟩:=hf p.1 hb;obtain⟨o,e',d⟩:=ho p.1 hb;rw[e] at e';cases e';exact⟨e,f0,f1,f2,d⟩
theorem Inv.lE (I:Inv X (pins++pl) σ H s):Inv X pins σ H s:=I.qz λp hp=>I.pin p (aJ _ (a6 _ hp))
theorem Mx (hp:PassesOwn (model X.prog X.w) X.A X.env X.xe)(hc:X.calm=true)(hi:PI X tg iter wi)(hg:PG X tg g)(hb:zy X body tb)
  (hs:∀x,foldedSetIterable iter X.env x=pure x:=by rw[3]):PS X (.For tg iter body [] pos) (P0 wi g tb):=by
 intro pins s σ H D I h;refine wpAny_For (fM (hi pins s σ H _ I h) λv s1 h1=>fM h1 λTQ s2 h2=>?_) hs;obtain⟨it,fp,tn,J,H2,e,I2,T,IA,f2,W,⟨m0,w0⟩,turn⟩:=h2;subst e;have My:∀{H':Hp},(∀b∈fp,H' b=none)->∀b∈fp,qm X pins H' b:=λhn b hb=>⟨hn b hb,(f2 b hb).2⟩;refine codeAny_forLoop_any (λn s'=>∃i σ' H',Inv X pins σ' H' s'/\tn i s'.heap/\(∀b∈fp,H' b=none)/\W i n σ' H') ?_ m0 ⟨0,σ,H2,I2,IA,λb hb=>(f2 b hb).1,w0⟩;rintro n s3 ⟨i,σ3,H3,I3,IB,P1,w3⟩;rcases turn i n σ3 H3 w3 with⟨stop,qn⟩ | ⟨go,N,hN,step⟩
 .refine wpAny_passesOwn hp (fM (T.done X rfl rfl rfl hc i pins s3 σ3 H3 X.xe I3 (My P1) IB stop) λr s4 ⟨hr,I4⟩=>?_)
  subst hr;exact wpAny_execs_nil ⟨σ3,H3,I4,qn⟩
 .refine wpAny_passesOwn hp (fM (T.item X rfl rfl rfl hc i pins s3 σ3 H3 X.xe I3 (My P1) IB go) λr s4 ⟨u,hr,h4⟩=>?_)
  subst hr;refine wpAny_passesOwn hp (fM h4 λ_ s5 ⟨x,H5,I5,r5,y5,Mz,TR⟩=>?_);have Xq:=I5.pinned (My TR) (T.obj _ _ Mz);refine wpAny_passesOwn hp (fM (hg _ s5 σ3 H5 x u _ Xq r5 (step x H5 y5)) λ_ s6 ⟨σ6,H6,I6,q6⟩=>?_);refine wpAny_passesOwn hp (fM (hb _ s6 σ6 H6 _ I6 q6) λf s7 q7=>?_)
  have again:∀{σ7:St} {H7:Hp},Inv X (pins++qZ fp s5.heap) σ7 H7 s7->N σ7 H7->∃m,m<n/\∃i σ' H',Inv X pins σ' H' s7/\tn i s7.heap/\(∀b∈fp,H' b=none)/\W i m σ' H':=λ{σ7 H7} I7 n7=>by
   obtain⟨m',hm,w7⟩:=hN σ7 H7 n7;refine⟨m',hm,i+1,σ7,H7,I7.lE,T.keep _ _ _ Mz λb hb o e=>(I7.pin (b,o) (aJ _ (aJ _ (kF hb e)))).1,λb hb=>?_,w7⟩;obtain⟨o,e,d⟩:=T.obj _ _ Mz b hb;exact (I7.pin (b,o) (aJ _ (aJ _ (kF hb e)))).2.1
  cases f with
  | next=>obtain⟨σ7,H7,I7,n7⟩:=q7;exact again I7 n7
  | cont=>obtain⟨σ7,H7,I7,n7⟩:=q7;exact again I7 n7
  | brk=>obtain⟨σ7,H7,I7,q7⟩:=q7;exact⟨σ7,H7,I7.lE,q7⟩
  | ret v=>obtain⟨x7,σ7,H7,I7,r7,q7⟩:=q7;exact⟨x7,σ7,H7,I7.lE,r7,q7⟩
end
theorem Fs {K:PySem.W.Frag}{a:Addr}{xs:List V}{g:TG}{tb:TS}{D:Ends}{σ:St}{H:Hp}(Pv:Nat->St->Hp->Prop)(h0:Pv 0 σ H)(hl:∀i σ H,i<=xs.length->Pv i σ H->gK K H a xs)
  (hs:∀i x σ H,xs[i]? = some x->Pv i σ H->g x σ H λσ2 H2=>tb { D with nx:=Pv (i+1),ct:=Pv (i+1),bk:=D.nx } σ2 H2) (hd:∀σ H,Pv xs.length σ H->D.nx σ H) :
  ∃W:Nat->Nat->St->Hp->Prop,(∃m,W 0 m σ H)/\∀i m σ H,W i m σ H ->
   ((Iw K a).stop i H/\D.nx σ H)\/((Iw K a).go i H/\∃N:St->Hp->Prop,(∀σ' H',N σ' H'->∃m',m' < m/\W (i+1) m' σ' H')/\∀x H',(Iw K a).HN i H x H'->g x σ H' λσ2 H2=>tb { D with nx:=N,ct:=N,bk:=D.nx } σ2 H2):=by
 refine⟨λi m σ H=>m=xs.length - i/\i<=xs.length/\Pv i σ H,⟨xs.length,!4,bL _,h0⟩,?_⟩;rintro i m σ H ⟨rfl,hi,p⟩;have q:=hl i σ H hi p;by_cases iQ:i<xs.length
 .refine .inr ⟨⟨xs,xs[i],q,by simp[iQ]⟩,Pv (i+1),λσ' H' p'=>⟨xs.length - (i+1),!1,rfl,iQ,p'⟩,λx H' y=>?_⟩
  obtain⟨e,y⟩:=y;subst e;exact hs i x σ _ (y xs q) p
 .have e:i=xs.length:=by omega
  subst e;exact .inl ⟨⟨xs,q,am _⟩,hd σ H p⟩
theorem IC {K:PySem.W.Frag}{a:Addr}{xs:List V}{g:TG}{tb:TS}{D:Ends}{σ:St}{H:Hp}(Pv:Nat->St->Hp->Prop)(h0:Pv 0 σ H)(hl:∀i σ H,i<=xs.length->Pv i σ H->ja K H a xs)
  (hs:∀i x σ H,xs[i]? = some x->Pv i σ H->g x σ H λσ2 H2=>tb { D with nx:=Pv (i+1),ct:=Pv (i+1),bk:=D.nx } σ2 H2) (hd:∀σ H,Pv xs.length σ H->D.nx σ H) :
  ∃W:Nat->Nat->St->Hp->Prop,(∃m,W 0 m σ H)/\∀i m σ H,W i m σ H ->
   ((Iy K a).stop i H/\D.nx σ H)\/((Iy K a).go i H/\∃N:St->Hp->Prop,(∀σ' H',N σ' H'->∃m',m' < m/\W (i+1) m' σ' H')/\∀x H',(Iy K a).HN i H x H'->g x σ H' λσ2 H2=>tb { D with nx:=N,ct:=N,bk:=D.nx } σ2 H2):=by
 refine⟨λi m σ H=>m=xs.length - i/\i<=xs.length/\Pv i σ H,⟨xs.length,!4,bL _,h0⟩,?_⟩;rintro i m σ H ⟨rfl,hi,p⟩;have q:=hl i σ H hi p;by_cases iQ:i<xs.length
 .refine .inr ⟨⟨xs,xs[i],q,by simp[iQ]⟩,Pv (i+1),λσ' H' p'=>⟨xs.length - (i+1),!1,rfl,iQ,p'⟩,λx H' y=>?_⟩
  obtain⟨e,y⟩:=y;subst e;exact hs i x σ _ (y xs q) p
 .have e:i=xs.length:=by omega
  subst e;exact .inl ⟨⟨xs,q,am _⟩,hd σ H p⟩
noncomputable abbrev R2:=V->V->Hp->VK->Prop
noncomputable def j8 (X:Cx)(f:ag->ag->Sem ag)(r:R2):Prop :=
 ∀(pins:List (Addr × Obj)) (s:aq) (σ:St) (H:Hp) (x y:V) (v u:ag) (Q:VK),Inv X pins σ H s->RelV x v->RelV y u->r x y H Q ->
  az (model X.prog X.w) X.A (f v u) (EP X pins σ Q) X.xe s
noncomputable def SG (X:Cx)(f:ag->Sem ag)(r:V->Hp->VK->Prop):Prop :=
 ∀(pins:List (Addr × Obj)) (s:aq) (σ:St) (H:Hp) (x:V) (v:ag) (Q:VK),Inv X pins σ H s->RelV x v->r x H Q ->
  az (model X.prog X.w) X.A (f v) (EP X pins σ Q) X.xe s
noncomputable def gF (X:Cx)(f:ag)(r:List V->Hp->VK->Prop):Prop :=
 ∀(pins:List (Addr × Obj)) (s:aq) (σ:St) (H:Hp) (xs:List V) (us:List ag) (Q:VK),Inv X pins σ H s->eh xs us->r xs H Q ->
  az (model X.prog X.w) X.A (call f us) (EP X pins σ Q) X.xe s
noncomputable def ID (r:R2)(ta tb:TE):TE:=λσ H Q=>ta σ H λx H1=>tb σ H1 λy H2=>r x y H2 Q
noncomputable def Wg (r:V->Hp->VK->Prop)(ta:TE):TE:=λσ H Q=>ta σ H λx H1=>r x H1 Q
noncomputable def rI (C:Int->Int->Prop)(g:Int->Int->V):R2:=λx y H Q=>∃i j,x=.int i/\y=.int j/\C i j/\Q (g i j) H
noncomputable def HP (g:Int->Int->V):R2:=λx y H Q=>∃i j,x=.int i/\y=.int j/\Q (g i j) H
noncomputable def rU (g:Int->V):V->Hp->VK->Prop:=λx H Q=>∃i,x=.int i/\Q (g i) H
section
variable {X:Cx}{a b c:Expr}{ta tb tc:TE}{pos:Pos}
theorem MA (ha:PE X a ta)(hb:PE X b tb){pins:List (Addr × Obj)}{s:aq}{σ:St}{H:Hp}{R:V->V->Hp->Prop}(I:Inv X pins σ H s)
  (h:ta σ H λx H1=>tb σ H1 λy H2=>R x y H2) {Q:ag->aq->Prop} {f:ag->ag->Sem ag}
  (hf:∀v u s2 x y H2,Inv X pins σ H2 s2->RelV x v->RelV y u->R x y H2->az (model X.prog X.w) X.A (f v u) Q X.xe s2) :
  az (model X.prog X.w) X.A (eval a X.env) (λv s₁=>az (model X.prog X.w) X.A (eval b X.env) (λu s₂=>az (model X.prog X.w) X.A (f v u) Q X.xe s₂) X.xe s₁) X.xe s:=by
 refine fM (ha pins s σ H _ I h) λv s1 ⟨x,H1,I1,r1,q1⟩=>?_;refine fM (hb pins s1 σ H1 _ I1 q1) λu s2 ⟨y,H2,I2,r2,q2⟩=>?_;exact hf v u s2 x y H2 I2 r1 r2 q2
theorem P4 {op:Operator}{r:R2}(ho:j8 X (binaryOp op) r)(ha:PE X a ta)(hb:PE X b tb):PE X (.BinOp a op b pos) (ID r ta tb):=by
 intro pins s σ H Q I h;exact wpAny_BinOp (MA ha hb I h λv u s2 x y H2 I2 rx ry q=>ho pins s2 σ H2 x y v u Q I2 rx ry q)
theorem P5 (ho:SG X (unaryOp op) r)(ha:PE X a ta):PE X (.UnaryOp op a pos) (Wg r ta):=by
 intro pins s σ H Q I h;exact UnaryOp_ (fM (ha pins s σ H _ I h) λv s1 ⟨x,H1,I1,r1,q1⟩=>ho pins s1 σ H1 x v Q I1 r1 q1)
theorem O1 {f:ag->ag->Sem ag}{C:Int->Int->Prop}{g:Int->Int->Int}
  (rule:∀(i j:Int) (t u:Tok) (s:aq) (Q:ag->aq->Prop) (E:ag->aq->Prop),C i j->Q (.int (g i j) s.toks) { s with toks:=s.toks+1 }->az (model X.prog X.w) X.A (f (.int i t) (.int j u)) Q E s) :
  j8 X f (rI C λi j=>.int (g i j)):=by
 intro pins s σ H x y v u Q I rx ry h;obtain⟨i,j,rfl,rfl,hc,q⟩:=h;obtain⟨t,rfl⟩:=rx;obtain⟨t',rfl⟩:=ry;exact rule i j t t' s _ _ hc ⟨.int (g i j),H,I.tok _,⟨_,rfl⟩,q⟩
theorem MB {f:ag->ag->Sem ag}{g:Int->Int->Int}
  (rule:∀(i j:Int) (t u:Tok) (s:aq) (Q:ag->aq->Prop) (E:ag->aq->Prop),Q (.int (g i j) s.toks) { s with toks:=s.toks+1 }->az (model X.prog X.w) X.A (f (.int i t) (.int j u)) Q E s) :
  j8 X f (HP λi j=>.int (g i j)):=by
 intro pins s σ H x y v u Q I rx ry h;obtain⟨i,j,rfl,rfl,q⟩:=h;obtain⟨t,rfl⟩:=rx;obtain⟨t',rfl⟩:=ry;exact rule i j t t' s _ _ ⟨.int (g i j),H,I.tok _,⟨_,rfl⟩,q⟩
theorem IE {f:ag->ag->Sem ag}{g:Int->Int->Bool}
  (rule:∀(i j:Int) (t u:Tok) (s:aq) (Q:ag->aq->Prop) (E:ag->aq->Prop),Q (.bool (g i j)) s->az (model X.prog X.w) X.A (f (.int i t) (.int j u)) Q E s) :
  j8 X f (HP λi j=>.bl (g i j)):=by
 intro pins s σ H x y v u Q I rx ry h;obtain⟨i,j,rfl,rfl,q⟩:=h;obtain⟨t,rfl⟩:=rx;obtain⟨t',rfl⟩:=ry;exact rule i j t t' s _ _ ⟨.bl (g i j),H,I,rfl,q⟩
noncomputable def MC (i j:Int):Prop:=0<j/\j<1073741824
noncomputable def Ft (i j:Int):Prop:=0<=j/\j<=1000000/\i.natAbs<2 ^ 64
noncomputable def zI (i j:Int):Prop:=(-(2 ^ 64)<i/\i<2 ^ 64)\/(-(2 ^ 64)<j/\j<2 ^ 64)
theorem zI.ok (h:zI i j):IntMulOk i j:=by
 rcases h with⟨h1,h2⟩ | ⟨h1,h2⟩
 .exact .of_left (intBits_le_64 h1 h2)
 .exact .of_right (intBits_le_64 h1 h2)
theorem zJ (k:Nat):(0:Int)<=2 ^ k:=by
 rw[two_pow_cast];exact Int.natCast_nonneg _
theorem q8:j8 X (binaryOp .Add) (HP λi j=>.int (i+j)):=MB λ_ _ _ _ _ _ _ q=>add_int q
theorem MD:j8 X (binaryOp .Sub) (HP λi j=>.int (i - j)):=MB λ_ _ _ _ _ _ _ q=>sub_int q
theorem pk:j8 X (binaryOp .Mult) (rI zI λi j=>.int (i * j)):=O1 λ_ _ _ _ _ _ _ hc q=>mul_int q hc.ok
theorem qA:j8 X (binaryOp .FloorDiv) (rI MC λi j=>.int (i / j)):=O1 λi j _ _ _ _ _ hc q=>by
 have h1:(0:Int)<j:=hc.1;have h2:j<1073741824:=hc.2;exact floordiv_int (!1) (by rw[Int.fdiv_eq_ediv_of_nonneg i (!1)];exact q) (.inl (PyProof.noPylong_small (!1)))
theorem m9:j8 X (binaryOp .Mod) (rI (λ_ j=>0<j) λi j=>.int (i % j)):=O1 λi j _ _ _ _ _ hc q=>by
 have h1:(0:Int)<j:=hc;exact mod_int' (!1) (by rw[Int.fmod_eq_emod_of_nonneg i (!1)];exact q)
theorem ME:j8 X (binaryOp .Pow) (rI Ft λi j=>.int (i ^ j.toNat)):=O1 λ_ _ _ _ _ _ _ hc q=>pow_int_small hc.1 hc.2.1 hc.2.2 q
theorem MF:j8 X (binaryOp .LShift) (rI Ft λi j=>.int (i * 2 ^ j.toNat)):=O1 λ_ _ _ _ _ _ _ hc q=>lshift_int_small hc.1 hc.2.1 hc.2.2 q
theorem MG:j8 X (binaryOp .RShift) (rI (λ_ j=>0<=j) λi j=>.int (i / 2 ^ j.toNat)):=O1 λi j _ _ _ _ _ hc q =>
 rshift_int hc (by rw[Int.fdiv_eq_ediv_of_nonneg i (zJ _)];exact q)
theorem MH:j8 X (binaryOp .BitAnd) (HP λi j=>.int (Builtin.bitAnd i j)):=MB λ_ _ _ _ _ _ _ q=>and_int q
theorem Xr {f:ag->Sem ag}{g:Int->Int}
  (rule:∀(i:Int) (t:Tok) (s:aq) (Q:ag->aq->Prop) (E:ag->aq->Prop),Q (.int (g i) s.toks) { s with toks:=s.toks+1 }->az (model X.prog X.w) X.A (f (.int i t)) Q E s) :
  SG X f (rU λi=>.int (g i)):=by
 intro pins s σ H x v Q I rx h;obtain⟨i,rfl,q⟩:=h;obtain⟨t,rfl⟩:=rx;exact rule i t s _ _ ⟨.int (g i),H,I.tok _,⟨_,rfl⟩,q⟩
theorem MI:SG X (unaryOp .USub) (rU λi=>.int (-i)):=Xr λ_ _ _ _ _ q=>neg_int q
end
noncomputable def P6:V->V->Bool
 | .gT,.gT=>true | .gT,.int _=>true | .int _,.gT=>true | .gT,.bl _=>true | .bl _,.gT=>true | .gT,.str _=>true | .str _,.gT=>true
 | .int _,.int _=>true | .bl _,.bl _=>true | .str _,.str _=>true | .E1 _,.E1 _=>true
 | .int _,.str _=>true | .str _,.int _=>true | .bl _,.str _=>true | .str _,.bl _=>true
 | _,_=>false
noncomputable def Xs:R2:=λx y H Q=>P6 x y=true/\Q (.bl (decide (x=y))) H
noncomputable def Xt:R2:=λx y H Q=>P6 x y=true/\Q (.bl (!decide (x=y))) H
theorem B1:decide (V.int i=V.int j)=(i == j):=by
 rw[dE];simp
theorem Fu:decide (V.bl i=V.bl j)=(i == j):=by
 rw[dE];simp
theorem B2:decide (V.str i=V.str j)=(i == j):=by
 rw[dE];simp
theorem B3:decide (V.E1 i=V.E1 j)=(i.toList == j.toList):=by
 rw[dE];cases i;cases j;simp
section
variable {X:Cx}{a b c:Expr}{ta tb tc:TE}{pos:Pos}
theorem eX (I:Inv X pins σ H s)(q:Q (.bl k) H)(e:k=k'):EP X pins σ Q (.bool k') s:=by
 subst e;exact⟨.bl k,H,I,rfl,q⟩
theorem P7:j8 X (compareOp .Eq) Xs:=by
 intro pins s σ H x y v u Q I rx ry h;obtain⟨hs,q⟩:=h
 cases x with
 | gT =>
  cases rx
  cases y with
  | gT=>cases ry;exact PySem.EqNone.eq_none_none (eX I q (!4))
  | bl j=>cases ry;exact PySem.EqNone.eq_none_bool (eX I q (!4))
  | int j=>obtain⟨t',rfl⟩:=ry;exact PySem.EqNone.eq_none_int (eX I q (!4))
  | str j=>obtain⟨t',rfl⟩:=ry;exact PySem.EqNone.eq_none_str (eX I q (!4))
  | _=>exact absurd (show false=true from hs) aY
 | bl i =>
  cases rx
  cases y with
  | gT=>cases ry;exact PySem.EqNone.eq_bool_none (eX I q (!4))
  | bl j=>cases ry;exact eq_bool (eX I q Fu)
  | str j=>obtain⟨t',rfl⟩:=ry;exact PySem.EqMixed.eq_bool_str (eX I q (!4))
  | _=>exact absurd (show false=true from hs) aY
 | int i =>
  obtain⟨t,rfl⟩:=rx
  cases y with
  | gT=>cases ry;exact PySem.EqNone.eq_int_none (eX I q (!4))
  | int j=>obtain⟨t',rfl⟩:=ry;exact eq_int (eX I q B1)
  | str j=>obtain⟨t',rfl⟩:=ry;exact PySem.EqMixed.eq_int_str (eX I q (!4))
  | _=>exact absurd (show false=true from hs) aY
 | str i =>
  obtain⟨t,rfl⟩:=rx
  cases y with
  | gT=>cases ry;exact PySem.EqNone.eq_str_none (eX I q (!4))
  | bl j=>cases ry;exact PySem.EqMixed.eq_str_bool (eX I q (!4))
  | int j=>obtain⟨t',rfl⟩:=ry;exact PySem.EqMixed.eq_str_int (eX I q (!4))
  | str j=>obtain⟨t',rfl⟩:=ry;exact eq_str (eX I q B2)
  | _=>exact absurd (show false=true from hs) aY
 | E1 i =>
  obtain⟨t,rfl⟩:=rx
  cases y with
  | E1 j=>obtain⟨t',rfl⟩:=ry;exact W.eq_bytes (eX I q B3)
  | _=>exact absurd (show false=true from hs) aY
 | _=>cases y<;>exact absurd (show false=true from hs) aY
theorem P8:j8 X (compareOp .NotEq) Xt:=by
 intro pins s σ H x y v u Q I rx ry h;obtain⟨hs,q⟩:=h
 cases x with
 | gT =>
  cases rx
  cases y with
  | gT=>cases ry;exact PySem.EqNone.ne_none_none (eX I q (!4))
  | bl j=>cases ry;exact PySem.EqNone.ne_none_bool (eX I q (!4))
  | int j=>obtain⟨t',rfl⟩:=ry;exact PySem.EqNone.ne_none_int (eX I q (!4))
  | str j=>obtain⟨t',rfl⟩:=ry;exact PySem.EqNone.ne_none_str (eX I q (!4))
  | _=>exact absurd (show false=true from hs) aY
 | bl i =>
  cases rx
  cases y with
  | gT=>cases ry;exact PySem.EqNone.ne_bool_none (eX I q (!4))
  | bl j=>cases ry;exact ne_bool (eX I q (congrArg not Fu))
  | str j=>obtain⟨t',rfl⟩:=ry;exact PySem.EqMixed.ne_bool_str (eX I q (!4))
  | _=>exact absurd (show false=true from hs) aY
 | int i =>
  obtain⟨t,rfl⟩:=rx
  cases y with
  | gT=>cases ry;exact PySem.EqNone.ne_int_none (eX I q (!4))
  | int j=>obtain⟨t',rfl⟩:=ry;exact ne_int (eX I q (congrArg not B1))
  | str j=>obtain⟨t',rfl⟩:=ry;exact PySem.EqMixed.ne_int_str (eX I q (!4))
  | _=>exact absurd (show false=true from hs) aY
 | str i =>
  obtain⟨t,rfl⟩:=rx
  cases y with
  | gT=>cases ry;exact PySem.EqNone.ne_str_none (eX I q (!4))
  | bl j=>cases ry;exact PySem.EqMixed.ne_str_bool (eX I q (!4))
  | int j=>obtain⟨t',rfl⟩:=ry;exact PySem.EqMixed.ne_str_int (eX I q (!4))
  | str j=>obtain⟨t',rfl⟩:=ry;exact ne_str (eX I q (congrArg not B2))
  | _=>exact absurd (show false=true from hs) aY
 | E1 i =>
  obtain⟨t,rfl⟩:=rx
  cases y with
  | E1 j=>obtain⟨t',rfl⟩:=ry;exact W.ne_bytes (eX I q (congrArg not B3))
  | _=>exact absurd (show false=true from hs) aY
 | _=>cases y<;>exact absurd (show false=true from hs) aY
theorem P9:j8 X (compareOp .Lt) (HP λi j=>.bl (decide (i<j))):=IE λ_ _ _ _ _ _ _ q=>lt_int q
theorem P':j8 X (compareOp .LtE) (HP λi j=>.bl (decide (i<=j))):=IE λ_ _ _ _ _ _ _ q=>le_int q
theorem KP:j8 X (compareOp .Gt) (HP λi j=>.bl (decide (j<i))):=IE λ_ _ _ _ _ _ _ q=>gt_int q
theorem Qa:j8 X (compareOp .GtE) (HP λi j=>.bl (decide (j<=i))):=IE λ_ _ _ _ _ _ _ q=>ge_int q
theorem j8.or {f:ag->ag->Sem ag}{r r':R2}(h:j8 X f r)(h':j8 X f r'):j8 X f (λx y H Q=>r x y H Q\/r' x y H Q):=by
 intro pins s σ H x y v u Q I rx ry q;rcases q with q | q
 .exact h pins s σ H x y v u Q I rx ry q
 .exact h' pins s σ H x y v u Q I rx ry q
theorem lF (b:Expr)(h:op≠.In:=by decide)(h2:op≠.NotIn:=by decide):behindInMarks op b=false:=by
 have e1:(op == CmpOp.In)=false:=by cases op<;>first | rfl | exact absurd rfl h
 have e2:(op == CmpOp.NotIn)=false:=by cases op<;>first | rfl | exact absurd rfl h2
 cases b<;>simp[behindInMarks,e1,e2]
theorem IF {op:CmpOp}{r:R2}(ho:j8 X (compareOp op) r)(ha:PE X a ta)(hb:PE X b tb)(hm:behindInMarks op b=false):PE X (.Compare a [op] [b] pos) (ID r ta tb):=by
 intro pins s σ H Q I h;exact wpAny_Compare1 (MA ha hb I h λv u s2 x y H2 I2 rx ry q=>ho pins s2 σ H2 x y v u Q I2 rx ry q) hm
noncomputable def KQ (t:TE):TT:=λσ H Q=>t σ H λx H'=>∃k,x=.bl k/\Q k H'
theorem IG (ho:j8 X (compareOp op) r)(ha:PE X a ta)(hb:PE X b tb)(hm:behindInMarks op b=false):PT X (.Compare a [op] [b] pos) (KQ (ID r ta tb)):=by
 intro pins s σ H Q I h
 refine wpAny_isTrue_Compare1 (fM (ha pins s σ H _ I h) λv s1 ⟨x,H1,I1,r1,q1⟩=>fM (hb pins s1 σ H1 _ I1 q1) λu s2 ⟨y,H2,I2,r2,q2⟩ =>
  fM (ho pins s2 σ H2 x y v u _ I2 r1 r2 q2) λc s3 ⟨z,H3,I3,r3,k,e,q3⟩=>?_) hm
 subst e;cases r3;exact wpAny_truthy_bool ⟨H3,I3,q3⟩
theorem vI:(ax:Nat)<2 ^ 63:=by rw[sizeLine_eq];decide
theorem zK:j8 X (binaryOp .Add) (λx y H Q=>∃i j,x=.str i/\y=.str j/\i.length+j.length<=ax/\Q (.str (i++j)) H):=by
 intro pins s σ H x y v u Q I rx ry h;obtain⟨i,j,rfl,rfl,hz,q⟩:=h;obtain⟨t,rfl⟩:=rx;obtain⟨t',rfl⟩:=ry;exact add_str (λt' tk=>⟨.str (i++j),H,I.tok _,⟨_,rfl⟩,q⟩) hz
theorem vals1 (r:eh [x] us):∃u,us=[u]/\RelV x u:=by
 cases r with
 | cons r1 r2=>cases r2;exact⟨_,rfl,r1⟩
theorem vals2 (r:eh [x,y] us):∃u w',us=[u,w']/\RelV x u/\RelV y w':=by
 cases r with
 | cons r1 r2 =>
  cases r2 with
  | cons r3 r4=>cases r4;exact⟨_,_,rfl,r1,r3⟩
theorem Dy (hc:X.calm=true):gF X (.builtin "max") (λxs H Q=>∃i j,xs=[.int i,.int j]/\Q (.int (if j > i then j else i)) H):=by
 intro pins s σ H xs us Q I r h;obtain⟨i,j,rfl,q⟩:=h;obtain⟨u,w',rfl,⟨t,rfl⟩,⟨t',rfl⟩⟩:=vals2 r;refine max_two_ints (I.ok.hd hc) λh' tk k=>⟨_,H,I.kept k,?_,q⟩;by_cases hj:j > i
 .rw[if_pos hj,if_pos hj];exact⟨_,rfl⟩
 .rw[if_neg hj,if_neg hj];exact⟨_,rfl⟩
theorem Dz (hc:X.calm=true):gF X (.builtin "min") (λxs H Q=>∃i j,xs=[.int i,.int j]/\Q (.int (if j<i then j else i)) H):=by
 intro pins s σ H xs us Q I r h;obtain⟨i,j,rfl,q⟩:=h;obtain⟨u,w',rfl,⟨t,rfl⟩,⟨t',rfl⟩⟩:=vals2 r;refine min_two_ints (I.ok.hd hc) λh' tk k=>⟨_,H,I.kept k,?_,q⟩;by_cases hj:j<i
 .rw[if_pos hj,if_pos hj];exact⟨_,rfl⟩
 .rw[if_neg hj,if_neg hj];exact⟨_,rfl⟩
theorem DA:gF X (.type "int") (λxs H Q=>(∃i,xs=[.int i]/\Q (.int i) H)\/∃k,xs=[.bl k]/\Q (.int (if k then 1 else 0)) H):=by
 intro pins s σ H xs us Q I r h;rcases h with⟨i,rfl,q⟩ | ⟨k,rfl,q⟩
 .obtain⟨u,rfl,t,rfl⟩:=vals1 r
  exact call_int_int ⟨.int i,H,I,⟨_,rfl⟩,q⟩
 .obtain⟨u,rfl,r1⟩:=vals1 r
  cases r1;exact call_int_bool ⟨.int (if k then 1 else 0),H,I.tok _,⟨_,rfl⟩,q⟩
end
structure MJ (h:Heap) (x dx C:Addr) (mA:Str->Option ag):Prop where
 obj:h.get? x=some (W.instObj C dx)
 ns:h.Ns1 dx mA
 ne:dx≠x
theorem pq {h:Heap}{dx:Addr}{mA:Str->Option ag}(n:h.Ns1 dx mA):∃od,h.get? dx=some od/\∀name,W.lookIn name od=some (mA name):=by
 obtain⟨o,es,ep,ho,hd,hk,_,hm⟩:=n;refine⟨o,ho,λname=>?_⟩;have e:=hm name;unfold nsFind findBy at e;rw[<- Array.find?_toList] at e;unfold W.lookIn;rw[hd];dsimp only;split
 .rename_i y q
  rw[q] at e;exact congrArg some e
 .rename_i q
  rw[q] at e
  have a:es.toList.any (·.refKey)=false:=by
   rw[List.any_eq_false];intro y hy;obtain⟨z,t,MK⟩:=hk y (Array.mem_toList_iff.mp hy);simp[DictEntry.refKey,MK]
  have a':¬ es.toList.any (·.refKey)=true:=by rw[a];exact aY
  rw[if_neg a'];exact congrArg some e
theorem MJ.look (I:MJ h x dx C mA):∃od,W.InstAt h x (W.instObj C dx) C (some od)/\∀name,W.lookIn name od=some (mA name) :=
 let ⟨od,ho,hl⟩:=pq I.ns
 ⟨od,⟨I.obj,rfl,rfl,ho⟩,hl⟩
noncomputable def DB (f:Str)(v:V):List (Str × V)->List (Str × V)
 | []=>[(f,v)]
 | (g,x)::r=>if g=f then (g,v)::r else (g,x)::DB f v r
theorem pW (f g:Str)(v:V):∀fs:List (Str × V),(DB f v fs).lookup g=if g=f then some v else fs.lookup g
 | []=>by
  show c8 g [(f,v)]=_;by_cases h:g=f
  .have hb:(g == f)=true:=beq_iff_eq.mpr h
   simp only[c8,hb,if_pos h]
  .have hb:(g == f)=false:=beq_eq_false_iff_ne.mpr h
   simp only[c8,hb,if_neg h]
 | (k,x)::r=>by
  have ih:=pW f g v r;rw[show DB f v ((k,x)::r)=(if k=f then (k,v)::r else (k,x)::DB f v r) from rfl];by_cases hk:k=f
  .rw[if_pos hk]
   by_cases h:g=k
   .have hb:(g == k)=true:=beq_iff_eq.mpr h
    simp only[c8,hb,if_pos (h.trans hk)]
   .have hb:(g == k)=false:=beq_eq_false_iff_ne.mpr h
    simp only[c8,hb,if_neg (λe:g=f=>h (e.trans hk.symm))]
  .rw[if_neg hk]
   by_cases h:g=k
   .have hb:(g == k)=true:=beq_iff_eq.mpr h
    simp only[c8,hb,if_neg (λe:g=f=>hk (h.symm.trans e))]
   .have hb:(g == k)=false:=beq_eq_false_iff_ne.mpr h
    simp only[c8,hb];exact ih
theorem mL.some_of (r:mL (some v) o):∃u,o=some u/\RelV v u:=by
 cases o with
 | none=>exact (show False from r).elim
 | some u=>exact⟨u,rfl,r⟩
theorem DC (r:RelV v u):W.handedIn u=true:=by
 cases v with
 | gT=>cases (show u=ag.none from r);rfl
 | bl b=>cases (show u=ag.bool b from r);rfl
 | int i=>obtain⟨t,e⟩:=(show ∃t,u=ag.int i t from r);cases e;rfl
 | str x=>obtain⟨t,e⟩:=(show ∃t,u=ag.str x t from r);cases e;rfl
 | E1 b=>obtain⟨t,e⟩:=(show ∃t,u=ag.bytes b t from r);cases e;rfl
 | LZ b=>obtain⟨t,e⟩:=(show ∃t,u=ag.float b t from r);cases e;rfl
 | ref a=>cases (show u=ag.ref a from r);rfl
 | ty n=>cases (show u=ag.type n from r);rfl
section
theorem IH (hok:j7 P w H h)(e:H a=some (.ins C dx fs)):∃mA,MJ h a dx C mA/\(∀f,mL (fs.lookup f) (mA f))/\PySem.Within mA (fs.map (·.1))/\fs.length<=1000/\H dx=some (.own a):=by
 obtain⟨d,z,ne,ob,mA,n,r,q⟩:=(show fy P w H h a (.ins C dx fs) from hok a _ e);exact⟨mA,⟨ob,n,ne⟩,r,q,z,d⟩
end
structure TU (K:W.Frag) (C:Addr):Prop where
 pg:W.plainGet K C Str.empty=true
 hd:W.hasDictIn K C=true
 po:W.plainOver K C=true
 sa:W.findIn K (.ref C) "__setattr__" = some (some (.builtin "object.__setattr__"))
theorem TU.get {K:W.Frag}{C:Addr}(c:TU K C)(f:Str):W.plainGet K C f=true:=c.pg
section
theorem II {prog:aP}{w:World}{env:Env}{e:Expr}{f:Str}{pos:Pos}{s:aq}{Q:ag->aq->Prop}(hb:attributeBase e f env (eval e env)=eval e env)
  (h:az (model prog w) A (eval e env) (λo s₁=>az (model prog w) A (getAttr o f true) Q E s₁) E s):az (model prog w) A (eval (.Attribute e f pos) env) Q E s :=
 Attribute_any_ h (by rw[arm_eval_Attribute,hb])
end
section
inductive mM (K:W.Frag) (H:Hp):V->ag->Prop where
 | gT:mM K H .gT (.type "NoneType")
 | bl (x:Bool):mM K H (.bl x) (.type "bool")
 | int (i:Int):mM K H (.int i) (.type "int")
 | str (x:Str):mM K H (.str x) (.type "str")
 | LZ (x:UInt64):mM K H (.LZ x) (.type "float")
 | lst {a:Addr} {xs:List V} (e:H a=some (.lst xs)):mM K H (.ref a) (.type "list")
 | qR {a:Addr} {o:Obj} {xs:List V} (e:H a=some (.qR o (.lst xs))):mM K H (.ref a) (.type "list")
 | tup {a:Addr} {xs:List V} (e:H a=some (.tup xs)):mM K H (.ref a) (.type "tuple")
 | dK {a:Addr} {kvs:List (Key × V)} (e:H a=some (.dK kvs)):mM K H (.ref a) (.type "dict")
 | dT {a:Addr} {kvs:List (List Key × V)} (e:H a=some (.dT kvs)):mM K H (.ref a) (.type "dict")
 | ins {a C dx:Addr} {fs:List (Str × V)} (e:H a=some (.ins C dx fs)) (cl:TU K C) (ha:W.findIn K (.ref C) "__class__" = some (some (.builtin "object.__class__")))
   (hn:W.specialIn K (.builtin "object.__class__") "__get__" = some (some (.builtin "getset_descriptor.__get__"))) (Wh:W.takesIn K (.builtin "object.__class__")=some true)
   (hm:W.mroIn K C (.type "object")=some true):mM K H (.ref a) (.ref C)
theorem DD {x:V}{u t:ag}(I:Inv X pins σ H s)(rx:RelV x u)(ty:mM X.K H x t)(e:W.kitOne X.K t c=some b)(h:∀tk,Q (.bool b) { s with toks:=tk }) :
  az (model X.prog X.w) A (call (.builtin "isinstance") [u,c]) Q E s:=by
 cases ty with
 | gT=>cases (show u=ag.none from rx);exact W.kia_one W.kitx_none I.m8 True.intro e (λz=>nomatch z) h
 | bl y=>cases (show u=ag.bool y from rx);exact W.kia_one W.kitx_bool I.m8 True.intro e (λz=>nomatch z) h
 | int i=>obtain⟨t,q⟩:=(show ∃t,u=ag.int i t from rx);cases q;exact W.kia_one W.kitx_int I.m8 True.intro e (λz=>nomatch z) h
 | str y=>obtain⟨t,q⟩:=(show ∃t,u=ag.str y t from rx);cases q;exact W.kia_one W.kitx_str I.m8 True.intro e (λz=>nomatch z) h
 | LZ y=>obtain⟨t,q⟩:=(show ∃t,u=ag.float y t from rx);cases q;exact W.kia_one W.kitx_float I.m8 True.intro e (λz=>nomatch z) h
 | @lst a xs ea =>
  cases (show u=ag.ref a from rx);obtain⟨_,_,n,_,h1⟩:=(show fy X.prog X.w H s.heap a (.lst xs) from I.hok a _ ea);exact W.kia_one W.kitx_list I.m8 ⟨_,h1,rfl⟩ e (λz=>nomatch z) h
 | @qR a ob xs ea =>
  cases (show u=ag.ref a from rx);obtain⟨_,_,_,n,_,h1⟩:=(show fy X.prog X.w H s.heap a (.qR ob (.lst xs)) from I.hok a _ ea);exact W.kia_one W.kitx_list I.m8 ⟨_,h1,rfl⟩ e (λz=>nomatch z) h
 | @tup a xs ea =>
  cases (show u=ag.ref a from rx);obtain⟨_,_,_,p⟩:=(show fy X.prog X.w H s.heap a (.tup xs) from I.hok a _ ea);obtain⟨o,h1,h2,_⟩:=p;exact W.kia_one W.kitx_tuple I.m8 ⟨o,h1,h2⟩ e (λz=>nomatch z) h
 | @dK a kvs ea =>
  cases (show u=ag.ref a from rx);obtain⟨_,_,vs,_,p⟩:=(show fy X.prog X.w H s.heap a (.dK kvs) from I.hok a _ ea);obtain⟨o,es,ep,h1,h2,_⟩:=p;exact W.kia_one W.kitx_dict I.m8 ⟨o,h1,h2.1⟩ e (λz=>nomatch z) h
 | @dT a kvs ea =>
  cases (show u=ag.ref a from rx);obtain⟨_,_,xs,_,o,es,ep,h1,h2,_⟩:=(show fy X.prog X.w H s.heap a (.dT kvs) from I.hok a _ ea);exact W.kia_one W.kitx_dict I.m8 ⟨o,h1,h2.1⟩ e (λz=>nomatch z) h
 | @ins a C dx fs ea cl ha hn Wh hm =>
  cases (show u=ag.ref a from rx);obtain⟨mA,O,_⟩:=IH I.hok ea;obtain⟨od,J,_⟩:=O.look;exact W.kia_one (W.kitx_own (cl.get _) cl.hd ha hn Wh hm) I.m8 J e (λz=>nomatch z) h
end
structure fw (k:Nat) (A:Around):Prop where
 hd:A.handled=none
 dp:A.depth+3 * k+5<recursionLimit
 un:A.units+16 * k+200<cLine
 gd:A.guards=some []
theorem fw.mono (r:fw k A)(h:j<=k):fw j A:=⟨r.hd,by have:=r.dp;omega,by have:=r.un;omega,r.gd⟩
theorem fw.deeper (r:fw (k+1) A)(env:Env):fw k (A.deeper env) :=
 ⟨r.hd,by have:=r.dp;show A.depth+1+3 * k+5<_;omega,by have:=r.un;show A.units+3+16 * k+200<_;omega,r.gd⟩
theorem zL {A:Around}{C:Addr}{us:List ag}{kw:List (Str × ag)}:(A.under (.builtin "type.__call__" ⟨.ref C::us,kw⟩)).depth=A.depth+1:=by
 first | rfl | simp[Around.under,Code.weight,Code.isCreation,Code.isGuard,Code.isCaller,Code.frames,Code.isFrame,guardIds]
theorem zM {A:Around}{C:Addr}{us:List ag}{kw:List (Str × ag)}:(A.under (.builtin "type.__call__" ⟨.ref C::us,kw⟩)).units=A.units+1:=by
 first | rfl | simp[Around.under,Code.cUnits,Code.frames,Code.isFrame]
theorem fw.make (r:fw (k+1) A)(C:Addr)(us:List ag)(kw:List (Str × ag)):fw k (A.under (.builtin "type.__call__" ⟨.ref C::us,kw⟩)) :=
 ⟨r.hd,by have:=r.dp;rw[zL];omega,by have:=r.un;rw[zM];omega,by first | exact r.gd | (have:=r.gd;simpa [Around.under,Code.isGuard,guardIds] using this)⟩
theorem fw.depth (r:fw k A):A.depth<recursionLimit:=by have:=r.dp;omega
theorem fw.units (r:fw k A):A.units+64<cLine:=by have:=r.un;omega
noncomputable def ML:TA:=λ_ H Q=>Q [] H
noncomputable def Fv (ta:TE)(tr:TA):TA:=λσ H Q=>ta σ H λx H1=>tr σ H1 λxs H2=>Q (x::xs) H2
section
variable {X:Cx}{e:Expr}{es:List Expr}{te:TE}{t:TA}{pos:Pos}
theorem MM:PA X [] ML:=λ_ _ _ _ H Q I h=>Calls.spliced_nil ⟨[],H,I,.nil,h⟩
theorem IJ (ha:PE X e te)(hr:PA X es t)(hs:starEach (e::es) X.env=(false,eval e X.env)::starEach es X.env:=by rfl):PA X (e::es) (Fv te t):=by
 intro pos pins s σ H Q I h;rw[hs];show az _ _ (spliced ((false,eval e X.env)::backTo pos (starEach es X.env))) _ _ s;refine Calls.spliced_cons (fM (ha pins s σ H _ I h) λu s1 ⟨x,H1,I1,r1,q1⟩=>?_);exact fM (hr pos pins s1 σ H1 _ I1 q1) λus s2 ⟨xs,H2,I2,r2,q2⟩=>⟨x::xs,H2,I2,.cons r1 r2,q2⟩
noncomputable def Qb (t:TA):TE:=λσ H Q=>t σ H λxs H1=>xs.length<=ax/\∀p,H1 p=none->Q (.ref p) (eZ H1 p (.tup xs))
noncomputable def Qc (t:TA):TE:=λσ H Q=>t σ H λxs H1=>xs.length<=ax/\∀p,H1 p=none->Q (.ref p) (eZ H1 p (.lst xs))
theorem MN {x1}(h:PA X es t):PE X (.Tuple es x1 pos) (Qb t):=by
 intro pins s σ H Q I hq;refine wpAny_Tuple_spliced (fM (h pos pins s σ H _ I hq) λus s1 ⟨xs,H1,I1,r,z,q⟩=>⟨by rw[<- r.length];exact z,?_⟩);have hf:H1 s1.heap.objs.size=none:=I1.hok.fresh (am _);refine⟨.ref s1.heap.objs.size,eZ H1 s1.heap.objs.size (.tup xs),I1.laid (t':=s1.toks) (λb u e=>ah _ e) (am _) ?_,rfl,q _ hf⟩;exact⟨z,us,r,⟨_,aF _ rfl,rfl,_,rfl,rfl⟩⟩
theorem MO (h:PA X es t):PE X (.List es pos) (Qc t):=by
 intro pins s σ H Q I hq;refine wpAny_List_spliced (fM (h pos pins s σ H _ I hq) λus s1 ⟨xs,H1,I1,r,z,q⟩=>⟨by rw[<- r.length];exact z,?_⟩);have hf:H1 s1.heap.objs.size=none:=I1.hok.fresh (am _);refine⟨.ref s1.heap.objs.size,eZ H1 s1.heap.objs.size (.lst xs),I1.laid (t':=s1.toks) (λb u e=>ah _ e) (am _) ?_,rfl,q _ hf⟩;exact⟨z,us,0,r,aF _ rfl⟩
end
noncomputable abbrev Sp:=List V->Hp->VK->XK->Prop
noncomputable abbrev E3:=List Env->Hp->aq->XK->ag->aq->Prop
structure zN (P:aP) (w:World) (K:W.Frag) (mg:Str->Option ag) (base:Heap) (A:Around) (outer:List Env) (s:aq) (H:Hp):Prop where
 frames:A.frames=some outer
 mod:Mod K mg base
 bs:∀b o,base.get? b=some o->s.heap.get? b=some o/\H b=none
 Ik:base.objs.size<=s.heap.objs.size
 ph:s.heap.FunFrames base outer
 Ks:∀b∈m7 outer,H b=none
 hok:j7 P w H s.heap
 bare:AllBare s.gens
noncomputable def CE (outer:List Env)(P:aP)(w:World)(H:Hp)(s:aq)(Q:VK)(u:ag)(s':aq):Prop :=
 ∃v H',s'.os=s.os/\AllBare s'.gens/\Un (m7 outer) [] H H' s.heap s'.heap/\j7 P w H' s'.heap/\RelV v u/\Q v H'
noncomputable def CR (CX:E3)(outer:List Env)(P:aP)(w:World)(H:Hp)(s:aq)(Q:VK)(E:XK)(r:Result)(s':aq):Prop :=
 match r with
 | .ok (.ret u)=>CE outer P w H s Q u s'
 | .ok _=>False
 | .error e=>CX outer H s E e s'
structure i5 (P:aP) (w:World) (K:W.Frag) (mg:Str->Option ag) (base:Heap) (CX:E3) (k:Nat) (f:Addr) (fd:bG) (ps:List Str) (sp:Sp):Prop where
 len:∀vs H Q E,sp vs H Q E->vs.length=ps.length
 run:∀(A:Around) (outer:List Env) (s:aq) (H:Hp) (args:Args) (us:List ag) (vs:List V) (Q:VK) (E:XK),fw k A->zN P w K mg base A outer s H->BindsTo s fd args (ps.zip us)->eh vs us->sp vs H Q E ->
  codeAny (model P w) A (.call (.ref f) args) (CR CX outer P w H s Q E) s
theorem i5.mono {P:aP}{w:World}{K:W.Frag}{mg:Str->Option ag}{base:Heap}{CX:E3}{j k:Nat}{f:Addr}{fd:bG}{ps:List Str}{sp:Sp}(F:i5 P w K mg base CX j f fd ps sp)(h:j<=k) :
  i5 P w K mg base CX k f fd ps sp:=⟨F.len,λA outer s H args us vs Q E hr=>F.run A outer s H args us vs Q E (hr.mono h)⟩
theorem i5.imp {P:aP}{w:World}{K:W.Frag}{mg:Str->Option ag}{base:Heap}{CX:E3}{k:Nat}{f:Addr}{fd:bG}{ps:List Str}{sp Qd:Sp}(F:i5 P w K mg base CX k f fd ps sp)
  (h:∀vs H Q E,Qd vs H Q E->sp vs H Q E):i5 P w K mg base CX k f fd ps Qd :=
 ⟨λvs H Q E q=>F.len vs H Q E (h _ _ _ _ q),λA outer s H args us vs Q E hr he hb hv hs=>F.run A outer s H args us vs Q E hr he hb hv (h _ _ _ _ hs)⟩
theorem zN.make {P:aP}{w:World}{K:W.Frag}{mg:Str->Option ag}{base:Heap}{A:Around}{outer:List Env}{s:aq}{H:Hp}(e:zN P w K mg base A outer s H)(C:Addr)(us:List ag)(kw:List (Str × ag)) :
  zN P w K mg base (A.under (.builtin "type.__call__" ⟨.ref C::us,kw⟩)) outer s H:=⟨by first | exact e.frames | (simpa [Around.under,Code.envs,Code.isFrame,pushEnvs] using e.frames),e.mod,e.bs,e.Ik,e.ph,e.Ks,e.hok,e.bare⟩
section
theorem Inv.MP (I:Inv X pins σ H s):zN X.prog X.w X.K X.mg X.base X.A X.stack s H :=
 ⟨I.ok.frames,I.ok.mod,I.bs,aU I.ok.Ik I.sz,I.stack,I.qy,I.hok,I.bare⟩
theorem Inv.after {Q:VK}{u:ag}(I:Inv X pins σ H s)(h:CE X.stack X.prog X.w H s Q u s'):EP X pins σ Q u s':=by
 obtain⟨v,H',os,bare,un,hok,r,q⟩:=h;obtain⟨hh,g,d,t,TV⟩:=s';obtain rfl:TV=s.os:=os;exact⟨v,H',I.call (h':=hh) (g':=g) (d':=d) (t':=t) (ch:=[]) un hok bare (λb z=>absurd z (!4)),r,q⟩
end
noncomputable def xx (sp:Sp)(MQ:List V)(E:XK)(t:TA):TE:=λσ H Q=>t σ H λvs H1=>sp (vs++MQ) H1 Q E
noncomputable def Binds (K:W.Frag)(fd:bG)(ps:List Str)(ds:List ag):Prop :=
 ∀(s:aq) (us:List ag),K.In s.heap->(us++ds).length=ps.length->BindsTo s fd ⟨us,[]⟩ (ps.zip (us++ds))
theorem Binds.all {K:W.Frag}{fd:bG}{ps:List Str}(h:∀us:List ag,us.length=ps.length->bindArgs fd ⟨us,[]⟩=pure (ps.zip us)):Binds K fd ps []:=λs us _ hl=>by
 rw[bg] at hl ⊢;exact .of_eq (h us hl)
noncomputable def zO (CX:E3)(X:Cx)(E:XK):Prop:=∀(pins:List (Addr × Obj)) (σ:St) (H:Hp) (s:aq) (e:ag) (s':aq),Inv X pins σ H s->CX X.stack H s E e s'->X.xe e s'
section
theorem MR {pins:List (Addr × Obj)}{σ:St}{H:Hp}{s:aq}{Q:VK}{us:List ag}{vs:List V}(F:i5 X.prog X.w X.K X.mg X.base CX k f fd ps sp)(hr:fw k X.A)(hb:Binds X.K fd ps ds)(hd:eh MQ ds)(hx:zO CX X E)
  (I:Inv X pins σ H s) (r:eh vs us) (h:sp (vs++MQ) H Q E):az (model X.prog X.w) X.A (call (.ref f) us) (EP X pins σ Q) X.xe s:=by
 have r2:eh (vs++MQ) (us++ds):=r.append hd;have hl:(us++ds).length=ps.length:=by rw[<- r2.length];exact F.len _ _ _ _ h
 refine wpAny_call (codeAny_mono (F.run X.A X.stack s H ⟨us,[]⟩ (us++ds) (vs++MQ) Q E hr I.MP (hb s us I.m8 hl) r2 h) λr s' hq=>?_)
 cases r with
 | error e=>exact hx pins σ H s e s' I hq
 | ok fl =>
  cases fl with
  | ret u=>exact I.after hq
  | next=>exact False.elim hq
  | brk=>exact False.elim hq
  | cont=>exact False.elim hq
theorem B4 (F:i5 X.prog X.w X.K X.mg X.base CX k f fd ps sp)(hr:fw k X.A)(hg:Gl X x)(hm:X.mg x=some (.ref f))(hk:W.keepIn X.K (.ref f)=true)(hb:Binds X.K fd ps ds)(hd:eh MQ ds)(hx:zO CX X E)
  (ha:PA X (e::es) t) (jw:(x == ("__debug__" : Str))=false:=by decide) (he:starEach (e::es) X.env=(false,eval e X.env)::starEach es X.env:=by rfl) (mT:(backTo pos (starEach es X.env)).any (·.1)=false:=by rfl) :
  PE X (.Call (.Name x p) (e::es) [] pos) (xx sp MQ E t):=by
 intro pins s σ H Q I h;refine wpAny_Call_Name_kw (nZ I hg hm ?_ jw);refine W.callWith_K (h₀:=X.base) I.ok.mod.Px hk (fM (ha pos pins s σ H _ I h) λus s1 ⟨vs,H1,I1,r,q⟩=>⟨I1.m8,?_⟩) he mT;exact MR F hr hb hd hx I1 r q
end
structure fh (N P:List Str) (sc:Scope):Prop where
 kind:sc.kind=.function
 co:sc.isCoroutine=false
 gen:sc.isGenerator=false
 nd:N.Nodup
 pre:N.take P.length=P
 par:∀x∈P,sc.names.lookup x=some .local\/sc.names.lookup x=some .cell
 MS:∀y∈sc.names,y.2≠.free
theorem uu {kindOf:Str->Option aM}{x:Str}:∀{binds:List (Str × ag)} {m:Str->Option ag},(∀v,(x,v) ∉ binds)->bindL kindOf binds m x=m x
 | [],_,_=>rfl
 | (n,v)::r,m,h=>by
  unfold bindL;rw[uu λw hw=>h w (ao _ hw)];split
  .have:x≠n:=by rintro rfl;exact h v ar
   simp[this]
  .rfl
theorem uw {kindOf:Str->Option aM}{x:Str}:∀{binds:List (Str × ag)} {m:Str->Option ag},(∀v,(x,v) ∉ binds)->bindC kindOf binds m x=m x
 | [],_,_=>rfl
 | (n,v)::r,m,h=>by
  unfold bindC;rw[uw λw hw=>h w (ao _ hw)];split
  .rfl
  .have:x≠n:=by rintro rfl;exact h v ar
   simp[this]
theorem ux {kindOf:Str->Option aM}{x:Str}{v:ag}:∀{P:List Str} {vs:List ag} {i:Nat} {m:Str->Option ag},P.Nodup->P[i]? = some x->vs[i]? = some v->kindOf x=some .local ->
  bindL kindOf (P.zip vs) m x=some v
 | [],_,_,_,_,h,_,_=>by simp at h
 | _::_,[],_,_,_,_,h,_=>by simp at h
 | p::P,w::vs,0,m,nd,h1,h2,hk=>by
  simp at h1 h2;subst h1;subst h2;show bindL kindOf ((p,w)::P.zip vs) m p=_;unfold bindL;rw[uu λv hv=>(bN.mp nd).1 (List.of_mem_zip hv).1,if_pos hk];simp
 | p::P,w::vs,i+1,m,nd,h1,h2,hk=>by
  show bindL kindOf ((p,w)::P.zip vs) m x=_;unfold bindL;exact ux (i:=i) (bN.mp nd).2 (by simpa using h1) (by simpa using h2) hk
theorem uy {kindOf:Str->Option aM}{x:Str}{v:ag}:∀{P:List Str} {vs:List ag} {i:Nat} {m:Str->Option ag},P.Nodup->P[i]? = some x->vs[i]? = some v->kindOf x≠some .local ->
  bindC kindOf (P.zip vs) m x=some v
 | [],_,_,_,_,h,_,_=>by simp at h
 | _::_,[],_,_,_,_,h,_=>by simp at h
 | p::P,w::vs,0,m,nd,h1,h2,hk=>by
  simp at h1 h2;subst h1;subst h2;show bindC kindOf ((p,w)::P.zip vs) m p=_;unfold bindC;rw[uw λv hv=>(bN.mp nd).1 (List.of_mem_zip hv).1,if_neg hk];simp
 | p::P,w::vs,i+1,m,nd,h1,h2,hk=>by
  show bindC kindOf ((p,w)::P.zip vs) m x=_;unfold bindC;exact uy (i:=i) (bN.mp nd).2 (by simpa using h1) (by simpa using h2) hk
noncomputable def start (N:List Str)(vs:List V):St:=vs.map some++List.replicate (N.length - vs.length) none
noncomputable def kG (CX:E3)(P:aP)(w:World)(K:W.Frag)(mg:Str->Option ag)(base:Heap)(N:List Str)(fu:Str)(scope:Scope)(f:Addr)(cd:ag)(A:Around)(outer:List Env)(s:aq)(H:Hp)(E:XK):Cx where
 prog:=P
 w:=w
 K:=K
 mg:=mg
 base:=base
 A:=A.deeper (envOfC fu scope s.heap.objs.size f cd)
 N:=N
 s₀:=s
 H₀:=H
 env:=envOfC fu scope s.heap.objs.size f cd
 outer:=outer
 stack:=envOfC fu scope s.heap.objs.size f cd::outer
 ex:=[]
 calm:=true
 fn:=λ_=>true
 pn:=[]
 xe:=λe s'=>az (model P w) (A.deeper (envOfC fu scope s.heap.objs.size f cd)) (leaving (envOfC fu scope s.heap.objs.size f cd) e) (λ_ KR=>CX outer H s E e KR) (λe' KR=>CX outer H s E e' KR) s'
theorem xy {sc:Scope}{n:Nat}{x:Str}(h:sc.names.lookup x=some .cell):∃c,(cellsFrom n sc.names []).lookup x=some c:=by
 have q:=W.cellsFrom_some sc.names n [] (.inl h);exact b9.mp q
theorem DE {CX:E3}{P:aP}{w:World}{K:W.Frag}{mg:Str->Option ag}{base:Heap}{N ps:List Str}{fu:Str}{scope:Scope}{f:Addr}{cd:ag}{A:Around}{outer:List Env}{s s1:aq}{H:Hp}{E:XK}{us:List ag}{vs:List V}
  (S:fh N ps scope) (hd:A.handled=none) (e0:zN P w K mg base A outer s H) (hl:vs.length=ps.length) (r:eh vs us)
  (x:InCallC s s.heap.objs.size (bindL (envOfC fu scope s.heap.objs.size f cd).kindOf (ps.zip us) λ_=>none) (cellsFrom (s.heap.objs.size+1) scope.names []) (bindC (envOfC fu scope s.heap.objs.size f cd).kindOf (ps.zip us) λ_=>none) s1) :
  Inv (kG CX P w K mg base N fu scope f cd A outer s H E) [] (start N vs) H s1:=by
 have mT:ps.length<=N.length:=by have:=congrArg List.length S.pre;rw[bQ] at this;omega
 obtain⟨h1,tk,rfl,hk⟩:=x.done;have Qe:∀b:Addr,b ∉ (kG CX P w K mg base N fu scope f cd A outer s H E).ex:=λb z=>absurd (show b∈([]:List Addr) from z) (!4)
 refine⟨⟨e0.mod,S.kind,rfl,rfl,am _,λy z c h1 h2=>?_,λy hy=>?_,λy c _ h=>?_,λ_=>hd,Around.frames_deeper e0.frames,.inr ⟨rfl,rfl⟩,λb z=>absurd z (Qe b),e0.bs,e0.Ik,λb _ _=>Qe b,λb z=>absurd z (Qe b),e0.ph,e0.Ks⟩,
  rfl,e0.bare,Un.kept hk,⟨_,x.toInCall.ns,λi y v h1 h2 h3=>?_⟩,λy c h=>⟨_,x.cell y c h⟩,e0.hok.fresh (am _),λy c h=>?_,λp hp=>absurd (show p∈([]:List (Addr × Obj)) from hp) (!4),e0.hok.kept hk,?_⟩
 .exact name_of_addr x.apart (PySem.mem_of_lookup h1) (PySem.mem_of_lookup h2)
 .have hy:scope.names.lookup y=some .cell\/scope.names.lookup y=some .free:=hy
  rcases hy with hy | hy
  .exact xy hy
  .exact absurd rfl (S.MS _ (PySem.mem_of_lookup hy))
 .exact dw (x.above y c (PySem.mem_of_lookup h))
 .have hi:i<vs.length:=by
   unfold start at h2;by_cases hi:i<vs.length
   .exact hi
   .rw[bJ (by simpa using hi)] at h2
    rw[cC] at h2;split at h2<;>cases h2
  have ha:vs[i]? = some v:=by
   unfold start at h2;rw[bM (by simpa using hi),aC] at h2
   cases e:vs[i]? with
   | none=>rw[e] at h2;cases h2
   | some a=>rw[e] at h2;cases h2;rfl
  obtain⟨u,hu,rv⟩:=r.get ha
  have hp:ps[i]? = some y:=by
   rw[<- S.pre,List.getElem?_take_of_lt (!1)];exact h1
  have Wi:ps.Nodup:=by rw[<- S.pre];exact S.nd.sublist (List.take_sublist _ _)
  refine⟨u,rv,?_⟩;rcases S.par y (bO hp) with k | k
  .exact .inl ⟨k,ux Wi hp hu k⟩
  .obtain⟨c,e⟩:=xy (n:=s.heap.objs.size+1) k
   refine .inr ⟨.inl k,c,e,?_⟩;have q:=x.cell y c e;rw[uy Wi hp hu (by show scope.names.lookup y≠_;rw[k];decide)] at q;exact q
 .exact e0.hok.fresh (dw (x.above y c (PySem.mem_of_lookup h)))
 .unfold start
  show _=N.length;rw[aI,ak,cY];omega
theorem KU {CX:E3}{P:aP}{w:World}{K:W.Frag}{mg:Str->Option ag}{base:Heap}{k:Nat}{f:Addr}{name fu:Str}{params:Arguments}{body:List Stmt}{scope:Scope}{dV kV q9 pm fz ct oc:ag}{an od:Option Addr}
  {zP:Array (Option ag)} {N ps:List Str} {sp:Sp} (lk:K.lookup f=some ⟨oc,od,.func (W.fnOf name fu params body scope dV kV q9 pm an fz ct),zP⟩) (ic:W.codeIn K fz fu=true) (S:fh N ps scope)
  (len:∀vs H Q E,sp vs H Q E->vs.length=ps.length)
  (rf:∀(A:Around) (outer:List Env) (s:aq) (H:Hp) (vs:List V) (Q:VK) (E:XK),fw k (A.deeper (envOfC fu scope s.heap.objs.size f fz))->sp vs H Q E ->
   ∃t,zy (kG CX P w K mg base N fu scope f fz A outer s H E) body t/\t { nx:=λ_ H'=>Q .gT H',rt:=Q } (start N vs) H) :
  i5 P w K mg base CX (k+1) f (W.fnOf name fu params body scope dV kV q9 pm an fz ct) ps sp:=by
 refine⟨len,λA outer s H args us vs Q E hr e0 hb r zQ=>?_⟩;have hl:=len _ _ _ _ zQ;have KX:K.In s.heap:=e0.mod.Px.keeps λb o e=>(e0.bs b o e).1;have Xu:s.heap.NoLimit:=e0.mod.nolimit.keeps λb o e=>(e0.bs b o e).1
 have Qf:∀y∈ps.zip us,scope.names.lookup y.1=some .local\/(scope.names.lookup y.1=some .cell/\((cellsFrom (s.heap.objs.size+1) scope.names []).lookup y.1).isSome=true):=λ⟨n,v⟩ hy=>by
  rcases S.par n (List.of_mem_zip hy).1 with q | q
  .exact .inl q
  .exact .inr ⟨q,W.cellsFrom_some _ _ _ (.inl q)⟩
 refine codeAny_call_function hr.depth (KX _ _ lk) rfl S.co S.gen rfl (W.codeRec_of KX ic) (hb _ _ _ _ ?_);refine wpAny_newFunctionEnv_cells S.kind Qf λenv he s1 x=>?_;subst he;refine⟨Xu.keeps x.toInCall.keep,codeAny_func ?_⟩;obtain⟨t,ht,hq⟩:=rf A outer s H vs Q E (hr.deeper _) zQ;have I:Inv (kG CX P w K mg base N fu scope f fz A outer s H E) [] (start N vs) H s1:=DE S hr.hd e0 hl r x;refine bF (ht [] s1 (start N vs) H _ I hq) (λfl s' hs=>?_) λe s' hs=>hs
 have fin:∀{σ':St} {H':Hp} {v:V} {u:ag},Inv (kG CX P w K mg base N fu scope f fz A outer s H E) [] σ' H' s'->RelV v u->Q v H'->CE outer P w H s Q u s' :=
  λ{σ' H' v u} J rv q=>⟨v,H',J.os,J.bare,J.base,J.hok,rv,q⟩
 cases fl with
 | ret u =>
  obtain⟨v,σ',H',J,rv,q⟩:=hs;exact fin J rv q
 | next =>
  obtain⟨σ',H',J,q⟩:=hs;exact fin (v:=V.gT) (u:=ag.none) J rfl q
 | brk =>
  obtain⟨_,_,_,q⟩:=hs;exact False.elim q
 | cont =>
  obtain⟨_,_,_,q⟩:=hs;exact False.elim q
section
variable {X:Cx}{x:Str}{p pos:Pos}{e:Expr}{es:List Expr}{t:TA}{id T:String}{r:List V->Hp->VK->Prop}
noncomputable def Qg (r:List V->Hp->VK->Prop)(t:TA):TE:=λσ H Q=>t σ H λvs H1=>r vs H1 Q
theorem Fw (hc:gF X (.builtin id) r)(hg:Gl X x)(hm:X.mg x=none)(hv:bootBuiltins x=some (.builtin id))(ha:PA X (e::es) t)(hn:x ≠ "__name__" := by decide)(jw:(x == ("__debug__" : Str))=false:=by decide)
  (he:starEach (e::es) X.env=(false,eval e X.env)::starEach es X.env:=by rfl) (mT:(backTo pos (starEach es X.env)).any (·.1)=false:=by rfl):PE X (.Call (.Name x p) (e::es) [] pos) (Qg r t):=by
 intro pins s σ H Q I h;refine wpAny_Call_Name_kw (qW I hg hm hv ?_ hn jw);exact PyProof.Rows.callWith_builtin1 (fM (ha pos pins s σ H _ I h) λus s1 ⟨vs,H1,I1,r1,q1⟩=>hc pins s1 σ H1 vs us Q I1 r1 q1) he mT
theorem DF (hc:gF X (.type T) r)(hg:Gl X x)(hm:X.mg x=none)(hv:bootBuiltins x=some (.type T))(ha:PA X (e::es) t)(hn:x ≠ "__name__" := by decide)(jw:(x == ("__debug__" : Str))=false:=by decide)
  (he:starEach (e::es) X.env=(false,eval e X.env)::starEach es X.env:=by rfl) (mT:(backTo pos (starEach es X.env)).any (·.1)=false:=by rfl):PE X (.Call (.Name x p) (e::es) [] pos) (Qg r t):=by
 intro pins s σ H Q I h;refine wpAny_Call_Name_kw (qW I hg hm hv ?_ hn jw);exact PyProof.Rows.callWith_type1 (fM (ha pos pins s σ H _ I h) λus s1 ⟨vs,H1,I1,r1,q1⟩=>hc pins s1 σ H1 vs us Q I1 r1 q1) he mT
end
end L2
namespace HT
open PySem PyProof.Rows
section
theorem IK {t b:Addr}{vs ws:List ag}{Q:ag->aq->Prop}(ht:IsTup s.heap t vs.toArray)(hb:IsTup s.heap b ws.toArray)(hv:vs≠[])
  (h1:ws=[]->Q (.ref t) s) (h2:ws≠[]->Q (.ref s.heap.objs.size) { s with heap:=s.heap.push { cls:=.type "tuple",data:=.seq (vs++ws).toArray } })
  (hsz:vs.length+ws.length<=ax):az (model prog w) A (binaryOp .Add (.ref t) (.ref b)) Q E s:=by
 obtain⟨⟨cls,dd,data,sl⟩,ho,hc,n,hd⟩:=id ht;obtain⟨⟨TX,SH,data2,O2⟩,DG,KY,n2,HQ⟩:=id hb;simp only at hc hd KY HQ;subst hc hd KY HQ;have e:vs.toArray++ws.toArray=(vs++ws).toArray:=by simp
 by_cases hw:ws=[]
 .exact concat_meets ⟨_,ho,rfl⟩ ⟨_,DG,rfl⟩ noFill_tuple_add seq_tuple_add PySem.F.slot_tuple_add PySem.F.entry_tuple_add (PySem.F.args_tuple_add_2 _ _)
   (tuple_addW1 t b vs.toArray ws.toArray n n2 dd SH sl O2 (by simpa using hv) (by simp[hw])) ⟨ho,DG,h1 hw⟩
 .refine concat_meets ⟨_,ho,rfl⟩ ⟨_,DG,rfl⟩ noFill_tuple_add seq_tuple_add PySem.F.slot_tuple_add PySem.F.entry_tuple_add (PySem.F.args_tuple_add_2 _ _)
   (tuple_addW2 t b vs.toArray ws.toArray n n2 dd SH sl O2 (by simpa using hv) (by simpa using hw) (by rw[aD,aD];exact hsz)) ⟨ho,DG,?_⟩
  rw[e];exact h2 hw
noncomputable def gL (n d:Nat):Option Int->Nat
 | none=>d
 | some v=>if v<0 then (v+(n:Int)).toNat else min v.toNat n
theorem Fy (n d:Nat):gL n d none=d:=rfl
theorem IL (n d k:Nat):gL n d (some (k:Int))=min k n:=by
 show (if (k:Int)<0 then ((k:Int)+(n:Int)).toNat else min (k:Int).toNat n)=min k n;rw[if_neg (!1),br]
theorem MT (n d:Nat)(hd:d<=n)(o:Option Int):gL n d o<=n:=by
 cases o with
 | none=>exact hd
 | some v =>
  show (if v<0 then (v+(n:Int)).toNat else min v.toNat n)<=n;by_cases hv:v<0
  .rw[if_pos hv];omega
  .rw[if_neg hv];exact Nat.min_le_right _ _
theorem B5 (v:Int)(n d:Nat):(if v<0 then max (v+(n:Int)) 0 else min v (n:Int))=((gL n d (some v):Nat):Int):=by
 show (if v<0 then max (v+(n:Int)) 0 else min v (n:Int))=(((if v<0 then (v+(n:Int)).toNat else min v.toNat n):Nat):Int);by_cases hv:v<0
 .simp only[if_pos hv];omega
 .simp only[if_neg hv];omega
theorem zR (lo hi:Option Int)(n:Nat):Builtin.Slice.sliceAdjust lo hi 1 (n:Int)=(((gL n 0 lo:Nat):Int),((gL n n hi:Nat):Int)):=by
 have h1:¬ ((1:Int)<0):=by omega
 unfold Builtin.Slice.sliceAdjust;simp only[h1,if_false];refine Prod.ext ?_ ?_
 .cases lo with
  | none=>rfl
  | some v=>exact B5 v n 0
 .cases hi with
  | none=>rfl
  | some v=>exact B5 v n n
theorem zS (i j:Nat):Builtin.Slice.slicePlaces (i:Int) (j:Int) 1=j - i:=by
 unfold Builtin.Slice.slicePlaces;have h1:(1:Int) > 0:=by omega
 simp only[h1,if_true,Int.ediv_one];split<;>omega
theorem rg (p:IsPart v o)(h:Q o s):az (model prog w) A (Builtin.Slice.slicePartIndex v) Q E s:=by
 cases p with
 | none=>exact slicePart_none h
 | int i t=>exact slicePart_int h
theorem kc {sl:Addr}{vl vu:ag}{lo hi:Option Int}{n:Nat}{Q:Int × Int × Nat->aq->Prop}(hs:s.heap.IsSliceOf sl vl vu .none)(pl:IsPart vl lo)(pu:IsPart vu hi)
  (h:Q (((gL n 0 lo:Nat):Int),1,gL n n hi - gL n 0 lo) s):az (model prog w) A (Builtin.Slice.sliceApplied (.ref sl) (pure (n:Int))) Q E s:=by
 obtain⟨os,MU,SI,Qh⟩:=id hs;unfold Builtin.Slice.sliceApplied Builtin.Slice.sliceFields;refine aa (aa (wpAny_field MU Qh (x:=vl) rfl (aa (wpAny_field MU Qh (x:=vu) rfl (aa (wpAny_field MU Qh (x:=.none) rfl (ai ?_)))))));refine aa (slicePart_none ?_);show az _ _ (if ((1:Int) == 0)=true then _ else _) _ _ s;rw[if_neg (!2)];refine aa (rg pl (aa (rg pu (aa (ai ?_)))));show az _ _ (match Builtin.Slice.sliceAdjust lo hi 1 (n:Int) with | (lo,hi)=>pure (lo,(1:Int),Builtin.Slice.slicePlaces lo hi 1)) _ _ s;rw[zR lo hi n];show az _ _ (pure (((gL n 0 lo:Nat):Int),(1:Int),Builtin.Slice.slicePlaces ((gL n 0 lo:Nat):Int) ((gL n n hi:Nat):Int) 1)) _ _ s;rw[zS];exact ai h
theorem Fz (xs:Array ag)(i k:Nat):((List.range k).filterMap λ(m:Nat)=>xs[((i:Int)+(m:Int) * 1).toNat]?).toArray=((xs.toList.drop i).take k).toArray:=by
 have e:(λ(m:Nat)=>xs[((i:Int)+(m:Int) * 1).toNat]?)=λm=>xs[i+m]? := by
  funext m;have:((i:Int)+(m:Int) * 1).toNat=i+m:=by omega
  rw[this]
 rw[e];have:=pick_run xs i k;rw[List.filterMap_map] at this;have e2:((λx=>xs[x]?) ∘ λx=>i+x)=λm=>xs[i+m]? := rfl;rw[e2] at this;rw[this]
theorem n6 {t sl:Addr}{items:Array ag}{vl vu:ag}{lo hi:Option Int}{Q:ag->aq->Prop}(ht:IsTup s.heap t items)(hs:s.heap.IsSliceOf sl vl vu .none)(pl:IsPart vl lo)(pu:IsPart vu hi)
  (hw:¬ (gL items.size 0 lo=0/\gL items.size items.size hi=items.size))
  (h:Q (.ref s.heap.objs.size) { s with heap:=s.heap.push { cls:=.type "tuple",data:=.seq ((items.toList.drop (gL items.size 0 lo)).take (gL items.size items.size hi - gL items.size 0 lo)).toArray } })
  (hsz:items.size<=ax):az (model prog w) A (getItem (.ref t) (.ref sl)) Q E s:=by
 have B6:sizeOk (.seq ((items.toList.drop (gL items.size 0 lo)).take (gL items.size items.size hi - gL items.size 0 lo)).toArray):=by
  show ((items.toList.drop (gL items.size 0 lo)).take (gL items.size items.size hi - gL items.size 0 lo)).toArray.size<=ax;rw[aD,bQ,cZ,aT];omega
 have hj:gL items.size items.size hi<=items.size:=MT _ _ (am _) hi;obtain⟨os,MU,SI,Qh⟩:=id hs;have TY:s.TypeIs (.ref sl) "slice" := ⟨os,MU,SI⟩;unfold getItem;try with_reducible refine wpAny_holding ?_
 first | refine aa (ai ?_) | skip
 refine aa (wpAny_sequenceKey ht.typeIs (!2) ?_)
 refine aa (wpAny_callSpecial?_slot (name:=Str.ofString "__getitem__") ht.typeIs PyProof.Rows.slot_tuple_getitem
  (wpAny_call_entry PyProof.Rows.slot_tuple_getitem ht.typeIs entry_tuple_getitem ?_ (args_tuple_getitem _ _)))
 show az _ _ (Builtin.Tuple.tupleItemsOf (.ref t) >>= _) _ _ s;refine aa (tupleItemsOf_ ht ?_);refine aa (wpAny_typeOf TY ?_);rw[if_pos (!2)];refine aa (kc hs pl pu ?_)
 have Xv:¬ ((((gL items.size 0 lo:Nat):Int) == 0 && (1:Int) == 1 && (gL items.size items.size hi - gL items.size 0 lo) == items.size)=true):=by
  intro q;rw[bv,bv] at q;have q1:((gL items.size 0 lo:Nat):Int)=0:=eq_of_beq q.1.1;have q2:gL items.size items.size hi - gL items.size 0 lo=items.size:=eq_of_beq q.2;exact hw ⟨!1,!1⟩
 show az _ _ (if (((gL items.size 0 lo:Nat):Int) == 0 && (1:Int) == 1 && (gL items.size items.size hi - gL items.size 0 lo) == items.size)=true then _ else _) _ _ s;rw[if_neg Xv,Fz]
 first
  | exact aa (m:=Builtin.Tuple.tupleExact _) (be (ai ⟨_,rfl,ai h⟩) B6)
  | exact aa (m:=Builtin.Tuple.tupleExact _) (be (aa (ai (ai ⟨_,rfl,ai h⟩))) B6)
  | exact aa (aa (m:=Builtin.Tuple.tupleExact _) (be (ai (ai ⟨_,rfl,ai h⟩)) B6))
  | exact aa (aa (m:=Builtin.Tuple.tupleExact _) (be (ai ⟨_,rfl,ai h⟩) B6))
end
end HT
namespace L2
open PySem PySem.Spec PyProof.Rows
noncomputable abbrev TO:=St->Hp->(Option Int->Hp->Prop)->Prop
noncomputable def PO (X:Cx)(e:Option Expr)(t:TO):Prop :=
 ∀(pins:List (Addr × Obj)) (s:aq) (σ:St) (H:Hp) (Q:Option Int->Hp->Prop),Inv X pins σ H s->t σ H Q ->
  az (model X.prog X.w) X.A (evalPart e X.env) (λu s'=>∃o H',Inv X pins σ H' s'/\IsPart u o/\Q o H') X.xe s
noncomputable def B7:TO:=λ_ H Q=>Q none H
noncomputable def KZ (t:TE):TO:=λσ H Q=>t σ H λx H1=>∃i,x=.int i/\Q (some i) H1
section
variable {X:Cx}{e:Expr}{te:TE}{lo hi:Option Expr}{tl th:TO}{pos p2:Pos}
theorem IM:PO X none B7:=by
 intro pins s σ H Q I h;rw[evalPart_none];exact ai ⟨none,H,I,.none,h⟩
theorem IP (h:PE X e te):PO X (some e) (KZ te):=by
 intro pins s σ H Q I hw;rw[evalPart_some];refine fM (h pins s σ H _ I hw) λu s1 ⟨x,H1,I1,r1,q1⟩=>?_;obtain⟨i,rfl,q⟩:=q1;obtain⟨t,rfl⟩:=r1;exact⟨some i,H1,I1,.int i t,q⟩
noncomputable def HR (X:Cx)(r:V->Option Int->Option Int->Hp->VK->Prop):Prop :=
 ∀(pins:List (Addr × Obj)) (s:aq) (σ:St) (H:Hp) (x:V) (v vl vu:ag) (lo hi:Option Int) (sl:Addr) (Q:VK),Inv X pins σ H s->RelV x v->s.heap.IsSliceOf sl vl vu .none->IsPart vl lo->IsPart vu hi->r x lo hi H Q ->
  ∃T id,typeLookup (.type T) "__getitem__" = pure (some (.builtin id))/\s.TypeIs v T/\az (model X.prog X.w) X.A (getItem v (.ref sl)) (EP X pins σ Q) X.xe s
theorem HR.or (h:HR X r)(h':HR X r'):HR X (λx lo hi H Q=>r x lo hi H Q\/r' x lo hi H Q):=by
 intro pins s σ H x v vl vu lo hi sl Q I rx hs pl pu q;rcases q with q | q
 .exact h pins s σ H x v vl vu lo hi sl Q I rx hs pl pu q
 .exact h' pins s σ H x v vl vu lo hi sl Q I rx hs pl pu q
noncomputable def Wj (r:V->Option Int->Option Int->Hp->VK->Prop)(te:TE)(tl th:TO):TE:=λσ H Q=>te σ H λx H1=>tl σ H1 λl H2=>th σ H2 λu H3=>r x l u H3 Q
theorem FA {r:V->Option Int->Option Int->Hp->VK->Prop}(hr:HR X r)(he:PE X e te)(hl:PO X lo tl)(hu:PO X hi th):PE X (.Subscript e (.Slice lo hi none p2) pos) (Wj r te tl th):=by
 intro pins s σ H Q I h;refine Subscript_ (fM (he pins s σ H _ I h) λv s1 ⟨x,H1,I1,r1,q1⟩=>?_);refine wpAny_Slice (fM (hl pins s1 σ H1 _ I1 q1) λvl s2 ⟨l,H2,I2,pl,q2⟩=>fM (hu pins s2 σ H2 _ I2 q2) λvu s3 ⟨u,H3,I3,pu,q3⟩=>?_);rw[evalPart_none];refine ai ?_;have I4:Inv X pins σ H3 { s3 with heap:=s3.heap.push { cls:=.type "slice",data:=.fields #[vl,vu,.none] } }:=I3.kept (t':=s3.toks) λb ob q=>ah _ q;obtain⟨T,id,hT,ht,hg⟩:=hr pins { s3 with heap:=s3.heap.push { cls:=.type "slice",data:=.fields #[vl,vu,.none] } } σ H3 x v vl vu l u s3.heap.objs.size Q I4 r1 (Heap.IsSliceOf.new ..) pl pu q3;show az (model X.prog X.w) X.A (subscriptTail e (.Slice lo hi none p2) v (.ref s3.heap.objs.size)) (EP X pins σ Q) X.xe { s3 with heap:=s3.heap.push { cls:=.type "slice",data:=.fields #[vl,vu,.none] } };exact tail_any (ops:=[.ref s3.heap.objs.size,v]) ht hT hg (by with_unfolding_all rfl)
noncomputable def n8 (xs:List V)(lo hi:Option Int):List V:=(xs.drop (HT.gL xs.length 0 lo)).take (HT.gL xs.length xs.length hi - HT.gL xs.length 0 lo)
theorem pX (xs:List V)(lo hi:Option Int):(n8 xs lo hi).length<=xs.length:=by
 unfold n8;rw[bQ,cZ];omega
noncomputable def TZ (K:W.Frag):V->Option Int->Option Int->Hp->VK->Prop:=λx lo hi H Q=>∃a xs,x=.ref a/\ja K H a xs /\
 ¬ (HT.gL xs.length 0 lo=0/\HT.gL xs.length xs.length hi=xs.length)/\∀p,H p=none->Q (.ref p) (eZ H p (.tup (n8 xs lo hi)))
theorem MV:HR X (TZ X.K):=by
 intro pins s σ H x v vl vu lo hi sl Q I rx hs pl pu h;obtain⟨a,xs,rfl,hx,hw,q⟩:=h;cases rx;obtain⟨its,r,ht,hz⟩:=I.tuple hx;have e8:its.toArray.size=xs.length:=by rw[aD];exact r.length.symm
 refine⟨"tuple",_,PyProof.Rows.slot_tuple_getitem.lookup,ht.typeIs,?_⟩;refine HT.n6 ht hs pl pu (by rw[e8];exact hw) ?_ (by rw[e8];exact hz);rw[e8];refine⟨.ref s.heap.objs.size,_,I.laid (t':=s.toks) (o:=.tup (n8 xs lo hi)) (λb ob q=>ah _ q) (am _) ?_,rfl,q _ (I.hok.fresh (am _))⟩;exact⟨aU (pX xs lo hi) hz,_,(r.drop (HT.gL xs.length 0 lo)).take (HT.gL xs.length xs.length hi - HT.gL xs.length 0 lo),tE.new _ _⟩
noncomputable def Qi (K:W.Frag):R2:=λx y H Q=>∃a b xs ys,x=.ref a/\y=.ref b/\ja K H a xs/\ja K H b ys/\xs≠[]/\xs.length+ys.length<=ax /\
 (ys=[]->Q (.ref a) H)/\(ys≠[]->∀p,H p=none->Q (.ref p) (eZ H p (.tup (xs++ys))))
theorem eh.n9 (r:eh xs us):us=[]↔xs=[]:=by
 cases r with
 | nil=>simp
 | cons _ _=>simp
theorem IQ:j8 X (binaryOp .Add) (Qi X.K):=by
 intro pins s σ H x y v u Q I rx ry h;obtain⟨a,b,xs,ys,rfl,rfl,ha,hb,hx,hz,q1,q2⟩:=h;cases rx;cases ry;obtain⟨its,r1,p1,_⟩:=I.tuple ha;obtain⟨mN,r2,p2,_⟩:=I.tuple hb;refine HT.IK p1 p2 (λz=>hx (r1.n9.mp z)) (λz=>⟨.ref a,H,I,rfl,q1 (r2.n9.mp z)⟩) (λz=>?_) (by rw[<- r1.length,<- r2.length];exact hz);refine⟨.ref s.heap.objs.size,_,I.laid (t':=s.toks) (o:=.tup (xs++ys)) (λb ob q=>ah _ q) (am _) ?_,rfl,q2 (λw=>z (r2.n9.mpr w)) _ (I.hok.fresh (am _))⟩;exact⟨by rw[aI];exact hz,_,r1.append r2,tE.new _ _⟩
end
noncomputable def K0 (n:Nat)(i:Int):Option Nat:=if 0<=i then (if i<n then some i.toNat else none) else if -(n:Int)<=i then some (i+n).toNat else none
noncomputable def qB {α:Type}(xs:List α)(i:Int):Option α:=(K0 xs.length i).bind λj=>xs[j]?
theorem B8 (h:K0 n i=some j):seqIndex? i n=some j/\j<n/\-(n:Int)<=i/\i<n:=by
 unfold K0 at h;by_cases h0:0<=i
 .rw[if_pos h0] at h
  by_cases h1:i<n
  .rw[if_pos h1] at h
   have e:i.toNat=j:=Option.some.inj h;exact⟨by rw[seqIndex_of h0 h1,e],!1,!1,h1⟩
  .rw[if_neg h1] at h;cases h
 .rw[if_neg h0] at h
  by_cases h1:-(n:Int)<=i
  .rw[if_pos h1] at h
   have e:(i+n).toNat=j:=Option.some.inj h;exact⟨by rw[seqIndex_neg (!1) h1,e],!1,h1,!1⟩
  .rw[if_neg h1] at h;cases h
theorem B9 {α:Type}{xs:List α}{i:Int}{v:α}(h:qB xs i=some v):∃j,seqIndex? i xs.length=some j/\xs[j]? = some v/\j<xs.length/\-(xs.length:Int)<=i/\i<xs.length:=by
 unfold qB at h
 cases e:K0 xs.length i with
 | none=>rw[e] at h;cases h
 | some j =>
  rw[e] at h;obtain⟨h1,h2,h3,h4⟩:=B8 e;exact⟨j,h1,h,h2,h3,h4⟩
noncomputable def vJ (b:Expr):Prop:=∀o i,subscripted b false o i=operate [o,i] (getItem o i)
noncomputable def HS (X:Cx)(r:R2):Prop :=
 ∀(value slice:Expr) (pins:List (Addr × Obj)) (s:aq) (σ:St) (H:Hp) (x y:V) (v u:ag) (Q:VK),Inv X pins σ H s->RelV x v->RelV y u->r x y H Q ->
  subscripted slice false v u=operate [v,u] (getItem v u)->az (model X.prog X.w) X.A (subscriptTail value slice v u) (EP X pins σ Q) X.xe s
noncomputable def IS (X:Cx)(id:String)(r:V->List V->Hp->VK->Prop):Prop :=
 ∀(pins:List (Addr × Obj)) (s:aq) (σ:St) (H:Hp) (x:V) (xs:List V) (v:ag) (us:List ag) (Q:VK),Inv X pins σ H s->RelV x v->eh xs us->r x xs H Q ->
  az (model X.prog X.w) X.A (call (.builtin id) (v::us)) (EP X pins σ Q) X.xe s
section
variable {X:Cx}{a b:Expr}{ta tb:TE}{pos:Pos}
theorem HS.or (h:HS X r)(h':HS X r'):HS X (λx y H Q=>r x y H Q\/r' x y H Q):=by
 intro value slice pins s σ H x y v u Q I rx ry q hs;rcases q with q | q
 .exact h value slice pins s σ H x y v u Q I rx ry q hs
 .exact h' value slice pins s σ H x y v u Q I rx ry q hs
theorem IS.or {id:String}{r r':V->List V->Hp->VK->Prop}(h:IS X id r)(h':IS X id r'):IS X id (λx xs H Q=>r x xs H Q\/r' x xs H Q):=by
 intro pins s σ H x xs v us Q I rx rs q;rcases q with q | q
 .exact h pins s σ H x xs v us Q I rx rs q
 .exact h' pins s σ H x xs v us Q I rx rs q
theorem Qj {r:R2}(hr:HS X r)(ha:PE X a ta)(hb:PE X b tb)(hs:vJ b):PE X (.Subscript a b pos) (ID r ta tb):=by
 intro pins s σ H Q I h;exact Subscript_ (MA ha hb I h λv u s2 x y H2 I2 rx ry q=>hr a b pins s2 σ H2 x y v u Q I2 rx ry q (hs _ _))
noncomputable def Qk (K:W.Frag):R2:=λx y H Q=>∃p xs i v,x=.ref p/\y=.int i/\gK K H p xs/\qB xs i=some v/\Q v H
noncomputable def Ql (K:W.Frag):R2:=λx y H Q=>∃p xs i v,x=.ref p/\y=.int i/\ja K H p xs/\qB xs i=some v/\Q v H
theorem gf:HS X (Qk X.K):=by
 intro value slice pins s σ H x y v u Q I rx ry h hs;obtain⟨p,xs,i,z,rfl,rfl,hq,he,q⟩:=h;cases rx;obtain⟨t,rfl⟩:=ry;obtain⟨its,r,pl,hz⟩:=I.list hq;obtain⟨j,h1,h2,h3,h4,h5⟩:=B9 he;obtain⟨w,ew,o9⟩:=r.get h2;have hl:=r.length;have hn:=vI;have fin:EP X pins σ Q w s:=⟨z,H,I,o9,q⟩;by_cases h0:0<=i
 .have hj:i.toNat=j:=by
   rw[seqIndex_of h0 h5] at h1;exact Option.some.inj h1
  exact item_listR pl.isList h0 (!1) (by rw[hj];simpa using ew) fin hs
 .have hj:(i+(its.toArray.size:Int)).toNat=j:=by
   rw[seqIndex_neg (!1) h4] at h1;rw[aD,<- hl];exact Option.some.inj h1
  exact subscriptTail_builtinR (x:=w) pl.isList.typeIs slot_list_getitem.lookup
   (wpAny_getItem_list_neg (Q:=λr s'=>r=w/\EP X pins σ Q r s') pl.isList (!1) (by rw[aD]<;>omega) (!1) (by rw[hj];simpa using ew) ⟨rfl,fin⟩) hs
theorem MW:HS X (Ql X.K):=by
 intro value slice pins s σ H x y v u Q I rx ry h hs;obtain⟨p,xs,i,z,rfl,rfl,hq,he,q⟩:=h;cases rx;obtain⟨t,rfl⟩:=ry;obtain⟨its,r,pl,hz⟩:=I.tuple hq;obtain⟨j,h1,h2,h3,h4,h5⟩:=B9 he;obtain⟨w,ew,o9⟩:=r.get h2;have hl:=r.length;have hn:=vI;have fin:EP X pins σ Q w s:=⟨z,H,I,o9,q⟩
 exact subscriptTail_builtinR (x:=w) pl.typeIs slot_tuple_getitem.lookup
  (getItem_tuple (j:=j) (Q:=λr s'=>r=w/\EP X pins σ Q r s') pl (!1) (!1) (by rw[aD,<- hl];exact h1) (by simpa using ew) ⟨rfl,fin⟩) hs
theorem zT (its:List ag)(n j:Nat)(u:ag):Obj.mapSeq (·.setIfInBounds j u) { cls:=.type "list",data:=.seq its.toArray n }={ cls:=.type "list",data:=.seq (its.set j u).toArray n }:=by
 simp[Obj.mapSeq]
theorem Inv.lst (I:Inv X pins σ H s)(h:H p=some (.lst xs)) :
  ∃(its:List ag) (n:Nat),eh xs its/\s.heap.get? p=some { cls:=.type "list",data:=.seq its.toArray n }/\xs.length<=ax:=by
 obtain⟨z,its,n,r,e⟩:=I.hok p _ h;exact⟨its,n,r,e,z⟩
theorem Inv.MX {pins:List (Addr × Obj)}{σ:St}{H:Hp}{s:aq}{p:Addr}{xs ys:List V}{its its':List ag}{n n':Nat}{f:Obj->Obj}(I:Inv X pins σ H s)(h:H p=some (.lst xs))
  (ho:s.heap.get? p=some { cls:=.type "list",data:=.seq its.toArray n }) (hf:f { cls:=.type "list",data:=.seq its.toArray n }={ cls:=.type "list",data:=.seq its'.toArray n' }) (r:eh ys its') (hz:ys.length<=ax) (t:Nat) :
  Inv X pins σ (eZ H p (.lst ys)) { s with heap:=s.heap.update p f,toks:=t }:=by
 have e:(s.heap.update p f).get? p=some { cls:=.type "list",data:=.seq its'.toArray n' }:=by
  rw[aS f ho (by rw[hf]<;>rfl),hf]
 refine I.write (x:=p) (e:=p) (by rw[h];trivial) (.inl rfl) (λb u hb q=>(aH _ _ (Ne.symm hb)).trans q) ⟨_,e⟩ ?_;exact⟨hz,its',n',r,e⟩
noncomputable def Qm:V->V->V->Hp->(Hp->Prop)->Prop:=λo i v H Q=>∃p xs k j,o=.ref p/\i=.int k/\H p=some (.lst xs)/\K0 xs.length k=some j/\Q (eZ H p (.lst (xs.set j v)))
theorem oa:Mq X Qm:=by
 intro pins s σ H o i v ov iv u Q I ro ri rv h;obtain⟨p,xs,k,j,rfl,rfl,hp,hj,q⟩:=h;cases ro;obtain⟨t,rfl⟩:=ri;obtain⟨its,n,r,ho,hz⟩:=I.lst hp;obtain⟨h1,h2,h3,h4⟩:=B8 hj;have hl:=r.length;have hn:=vI
 have I':Inv X pins σ (eZ H p (.lst (xs.set j v))) { s with heap:=s.heap.update p (Obj.mapSeq (·.setIfInBounds j u)) } :=
  I.MX hp ho (zT its n j u) (r.set rv j) (by rw[a7];exact hz) s.toks
 by_cases h0:0<=k
 .have hk:k.toNat=j:=by
   rw[seqIndex_of h0 h4] at h1;exact Option.some.inj h1
  exact W.ki_setAt ho h0 (!1) (by rw[aD,<- hl];exact h4) (by rw[hk];exact⟨_,I',q⟩)
 .have hk:(k+(its.toArray.size:Int)).toNat=j:=by
   rw[seqIndex_neg (!1) h3] at h1;rw[aD,<- hl];exact Option.some.inj h1
  exact W.ki_setBack ho (!1) (by rw[aD,<- hl];exact h3) (!1) (by rw[hk];exact⟨_,I',q⟩)
theorem vK (lo hi:Option Int)(n:Nat):(sliceBounds lo hi none n).1=((HT.gL n 0 lo:Nat):Int)/\(sliceBounds lo hi none n).2.1=((HT.gL n n hi:Nat):Int)/\(sliceBounds lo hi none n).2.2=1:=by
 refine⟨?_,?_,rfl⟩
 .cases lo with
  | none=>simp[sliceBounds,HT.gL]
  | some i =>
   simp only[sliceBounds,HT.gL,Option.getD_none,show (1:Int) > 0 by decide,if_true];by_cases h:i<0
   .simp only[h,if_true]<;>omega
   .simp only[h,if_false]<;>omega
 .cases hi with
  | none=>simp[sliceBounds,HT.gL]
  | some i =>
   simp only[sliceBounds,HT.gL,Option.getD_none,show (1:Int) > 0 by decide,if_true];by_cases h:i<0
   .simp only[h,if_true]<;>omega
   .simp only[h,if_false]<;>omega
theorem tI (its:List ag)(lo hi:Option Int):slicePick its.toArray lo hi none=((its.drop (HT.gL its.length 0 lo)).take (HT.gL its.length its.length hi - HT.gL its.length 0 lo)).toArray:=by
 obtain⟨h1,h2,h3⟩:=vK lo hi its.toArray.size;unfold slicePick;rw[h1,h2,h3];simp only[sliceRange_one,pick_run,aD]<;>rfl
noncomputable def Qn (K:W.Frag):V->Option Int->Option Int->Hp->VK->Prop:=λx lo hi H Q=>∃a xs,x=.ref a/\gK K H a xs/\∀p,H p=none->Q (.ref p) (eZ H p (.lst (n8 xs lo hi)))
theorem IU:HR X (Qn X.K):=by
 intro pins s σ H x v vl vu lo hi sl Q I rx hs pl pu h;obtain⟨a,xs,rfl,hx,q⟩:=h;cases rx;obtain⟨its,r,ht,hz⟩:=I.list hx;have e8:=r.length;refine⟨"list",_,slot_list_getitem.lookup,ht.isList.typeIs,?_⟩;refine wpAny_getItem_list_slice ht.isList hs pl pu .none (!4) ?_ (by rw[aD]<;>omega);rw[tI,<- e8];refine⟨.ref s.heap.objs.size,_,I.laid (t':=s.toks) (o:=.lst (n8 xs lo hi)) (λb ob q=>ah _ q) (am _) ?_,rfl,q _ (I.hok.fresh (am _))⟩;exact⟨aU (pX xs lo hi) hz,_,0,(r.drop (HT.gL xs.length 0 lo)).take (HT.gL xs.length xs.length hi - HT.gL xs.length 0 lo),aF _ rfl⟩
theorem kH:gF X (.builtin "len") (λxs H Q=>∃p ys,xs=[.ref p]/\(gK X.K H p ys\/ja X.K H p ys)/\Q (.int ys.length) H):=by
 intro pins s σ H xs us Q I r h;obtain⟨p,ys,rfl,hq,q⟩:=h;obtain⟨u,rfl,rx⟩:=vals1 r;cases rx;have hn:=vI;rcases hq with hq | hq
 .obtain⟨its,r',pl,hz⟩:=I.list hq
  have e8:=r'.length;exact Calls.call_len_list pl.isList (by simp only[aD]<;>omega) ⟨.int ys.length,H,I.tok _,⟨s.toks+1,by rw[aD,e8]⟩,q⟩
 .obtain⟨its,r',pl,hz⟩:=I.tuple hq
  have e8:=r'.length;exact len_tuple pl (by simp only[aD]<;>omega) ⟨.int ys.length,H,I.tok _,⟨s.toks+1,by rw[aD,e8]⟩,q⟩
theorem tJ:gF X (.type "tuple") (λxs H Q=>∃p ys,xs=[.ref p]/\((gK X.K H p ys/\∀l,H l=none->Q (.ref l) (eZ H l (.tup ys)))\/(ja X.K H p ys/\Q (.ref p) H))):=by
 intro pins s σ H xs us Q I r h;obtain⟨p,ys,rfl,h⟩:=h;obtain⟨u,rfl,rx⟩:=vals1 r;cases rx;rcases h with⟨hq,q⟩ | ⟨hq,q⟩
 .obtain⟨its,r',pl,hz⟩:=I.list hq
  have e8:=r'.length;refine call_tuple_list pl.isList (λh' kp=>?_) (by simp only[aD]<;>omega);have I1:Inv X pins σ H { s with heap:=h' }:=I.kept (t':=s.toks) kp
  have I2:Inv X pins σ (eZ H h'.objs.size (.tup ys)) { s with heap:=h'.push { cls:=.type "tuple",data:=.seq its.toArray } } :=
   I1.laid (t':=s.toks) (λb o e=>ah _ e) (am _) (show fy X.prog X.w _ _ _ (.tup ys) from ⟨hz,its,r',tE.new _ _⟩)
  exact⟨.ref h'.objs.size,_,I2,rfl,q _ (I1.hok.fresh (am _))⟩
 .obtain⟨its,r',pl,hz⟩:=I.tuple hq
  exact call_tuple_same pl ⟨.ref p,H,I,rfl,q⟩
noncomputable def Wk (K:W.Frag)(T:String)(x:V)(H:Hp):Prop:=match x with
 | .str _=>T = "str"
 | .int _=>T = "int"
 | .ref p=>(T = "list" /\ ∃xs,gK K H p xs)\/(T = "tuple" /\ ∃o,K.lookup p=some o/\o.cls=.type "tuple" /\ o.dict=none) \/
   (T = "dict" /\ ((∃kvs,H p=some (.dK kvs))\/∃kvs,H p=some (.dT kvs)))\/(T = "set" /\ ∃S n,H p=some (.set S n))
 | _=>False
theorem MY (I:Inv X pins σ H s)(r:RelV x v)(ty:Wk X.K T x H) :
  s.TypeIs v T/\∀a,v=.ref a->∃ob,s.heap.get? a=some ob/\ob.dict=none:=by
 cases x with
 | str z =>
  obtain⟨t,rfl⟩:=r;cases (show T = "str" from ty);exact⟨typeIs_str s z t,λ_ e=>nomatch e⟩
 | int i =>
  obtain⟨t,rfl⟩:=r;cases (show T = "int" from ty);exact⟨typeIs_int s i t,λ_ e=>nomatch e⟩
 | ref p =>
  cases r;rcases ty with⟨rfl,xs,hq⟩ | ⟨rfl,o,hk,hc,hd⟩ | ⟨rfl,hk⟩ | ⟨rfl,S,n,hk⟩
  .obtain⟨its,_,pl,_⟩:=I.list hq
   refine⟨pl.isList.typeIs,λa e=>?_⟩;cases e;obtain⟨o,n,e,c,hd,_⟩:=pl;exact⟨o,e,hd⟩
  .refine⟨⟨o,I.m8 p o hk,hc⟩,λa e=>?_⟩
   cases e;exact⟨o,I.m8 _ o hk,hd⟩
  .have z:∃o,s.heap.get? p=some o/\o.ExactDict:=by
    rcases hk with⟨kvs,hk⟩ | ⟨kvs,hk⟩
    .obtain⟨_,_,_,_,o,_,_,e,ex,_⟩:=I.hok p _ hk
     exact⟨o,e,ex⟩
    .obtain⟨_,_,_,_,o,_,_,e,ex,_⟩:=I.hok p _ hk
     exact⟨o,e,ex⟩
   obtain⟨o,e,ex⟩:=z;refine⟨⟨o,e,ex.1⟩,λa e2=>?_⟩;cases e2;exact⟨o,e,ex.2.1⟩
  .obtain⟨o,_,_,_,e,ex,_⟩:=I.hok p _ hk
   refine⟨⟨o,e,ex.1⟩,λa e2=>?_⟩;cases e2;exact⟨o,e,ex.2.1⟩
 | _=>exact False.elim ty
noncomputable def T1 (K:W.Frag)(T:String)(r:V->List V->Hp->VK->Prop)(to:TE)(t:TA):TE:=λσ H Q=>to σ H λx H1=>Wk K T x H1/\t σ H1 λxs H2=>r x xs H2 Q
variable {o e:Expr}{es:List Expr}{to:TE}{t:TA}{name:Str}{iE gu:Pos}{T id:String}{r:V->List V->Hp->VK->Prop}
theorem Qo (pa:PlainAttrs T)(slot:Slot T name id)(MZ:typeOf (.builtin id)=pure (.type "method_descriptor"))(hm:IS X id r)(ho:PE X o to)(ha:PA X (e::es) t)
  (rh:attributeBase o name X.env (eval o X.env)=eval o X.env:=by rfl)
  (IV:((backTo gu (starEach (e::es) X.env)).all (λx=>!x.1) && (backToKw gu (keywordEach [] X.env)).all (λx=>x.1.isSome)
   && decide ((e::es).length+([]:List Keyword).length+(if ([]:List Keyword).isEmpty then 0 else 1)<30))=true:=by rfl)
  (rk:(iE.endLine == gu.line)=true:=by rfl) (hs:starEach (e::es) X.env=(false,eval e X.env)::starEach es X.env:=by rfl) (M0:(backTo gu (starEach es X.env)).any (·.1)=false:=by rfl) :
  PE X (.Call (.Attribute o name iE) (e::es) [] gu) (T1 X.K T r to t):=by
 intro pins s σ H Q I h;refine wpAny_Call_method_late rh IV rk rfl (fM (ho pins s σ H _ I h) λv s1 ⟨x,H1,I1,r1,ty,q1⟩=>?_);obtain⟨h1,h2⟩:=MY I1 r1 ty;refine⟨T,id,pa,slot,MZ,h1,h2,?_⟩;have hA:=ha gu pins s1 σ H1 _ I1 q1;rw[hs] at hA ⊢;refine Calls.callWith_builtin (by show (false || (backTo gu (starEach es X.env)).any (·.1))=false;rw[M0]<;>rfl) (Calls.evalArgs_plain ?_);exact fM hA λus s2 ⟨vs,H2,I2,r2,q2⟩=>hm pins s2 σ H2 x vs v us Q I2 r1 r2 q2
end
noncomputable def SJ (X:Cx)(id:String)(r:V->List V->Hp->VK->Prop):Prop :=
 ∀(pins:List (Addr × Obj)) (s:aq) (σ:St) (H:Hp) (x:V) (xs:List V) (v:ag) (us:List ag) (Q:VK),Inv X pins σ H s->RelV x v->eh xs us->r x xs H Q ->
  az (model X.prog X.w) X.A (call (.builtin id) (v::us)) (EP X pins σ Q) X.xe s
theorem eh.one (h:eh [x] us):∃u,us=[u]/\RelV x u:=by
 cases h with
 | cons r t =>
  cases t;exact⟨_,rfl,r⟩
theorem eh.two (h:eh [x,y] us):∃u v,us=[u,v]/\RelV x u/\RelV y v:=by
 cases h with
 | cons r t =>
  obtain⟨v,rfl,q⟩:=eh.one t;exact⟨_,v,rfl,r,q⟩
theorem eh.rep (h:eh xs us):∀k:Nat,eh (List.replicate k xs).flatten (List.replicate k us).flatten
 | 0=>.nil
 | k+1=>by
  rw[aZ,aZ,cM,cM];exact eh.append h (eh.rep h k)
theorem foldl_rep (its:List ag):∀(k:Nat) (acc:List ag),
  dz (λx1 x2=>x1++x2) acc.toArray (List.replicate k its.toArray)=(acc++(List.replicate k its).flatten).toArray
 | 0,acc=>by simp
 | k+1,acc=>by
  have e:acc.toArray++its.toArray=(acc++its).toArray:=by simp
  have e2:(acc++its)++(List.replicate k its).flatten=acc++(List.replicate (k+1) its).flatten:=by
   rw[aZ,cM,aG]
  rw[<- e2,<- foldl_rep its k (acc++its),<- e,aZ,cu]
section
theorem Inv.IW {its its':List ag}{n:Nat}{f:Array ag->Array ag}{t':Nat}(I:Inv X pins σ H s)(hH:H l=some (.lst xs))
  (e:s.heap.get? l=some { cls:=.type "list",data:=.seq its.toArray n }) (hf:f its.toArray=its'.toArray) (hv:eh ys its') (hz:ys.length<=ax) :
  Inv X pins σ (eZ H l (.lst ys)) { s with heap:=s.heap.update l (Obj.mapSeq f),toks:=t' }:=by
 have q:=PySem.IsL.update e f;rw[hf] at q;refine I.write (x:=l) (e:=l) (by rw[hH];exact trivial) (.inl rfl) (λb' u hb hu=>(aH s.heap (Obj.mapSeq f) (Ne.symm hb)).trans hu) ⟨_,q⟩ ?_;exact⟨hz,its',_,hv,q⟩
theorem Inv.Qq (I:Inv X pins σ H s)(hv:eh ys its)(hz:ys.length<=ax) :
  Inv X pins σ (eZ H s.heap.objs.size (.lst ys)) { s with heap:=s.heap.push { cls:=.type "list",data:=.seq its.toArray },toks:=t' } :=
 I.laid (λ_ _ q=>ah _ q) (am _) ⟨hz,its,0,hv,aF _ rfl⟩
theorem Inv.fresh (I:Inv X pins σ H s):H s.heap.objs.size=none:=I.hok.fresh (am _)
theorem Inv.xA (I:Inv X pins σ H s)(hH:H l=some (.lst xs)):xs.length<=ax/\∃(its:List ag) (n:Nat),eh xs its/\xs.length=its.length/\s.heap.get? l=some { cls:=.type "list",data:=.seq its.toArray n }:=by
 obtain⟨z,its,n,r,e⟩:=I.hok l _ hH;exact⟨z,its,n,r,r.length,e⟩
theorem rl (h:n<=ax):Builtin.List.listTooLong n=false:=by
 unfold Builtin.List.listTooLong;exact decide_eq_false (!1)
end
section
variable {X:Cx}
noncomputable def IY:V->List V->Hp->VK->Prop:=λx vs H Q=>∃l xs y,x=.ref l/\vs=[y]/\H l=some (.lst xs)/\xs.length<ax/\Q .gT (eZ H l (.lst (xs++[y])))
theorem DH:SJ X "list.append" IY:=by
 intro pins s σ H x vs v us Q I rx rv h;obtain⟨l,xs,y,rfl,rfl,hH,hz,q⟩:=h;cases rx;obtain⟨u,rfl,ru⟩:=rv.one;obtain⟨z,its,n,r,hl,e⟩:=I.xA hH;refine call_meets F.slot_list_append ⟨_,e,rfl⟩ F.entry_list_append (F.args_list_append_2 _ _) (PySem.list_append l its.toArray n u (by rw[aD];omega)) ⟨e,?_⟩;refine⟨.gT,_,I.IW (its':=its++[u]) hH e (!4) (r.append (.cons ru .nil)) ?_,rfl,q⟩;rw[aI,bp];omega
noncomputable def IZ:V->List V->Hp->VK->Prop:=λx vs H Q=>∃l b xs zs,x=.ref l/\vs=[.ref b]/\H l=some (.lst xs)/\H b=some (.lst zs)/\xs.length+zs.length<=ax/\Q .gT (eZ H l (.lst (xs++zs)))
theorem DI:SJ X "list.extend" IZ:=by
 intro pins s σ H x vs v us Q I rx rv h;obtain⟨l,b,xs,zs,rfl,rfl,hH,hB,hz,q⟩:=h;cases rx;obtain⟨u,rfl,ru⟩:=rv.one;cases ru;obtain⟨z,its,n,r,hl,e⟩:=I.xA hH;obtain⟨z2,mN,n2,r2,Ca,e2⟩:=I.xA hB;have hsz:its.toArray.size+mN.toArray.size<=ax:=by rw[aD,aD];omega
 have xB:¬ (!its.toArray.isEmpty && Builtin.List.listTooLong (its.toArray.size+mN.toArray.size))=true:=by
  rw[rl hsz,Bool.and_false];exact aY
 refine call_meets F.slot_list_extend ⟨_,e,rfl⟩ F.entry_list_extend (F.args_list_extend_2 _ _)
  (AutoSeq1.list_extend_list_list_0 l its.toArray n b mN.toArray n2 xB (by rw[aD];omega) (!1)) ⟨e,e2,?_⟩
 refine⟨.gT,_,I.IW (its':=its++mN) hH e (!4) (r.append r2) ?_,rfl,q⟩;rw[aI];omega
noncomputable def T3:R2:=λx y H Q=>∃l b xs zs,x=.ref l/\y=.ref b/\H l=some (.lst xs)/\H b=some (.lst zs)/\xs.length+zs.length<=ax/\∀p,H p=none->Q (.ref p) (eZ H p (.lst (xs++zs)))
theorem M1:j8 X (binaryOp .Add) T3:=by
 intro pins s σ H x y v u Q I rx ry h;obtain⟨l,b,xs,zs,rfl,rfl,hH,hB,hz,q⟩:=h;cases rx;cases ry;obtain⟨z,its,n,r,hl,e⟩:=I.xA hH;obtain⟨z2,mN,n2,r2,Ca,e2⟩:=I.xA hB;refine PySem.P.add_list e e2 ?_ (by rw[aD,aD];omega);have ea:its.toArray++mN.toArray=(its++mN).toArray:=by simp
 rw[ea];exact⟨.ref _,_,I.Qq (t':=s.toks) (r.append r2) (by rw[aI];omega),rfl,q _ I.fresh⟩
noncomputable def T4:R2:=λx y H Q=>∃l k xs,x=.ref l/\y=.int k/\H l=some (.lst xs)/\-(2 ^ 63)<=k/\k<2 ^ 63/\xs.length * k.toNat<=ax /\
 ∀p,H p=none->Q (.ref p) (eZ H p (.lst (List.replicate k.toNat xs).flatten))
theorem Cb {α:Type}(xs:List α)(k:Nat):(List.replicate k xs).flatten.length=k * xs.length:=by
 induction k with
 | zero=>simp
 | succ k ih=>rw[aZ,cM,aI,ih,Nat.succ_mul,Nat.add_comm]
theorem M3:j8 X (binaryOp .Mult) T4:=by
 intro pins s σ H x y v u Q I rx ry h;obtain⟨l,k,xs,rfl,rfl,hH,h1,h2,hz,q⟩:=h;cases rx;obtain⟨t,rfl⟩:=ry;obtain⟨z,its,n,r,hl,e⟩:=I.xA hH;have e8:its.toArray.size * k.toNat<=ax:=by rw[aD,<- hl];exact hz
 have T5:¬ its.toArray.size * k.toNat > (2 ^ 63 - 1) / 8:=by
  have:(ax:Nat)<=(2 ^ 63 - 1) / 8:=by decide
  omega
 have T6:¬ (!Builtin.List.listFitsIndex k)=true:=by
  rw[fitsIndex_both h1 h2];exact aY
 have xB:¬ Builtin.List.listTooLong (its.toArray.size * k.toNat)=true:=by
  rw[rl e8];exact aY
 have xC:dz (λx1 x2=>x1++x2) #[] (List.replicate (if its.toArray.isEmpty=true then 0 else k.toNat) its.toArray)=(List.replicate k.toNat its).flatten.toArray:=by
  have f0:∀m:Nat,dz (λx1 x2=>x1++x2) #[] (List.replicate m its.toArray)=(List.replicate m its).flatten.toArray:=λm=>by
   have:=foldl_rep its m [];rw[aO] at this;exact this
  rw[f0]
  cases its with
  | nil=>simp
  | cons a r'=>rw[if_neg (!4)]
 refine wpAny_binaryOp_repeat_ref (T := "list") (U := "int") (!2) ⟨_,e,rfl⟩ (λs'=>typeIs_int s' k t) noFill_list_mul F.fills_int_mul F.slot_int_rmul repeat_list F.slot_int_index.lookup
  (call_meets F.slot_int_rmul (typeIs_int s k t) F.entry_int_rmul (F.args_int_rmul_2 _ _) (int___rmul___int_list k t l its.toArray n)
   ⟨e,rfl,⟨_,e,rfl⟩,call_meets F.slot_list_mul ⟨_,e,rfl⟩ F.entry_list_mul (F.args_list_mul_2 _ _) (AutoListH.list___mul___list_int_3 l its.toArray n k t T6 T5 xB) ⟨e,?_⟩⟩)
 rw[xC];exact⟨.ref _,_,I.Qq (t':=s.toks) (r.rep k.toNat) (by rw[Cb,Nat.mul_comm];exact hz),rfl,q _ I.fresh⟩
end
end L2
namespace Att
open PySem PySem.W PySem.Calls PyProof.Rows
theorem qo:∀(ns:List Int) (vs:List ag),WellAll P h vs (ns.map WData.int)->IntsAre vs ns:=by
 intro ns
 induction ns with
 | nil =>
  intro vs w;rw[bo] at w;cases w;exact .nil
 | cons n ns ih =>
  intro vs w;rw[aj] at w
  cases w with
  | cons a b =>
   cases a;exact .cons _ _ (ih _ b)
theorem DJ {l:OpenLaw}{n:Nat}(hn:l.most=some n){P:Params}{h:Heap}{args:List WData}{M4:List ag}
  (DK:l.row.toRowW.claim.pre args=true) (O3:WellAll P h M4 args) :
  ∃a vs ns,M4=[ag.ref a]/\args=[WData.list (ns.map WData.int)]/\h.get? a=some { cls:=.type "list",data:=.seq vs.toArray }/\IntsAre vs ns/\ns.length<=n:=by
 have T7:WShape.hasAll [] args [.list .int]=true:=(pre_splitW DK).1;have hc:l.pre.holds [] { args:=args }=true:=(pre_splitW DK).2;obtain⟨d,r,rfl,h1,h2⟩:=hasAllW_cons T7;obtain rfl:=hasAllW_nil h2;obtain⟨xs,rfl,h3⟩:=hasW_list h1;obtain⟨ns,rfl⟩:=items_int h3
 have e8:ns.length<=n:=by
  unfold OpenLaw.pre at hc
  have h4:(WTm.not (.lt (.lit (.int (n:Int))) (.len (.arg 0)))).holds [] { args:=[.list (ns.map .int)] }=true:=by
   have h4:=(holds_andW hc).1;rw[hn] at h4;exact h4
  have h5:=condW_of h4 (w_not (w_lt w_lit (w_len_list (w_arg rfl))));rw[ak] at h5;refine Nat.le_of_not_lt λq=>?_;have q':(n:Int)<((ns.length:Nat):Int):=by omega
  first
   | (rw[decide_eq_true q'] at h5;exact absurd h5 (!2))
   | (simp at h5;omega)
 cases O3 with
 | cons w1 w2 =>
  cases w2
  cases w1 with
  | list ho FC=>exact⟨_,_,ns,rfl,rfl,ho,qo ns _ FC,e8⟩
theorem DL (l:OpenLaw)(args:List WData):l.row.toRowW.claim.post args (.bool true) args=true :=
 postW_of (r:=l.row.toRowW) (X:=(true == true))
  (show WShape.has [] (.bool true) .bool=true by first | rfl | decide | simp[WShape.has,WShape.arms,WShape.armsAll])
  (show (WTm.eq .res (.lit (.bool true))).value [] { args:=args,res:=some (.bool true),after:=args }=some (.bool (true == true)) from w_eq_bool (w_res rfl) w_lit) rfl
theorem xD {l:OpenLaw}{n:Nat}{q:aP}{loose:List Str}{XP:(Str->Option ag)->Heap->Prop}{YP:World->Heap->Prop}{d:DefRec}
  (hn:l.most=some n) (M5:d.params.defaults=[])
  (call:∀(w:World) (s₀ s₁:aq) (mg mb:Str->Option ag) (fa:Addr) (o:Obj) (pm cd q9:ag) (a:Addr) (vs:List ag) (ns:List Int),
   Ground q loose [] XP w s₀ mg mb s₁.heap->YP w s₁.heap ->
   s₁.heap.get? fa=some o->o.data=.func (docDef d.name d.params d.body d.scope pm cd q9)->s₁.heap.CodeRec cd d.name->mg d.name=some (.ref fa) ->
   s₁.heap.get? a=some { cls:=.type "list",data:=.seq vs.toArray }->IntsAre vs ns->ns.length<=n->s₁.gens=#[] ->
   codeAny (model l.prog w) callerA (.call (.ref fa) ⟨[.ref a],[]⟩) (λr s'=>r=.ok (.ret (.bool true))/\OldK s₁.heap s'.heap/\s'.os=s₁.os/\AllBare s'.gens) s₁) :
  WalkO q loose XP YP l.row.toRowW d [] (λf vs=>PySem.call f vs):=by
 intro w s₀ s₁ mg mb G Y fa o pm cd q9 dV kV ho hd ic hD Qr hg args M4 as DK Xw hrd O3 Qs;obtain rfl:dV=.none:=Dflts.none hD M5;obtain rfl:kV=.none:=Dflts.noKw hD;obtain⟨a,vs,ns,rfl,rfl,M6,FD,e8⟩:=DJ hn DK O3;refine enter_call (codeAny_mono (call w s₀ s₁ mg mb fa o pm cd q9 a vs ns G Y ho (fd_plain hd) ic Qr M6 FD e8 hg) λr s' hq=>?_);obtain⟨rfl,h2,h3,h4⟩:=hq;exact⟨.inl ⟨.bool true,.bool true,[],rfl,λ_=>rfl,.bool true,DL l _,λ_=>⟨List.Pairwise.nil,λ_ hm=>(nomatch hm)⟩⟩,h2,h3,h4⟩
end Att
namespace L2
open PySem PySem.Spec PyProof.Rows
theorem uz:∀{vs:List ag} {ns:List Int},IntsAre vs ns->eh (ns.map V.int) vs
 | _,_,.nil=>.nil
 | _,_,.cons n t h=>.cons ⟨t,rfl⟩ (uz h)
noncomputable def M7 (H:Hp):Prop:=∀b,H b=none\/∃o xs,H b=some (.qR o (.lst xs))
theorem FE {P:aP}{w:World}{K:W.Frag}{mg mb:Str->Option ag}{CX:E3}{k:Nat}{fa a:Addr}{fd:bG}{x:Str}{sp:Sp}{s₁:aq}{vs:List ag}{ns:List Int}
  (KX:K.In s₁.heap) (Wl:s₁.heap.Ns aR mg) (hb:s₁.heap.Ns builtinsNs mb) (Xx:∀x:Str,x ≠ "__name__" -> mb x=bootBuiltins x) (T8:s₁.heap.NoLimit) (hg:s₁.gens=#[])
  (ha:s₁.heap.get? a=some { cls:=.type "list",data:=.seq vs.toArray }) (hi:IntsAre vs ns) (hl:ns.length<=ax) (hr:fw k callerA)
  (F:∀base:Heap,K.In base->base.Ns aR mg->i5 P w K mg base CX k fa fd [x] sp) (Qt:∀(s:aq) (u:ag),BindsTo s fd ⟨[u],[]⟩ [(x,u)])
  (zQ:∀H:Hp,M7 H->gK K H a (ns.map V.int)->sp [.ref a] H (λv _=>v=.bl true) λ_ _ _=>False)
  (T9:∀H e s',CX [] H s₁ (λ_ _ _=>False) e s'->False) :
  codeAny (model P w) callerA (.call (.ref fa) ⟨[.ref a],[]⟩) (λr s'=>r=.ok (.ret (.bool true))/\OldK s₁.heap s'.heap/\s'.os=s₁.os/\AllBare s'.gens) s₁:=by
 have rv:=uz hi;have Ua:=hi.length
 have Qu:∀H:Hp,M7 H->gK K H a (ns.map V.int)->j7 P w H s₁.heap->(∀b,H b≠none->b=a)->(H a≠none->K.lookup a=none) ->
   codeAny (model P w) callerA (.call (.ref fa) ⟨[.ref a],[]⟩) (λr s'=>r=.ok (.ret (.bool true))/\OldK s₁.heap s'.heap/\s'.os=s₁.os/\AllBare s'.gens) s₁:=by
  intro H hO hS hok hA hK;have Cc:∀{b:Addr} {o:Obj},s₁.heap.get? b=some o->H b=none->(vH s₁.heap H).get? b=some o:=λe n=>Fd e n
  have Qe:∀{b:Addr} {o:Obj} {es:Array DictEntry} {ep:Nat},s₁.heap.get? b=some o->o.data=.dict es ep->H b=none:=λ{b o es ep} e d=>by
   cases q:H b with
   | none=>rfl
   | some u =>
    have e':b=a:=hA b (by rw[q];simp);subst e';rw[ha] at e;cases e;have d':Data.seq vs.toArray _=Data.dict es ep:=d;cases d'
  have SK:∀{b:Addr} {m:Str->Option ag},s₁.heap.Ns b m->(vH s₁.heap H).Ns b m:=λ{b m} ⟨o,es,ep,e,d,r⟩=>⟨o,es,ep,Cc e (Qe e d),d,r⟩
  have Wm:K.In (vH s₁.heap H):=λb o e=>Cc (KX b o e) (by
   cases q:H b with
   | none=>rfl
   | some u =>
    have e':b=a:=hA b (by rw[q];simp);subst e';rw[hK (by rw[q];simp)] at e;cases e)
  have hM:Mod K mg (vH s₁.heap H):=⟨Wm,SK Wl,⟨mb,SK hb,Xx⟩,let ⟨mc,h1,h2⟩:=T8;⟨mc,SK h1,h2⟩⟩;have e0:zN P w K mg (vH s₁.heap H) callerA [] s₁ H:=⟨rfl,hM,λb o e=>Ii e,dA (Ds _ _),trivial,λb hb=>absurd (show b∈([]:List Addr) from hb) (!4),hok,.of_eq hg⟩;refine codeAny_mono ((F _ Wm (SK Wl)).run callerA [] s₁ H ⟨[.ref a],[]⟩ [.ref a] [.ref a] _ _ hr e0 (Qt s₁ (.ref a)) (.cons rfl .nil) (zQ H hO hS)) λr s' h=>?_
  cases r with
  | error e=>exact (T9 H e s' h).elim
  | ok fl =>
   cases fl with
   | next=>exact False.elim h
   | brk=>exact False.elim h
   | cont=>exact False.elim h
   | ret u =>
    obtain⟨v,H',os,bare,un,Ub,r',q⟩:=h;have q':v=.bl true:=q;subst q';obtain rfl:u=ag.bool true:=r';refine⟨rfl,OldK.of_keep λb o e=>?_,os,bare⟩
    cases q:H b with
    | none=>exact un.keep b o e q (by intro z;exact absurd (show b∈([]:List Addr) from z) (!4)) (!4)
    | some u =>
     rcases hO b with z | ⟨ob,xs,z⟩
     .rw[q] at z;cases z
     .have z2:=un.qS b ob _ z
      obtain⟨e1,_⟩:=hok b _ z;obtain⟨e2,_⟩:=Ub b _ z2;rw[e] at e1;cases e1;exact e2
 cases hk:K.lookup a with
 | some o =>
  have e:=KX a o hk;rw[ha] at e;cases e;refine Qu (λ_=>none) (λ_=>.inl rfl) (.inr ⟨_,vs.toArray,_,hk,rfl,rfl,rfl,by rw[aD,Ua];exact hl,by simpa using rv⟩) (λb u z=>by have z':(none:Option HO)=some u:=z;cases z') (λb z=>absurd rfl z) λz=>absurd rfl z
 | none =>
  refine Qu (λb=>if b=a then some (.qR { cls:=.type "list",data:=.seq vs.toArray } (.lst (ns.map V.int))) else none) (λb=>?_) (.inl (.inr ⟨{ cls:=.type "list",data:=.seq vs.toArray },if_pos rfl⟩)) (λb u z=>?_) (λb z=>?_) λ_=>hk
  .by_cases hb:b=a
   .exact .inr ⟨_,_,if_pos hb⟩
   .exact .inl (if_neg hb)
  .by_cases hb:b=a
   .have z':=(if_pos hb).symm.trans z
    cases z';subst hb;exact⟨ha,by rw[ak];exact hl,vs,_,rv,ha⟩
   .have z':=(if_neg hb).symm.trans z
    cases z'
  .by_cases hb:b=a
   .exact hb
   .exact absurd (if_neg hb) z
noncomputable abbrev KOf {K:W.Frag}{h:Heap}(_:K.In h):W.Frag:=K
theorem I0 {l:W.OpenLaw}{n k:Nat}{q:aP}{loose:List Str}{XP:(Str->Option ag)->Heap->Prop}{YP:World->Heap->Prop}{d:DefRec}{K:Params->W.Frag}{CX:World->E3}{sp:World->Sp}{x:Str}
  (hn:l.most=some n) (Uc:n<=ax) (M5:d.params.defaults=[]) (hr:fw k callerA)
  (hY:∀(w:World) (h:Heap),YP w h->(K w.params).In h)
  (F:∀(w:World) (mg:Str->Option ag) (fa:Addr) (h:Heap),(K w.params).In h->h.Ns aR mg->mg d.name=some (.ref fa) ->
   ∃fd:bG,(∀(s:aq) (u:ag),BindsTo s fd ⟨[u],[]⟩ [(x,u)]) /\
    ∀base:Heap,(K w.params).In base->base.Ns aR mg->i5 l.prog w (K w.params) mg base (CX w) k fa fd [x] (sp w))
  (zQ:∀(w:World) (H:Hp) (a:Addr) (ns:List Int),ns.length<=n->M7 H->gK (K w.params) H a (ns.map V.int)->sp w [.ref a] H (λv _=>v=.bl true) λ_ _ _=>False)
  (T9:∀(w:World) (H:Hp) (s:aq) (e:ag) (s':aq),CX w [] H s (λ_ _ _=>False) e s'->False) :
  W.WalkO q loose XP YP l.row.toRowW d [] (λf vs=>PySem.call f vs):=by
 refine Att.xD hn M5 λw s₀ s₁ mg mb fa o pm cd q9 a vs ns G Y ho hd ic Qr M6 FD e8 hg=>?_;have KX:=hY w _ Y;obtain⟨fd,hb,hF⟩:=F w mg fa _ KX G.T.g Qr;exact FE KX G.T.g G.T.b G.T.builtins G.T.nolimit hg M6 FD (aU e8 Uc) hr hF hb (λH hO hS=>zQ w H a ns e8 hO hS) λH e s'=>T9 w H s₁ e s'
noncomputable def je (s:Stmt):Arguments:=match s with
 | .FunctionDef _ a _ _ _ _ _ _ _ _=>a
 | _=>{ posonlyargs:=[],args:=[],vararg:=none,kwonlyargs:=[],kw_defaults:=[],kwarg:=none,defaults:=[] }
noncomputable def fE (s:Stmt):List Stmt:=match s with
 | .FunctionDef _ _ b _ _ _ _ _ _ _=>b
 | _=>[]
noncomputable def dM (s:Stmt):Scope:=match s with
 | .FunctionDef _ _ _ _ _ _ sc _ _ _=>sc
 | _=>{ kind:=.function,names:=[],isGenerator:=false,isCoroutine:=false }
noncomputable abbrev rq:E3:=λ_ _ _ _ _ _=>False
noncomputable abbrev E0:XK:=λ_ _ _=>False
theorem Qv:zO rq X E0:=λ_ _ _ _ _ _ _ h=>h.elim
structure uA (K:W.Frag) (x fu:Str) (st:Stmt) (f:Addr) (fd:bG):Prop where
 ex:∃(oc:ag) (od:Option Addr) (kV q9 pm:ag) (an:Option Addr) (fz ct:ag) (zP:Array (Option ag)),
  fd=W.fnOf x fu (je st) (fE st) (dM st) .none kV q9 pm an fz ct/\K.lookup f=some ⟨oc,od,.func fd,zP⟩/\W.codeIn K fz fu=true
 kp:W.keepIn K (.ref f)=true
section
variable {P:aP}{w:World}{K:W.Frag}{mg:Str->Option ag}{base:Heap}
theorem uA.ok {x fu:Str}{st:Stmt}{f:Addr}{fd:bG}{N ps:List Str}{k:Nat}{sp:Sp}(F:uA K x fu st f fd)(S:fh N ps (dM st))(len:∀vs H Q E,sp vs H Q E->vs.length=ps.length)
  (rf:∀(fz:ag) (A:Around) (outer:List Env) (s:aq) (H:Hp) (vs:List V) (Q:VK) (E:XK),fw k (A.deeper (envOfC fu (dM st) s.heap.objs.size f fz))->sp vs H Q E ->
   ∃t,zy (kG rq P w K mg base N fu (dM st) f fz A outer s H E).Dv (fE st) t/\t { nx:=λ_ H'=>Q .gT H',rt:=Q } (start N vs) H):i5 P w K mg base rq (k+1) f fd ps sp:=by
 obtain⟨oc,od,kV,q9,pm,an,fz,ct,zP,rfl,lk,ic⟩:=F.ex;refine KU lk ic S len λA outer s H vs Q E hr zQ=>?_;obtain⟨t,h,q⟩:=rf fz A outer s H vs Q E hr zQ;exact⟨t,h.Dv,q⟩
theorem uA.binds {x fu:Str}{st:Stmt}{f:Addr}{fd:bG}{ps:List Str}(F:uA K x fu st f fd)
  (h:∀(kV q9 pm:ag) (an:Option Addr) (fz ct:ag) (us:List ag),us.length=ps.length->bindArgs (W.fnOf x fu (je st) (fE st) (dM st) .none kV q9 pm an fz ct) ⟨us,[]⟩=pure (ps.zip us)):Binds K fd ps []:=by
 obtain⟨oc,od,kV,q9,pm,an,fz,ct,zP,rfl,lk,ic⟩:=F.ex;exact .all (h kV q9 pm an fz ct)
theorem zU {x fu:Str}{st:Stmt}{f:Addr}{oc:ag}{od an:Option Addr}{zP:Array (Option ag)}{kV q9 pm fz ct:ag}(l:K.lookup f=some ⟨oc,od,.func (W.fnOf x fu (je st) (fE st) (dM st) .none kV q9 pm an fz ct),zP⟩)
  (c:W.codeIn K fz fu=true) (k:W.keepIn K (.ref f)=true):uA K x fu st f (W.fnOf x fu (je st) (fE st) (dM st) .none kV q9 pm an fz ct):=⟨⟨oc,od,kV,q9,pm,an,fz,ct,zP,rfl,l,c⟩,k⟩
end
theorem Qw (hr:fw k A):A.units+1<cLine:=cT (Nat.add_le_add_left (by decide:1<=64) _) hr.units
theorem I8 {A B:Prop}(h:B):if false=true then A else B:=by
 rw[if_neg aY];exact h
theorem M8 {A B:Prop}(h:A):if true=true then A else B:=by
 rw[if_pos rfl];exact h
theorem M9 {c A B:Prop}[Decidable c](h1:c->A)(h2:¬ c->B):if c then A else B:=by
 by_cases h:c
 .rw[if_pos h]
  exact h1 h
 .rw[if_neg h]
  exact h2 h
structure eO (P:aP) (w:World) (K:W.Frag) (mg:Str->Option ag) (base:Heap) (k:Nat) (x:Str) (ps:List Str) (sp:Sp):Prop where
 ex:∃(f:Addr) (fd:bG),i5 P w K mg base rq k f fd ps sp/\mg x=some (.ref f)/\W.keepIn K (.ref f)=true/\Binds K fd ps []
noncomputable def rA (sp:Sp)(t:TA):TE:=λσ H Q=>t σ H λvs H1=>sp vs H1 Q E0
theorem DM (sp:Sp)(t:TA):xx sp [] E0 t=rA sp t:=by
 funext σ H Q;unfold xx rA;congr;funext vs H1;rw[bg]
section
theorem FF (D:eO X.prog X.w X.K X.mg X.base k x ps sp)(hr:fw k X.A)(ha:PA X (e::es) t)(hg:Gl X x:=by rfl)
  (jw:(x == ("__debug__" : Str))=false:=by decide) (he:starEach (e::es) X.env=(false,eval e X.env)::starEach es X.env:=by rfl) (mT:(backTo pos (starEach es X.env)).any (·.1)=false:=by rfl) :
  PE X (.Call (.Name x p) (e::es) [] pos) (rA sp t):=by
 obtain⟨f,fd,F,hm,hk,hb⟩:=D.ex;rw[<- DM];exact B4 F hr hg hm hk hb .nil Qv ha jw he mT
end
noncomputable def mO (cells:List (Str × Addr)):List (Str × aM)->List (Str × Addr)->List (Str × Addr)
 | [],acc=>acc
 | (n,k)::r,acc=>mO cells r (if (k == aM.free)=true then (n,(cells.lookup n).getD 0)::acc else acc)
theorem uB (cells:List (Str × Addr))(n:Str)(k:aM)(r:List (Str × aM))(acc:List (Str × Addr)):mO cells ((n,k)::r) acc=mO cells r (if (k == aM.free)=true then (n,(cells.lookup n).getD 0)::acc else acc):=rfl
theorem xE:∀{l:List (Str × aM)} {acc:List (Str × Addr)},(x,c)∈mO cells l acc->(x,c)∈acc\/((x,aM.free)∈l/\c=(cells.lookup x).getD 0)
 | [],acc,h=>.inl h
 | (n,k)::r,acc,h=>by
  unfold mO at h;rcases xE h with h | ⟨h1,h2⟩
  .by_cases hk:(k == aM.free)=true
   .rw[if_pos hk] at h
    rcases au.mp h with h | h
    .cases h
     have:k=aM.free:=by simpa using hk
     subst this;exact .inr ⟨ar,rfl⟩
    .exact .inl h
   .rw[if_neg hk] at h
    exact .inl h
  .exact .inr ⟨ao _ h1,h2⟩
theorem xF:∀{l:List (Str × aM)} {acc:List (Str × Addr)},q∈acc->q∈mO cells l acc
 | [],_,h=>h
 | (n,k)::r,acc,h=>by
  unfold mO;refine xF ?_;split
  .exact ao _ h
  .exact h
theorem Cd:∀{l:List (Str × aM)} {acc:List (Str × Addr)},(x,aM.free)∈l->(x,(cells.lookup x).getD 0)∈mO cells l acc
 | [],_,h=>by cases h
 | (n,k)::r,acc,h=>by
  unfold mO;rcases au.mp h with h | h
  .cases h
   refine xF ?_;simp
  .exact Cd h
theorem nc {β:Type}{x:Str}{b:β}:∀{l:List (Str × β)},(x,b)∈l->∃c,l.lookup x=some c
 | [],h=>by cases h
 | (n,k)::r,h=>by
  rw[bU]
  cases e:x == n with
  | true=>exact⟨k,rfl⟩
  | false =>
   rcases au.mp h with h | h
   .cases h
    simp at e
   .exact nc h
theorem lG:∀(l:List (Str × aM)) (acc:List (Str × Addr)),(∀x∈l,x.2=aM.free->∃c,env.cells.lookup x.1=some c) ->
  (forIn l acc λx r=>if (x.2 == aM.free)=true then (do let c <- cellOf env x.1;pure (ForInStep.yield ((x.1,c)::r))) else pure (ForInStep.yield r):Sem (List (Str × Addr)))=pure (mO env.cells l acc)
 | [],acc,_=>rfl
 | (n,k)::r,acc,h=>by
  rw[List.forIn_cons];by_cases hk:(k == aM.free)=true
  .obtain⟨c,hc⟩:=h (n,k) ar (by simpa using hk)
   have e:cellOf env n=pure c:=by unfold cellOf;rw[hc]
   show (if (k == aM.free)=true then _ else _) >>= _=_;rw[if_pos hk,e];show (forIn r ((n,c)::acc) _:Sem _)=_;rw[lG r _ λx hx=>h x (ao _ hx)];rw[uB,if_pos hk,show env.cells.lookup n=some c from hc];rfl
  .show (if (k == aM.free)=true then _ else _) >>= _=_
   rw[if_neg hk];show (forIn r acc _:Sem _)=_;rw[lG r _ λx hx=>h x (ao _ hx)];rw[uB,if_neg hk]
theorem tK (h:∀x∈scope.names,x.2=aM.free->∃c,env.cells.lookup x.1=some c):closureFor scope env=pure (mO env.cells scope.names []):=by
 have e:=lG scope.names [] h;unfold closureFor
 first
  | exact (congrArg (λm=>m >>= λr=>pure r) e).trans rfl
  | (simp only[bind_pure];exact e)
  | (rw[<- e];rfl)
noncomputable def fA (X:Cx)(sc:Scope)(N:List Str)(cl:List (Str × Addr))(C:Addr)(s₂:aq)(H₂:Hp)(fp:List Addr):Cx where
 prog:=X.prog
 w:=X.w
 K:=X.K
 mg:=X.mg
 base:=X.base
 A:=X.A
 N:=N
 s₀:=s₂
 H₀:=H₂
 env:=compEnvC sc cl C X.env
 outer:=X.stack
 stack:=X.stack
 ex:=fp
 fn:=λx=>sc.names.lookup x == some aM.cell
 calm:=true
 pn:=[]
 xe:=λ_ _=>False
noncomputable def i7 (NX:List Str)(M' sc:Scope)(N:List Str)(mp:List (Option Nat)):Bool :=
 sc.names.all (λp=>p.2 != aM.cell || sc.names.lookup p.1 == some aM.cell) && sc.names.all (λp=>p.2 != aM.local || sc.names.lookup p.1 == some aM.local) &&
 sc.names.all (λp=>p.2 != aM.free || (M'.names.lookup p.1 == some aM.cell || M'.names.lookup p.1 == some aM.free)) && sc.names.all (λp=>p.2 != aM.free || sc.names.lookup p.1 == some aM.free) &&
 mp.length == N.length && (N.zip mp).all (λq=>match q.2 with | none=>true | some i=>NX[i]? == some q.1 && sc.names.lookup q.1 == some aM.free)
noncomputable def lH (mp:List (Option Nat))(σ:St):St:=mp.map λo=>match o with | none=>none | some i=>(σ[i]?).join
structure rB (NX:List Str) (M' sc:Scope) (N:List Str) (mp:List (Option Nat)):Prop where
 cell:∀x∈sc.names,x.2=aM.cell->sc.names.lookup x.1=some aM.cell
 loc:∀x∈sc.names,x.2=aM.local->sc.names.lookup x.1=some aM.local
 free:∀x∈sc.names,x.2=aM.free->M'.names.lookup x.1=some aM.cell\/M'.names.lookup x.1=some aM.free
 fr:∀x∈sc.names,x.2=aM.free->sc.names.lookup x.1=some aM.free
 len:mp.length=N.length
 map:∀(j:Nat) (x:Str) (i:Nat),N[j]? = some x->mp[j]? = some (some i)->NX[i]? = some x/\sc.names.lookup x=some aM.free
theorem uD (h:i7 NX M' sc N mp=true):rB NX M' sc N mp:=by
 unfold i7 at h;simp only[bv,dm] at h;obtain⟨⟨⟨⟨⟨h1,h2⟩,h3⟩,h6⟩,h4⟩,h5⟩:=h;have hl:mp.length=N.length:=by simpa using h4
 refine⟨λx hx e=>?_,λx hx e=>?_,λx hx e=>?_,λx hx e=>?_,hl,λj x i e1 e2=>?_⟩
 .have:=h1 x hx
  rw[e] at this;simpa using this
 .have:=h2 x hx
  rw[e] at this;simpa using this
 .have:=h3 x hx
  rw[e] at this;simpa using this
 .have:=h6 x hx
  rw[e] at this;simpa using this
 .have Ud:j<N.length:=(aX.mp e1).1
  have hj2:j<mp.length:=(aX.mp e2).1
  have hm:(x,some i)∈N.zip mp:=by
   refine bO (i:=j) ?_;rw[List.getElem?_zip_eq_some];exact⟨e1,e2⟩
  have:=h5 _ hm;simpa using this
theorem lI (h:(relabel sc env).names.lookup x=some k):∃k',(x,k')∈sc.names/\(k=k'\/(k'=aM.free/\k=aM.cell)):=by
 have hm:=PySem.mem_of_lookup h;obtain⟨⟨n,k'⟩,SM,e⟩:=a5.mp hm;refine⟨k',?_⟩;dsimp only at e;split at e
 .rename_i hc
  cases e;rw[bv,bv] at hc;have:k'=aM.free:=by simpa using hc.1.1
  exact⟨SM,.inr ⟨this,rfl⟩⟩
 .cases e
  exact⟨SM,.inl rfl⟩
theorem vL (h:sc.names.lookup x=some aM.free):(relabel sc env).names.lookup x=some aM.cell\/(relabel sc env).names.lookup x=some aM.free:=by
 show (sc.names.map _).lookup x=_\/(sc.names.map _).lookup x=_;generalize sc.names=l at h
 induction l with
 | nil=>cases h
 | cons p r ih =>
  obtain⟨n,k⟩:=p;rw[aj];dsimp only;by_cases hc:(k == aM.free && env.scope.kind == .function && env.kindOf n == some .cell)=true
  .rw[if_pos hc,bU]
   cases e:x == n with
   | true=>exact .inl rfl
   | false =>
    rw[bU,e] at h;exact ih h
  .rw[if_neg hc,bU]
   cases e:x == n with
   | true =>
    rw[bU,e] at h;exact .inr h
   | false =>
    rw[bU,e] at h;exact ih h
theorem vM:∀{l:List (Str × aM)} {n:Nat} {acc:List (Str × Addr)},q∈acc->q∈cellsFrom n l acc
 | [],_,_,h=>h
 | (m,k)::r,n,acc,h=>by
  unfold cellsFrom;split
  .exact vM (ao _ h)
  .exact vM h
theorem FG:∀{l:List (Str × aM)} {n:Nat} {acc:List (Str × Addr)},(x,aM.cell)∈l->∃c,(x,c)∈cellsFrom n l acc
 | (m,k)::r,n,acc,h=>by
  unfold cellsFrom;rcases au.mp h with h | h
  .cases h
   exact⟨n,vM (n:=n+1) (l:=r) (acc:=(x,n)::acc) ar⟩
  .split
   .exact FG h
   .exact FG h
theorem zV:∀{l:List (Str × aM)} {h:Heap} {n:Nat} {acc:List (Str × Addr)},h.objs.size=n->q∈cellsFrom n l acc->q∈acc\/(n<=q.2/\(q.1,aM.cell)∈l/\(pushCells h l).IsCell q.2 none)
 | [],_,_,_,_,h=>.inl h
 | (m,k)::r,hp,n,acc,hn,h=>by
  unfold cellsFrom at h;unfold pushCells;by_cases hk:(k == aM.cell)=true
  .rw[if_pos hk] at h ⊢
   have e:k=aM.cell:=by simpa using hk
   subst e;rcases zV (h:=hp.push { cls:=.type "cell",data:=.cell none }) (by rw[bX,hn]) h with h | ⟨h1,h2,h3⟩
   .rcases au.mp h with h | h
    .subst h
     subst hn;exact .inr ⟨am _,ar,⟨_,pushCells_keeps _ _ _ _ (aF _ rfl),rfl⟩⟩
    .exact .inl h
   .exact .inr ⟨!1,ao _ h2,h3⟩
  .rw[if_neg hk] at h ⊢
   rcases zV hn h with h | ⟨h1,h2,h3⟩
   .exact .inl h
   .exact .inr ⟨h1,ao _ h2,h3⟩
theorem zW:∀{l:List (Str × aM)} {n:Nat} {acc:List (Str × Addr)},(∀q∈acc,q.2<n)->(∀x y c,(x,c)∈acc->(y,c)∈acc->x=y)->∀x y c,(x,c)∈cellsFrom n l acc->(y,c)∈cellsFrom n l acc->x=y
 | [],_,_,_,h=>h
 | (m,k)::r,n,acc,hn,h=>by
  unfold cellsFrom;split
  .refine zW (λq hq=>?_) λx y c hx hy=>?_
   .rcases au.mp hq with e | e
    .subst e;exact dn _
    .exact cv (hn q e)
   .rcases au.mp hx with e | e<;>rcases au.mp hy with e' | e'
    .cases e;cases e';rfl
    .cases e;exact absurd (hn _ e') (bt _)
    .cases e';exact absurd (hn _ e) (bt _)
    .exact h x y c e e'
  .exact zW hn h
theorem zX
  (hQ:(pushCells (s.heap.push { cls:=.type "dict",data:=.dict #[] }) scope.names).Ns s.heap.objs.size (λ_=>none) ->
   Q (newEnv scope s.heap.objs.size globals (cellsFrom (s.heap.objs.size+1) scope.names closure) fu none .none (some env) 0) { s with heap:=pushCells (s.heap.push { cls:=.type "dict",data:=.dict #[] }) scope.names }) :
  az M A (newFunctionEnv scope globals closure [] fu none .none (some env)) Q E s:=by
 simp only[newFunctionEnv,Option.isSome_some,if_true];refine aa (wpAny_alloc ?_);refine aa (wpAny_layCells _ (λname kind cells=>by cases Xy:kind == aM.cell<;>simp[Xy]) _ _ _ _ ?_);rw[show ({ s with heap:=s.heap.push { cls:=.type "dict",data:=.dict #[] } }:aq).heap.objs.size=s.heap.objs.size+1 from bX ..];rw[List.forIn_nil];exact aa (ai (ai (hQ ((Heap.Ns.new s.heap (.type "dict")).keeps (pushCells_keeps _ _)))))
structure Qx (X:Cx) (sc:Scope) (C:Addr) (h:Heap) (cl:List (Str × Addr)):Prop where
 has:∀x,(x,aM.cell)∈sc.names\/(x,aM.free)∈sc.names->∃c,cl.lookup x=some c
 sub:∀x c,cl.lookup x=some c->(X.env.cells.lookup x=some c/\(x,aM.free)∈sc.names)\/(C<c/\(x,aM.cell)∈sc.names/\h.IsCell c none)
 inj:∀x y c,cl.lookup x=some c->cl.lookup y=some c->x=y
section
variable {X:Cx}{sc:Scope}{N:List Str}{mp:List (Option Nat)}{pins:List (Addr × Obj)}{σ:St}{H:Hp}{s:aq}{fp:List Addr}{C:Addr}{h₁:Heap}{cl:List (Str × Addr)}
theorem xG (O:rB X.N X.env.scope sc N mp)(ok:X.Ok):∀x∈sc.names,x.2=aM.free->∃c,X.env.cells.lookup x.1=some c:=λx hx e=>ok.has x.1 (O.free x hx e)
theorem I9 (O:rB X.N X.env.scope sc N mp)(I:Inv X pins σ H s){hp:Heap}(hs:s.heap.objs.size<=hp.objs.size)(e:hp.objs.size=C+1):Qx X sc C (pushCells hp sc.names) (cellsFrom (C+1) sc.names (mO X.env.cells sc.names [])):=by
 have ok:=I.ok
 have old:∀q∈mO X.env.cells sc.names [],X.env.cells.lookup q.1=some q.2/\(q.1,aM.free)∈sc.names:=λq hq=>by
  rcases xE (x:=q.1) (c:=q.2) hq with h | ⟨h1,h2⟩
  .cases h
  .obtain⟨c',hc⟩:=xG O ok _ h1 rfl
   have Du:X.env.cells.lookup q.1=some c':=hc;rw[Du] at h2;rw[Du,h2];exact⟨rfl,h1⟩
 have lt:∀q∈mO X.env.cells sc.names [],q.2<C+1:=λq hq=>by
  obtain⟨v,o,ho,_⟩:=I.cell _ _ (old q hq).1;exact e ▸ aL (aA ho) hs
 refine⟨λx hx=>?_,λx c h=>?_,λx y c h1 h2=>zW lt (λx y c h1 h2=>ok.inj x y c (old _ h1).1 (old _ h2).1) x y c (PySem.mem_of_lookup h1) (PySem.mem_of_lookup h2)⟩
 .rcases hx with h | h
  .obtain⟨c,hc⟩:=FG (n:=C+1) (acc:=mO X.env.cells sc.names []) h
   exact nc hc
  .exact nc (vM (Cd h))
 .rcases zV (h:=hp) e (PySem.mem_of_lookup h) with h | ⟨h1,h2,h3⟩
  .exact .inl (old _ h)
  .exact .inr ⟨h1,h2,h3⟩
theorem FH (hc:X.calm=true)(O:rB X.N X.env.scope sc N mp)(hk:sc.kind=.function)(I:Inv X pins σ H s)(hC:s.heap.objs.size<=C)(kp:∀b o,s.heap.get? b=some o->h₁.get? b=some o){m:Str->Option ag}
  (hn:h₁.Ns C m) (K1:∀b∈fp,qm X pins H b) (Na:∀b∈fp,b<s.heap.objs.size) {t':Nat} (L:Qx X sc C h₁ cl) :
  Inv (fA X sc N cl C s H fp) [] (lH mp σ) H { s with heap:=h₁,toks:=t' }:=by
 have ok:=I.ok
 have Ue:∀b∈fp,b ∉ m7 X.stack:=λb hb z=>by
  rcases au.mp (I.qT b z) with e | e
  .exact (K1 b hb).2.1 e
  .exact (K1 b hb).2.2.1 e
 refine⟨⟨ok.mod,hk,ok.glob,ok.blt,hC,?_,?_,?_,λ_=>ok.hd hc,ok.frames,.inl rfl,?_,I.bs,aU ok.Ik I.sz,?_,Ue,I.stack,I.qy⟩,rfl,I.bare,Un.kept kp,?_,?_,I.hok.fresh hC,?_,?_,I.hok.kept kp,?_⟩
 .exact L.inj
 .intro x hx
  have HU:(relabel sc X.env).names.lookup x=some .cell\/(relabel sc X.env).names.lookup x=some .free:=hx;refine L.has x ?_;rcases HU with h | h
  .obtain⟨k',hm,e⟩:=lI h
   rcases e with e | ⟨e,_⟩
   .subst e
    exact .inl hm
   .subst e
    exact .inr hm
  .obtain⟨k',hm,e⟩:=lI h
   rcases e with e | ⟨_,e⟩
   .subst e
    exact .inr hm
   .cases e
 .intro x c hf hc
  have Xz:sc.names.lookup x=some aM.cell:=by simpa [fA] using hf
  rcases L.sub x c hc with h | h
  .have:=O.fr _ h.2 rfl
   rw[Xz] at this;cases this
  .exact aU hC (dw h.1)
 .intro b hb
  refine⟨aN (aL (Na b hb) hC),λx c h=>?_⟩;rcases L.sub x c h with h | h
  .exact (K1 b hb).2.2.2.2.1 x c h.1
  .exact λz=>bt _ (dB (aL (Na b hb) hC) (z ▸ h.1))
 .intro b o e hb
  rcases (K1 b hb).2.2.2.1 with z | z
  .exact ok.Dt b o e z
  .exact absurd (aL (aA (ok.bs b o e).1) z) (bt _)
 .refine⟨m,hn,λj x v e1 e2 e3=>?_⟩
  have Wn:N[j]? = some x:=e1
  have hj:j<mp.length:=by
   rw[O.len];exact (aX.mp Wn).1
  obtain⟨i,hi,hv⟩:∃i,mp[j]? = some (some i)/\σ[i]? = some (some v):=by
   unfold lH at e2;rw[aC] at e2
   cases e:mp[j]? with
   | none=>rw[e] at e2;cases e2
   | some o =>
    rw[e] at e2
    cases o with
    | none=>cases e2
    | some i =>
     refine⟨i,rfl,?_⟩;have SN:(σ[i]?).join=some v:=Option.some.inj e2
     cases q:σ[i]? with
     | none=>rw[q] at SN;cases SN
     | some z =>
      rw[q] at SN;have:z=some v:=SN;rw[this]
  obtain⟨hx,hf⟩:=O.map j x i Wn hi;have Ug:=PySem.mem_of_lookup hf;obtain⟨mX,hnX,hl⟩:=I.loc
  have XA:tH X.env.scope x:=by
   rcases O.free _ Ug rfl with z | z
   .exact .inr (.inl z)
   .exact .inr (.inr z)
  obtain⟨u,r,q⟩:=hl i x v hx hv XA;refine⟨u,r,?_⟩;rcases q with⟨z,_⟩ | ⟨_,c,ec,Qy⟩
  .exfalso
   have z':X.env.scope.names.lookup x=some .local:=z;rcases O.free _ Ug rfl with y | y
   .rw[show X.env.scope.names.lookup x=some .cell from y] at z';cases z'
   .rw[show X.env.scope.names.lookup x=some .free from y] at z';cases z'
  .obtain⟨c',Du⟩:=L.has x (.inr Ug)
   have PH:X.env.cells.lookup x=some c':=by
    rcases L.sub x c' Du with h | h
    .exact h.1
    .have:=O.cell _ h.2.1 rfl
     rw[hf] at this;cases this
   rw[ec] at PH;cases PH;refine .inr ⟨vL hf,c,Du,?_⟩;obtain⟨o,ho,hd⟩:=Qy;exact⟨o,kp _ _ ho,hd⟩
 .intro x c h
  rcases L.sub x c h with h | h
  .obtain⟨v,o,ho,hd⟩:=I.cell x c h.1
   exact⟨v,o,kp _ _ ho,hd⟩
  .exact⟨none,h.2.2⟩
 .intro x c h
  rcases L.sub x c h with h | h
  .exact I.freeC x c h.1
  .exact I.hok.fresh (aU hC (dw h.1))
 .intro p hp
  cases hp
 .show (lH mp σ).length=N.length
  unfold lH;rw[ak,O.len]
theorem Inv.Ce {a:Addr}{o:HO}{ob:Obj}(I:Inv X pins σ H s)(ho:s.heap.get? a=some ob)(hn:H a=none)(hL:a≠X.env.locals)(h1:a∈X.ex\/X.s₀.heap.objs.size<=a)(h2:∀x c,X.env.cells.lookup x=some c->c≠a)
  (h3:∀p∈X.pn++pins,p.1≠a) (new:fy X.prog X.w (eZ H a o) s.heap a o):Inv X pins σ (eZ H a o) s:=by
 have Ku:∀b u,H b=some u->b≠a:=λb u e z=>by rw[z,hn] at e;cases e
 have:=I.step (g':=s.gens) (d':=s.drawn) (t':=s.toks) (h':=s.heap) (H':=eZ H a o) (ch:=[a]) (λb hb=>?_) (λb o _ _ _ e _=>e) (λb o _ _ _ e _=>⟨o.slots,e⟩) (λb o hc _ n=>?_)
  (λb o _ e=>⟨o,e⟩) (λb xs e=>?_) (λb u xs e=>?_) (λb ps e=>⟨#[],?_⟩) (λm hm=>hm) (λb u e=>?_) I.bare
 .exact this
 .have e:b=a:=by simpa using hb
  subst e;exact⟨h1,hL,h2,h3⟩
 .rw[dY (λz=>hc (by simp[z]))];exact n
 .rw[dY (Ku _ _ e)];exact e
 .rw[dY (Ku _ _ e)];exact e
 .rw[dY (Ku _ _ e),e];simp
 .by_cases hb:b=a
  .subst hb;rw[dP] at e;cases e;exact new
  .rw[dY hb] at e
   exact (I.hok b u e).xt (λc v _ q=>q) (λc q=>by rw[dY (Ku _ _ q)];exact q) λc xs q=>by rw[dY (Ku _ _ q)];exact q
end
theorem vN (I:Nat->aq->Prop)
  (turn:∀n s,I n s->az (model prog w) A (pyNext it) (λr s₁=>match r with
   | none=>R (.ok .next) s₁
   | some v=>az (model prog w) A (letOwnedTupleGo target it v) (λ_ s'=>az (model prog w) A (assign target env v) (λ_ s₂ =>
     az (model prog w) A (forIn mU true λc r=>if r=true then do let ok <- isTrue c env (eval c env);pure (ForInStep.yield ok) else pure (ForInStep.yield r)) (λok s₃ =>
      if ok=true then az (model prog w) A (eval pb env) (λx s₄ =>
       az (model prog w) A (call (.builtin "list.append") [acc,x]) (λ_ s₅=>∃m,m<n/\I m s₅) (λ_ _=>False) s₄) (λ_ _=>False) s₃
      else ∃m,m<n/\I m s₃) (λ_ _=>False) s₂) (λ_ _=>False) s') (λ_ _=>False) s₁) (λ_ _=>False) s)
  (n:Nat) (h:I n s) :
  codeAny (model prog w) A (.compLoop (.ListComp pb [⟨target,iter,mU,0⟩] scope pos) 0 it acc env) R s:=by
 refine codeAny_loop rfl I (λn s hI=>?_) n h;show az _ A ((compTurn (.ListComp pb [⟨target,iter,mU,0⟩] scope pos) 0 it acc env).onRaise (λx=>do noteFrame x env;theTreesLotGoes x)) _ _ s;refine wpAny_noted ?_;rw[compTurn_list];refine aa (wpAny_standAt (aa (bF (turn n s hI) (λr s₁ h₁=>?_) λ_ _ h'=>h'.elim)))
 cases r with
 | none=>exact ai h₁
 | some v =>
  refine aa (bF h₁ (λ_ s' h'=>aa (bF h' (λ_ s₂ h₂=>aa (bF h₂ (λok s₃ h₃=>?_) λ_ _ h'=>h'.elim)) λ_ _ h'=>h'.elim)) λ_ _ h'=>h'.elim)
  cases ok with
  | false=>exact ai ⟨rfl,h₃⟩
  | true =>
   exact aa (aa (bF h₃ (λx s₄ h₄=>aa (bF h₄ (λ_ s₅ h₅=>ai (ai ⟨rfl,h₅⟩)) λ_ _ h'=>h'.elim)) λ_ _ h'=>h'.elim))
noncomputable def O4 (X:Cx)(mU:List Expr)(t:TT):Prop :=
 ∀(pins:List (Addr × Obj)) (s:aq) (σ:St) (H:Hp) (Q:Bool->Hp->Prop),Inv X pins σ H s->t σ H Q ->
  az (model X.prog X.w) X.A (forIn mU true λc r=>if r=true then do let ok <- isTrue c X.env (eval c X.env);pure (ForInStep.yield ok) else pure (ForInStep.yield r)) (TP X pins σ Q) X.xe s
noncomputable def K2:TT:=λ_ H Q=>Q true H
theorem Ja:O4 X [] K2:=λ_ _ _ H _ I h=>wpAny_tests_nil ⟨H,I,h⟩
theorem Jb (h:PT X c t):O4 X [c] t:=λpins s σ H Q I hw=>wpAny_tests_one (h pins s σ H Q I hw)
noncomputable abbrev TC:=St->Hp->(List V->Hp->Prop)->Prop
noncomputable def uE (wi:TI)(mp:List (Option Nat))(g:TG)(tc:TT)(te:TE):TC:=λσ H R=>wi σ H λJ H1=>∃W:Nat->Nat->List V->St->Hp->Prop,(∃m,W 0 m [] (lH mp σ) H1)/\∀i m ys σ' H',W i m ys σ' H' ->
 (J.stop i H'/\ys.length<=ax/\R ys H') \/
 (J.go i H'/\ys.length<ax/\∀x Nb,J.HN i H' x Nb->g x σ' Nb λσ2 H2=>tc σ2 H2 λb H3 =>
  if b=true then te σ2 H3 λy H4=>∃m',m' < m/\W (i+1) m' (ys++[y]) σ2 H4 else ∃m',m' < m/\W (i+1) m' ys σ2 H3)
section
theorem uF {use:Option (ag->Sem Unit)}{Q:ag->aq->Prop}(hc:X.calm=true)(hi:PI X tg iter wi)(hk:sc.kind=.function)(O:rB X.N X.env.scope sc N mp)
  (hb:∀(cl:List (Str × Addr)) (C:Addr) (s₂:aq) (H₂:Hp) (fp:List Addr),PG (fA X sc N cl C s₂ H₂ fp) tg g/\O4 (fA X sc N cl C s₂ H₂ fp) mU tc/\PE (fA X sc N cl C s₂ H₂ fp) pb te)
  {pins:List (Addr × Obj)} {s:aq} {σ:St} {H:Hp} {R:List V->Hp->Prop} (I:Inv X pins σ H s) (h:uE wi mp g tc te σ H R)
  (hs:∀x,foldedSetIterable iter X.env x=pure x)
  (Uh:∀(D C:Addr) (ys:List V) (H':Hp) (s':aq) (m:Str->Option ag),Inv X pins σ (eZ H' D (.lst ys)) s'->s'.heap.Ns C m->qm X pins (eZ H' D (.lst ys)) C->H' D=none->R ys H' ->
   compPost (model X.prog X.w) X.A X.xe use Q (.ref D) C (.ok .next) s') :
  az (model X.prog X.w) X.A (comprehension (.ListComp pb [⟨tg,iter,mU,0⟩] sc pos) sc X.env iT (newList []) false (eval iter X.env) use) Q X.xe s:=by
 have ok:=I.ok;refine wpAny_comprehension_free (g:=⟨tg,iter,mU,0⟩) (gs:=[]) rfl hs (tK (xG O ok)) hk O.loc (fM (hi pins s σ H _ I h) λv s1 h1=>fM h1 λTQ s2 h2=>?_);obtain⟨it,fp,tn,J,H2,e,I2,T,IA,f2,W,⟨m0,w0⟩,turn⟩:=h2;subst e;refine be (zX λvO=>?_);dsimp only at vO ⊢;generalize hP:s2.heap.push { cls:=.type "list",dict:=none,data:=.seq ([]:List ag).toArray }=P2 at vO ⊢;have Wo:P2.objs.size=s2.heap.objs.size+1:=by rw[<- hP,bX]
 have Ui:s2.heap.objs.size≠P2.objs.size:=by rw[Wo];exact aN (dn _)
 have FI:s2.heap.objs.size<=P2.objs.size:=by rw[Wo];exact cb _
 have L:=I9 (C:=P2.objs.size) O I2 (hp:=P2.push { cls:=.type "dict",data:=.dict #[] }) (by rw[bX];omega) (bX ..);generalize K3:pushCells (P2.push { cls:=.type "dict",data:=.dict #[] }) sc.names=h₁ at vO L ⊢;generalize cellsFrom (P2.objs.size+1) sc.names (mO X.env.cells sc.names [])=cl at L ⊢
 have old:∀b o,s2.heap.get? b=some o->h₁.get? b=some o:=λb o e =>
  K3 ▸ pushCells_keeps _ _ b o (ah _ (hP ▸ ah _ e))
 have DN:h₁.get? s2.heap.objs.size=some { cls:=.type "list",dict:=none,data:=.seq ([]:List ag).toArray } :=
  K3 ▸ pushCells_keeps _ _ _ _ (ah _ (hP ▸ aF _ rfl))
 have Na:∀b∈fp,b<s2.heap.objs.size:=λb hb=>by
  obtain⟨o,e,_⟩:=T.obj _ _ IA b hb;exact aA e
 have Wq:s2.heap.objs.size ∉ fp:=λz=>bt _ (Na _ z)
 have I3:Inv (fA X sc N cl P2.objs.size s2 H2 fp) [] (lH mp σ) H2 { s2 with heap:=h₁ } :=
  FH hc O hk I2 FI old vO f2 Na L
 obtain⟨hg,ht,he⟩:=hb cl P2.objs.size s2 H2 fp;generalize hX:fA X sc N cl P2.objs.size s2 H2 fp=Y at I3 hg ht he;have yP:Y.prog=X.prog:=by rw[<- hX];rfl
 have yw:Y.w=X.w:=by rw[<- hX];rfl
 have yK:Y.K=X.K:=by rw[<- hX];rfl
 have yA:Y.A=X.A:=by rw[<- hX];rfl
 have yc:Y.calm=true:=by rw[<- hX];rfl
 have yx:Y.xe=λ_ _=>False:=by rw[<- hX];rfl
 have yl:Y.env.locals=P2.objs.size:=by rw[<- hX];rfl
 have Wr:Y.ex=fp:=by rw[<- hX];rfl
 have Uj:Y.s₀=s2:=by rw[<- hX];rfl
 have XB:Y.H₀=H2:=by rw[<- hX];rfl
 have Ws:Y.pn=[]:=by rw[<- hX];rfl
 have Uk:Y.fs=m7 X.stack:=by rw[<- hX];rfl
 have Qz:Y.env=compEnvC sc cl P2.objs.size X.env:=by rw[<- hX];rfl
 have Wt:∀x c,Y.env.cells.lookup x=some c->X.env.cells.lookup x=some c\/P2.objs.size<c:=λx c e=>by
  rw[Qz] at e;rcases L.sub x c e with h | h
  .exact .inl h.1
  .exact .inr h.1
 have XD:∀x c,Y.env.cells.lookup x=some c->c≠s2.heap.objs.size:=λx c e z=>by
  rcases Wt x c e with h | h
  .obtain⟨v,o,ho,_⟩:=I2.cell x c h
   exact absurd (aA ho) (by rw[z];exact bt _)
  .exact absurd (cT FI h) (by rw[z];exact bt _)
 have Ue:∀b∈fp,b ∉ m7 X.stack:=λb hb z=>by
  rcases au.mp (I2.qT b z) with e | e
  .exact (f2 b hb).2.1 e
  .exact (f2 b hb).2.2.1 e
 have XE:s2.heap.objs.size ∉ m7 X.stack:=λz=>by
  rcases au.mp (I2.qT _ z) with e | e
  .exact absurd I2.lt (by rw[<- e];exact bt _)
  .exact I2.Pz (am _) e
 have K1:∀{H':Hp} {o:Obj},(∀b∈fp,H' b=none)->∀b∈fp,qm Y [(s2.heap.objs.size,o)] H' b:=λ{H' o} hn b hb=>by
  refine⟨hn b hb,?_,?_,?_,?_,?_⟩
  .rw[yl];exact aN (aL (Na b hb) FI)
  .rw[Uk];exact Ue b hb
  .rw[Wr];exact .inl hb
  .intro x c e
   rcases Wt x c e with h | h
   .exact (f2 b hb).2.2.2.2.1 x c h
   .exact λz=>bt _ (dB (aL (Na b hb) FI) (z ▸ h))
  .intro p hp
   rw[Ws] at hp;have:p=(s2.heap.objs.size,o):=by simpa using hp
   subst this;exact λz=>Wq (by have z':s2.heap.objs.size=b:=z;rw[z'];exact hb)
 have QB:∀{σ':St} {H':Hp} {s':aq} {o:Obj},Inv Y [] σ' H' s'->s'.heap.get? s2.heap.objs.size=some o->(∀v,o.data≠.cell v)->H' s2.heap.objs.size=none->Inv Y [(s2.heap.objs.size,o)] σ' H' s' :=
  λ{σ' H' s' o} J e d hn=>J.qz λp hp=>by
   have:p=(s2.heap.objs.size,o):=by simpa using hp
   subst this;exact⟨e,hn,by rw[yl];exact Ui,by rw[Uk];exact XE,d⟩
 have loop:∀s₃:aq,s₃={ s2 with heap:=h₁ } ->
   codeAny (model X.prog X.w) X.A (.compLoop (.ListComp pb [⟨tg,iter,mU,0⟩] sc pos) 0 (.ref it) (.ref s2.heap.objs.size) Y.env)
    (compPost (model X.prog X.w) X.A X.xe use Q (.ref s2.heap.objs.size) P2.objs.size) s₃:=by
  rintro s₃ rfl
  refine vN (λn s'=>∃i ys its c σ' H',Inv Y [(s2.heap.objs.size,({ cls:=.type "list",data:=.seq its.toArray c }:Obj))] σ' H' s'/\eh ys its/\tn i s'.heap/\(∀b∈fp,H' b=none)/\ys.length<=ax/\W i n ys σ' H') ?_ m0
   ⟨0,[],[],0,lH mp σ,H2,QB I3 DN (λv z=>by cases z) (I2.hok.fresh (am _)),.nil,T.keep _ _ _ IA (λb _ o e=>old b o e),λb hb=>(f2 b hb).1,bL _,w0⟩
  rintro n s3 ⟨i,ys,its,c,σ3,H3,J3,rv,IB,P1,hz,w3⟩;have XG:=J3.pin _ (aJ _ (aw.mpr rfl));rcases turn i n ys σ3 H3 w3 with⟨stop,hl,qn⟩ | ⟨go,hl,step⟩
  .have:=T.done Y yP yw yK yc i _ s3 σ3 H3 (λ_ _=>False) J3 (K1 P1) IB stop
   rw[yA] at this;refine fM this λr s4 ⟨hr,J4⟩=>?_;subst hr;obtain⟨pe,pn,_,_,_⟩:=J4.pin _ (aJ _ (aw.mpr rfl));dsimp only at pe pn;have un:=J4.base;rw[Uk,Wr,Uj,XB] at un;have XH:s4.os=s2.os:=by have:=J4.os;rw[Uj] at this;exact this
   have QC:=J4.hok;rw[yP,yw] at QC;have IX:Inv X pins σ H3 s4:=I2.Kv XH un QC J4.bare λb hb=>⟨(f2 b hb).2.2.2.1,(f2 b hb).2.1,(f2 b hb).2.2.2.2.1,(f2 b hb).2.2.2.2.2⟩;obtain⟨mC,Wu,_⟩:=J4.loc;rw[yl] at Wu;have dX:qm X pins H3 s2.heap.objs.size:=I2.qX (am _) pn;have IT:Inv X pins σ (eZ H3 s2.heap.objs.size (.lst ys)) s4:=IX.Ce (o:=.lst ys) pe pn dX.2.1 dX.2.2.2.1 dX.2.2.2.2.1 dX.2.2.2.2.2 ⟨hl,its,c,rv,pe⟩;have cn:H3 P2.objs.size=none:=by have:=J4.free;rw[yl] at this;exact this
   have cX:qm X pins (eZ H3 s2.heap.objs.size (.lst ys)) P2.objs.size:=I2.qX FI (by rw[dY Ui.symm];exact cn);exact Uh _ _ ys H3 s4 mC IT Wu cX pn qn
  .have:=T.item Y yP yw yK yc i _ s3 σ3 H3 (λ_ _=>False) J3 (K1 P1) IB go
   rw[yA] at this;refine fM this λr s4 ⟨u,hr,h4⟩=>?_;subst hr;refine fM h4 λ_ s5 ⟨x,H5,J5,r5,y5,Mz,TR⟩=>?_;have XI:=J5.pinned (K1 TR) (T.obj _ _ Mz);have ga:=hg _ s5 σ3 H5 x u _ XI r5 (step x H5 y5);rw[yP,yw,yA,yx] at ga;refine fM ga λ_ s6 ⟨σ6,H6,J6,q6⟩=>?_;have gt:=ht _ s6 σ6 H6 _ J6 q6;rw[yP,yw,yA,yx] at gt;refine fM gt λb s7 ⟨H7,J7,q7⟩=>?_
   have K4:∀{σ':St} {H':Hp} {s':aq},Inv Y ([(s2.heap.objs.size,({ cls:=.type "list",data:=.seq its.toArray c }:Obj))]++qZ fp s5.heap) σ' H' s'->tn (i+1) s'.heap/\(∀b∈fp,H' b=none):=λ{σ' H' s'} J=>by
    refine⟨T.keep _ _ _ Mz λb hb o e=>(J.pin (b,o) (aJ _ (aJ _ (kF hb e)))).1,λb hb=>?_⟩;obtain⟨o,e,d⟩:=T.obj _ _ Mz b hb;exact (J.pin (b,o) (aJ _ (aJ _ (kF hb e)))).2.1
   cases b with
   | false =>
    have Ul:∃m',m' < n/\W (i+1) m' ys σ6 H7:=by simpa using q7
    obtain⟨m',hm,w7⟩:=Ul;obtain⟨t7,f7⟩:=K4 J7;rw[if_neg aY];exact⟨m',hm,i+1,ys,its,c,σ6,H7,J7.lE,rv,t7,f7,hz,w7⟩
   | true =>
    rw[if_pos rfl];have Ul:te σ6 H7 λy H4=>∃m',m' < n/\W (i+1) m' (ys++[y]) σ6 H4:=by simpa using q7
    have ge:=he _ s7 σ6 H7 _ J7 Ul;rw[yP,yw,yA,yx] at ge;refine fM ge λu8 s8 ⟨y,H8,J8,r8,m',hm,w8⟩=>?_;obtain⟨t8,f8⟩:=K4 J8;have Wv:=J8.lE;obtain⟨pe,pn,_,_,_⟩:=Wv.pin _ (aJ _ (aw.mpr rfl));dsimp only at pe pn;have e8:=rv.length;refine call_meets F.slot_list_append ⟨_,pe,rfl⟩ F.entry_list_append (F.args_list_append_2 _ _) (PySem.list_append s2.heap.objs.size its.toArray c u8 (by rw[aD];omega)) ⟨pe,?_⟩;have qe:=PySem.IsL.update pe (λa=>a.push u8)
    have XJ:(s8.heap.update s2.heap.objs.size (Obj.mapSeq λa=>a.push u8)).get? s2.heap.objs.size=some { cls:=.type "list",data:=.seq (its++[u8]).toArray (c+1) }:=by
     simpa using qe
    have J9:Inv Y [] σ6 H8 { s8 with heap:=s8.heap.update s2.heap.objs.size (Obj.mapSeq λa=>a.push u8),toks:=s8.toks }:=by
     have J0:Inv Y [] σ6 H8 s8:=Wv.qz λp hp=>by cases hp
     refine J0.turned (it:=s2.heap.objs.size) (λb o hb e=>(aH s8.heap _ (Ne.symm hb)).trans e) pn (by rw[yl];exact Ui) (.inr (by rw[Uj];exact am _)) XD (λp hp=>?_);rw[Ws] at hp;cases hp
    refine⟨m',hm,i+1,ys++[y],its++[u8],c+1,σ6,H8,QB J9 XJ (λv z=>by cases z) pn,rv.append (.cons r8 .nil),?_,f8,by rw[aI,bp];omega,w8⟩;exact T.keep _ _ _ t8 λb hb o e=>(aH s8.heap _ (λ(z:s2.heap.objs.size=b)=>Wq (by rw[z];exact hb))).trans e
 have QD:compEnvC sc cl P2.objs.size X.env=Y.env:=Qz.symm;show codeAny _ _ (.compStart _ 0 (.ref it) (.ref s2.heap.objs.size) (compEnvC sc cl P2.objs.size X.env)) _ _;rw[QD];exact codeAny_compStart_list (loop _ rfl) (T.self _ 0 _ _ _ (T.keep _ _ _ IA λb _ o e=>old b o e) (loop _ rfl))
noncomputable def FJ (t:TC):TE:=λσ H Q=>t σ H λys H'=>∀D,H' D=none->Q (.ref D) (eZ H' D (.lst ys))
theorem Jc (hc:X.calm=true)(hi:PI X tg iter wi)(hk:sc.kind=.function)(hm:i7 X.N X.env.scope sc N mp=true)
  (hb:∀(cl:List (Str × Addr)) (C:Addr) (s₂:aq) (H₂:Hp) (fp:List Addr),PG (fA X sc N cl C s₂ H₂ fp) tg g/\O4 (fA X sc N cl C s₂ H₂ fp) mU tc/\PE (fA X sc N cl C s₂ H₂ fp) pb te)
  (hs:∀x,foldedSetIterable iter X.env x=pure x:=by rw[3]):PE X (.ListComp pb [⟨tg,iter,mU,0⟩] sc pos) (FJ (uE wi mp g tc te)):=by
 intro pins s σ H Q I h;rw[eval_ListComp];refine uF (use:=none) hc hi hk (uD hm) hb I h hs λD C ys H' s' m I' hn f hD q=>?_;refine⟨m,hn,λh' Nc=>?_⟩;obtain⟨f0,f1,_,f3,f4,f5⟩:=f;exact⟨.ref D,_,I'.turned (t':=s'.toks) (it:=C) (λb o hb e=>(Nc.2 b hb).trans e) f0 f1 f3 f4 f5,rfl,q D hD⟩
noncomputable def FK (i:Nat)(t:TC):TS:=λD σ H=>t σ H λys H'=>∀l,H' l=none->D.nx (σ.set i (some (.ref l))) (eZ H' l (.lst ys))
theorem Jd (hN:X.N.Nodup)(Nf:X.N[i]? = some x)(hx:X.env.scope.names.lookup x=some .local)(hc:X.calm=true)(hi:PI X tg iter wi)(hk:sc.kind=.function)(hm:i7 X.N X.env.scope sc N mp=true)
  (hb:∀(cl:List (Str × Addr)) (C:Addr) (s₂:aq) (H₂:Hp) (fp:List Addr),PG (fA X sc N cl C s₂ H₂ fp) tg g/\O4 (fA X sc N cl C s₂ H₂ fp) mU tc/\PE (fA X sc N cl C s₂ H₂ fp) pb te)
  (Je:swapsWith (.ListComp pb [⟨tg,iter,mU,0⟩] sc pos) (some (.Name x py)) spos.line X.env=pure true:=by rfl)
  (hs:∀x,foldedSetIterable iter X.env x=pure x:=by rw[3]):PS X (.Assign [.Name x py] (.ListComp pb [⟨tg,iter,mU,0⟩] sc pos) spos) (FK i (uE wi mp g tc te)):=by
 intro pins s σ H D I h;rw[exec_Assign_Name_used _ _ _ _ Je];refine aa (wpAny_standAt (aa ?_));show az _ X.A (do let _ <- comprehension (.ListComp pb [⟨tg,iter,mU,0⟩] sc pos) sc X.env _ (newList []) false (eval iter X.env) (some (assign (.Name x py) X.env))) _ _ s;refine aa (fM (uF (use:=some (assign (.Name x py) X.env)) (Q:=λ_ s'=>SP X pins D .next s') hc hi hk (uD hm) hb I h hs λl C ys H' s' m I' hn f hD q=>?_) λ_ s' hq=>ai (ai hq));obtain⟨f0,f1,f2,f3,f4,f5⟩:=f;show az _ _ (assign (.Name x py) X.env (.ref l)) _ _ s';refine wpAny_assign_Name (um (v:=.ref l) I' hN Nf (.inl hx) rfl (λKR XM ⟨a,sb,ea⟩=>?_) (.inr hx))
 have XN:C≠a:=by
  rcases ea with e | e
  .rw[e];exact f1
  .exact λz=>f4 x a e z.symm
 refine⟨m,hn.sameBut sb XN,λh' Nc=>?_⟩;exact⟨_,_,XM.turned (t':=KR.toks) (it:=C) (λb o hb e=>(Nc.2 b hb).trans e) f0 f1 f3 f4 f5,q l hD⟩
end
noncomputable def E4:List (List Int × ad)->List V->List (Key × V)
 | p::kvs,x::xs=>(.inl (p.1.headD 0),x)::E4 kvs xs
 | _,_=>[]
noncomputable def HV:List (List Int × ad)->List V->List (List Key × V)
 | p::kvs,x::xs=>(p.1.map .inl,x)::HV kvs xs
 | _,_=>[]
noncomputable def xm (t:Bool)(kvs:List (List Int × ad))(xs:List V):HO:=match t with | true=>.dT (HV kvs xs) | false=>.dK (E4 kvs xs)
theorem og (h:some (HO.lst ys)=some (xm t kvs xs)):False:=by cases t<;>cases h
theorem Cf (h:some (HO.tup ys)=some (xm t kvs xs)):False:=by cases t<;>cases h
noncomputable def mV (t:Bool)(kvs:List (List Int × ad)):List (ad × ad):=(.bool t,.none)::kvs.map λp=>(.tuple (p.1.map .int),p.2)
noncomputable def iB (t:Bool)(kvs:List (List Int × ad)):ad:=.dict (mV t kvs)
mutual
def eE (S:List Addr)(H:Hp):ad->V->Prop
 | .none,v=>v=.gT
 | .bool b,v=>v=.bl b
 | .int i,v=>v=.int i
 | .str x,v=>v=.str x
 | .tuple ds,v=>∃a xs,v=.ref a/\H a=some (.tup xs)/\dS S H ds xs
 | .list ds,v=>∃a xs,v=.ref a/\H a=some (.lst xs)/\a ∉ S/\dS S H ds xs
 | .dict l,v=>∃a t kvs xs,v=.ref a/\l=mV t kvs/\H a=some (xm t kvs xs)/\a ∉ S/\(t=false->∀p∈kvs,p.1.length=1)/\gn S H l (.gT::xs)
def dS (S:List Addr)(H:Hp):List ad->List V->Prop
 | [],xs=>xs=[]
 | d::ds,xs=>∃x r,xs=x::r/\eE S H d x/\dS S H ds r
def gn (S:List Addr)(H:Hp):List (ad × ad)->List V->Prop
 | [],xs=>xs=[]
 | p::l,xs=>∃x r,xs=x::r/\zY S H p x/\gn S H l r
def zY (S:List Addr)(H:Hp):ad × ad->V->Prop
 | (_,d),x=>eE S H d x
end
structure Ext (S:List Addr) (H H':Hp):Prop where
 keep:∀b o,b ∉ S->H b=some o->H' b=some o
 tup:∀b xs,H b=some (.tup xs)->H' b=some (.tup xs)
theorem Ext.refl (S:List Addr)(H:Hp):Ext S H H:=⟨λ_ _ _ e=>e,λ_ _ e=>e⟩
theorem Ext.trans (a:Ext S H H1)(b:Ext S H1 H2):Ext S H H2:=⟨λc o hc e=>b.keep c o hc (a.keep c o hc e),λc xs e=>b.tup c xs (a.tup c xs e)⟩
theorem Ext.mono (a:Ext S H H')(h:∀b∈S,b∈S'):Ext S' H H':=⟨λb o hb e=>a.keep b o (λz=>hb (h b z)) e,a.tup⟩
theorem Ext.new (h:H p=none):Ext S H (eZ H p o):=⟨λb u _ e=>by rw[dY (eK e h)];exact e,λb xs e=>by rw[dY (eK e h)];exact e⟩
theorem Ext.set (hp:p∈S)(h:H p=some (.lst xs)):Ext S H (eZ H p o) :=
 ⟨λb u hb e=>by rw[dY (λ(z:b=p)=>hb (by rw[z];exact hp))];exact e,λb ys e=>by rw[dY (λz=>by rw[z,h] at e;cases e)];exact e⟩
theorem Ext.Um {S:List Addr}{H0 H:Hp}{p:Addr}{o:HO}{xs:List V}(a:Ext S H0 H)(h0:H0 p=none)(h:H p=some (.lst xs)):Ext S H0 (eZ H p o) :=
 ⟨λb u hb e=>by rw[dY (λz=>by rw[z,h0] at e;cases e)];exact a.keep b u hb e,λb ys e=>by rw[dY (λz=>by rw[z,h0] at e;cases e)];exact a.tup b ys e⟩
theorem Ext.fresh (a:Ext S H0 H)(hp:p ∉ S)(h:H p=none):H0 p=none:=by
 cases e:H0 p with
 | none=>rfl
 | some o=>rw[a.keep p o hp e] at h;cases h
mutual
theorem eE.ext {S:List Addr}{H H':Hp}(x:Ext S H H'):∀{d:ad} {v:V},eE S H d v->eE S H' d v
 | .none,_,h=>h
 | .bool _,_,h=>h
 | .int _,_,h=>h
 | .str _,_,h=>h
 | .tuple ds,_,h=>by
  unfold eE at h ⊢;obtain⟨a,xs,e,ha,hr⟩:=h;exact⟨a,xs,e,x.tup a xs ha,dS.ext x hr⟩
 | .list ds,_,h=>by
  unfold eE at h ⊢;obtain⟨a,xs,e,ha,hs,hr⟩:=h;exact⟨a,xs,e,x.keep a _ hs ha,hs,dS.ext x hr⟩
 | .dict l,_,h=>by
  unfold eE at h ⊢;obtain⟨a,t,kvs,xs,e,el,ha,hs,hk,hr⟩:=h;exact⟨a,t,kvs,xs,e,el,x.keep a _ hs ha,hs,hk,gn.ext x hr⟩
theorem dS.ext {S:List Addr}{H H':Hp}(x:Ext S H H'):∀{ds:List ad} {vs:List V},dS S H ds vs->dS S H' ds vs
 | [],_,h=>h
 | d::ds,_,h=>by
  unfold dS at h ⊢;obtain⟨y,r,e,h1,h2⟩:=h;exact⟨y,r,e,eE.ext x h1,dS.ext x h2⟩
theorem gn.ext {S:List Addr}{H H':Hp}(x:Ext S H H'):∀{l:List (ad × ad)} {vs:List V},gn S H l vs->gn S H' l vs
 | [],_,h=>h
 | (_,d)::l,_,h=>by
  unfold gn zY at h ⊢;obtain⟨y,r,e,h1,h2⟩:=h;exact⟨y,r,e,eE.ext x h1,gn.ext x h2⟩
end
mutual
theorem eE.less {S S':List Addr}{H:Hp}(x:∀b∈S',b∈S):∀{d:ad} {v:V},eE S H d v->eE S' H d v
 | .none,_,h=>h
 | .bool _,_,h=>h
 | .int _,_,h=>h
 | .str _,_,h=>h
 | .tuple ds,_,h=>by
  unfold eE at h ⊢;obtain⟨a,xs,e,ha,hr⟩:=h;exact⟨a,xs,e,ha,dS.less x hr⟩
 | .list ds,_,h=>by
  unfold eE at h ⊢;obtain⟨a,xs,e,ha,hs,hr⟩:=h;exact⟨a,xs,e,ha,λz=>hs (x a z),dS.less x hr⟩
 | .dict l,_,h=>by
  unfold eE at h ⊢;obtain⟨a,t,kvs,xs,e,el,ha,hs,hk,hr⟩:=h;exact⟨a,t,kvs,xs,e,el,ha,λz=>hs (x a z),hk,gn.less x hr⟩
theorem dS.less {S S':List Addr}{H:Hp}(x:∀b∈S',b∈S):∀{ds:List ad} {vs:List V},dS S H ds vs->dS S' H ds vs
 | [],_,h=>h
 | d::ds,_,h=>by
  unfold dS at h ⊢;obtain⟨y,r,e,h1,h2⟩:=h;exact⟨y,r,e,eE.less x h1,dS.less x h2⟩
theorem gn.less {S S':List Addr}{H:Hp}(x:∀b∈S',b∈S):∀{l:List (ad × ad)} {vs:List V},gn S H l vs->gn S' H l vs
 | [],_,h=>h
 | (_,d)::l,_,h=>by
  unfold gn zY at h ⊢;obtain⟨y,r,e,h1,h2⟩:=h;exact⟨y,r,e,eE.less x h1,gn.less x h2⟩
end
section
theorem dS.nil:dS S H [] []:=by unfold dS;rfl
theorem dS.cons (h:eE S H d x)(t:dS S H ds xs):dS S H (d::ds) (x::xs):=by unfold dS;exact⟨x,xs,rfl,h,t⟩
theorem dS.of_cons (h:dS S H (d::ds) xs):∃x r,xs=x::r/\eE S H d x/\dS S H ds r:=by unfold dS at h;exact h
theorem dS.fB (h:dS S H [] xs):xs=[]:=by unfold dS at h;exact h
theorem dS.length:∀{ds:List ad} {xs:List V},dS S H ds xs->xs.length=ds.length
 | [],_,h=>by rw[h.fB];rfl
 | _::_,_,h=>by
  obtain⟨x,r,e,_,h2⟩:=h.of_cons;subst e;simp[h2.length]
theorem dS.get:∀{ds:List ad} {xs:List V} {i:Nat} {x:V},dS S H ds xs->xs[i]? = some x->∃d,ds[i]? = some d/\eE S H d x
 | [],_,i,x,h,e=>by rw[h.fB] at e;cases e
 | d::ds,_,0,x,h,e=>by
  obtain⟨y,r,e1,h1,h2⟩:=h.of_cons;subst e1;cases e;exact⟨d,rfl,h1⟩
 | d::ds,_,i+1,x,h,e=>by
  obtain⟨y,r,e1,h1,h2⟩:=h.of_cons;subst e1;obtain⟨d',q,h3⟩:=dS.get (i:=i) h2 (by simpa using e);exact⟨d',by simpa using q,h3⟩
theorem dS.at:∀{ds:List ad} {xs:List V} {i:Nat} {d:ad},dS S H ds xs->ds[i]? = some d->∃x,xs[i]? = some x/\eE S H d x
 | [],_,i,d,h,e=>by cases e
 | d::ds,_,0,d',h,e=>by
  obtain⟨y,r,e1,h1,h2⟩:=h.of_cons;subst e1;cases e;exact⟨y,rfl,h1⟩
 | d::ds,_,i+1,d',h,e=>by
  obtain⟨y,r,e1,h1,h2⟩:=h.of_cons;subst e1;obtain⟨x,q,h3⟩:=dS.at (i:=i) h2 (by simpa using e);exact⟨x,by simpa using q,h3⟩
theorem dS.append:∀{ds es:List ad} {xs ys:List V},dS S H ds xs->dS S H es ys->dS S H (ds++es) (xs++ys)
 | [],_,_,_,h,k=>by rw[h.fB];exact k
 | d::ds,_,_,_,h,k=>by
  obtain⟨y,r,e1,h1,h2⟩:=h.of_cons;subst e1;exact .cons h1 (dS.append h2 k)
theorem dS.take:∀{ds:List ad} {xs:List V} (n:Nat),dS S H ds xs->dS S H (ds.take n) (xs.take n)
 | _,_,0,_=>.nil
 | [],_,n+1,h=>by rw[h.fB];exact .nil
 | d::ds,_,n+1,h=>by
  obtain⟨y,r,e1,h1,h2⟩:=h.of_cons;subst e1;exact .cons h1 (dS.take n h2)
theorem dS.drop:∀{ds:List ad} {xs:List V} (n:Nat),dS S H ds xs->dS S H (ds.drop n) (xs.drop n)
 | _,_,0,h=>h
 | [],_,n+1,h=>by rw[h.fB];exact .nil
 | d::ds,_,n+1,h=>by
  obtain⟨y,r,e1,h1,h2⟩:=h.of_cons;subst e1;exact dS.drop n h2
theorem dS.ints:∀(ns:List Int),dS S H (ns.map ad.int) (ns.map V.int)
 | []=>.nil
 | n::ns=>.cons (by unfold eE;rfl) (dS.ints ns)
theorem eE.tup (h:H a=some (.tup xs))(r:dS S H ds xs):eE S H (.tuple ds) (.ref a):=by unfold eE;exact⟨a,xs,rfl,h,r⟩
theorem eE.lst (h:H a=some (.lst xs))(hs:a ∉ S)(r:dS S H ds xs):eE S H (.list ds) (.ref a):=by unfold eE;exact⟨a,xs,rfl,h,hs,r⟩
theorem eE.int (i:Int):eE S H (.int i) (.int i):=by unfold eE;rfl
theorem eE.bl (b:Bool):eE S H (.bool b) (.bl b):=by unfold eE;rfl
theorem eE.gT:eE S H .none .gT:=by unfold eE;rfl
theorem eE.str (x:Str):eE S H (.str x) (.str x):=by unfold eE;rfl
theorem eE.fX (h:eE S H (.tuple ds) v):∃a xs,v=.ref a/\H a=some (.tup xs)/\dS S H ds xs:=by unfold eE at h;exact h
theorem eE.fG (h:eE S H (.list ds) v):∃a xs,v=.ref a/\H a=some (.lst xs)/\a ∉ S/\dS S H ds xs:=by unfold eE at h;exact h
theorem gn.DO:∀{l:List (ad × ad)} {xs:List V},gn S H l xs↔dS S H (l.map (·.2)) xs
 | [],xs=>by unfold gn;simp[dS]
 | (_,d)::l,xs=>by
  unfold gn zY;rw[aj,dS];exact⟨λ⟨x,r,e,h1,h2⟩=>⟨x,r,e,h1,gn.DO.mp h2⟩,λ⟨x,r,e,h1,h2⟩=>⟨x,r,e,h1,gn.DO.mpr h2⟩⟩
theorem iF (t:Bool)(kvs:List (List Int × ad)):(mV t kvs).map (·.2)=.none::kvs.map (·.2):=by unfold mV;rw[aj,bu];rfl
theorem eE.O5 (h:H a=some (xm t kvs xs))(hs:a ∉ S)(hk:t=false->∀p∈kvs,p.1.length=1)(r:dS S H (kvs.map (·.2)) xs):eE S H (iB t kvs) (.ref a):=by
 unfold iB eE;exact⟨a,t,kvs,xs,rfl,rfl,h,hs,hk,gn.DO.mpr (by rw[iF];exact .cons .gT r)⟩
theorem eE.pv (h:eE S H (.dict l) v):∃a t kvs xs,v=.ref a/\l=mV t kvs/\H a=some (xm t kvs xs)/\a ∉ S/\(t=false->∀p∈kvs,p.1.length=1)/\dS S H (kvs.map (·.2)) xs:=by
 unfold eE at h;obtain⟨a,t,kvs,xs,e,rfl,ha,hs,hk,hr⟩:=h;have:=gn.DO.mp hr;rw[iF] at this;obtain⟨x,r,e2,_,h2⟩:=this.of_cons;injection e2 with _ e3;subst e3;exact⟨a,t,kvs,xs,e,rfl,ha,hs,hk,h2⟩
theorem eE.eP (h:eE S H (.int i) v):v=.int i:=by unfold eE at h;exact h
theorem eE.lh (h:eE S H (.bool b) v):v=.bl b:=by unfold eE at h;exact h
theorem eE.kI (h:eE S H (.str x) v):v=.str x:=by unfold eE at h;exact h
theorem eE.vP (h:eE S H .none v):v=.gT:=by unfold eE at h;exact h
end
mutual
theorem eE.reads {P:aP}{w:World}{S:List Addr}{H:Hp}{h:Heap}(ok:j7 P w H h):∀{d:ad} {v:V} {u:ag},d.canLay0=true->eE S H d v->RelV v u->∃as,Reads h u d as
 | .none,v,u,_,r,q=>by cases r.vP;cases (show u=ag.none from q);exact⟨_,.none⟩
 | .bool b,v,u,_,r,q=>by cases r.lh;cases (show u=ag.bool b from q);exact⟨_,.bool b⟩
 | .int i,v,u,_,r,q=>by cases r.eP;obtain⟨t,e⟩:=(show ∃t,u=ag.int i t from q);cases e;exact⟨_,.int i t⟩
 | .str x,v,u,_,r,q=>by cases r.kI;obtain⟨t,e⟩:=(show ∃t,u=ag.str x t from q);cases e;exact⟨_,.str x t⟩
 | .tuple ds,v,u,c0,r,q=>by
  obtain⟨a,xs,rfl,ha,hr⟩:=r.fX;cases (show u=ag.ref a from q);obtain⟨_,its,rv,o,e,c,n,d,_⟩:=ok a _ ha;obtain⟨as,ra⟩:=dS.reads ok (by simpa [ad.canLay0] using c0) hr rv;exact⟨_,.tuple e c d (by simpa using ra)⟩
 | .list ds,v,u,c0,r,q=>by
  obtain⟨a,xs,rfl,ha,_,hr⟩:=r.fG;cases (show u=ag.ref a from q);obtain⟨_,its,n,rv,e⟩:=ok a _ ha;obtain⟨as,ra⟩:=dS.reads ok (by simpa [ad.canLay0] using c0) hr rv;exact⟨_,.list e rfl rfl (by simpa using ra)⟩
 | .dict _,v,u,c0,r,q=>by simp[ad.canLay0] at c0
theorem dS.reads {P:aP}{w:World}{S:List Addr}{H:Hp}{h:Heap}(ok:j7 P w H h):∀{ds:List ad} {xs:List V} {us:List ag},ad.canLayAll0 ds=true->dS S H ds xs->eh xs us->∃as,ReadsAll h us ds as
 | [],xs,us,_,r,q=>by
  cases r.fB;cases q;exact⟨_,.nil⟩
 | d::ds,xs,us,c0,r,q=>by
  simp only[ad.canLayAll0,bv] at c0;obtain⟨x,t,rfl,h1,h2⟩:=r.of_cons
  cases q with
  | cons q1 q2 =>
   obtain⟨as,a1⟩:=eE.reads ok c0.1 h1 q1;obtain⟨bs,b1⟩:=dS.reads ok c0.2 h2 q2;exact⟨_,.cons a1 b1⟩
end
structure Good (d:ad):Prop where
 lay:d.canLay0=true
 FN:d.showable=true
 short:d.leavesShort 60=true
 deep:d.depth<=60
 QF:d.weight<=200000
theorem Good.nodict (g:Good d):d.hasDict=false:=ad.hasDict_of_canLay d g.lay
theorem Good.fits (g:Good d):d.shown.length<=ax:=by
 have h:=ad.shown_le 60 (!2) d g.short;have h2:=g.QF;rw[sizeLine_eq];omega
section
theorem rC (hr:fw k X.A):gF X (.builtin "repr") (λxs H Q=>∃S d v,xs=[v]/\eE S H d v/\Good d/\Q (.str d.shown) H):=by
 intro pins s σ H xs us Q I r h;obtain⟨S,d,v,rfl,rp,g,q⟩:=h;obtain⟨u,rfl,ru⟩:=vals1 r;have HW:=hr.units;have fin:∀(h':Heap) (t:Tok) (tk:Nat),(∀b o,s.heap.get? b=some o->h'.get? b=some o)->EP X pins σ Q (.str d.shown t) { s with heap:=h',toks:=tk }:=λh' t tk kp=>⟨.str d.shown,H,I.kept kp,⟨t,rfl⟩,q⟩;have Jf:∀(t:Tok) (tk:Nat),EP X pins σ Q (.str d.shown t) { s with toks:=tk }:=λt tk=>fin s.heap t tk λ_ _ e=>e
 cases d with
 | none=>cases rp.vP;cases (show u=ag.none from ru);exact P.repr_of_none (Jf _ _)
 | bool b=>cases rp.lh;cases (show u=ag.bool b from ru);exact P.repr_of_bool (Jf _ _)
 | int i=>cases rp.eP;obtain⟨t,e⟩:=(show ∃t,u=ag.int i t from ru);cases e;exact P.repr_of_int (by simpa [ad.showable] using g.FN) (Jf _ _)
 | str x=>cases rp.kI;obtain⟨t,e⟩:=(show ∃t,u=ag.str x t from ru);cases e;exact P.repr_of_str (Jf _ _) g.fits
 | tuple ds =>
  obtain⟨as,ra⟩:=eE.reads I.hok g.lay rp ru;obtain⟨a,xs,rfl,_⟩:=rp.fX;cases (show u=ag.ref a from ru);exact repr_of_reads' ra g.FN (ad.noDict_hsm g.nodict) hr.gd (by have:=g.deep;omega) (λ_ _ e=>e) (λh' t tk kp=>fin h' t tk kp) g.fits
 | list ds =>
  obtain⟨as,ra⟩:=eE.reads I.hok g.lay rp ru;obtain⟨a,xs,rfl,_⟩:=rp.fG;cases (show u=ag.ref a from ru);exact repr_of_reads' ra g.FN (ad.noDict_hsm g.nodict) hr.gd (by have:=g.deep;omega) (λ_ _ e=>e) (λh' t tk kp=>fin h' t tk kp) g.fits
 | dict _=>have z:=g.lay;simp[ad.canLay0] at z
noncomputable def Uo (neg:Bool):R2:=λx y H Q=>∃S dx dy,eE S H dx x/\eE S H dy y/\dx.canLay0=true/\dy.canLay0=true/\dx.depth<=60/\Q (.bl (if neg then !PyData.eqv dx dy else ad.eqv dx dy)) H
theorem Ng (hr:fw k X.A):j8 X (compareOp .NotEq) (Uo true):=by
 intro pins s σ H x y v u Q I rx ry h;obtain⟨S,dx,dy,h1,h2,c1,c2,d1,q⟩:=h;obtain⟨as,ra⟩:=eE.reads I.hok c1 h1 rx;obtain⟨bs,rb⟩:=eE.reads I.hok c2 h2 ry;have HW:=hr.units;exact SeqAt.compareNe_reads ra rb c1 c2 (!1) ⟨.bl _,H,I,rfl,q⟩
theorem FO:gF X (.builtin "isinstance") (λxs H Q=>∃x t c b,xs=[x,.ty c]/\mM X.K H x (.type t)/\W.kitOne X.K (.type t) (.type c)=some b/\Q (.bl b) H):=by
 intro pins s σ H xs us Q I r h;obtain⟨x,t,c,b,rfl,ty,e,q⟩:=h;obtain⟨u,u2,rfl,rx,rc⟩:=vals2 r;cases (show u2=ag.type c from rc);exact DD I rx ty e λtk=>⟨.bl b,H,I.tok tk,rfl,q⟩
end
noncomputable def Up:ad->String
 | .none => "NoneType"
 | .bool _ => "bool"
 | .int _ => "int"
 | .str _ => "str"
 | .list _ => "list"
 | .tuple _ => "tuple"
 | .dict _ => "dict"
theorem eE.ty {K:W.Frag}{S:List Addr}{H:Hp}{d:ad}{v:V}(h:eE S H d v):mM K H v (.type (Up d)):=by
 cases d with
 | none=>cases h.vP;exact .gT
 | bool b=>cases h.lh;exact .bl b
 | int i=>cases h.eP;exact .int i
 | str x=>cases h.kI;exact .str x
 | tuple ds=>obtain⟨a,xs,rfl,ha,_⟩:=h.fX;exact .tup ha
 | list ds=>obtain⟨a,xs,rfl,ha,_⟩:=h.fG;exact .lst ha
 | dict _ =>
  obtain⟨a,t,kvs,xs,rfl,_,ha,_⟩:=h.pv
  cases t with
  | true=>exact .dT ha
  | false=>exact .dK ha
end L2
namespace PySem
open Sem (wp)
open AutoSeq1 (wpAny_loadPart')
section
theorem oh {Q:List ag->aq->Prop}{r:Addr}{a b c:Int}{t u v:Tok}{n:Nat}(hh:A.handled=none)(hr:IsRange s.heap r a b c t u v)(Nh:Builtin.Range.small a b c=true)
  (hn:Builtin.Range.rangeSize a b c=n) (e8:n<=2 ^ 24)
  (hQ:∀h' tk (acc:Array ag),(∀b o,s.heap.get? b=some o->h'.get? b=some o)->ItemsOf (λi v=>∃t,v=.int (a+i * c) t) acc n->Q acc.toList { s with heap:=h',toks:=tk }) :
  az (model prog w) A (collect (.ref r)) Q E s:=by
 unfold collect;refine aa (wpAny_runValue (codeAny_builtin F.entry_proto_collect ?_));rw[Around.under_plainId F.plain_proto_collect _];show az _ A.in1 (newList [] >>= λl=>again (.builtin "list.__iadd__" ⟨[l,.ref r],[]⟩)) _ _ s;refine aa (be ?_);refine ai ⟨plainId_quiet F.plain_list_iadd _,codeAny_builtin F.entry_list_iadd ?_⟩;rw[Around.under_plainId F.plain_list_iadd _];show az _ A.in1 (Builtin.List.listExtendWith (.ref s.heap.objs.size) (.ref r) (.ref s.heap.objs.size)) _ _ _;have hS:(s.heap.push { cls:=.type "list",data:=.seq ([]:List ag).toArray }).get? s.heap.objs.size=some { cls:=.type "list",data:=.seq #[] 0 }:=aF _ rfl
 have xH:∀(h':Heap) (tk:Nat) (acc:Array ag) (c':Nat),(∀b o,b≠s.heap.objs.size->(s.heap.push { cls:=.type "list",data:=.seq ([]:List ag).toArray }).get? b=some o->h'.get? b=some o) ->
   h'.get? s.heap.objs.size=some { cls:=.type "list",dict:=none,data:=.seq acc c',slots:=#[] }->ItemsOf (λi v=>∃t,v=.int (a+i * c) t) acc n ->
   az (model prog w) A (match ag.ref s.heap.objs.size with
   | ag.ref a=>do
    match (<- load a).data with
     | Data.seq xs _=>pure xs.toList
     | _=>unsupported "internal:collect"
   | _=>unsupported "internal:collect") Q E { s with heap:=h',toks:=tk }:=λh' tk acc c' kp e hi=>by
  show az _ A (load s.heap.objs.size >>= _) _ _ _;refine aa (wpAny_load e ?_);exact ai (hQ h' tk acc (λb o hb=>kp b o (aN (aA hb)) (ah _ hb)) hi)
 refine bF (wpAny_extend_range (A:=A) (R:=λr' s'=>r'=.ok (.ret (.ref s.heap.objs.size))/\∃h' tk acc c',s'={ s with heap:=h',toks:=tk }/\(∀b o,b≠s.heap.objs.size->(s.heap.push { cls:=.type "list",data:=.seq ([]:List ag).toArray }).get? b=some o->h'.get? b=some o) /\
   h'.get? s.heap.objs.size=some { cls:=.type "list",dict:=none,data:=.seq acc c',slots:=#[] }/\ItemsOf (λi v=>∃t,v=.int (a+i * c) t) acc n)
  (s:={ s with heap:=s.heap.push { cls:=.type "list",data:=.seq ([]:List ag).toArray } }) hh (ah _ hr) Nh hn e8 s.heap.objs.size (.ref s.heap.objs.size) 0 hS
  λh' tk acc c' kp e hi=>⟨rfl,h',tk,acc,c',rfl,kp,e,hi⟩) (λfin s' h=>?_) (λe s' h=>?_)
 .cases fin with
  | done f =>
   obtain⟨e,h',tk,acc,c',rfl,kp,q,hi⟩:=h;cases e;exact xH h' tk acc c' kp q hi
  | again c'=>exact⟨h.1,codeAny_mono h.2 λr KR hr=>by obtain⟨rfl,h',tk,acc,c',rfl,kp,q,hi⟩:=hr;exact xH h' tk acc c' kp q hi⟩
 .exact absurd h.1 (!4)
end
end PySem
namespace L2
open PySem PySem.Spec PyProof.Rows
noncomputable def ng (lo hi:Int):List V:=(List.range (hi - lo).toNat).map λ(k:Nat)=>V.int (lo+k)
section
variable {X:Cx}
theorem xI:gF X (.type "range") (λxs H Q=>∃j:Int,xs=[.int j]/\∀p,H p=none->Q (.ref p) (eZ H p (.Fc 0 j))):=by
 intro pins s σ H xs us Q I r h;obtain⟨j,rfl,q⟩:=h;obtain⟨u,rfl,ru⟩:=vals1 r;obtain⟨t,rfl⟩:=ru;refine call_range_1 ?_;refine⟨.ref s.heap.objs.size,_,I.laid (o:=.Fc 0 j) (λb o e=>ah _ e) (am _) ⟨_,_,_,aF _ rfl⟩,rfl,q _ (I.hok.fresh (am _))⟩
theorem pz {lo hi:Int}{acc:Array ag}(h:ItemsOf (λi v=>∃t,v=ag.int (lo+i * 1) t) acc (hi - lo).toNat):eh (ng lo hi) acc.toList:=by
 obtain⟨hs,zA⟩:=h;unfold ng
 have:∀(l:List ag) (k:Nat),(∀j v,l[j]? = some v->∃t,v=ag.int (lo+((k+j:Nat):Int)) t)->eh ((List.range' k l.length).map λ(k:Nat)=>V.int (lo+k)) l:=by
  intro l
  induction l with
  | nil=>intro k _;exact .nil
  | cons v l ih =>
   intro k hv;rw[ap,List.range'_succ,aj];refine .cons (hv 0 v rfl) (ih (k+1) λj w hw=>?_);obtain⟨t,e⟩:=hv (j+1) w (by simpa using hw);exact⟨t,by rw[e];congr 2;omega⟩
 have q:=this acc.toList 0 λj v hv=>by
  obtain⟨t,e⟩:=zA j v (by simpa using hv);exact⟨t,by rw[e,Int.mul_one,cV]⟩
 rw[List.range_eq_range',<- hs];simpa using q
theorem xK (lo hi:Int):Builtin.Range.rangeSize lo hi 1=((hi - lo).toNat:Int):=by rw[rangeSize_one];split<;>omega
theorem tL (hc:X.calm=true):gF X (.type "list") (λxs H Q=>∃p lo hi,xs=[.ref p]/\H p=some (.Fc lo hi)/\(-(2 ^ 62)<=lo/\lo<2 ^ 62/\-(2 ^ 62)<=hi/\hi<2 ^ 62)/\(hi - lo).toNat<=2 ^ 24/\∀l,H l=none->Q (.ref l) (eZ H l (.lst (ng lo hi)))):=by
 intro pins s σ H xs us Q I r h;obtain⟨p,lo,hi,rfl,hp,⟨h1,h2,h3,h4⟩,hl,q⟩:=h;obtain⟨u,rfl,ru⟩:=vals1 r;cases ru;obtain⟨t,u,v,e⟩:=I.hok p _ hp;refine call_list_range (I.ok.hd hc) e (small_one h1 h2 h3 h4) (xK lo hi) hl λh' tk nh c' kp e' zA=>?_;have hv:=pz zA;have e8:=hv.length
 have hr:(ng lo hi).length<=ax:=by
  unfold ng;rw[ak,bS,sizeLine_eq];omega
 refine⟨.ref s.heap.objs.size,_,I.laid kp (am _) (show fy X.prog X.w _ h' _ (.lst (ng lo hi)) from ⟨hr,nh.toList,c',hv,by simpa using e'⟩),rfl,q _ (I.hok.fresh (am _))⟩
theorem rD (hc:X.calm=true):gF X (.type "tuple") (λxs H Q=>∃p lo hi,xs=[.ref p]/\H p=some (.Fc lo hi)/\(-(2 ^ 62)<=lo/\lo<2 ^ 62/\-(2 ^ 62)<=hi/\hi<2 ^ 62)/\(hi - lo).toNat<=2 ^ 24/\∀l,H l=none->Q (.ref l) (eZ H l (.tup (ng lo hi)))):=by
 intro pins s σ H xs us Q I r h;obtain⟨p,lo,hi,rfl,hp,⟨h1,h2,h3,h4⟩,hl,q⟩:=h;obtain⟨u,rfl,ru⟩:=vals1 r;cases ru;obtain⟨t,u,v,e⟩:=I.hok p _ hp;have hd:=I.ok.hd hc
 have hr:(ng lo hi).length<=ax:=by
  unfold ng;rw[ak,bS,sizeLine_eq];omega
 refine callType_new F.called_tuple (!2) (F.typeCall_tuple_1 _) (F.newCall_tuple_1 _) (λobj=>F.args_object_init_2 obj _) F.entry_tuple_new
  (S:=λA' R s'=>A'.handled=none/\s'.heap.get? p=some { cls:=.type "range",data:=.fields #[.int lo t,.int hi u,.int 1 v] }/\∀(h':Heap) (tk:Nat) (acc:Array ag),(∀b o',s'.heap.get? b=some o'->h'.get? b=some o')->ItemsOf (λi v=>∃t,v=.int (lo+i * 1) t) acc (hi - lo).toNat->R (.ok (.ret (.ref h'.objs.size))) { s' with heap:=h'.push { cls:=.type "tuple",data:=.seq acc },toks:=tk })
  (.of_wp λprog w A R s h=>?_) ⟨hd,e,λh' tk acc kp zA=>?_⟩
 .obtain⟨hp,g,d,tk,os⟩:=s
  obtain⟨Il,ht,h⟩:=h;have FP:=sub_tuple_self;have Ww:=init_tuple_lookup;have hmh:=madeHere_tuple;have hT:aq.TypeIs ⟨hp,g,d,tk,os⟩ (.ref p) "range" := ⟨_,ht,rfl⟩
  wp_walk using AutoSeq1.wpAny_loadPart' ht,wpAny_typeOf hT,oh (A:=A.in1) (show A.in1.handled=none from Il) ht (small_one h1 h2 h3 h4) (xK lo hi) hl
  intro h' Uq acc kp zA;show az _ _ (Builtin.Tuple.tupleExact acc.toList.toArray >>= λv=>ret v) _ _ _;unfold Builtin.Tuple.tupleExact
  have hsz:acc.toList.toArray.size<=ax:=by
   have:=(pz zA).length;simp at this ⊢;omega
  refine aa (be ?_ hsz);refine ai ⟨_,rfl,?_⟩;have ea:acc.toList.toArray=acc:=by simp
  rw[ea];exact h h' Uq acc kp zA
 .have hv:=pz zA
  have I1:Inv X pins σ H { s with heap:=h',toks:=tk }:=I.kept kp
  have I2:Inv X pins σ (eZ H h'.objs.size (.tup (ng lo hi))) { s with heap:=h'.push { cls:=.type "tuple",data:=.seq acc },toks:=tk } :=
   I1.laid (λb o e=>ah _ e) (am _) (show fy X.prog X.w _ _ _ (.tup (ng lo hi)) from ⟨hr,acc.toList,hv,by simpa using tE.new _ _⟩)
  exact⟨⟨_,aF _ rfl,rfl⟩,⟨.ref h'.objs.size,_,I2,rfl,q _ (I1.hok.fresh (am _))⟩⟩
noncomputable def Jg:V->List V->Hp->VK->Prop:=λx vs H Q=>∃l xs i y,x=.ref l/\vs=[.int i,y]/\H l=some (.lst xs)/\xs.length<ax/\0<=i/\i<2 ^ 62/\Q .gT (eZ H l (.lst (xs.take i.toNat++y::xs.drop i.toNat)))
theorem DP:SJ X "list.insert" Jg:=by
 intro pins s σ H x vs v us Q I rx rv h;obtain⟨l,xs,i,y,rfl,rfl,hH,hz,h0,h1,q⟩:=h;cases rx;obtain⟨u,u2,rfl,⟨t,e1⟩,ru⟩:=rv.two;subst e1;obtain⟨z,its,n,r,hl,e⟩:=I.xA hH;refine call_meets F.slot_list_insert ⟨_,e,rfl⟩ F.entry_list_insert (F.args_list_insert_3 _ _ _) (AutoSeq1.list_insert_list_int_val_1 l its.toArray n i t u2 (by rw[fitsIndex_both (!1) (!1)];decide) (by rw[aD];omega)) ⟨e,?_⟩;refine⟨.gT,_,I.IW (its':=its.take i.toNat++u2::its.drop i.toNat) hH e ?_ ((r.take i.toNat).append (.cons ru (r.drop i.toNat))) ?_,rfl,q⟩
 .have hi:¬ i<0:=by omega
  simp only[if_neg hi,aD];apply Array.ext';simp;by_cases hc:i.toNat<=its.length
  .rw[Nat.min_eq_left hc,show (its.drop i.toNat).take (its.length - i.toNat)=its.drop i.toNat from bC (by rw[cZ];exact am _)]
  .rw[Nat.min_eq_right (!1)]
   simp[bC (show its.length<=i.toNat by omega),cG (show its.length<=i.toNat by omega)]
 .rw[aI,bQ,ap,cZ]
  omega
end
section
theorem QH (T:String)(hg:Gl X x)(hm:X.mg x=none)(hv:bootBuiltins x=some (.type T))(hn:x ≠ "__name__" := by decide)(hd:(x == ("__debug__" : Str))=false:=by decide):PE X (.Name x pos) (tC (.ty T)):=Im hg hm hv rfl hn hd
noncomputable def QJ (t u:TS):TS:=λD σ H=>∃M:St->Hp->Prop,t { D with nx:=M } σ H/\∀σ' H',M σ' H'->u D σ' H'
theorem Jh {st:Stmt}{rest:List Stmt}{t u:TS}(h1:PS X st t)(h2:zy X rest u):zy X (st::rest) (QJ t u):=by
 intro pins s σ H D I h;obtain⟨M,q,k⟩:=h;refine wpAny_execs_cons (fM (h1 pins s σ H { D with nx:=M } I q) λf s1 e=>?_)
 cases f with
 | next=>obtain⟨σ1,H1,I1,m1⟩:=e;exact h2 pins s1 σ1 H1 D I1 (k σ1 H1 m1)
 | brk=>exact e
 | cont=>exact e
 | ret u=>exact e
theorem Ni {α:Type}{xs:List α}{i:Int}(h0:0<=i)(h1:i<xs.length):∃v,qB xs i=some v/\xs[i.toNat]? = some v:=by
 have iQ:i.toNat<xs.length:=by omega
 refine⟨xs[i.toNat],?_,by simp[iQ]⟩;unfold qB K0;rw[if_pos h0,if_pos h1];simp[iQ]
end
noncomputable def e9:Expr->Bool
 | .Starred ..=>false
 | _=>true
theorem fc (h:e9 e=true):starEach (e::es) env=(false,eval e env)::starEach es env:=by
 cases e<;>first | rfl | cases h
theorem g6:∀{es:List Expr},es.all e9=true->(backTo pos (starEach es env)).any (·.1)=false
 | [],_=>rfl
 | e::es,h=>by
  rw[List.all_cons,bv] at h;rw[fc h.1];show (backTo pos ((false,eval e env)::starEach es env)).any (·.1)=false;have ih:=g6 (pos:=pos) (env:=env) h.2;show (false || (backTo pos (starEach es env)).any (·.1))=false;rw[ih];rfl
theorem rE:∀{es:List Expr},es.all e9=true->(backTo pos (starEach es env)).all (λx=>!x.1)=true
 | [],_=>rfl
 | e::es,h=>by
  rw[List.all_cons,bv] at h;rw[fc h.1];have ih:=rE (pos:=pos) (env:=env) h.2;show (true && (backTo pos (starEach es env)).all (λx=>!x.1))=true;rw[ih];rfl
theorem jb (h:(e::es).all e9=true):e9 e=true/\es.all e9=true:=by
 rw[List.all_cons,bv] at h;exact h
structure QE (X:Cx) (e:Expr) (t:TE):Prop where run:PE X e t
structure QT (X:Cx) (e:Expr) (t:TT):Prop where run:PT X e t
structure QW (X:Cx) (e:Expr) (t:TT):Prop where run:PW X e t
structure QA (X:Cx) (es:List Expr) (t:TA):Prop where
 run:PA X es t
 ns:es.all e9=true
structure QS (X:Cx) (st:Stmt) (t:TS):Prop where run:PS X st t
structure uG (X:Cx) (st:List Stmt) (t:TS):Prop where run:zy X st t
structure QG (X:Cx) (e:Expr) (t:TG):Prop where run:PG X e t
structure K5 (X:Cx) (es:List Expr) (t:Mp):Prop where run:PU X es t
structure QI (X:Cx) (tg iter:Expr) (t:TI):Prop where run:PI X tg iter t
structure QO (X:Cx) (e:Option Expr) (t:TO):Prop where run:PO X e t
structure QK (X:Cx) (mU:List Expr) (t:TT):Prop where run:O4 X mU t
section
variable {X:Cx}{a b c e o i' tg iter pb:Expr}{es:List Expr}{ta tb tc te to ti:TE}{tA Io:TT}{t:TA}{pos p iE gu p2:Pos}{k:Nat}{x name:Str}{ps:List Str}{sp:Sp}{id T:String}{rest:List Expr}
theorem qv (i:Nat)(hN:X.N[i]? = some x:=by rfl)(hv:tH X.env.scope x:=by (first | exact Or.inl rfl | exact Or.inr (Or.inl rfl) | exact Or.inr (Or.inr rfl)))(hd:(x == ("__debug__" : Str))=false:=by decide)
  (ic:(x == ("__classdict__" : Str))=false:=by decide):QE X (.Name x pos) (Ma i):=⟨Mb hN hv hd ic⟩
theorem eG {i j pos}:QE X (.Constant (.int i) j pos) (tC (.int i)):=⟨Mc⟩
theorem FQ {b j pos}:QE X (.Constant (.bool b) j pos) (tC (.bl b)):=⟨PJ⟩
theorem Nj {j pos}:QE X (.Constant .none j pos) (tC .gT):=⟨Md⟩
theorem Nk {x j pos}:QE X (.Constant (.str x) j pos) (tC (.str x)):=⟨Me⟩
theorem K6 (T:String)(hg:Gl X x)(hm:X.mg x=none)(hv:bootBuiltins x=some (.type T))(hn:x ≠ "__name__" := by decide)(hd:(x == ("__debug__" : Str))=false:=by decide):QE X (.Name x pos) (tC (.ty T)):=⟨QH T hg hm hv hn hd⟩
theorem Cg (hg:Gl X x)(hm:X.mg x=some u)(r:RelV v u)(hd:(x == ("__debug__" : Str))=false:=by decide):QE X (.Name x pos) (tC v):=⟨BZ hg hm r hd⟩
theorem gO (ho:j8 X (binaryOp op) r)(ha:QE X a ta)(hb:QE X b tb):QE X (.BinOp a op b pos) (ID r ta tb):=⟨P4 ho ha.run hb.run⟩
theorem QL (ho:SG X (unaryOp op) r)(ha:QE X a ta):QE X (.UnaryOp op a pos) (Wg r ta):=⟨P5 ho ha.run⟩
theorem Ji (ho:j8 X (compareOp op) r)(ha:QE X a ta)(hb:QE X b tb)(hm:behindInMarks op b=false):QE X (.Compare a [op] [b] pos) (ID r ta tb):=⟨IF ho ha.run hb.run hm⟩
theorem oj (ho:j8 X (compareOp op) r)(ha:QE X a ta)(hb:QE X b tb)(hm:behindInMarks op b=false):QT X (.Compare a [op] [b] pos) (KQ (ID r ta tb)):=⟨IG ho ha.run hb.run hm⟩
theorem zZ (h:QE X e te)(he:∀mS,isTrue e X.env mS=(do let v <- mS;standAt e.pos;holding [v] (truthy v)):=by rw[3]):QT X e (tB te):=⟨Mi h.run he⟩
theorem Ci (ha:QT X a tA):QW X (.BoolOp .And [a] pos) tA:=⟨pw_and1 ha.run⟩
theorem Nl (ha:QT X a tA):QW X (.BoolOp .Or [a] pos) tA:=⟨pw_or1 ha.run⟩
theorem FR (ha:QT X a tA)(hb:QW X (.BoolOp .And (b::rest) pos) Io):QW X (.BoolOp .And (a::b::rest) pos) (PK tA Io):=⟨pw_and ha.run hb.run⟩
theorem QM (ha:QT X a tA)(hb:QW X (.BoolOp .Or (b::rest) pos) Io):QW X (.BoolOp .Or (a::b::rest) pos) (Wd tA Io):=⟨pw_or ha.run hb.run⟩
theorem QW.pt (h:QW X e tA):QT X e tA:=⟨h.run.pt⟩
theorem Nm (ha:QT X a tA):QT X (.UnaryOp .Not a pos) (PL tA):=⟨Mj ha.run⟩
theorem Nn {op}(h:QE X a ta):QE X (.BoolOp op [a] pos) ta:=⟨Mk h.run⟩
theorem Np (ha:QE X a ta)(hb:QE X (.BoolOp .And (b::rest) pos) tb):QE X (.BoolOp .And (a::b::rest) pos) (Kx ta tb):=⟨Ml ha.run hb.run⟩
theorem z3 (ha:QE X a ta):QE X (.UnaryOp .Not a pos) (Ky ta):=⟨Mm ha.run⟩
theorem FT (hc:QT X c tA)(ha:QE X a ta)(hb:QE X b tb):QE X (.IfExp c a b pos) (We tA ta tb):=⟨Fh hc.run ha.run hb.run⟩
theorem eY:QA X [] ML:=⟨MM,rfl⟩
theorem gB (ha:QE X e te)(hr:QA X es t)(hs:e9 e=true:=by rfl):QA X (e::es) (Fv te t):=⟨IJ ha.run hr.run (fc hs),by rw[List.all_cons,hs,hr.ns];rfl⟩
theorem z4 (h:QA X es t):QE X (.List es pos) (Qc t):=⟨MO h.run⟩
theorem FU {x1}(h:QA X es t):QE X (.Tuple es x1 pos) (Qb t):=⟨MN h.run⟩
theorem jc (hr:HS X r)(ha:QE X a ta)(hb:QE X b tb)(hs:vJ b):QE X (.Subscript a b pos) (ID r ta tb):=⟨Qj hr ha.run hb.run hs⟩
theorem Cj:QO X none B7:=⟨IM⟩
theorem Ck (h:QE X e te):QO X (some e) (KZ te):=⟨IP h.run⟩
theorem xM {r:V->Option Int->Option Int->Hp->VK->Prop}{lo hi:Option Expr}{tl th:TO}(hr:HR X r)(he:QE X e te)(hl:QO X lo tl)(hu:QO X hi th):QE X (.Subscript e (.Slice lo hi none p2) pos) (Wj r te tl th):=⟨FA hr he.run hl.run hu.run⟩
theorem lK (D:eO X.prog X.w X.K X.mg X.base k x ps sp)(hr:fw k X.A)(ha:QA X (e::es) t)(hg:Gl X x:=by rfl)(jw:(x == ("__debug__" : Str))=false:=by decide) :
  QE X (.Call (.Name x p) (e::es) [] pos) (rA sp t):=⟨FF D hr ha.run hg jw (fc (jb ha.ns).1) (g6 (jb ha.ns).2)⟩
theorem fO {r:List V->Hp->VK->Prop}(hc:gF X (.builtin id) r)(hg:Gl X x)(hm:X.mg x=none)(hv:bootBuiltins x=some (.builtin id))(ha:QA X (e::es) t)(hn:x ≠ "__name__" := by decide)(jw:(x == ("__debug__" : Str))=false:=by decide) :
  QE X (.Call (.Name x p) (e::es) [] pos) (Qg r t):=⟨Fw hc hg hm hv ha.run hn jw (fc (jb ha.ns).1) (g6 (jb ha.ns).2)⟩
theorem g7 (hc:gF X (.type T) r)(hg:Gl X x)(hm:X.mg x=none)(hv:bootBuiltins x=some (.type T))(ha:QA X (e::es) t)(hn:x ≠ "__name__" := by decide)(jw:(x == ("__debug__" : Str))=false:=by decide) :
  QE X (.Call (.Name x p) (e::es) [] pos) (Qg r t):=⟨DF hc hg hm hv ha.run hn jw (fc (jb ha.ns).1) (g6 (jb ha.ns).2)⟩
theorem QN {r:V->List V->Hp->VK->Prop}(pa:PlainAttrs T)(slot:Slot T name id)(MZ:typeOf (.builtin id)=pure (.type "method_descriptor"))(hm:IS X id r)(ho:QE X o to)(ha:QA X (e::es) t)
  (rh:attributeBase o name X.env (eval o X.env)=eval o X.env:=by rfl) (hl:decide ((e::es).length+0+0<30)=true:=by rfl)
  (rk:(iE.endLine == gu.line)=true:=by rfl):QE X (.Call (.Attribute o name iE) (e::es) [] gu) (T1 X.K T r to t):=by
 refine⟨Qo pa slot MZ hm ho.run ha.run rh ?_ rk (fc (jb ha.ns).1) (g6 (jb ha.ns).2)⟩;rw[rE ha.ns];exact hl
theorem om (hN:X.N.Nodup)(hi:X.N[i]? = some x)(hx:Loc X.env.scope x)(hf:X.fn x=true\/X.env.scope.names.lookup x=some .local:=by (first | exact .inl rfl | exact .inr rfl | assumption)):QG X (.Name x pos) (xw i):=⟨Iu hN hi hx hf⟩
theorem Jj:K5 X [] PX:=⟨Iv⟩
theorem FV (h1:QG X e tt)(h2:K5 X es u)(hs:(assignEach (e::es) X.env).map (·.2)=assign e X.env::(assignEach es X.env).map (·.2):=by rfl):K5 X (e::es) (KD tt u):=⟨Fj h1.run h2.run hs⟩
theorem Nq (hc:X.calm=true)(h:K5 X es tt)(hn:(assignEach es X.env).length=n:=by rfl)(xl:(assignEach es X.env).findIdx? (·.1)=none:=by rfl):QG X (.Tuple es k pos) (PY X.K n tt):=⟨Mr hc h.run hn xl⟩
theorem vQ (ho:QE X o to)(hi:QE X i' ti)(hs:Mq X tt)
  (ha:∀v,assign (.Subscript o i' pos) X.env v=(do
   let ov <- holding [v] (eval o X.env);let iv <- holding [v,ov] (eval i' X.env)
   standAt pos
   holding [v,ov,iv] (setItem ov iv v)
   release [v,ov,iv] []):=by rw[3]):QG X (.Subscript o i' pos) (PZ to ti tt):=⟨Ms ho.run hi.run hs ha⟩
theorem Jk (hl:QE X a ta):QI X tg a (Fp X.K ta):=⟨Iz hl.run⟩
theorem Nr (hl:QE X a ta):QI X tg a (Mv X.K ta):=⟨Mw hl.run⟩
theorem uH (hg:Gl X "range")(hm:X.mg "range" = none)(ha:QA X [a] t):QI X tg (.Call (.Name "range" p) [a] [] pos) (KH t):=⟨Dw hg hm ha.run (fc (jb ha.ns).1)⟩
theorem Nt:QK X [] K2:=⟨Ja⟩
theorem z5 (h:QT X c tA):QK X [c] tA:=⟨Jb h.run⟩
variable {st:Stmt}{zB body QP:List Stmt}{ts us:TS}{mU:List Expr}{sc:Scope}{N:List Str}{mp:List (Option Nat)}{wi:TI}{g:TG}
theorem oo:uG X [] Kz:=⟨Ip⟩
theorem fi (h1:QS X st ts)(h2:uG X zB us):uG X (st::zB) (PM ts us):=⟨Fi h1.run h2.run⟩
theorem Cm (h1:QS X st ts)(h2:uG X zB us):uG X (st::zB) (QJ ts us):=⟨Jh h1.run h2.run⟩
theorem gU (h1:QS X st ts):uG X [st] ts:=⟨Iq h1.run⟩
theorem Jl (he:QE X e te)(hs:swapsWith e none pos.line X.env=pure false:=by rfl):QS X (.Expr e pos) (KC te):=⟨Ir he.run hs⟩
theorem kJ (he:QE X e te):QS X (.Return (some e) pos) (PN te):=⟨Mn he.run⟩
theorem xN (hc:QT X c tA)(ha:uG X body ts)(hb:uG X QP us):QS X (.If c body QP pos) (PQ tA ts us):=⟨PR hc.run ha.run hb.run⟩
theorem jy (hN:X.N.Nodup)(hi:X.N[i]? = some x)(hx:Loc X.env.scope x)(he:QE X e te)(hs:swapsWith e (some (.Name x iT)) pos.line X.env=pure false:=by rfl)
  (hf:X.fn x=true\/X.env.scope.names.lookup x=some .local:=by (first | exact .inl rfl | exact .inr rfl | assumption)):QS X (.Assign [.Name x iT] e pos) (Fl te (xw i)):=⟨Mu hN hi hx he.run hs hf⟩
theorem vR (he:QE X e te)(hg:QG X tg g)(hs:swapsWithSole [tg] e pos.line X.env=pure false:=by rfl)(hw:swappedStores [tg] e X.env=pure none:=by rfl)
  (h1:(assignEach [tg] X.env).map (·.2)=[assign tg X.env]:=by rfl):QS X (.Assign [tg] e pos) (Fl te g):=⟨Mt he.run hg.run hs hw h1⟩
theorem z6 (hp:PassesOwn (model X.prog X.w) X.A X.env X.xe)(hc:X.calm=true)(hi:QI X tg iter wi)(hg:QG X tg g)(hb:uG X body ts)(hs:∀x,foldedSetIterable iter X.env x=pure x:=by rw[3]) :
  QS X (.For tg iter body [] pos) (P0 wi g ts):=⟨Mx hp hc hi.run hg.run hb.run hs⟩
theorem FW (hp:PassesOwn (model X.prog X.w) X.A X.env X.xe)(hc:QT X c tA)(hb:uG X body ts):QS X (.While c body [] pos) (Fm tA ts):=⟨Fn hp hc.run hb.run⟩
theorem vS (hc:X.calm=true)(hi:QI X tg iter wi)(hk:sc.kind=.function)(hm:i7 X.N X.env.scope sc N mp=true)
  (hb:∀(cl:List (Str × Addr)) (C:Addr) (s₂:aq) (H₂:Hp) (fp:List Addr),QG (fA X sc N cl C s₂ H₂ fp) tg g/\QK (fA X sc N cl C s₂ H₂ fp) mU tA/\QE (fA X sc N cl C s₂ H₂ fp) pb te)
  (hs:∀x,foldedSetIterable iter X.env x=pure x:=by rw[3]):QE X (.ListComp pb [⟨tg,iter,mU,0⟩] sc pos) (FJ (uE wi mp g tA te)) :=
 ⟨Jc hc hi.run hk hm (λcl C s₂ H₂ fp=>⟨(hb cl C s₂ H₂ fp).1.run,(hb cl C s₂ H₂ fp).2.1.run,(hb cl C s₂ H₂ fp).2.2.run⟩) hs⟩
theorem Jm (hN:X.N.Nodup)(Nf:X.N[i]? = some x)(hx:X.env.scope.names.lookup x=some .local)(hc:X.calm=true)(hi:QI X tg iter wi)(hk:sc.kind=.function)(hm:i7 X.N X.env.scope sc N mp=true)
  (hb:∀(cl:List (Str × Addr)) (C:Addr) (s₂:aq) (H₂:Hp) (fp:List Addr),QG (fA X sc N cl C s₂ H₂ fp) tg g/\QK (fA X sc N cl C s₂ H₂ fp) mU tA/\QE (fA X sc N cl C s₂ H₂ fp) pb te)
  (Je:swapsWith (.ListComp pb [⟨tg,iter,mU,0⟩] sc pos) (some (.Name x py)) spos.line X.env=pure true:=by rfl)
  (hs:∀x,foldedSetIterable iter X.env x=pure x:=by rw[3]):QS X (.Assign [.Name x py] (.ListComp pb [⟨tg,iter,mU,0⟩] sc pos) spos) (FK i (uE wi mp g tA te)) :=
 ⟨Jd hN Nf hx hc hi.run hk hm (λcl C s₂ H₂ fp=>⟨(hb cl C s₂ H₂ fp).1.run,(hb cl C s₂ H₂ fp).2.1.run,(hb cl C s₂ H₂ fp).2.2.run⟩) Je hs⟩
end
theorem uA.K7 {P:aP}{w:World}{K:W.Frag}{mg:Str->Option ag}{base:Heap}{x fu:Str}{st:Stmt}{f:Addr}{fd:bG}{N ps:List Str}{k:Nat}{sp:Sp}(F:uA K x fu st f fd)(S:fh N ps (dM st))(len:∀vs H Q E,sp vs H Q E->vs.length=ps.length)
  (rf:∀(fz:ag) (A:Around) (outer:List Env) (s:aq) (H:Hp) (vs:List V) (Q:VK) (E:XK),fw k (A.deeper (envOfC fu (dM st) s.heap.objs.size f fz))->sp vs H Q E ->
   ∃t,uG (kG rq P w K mg base N fu (dM st) f fz A outer s H E).Dv (fE st) t/\t { nx:=λ_ H'=>Q .gT H',rt:=Q } (start N vs) H):i5 P w K mg base rq (k+1) f fd ps sp :=
 F.ok S len λfz A outer s H vs Q E hr h=>let ⟨t,q,r⟩:=rf fz A outer s H vs Q E hr h;⟨t,q.run,r⟩
section
variable {X:Cx}(K:W.Frag)
theorem XO (h:X.K=K:=by rfl):HS X (Ql K):=by subst h;exact MW
theorem XR (h:X.K=K:=by rfl):HS X (Qk K):=by subst h;exact gf
theorem Wx (h:X.K=K:=by rfl):HR X (Qn K):=by subst h;exact IU
theorem Ur (h:X.K=K:=by rfl):gF X (.builtin "len") (λxs H Q=>∃p ys,xs=[.ref p]/\(gK K H p ys\/ja K H p ys)/\Q (.int ys.length) H):=by subst h;exact kH
theorem Us (h:X.K=K:=by rfl):gF X (.builtin "isinstance") (λxs H Q=>∃x t c b,xs=[x,.ty c]/\mM K H x (.type t)/\W.kitOne K (.type t) (.type c)=some b/\Q (.bl b) H):=by subst h;exact FO
theorem z7 (h:X.K=K:=by rfl):gF X (.type "tuple") (λxs H Q=>∃p ys,xs=[.ref p]/\((gK K H p ys/\∀l,H l=none->Q (.ref l) (eZ H l (.tup ys)))\/(ja K H p ys/\Q (.ref p) H))):=by subst h;exact tJ
variable {a o e tg:Expr}{es:List Expr}{ta to:TE}{t:TA}{iE gu:Pos}{name:Str}{id T:String}
theorem FX (hl:QE X a ta)(h:X.K=K:=by rfl):QI X tg a (Fp K ta):=by subst h;exact Jk hl
theorem Jn (hl:QE X a ta)(h:X.K=K:=by rfl):QI X tg a (Mv K ta):=by subst h;exact Nr hl
theorem Nu {r:V->List V->Hp->VK->Prop}(pa:PlainAttrs T)(slot:Slot T name id)(MZ:typeOf (.builtin id)=pure (.type "method_descriptor"))(hm:IS X id r)(ho:QE X o to)(ha:QA X (e::es) t)(h:X.K=K:=by rfl)
  (rh:attributeBase o name X.env (eval o X.env)=eval o X.env:=by rfl) (hl:decide ((e::es).length+0+0<30)=true:=by rfl)
  (rk:(iE.endLine == gu.line)=true:=by rfl):QE X (.Call (.Attribute o name iE) (e::es) [] gu) (T1 K T r to t):=by subst h;exact QN pa slot MZ hm ho ha rh hl rk
end
end L2
namespace HT
open PySem PyProof.Rows
section
theorem mP {t sl:Addr}{items:Array ag}{vl vu:ag}{lo hi:Option Int}{Q:ag->aq->Prop}(ht:IsTup s.heap t items)(hs:s.heap.IsSliceOf sl vl vu .none)(pl:IsPart vl lo)(pu:IsPart vu hi)
  (hw:gL items.size 0 lo=0/\gL items.size items.size hi=items.size) (h:Q (.ref t) s):az (model prog w) A (getItem (.ref t) (.ref sl)) Q E s:=by
 obtain⟨os,MU,SI,Qh⟩:=id hs;have TY:s.TypeIs (.ref sl) "slice" := ⟨os,MU,SI⟩;unfold getItem;try with_reducible refine wpAny_holding ?_
 first | refine aa (ai ?_) | skip
 refine aa (wpAny_sequenceKey ht.typeIs (!2) ?_)
 refine aa (wpAny_callSpecial?_slot (name:=Str.ofString "__getitem__") ht.typeIs PyProof.Rows.slot_tuple_getitem
  (wpAny_call_entry PyProof.Rows.slot_tuple_getitem ht.typeIs entry_tuple_getitem ?_ (args_tuple_getitem _ _)))
 show az _ _ (Builtin.Tuple.tupleItemsOf (.ref t) >>= _) _ _ s;refine aa (tupleItemsOf_ ht ?_);refine aa (wpAny_typeOf TY ?_);rw[if_pos (!2)];refine aa (kc hs pl pu ?_)
 have Ut:((((gL items.size 0 lo:Nat):Int) == 0 && (1:Int) == 1 && (gL items.size items.size hi - gL items.size 0 lo) == items.size)=true):=by
  rw[hw.1,hw.2];simp
 show az _ _ (if (((gL items.size 0 lo:Nat):Int) == 0 && (1:Int) == 1 && (gL items.size items.size hi - gL items.size 0 lo) == items.size)=true then _ else _) _ _ s;rw[if_pos Ut];refine aa ?_;unfold Builtin.Tuple.tupleIsExact;refine aa (wpAny_typeOf ht.typeIs (ai ?_));show az _ _ (if (ag.type "tuple" == ag.type "tuple")=true then _ else _) _ _ s;rw[if_pos (!2)];exact aa (wpAny_rule (ai ⟨_,rfl,ai h⟩))
end
end HT
namespace L2
open PySem PySem.Spec PyProof.Rows
noncomputable def QQ (K:W.Frag):V->Option Int->Option Int->Hp->VK->Prop:=λx lo hi H Q=>∃a xs,x=.ref a/\ja K H a xs/\(n8 xs lo hi=xs->Q (.ref a) H)/\∀p,H p=none->Q (.ref p) (eZ H p (.tup (n8 xs lo hi)))
section
variable (K:W.Frag)
theorem XS (h:X.K=K:=by rfl):HR X (QQ K):=by
 subst h;intro pins s σ H x v vl vu lo hi sl Q I rx hs pl pu h;obtain⟨a,xs,rfl,hx,hw,q⟩:=h;by_cases hc:HT.gL xs.length 0 lo=0/\HT.gL xs.length xs.length hi=xs.length
 .cases rx
  obtain⟨its,r,ht,hz⟩:=I.tuple hx;have e8:its.toArray.size=xs.length:=by rw[aD];exact r.length.symm
  refine⟨"tuple",_,PyProof.Rows.slot_tuple_getitem.lookup,ht.typeIs,?_⟩;refine HT.mP ht hs pl pu (by rw[e8];exact hc) ⟨.ref a,H,I,rfl,hw ?_⟩;unfold n8;rw[hc.1,hc.2];simp
 .exact MV pins s σ H (.ref a) v vl vu lo hi sl Q I rx hs pl pu ⟨a,xs,rfl,hx,hc,q⟩
end
noncomputable def QR (K:W.Frag):R2:=λx y H Q=>∃a b xs ys,x=.ref a/\y=.ref b/\ja K H a xs/\ja K H b ys/\xs.length+ys.length<=ax/\(xs=[]->Q (.ref b) H)/\(ys=[]->Q (.ref a) H)/\∀p,H p=none->Q (.ref p) (eZ H p (.tup (xs++ys)))
theorem Uu (K:W.Frag)(h:X.K=K:=by rfl):j8 X (binaryOp .Add) (QR K):=by
 subst h;intro pins s σ H x y v u Q I rx ry h;obtain⟨a,b,xs,ys,rfl,rfl,ha,hb,hz,q0,q1,q2⟩:=h;by_cases hx:xs=[]
 .cases rx
  cases ry;obtain⟨its,r1,p1,_⟩:=I.tuple ha;obtain⟨mN,r2,p2,_⟩:=I.tuple hb;have hi:its=[]:=r1.n9.mpr hx;obtain⟨⟨cls,dd,data,sl⟩,ho,hc,n,hd⟩:=id p1;obtain⟨⟨TX,SH,data2,O2⟩,DG,KY,n2,HQ⟩:=id p2;simp only at hc hd KY HQ;subst hc hd KY HQ
  exact concat_meets ⟨_,ho,rfl⟩ ⟨_,DG,rfl⟩ noFill_tuple_add seq_tuple_add PySem.F.slot_tuple_add PySem.F.entry_tuple_add (PySem.F.args_tuple_add_2 _ _)
   (tuple_addW0 a b its.toArray mN.toArray n n2 dd SH sl O2 (by simp[hi])) ⟨ho,DG,⟨.ref b,H,I,rfl,q0 hx⟩⟩
 .exact IQ pins s σ H _ _ v u Q I rx ry ⟨a,b,xs,ys,rfl,rfl,ha,hb,hx,hz,q1,λ_=>q2⟩
end L2
namespace PySem
open Sem (wp)
theorem kf:fillsNumberSlot (.type "tuple") "mul" = pure false :=
 fillsNumberSlot_seq (id := "tuple.__mul__") (r:=some (.builtin "tuple.__rmul__")) F.slot_tuple_mul.lookup (!3) F.slot_tuple_rmul.lookup (!3)
theorem oq:seqRepeat? (.type "tuple")=pure (some (.builtin "tuple.__mul__")):=by
 unfold seqRepeat?;rw[seqSlot_of (T := "tuple") (name := "__mul__") (id := "tuple.__mul__") F.slot_tuple_mul.lookup (!3),seqSlot_of (T := "tuple") (name := "__rmul__") (id := "tuple.__rmul__") F.slot_tuple_rmul.lookup (!3)];rfl
theorem lL (a:Int)(t:Tok)(l:Addr)(items:Array ag)(n:Nat)(dd:Option Addr)(sl:Array (Option ag)) :
  Meets (Builtin.«int.__rmul__» ⟨[.int a t,.ref l],[]⟩) (λ_ R s=>s.heap.get? l=some { cls:=.type "tuple",dict:=dd,data:=.seq items n,slots:=sl }/\R (.ok (.ret ag.notImplemented)) s) :=
 .of_wp λprog w A R s h=>by obtain⟨hp,g,d,tk,os⟩:=s;obtain⟨hl,h⟩:=h;wp_walk;exact⟨_,rfl,h⟩
theorem tM (l:Addr)(items:Array ag)(n:Nat)(dd:Option Addr)(sl:Array (Option ag))(k:Int)(t:Tok)(j9:items.isEmpty=false)(h2:2<=k)(hk:k<2 ^ 40)(hz:items.size * k.toNat<=16000000) :
  Meets (Builtin.«tuple.__mul__» ⟨[.ref l,.int k t],[]⟩) (λ_ R s=>s.heap.get? l=some { cls:=.type "tuple",dict:=dd,data:=.seq items n,slots:=sl }/\R (.ok (.ret (ag.ref s.heap.objs.size))) { s with heap:=s.heap.push { cls:=ag.type "tuple",data:=Data.seq (dz (λx1 x2=>x1++x2) #[] (List.replicate k.toNat items)) },toks:=s.toks }) :=
 .of_wp λprog w A R s h=>by
  obtain⟨hp,g,d,tk,os⟩:=s;obtain⟨hl,h⟩:=h;have f1:=AutoSeq1.idx_int;have c0:¬ (decide (k < -(2 ^ 63)) || decide (k ≥ 2 ^ 63))=true:=by simp;omega
  have c1:¬ (items.isEmpty || k == 1)=true:=by rw[j9];simp;omega
  have c2:¬ (decide (k<=0) || items.isEmpty)=true:=by rw[j9];simp;omega
  wp_walk
  have DQ:k=((k.toNat:Nat):Int):=by omega
  have hm:(items.size:Int) * k=((items.size * k.toNat:Nat):Int):=by rw[Int.natCast_mul,<- DQ]
  have c3:¬ (items.size:Int) * k > (2 ^ 63 - 1) / 8:=by rw[hm];omega
  have c4:¬ Builtin.Tuple.tupleTooMany ((items.size:Int) * k)=true:=by
   rw[hm];unfold Builtin.Tuple.tupleTooMany;rw[decide_eq_true_eq,show ax=16777216 by decide];omega
  have Nv:PyProof.Rows.IsTup hp l items:=⟨_,hl,rfl,n,rfl⟩
  have hsz:(dz (λx1 x2=>x1++x2) #[] (List.replicate k.toNat items)).size<=ax:=by
   have e:=AutoListH.size_joined items k.toNat #[];have e0:(#[]:Array ag).size=0:=rfl;rw[e0,cV,Nat.mul_comm] at e;rw[e];exact aU hz (!2)
  rw[if_neg c0];show az _ _ (Builtin.Tuple.tupleItemsOf (.ref l) >>= _) _ _ _;refine aa (PyProof.Rows.tupleItemsOf_ Nv ?_);dsimp only;rw[if_neg c1,if_neg c2,if_neg c3,if_neg c4]
  first
   | exact aa (m:=Builtin.Tuple.tupleExact _) (be (ai ⟨_,rfl,h⟩) hsz)
   | exact aa (m:=Builtin.Tuple.tupleExact _) (be (aa (ai (ai ⟨_,rfl,h⟩))) hsz)
   | exact aa (aa (m:=Builtin.Tuple.tupleExact _) (be (ai (ai ⟨_,rfl,h⟩)) hsz))
   | exact aa (aa (m:=Builtin.Tuple.tupleExact _) (be (ai ⟨_,rfl,h⟩) hsz))
end PySem
namespace L2
open PySem PySem.Spec PyProof.Rows
section
theorem QE.weaken (h:QE X e t)(w:∀σ H Q,t' σ H Q->t σ H Q):QE X e t':=⟨λpins s σ H Q I q=>h.run pins s σ H Q I (w σ H Q q)⟩
theorem QA.weaken (h:QA X es t)(w:∀σ H Q,t' σ H Q->t σ H Q):QA X es t':=⟨λpos pins s σ H Q I q=>h.run pos pins s σ H Q I (w σ H Q q),h.ns⟩
end
section
variable {X:Cx}{us ui:List Nat}{a b e:Expr}{es:List Expr}{pos:Pos}
noncomputable def K8 (K:W.Frag):R2:=λx y H Q=>∃a k xs,x=.ref a/\y=.int k/\ja K H a xs/\xs≠[]/\2<=k/\k<2 ^ 40/\xs.length * k.toNat<=16000000/\∀p,H p=none->Q (.ref p) (eZ H p (.tup (List.replicate k.toNat xs).flatten))
theorem Jo (K:W.Frag)(h:X.K=K:=by rfl):j8 X (binaryOp .Mult) (K8 K):=by
 subst h;intro pins s σ H x y v u Q I rx ry h;obtain⟨a,k,xs,rfl,rfl,hx,j9,h2,hk,hz,q⟩:=h;cases rx;obtain⟨t,rfl⟩:=ry;obtain⟨its,r,ht,hl⟩:=I.tuple hx;obtain⟨⟨cls,dd,data,sl⟩,ho,hc,n,hd⟩:=id ht;simp only at hc hd;subst hc hd
 have Uv:its.toArray.isEmpty=false:=by
  cases its with
  | nil=>exact absurd (r.n9.mp rfl) j9
  | cons _ _=>rfl
 have hsz:its.toArray.size * k.toNat<=16000000:=by rw[aD,<- r.length];exact hz
 refine wpAny_binaryOp_repeat_ref (T := "tuple") (U := "int") (!2) ⟨_,ho,rfl⟩ (λs'=>typeIs_int s' k t) kf F.fills_int_mul F.slot_int_rmul oq F.slot_int_index.lookup
  (call_meets F.slot_int_rmul (typeIs_int s k t) F.entry_int_rmul (F.args_int_rmul_2 _ _) (lL k t a its.toArray n dd sl)
   ⟨ho,rfl,⟨_,ho,rfl⟩,call_meets F.slot_tuple_mul ⟨_,ho,rfl⟩ F.entry_tuple_mul (F.args_tuple_mul_2 _ _) (tM a its.toArray n dd sl k t Uv h2 hk hsz) ⟨ho,?_⟩⟩)
 have xC:dz (λx1 x2=>x1++x2) #[] (List.replicate k.toNat its.toArray)=(List.replicate k.toNat its).flatten.toArray:=by
  have:=foldl_rep its k.toNat [];rw[aO] at this;exact this
 rw[xC]
 have e8:(List.replicate k.toNat xs).flatten.length<=ax:=by
  rw[Cb,Nat.mul_comm,show ax=16777216 by decide];omega
 exact⟨.ref _,_,I.laid (t':=s.toks) (o:=.tup (List.replicate k.toNat xs).flatten) (λb o e=>ah _ e) (am _) ⟨e8,_,r.rep k.toNat,tE.new _ _⟩,rfl,q _ (I.hok.fresh (am _))⟩
theorem FY {x:Str}{i:Int}(hg:Gl X x)(hm:∃t,X.mg x=some (.int i t))(hd:(x == ("__debug__" : Str))=false:=by decide):QE X (.Name x pos) (tC (.int i)):=by
 obtain⟨t,e⟩:=hm;exact⟨BZ hg e ⟨t,rfl⟩ hd⟩
end
section
variable {κ:Type}[DecidableEq κ]
noncomputable def ie (kvs:List (κ × V))(k:κ):Option V:=(kvs.find? λkv=>decide (kv.1=k)).map (·.2)
noncomputable def kK (kvs:List (κ × V))(k:κ)(v:V):List (κ × V) :=
 if (kvs.any λkv=>decide (kv.1=k))=true then kvs.map (λkv=>if kv.1=k then (kv.1,v) else kv) else kvs++[(k,v)]
theorem gg {p:κ × V}{r:List (κ × V)}{k:κ}(e:p.1=k):ie (p::r) k=some p.2:=by simp[ie,bP,e]
theorem gi {p:κ × V}{r:List (κ × V)}{k:κ}(e:¬ p.1=k):ie (p::r) k=ie r k:=by simp[ie,bP,e]
theorem ou (k:κ):∀kvs:List (κ × V),(kvs.any λkv=>decide (kv.1=k))=(ie kvs k).isSome
 | []=>rfl
 | p::r=>by
  rw[ck];by_cases e:p.1=k
  .simp only[gg e,decide_eq_true e,Bool.true_or,Option.isSome_some]
  .rw[gi e,decide_eq_false e,Bool.false_or];exact ou k r
theorem xO (k j:κ)(y:V):∀kvs:List (κ × V),ie (kvs.map λkv=>if kv.1=k then (kv.1,y) else kv) j=(ie kvs j).map λx=>if j=k then y else x
 | []=>rfl
 | p::r=>by
  have ih:=xO k j y r;rw[aj];by_cases h:p.1=k
  .rw[if_pos h]
   by_cases e:p.1=j
   .rw[gg (p:=(p.1,y)) e,gg e,bH,if_pos (e.symm.trans h)]
   .rw[gi (p:=(p.1,y)) e,gi e,ih]
  .rw[if_neg h]
   by_cases e:p.1=j
   .rw[gg (p:=p) e,gg e,bH,if_neg (λz=>h (e.trans z))]
   .rw[gi (p:=p) e,gi e,ih]
theorem uI (k j:κ)(y:V):∀kvs:List (κ × V),ie kvs k=none->ie (kvs++[(k,y)]) j=if j=k then some y else ie kvs j
 | [],_=>by
  by_cases e:k=j
  .rw[if_pos e.symm];exact gg (p:=(k,y)) e
  .rw[if_neg (λz=>e z.symm)];exact gi (p:=(k,y)) e
 | p::r,hn=>by
  rw[bn];have hk:¬ p.1=k:=λz=>by rw[gg z] at hn;cases hn
  rw[gi hk] at hn;have ih:=uI k j y r hn;by_cases e:p.1=j
  .rw[gg e,gg e,if_neg (λz=>hk (e.trans z))]
  .rw[gi e,gi e,ih]
theorem FZ (kvs:List (κ × V))(k j:κ)(y:V):ie (kK kvs k y) j=if j=k then some y else ie kvs j:=by
 unfold kK;by_cases a:(kvs.any λkv=>decide (kv.1=k))=true
 .rw[if_pos a,xO]
  rw[ou] at a;by_cases e:j=k
  .obtain⟨x,hx⟩:=b9.mp a
   rw[if_pos e,e,hx,bH,if_pos rfl]
  .rw[if_neg e]
   cases ie kvs j with
   | none=>rfl
   | some x=>rw[bH,if_neg e]
 .rw[if_neg a]
  refine uI k j y kvs ?_;rw[ou] at a
  cases q:ie kvs k with
  | none=>rfl
  | some x=>rw[q] at a;exact (a rfl).elim
theorem pY (kvs:List (κ × V))(k:κ)(v:V):(kK kvs k v).length<=kvs.length+1:=by
 unfold kK;split
 .rw[ak];omega
 .rw[aI,ap,bh];omega
theorem mL.pA (r:mL o u):o.isSome=u.isSome:=by
 cases o with
 | none=>cases u with
  | none=>rfl
  | some _=>exact (show False from r).elim
 | some _=>cases u with
  | none=>exact (show False from r).elim
  | some _=>rfl
theorem mL.getD (r:mL o u)(rd:RelV d d'):RelV (o.getD d) (u.getD d'):=by
 cases o with
 | none=>cases u with
  | none=>exact rd
  | some _=>exact (show False from r).elim
 | some _=>cases u with
  | none=>exact (show False from r).elim
  | some _=>exact r
theorem KV.val {kvs:List (κ × V)}{vs:List (κ × ag)}(r:KV kvs vs)(k:κ):mL (ie kvs k) (valueAt vs k):=by
 unfold KV at r
 induction r with
 | nil=>exact True.intro
 | @cons p q ps qs h t ih =>
  obtain⟨h1,h2⟩:=h;by_cases e:p.1=k
  .have e':q.1=k:=h1.symm.trans e
   have b:valueAt (q::qs) k=some q.2:=by simp[valueAt,bP,e']
   rw[gg e,b];exact h2
  .have e':¬ q.1=k:=λz=>e (h1.trans z)
   have b:valueAt (q::qs) k=valueAt qs k:=by simp[valueAt,bP,e']
   rw[gi e,b];exact ih
theorem KV.any (r:KV kvs vs)(k:κ):(kvs.any λkv=>decide (kv.1=k))=vs.any λkv=>decide (kv.1=k):=by
 unfold KV at r
 induction r with
 | nil=>rfl
 | cons h t ih=>rw[ck,ck,ih,h.1]
theorem KV.Nw (r:KV kvs vs)(k:κ)(ry:RelV y u) :
  KV (kvs.map λkv=>if kv.1=k then (kv.1,y) else kv) (vs.map λkv=>if kv.1=k then (kv.1,u) else kv):=by
 unfold KV at r ⊢
 induction r with
 | nil=>exact .nil
 | @cons p q ps qs h t ih =>
  rw[aj,aj];refine .cons ?_ ih;obtain⟨h1,h2⟩:=h;by_cases e:p.1=k
  .rw[if_pos e,if_pos (h1.symm.trans e)];exact⟨h1,ry⟩
  .rw[if_neg e,if_neg (λz=>e (h1.trans z))];exact⟨h1,h2⟩
theorem KV.put (r:KV kvs vs)(k:κ)(ry:RelV y u):KV (kK kvs k y) (stored vs k u):=by
 unfold kK stored;rw[r.any k];by_cases e:(vs.any λkv=>decide (kv.1=k))=true
 .rw[if_pos e,if_pos e];exact r.Nw k ry
 .rw[if_neg e,if_neg e];exact Paired.snoc r ⟨rfl,ry⟩
theorem KV.keys {kvs:List (κ × V)}{vs:List (κ × ag)}(r:KV kvs vs):kvs.map (·.1)=vs.map (·.1):=by
 unfold KV at r
 induction r with
 | nil=>rfl
 | cons h t ih=>rw[aj,aj,ih,h.1]
theorem KV.length (r:KV kvs vs):kvs.length=vs.length:=Paired.length r
end
theorem xP (r:RelV (kV k) u):(fJ P w).is k u=true:=by
 cases k with
 | inl i=>obtain⟨t,e⟩:=(show ∃t,u=ag.int i t from r);subst e;exact xq P w i t
 | inr x=>obtain⟨t,e⟩:=(show ∃t,u=ag.str x t from r);subst e;exact xr P w x t
theorem uJ:∀{ks:List Key} {us:List ag},eh (ks.map kV) us->ItemsAre (fJ P w) ks us
 | [],_,r=>by rw[bo] at r;cases r;exact .nil
 | k::ks,_,r=>by
  rw[aj] at r
  cases r with
  | cons h t=>exact .cons (xP h) (uJ t)
noncomputable abbrev KT (H:Hp):List (List Key × V)->List (List Key × Addr × ag)->Prop:=Paired λp q=>p.1=q.1/\H q.2.1=some (.tup (p.1.map kV))/\RelV p.2 q.2.2
theorem KT.val {H:Hp}{kvs:List (List Key × V)}{xs:List (List Key × Addr × ag)}(r:KT H kvs xs)(k:List Key):mL (ie kvs k) ((atKey xs k).map (·.2)):=by
 induction r with
 | nil=>exact True.intro
 | @cons p q ps qs h t ih =>
  obtain⟨h1,_,h2⟩:=h;by_cases e:p.1=k
  .have e':q.1=k:=h1.symm.trans e
   have b:atKey (q::qs) k=some q.2:=by simp[atKey,bP,e']
   rw[gg e,b];exact h2
  .have e':¬ q.1=k:=λz=>e (h1.trans z)
   have b:atKey (q::qs) k=atKey qs k:=by simp[atKey,bP,e']
   rw[gi e,b];exact ih
theorem KT.Nw (r:KT H kvs xs)(k:List Key)(ry:RelV y u) :
  KT H (kvs.map λkv=>if kv.1=k then (kv.1,y) else kv) (xs.map (putAt k u)):=by
 induction r with
 | nil=>exact .nil
 | @cons p q ps qs h t ih =>
  rw[aj,aj];refine .cons ?_ ih;obtain⟨h1,h2,h3⟩:=h;unfold putAt;by_cases e:p.1=k
  .rw[if_pos e,if_pos (h1.symm.trans e)];exact⟨h1,h2,ry⟩
  .rw[if_neg e,if_neg (λz=>e (h1.trans z))];exact⟨h1,h2,h3⟩
theorem KT.put (r:KT H kvs xs)(k:List Key)(hb:H b=some (.tup (k.map kV)))(ry:RelV y u) :
  KT H (kK kvs k y) (storedH xs k b u):=by
 have e:(kvs.any λkv=>decide (kv.1=k))=(atKey xs k).isSome:=by
  rw[ou,(r.val k).pA,Option.isSome_map]
 unfold kK storedH;rw[e];by_cases q:(atKey xs k).isSome=true
 .rw[if_pos q,if_pos q];exact r.Nw k ry
 .rw[if_neg q,if_neg q];exact Paired.snoc r ⟨rfl,hb,ry⟩
theorem KT.keeps (r:KT H kvs xs)(ht:∀b ys,H b=some (.tup ys)->H' b=some (.tup ys)):KT H' kvs xs :=
 Paired.L8 r λ_ _ z=>⟨z.1,ht _ _ z.2.1,z.2.2⟩
section
theorem K9 (ok:j7 P w H h)(e:Rd H a u):fy P w H h a u:=e.ok ok
theorem uK (ok:j7 P w H h)(e:Rd H a (.dK kvs)):kvs.length<=ax/\(a == sysModules)=false/\∃vs,KV kvs vs/\h.DictOf (fJ P w) a vs :=
 show fy P w H h a (.dK kvs) from K9 ok e
theorem QU (ok:j7 P w H h)(e:H a=some (.dK kvs)):kvs.length<=ax/\(a == sysModules)=false/\∃vs,KV kvs vs/\h.DictOf (fJ P w) a vs:=uK ok (.inl e)
theorem rF {ks:List Key}(ok:j7 P w H h)(e:H a=some (.tup (ks.map kV))):(tupleKind (fJ P w)).is h ks a:=by
 obtain⟨_,its,r,o,h1,h2,n,h3,_⟩:=(show fy P w H h a (.tup (ks.map kV)) from ok a _ e);exact⟨o,its.toArray,n,h1,h2,h3,by simpa using uJ r⟩
theorem uM (ok:j7 P w H h)(e:Rd H a (.dT kvs)):kvs.length<=ax/\(a == sysModules)=false /\
  ∃xs,KT H kvs xs/\h.DictOfH (tupleKind (fJ P w)) a xs:=by
 obtain⟨z,y,xs,r,o,es,ep,h1,h2,h3,h4,h5⟩:=(show fy P w H h a (.dT kvs) from K9 ok e);refine⟨z,y,xs,r,o,es,ep,h1,h2,h3,h4,λx hx=>?_,h5⟩
 have all:∀{l:List (List Key × V)} {m:List (List Key × Addr × ag)},KT H l m->∀x∈m,(tupleKind (fJ P w)).is h x.1 x.2.1:=by
  intro l m q
  induction q with
  | nil=>intro x hx;exact nomatch hx
  | @cons p q ps qs hq t ih =>
   intro x hx;rcases au.mp hx with e | hx
   .subst e
    exact rF ok (by rw[<- hq.1];exact hq.2.1)
   .exact ih x hx
 exact all r x hx
theorem QV (ok:j7 P w H h)(e:H a=some (.dT kvs)):kvs.length<=ax/\(a == sysModules)=false /\
  ∃xs,KT H kvs xs/\h.DictOfH (tupleKind (fJ P w)) a xs:=uM ok (.inl e)
end
noncomputable def ly (H:Hp)(a:Addr)(y:V)(r:Option V):Prop :=
 (∃kvs k,Rd H a (.dK kvs)/\y=kV k/\r=ie kvs k)\/∃kvs k b,Rd H a (.dT kvs)/\y=.ref b/\H b=some (.tup (k.map kV))/\r=ie kvs k
noncomputable def rG (H:Hp)(a:Addr)(y v:V)(H':Hp):Prop :=
 (∃kvs k,H a=some (.dK kvs)/\y=kV k/\kvs.length<ax/\H'=eZ H a (.dK (kK kvs k v))) \/
 ∃kvs k b,H a=some (.dT kvs)/\y=.ref b/\H b=some (.tup (k.map kV))/\kvs.length<ax/\H'=eZ H a (.dT (kK kvs k v))
theorem ly.k {H:Hp}{a:Addr}{kvs:List (Key × V)}{k:Key}(e:H a=some (.dK kvs)):ly H a (kV k) (ie kvs k):=.inl ⟨kvs,k,.inl e,rfl,rfl⟩
theorem ly.t {H:Hp}{a b:Addr}{kvs:List (List Key × V)}{k:List Key}(e:H a=some (.dT kvs))(eb:H b=some (.tup (k.map kV))):ly H a (.ref b) (ie kvs k):=.inr ⟨kvs,k,b,.inl e,rfl,eb,rfl⟩
theorem rG.k {H:Hp}{a:Addr}{kvs:List (Key × V)}{k:Key}{v:V}(e:H a=some (.dK kvs))(hl:kvs.length<ax):rG H a (kV k) v (eZ H a (.dK (kK kvs k v))):=.inl ⟨kvs,k,e,rfl,hl,rfl⟩
theorem rG.t {H:Hp}{a b:Addr}{kvs:List (List Key × V)}{k:List Key}{v:V}(e:H a=some (.dT kvs))(eb:H b=some (.tup (k.map kV)))(hl:kvs.length<ax) :
  rG H a (.ref b) v (eZ H a (.dT (kK kvs k v))):=.inr ⟨kvs,k,b,e,rfl,eb,hl,rfl⟩
section
theorem Inv.big (I:Inv X pins σ H s):sysModules<s.heap.objs.size:=by
 have h:aR<s.heap.objs.size:=(I.mod.glob.keeps I.bk).lt;exact dB (!2) h
theorem DR {Q:ag->aq->Prop}(hu:A.units+1<cLine)(I:Inv X pins σ H s)(g:ly H a y (some v))(ry:RelV y u)(h:∀w' s',Inv X pins σ H s'->RelV v w'->Q w' s') :
  az (model X.prog X.w) A (getItem (.ref a) u) Q E s:=by
 rcases g with⟨kvs,k,e,ey,l⟩ | ⟨kvs,k,b,e,ey,eb,l⟩
 .subst ey
  obtain⟨z,hd,vs,qC,dd⟩:=uK I.hok e;obtain⟨w',hw,o9⟩:=mL.some_of (v:=v) (o:=valueAt vs k) (by rw[l];exact qC.val k);exact wpAny_getItem_of (xP ry) dd.mapOf hw (h w' _ (I.tok _) o9)
 .subst ey
  cases (show u=ag.ref b from ry);obtain⟨z,hd,xs,qC,dd⟩:=uM I.hok e;obtain⟨w',hw,o9⟩:=mL.some_of (v:=v) (o:=(atKey xs k).map (·.2)) (by rw[l];exact qC.val k);obtain⟨p,hp,XT⟩:=dC.mp hw;refine wpAny_getItem_heap (tupleKind_room_in1 hu) (rF I.hok eb) dd hp ?_;rw[XT];exact h w' _ (I.tok _) o9
theorem Uw {Q:ag->aq->Prop}(hu:A.units+1<cLine)(I:Inv X pins σ H s)(g:ly H a y o)(ry:RelV y u)(h:∀s',Inv X pins σ H s'->Q (.bool o.isSome) s') :
  az (model X.prog X.w) A (compareOp .In u (.ref a)) Q E s:=by
 rcases g with⟨kvs,k,e,ey,l⟩ | ⟨kvs,k,b,e,ey,eb,l⟩
 .subst ey
  obtain⟨z,hd,vs,qC,dd⟩:=uK I.hok e;refine wpAny_in_of (xP ry) hd dd.mapOf ?_;rw[<- (qC.val k).pA,<- l];exact h _ (I.tok _)
 .subst ey
  cases (show u=ag.ref b from ry);obtain⟨z,hd,xs,qC,dd⟩:=uM I.hok e;refine wpAny_in_heap (tupleKind_room_in1 hu) (rF I.hok eb) hd dd ?_;have q:=(qC.val k).pA;rw[Option.isSome_map] at q;rw[<- q,<- l];exact h _ (I.tok _)
theorem Cn {h':Heap}{t':Nat}{ob:HO}(I:Inv X pins σ H s)(mu:Pu (H a))(hs:Heap.SameBut a s.heap h')(he:∃q,h'.get? a=some q)(new:fy X.prog X.w (eZ H a ob) h' a ob) :
  Inv X pins σ (eZ H a ob) { s with heap:=h',toks:=t' } :=
 I.write (x:=a) (e:=a) mu (.inl rfl) (λb q hb z=>(hs.2 b hb).trans z) he new
theorem Nx (z:kvs.length<=ax)(hd:(a == sysModules)=false)(qC:KV kvs vs)(dd:h'.DictOf (fJ P w) a vs) :
  fy P w H' h' a (.dK kvs):=⟨z,hd,vs,qC,dd⟩
theorem DS {H':Hp}{Q:Unit->aq->Prop}(hu:A.units+1<cLine)(I:Inv X pins σ H s)(g:rG H a y v H')(ry:RelV y u)(rv:RelV v r)(h:∀s',Inv X pins σ H' s'->Q () s') :
  az (model X.prog X.w) A (setItem (.ref a) u r) Q E s:=by
 rcases g with⟨kvs,k,e,ey,l,eH⟩ | ⟨kvs,k,b,e,ey,eb,l,eH⟩
 .subst ey eH
  obtain⟨z,hd,vs,qC,dd⟩:=QU I.hok e;have hz:vs.length<=ax:=by rw[<- qC.length];exact z
  have hl:(kK kvs k v).length<=ax:=by have:=pY kvs k v;omega
  refine wpAny_setItem_pairs (hsz:=hz) (xP ry) dd λh' SO hs=>h _ ?_;have he:∃q,h'.get? a=some q:=let ⟨q,_,_,hq,_⟩:=SO;⟨q,hq⟩;exact Cn I (by rw[e];exact True.intro) hs he (Nx hl hd (qC.put k rv) SO)
 .subst ey eH
  cases (show u=ag.ref b from ry);obtain⟨z,hd,xs,qC,dd⟩:=QV I.hok e;have hz:xs.length<=ax:=by rw[<- Paired.length qC];exact z
  have hl:(kK kvs k v).length<=ax:=by have:=pY kvs k v;omega
  refine wpAny_setItem_heap (hsz:=hz) (tupleKind_room_in1 hu) (rF I.hok eb) dd λh' SO hs=>h _ ?_;obtain⟨q,es,ep,hq,h2,h3,h4,_,h5⟩:=SO;refine Cn I (by rw[e];exact True.intro) hs ⟨q,hq⟩ ⟨hl,hd,_,(qC.put k eb rv).keeps λc ys ec=>?_,q,es,ep,hq,h2,h3,h4,h5⟩;rw[dY (Pt ec e (λz=>nomatch z))];exact ec
end
noncomputable def F0 (i:Expr):Prop:=∀ov iv,subscripted i false ov iv=operate [ov,iv] (getItem ov iv)
theorem Jp {prog:aP}{w:World}{A:Around}{E:ag->aq->Prop}{s:aq}{env:Env}{value slice:Expr}{pos:Pos}{T id:String}{Q:ag->aq->Prop}
  (hl:typeLookup (.type T) "__getitem__" = pure (some (.builtin id))) (hs:F0 slice)
  (h:az (model prog w) A (eval value env) (λo s₁=>az (model prog w) A (eval slice env) (λi s₂=>s₂.TypeIs o T/\az (model prog w) A (getItem o i) Q E s₂) E s₁) E s) :
  az (model prog w) A (eval (.Subscript value slice pos) env) Q E s:=by
 refine Subscript_ (bF h (λo s₁ h₁=>bF h₁ (λi s₂ h₂=>?_) λ_ _ x=>x) λ_ _ x=>x);obtain⟨hT,h₂⟩:=h₂;unfold subscriptTail;refine aa ?_;rw[getitemInPython_of_ne hT.not_modules];refine aa (wpAny_specialOf hT hl ?_)
 have fin:az (model prog w) A (subscripted slice false o i) (λr s₃=>az (model prog w) A (letTemporaryGo value o r >>= λ_=>pure r) Q E s₃) E s₂:=by
  rw[hs o i];exact wpAny_operating (bF h₂ (λr s₃ h₃=>aa (wpAny_letTemporaryGo (ai h₃))) λ_ _ x=>x)
 first
  | exact ai (aa fin)
  | exact aa (ai (aa fin))
  | exact aa fin
theorem xQ (I:Inv X pins σ H s)(g:ly H a y o):s.TypeIs (.ref a) "dict" := by
 rcases g with⟨kvs,k,e,_,_⟩ | ⟨kvs,k,b,e,_,_,_⟩
 .obtain⟨_,_,vs,_,dd⟩:=uK I.hok e
  exact dd.typeIs
 .obtain⟨_,_,xs,_,dd⟩:=uM I.hok e
  exact dd.typeIs
noncomputable def K' (td ty:TE):TE:=λσ H Q=>td σ H λx H1=>ty σ H1 λy H2=>∃a v,x=.ref a/\ly H2 a y (some v)/\Q v H2
noncomputable def Ux (ty td:TE):TE:=λσ H Q=>ty σ H λy H1=>td σ H1 λx H2=>∃a o,x=.ref a/\ly H2 a y o/\Q (.bl o.isSome) H2
noncomputable def La (td ty tv:TE):TS:=λD σ H=>tv σ H λv H1=>td σ H1 λx H2=>ty σ H2 λy H3=>∃a H4,x=.ref a/\rG H3 a y v H4/\D.nx σ H4
section
theorem Jq (hu:X.A.units+1<cLine)(ho:PE X o td)(hi:PE X i ty)(hs:F0 i):PE X (.Subscript o i pos) (K' td ty):=by
 intro pins s σ H Q I h;refine Jp PySem.F.slot_dict_getitem.lookup hs (fM (ho pins s σ H _ I h) λu s1 ⟨x,H1,I1,rx,q1⟩=>fM (hi pins s1 σ H1 _ I1 q1) λiv s2 ⟨y,H2,I2,ry,a,v,ex,g,q2⟩=>?_);subst ex;obtain rfl:u=ag.ref a:=rx;exact⟨xQ I2 g,DR hu I2 g ry λw' s3 I3 o9=>⟨v,H2,I3,o9,q2⟩⟩
theorem F1 (hu:X.A.units+1<cLine)(hi:PE X i ty)(ho:PE X o td):PC X .In i o (Ux ty td):=by
 intro pins s σ H Q I h;refine fM (hi pins s σ H _ I h) λiv s1 ⟨y,H1,I1,ry,q1⟩=>fM (ho pins s1 σ H1 _ I1 q1) λu s2 ⟨x,H2,I2,rx,a,ov,ex,g,q2⟩=>?_;subst ex;obtain rfl:u=ag.ref a:=rx;exact Uw hu I2 g ry λs3 I3=>⟨.bl ov.isSome,H2,I3,rfl,q2⟩
theorem Jr (hu:X.A.units+1<cLine)(ho:PE X o td)(hi:PE X i ty)(hv:PE X value tv)(hs:swapsWith value (some (.Subscript o i iT)) pos.line X.env=pure false) :
  PS X (.Assign [.Subscript o i iT] value pos) (La td ty tv):=by
 intro pins s σ H D I h;refine wpAny_Assign_Subscript (fM (hv pins s σ H _ I h) λr s1 ⟨v,H1,I1,rv,q1⟩=>fM (ho pins s1 σ H1 _ I1 q1) λu s2 ⟨x,H2,I2,rx,q2⟩=>fM (hi pins s2 σ H2 _ I2 q2) λiv s3 ⟨y,H3,I3,ry,a,H4,ex,g,q3⟩=>?_) hs;subst ex;obtain rfl:u=ag.ref a:=rx;exact DS hu I3 g ry rv λs4 I4=>⟨σ,H4,I4,q3⟩
end
theorem F3 (h:Heap)(hb:sysModules<h.objs.size):fy P w H (h.push { cls:=.type "dict",data:=.dict #[] }) h.objs.size (.dK []) :=
 ⟨bL _,beq_eq_false_iff_ne.mpr (Ne.symm (aN hb)),[],.nil,Heap.DictOf.new h⟩
noncomputable def F4:TE:=λ_ H Q=>∀p,H p=none->Q (.ref p) (eZ H p (.dK []))
section
theorem F5:PE X (.Dict [] [] pos) F4:=λpins s σ H Q I h =>
 wpAny_Dict_empty ⟨.ref s.heap.objs.size,_,I.laid (a:=s.heap.objs.size) (o:=.dK []) (t':=s.toks) (λ_ _ q=>ah _ q) (am _) (F3 s.heap I.big),rfl,h _ (I.hok.fresh (am _))⟩
end
structure M2 (X:Cx) (o:Expr) (m:Str) (iE:Pos) (e f:Expr) (gu:Pos):Prop where
 base:attributeBase o m X.env (eval o X.env)=eval o X.env
 SQ:((backTo gu (starEach [e,f] X.env)).all (λx=>!x.1) && (backToKw gu (keywordEach [] X.env)).all (λx=>x.1.isSome)
  && decide (([e,f]:List Expr).length+([]:List Keyword).length+(if ([]:List Keyword).isEmpty then 0 else 1)<30))=true
 line:(iE.endLine == gu.line)=true
 trees:backTo gu (starEach [e,f] X.env)=[(false,eval e X.env),(false,eval f X.env)]
noncomputable def Uy (H:Hp)(a:Addr):Prop:=(∃kvs,Rd H a (.dK kvs))\/∃kvs,Rd H a (.dT kvs)
theorem Ny (I:Inv X pins σ H s)(d:Uy H a) :
  s.TypeIs (.ref a) "dict" /\ (∀b,ag.ref a=.ref b->∃ob,s.heap.get? b=some ob/\ob.dict=none)/\(a == sysModules)=false:=by
 rcases d with⟨kvs,e⟩ | ⟨kvs,e⟩
 .obtain⟨_,hd,vs,_,dd⟩:=uK I.hok e
  refine⟨dd.typeIs,λb q=>?_,hd⟩;cases q;obtain⟨ob,_,_,h1,h2,_⟩:=dd;exact⟨ob,h1,h2.2.1⟩
 .obtain⟨_,hd,xs,_,dd⟩:=uM I.hok e
  refine⟨dd.typeIs,λb q=>?_,hd⟩;cases q;obtain⟨ob,_,_,h1,h2,_⟩:=dd;exact⟨ob,h1,h2.2.1⟩
section
theorem Nz {Q:ag->aq->Prop}(hu:A.units+1<cLine)(I:Inv X pins σ H s)(g:ly H a y o)(ry:RelV y u)(rd:RelV d r)(h:∀w' s',Inv X pins σ H s'->RelV (o.getD d) w'->Q w' s') :
  az (model X.prog X.w) A (call (.builtin "dict.get") [.ref a,u,r]) Q E s:=by
 rcases g with⟨kvs,k,e,ey,l⟩ | ⟨kvs,k,b,e,ey,eb,l⟩
 .subst ey
  obtain⟨z,hd,vs,qC,dd⟩:=uK I.hok e;refine call_meetsIn PySem.F.slot_dict_get dd.typeIs PySem.F.entry_dict_get (PySem.F.args_dict_get_3 _ _ _) (meets_dict_get_default (fJ X.prog X.w) a (xP ry) hd r) ⟨_,dd.mapOf,h _ _ (I.tok _) ?_⟩;rw[l];exact (qC.val k).getD rd
 .subst ey
  cases (show u=ag.ref b from ry);obtain⟨z,hd,xs,qC,dd⟩:=uM I.hok e;refine call_meetsIn PySem.F.slot_dict_get dd.typeIs PySem.F.entry_dict_get (PySem.F.args_dict_get_3 _ _ _) (meetsH_dict_get_default (tupleKind (fJ X.prog X.w)) a b hd r) ⟨tupleKind_room_in1 hu,k,xs,rF I.hok eb,dd,h _ _ (I.tok _) ?_⟩;rw[l];exact (qC.val k).getD rd
end
noncomputable def F6 (td ty tx:TE):TE:=λσ H Q=>td σ H λx H1=>∃a,x=.ref a/\Uy H1 a/\ty σ H1 λy H2=>tx σ H2 λz H3=>∃o,ly H3 a y o/\Q (o.getD z) H3
section
theorem F7 (hu:X.A.units+1<cLine)(ho:PE X o td)(he:PE X e ty)(hf:PE X f tx)(m:M2 X o "get" iE e f gu):PE X (.Call (.Attribute o "get" iE) [e,f] [] gu) (F6 td ty tx):=by
 intro pins s σ H Q I h;refine wpAny_Call_method m.base m.SQ m.line PySem.F.plainAttrs_dict PySem.F.slot_dict_get PySem.F.type_dict_get (fM (ho pins s σ H _ I h) λu s1 ⟨x,H1,I1,rx,a,ex,d,q1⟩=>?_);subst ex;obtain rfl:u=ag.ref a:=rx;obtain⟨t1,t2,_⟩:=Ny I1 d;refine⟨t1,t2,?_⟩;rw[m.trees]
 refine Calls.callWith_builtin rfl (Calls.evalArgs_plain (Calls.spliced_cons (fM (he pins s1 σ H1 _ I1 q1) λiv s2 ⟨y,H2,I2,ry,q2⟩ =>
  Calls.spliced_cons (fM (hf pins s2 σ H2 _ I2 q2) λfv s3 ⟨z,H3,I3,rz,ov,g,q3⟩=>Calls.spliced_nil ?_))))
 exact Nz hu I3 g ry rz λw' s4 I4 o9=>⟨_,H3,I4,o9,q3⟩
end
end L2
namespace PySem
open Sem (wp)
open AutoSeq1 (wpAny_loadPart')
theorem qp (l b:Addr)(xs ys:Array ag)(n n2:Nat)(dd:Option Addr)(sl:Array (Option ag))(h0:¬ (!xs.isEmpty && Builtin.List.listTooLong (xs.size+ys.size))=true)(h1:xs.size<=ax)(h2:(xs++ys).size<=ax+1) :
  Meets (Builtin.«list.extend» ⟨[.ref l,.ref b],[]⟩) (λ_ R s=>s.heap.get? l=some { cls:=.type "list",dict:=none,data:=.seq xs n,slots:=#[] }/\s.heap.get? b=some { cls:=.type "tuple",dict:=dd,data:=.seq ys n2,slots:=sl } /\
   R (.ok (.ret ag.none)) { s with heap:=s.heap.update l (Obj.mapSeq λx=>x++ys),toks:=s.toks }) :=
 .of_wp λprog w A R s h=>by
  obtain⟨hp,g,d,tk,os⟩:=s;obtain⟨hl,hb,h⟩:=h;have f1:=AutoSeq1.idx_int
  wp_walk using (wpAny_updateSeq hl rfl (hz:=h1) (_hz':=h2)),wpAny_loadPart' hl,wpAny_loadPart' hb
  exact⟨_,rfl,h⟩
end PySem
namespace L2
open PySem PySem.Spec PyProof.Rows
section
variable {X:Cx}{o i e f value:Expr}{td ty tv tx to ti te:TE}{pos iT iE gu:Pos}
theorem rH:QE X (.Dict [] [] pos) F4:=⟨F5⟩
theorem qD (hu:X.A.units+1<cLine)(ho:QE X o td)(hi:QE X i ty)(hs:F0 i):QE X (.Subscript o i pos) (K' td ty):=⟨Jq hu ho.run hi.run hs⟩
theorem rJ (hu:X.A.units+1<cLine)(ho:QE X o td)(he:QE X e ty)(hf:QE X f tx)(m:M2 X o "get" iE e f gu):QE X (.Call (.Attribute o "get" iE) [e,f] [] gu) (F6 td ty tx):=⟨F7 hu ho.run he.run hf.run m⟩
theorem vT (hu:X.A.units+1<cLine)(ho:QE X o td)(hi:QE X i ty)(hv:QE X value tv)(hs:swapsWith value (some (.Subscript o i iT)) pos.line X.env=pure false:=by rfl):QS X (.Assign [.Subscript o i iT] value pos) (La td ty tv):=⟨Jr hu ho.run hi.run hv.run hs⟩
noncomputable def F8 (K:W.Frag):V->List V->Hp->VK->Prop:=λx vs H Q=>∃l b xs zs,x=.ref l/\vs=[.ref b]/\H l=some (.lst xs)/\ja K H b zs/\xs.length+zs.length<=ax/\Q .gT (eZ H l (.lst (xs++zs)))
theorem z8 (K:W.Frag)(h:X.K=K:=by rfl):SJ X "list.extend" (F8 K):=by
 subst h;intro pins s σ H x vs v us Q I rx rv h;obtain⟨l,b,xs,zs,rfl,rfl,hH,hB,hz,q⟩:=h;cases rx;obtain⟨u,rfl,ru⟩:=rv.one;cases ru;obtain⟨z,its,n,r,hl,e⟩:=I.xA hH;obtain⟨mN,r2,ht,Ca⟩:=I.tuple hB;obtain⟨⟨cls,dd,data,sl⟩,ho,hc,n2,hd⟩:=id ht;simp only at hc hd;subst hc hd;have e1:=r2.length;have hsz:its.toArray.size+mN.toArray.size<=ax:=by rw[aD,aD];omega
 have xB:¬ (!its.toArray.isEmpty && Builtin.List.listTooLong (its.toArray.size+mN.toArray.size))=true:=λz=>by
  rw[rl hsz,Bool.and_false] at z;cases z
 have DT:(its.toArray++mN.toArray).size<=ax+1:=by rw[Array.size_append];omega
 refine call_meets F.slot_list_extend ⟨_,e,rfl⟩ F.entry_list_extend (F.args_list_extend_2 _ _) (qp l b its.toArray mN.toArray n n2 dd sl xB (!1) DT) ⟨e,ho,?_⟩;exact⟨.gT,_,I.IW (its':=its++mN) hH e (!4) (r.append r2) (by rw[aI];exact hz),rfl,q⟩
theorem IntsAre.oy:∀{ns:List Int} {us:List ag},eh (ns.map V.int) us->IntsAre us ns
 | [],us,h=>by cases h;exact .nil
 | n::ns,us,h=>by
  cases h with
  | cons r t =>
   obtain⟨tk,rfl⟩:=r;exact .cons n tk (IntsAre.oy t)
theorem eh.qE:∀{ns:List Int} {us:List ag},IntsAre us ns->eh (ns.map V.int) us
 | _,_,.nil=>.nil
 | _,_,.cons n t r=>.cons ⟨t,rfl⟩ (eh.qE r)
theorem oz (K:W.Frag)(hk:X.K=K:=by rfl):gF X (.builtin "sorted") (λxs H Q=>∃(p:Addr) (ns:List Int),xs=[.ref p]/\gK K H p (ns.map V.int)/\ns.length<64/\∀(l:Addr) (ms:List Int),ms.Perm ns->ms.Pairwise (·<=·)->H l=none->Q (.ref l) (eZ H l (.lst (ms.map V.int)))):=by
 subst hk;intro pins s σ H xs us Q I r h;obtain⟨p,ns,rfl,hp,HX,q⟩:=h;obtain⟨u,rfl,ru⟩:=vals1 r;cases ru;obtain⟨its,rv,ht,hz⟩:=I.list hp;have hl:=rv.length;rw[ak] at hl;refine sorted_ints ht.isList (IntsAre.oy rv) (!1) λout ms h1 h2 h3=>?_;have hm:=h2.length_eq;have hv:eh (ms.map V.int) out.toList:=eh.qE h1;have hsz:(ms.map V.int).length<=ax:=by rw[ak,show ax=16777216 by decide];omega
 have kp:∀b o,s.heap.get? b=some o->(sortedAll s.heap its out).get? b=some o:=λb o e=>sortedAll_old e;have nw:=sortedAll_at s.heap its out;obtain⟨n,nw⟩:=nw;refine⟨.ref (s.heap.objs.size+1),_,I.laid (t':=s.toks) (o:=.lst (ms.map V.int)) kp (cb _) ⟨hsz,out.toList,n,hv,by simpa using nw⟩,rfl,q _ ms h2 h3 (I.hok.fresh (cb _))⟩
end
noncomputable def QX (o:Obj)(a:Addr)(kvs:List (Key × V)):It :=
 ⟨λi H=>H a=some (.qR o (.dK kvs))/\i<kvs.length,λi H x H'=>H'=H/\∃k v,kvs[i]? = some (k,v)/\x=kV k,λi H=>H a=some (.qR o (.dK kvs))/\kvs.length<=i⟩
theorem Co (h:(fJ P w).is k u=true):RelV (kV k) u:=by
 rcases fF (show qQ k u=true from h) with⟨i,t,rfl,rfl⟩ | ⟨x,t,rfl,rfl⟩
 .exact⟨t,rfl⟩
 .exact⟨t,rfl⟩
theorem F9 (I:Inv X pins σ H s)(h:H a=some (.qR o (.dK kvs)))(hd:o.data=.dict es ep) :
  (a == sysModules)=false/\∃vs,KV kvs vs/\s.heap.DictAt (fJ X.prog X.w) a vs ep:=by
 obtain⟨e,z,y,vs,r,ob,jv,SD,e',c,d,k,p,n⟩:=I.hok a _ h;rw[e] at e';cases e';rw[hd] at d;cases d;exact⟨y,vs,r,o,es,e,c,hd,k,p,n⟩
theorem QY {kvs:List (Key × V)}{vs:List (Key × ag)}(r:KV kvs vs){i:Nat}{k:Key}{v:V}(h:kvs[i]? = some (k,v)):∃u,vs[i]? = some (k,u):=by
 have hk:=r.keys;have hl:=r.length;have hi:i<kvs.length:=(aX.mp h).1;have zA:i<vs.length:=by omega
 have e1:(kvs.map (·.1))[i]? = some k:=by rw[aC,h];rfl
 have e2:vs[i]? = some vs[i]:=by simp[zA]
 rw[hk,aC,e2] at e1;have e3:vs[i].1=k:=Option.some.inj e1;refine⟨vs[i].2,?_⟩;rw[e2,<- e3]
theorem DU {P:aP}{w:World}{K:W.Frag}{tg:Expr}(a it:Addr){o:Obj}{kvs:List (Key × V)}{es:Array DictEntry}{ep:Nat}(hd:o.data=.dict es ep):zG P w K tg (QX o a kvs) [it] it (λi h=>h.IsKeyIter it a i kvs.length ep) where
 mem:=by simp
 obj:=λi h st b hb=>by
  have e:b=it:=by simpa using hb
  subst e;obtain⟨o,e,c,d⟩:=st;exact⟨o,e,λv z=>by rw[d] at z;cases z⟩
 keep:=λi h h' st k=>st.at λo e=>k it (!4) o e
 item:=by
  intro X hP hw hK hc i pins s σ H E I hf st hg;subst hP hw hK;obtain⟨hg,hi⟩:=hg;obtain⟨_,vs,r,da⟩:=F9 I hg hd;have hx:kvs[i]? = some kvs[i]:=by simp[hi]
  obtain⟨u,hu⟩:=QY r (k:=kvs[i].1) (v:=kvs[i].2) hx;obtain⟨f0,f1,f2,f3,f4,f5⟩:=hf it (!4);have hl:=r.length;rw[hl] at st;refine wpAny_pyNext_dict_item st da hu λkey h' MK eM sb=>?_;have I1:Inv X pins σ H { s with heap:=h' }:=I.turned (t':=s.toks) (λb o hb e=>(sb.2 b hb).trans e) f0 f1 f3 f4 f5;obtain⟨o',e,c,d⟩:=id eM;exact⟨key,rfl,B0 (s:={ s with heap:=h' }) e c d (!2) ⟨kV kvs[i].1,H,I1,Co MK,⟨rfl,_,_,hx,rfl⟩,by rw[hl];exact eM,λb hb=>(hf b hb).1⟩⟩
 done:=by
  intro X hP hw hK hc i pins s σ H E I hf st hg;subst hP hw hK;obtain⟨hg,hi⟩:=hg;obtain⟨_,vs,r,da⟩:=F9 I hg hd;obtain⟨f0,f1,f2,f3,f4,f5⟩:=hf it (!4);have hl:=r.length;rw[hl] at st;exact wpAny_pyNext_dict_end (I.ok.hd hc) st da (by simp;omega) λh' eb=>⟨rfl,I.turned (t':=s.toks) (λb o hb e=>eb b o hb e) f0 f1 f3 f4 f5⟩
 self:=λ_ _ _ _ _ st h=>wpAny_pyIter_keyiter st h
section
variable {X:Cx}{tg:Expr}
theorem Inv.freeze {pins:List (Addr × Obj)}{s:aq}{σ:St}{H:Hp}{a:Addr}{kvs:List (Key × V)}(I:Inv X pins σ H s)(h:H a=some (.dK kvs)) :
  ∃o es ep,o.data=.dict es ep/\Inv X pins σ (eZ H a (.qR o (.dK kvs))) s/\(a == sysModules)=false/\∃vs,KV kvs vs/\s.heap.DictAt (fJ X.prog X.w) a vs ep:=by
 obtain⟨z,y,vs,r,o,es,ep,e,c,d,k,p,n⟩:=I.hok a _ h;refine⟨o,es,ep,d,?_,y,vs,r,o,es,e,c,d,k,p,n⟩;have:=I.write (x:=a) (e:=a) (h':=s.heap) (t':=s.toks) (o:=.qR o (.dK kvs)) (by rw[h];exact trivial) (.inl rfl) (λb u _ q=>q) ⟨o,e⟩ ⟨e,z,y,vs,r,o,es,ep,e,c,d,k,p,n⟩;exact this
noncomputable def QZ (tl:TE):TI:=λσ H R=>tl σ H λx H1=>∃a kvs,x=.ref a/\H1 a=some (.dK kvs)/\∀o,R (QX o a kvs) (eZ H1 a (.qR o (.dK kvs)))
theorem Cp {l:Expr}{tl:TE}(hl:QE X l tl):QI X tg l (QZ tl):=by
 refine⟨λpins s σ H R I h=>?_⟩;refine fM (hl.run pins s σ H _ I h) λv s1 ⟨x,H1,I1,r1,q1⟩=>?_;obtain⟨a,kvs,e,ha,q⟩:=q1;subst e;cases r1;obtain⟨o,es,ep,hd,I2,hy,vs,qC,da⟩:=I1.freeze ha;refine wpAny_pyIter_dict hy da ?_;have e8:=qC.length;refine⟨s1.heap.objs.size,[s1.heap.objs.size],_,_,_,rfl,I2.kept (t':=s1.toks) λb o e=>ah _ e,DU a _ hd,⟨_,aF _ rfl,rfl,by rw[e8];rfl⟩,λb hb=>?_,q o⟩;have e:b=s1.heap.objs.size:=by simpa using hb
 subst e;exact I2.qX (am _) (I2.hok.fresh (am _))
theorem uN {mp:List (Option Nat)}{g:TG}{tc:TT}{te:TE}{σ:St}{H:Hp}{R:List V->Hp->Prop}{o:Obj}{a:Addr}{kvs:List (Key × V)}(Pv:Nat->List V->St->Hp->Prop)(h0:Pv 0 [] (lH mp σ) H)
  (hl:∀i ys σ' H',Pv i ys σ' H'->H' a=some (.qR o (.dK kvs)))
  (hs:∀i k v ys σ' H',kvs[i]? = some (k,v)->Pv i ys σ' H'->ys.length<ax/\g (kV k) σ' H' λσ2 H2=>tc σ2 H2 λb H3=>if b=true then te σ2 H3 λy H4=>Pv (i+1) (ys++[y]) σ2 H4 else Pv (i+1) ys σ2 H3)
  (hd:∀ys σ' H',Pv kvs.length ys σ' H'->ys.length<=ax/\R ys H') :
  ∃W:Nat->Nat->List V->St->Hp->Prop,(∃m,W 0 m [] (lH mp σ) H)/\∀i m ys σ' H',W i m ys σ' H' ->
   ((QX o a kvs).stop i H'/\ys.length<=ax/\R ys H') \/
   ((QX o a kvs).go i H'/\ys.length<ax/\∀x Nb,(QX o a kvs).HN i H' x Nb->g x σ' Nb λσ2 H2=>tc σ2 H2 λb H3 =>
    if b=true then te σ2 H3 λy H4=>∃m',m' < m/\W (i+1) m' (ys++[y]) σ2 H4 else ∃m',m' < m/\W (i+1) m' ys σ2 H3):=by
 refine⟨λi m ys σ H=>m=kvs.length - i/\i<=kvs.length/\Pv i ys σ H,⟨kvs.length,!4,bL _,h0⟩,?_⟩;rintro i m ys σ' H' ⟨rfl,hi,p⟩;have q0:=hl i ys σ' H' p;by_cases iQ:i<kvs.length
 .have e:∀ys σ H,(∃m',m' < kvs.length - i/\m'=kvs.length - (i+1)/\i+1<=kvs.length/\Pv (i+1) ys σ H)=Pv (i+1) ys σ H:=λys σ H=>propext ⟨λ⟨_,_,_,_,z⟩=>z,λz=>⟨_,!1,rfl,iQ,z⟩⟩
  have hx:kvs[i]? = some kvs[i]:=by simp[iQ]
  refine .inr ⟨⟨q0,iQ⟩,(hs i kvs[i].1 kvs[i].2 ys σ' H' hx p).1,λx Nb y=>?_⟩;obtain⟨e1,k,v,hk,ex⟩:=y;subst e1 ex;simp only[e];exact (hs i k v ys σ' _ hk p).2
 .have e:i=kvs.length:=by omega
  subst e;obtain⟨NA,q⟩:=hd ys σ' H' p;exact .inl ⟨⟨q0,am _⟩,NA,q⟩
end
end L2
namespace PySem
open Sem (wp)
section
variable {prog:aP}{w:World}{A:Around}{E:ag->aq->Prop}{s:aq}{κ:Type}[DecidableEq κ]{knd:KeyKind prog w κ}
theorem DV {d:Addr}{kvs:List (κ × ag)}{Q:Bool->aq->Prop}(hm:s.heap.DictOf knd d kvs)(h:Q false s):az (model prog w) A (Builtin.List.listLengthHint (.ref d)) Q E s:=by
 have ty:s.TypeIs (.ref d) "dict" := hm.typeIs;unfold Builtin.List.listLengthHint;refine aa (wpAny_specialOf ty F.slot_dict_len.lookup ?_);generalize hj:("dict.__len__" : String)=j0
 wp_delta
 rw[show splitId j0=some ("dict", "__len__") from by subst hj;decide +kernel];subst hj;refine aa (wpAny_isInstance (T := "dict") (b:=true) ty (by rw[isSubtype_type];kernel_rfl) ?_);refine wpAny_ite_split (λz=>absurd z (!2)) (λ_=>?_);refine wpAny_ite_split (λ_=>?_) (λz=>absurd (!3) z);exact aa (wpAny_typeOf ty (ai h))
theorem xR {R:Result->aq->Prop}{d:Addr}{kvs:List (κ × ag)}{ep:Nat}(hh:A.handled=none)(hm:s.heap.DictAt knd d kvs ep)(hd:(d == sysModules)=false)(e8:kvs.length<=ax)(S:Addr)(res:ag)(c₀:Nat)
  (hS:s.heap.get? S=some { cls:=.type "list",data:=.seq #[] c₀ })
  (hR:∀h' tk nh c',(∀b o,b≠S->s.heap.get? b=some o->h'.get? b=some o)->h'.get? S=some { cls:=.type "list",dict:=none,data:=.seq nh c',slots:=#[] }->ItemsOf (λi v=>∃k x,kvs[i]? = some (k,x)/\knd.is k v=true) nh kvs.length ->
   R (.ok (.ret res)) { s with heap:=h',toks:=tk }) :
  az (model prog w) A.in1 (Builtin.List.listExtendWith (.ref S) (.ref d) res)
   (λfin s'=>match fin with | .done f=>R (.ok f) s' | .again c'=>c'.quiet=true/\codeAny (model prog w) A c' R s') (λe s'=>R (.error e) s') s:=by
 have ty:s.TypeIs (.ref d) "dict" := hm.dictOf.typeIs;have xT:d<s.heap.objs.size:=by obtain⟨o,es,e,_⟩:=id hm;exact aA e
 have SR:S<s.heap.objs.size:=aA hS
 have O6:S≠d:=λz=>by
  obtain⟨o,e,c⟩:=ty;rw[<- z,hS] at e;cases e;exact absurd (show ag.type "list" = ag.type "dict" from c) (!2)
 have SS:S≠s.heap.objs.size:=aN SR
 have NB:S ∉ [s.heap.objs.size,d]:=λz=>by
  rcases au.mp z with z | z
  .exact SS z
  .exact O6 (by simpa using z)
 have W:=(Walks.dictKeys (prog:=prog) (w:=w) (A:=A.in1) (knd:=knd) hh s.heap.objs.size d (aN xT) kvs ep).toS
 have run:∀(h:Heap) (c₁ tk:Nat),h.IsKeyIter s.heap.objs.size d 0 kvs.length ep->h.DictAt knd d kvs ep->(∀b o,b≠S->s.heap.get? b=some o->h.get? b=some o) ->
   h.get? S=some { cls:=.type "list",data:=.seq #[] c₁ }->codeAny (model prog w) A (.builtin "list.extend.loop" ⟨[.ref S,.ref s.heap.objs.size,res],[]⟩) R { s with heap:=h,toks:=tk }:=by
  intro h c₁ tk Nv XU hk lj;refine codeAny_extend_loopS W e8 S NB res kvs.length 0 _ #[] c₁ rfl (bL _) ⟨Nv,XU⟩ lj (ItemsOf.nil _) λs' nh c' mv Uz DN=>?_;rw[Moved.eq_with mv];refine hR s'.heap s'.toks nh c' (λb o hb e=>mv.heap b o (λz=>?_) (hk b o hb e)) Uz DN;rcases au.mp z with z | z
  .exact hb z
  .have:b=s.heap.objs.size:=by simpa using z
   exact absurd (aA e) (by rw[this];exact bt _)
 unfold Builtin.List.listExtendWith;refine aa (wpAny_typeOf ty ?_);have n1:Builtin.List.listSameRef (.ref S) (.ref d)=false:=by simp[Builtin.List.listSameRef,O6]
 have n2:(ag.type "dict" == ag.type "list")=false:=by decide
 have n3:(ag.type "dict" == ag.type "tuple")=false:=by decide
 simp only[n1,n2,n3,Bool.or_false,bT,if_false];refine aa (wpAny_pyIter_dict hd hm ?_);have Cq:(s.heap.push { cls:=.type "dict_keyiterator",data:=.fields #[.ref d,.int 0 0,.int kvs.length 0,.int ep 0] }).DictAt knd d kvs ep:=hm.at' λo e=>ah _ e;have z9:(s.heap.push { cls:=.type "dict_keyiterator",data:=.fields #[.ref d,.int 0 0,.int kvs.length 0,.int ep 0] }).IsKeyIter s.heap.objs.size d 0 kvs.length ep:=⟨_,aF _ rfl,rfl,rfl⟩;have oE:∀b o,s.heap.get? b=some o->(s.heap.push { cls:=.type "dict_keyiterator",data:=.fields #[.ref d,.int 0 0,.int kvs.length 0,.int ep 0] }).get? b=some o:=λb o e=>ah _ e;have lj:=oE S _ hS;generalize s.heap.push { cls:=.type "dict_keyiterator",data:=.fields #[.ref d,.int 0 0,.int kvs.length 0,.int ep 0] }=h1 at Cq z9 oE lj ⊢;refine aa (wpAny_holding (DV (s:={ s with heap:=h1 }) Cq.dictOf ?_));refine wpAny_ite_split (λ_=>?_) (λ_=>ai ⟨plainId_quiet F.plain_extend_loop _,run h1 c₀ s.toks z9 Cq (λb o _ e=>oE b o e) lj⟩);refine aa (wpAny_rule (aa ?_));show az _ _ (updateSeq S (·.push .none) >>= λ_=>updateSeq S (·.pop)) _ _ { s with heap:=h1 };refine aa (wpAny_updateSeq lj rfl ?_);have xU:=aS (Obj.mapSeq (·.push ag.none)) lj rfl;refine wpAny_updateSeq (hz:=by seq_fits) xU rfl ?_;have F':=aS (Obj.mapSeq (·.pop)) xU rfl
 have uO:∀b o,b≠S->h1.get? b=some o->((h1.update S (Obj.mapSeq (·.push ag.none))).update S (Obj.mapSeq (·.pop))).get? b=some o:=λb o hb e =>
  (aH _ _ (Ne.symm hb)).trans ((aH _ _ (Ne.symm hb)).trans e)
 exact ai ⟨plainId_quiet F.plain_extend_loop _,run _ _ s.toks (z9.at λo e=>uO _ o (Ne.symm SS) e) (Cq.at' λo e=>uO _ o (Ne.symm O6) e) (λb o hb e=>uO b o hb (oE b o e)) F'⟩
theorem vU {Q:List ag->aq->Prop}{d:Addr}{kvs:List (κ × ag)}{ep:Nat}(hh:A.handled=none)(hm:s.heap.DictAt knd d kvs ep)(hd:(d == sysModules)=false)(e8:kvs.length<=ax)
  (hQ:∀h' tk (acc:Array ag),(∀b o,s.heap.get? b=some o->h'.get? b=some o)->ItemsOf (λi v=>∃k x,kvs[i]? = some (k,x)/\knd.is k v=true) acc kvs.length->Q acc.toList { s with heap:=h',toks:=tk }) :
  az (model prog w) A (collect (.ref d)) Q E s:=by
 unfold collect;refine aa (wpAny_runValue (codeAny_builtin F.entry_proto_collect ?_));rw[Around.under_plainId F.plain_proto_collect _];show az _ A.in1 (newList [] >>= λl=>again (.builtin "list.__iadd__" ⟨[l,.ref d],[]⟩)) _ _ s;refine aa (be (ai ⟨plainId_quiet F.plain_list_iadd _,codeAny_builtin F.entry_list_iadd ?_⟩));rw[Around.under_plainId F.plain_list_iadd _];show az _ A.in1 (Builtin.List.listExtendWith (.ref s.heap.objs.size) (.ref d) (.ref s.heap.objs.size)) _ _ _;have hS:(s.heap.push { cls:=.type "list",data:=.seq ([]:List ag).toArray }).get? s.heap.objs.size=some { cls:=.type "list",data:=.seq #[] 0 }:=aF _ rfl
 have xH:∀(h':Heap) (tk:Nat) (acc:Array ag) (c':Nat),(∀b o,b≠s.heap.objs.size->(s.heap.push { cls:=.type "list",data:=.seq ([]:List ag).toArray }).get? b=some o->h'.get? b=some o) ->
   h'.get? s.heap.objs.size=some { cls:=.type "list",dict:=none,data:=.seq acc c',slots:=#[] }->ItemsOf (λi v=>∃k x,kvs[i]? = some (k,x)/\knd.is k v=true) acc kvs.length ->
   az (model prog w) A (match ag.ref s.heap.objs.size with
   | ag.ref a=>do
    match (<- load a).data with
     | Data.seq xs _=>pure xs.toList
     | _=>unsupported "internal:collect"
   | _=>unsupported "internal:collect") Q E { s with heap:=h',toks:=tk }:=λh' tk acc c' kp e hi=>by
  show az _ A (load s.heap.objs.size >>= _) _ _ _;refine aa (wpAny_load e ?_);exact ai (hQ h' tk acc (λb o hb=>kp b o (aN (aA hb)) (ah _ hb)) hi)
 refine bF (xR (A:=A) (R:=λr' s'=>r'=.ok (.ret (.ref s.heap.objs.size))/\∃h' tk acc c',s'={ s with heap:=h',toks:=tk }/\(∀b o,b≠s.heap.objs.size->(s.heap.push { cls:=.type "list",data:=.seq ([]:List ag).toArray }).get? b=some o->h'.get? b=some o) /\
   h'.get? s.heap.objs.size=some { cls:=.type "list",dict:=none,data:=.seq acc c',slots:=#[] }/\ItemsOf (λi v=>∃k x,kvs[i]? = some (k,x)/\knd.is k v=true) acc kvs.length)
  (s:={ s with heap:=s.heap.push { cls:=.type "list",data:=.seq ([]:List ag).toArray } }) hh (hm.at' λo e=>ah _ e) hd e8 s.heap.objs.size (.ref s.heap.objs.size) 0 hS
  λh' tk acc c' kp e hi=>⟨rfl,h',tk,acc,c',rfl,kp,e,hi⟩) (λfin s' h=>?_) (λe s' h=>?_)
 .cases fin with
  | done f =>
   obtain⟨e,h',tk,acc,c',rfl,kp,q,hi⟩:=h;cases e;exact xH h' tk acc c' kp q hi
  | again c'=>exact⟨h.1,codeAny_mono h.2 λr KR hr=>by obtain⟨rfl,h',tk,acc,c',rfl,kp,q,hi⟩:=hr;exact xH h' tk acc c' kp q hi⟩
 .exact absurd h.1 (!4)
end
end PySem
namespace L2
open PySem PySem.Spec PyProof.Rows
section
variable {X:Cx}
theorem Cr:∀{xs:List V} {us:List ag},xs.length=us.length->(∀(i:Nat) (x:V) (u:ag),xs[i]? = some x->us[i]? = some u->RelV x u)->eh xs us
 | [],[],_,_=>.nil
 | x::xs,u::us,h,f=>.cons (f 0 x u rfl rfl) (Cr (by simpa using h) λi y w h1 h2=>f (i+1) y w (by simpa using h1) (by simpa using h2))
 | [],_::_,h,_=>by cases h
 | _::_,[],h,_=>by cases h
theorem vV (hc:X.calm=true):gF X (.builtin "sorted") (λxs H Q=>∃(p:Addr) (kvs:List (Key × V)) (ns:List Int),xs=[.ref p]/\H p=some (.dK kvs)/\kvs.map (·.1)=ns.map Sum.inl/\ns.length<64 /\
  ∀(l:Addr) (ms:List Int),ms.Perm ns->ms.Pairwise (·<=·)->H l=none->Q (.ref l) (eZ H l (.lst (ms.map V.int)))):=by
 intro pins s σ H xs us Q I r h;obtain⟨p,kvs,ns,rfl,hp,SU,HX,q⟩:=h;obtain⟨u,rfl,ru⟩:=vals1 r;cases ru;obtain⟨o,es,ep,hd,_,hy,vs,qC,da⟩:=I.freeze hp
 have e8:vs.length=ns.length:=by
  have h1:=qC.length;have h2:=congrArg List.length SU;rw[ak,ak] at h2;omega
 refine Calls.call_function_entry kind_sorted plain_sorted entry_sorted (args_sorted1 _) ?_;unfold Builtin.«sorted»;refine aa (m:=checkCount "sorted" 1 1 _) (ai ?_);refine aa (vU (A:=X.A.in1) (I.ok.hd hc) da hy (by rw[e8,show ax=16777216 by decide];omega) λh1 tk acc kp hi=>?_)
 have hI:IntsAre acc.toList ns:=by
  refine IntsAre.oy (Cr ?_ λj x u h1 h2=>?_)
  .have e0:acc.toList.length=acc.size:=by simp
   rw[ak,e0,hi.1,e8]
  .have Q0:acc[j]? = some u:=by simpa using h2
   obtain⟨k,y,e1,e2⟩:=hi.2 j u Q0;rw[aC] at h1;have e3:(vs.map (·.1))[j]? = some k:=by rw[aC,e1];rfl
   rw[<- qC.keys,SU,aC] at e3
   cases hn:ns[j]? with
   | none=>rw[hn] at h1;cases h1
   | some n =>
    rw[hn] at h1 e3;cases h1;cases e3;exact Co e2
 have Q1:acc.toList.length<64:=by
  have e0:acc.toList.length=acc.size:=by simp
  rw[e0,hi.1,e8];exact HX
 refine aa (wpAny_newList ?_);have E2:(h1.push (seqObj "list" acc.toList.toArray 0)).get? h1.objs.size=some (seqObj "list" acc.toList.toArray 0):=aF _ rfl;show az _ _ _ _ _ { s with heap:=h1.push (seqObj "list" acc.toList.toArray 0),toks:=tk };refine aa (wpAny_holding (wpAny_call_entry slot_list_sort ⟨_,E2,rfl⟩ entry_list_sort (list_sort_tree E2 hI Q1 λout ms a1 a2 a3=>⟨_,rfl,?_⟩) (args_list_sort _)));refine ai ⟨_,rfl,?_⟩;have hm:=a2.length_eq;have hv:eh (ms.map V.int) out.toList:=eh.qE a1;have hsz:(ms.map V.int).length<=ax:=by rw[ak,show ax=16777216 by decide];omega
 have I1:Inv X pins σ H { s with heap:=h1,toks:=tk }:=I.kept kp
 have NC:∀b ob,h1.get? b=some ob->(sortedHeap (h1.push (seqObj "list" acc.toList.toArray 0)) h1.objs.size acc.toList out).get? b=some ob:=by
  intro b ob e;have hb:h1.objs.size≠b:=cj (aA e);unfold sortedHeap;rw[aH _ _ hb];refine ah _ (ah _ ?_);rw[aH _ _ hb];exact ah _ e
 have nw:∃n,(sortedHeap (h1.push (seqObj "list" acc.toList.toArray 0)) h1.objs.size acc.toList out).get? h1.objs.size=some { cls:=.type "list",data:=.seq out n }:=by
  have g2:=aS (Obj.mapSeq λ_=>(#[]:Array ag)) E2 rfl;have g3:=ah (seqObj "list" #[] 0) (ah (seqObj "tuple" acc.toList.toArray 0) g2);have g4:=aS (Obj.mapSeq λ_=>out) g3 rfl;exact⟨_,g4⟩
 obtain⟨n,nw⟩:=nw;exact⟨.ref h1.objs.size,_,I1.laid (t':=tk) (o:=.lst (ms.map V.int)) NC (am _) ⟨hsz,out.toList,n,hv,by simpa using nw⟩,rfl,q _ ms a2 a3 (I1.hok.fresh (am _))⟩
end
end L2
namespace PySem
open Sem (wp)
open AutoSeq1 (wpAny_loadPart')
section
theorem Aa {it t:Addr}{i:Nat}{xs:Array ag}{x:ag}{Q:ag->aq->Prop}(hi:s.heap.IsTupleIter it t i)(ht:s.heap.IsTuple t xs)(hx:xs[i]? = some x)
  (q:∀h',h'.IsTupleIter it t (i+1)->Heap.SameBut it s.heap h'->Q x { s with heap:=h' }):az (model prog w) A (Builtin.SmallTypes.nextOf (.ref it)) Q E s:=by
 obtain⟨ob,e1,c1,d1⟩:=id hi;obtain⟨ot,e2,_,n2,d2⟩:=ht;have nn:¬ ((ag.ref t == ag.none)=true):=aY;unfold Builtin.SmallTypes.nextOf;refine aa (wpAny_callSpecial?_slot (name:=Str.ofString "__next__") hi.typeIs F.slot_tuple_iterator_next (wpAny_call_entry F.slot_tuple_iterator_next hi.typeIs F.entry_tuple_iterator_next ?_ (F.args_tuple_iterator_next_1 _)));show az _ _ (field (.ref it) 0 >>= _) _ _ _;refine aa (wpAny_field e1 d1 (x:=.ref t) rfl ?_);show az _ _ (if (ag.ref t == ag.none)=true then _ else _) _ _ _;rw[if_neg nn];show az _ _ (field (.ref it) 1 >>= _) _ _ _;refine aa (wpAny_field e1 d1 (x:=.int i 0) rfl (aa (wpAny_seqItems e2 d2 ?_)));simp only[br,hx];refine aa (wpAny_setField e1 d1 (!4) (ai ⟨x,rfl,ai (q _ ?_ (Heap.SameBut.update ..))⟩));refine⟨_,aS _ e1 (Obj.isFreed_of_fields (Obj.data_mapFields d1 _)),(Obj.cls_mapFields ..).trans c1,?_⟩;rw[Obj.data_mapFields d1];simp[rawInt]
theorem DW (hh:A.handled=none)(hi:s.heap.IsTupleIter it t i)(ht:s.heap.IsTuple t xs)(hx:xs[i]? = none)
  (q:∀h' e,Heap.ExtBut it s.heap h'->(∃o,h'.get? e=some o/\o.cls=.type "StopIteration")->E (.ref e) { s with heap:=h' }):az (model prog w) A (Builtin.SmallTypes.nextOf (.ref it)) Q E s:=by
 obtain⟨ob,e1,c1,d1⟩:=id hi;obtain⟨ot,e2,_,n2,d2⟩:=ht;have nn:¬ ((ag.ref t == ag.none)=true):=aY;unfold Builtin.SmallTypes.nextOf;refine aa (wpAny_callSpecial?_slot (name:=Str.ofString "__next__") hi.typeIs F.slot_tuple_iterator_next (wpAny_call_entry F.slot_tuple_iterator_next hi.typeIs F.entry_tuple_iterator_next ?_ (F.args_tuple_iterator_next_1 _)));show az _ _ (field (.ref it) 0 >>= _) _ _ _;refine aa (wpAny_field e1 d1 (x:=.ref t) rfl ?_);show az _ _ (if (ag.ref t == ag.none)=true then _ else _) _ _ _;rw[if_neg nn];show az _ _ (field (.ref it) 1 >>= _) _ _ _;refine aa (wpAny_field e1 d1 (x:=.int i 0) rfl (aa (wpAny_seqItems e2 d2 ?_)));simp only[br,hx];refine aa (wpAny_rule (aa (wpAny_setField e1 d1 (!4) (aa ?_))));simp only[newExc,newTuple];refine aa (be (aa (m:=firstArgMember _ _) (wpAny_of_eq (a:=ag.none) (by first | rfl | (simp only[firstArgMember];rfl)) (be ?_ (by size_fits)))) (by size_fits));simp only[raiseNew];refine aa (wpAny_handled ?_);first | rw[show A.in1.handled=none from hh] | rw[hh]
 exact aa (ai (wpAny_throw (q _ _ (((Heap.SameBut.update ..).extBut.push _).push _) ⟨_,aF _ rfl,rfl⟩)))
theorem Ab {e it t:Addr}{i:Nat}{xs:Array ag}{x old:ag}{Q:ag->aq->Prop}(he:IsEnum s.heap e it i old)(hi:s.heap.IsTupleIter it t i)(ht:s.heap.IsTuple t xs)(hx:xs[i]? = some x)(j9:e≠it)
  (q:∀h',IsEnumOut h' e it ((i:Int)+1) x s.heap.objs.size->h'.IsTupleIter it t (i+1)->h'.get? s.heap.objs.size=some { cls:=.type "tuple",data:=.seq #[.int i s.toks,x] } ->
   (∀b o,b≠e->b≠it->s.heap.get? b=some o->h'.get? b=some o)->Q (.ref s.heap.objs.size) { s with heap:=h',toks:=s.toks+1 }) :
  az (model prog w) A (Builtin.«enumerate.__next__» ⟨[.ref e],[]⟩) (λfin s'=>∃v,fin=.done (.ret v)/\Q v s') E s:=by
 obtain⟨hp,g,d,tk,os⟩:=s;show az _ _ (field (.ref e) 2 >>= _) _ _ _;refine aa (wpAny_field he rfl (x:=.ref it) rfl (aa (Aa hi ht hx λk1 i1 (b1:Heap.SameBut it hp k1)=>?_)));have e1:IsEnum k1 e it i old:=(b1.2 e j9).trans he;refine aa (wpAny_field e1 rfl (x:=rawInt i) rfl (aa (wpAny_field e1 rfl (x:=.none) rfl ?_)));show az _ _ (mkInt i >>= _) _ _ ⟨k1,g,d,tk,os⟩;refine aa (wpAny_mkInt (aa (wpAny_setField_rec (x:=rawInt ((i:Int)+1)) e1 (!4) λk2 e2 b2=>?_)));replace b2:Heap.SameBut e k1 k2:=b2;replace e2:IsEnum k2 e it ((i:Int)+1) old:=e2;refine aa (wpAny_setField_rec (x:=.none) e2 (!4) λk3 e3 b3=>?_);replace b3:Heap.SameBut e k2 k3:=b3;replace e3:IsEnum k3 e it ((i:Int)+1) old:=e3;show az _ _ (newTuple [.int i tk,x] >>= _) _ _ ⟨k3,g,d,tk+1,os⟩;refine aa (wpAny_newTuple ?_);have sz:k3.objs.size=hp.objs.size:=by rw[b3.1,b2.1,b1.1]
 have el:hp.objs.size≠e:=cj (aA he);have e4:IsEnum (k3.push { cls:=.type "tuple",data:=.seq #[.int i tk,x] }) e it ((i:Int)+1) old:=ah _ e3;have t4:(k3.push { cls:=.type "tuple",data:=.seq #[.int i tk,x] }).get? hp.objs.size=some { cls:=.type "tuple",data:=.seq #[.int i tk,x] }:=by rw[<- sz];exact aF _ rfl
 have Q2:∀b o,b≠e->b≠it->hp.get? b=some o->(k3.push { cls:=.type "tuple",data:=.seq #[.int i tk,x] }).get? b=some o:=λb o h1 h2 h3=>ah _ (b3.extBut b o h1 (b2.extBut b o h1 (b1.extBut b o h2 h3)))
 have i4:(k3.push { cls:=.type "tuple",data:=.seq #[.int i tk,x] }).IsTupleIter it t (i+1):=by
  obtain⟨o,ho,r⟩:=i1;exact⟨o,ah _ (b3.extBut it o (Ne.symm j9) (b2.extBut it o (Ne.symm j9) ho)),r⟩
 rw[sz];generalize k3.push { cls:=.type "tuple",data:=.seq #[.int i tk,x] }=k4 at e4 t4 Q2 i4 ⊢;show az _ _ (Builtin.SmallTypes.ownedTupleIsFree (.ref e) >>= _) _ _ ⟨k4,g,d,tk+1,os⟩;refine aa ?_;unfold Builtin.SmallTypes.ownedTupleIsFree;refine aa (wpAny_field e4 rfl (x:=.none) rfl (ai ?_));simp only[if_true];refine aa (wpAny_rule (aa (wpAny_field e4 rfl (x:=old) rfl (aa (wpAny_setField_rec (x:=x) e4 (!4) λk5 e5 b5=>?_)))));replace b5:Heap.SameBut e k4 k5:=b5;replace e5:IsEnum k5 e it ((i:Int)+1) x:=e5;show az _ _ (Builtin.SmallTypes.ownedTupleHandOut (.ref e) (.ref hp.objs.size) >>= _) _ _ ⟨k5,g,d,tk+1,os⟩;refine aa ?_;unfold Builtin.SmallTypes.ownedTupleHandOut;refine aa (wpAny_setField_rec (x:=rawInt (hp.objs.size:Nat)) e5 (!4) λk6 e6 b6=>?_);replace b6:Heap.SameBut e k5 k6:=b6;replace e6:IsEnumOut k6 e it ((i:Int)+1) x hp.objs.size:=e6;refine wpAny_setField_rec e6 (!4) λk7 e7 b7=>?_;replace b7:Heap.SameBut e k6 k7:=b7;have ND:∀b o,b≠e->k4.get? b=some o->k7.get? b=some o:=λb o h1 h2=>b7.extBut b o h1 (b6.extBut b o h1 (b5.extBut b o h1 h2));refine aa (wpAny_letGo (ai ⟨_,rfl,q k7 e7 ?_ (ND _ _ el t4) λb o h1 h2 h3=>ND b o h1 (Q2 b o h1 h2 h3)⟩));obtain⟨o,ho,r⟩:=i4;exact⟨o,ND it o (Ne.symm j9) ho,r⟩
theorem vW {e it t:Addr}{i:Nat}{xs:Array ag}{x old:ag}{Q:Option ag->aq->Prop}(he:IsEnum s.heap e it i old)(hi:s.heap.IsTupleIter it t i)(ht:s.heap.IsTuple t xs)(hx:xs[i]? = some x)(j9:e≠it)
  (q:∀h',IsEnumOut h' e it ((i:Int)+1) x s.heap.objs.size->h'.IsTupleIter it t (i+1)->h'.get? s.heap.objs.size=some { cls:=.type "tuple",data:=.seq #[.int i s.toks,x] } ->
   (∀b o,b≠e->b≠it->s.heap.get? b=some o->h'.get? b=some o)->Q (some (.ref s.heap.objs.size)) { s with heap:=h',toks:=s.toks+1 }) :
  az (model prog w) A (pyNext (.ref e)) Q E s:=by
 have ty:s.TypeIs (.ref e) "enumerate" := ⟨_,he,rfl⟩;unfold pyNext;refine aa (wpAny_attempt (wpAny_callSpecial?_slot (name:=Str.ofString "__next__") ty F.slot_enumerate_next (wpAny_call_entry F.slot_enumerate_next ty F.entry_enumerate_next ?_ (F.args_enumerate_next_1 _))));exact Ab he hi ht hx j9 λh' a b c k=>ai (q h' a b c k)
theorem pB {e it t:Addr}{i:Nat}{xs:Array ag}{old:ag}{Q:Option ag->aq->Prop}(hh:A.handled=none)(he:IsEnum s.heap e it i old)(hi:s.heap.IsTupleIter it t i)(ht:s.heap.IsTuple t xs)(hx:xs[i]? = none)
  (q:∀h',Heap.ExtBut it s.heap h'->Q none { s with heap:=h' }):az (model prog w) A (pyNext (.ref e)) Q E s:=by
 have ty:s.TypeIs (.ref e) "enumerate" := ⟨_,he,rfl⟩;unfold pyNext;refine aa (wpAny_attempt (wpAny_callSpecial?_slot (name:=Str.ofString "__next__") ty F.slot_enumerate_next (wpAny_call_entry F.slot_enumerate_next ty F.entry_enumerate_next ?_ (F.args_enumerate_next_1 _))));show az _ _ (field (.ref e) 2 >>= _) _ _ _;refine aa (wpAny_field he rfl (x:=.ref it) rfl (aa (DW hh hi ht hx λh' x ex ⟨o,ho,hc⟩=>?_)));exact aa (wpAny_isInstance (T := "StopIteration") (b:=true) ⟨o,ho,hc⟩ isSubtype_stop (ai (q _ ex)))
theorem DX (l:Addr)(items:Array ag)(n:Nat)(O5:Option Addr)(sl:Array (Option ag)) :
  Meets (Builtin.«enumerate.__new__» ⟨[.type "enumerate",.ref l],[]⟩) (λ_ R s=>s.heap.get? l=some { cls:=.type "tuple",dict:=O5,data:=.seq items n,slots:=sl } /\
   R (.ok (.ret (.ref (s.heap.push { cls:=.type "tuple_iterator",data:=.fields #[.ref l,.int 0 0] }).objs.size)))
    { s with heap:=(s.heap.push { cls:=.type "tuple_iterator",data:=.fields #[.ref l,.int 0 0] }).push { cls:=.type "enumerate",data:=.fields #[.none,.bool false,.ref s.heap.objs.size,rawInt 0,.none,.none] } }) :=
 .of_wp λprog w A R s h=>by
  obtain⟨hp,g,d,tk,os⟩:=s;obtain⟨hl,h⟩:=h;have FP:=sub_enumerate;have Wy:Heap.IsTuple (aq.heap ⟨hp,g,d,tk,os⟩) l items:=⟨_,hl,rfl,n,rfl⟩
  wp_walk using wpAny_loadPart' hl
  refine wpAny_stack_any λ_=>ai ?_;split
  .rename_i c _ _ _ _ _
   cases (c == ag.type "enumerate")<;>(wp_walk using wpAny_loadPart' hl,wpAny_pyIter_tuple Wy;exact⟨_,rfl,h⟩)
  .wp_walk using wpAny_loadPart' hl,wpAny_pyIter_tuple Wy
   exact⟨_,rfl,h⟩
theorem Ac (ht:s.heap.IsTuple l items)
  (q:∀h',IsEnum h' (s.heap.objs.size+1) s.heap.objs.size 0 .none->h'.IsTupleIter s.heap.objs.size l 0->h'.objs.size=s.heap.objs.size+2->(∀b o,s.heap.get? b=some o->h'.get? b=some o)->Q (.ref (s.heap.objs.size+1)) { s with heap:=h' }) :
  az (model prog w) A (call (.type "enumerate") [.ref l]) Q E s:=by
 obtain⟨⟨c,O5,dt,sl⟩,hl,hc,n,hd⟩:=ht;replace hc:c=.type "tuple" := hc;replace hd:dt=.seq items n:=hd;subst hc hd;refine callType_new F.called_enumerate (!2) (F.typeCall_enumerate_1 _) (F.newCall_enumerate_1 _) (λobj=>F.args_object_init_2 obj _) F.entry_enumerate_new (DX l items n O5 sl) ⟨hl,?_⟩;have z1:(s.heap.push { cls:=.type "tuple_iterator",data:=.fields #[.ref l,.int 0 0] }).objs.size=s.heap.objs.size+1:=bX ..;have g1:=aF (s.heap.push { cls:=.type "tuple_iterator",data:=.fields #[.ref l,.int 0 0] }) (o:={ cls:=.type "enumerate",data:=.fields #[.none,.bool false,.ref s.heap.objs.size,rawInt 0,.none,.none] }) rfl;rw[z1] at g1;show _/\_;rw[z1];exact⟨⟨_,g1,rfl⟩,q _ g1 ⟨_,ah _ (aF _ rfl),rfl,rfl⟩ (by rw[bX,z1]) λb o x=>ah _ (ah _ x)⟩
end
end PySem
namespace L2
open PySem PySem.Spec PyProof.Rows
noncomputable def Q3 (K:W.Frag)(a:Addr):It :=
 ⟨λi H=>∃xs x,ja K H a xs/\xs[i]? = some x,λi H x H'=>∃T xi,x=.ref T/\H T=none/\H'=eZ H T (.tup [.int (i:Nat),xi])/\∀xs,ja K H a xs->xs[i]? = some xi,λi H=>∃xs,ja K H a xs/\xs.length<=i⟩
theorem Ad {P:aP}{w:World}{K:W.Frag}{xV:List Expr}{k:Nat}{pos:Pos}(a e it:Addr)(j9:e≠it):zG P w K (.Tuple xV k pos) (Q3 K a) [e,it] e (λi h=>(∃old,IsEnum h e it (i:Nat) old)/\h.IsTupleIter it a i) where
 mem:=by simp
 obj:=λi h st b hb=>by
  obtain⟨⟨old,he⟩,o,ho,hc,hd⟩:=st;rcases au.mp hb with z | z
  .subst z
   exact⟨_,he,λv z=>by cases z⟩
  .have z':b=it:=by simpa using z
   subst z';exact⟨o,ho,λv z=>by rw[hd] at z;cases z⟩
 keep:=λi h h' st kp=>by
  obtain⟨⟨old,he⟩,hi⟩:=st;exact⟨⟨old,kp e (!4) _ he⟩,hi.at λo q=>kp it (!4) o q⟩
 item:=by
  intro X hP hw hK hc i pins s σ H E I hf st hg;subst hP hw hK;obtain⟨⟨old,he⟩,hi⟩:=st;obtain⟨xs,x,hq,hx⟩:=hg;obtain⟨its,rv,p,hz⟩:=I.tuple hq;obtain⟨u,hu,ru⟩:=rv.get hx;refine vW he hi (show s.heap.IsTuple a its.toArray from p) (x:=u) (by simpa using hu) j9 λh1 eo i1 t1 kp=>⟨_,rfl,wpAny_letOwnedTupleGo_enum eo λh2 en sb=>?_⟩;have pb:e<s.heap.objs.size:=aA he;have UB:it<s.heap.objs.size:=by obtain⟨_,q,_⟩:=hi;exact aA q
  have NC:∀b o,b≠e->b≠it->s.heap.get? b=some o->h2.get? b=some o:=λb o n1 n2 q=>(sb.2 b n1).trans (kp b o n1 n2 q);have i2:h2.IsTupleIter it a (i+1):=i1.at λo q=>(sb.2 it (Ne.symm j9)).trans q;have t2:h2.get? s.heap.objs.size=some { cls:=.type "tuple",data:=.seq #[.int i s.toks,u] }:=(sb.2 _ (cj pb)).trans t1;obtain⟨f0,f1,f2,f3,f4,f5⟩:=hf it (!4);obtain⟨g0,g1,g2,g3,g4,g5⟩:=hf e (!4);obtain⟨oi,UC,XW,UD⟩:=id i2;obtain⟨o0,UE,_⟩:=id hi;have m1:(s.heap.update it λ_=>oi).get? it=some oi:=aS (λ_=>oi) UE (Obj.isFreed_of_fields UD);have I1:Inv X pins σ H { s with heap:=s.heap.update it λ_=>oi,toks:=s.toks+1 }:=I.turned (λb o hb q=>(aH _ _ (Ne.symm hb)).trans q) f0 f1 f3 f4 f5
  have UH:∀b o,b≠e->(s.heap.update it λ_=>oi).get? b=some o->h2.get? b=some o:=λb o hb q=>by
   by_cases Lb:b=it
   .subst Lb
    rw[m1] at q;cases q;exact UC
   .exact NC b o hb Lb ((aH _ _ (Ne.symm Lb)).symm.trans q)
  have I2:Inv X pins σ H { s with heap:=h2,toks:=s.toks+1 }:=Inv.turned (s:={ s with heap:=s.heap.update it λ_=>oi,toks:=s.toks+1 }) (h':=h2) (t':=s.toks+1) I1 UH g0 g1 g3 g4 g5;obtain⟨p0,p1,p2,p3,p4,p5⟩:=I.qX (am s.heap.objs.size) (I.hok.fresh (am _))
  have I3:Inv X pins σ (eZ H s.heap.objs.size (.tup [.int (i:Nat),x])) { s with heap:=h2,toks:=s.toks+1 } :=
   I2.Ce (o:=.tup [.int (i:Nat),x]) t2 p0 p1 p3 p4 p5 ⟨by show 2<=ax;decide,[.int i s.toks,u],.cons ⟨_,rfl⟩ (.cons ru .nil),⟨_,t2,rfl,_,rfl,rfl⟩⟩
  refine⟨.ref s.heap.objs.size,_,I3,rfl,⟨_,x,rfl,p0,rfl,λys hy=>by rw[I.uo hy hq];exact hx⟩,⟨⟨u,by simpa using en⟩,i2⟩,λb hb=>?_⟩
  have UK:b≠s.heap.objs.size:=by
   rcases au.mp hb with z | z
   .rw[z];exact aN pb
   .have z':b=it:=by simpa using z
    rw[z'];exact aN UB
  rw[dY UK];exact (hf b hb).1
 done:=by
  intro X hP hw hK hc i pins s σ H E I hf st hg;subst hP hw hK;obtain⟨⟨old,he⟩,hi⟩:=st;obtain⟨xs,hq,hx⟩:=hg;obtain⟨its,rv,p,hz⟩:=I.tuple hq;obtain⟨f0,f1,f2,f3,f4,f5⟩:=hf it (!4);have hl:=rv.length;exact pB (I.ok.hd hc) he hi (show s.heap.IsTuple a its.toArray from p) (by simp;omega) λh' eb=>⟨rfl,I.turned (t':=s.toks) (λb o hb q=>eb b o hb q) f0 f1 f3 f4 f5⟩
 self:=λ_ _ _ _ _ st h=>by
  obtain⟨⟨old,he⟩,_⟩:=st;exact wpAny_pyIter_enum he h
end L2
namespace PySem
namespace SetTable
theorem rK (xs:Array Nat)(j:Nat):∀(f lo hi:Nat),hi - lo<=f->lo<=hi->hi<=xs.size->xs.toList.Pairwise (· < ·)->(∀(k:Nat) (v:Nat),k<lo->xs[k]? = some v->v<j) ->
  (∀(k:Nat) (v:Nat),hi<=k->xs[k]? = some v->j<=v)->below.go xs j f lo hi<=xs.size/\(∀(k:Nat) (v:Nat),k<below.go xs j f lo hi->xs[k]? = some v->v<j)/\(∀(k:Nat) (v:Nat),below.go xs j f lo hi<=k->xs[k]? = some v->j<=v)
 | 0,lo,hi,hf,h1,h2,_,hl,hh=>by
  unfold below.go;have e:lo=hi:=by omega
  subst e;exact⟨h2,hl,hh⟩
 | f+1,lo,hi,hf,h1,h2,hs,hl,hh=>by
  unfold below.go;by_cases c:lo<hi
  .rw[if_pos c]
   dsimp only;have hm:(lo+hi) / 2<xs.size:=by omega
   have eg:xs.getD ((lo+hi) / 2) j=xs[(lo+hi) / 2]:=by simp[Array.getD,hm]
   rw[eg]
   have hr:∀(a b:Nat) (va vb:Nat),a<b->xs[a]? = some va->xs[b]? = some vb->va<vb:=by
    intro a b va vb pZ ea eb
    have la:a<xs.toList.length:=by
     rcases cH a xs.toList.length with q | q
     .exact q
     .rw[aT] at q;rw[cI q] at ea;cases ea
    have lb:b<xs.toList.length:=by
     rcases cH b xs.toList.length with q | q
     .exact q
     .rw[aT] at q;rw[cI q] at eb;cases eb
    have:=cq.mp hs a b la lb pZ;rw[<- a9,aV la] at ea;rw[<- a9,aV lb] at eb;cases ea;cases eb;exact this
   have em:xs[(lo+hi) / 2]? = some xs[(lo+hi) / 2]:=by simp[hm]
   by_cases d:xs[(lo+hi) / 2] < j
   .rw[if_pos d]
    refine rK xs j f _ hi (!1) (!1) h2 hs (λk v hk e=>?_) hh;by_cases q:k=(lo+hi) / 2
    .subst q;rw[em] at e;cases e;exact d
    .exact dB (hr k _ v _ (!1) e em) d
   .rw[if_neg d]
    refine rK xs j f lo _ (!1) (!1) (!1) hs hl λk v hk e=>?_;by_cases q:k=(lo+hi) / 2
    .subst q;rw[em] at e;cases e;omega
    .have:=hr _ k _ v (!1) em e
     omega
  .rw[if_neg c]
   have e:lo=hi:=by omega
   subst e;exact⟨h2,hl,hh⟩
theorem ni (j:Nat)(hs:xs.toList.Pairwise (· < ·)):below xs j<=xs.size/\(∀(k:Nat) (v:Nat),k<below xs j->xs[k]? = some v->v<j)/\(∀(k:Nat) (v:Nat),below xs j<=k->xs[k]? = some v->j<=v) :=
 rK xs j xs.size 0 xs.size (!1) (!1) (am _) hs (λk v h=>absurd h (!1)) (λk v h e=>by rw[cI h] at e;cases e)
theorem Ae (hs:xs.toList.Pairwise (· < ·)):below xs 0=0:=by
 obtain⟨a,b,c⟩:=ni 0 hs;rcases Nat.eq_zero_or_pos (below xs 0) with h | h
 .exact h
 .have:0<xs.size:=by omega
  exact absurd (b 0 xs[0] h (by simp[this])) (!1)
theorem Af (hs:xs.toList.Pairwise (· < ·))(e:xs[i]? = some j):below xs (j+1)=i+1:=by
 obtain⟨a,b,c⟩:=ni (j+1) hs
 have hi:i<xs.size:=by
  rcases cH i xs.size with q | q
  .exact q
  .rw[cI q] at e;cases e
 have h1:i<below xs (j+1):=by
  rcases cH i (below xs (j+1)) with q | q
  .exact q
  .exact absurd (c i j q e) (!1)
 rcases cH (i+1) (below xs (j+1)) with q | q
 .exfalso
  have l2:i+1<xs.size:=by omega
  have e2:xs[i+1]? = some xs[i+1]:=by simp[l2]
  have:=b (i+1) _ q e2;have la:i<xs.toList.length:=by simpa using hi
  have lb:i+1<xs.toList.length:=by simpa using l2
  have hr:=cq.mp hs i (i+1) la lb (!1);rw[<- a9,aV la] at e;cases e;have:xs.toList[i+1]=xs[i+1]:=by simp
  omega
 .omega
theorem tN (hs:xs.toList.Pairwise (· < ·))(hn:xs[below xs j]? ≠ some j):(insertAt xs (below xs j) j).toList.Pairwise (· < ·):=by
 obtain⟨a,b,c⟩:=ni j hs;rw[toList_insertAt]
 have ht:∀v∈xs.toList.take (below xs j),v<j:=by
  intro v hv;obtain⟨k,hk,e⟩:=ce hv;rw[bQ] at hk;rw[List.getElem_take] at e;exact b k v (!1) (by rw[<- a9,aV (!1)];rw[e])
 have hd:∀v∈xs.toList.drop (below xs j),j<v:=by
  intro v hv;obtain⟨k,hk,e⟩:=ce hv;rw[cZ] at hk;rw[List.getElem_drop] at e;have e':xs[below xs j+k]? = some v:=by rw[<- a9,aV (!1)];rw[e]
  have h1:=c (below xs j+k) v (!1) e';rcases Nat.lt_or_eq_of_le h1 with q | q
  .exact q
  .subst q
   exfalso;rcases Nat.eq_zero_or_pos k with z | z
   .subst z;exact hn e'
   .have l0:below xs j<xs.toList.length:=by omega
    have:=cq.mp hs (below xs j) (below xs j+k) l0 (!1) (!1);rw[e] at this;have h2:=c (below xs j) _ (am _) (by rw[<- a9,aV l0]);omega
 rw[List.pairwise_append];refine⟨hs.sublist (List.take_sublist _ _),b8.mpr ⟨hd,hs.sublist (List.drop_sublist _ _)⟩,λx hx y hy=>?_⟩;rcases au.mp hy with rfl | hy
 .exact ht x hx
 .exact dB (ht x hx) (hd y hy)
theorem nj (t:SetTable)(f:Nat->Int)(h:Int):∀(n:Nat) (p:Probe) (j:Nat) (d:Option Nat),(∀k,p.dummy=some k->t.place[below t.place k]? ≠ some k) ->
  probe.go t f h n p=some (.empty j d)->t.place[below t.place (d.getD j)]? ≠ some (d.getD j)
 | 0,p,j,d,_,e=>by unfold probe.go at e;cases e
 | n+1,p,j,d,hp,e=>by
  unfold probe.go at e;have Wz:∀p:Probe,(t.advance p).dummy=p.dummy:=λp=>by unfold advance;split<;>rfl
  have nl:∀k,(∀i,t.slot k≠.live i)->t.place[below t.place k]? ≠ some k:=λk q z=>q (below t.place k) (by unfold slot;dsimp only;rw[z];simp)
  cases hs:t.slot p.j with
  | empty =>
   rw[hs] at e;cases e
   cases hd:p.dummy with
   | none=>exact nl p.j λi z=>by rw[hs] at z;cases z
   | some k=>exact hp k hd
  | dummy =>
   rw[hs] at e;refine nj t f h n _ j d (λk hk=>?_) e;rw[Wz] at hk;cases hk;exact nl _ λi z=>by rw[hs] at z;cases z
  | live i =>
   rw[hs] at e;dsimp only at e;split at e
   .cases e
   .exact nj t f h n _ j d (λk hk=>hp k (by rw[Wz] at hk;exact hk)) e
noncomputable def Good (b:Bool)(t:SetTable):Prop:=t.led=b/\(t.plain=true->t.place.toList.Pairwise (· < ·))
theorem Good.Cs (g:Good b t)(n:Nat):Good b (t.standIn n):=⟨g.1,λz=>by cases z⟩
theorem Good.or (g:Good b t)(n:Nat):Good b (t.orStandIn n):=by
 unfold orStandIn;split
 .exact g
 .exact g.Cs n
theorem Good.off (g:Good b t):Good b { t with plain:=false }:=⟨g.1,λz=>by cases z⟩
end SetTable
open SetTable in
theorem xW {b:Bool}{t:SetTable}(g:Good b t)(es:Array (Int × ag))(h:Int)(x:ag):Good b (layNew t es h x).2.1:=by
 unfold layNew
 cases e:t.freeSlot h with
 | none=>exact g.Cs _
 | some q =>
  obtain⟨slot,UL⟩:=q;dsimp only;refine Good.or (t:=(t.put slot).1) ⟨g.1,λz=>?_⟩ _;have hs:=g.2 z;refine tN hs ?_;unfold freeSlot at e;unfold probe at e;split at e
  .rename_i j d hp
   cases e;exact nj t _ h _ _ j d (λk hk=>by cases hk) hp
  .cases e
open SetTable in
theorem tO {b:Bool}{t:SetTable}(g:Good b t)(es:Array (Int × ag))(n:Nat):Good b (relayAll t es n).2.1:=by
 unfold relayAll
 cases e:t.relaid (es.map (·.1)) n with
 | none=>exact g.Cs _
 | some q =>
  obtain⟨t',o⟩:=q;dsimp only;split
  .unfold relaid laid at e
   cases hl:layClean (sizeAbove n - 1) (es.map (·.1)) with
   | none=>rw[hl] at e;cases e
   | some ow =>
    rw[hl] at e;simp only[Option.bind_eq_bind,Option.bind_some,Option.pure_def,Option.some.injEq,Prod.mk.injEq] at e;obtain⟨rfl,_⟩:=e;refine⟨g.1,λ_=>?_⟩;simp only[cc];refine List.Pairwise.filterMap (R:=(· < ·)) _ (λa a' h c hc c' Du=>?_) List.pairwise_lt_range
    cases h1:ow.getD a none with
    | none=>rw[h1] at hc;cases hc
    | some u =>
     rw[h1] at hc
     cases h2:ow.getD a' none with
     | none=>rw[h2] at Du;cases Du
     | some u'=>rw[h2] at Du;cases hc;cases Du;exact h
  .exact g.Cs _
theorem p7 {α:Type}{l:List α}{i:Nat}(h:i<l.length):([l[i]]++l.eraseIdx i).Perm l:=by
 rw[List.eraseIdx_eq_take_drop_succ];have e:l=l.take i++l[i]::l.drop (i+1):=by simp
 conv=>rhs;rw[e]
 rw[List.singleton_append];exact List.perm_middle.symm
theorem jL {α:Type}(next:Nat->Nat):∀(f k:Nat) (l:List α) (out:Array α),f=l.length->(pickOrder.go next f k l out).toList.Perm (out.toList++l)
 | 0,k,l,out,e=>by
  have:l=[]:=List.length_eq_zero_iff.mp e.symm;subst this;unfold pickOrder.go;simp
 | f+1,k,l,out,e=>by
  unfold pickOrder.go;have hl:next k % l.length<l.length:=Nat.mod_lt _ (!1)
  rw[aV hl];dsimp only;refine (jL next f (k+1) _ _ (by rw[List.length_eraseIdx_of_lt hl];omega)).trans ?_;rw[dh,aG];refine List.Perm.append_left _ ?_;exact p7 hl
theorem rL {α:Type}(next:Nat->Nat)(xs:Array α):(pickOrder next xs).toList.Perm xs.toList:=by
 unfold pickOrder;have:=jL next xs.size 0 xs.toList #[] (!4)
 simpa using this
end PySem
namespace PySem
open Sem (wp)
open PyProof.Rows
noncomputable def kg (w:World):Bool:=w.params.followText "set-order"
noncomputable def DY (e:Int × ag):Option Int:=match e.2 with | .int k _=>some k | _=>none
noncomputable def vX (es:List (Int × ag)):Prop:=∀e∈es,∃k t,e=(hashInt k,ag.int k t)
noncomputable def i8 (w:World)(a:Addr)(ns:List Int)(h:Heap):Prop :=
 ∃o es ep t,h.get? a=some o/\o.ExactSet/\o.data=.set es ep t/\vX es.toList/\(es.toList.filterMap DY).Perm ns/\es.size<scanBound/\t.fits es.size=true/\SetTable.Good (!kg w) t
section
variable {prog:aP}{w:World}{A:Around}{E:ag->aq->Prop}{s:aq}
theorem vX.elems (h:vX es):ElemsOf (intKind prog w) es:=λe he=>by
 obtain⟨k,t,rfl⟩:=h e he;exact⟨⟨k,intKind_is _ _ _ _,rfl⟩,rfl⟩
theorem vX.perm (h:vX l)(p:l'.Perm l):vX l':=λe he=>h e (p.mem_iff.mp he)
theorem vX.len:vX l->(l.filterMap DY).length=l.length:=by
 induction l with
 | nil=>intro _;rfl
 | cons e l ih =>
  intro h;obtain⟨k,t,rfl⟩:=h e (!4);have:=ih λe he=>h e (by simp[he]);simp[DY] at this ⊢;exact this
theorem vX.has (h:vX l):k∈l.filterMap DY↔∃e∈l,(intKind prog w).is k e.2=true:=by
 rw[de];constructor
 .rintro⟨e,he,q⟩
  obtain⟨j,t,rfl⟩:=h e he;cases q;exact⟨_,he,intKind_is _ _ _ _⟩
 .rintro⟨e,he,q⟩
  obtain⟨j,t,rfl⟩:=h e he;have:k=j:=(intKind prog w).inj _ _ _ q (intKind_is _ _ j t);subst this;exact⟨_,he,rfl⟩
theorem i8.keep (x:i8 w a ns h)(k:∀o,h.get? a=some o->h'.get? a=some o):i8 w a ns h':=by
 obtain⟨o,es,ep,t,e,r⟩:=x;exact⟨o,es,ep,t,k o e,r⟩
theorem i8.type (x:i8 w a ns s.heap):s.TypeIs (.ref a) "set" := by
 obtain⟨o,es,ep,t,e,c,_⟩:=x;exact⟨o,e,c.1⟩
theorem i8.put {h:Heap}{a:Addr}{o:Obj}{es jv:Array (Int × ag)}{ep:Nat}{t t':SetTable}{ns:List Int}(ho:h.get? a=some o)(x:o.ExactSet)(hd:o.data=.set es ep t)(h1:vX jv.toList)
  (h2:(jv.toList.filterMap DY).Perm ns) (h3:jv.size<scanBound) (h4:t'.fits jv.size=true) (h5:SetTable.Good (!kg w) t') :
  (h.update a (Obj.putSet jv t')).get? a=some { o with data:=.set jv (ep+1) t' }/\i8 w a ns (h.update a (Obj.putSet jv t')):=by
 have g:=aS (Obj.putSet jv t') ho (by rw[putSet_of jv t' hd];rfl);rw[putSet_of jv t' hd] at g;exact⟨g,_,jv,ep+1,t',g,x,rfl,h1,h2,h3,h4,h5⟩
theorem uP {g:Bool->Sem Unit}(hg:∀(b:Bool) (z:aq) (R:Unit->aq->Prop),R () z->az (model prog w) A (g b) R E z){a:Addr}{o:Obj}{es:Array (Int × ag)}{ep:Nat}{t:SetTable}(ho:s.heap.get? a=some o)
  (x:o.ExactSet) (hd:o.data=.set es ep t) {jv:Array (Int × ag)} {t':SetTable} {ns:List Int} (h1:vX jv.toList) (h2:(jv.toList.filterMap DY).Perm ns) (h3:jv.size<scanBound) (h4:t'.fits jv.size=true) (h5:SetTable.Good (!kg w) t')
  {UL:Bool} {R:Option Bool->aq->Prop} (h:∀h',Heap.SameBut a s.heap h'->i8 w a ns h'->R (some true) { s with heap:=h' }) :
  az (model prog w) A (storeSet a jv t' >>= λ_=>if (!UL && t'.tooFull)=true then (g (relayAll t' jv (SetTable.grown jv.size)).2.2 >>= λ_=>storeSet a (relayAll t' jv (SetTable.grown jv.size)).1 (relayAll t' jv (SetTable.grown jv.size)).2.1 >>= λ_=>pure (some true)) else pure (some true)) R E s:=by
 refine aa (wpAny_storeSet_of ho hd ?_ (fits_of_scanBound h3));obtain⟨p1,p2⟩:=i8.put (w:=w) ho x hd h1 h2 h3 h4 h5;have b1:=Heap.SameBut.update s.heap a (Obj.putSet jv t');split
 .have q1:=relayAll_perm t' jv (SetTable.grown jv.size)
  have q2:=relayAll_fits t' jv (SetTable.grown jv.size);have q3:=tO h5 jv (SetTable.grown jv.size);generalize relayAll t' jv (SetTable.grown jv.size)=z at q1 q2 q3 ⊢;obtain⟨ez,tz,bz⟩:=z;dsimp only at q1 q2 q3 ⊢;have q4:ez.size=jv.size:=by have:=q1.length_eq;simpa using this
  refine aa (hg _ _ _ ?_);refine aa (wpAny_storeSet_of p1 rfl ?_ (fits_of_scanBound (by rw[q4];exact h3)));obtain⟨_,p4⟩:=i8.put (w:=w) p1 x rfl (h1.perm q1) ((q1.filterMap DY).trans h2) (by rw[q4];exact h3) q2 q3;exact ai (h _ (b1.trans (Heap.SameBut.update _ a _)) p4)
 .exact ai (h _ b1 p2)
noncomputable def tP (ns:List Int)(k:Int):List Int:=if k∈ns then ns else ns++[k]
theorem Ga {a:Addr}{ns:List Int}{k:Int}{tk:Tok}{Q:Bool->aq->Prop}(hS:i8 w a ns s.heap)(hr:ns.length+1<scanBound)
  (h:∀r h',Heap.SameBut a s.heap h'->i8 w a (tP ns k) h'->Q r { s with heap:=h' }):az (model prog w) A (setAddHashed a (.int k tk) (hashInt k)) Q E s:=by
 obtain⟨o,es,ep,t,ho,x,hd,h1,h2,h3,h4,h5⟩:=hS;have e1:ElemsOf (intKind prog w) es.toList:=h1.elems;have XX:(intKind prog w).is k (.int k tk)=true:=intKind_is _ _ _ _;unfold setAddHashed setAddHashedIn;refine wpAny_holding (aa (wpAny_setState_of ho hd h4 ?_));dsimp only;rw[byScan_of (knd:=intKind prog w) (x:=.int k tk) rfl h3 e1];simp only[↓reduceIte];unfold setAddByScan;refine aa (aa (wpAny_rule (aa (wpAny_setScan_of (knd:=intKind prog w) XX ho hd h4 e1 ?_))))
 have e8:es.size=ns.length:=by
  have a1:=h2.length_eq;rw[h1.len,aT] at a1;exact a1
 cases hf:List.findIdx? (λe=>(intKind prog w).is k e.2) es.toList with
 | some j =>
  dsimp only;obtain⟨hj,XY,_⟩:=List.findIdx?_eq_some_iff_getElem.mp hf;have hk:k∈ns:=h2.mem_iff.mp (h1.has.mpr ⟨_,bV hj,XY⟩);refine ai (ai ?_);have:=h false s.heap (Heap.SameBut.refl a s.heap) (by unfold tP;rw[if_pos hk];exact⟨o,es,ep,t,ho,x,hd,h1,h2,h3,h4,h5⟩);exact this
 | none =>
  dsimp only
  have hk:¬ k∈ns:=λz=>by
   obtain⟨e,he,q⟩:=(h1.has (prog:=prog) (w:=w)).mp (h2.mem_iff.mpr z);have:=List.findIdx?_eq_none_iff.mp hf e he;rw[q] at this;cases this
  have q1:=layNew_perm t es (hashInt k) (.int k tk);have q2:=layNew_fits t es (hashInt k) (.int k tk);have q3:=xW h5 es (hashInt k) (.int k tk)
  have UM:∀(b:Bool) (z:aq) (R:Unit->aq->Prop),R () z->az (model prog w) A (match b with | true=>rule "set.scan.the-table-gave-way" | false=>pure ()) R E z :=
   λb z R hq=>by cases b<;>first | exact ai hq | exact wpAny_rule hq
  show az _ _ ((match (layNew t es (hashInt k) (.int k tk)).2.2.2 with | true=>rule "set.scan.the-table-gave-way" | false=>pure ()) >>= _) _ _ _;generalize hz:layNew t es (hashInt k) (.int k tk)=z at q1 q2 q3 ⊢;obtain⟨ez,tz,UL,XZ⟩:=z;dsimp only at q1 q2 q3 ⊢;have p0:ez.toList.Perm (es.toList++[(hashInt k,ag.int k tk)]):=by rw[dh] at q1;exact q1
  have p1:vX ez.toList:=vX.perm (λe he=>by
   rcases aB.mp he with he | he
   .exact h1 e he
   .have:e=(hashInt k,ag.int k tk):=by simpa using he
    exact⟨k,tk,this⟩) p0
  have p2:(ez.toList.filterMap DY).Perm (tP ns k):=by
   refine (p0.filterMap DY).trans ?_;unfold tP;rw[if_neg hk,List.filterMap_append];exact List.Perm.append_right _ h2
  have p3:ez.size<scanBound:=by
   have:=p0.length_eq;rw[aT,aI,aT] at this;simp at this;omega
  refine aa (UM _ _ _ ?_);have fin:∀h',Heap.SameBut a s.heap h'->i8 w a (tP ns k) h'->Q true { s with heap:=h' }:=λh'=>h true h';split
  .refine aa ?_
   rw[hashByValue_scannable 8 (x:=.int k tk) rfl];refine ai ?_;refine uP (g:=λb=>match b with | true=>rule "set.scan.the-table-gave-way" | false=>pure ()) UM ho x hd p1 p2 p3 ?_ ?_ ?_
   .split
    .exact q2
    .exact SetTable.fits_plain_off q2
   .split
    .exact q3
    .exact q3.off
   .intro h' a1 a2;dsimp only;exact ai (fin h' a1 a2)
  .refine aa (ai ?_)
   simp only[↓reduceIte];refine uP (g:=λb=>match b with | true=>rule "set.scan.the-table-gave-way" | false=>pure ()) UM ho x hd p1 p2 p3 q2 q3 ?_;intro h' a1 a2;dsimp only;exact ai (fin h' a1 a2)
end
open PyProof.Rows
section
noncomputable def iC (val:Nat->Int):Nat->List Int
 | 0=>[]
 | i+1=>tP (iC val i) (val i)
theorem pC (val:Nat->Int):∀i,(iC val i).length<=i
 | 0=>am _
 | i+1=>by
  have:=pC val i;unfold iC tP;split
  .omega
  .simp;omega
theorem xX (val:Nat->Int):∀i,(iC val i).Nodup
 | 0=>List.nodup_nil
 | i+1=>by
  have ih:=xX val i;unfold iC tP;split
  .exact ih
  .rename_i h
   rw[cw];refine⟨ih,!4,λa ha b hb=>?_⟩;have e:b=val i:=by simpa using hb
   subst e;exact λz=>h (z ▸ ha)
theorem uQ (val:Nat->Int)(k:Int):∀i,k∈iC val i↔∃j,j<i/\val j=k
 | 0=>⟨λh=>absurd h (by simp[iC]),λ⟨j,h,_⟩=>absurd h (!1)⟩
 | i+1=>by
  have ih:=uQ val k i
  have key:k∈iC val (i+1)↔k∈iC val i\/k=val i:=by
   show k∈tP (iC val i) (val i)↔_;unfold tP;split
   .rename_i h
    exact⟨.inl,λz=>z.elim id λe=>e ▸ h⟩
   .simp
  rw[key,ih];constructor
  .rintro (⟨j,h,e⟩ | rfl)
   .exact⟨j,!1,e⟩
   .exact⟨i,!1,rfl⟩
  .rintro⟨j,h,e⟩
   by_cases q:j=i
   .subst q;exact .inr e.symm
   .exact .inl ⟨j,!1,e⟩
theorem DZ {I:Addr}{fp wr:List Addr}{G:Array GenState->Array GenState->Prop}{n:Nat}{P:Nat->ag->Prop}{St:Nat->aq->Prop}(W:WalksS prog w A.in1 I fp wr G n P St)(S:Addr)(NB:S ∉ fp)
  (val:Nat->Int) (D0:∀i v,P i v->∃t,v=.int (val i) t) (hb:n+1<scanBound):∀(m i:Nat) (z:aq),n - i=m->i<=n->St i z->i8 w S (iC val i) z.heap ->
   (∀z',Moved (S::wr) G z z'->i8 w S (iC val n) z'.heap->R (.ok (.ret .none)) z')->codeAny (model prog w) A (.builtin "set.update.loop" ⟨[.ref S,.ref I],[]⟩) R z:=by
 have sw:S ∉ wr:=λq=>NB (W.sub _ q);have sb:∀b∈wr,b∈S::wr:=λb q=>ao _ q;intro m
 induction m with
 | zero =>
  intro i z e1 e2 st x q;have:i=n:=by omega
  subst this;refine codeAny_builtin PyProof.Rows.F.entry_set_update_loop ?_;rw[Around.under_plainId PyProof.Rows.F.plain_set_update_loop _];show az _ A.in1 (pyNext (.ref I) >>= _) _ _ z;refine aa (W.done z _ _ st λz' mv=>?_);exact ai (q z' (mv.mono sb) (x.keep λo e=>mv.heap S _ sw e))
 | succ m ih =>
  intro i z e1 e2 st x q;refine codeAny_builtin PyProof.Rows.F.entry_set_update_loop ?_;rw[Around.under_plainId PyProof.Rows.F.plain_set_update_loop _];show az _ A.in1 (pyNext (.ref I) >>= _) _ _ z;refine aa (W.item i z _ _ (!1) st λv z' hv eM mv=>?_);obtain⟨t,rfl⟩:=D0 i v hv;have x':=x.keep (h':=z'.heap) λo e=>mv.heap S _ sw e;show az _ A.in1 (holding [ag.int (val i) t] (setAdd S (.int (val i) t)) >>= _) _ _ z';refine aa (wpAny_holding ?_);unfold setAdd;refine wpAny_holding (aa ((intKind prog w).pyHash (k:=val i) (intKind_is _ _ _ _) ?_));refine Ga (s:={ z' with toks:=z'.toks+1 }) x' (by have:=pC val i;omega) λr h' a1 a2=>?_;refine ai ⟨plainId_quiet PyProof.Rows.F.plain_set_update_loop _,ih (i+1) _ (!1) (!1) (W.frame _ z' _ _ eM (cb _) λb hb o e=>?_) a2 λX2 X3 X4=>?_⟩
  .rw[a1.2 b λh:b=S=>NB (h ▸ hb)];exact e
  .refine q X2 (Moved.trans W.gtrans ((mv.mono sb).then_heap (cb _) λb o hb e=>?_) X3) X4
   rw[a1.2 b λh:b=S=>hb (by rw[h];exact ar)];exact e
theorem D1 (a:ag)(h:Q (.ref s.heap.objs.size) { s with heap:=s.heap.push { cls:=.type "set",dict:=none,data:=.set #[] 0 (.fresh 0 0 (!kg w)) } }) :
  codeAny (model prog w) A (.call (.builtin "set.__new__") ⟨[.type "set",a],[]⟩) (wants Q E) s:=by
 refine codeAny_of_tree ?_;show az _ A.in1 (checkBuiltinCall "set.__new__" ⟨[.type "set",a],[]⟩ >>= λ_=>again (.builtin "set.__new__" ⟨[.type "set",a],[]⟩)) _ _ s;refine aa (wpAny_of_eq (F.newCall_set_1 a) (ai ⟨plainId_quiet F.plain_set_new _,codeAny_builtin F.entry_set_new ?_⟩));rw[Around.under_plainId F.plain_set_new _];unfold Builtin.«set.__new__» Builtin.Frozenset.newClass;have q:=sub_set_self;obtain⟨hp,g,d,tk,os⟩:=s;dsimp only
 wp_walk
 refine wpAny_askSetting (ai ?_);dsimp only;simp only[newObj];exact aa (wpAny_alloc (ai (ai h)))
set_option maxHeartbeats 3200000 in
theorem uR {l:Addr}{T:String}{items:Array ag}{od:Option Addr}{nl:Nat}{os:Array (Option ag)}{ns:List Int}{ob:Obj}{Q:ag->aq->Prop}(WA:s.heap.get? l=some { cls:=.type T,dict:=od,data:=.seq items nl,slots:=os })
  (X5:isSubtype (.type T) (.type "set")=pure false) (X6:isSubtype (.type T) (.type "frozenset")=pure false) (j9:(ag.type T == ag.type "dict")=false) (hi:IntsAre items.toList ns) (hb:items.size+1<scanBound) {St:Nat->Heap->Prop}
  (iter:∀{A':Around} {E':ag->aq->Prop} {Q':ag->aq->Prop} {z:aq},z.heap.get? l=some { cls:=.type T,dict:=od,data:=.seq items nl,slots:=os }->Q' (.ref z.heap.objs.size) { z with heap:=z.heap.push ob }->az (model prog w) A' (pyIter (.ref l)) Q' E' z)
  (W:Walks prog w A.in1.in1.in1 (s.heap.objs.size+1) [s.heap.objs.size+1,l] [s.heap.objs.size+1] items.size (λi v=>items[i]? = some v) St)
  (xl:∀z:Heap,z.objs.size=s.heap.objs.size+1->z.get? l=some { cls:=.type T,dict:=od,data:=.seq items nl,slots:=os }->St 0 (z.push ob))
  (h:∀(h':Heap) (tk:Nat),i8 w s.heap.objs.size (iC (λi=>ns.getD i 0) items.size) h'->(∀b o,s.heap.get? b=some o->h'.get? b=some o)->Q (.ref s.heap.objs.size) { s with heap:=h',toks:=tk }) :
  az (model prog w) A (call (.type "set") [.ref l]) Q E s:=by
 obtain⟨c,tl,X7⟩:=F.called_set.mro;have WB:=F.called_set.made;have FP:=F.called_set.sub;refine wpAny_call (codeAny_of_tree ?_);show az _ _ (callAny (.type "set") _) _ _ _;refine ai ⟨Code.quiet_builtin _ (!3),codeAny_builtin F.entry_type_call ?_⟩;rw[Around.under_plain (weight_type_call_type "set" [.ref l] []) rfl];have g1:=F.called_set.notType;have g2:=F.called_set.canCreate;have g3:=F.typeCall_set_1 (.ref l);repeat (any_goals (first | assumption | wp_step))
 refine codeAny_mono (D1 (.ref l) (E:=E) (Q:=λx z=>x=.ref s.heap.objs.size/\z={ s with heap:=s.heap.push { cls:=.type "set",dict:=none,data:=.set #[] 0 (.fresh 0 0 (!kg w)) } }) ⟨rfl,rfl⟩) λr z hr=>?_
 cases r with
 | error e=>exact hr
 | ok fl =>
  cases fl with
  | ret x =>
   obtain⟨rfl,rfl⟩:=hr;have kp:∀b o,s.heap.get? b=some o->(s.heap.push { cls:=.type "set",dict:=none,data:=.set #[] 0 (.fresh 0 0 (!kg w)) }).get? b=some o:=λb o e=>ah _ e;have hS:(s.heap.push { cls:=.type "set",dict:=none,data:=.set #[] 0 (.fresh 0 0 (!kg w)) }).get? s.heap.objs.size=some { cls:=.type "set",dict:=none,data:=.set #[] 0 (.fresh 0 0 (!kg w)) }:=aF _ rfl;have hz:(s.heap.push { cls:=.type "set",dict:=none,data:=.set #[] 0 (.fresh 0 0 (!kg w)) }).objs.size=s.heap.objs.size+1:=by rw[bX]
   have NF:=kp l _ WA;have X8:l<s.heap.objs.size:=aA WA;generalize s.heap.push { cls:=.type "set",dict:=none,data:=.set #[] 0 (.fresh 0 0 (!kg w)) }=h1 at hS kp hz NF ⊢;have hT:aq.TypeIs { s with heap:=h1 } (.ref s.heap.objs.size) "set" := ⟨_,hS,rfl⟩;have hli:=F.called_set.init.lookup;have Lb:=F.called_set.init.bind (.ref s.heap.objs.size);repeat (any_goals (first | assumption | wp_step))
   refine codeAny_mono (codeAny_call_builtin (R:=wants (λr z=>r=.none/\∃h' tk,z={ s with heap:=h',toks:=tk }/\i8 w s.heap.objs.size (iC (λi=>ns.getD i 0) items.size) h'/\(∀b o,s.heap.get? b=some o->h'.get? b=some o)) E)
    F.called_set.init.plain F.entry_set_init (check_set_init_1 hT ?_)) λr₂ s₂ Gb=>?_
   .unfold Builtin.«set.__init__» noKeywords Builtin.Frozenset.updateFrom
    generalize X9:pyIter=PI
    wp_walk
    subst X9;refine iter NF ?_;refine aa (wpAny_runValue ?_);have D0:∀(i:Nat) (v:ag),items[i]? = some v->∃t,v=.int ((λi=>ns.getD i 0) i) t:=λi v hv=>IntsAre.int_at hi i v (by rw[a9];exact hv)
    have X':s.heap.objs.size ∉ [s.heap.objs.size+1,l]:=λq=>by
     rcases au.mp q with q | q
     .exact absurd q (aN (dn _))
     .exact absurd (aw.mp q) (cj X8)
    show codeAny _ _ (.builtin "set.update.loop" ⟨[.ref s.heap.objs.size,.ref h1.objs.size],[]⟩) _ _;rw[hz];refine DZ (A:=A.in1.in1) W.toS s.heap.objs.size X' (λi=>ns.getD i 0) D0 hb (items.size - 0) 0 _ (!1) (bL _) (xl h1 hz NF) ?hS0 ?hR
    case hS0=>exact⟨_,#[],0,_,ah _ hS,⟨rfl,rfl,rfl⟩,rfl,λe he=>by simp at he,by simp[iC],!2,by rfl,rfl,λ_=>by simp[SetTable.fresh]⟩
    case hR =>
     intro z' mv x;obtain⟨h',g',d',Uq,TV⟩:=z';have eg:g'=s.gens:=mv.gens;have ed:d'=s.drawn:=mv.drawn;have eo:TV=s.os:=mv.os;subst eg ed eo;show az _ _ _ _ _ _;refine ai ?_;show az _ _ (ret ag.none) _ _ _;refine ai ⟨rfl,h',Uq,rfl,x,λb o e=>?_⟩;have WC:=aA e
     have E5:b ∉ s.heap.objs.size::[s.heap.objs.size+1]:=λq=>by
      rcases au.mp q with q | q
      .exact absurd q (aN WC)
      .exact absurd (aw.mp q) (aN (cv WC))
     exact mv.heap b o E5 (ah _ (kp b o e))
   .cases r₂ with
    | error e=>exact Gb
    | ok Q4 =>
     cases Q4 with
     | ret r =>
      obtain⟨rfl,h',tk,rfl,x,kq⟩:=Gb;repeat (any_goals (first | assumption | wp_step))
      exact h _ _ x kq
     | _=>exact Gb.elim
  | _=>exact hr.elim
end
open PyProof.Rows
theorem kh:Slot "set_iterator" "__next__" "set_iterator.__next__" :=
 Slot.of (owner := "set_iterator") (n := "__next__") (by rw[typeLookup_type,builtinLookup_eq_fast];kernel_rfl) (!3) (!3)
  (!3) (by first | exact .inl (!3) | exact .inr (!3)) (by rw[isSubtype_type];kernel_rfl)
theorem uS:entryFor table "set_iterator.__next__" = some Builtin.«set_iterator.__next__»:=entryFor_of_tree (by kernel_rfl)
theorem xY (a:ag):argsOk "set_iterator.__next__" ⟨[a],[]⟩:=by unfold argsOk;kernel_rfl
theorem xZ:entryFor table "set.__iter__" = some Builtin.«frozenset.__iter__»:=entryFor_alias (id' := "frozenset.__iter__") (by kernel_rfl) rfl (!3) (by kernel_rfl)
section
variable {prog:aP}{w:World}{A:Around}{E:ag->aq->Prop}{s:aq}
theorem tQ (hn:0<n)(h:∀i d,i<n->Q i { s with drawn:=d }):az M A (choose src n) Q E s:=λΓ p hΓ=>by
 unfold choose;rw[Sem.wp_choose];refine⟨cj hn,?_⟩;rw[Sem.wp_pure];exact h _ _ (Nat.mod_lt _ hn)
theorem ll {M:Model}{α:Type}:∀(n:Nat) (xs:List α) {s:aq} {Q:List α->aq->Prop},n=xs.length->(∀ys d,ys.Perm xs->Q ys { s with drawn:=d })->az M A (drawOrder n xs) Q E s
 | 0,[],s,Q,_,h=>by unfold drawOrder;exact ai (h [] s.drawn .nil)
 | 0,_::_,s,Q,e,_=>by cases e
 | n+1,[],s,Q,e,_=>by cases e
 | n+1,x::xs,s,Q,e,h=>by
  unfold drawOrder;refine aa (tQ (!4) λi d hi=>?_);rw[aV hi];dsimp only;refine aa (ll n ((x::xs).eraseIdx i) (by rw[List.length_eraseIdx_of_lt hi];omega) λys d' p=>ai ?_);exact h _ _ ((List.Perm.cons _ p).trans (by have:=p7 hi;rwa [List.singleton_append] at this))
noncomputable def tR (t:SetTable):Nat->Nat
 | 0=>0
 | i+1=>t.place.getD i 0+1
noncomputable def Ge (w:World)(a it pl:Addr)(es:Array (Int × ag))(ep:Nat)(t:SetTable)(out:List ag)(i:Nat)(first:ag)(h:Heap):Prop :=
 (kg w=true/\first=.int 0 0/\out=(pickOrder (w.params.setOrder a ep) es).toList.map (·.2)) \/
 (kg w=false/\(!t.plain && decide (es.size > 1))=false/\t.place.toList.Pairwise (· < ·)/\first=.int (tR t i:Nat) 0/\out=es.toList.map (·.2)) \/
 (kg w=false/\first=.ref pl/\pl≠it/\∃ord:List Nat,h.IsTuple pl (ord.map λi:Nat=>rawInt i).toArray/\ord.Perm (List.range es.size)/\out=ord.map λi=>((es[i]?).map (·.2)).getD .none)
noncomputable def E6 (w:World)(a it pl:Addr)(o:Obj)(es:Array (Int × ag))(ep:Nat)(t:SetTable)(out:List ag)(i:Nat)(h:Heap):Prop :=
 h.get? a=some o/\out.length=es.size/\∃first,h.get? it=some { cls:=.type "set_iterator",data:=.fields #[first,.int i 0,.ref a,.int es.size 0,.int ep 0] }/\Ge w a it pl es ep t out i first h
structure Ag (w:World) (o:Obj) (es:Array (Int × ag)) (ep:Nat) (t:SetTable):Prop where
 ex:o.ExactSet
 dat:o.data=.set es ep t
 fit:t.fits es.size=true
 led:t.led=!kg w
theorem E6.frame (x:E6 w a it pl o es ep t out i h)(k:∀b∈[it,a,pl],∀o,h.get? b=some o->h'.get? b=some o):E6 w a it pl o es ep t out i h':=by
 obtain⟨x1,x2,f,x3,m⟩:=x;refine⟨k a (!4) _ x1,x2,f,k it (!4) _ x3,?_⟩;rcases m with m | m | ⟨m1,m2,m3,ord,m4,m5⟩
 .exact .inl m
 .exact .inr (.inl m)
 .exact .inr (.inr ⟨m1,m2,m3,ord,m4.at λo e=>k pl (!4) o e,m5⟩)
theorem E6.type (x:E6 w a it pl o es ep t out i s.heap):s.TypeIs (.ref it) "set_iterator" := by
 obtain⟨_,_,f,e,_⟩:=x;exact⟨_,e,rfl⟩
theorem uT {t:SetTable}{n:Nat}(h:t.fits n=true):t.place.size=n:=by
 simp only[SetTable.fits,bv,beq_iff_eq] at h;exact h.1
theorem rM (F:Ag w o es ep t)(x:s.heap.get? a=some o)(m:kg w=true)
  (q:Q ((((pickOrder (w.params.setOrder a ep) es).toList.map (·.2))[i]?).map λv=>(v,sl)) s):az (model prog w) A (setNext a sl i ep) Q E s:=by
 unfold setNext;refine aa (wpAny_setState_of x F.dat F.fit ?_);dsimp only;unfold setsByText;refine aa (aa (wpAny_askSetting (ai ?_)));refine wpAny_ite_split (λ_=>?_) (λz=>absurd m z);rw[if_neg (!4)];unfold setWalk;refine aa (aa (wpAny_setState_of x F.dat F.fit ?_));dsimp only;unfold setsByText;refine aa (aa (wpAny_askSetting (ai ?_)));refine wpAny_ite_split (λ_=>?_) (λz=>absurd m z);refine aa (wpAny_askSetting (ai ?_));refine ai ?_
 have e:((pickOrder (w.params.setOrder a ep) es)[i]?).map (λe:Int × ag=>(e.2,sl))=(((pickOrder (w.params.setOrder a ep) es).toList.map (·.2))[i]?).map λv=>(v,sl):=by
  rw[aC,a9,Option.map_map];rfl
 rw[<- e] at q;exact q
theorem rN {a:Addr}{o:Obj}{es:Array (Int × ag)}{ep i:Nat}{t:SetTable}{Q:Option (ag × Nat)->aq->Prop}(F:Ag w o es ep t)(x:s.heap.get? a=some o)(m:kg w=false)(m2:(!t.plain && decide (es.size > 1))=false)
  (m3:t.place.toList.Pairwise (· < ·)) (hi:i<=es.size) (q:Q (((es.toList.map (·.2))[i]?).map λv=>(v,tR t (i+1))) s):az (model prog w) A (setNext a (tR t i) i ep) Q E s:=by
 have hz:=uT F.fit;unfold setNext;refine aa (wpAny_setState_of x F.dat F.fit ?_);dsimp only;unfold setsByText;refine aa (aa (wpAny_askSetting (ai ?_)));refine wpAny_ite_split (λz=>absurd ((show kg w=true from z).symm.trans m) (!2)) (λ_=>?_);refine wpAny_ite_split (λz=>absurd ((show (!t.plain && decide (es.size > 1))=true from z).symm.trans m2) (!2)) (λ_=>?_);show az _ _ ((if (!t.led && !es.isEmpty)=true then unsupported "set:maker-not-led" else pure ()) >>= _) _ _ _;rw[F.led,m];rw[if_neg (!4)];refine aa (ai (ai ?_))
 have e:SetTable.below t.place (tR t i)=i:=by
  cases i with
  | zero=>exact SetTable.Ae m3
  | succ j =>
   have hj:j<t.place.size:=by omega
   have:tR t (j+1)=t.place[j] + 1:=by unfold tR;simp[hj]
   rw[this];exact SetTable.Af m3 (by simp[hj])
 rw[e];rcases cH i es.size with hl | hl
 .have e1:es[i]? = some (es[i].1,es[i].2):=by simp[hl]
  have e2:t.place[i]? = some t.place[i]:=by simp[hz,hl]
  rw[e1,e2];have e3:(es.toList.map (·.2))[i]? = some es[i].2:=by rw[aC,a9,e1];rfl
  rw[e3] at q;have e4:tR t (i+1)=t.place[i] + 1:=by unfold tR;simp[hz,hl]
  rw[e4] at q;exact q
 .have e1:es[i]? = none:=by simp[hl]
  have e3:(es.toList.map (·.2))[i]? = none:=by rw[aC,a9,e1];rfl
  rw[e3] at q;rw[e1];exact q
theorem vY {h:Heap}{it:Addr}{vs:Array ag}(f:Array ag->Array ag)(ho:h.get? it=some { cls:=.type "set_iterator",data:=.fields vs }):(h.update it (Obj.mapFields f)).get? it=some { cls:=.type "set_iterator",data:=.fields (f vs) }:=by
 have:=aS (Obj.mapFields f) ho (Obj.isFreed_of_fields (Obj.data_mapFields rfl _));exact this
theorem Ah {a it pl:Addr}{o:Obj}{es:Array (Int × ag)}{ep:Nat}{t:SetTable}{out:List ag}{i:Nat}{v:ag}{Q:Option ag->aq->Prop}(F:Ag w o es ep t)(x:E6 w a it pl o es ep t out i s.heap)(j9:a≠it)
  (hv:out[i]? = some v) (q:∀h',E6 w a it pl o es ep t out (i+1) h'->Heap.SameBut it s.heap h'->Q (some v) { s with heap:=h' }):az (model prog w) A (pyNext (.ref it)) Q E s:=by
 have ty:=x.type;obtain⟨x1,x2,first,x3,m⟩:=x
 have hi:i<out.length:=by
  rcases cH i out.length with z | z
  .exact z
  .rw[bq z] at hv;cases hv
 unfold pyNext;refine aa (wpAny_attempt (wpAny_callSpecial?_slot (name:=Str.ofString "__next__") ty kh (wpAny_call_entry kh ty uS ?_ (xY _))));show az _ _ (fieldsOf (.ref it) >>= _) _ _ s;refine aa (wpAny_fieldsOf x3 rfl ?_);show az _ _ (setEntries a >>= _) _ _ s;refine aa (wpAny_setEntries_of x1 F.dat F.fit ?_);rw[if_neg (!4)];have ot:∀(f:Obj->Obj) (h:Heap) (b:Addr) (ob:Obj),b≠it->h.get? b=some ob->(h.update it f).get? b=some ob:=λf h b ob hb e=>(aH _ _ (Ne.symm hb)).trans e
 have go:∀(sl nx:Nat),s.heap.get? it=some { cls:=.type "set_iterator",data:=.fields #[.int sl 0,.int i 0,.ref a,.int es.size 0,.int ep 0] }->(∀h',Ge w a it pl es ep t out (i+1) (.int nx 0) h') ->
   (∀Q':Option (ag × Nat)->aq->Prop,∀E',Q' ((out[i]?).map λv=>(v,nx)) s->az (model prog w) A.in1 (setNext a sl i ep) Q' E' s) ->
   ∀{E':ag->aq->Prop},az (model prog w) A.in1 (setNext a ((sl:Int).toNat) ((i:Int).toNat) ((ep:Int).toNat) >>= λr=>match r with
    | some (y,next)=>setField (.ref it) 0 (rawInt next) >>= λ_=>setField (.ref it) 1 (rawInt ((i:Int)+1)) >>= λ_=>ret y
    | none=>setField (.ref it) 2 ag.none >>= λ_=>newExc (ag.type "StopIteration") [] >>= λe=>raiseNew e) (λfin s'=>∃v,fin=.done (.ret v)/\Q (some v) s') E' s:=by
  intro sl nx x3 md Ya E';simp only[br];refine aa (Ya _ _ ?_);rw[hv];dsimp only [Option.map];refine aa (wpAny_setField x3 rfl (!4) (aa ?_));have y1:=vY (·.setIfInBounds 0 (rawInt nx)) x3;refine wpAny_setField (s:={ s with heap:=s.heap.update it (Obj.mapFields (·.setIfInBounds 0 (rawInt nx))) }) y1 rfl (!4) (ai ⟨v,rfl,?_⟩);have y2:=vY (·.setIfInBounds 1 (rawInt ((i:Int)+1))) y1;exact q _ ⟨ot _ _ a o j9 (ot _ _ a o j9 x1),x2,.int nx 0,by rw[y2];simp[rawInt],md _⟩ ((Heap.SameBut.update ..).trans (Heap.SameBut.update ..))
 rcases m with⟨m1,rfl,m2⟩ | ⟨m1,m2,m3,rfl,m4⟩ | ⟨m1,rfl,m2,ord,⟨UN,t1,t2,nt,t3⟩,m4,m5⟩
 .exact bF (go 0 0 x3 (λh'=>.inl ⟨m1,rfl,m2⟩) λQ' E' q'=>rM F x1 m1 (by rw[<- m2];exact q')) (λfin s' ⟨v,e,h⟩=>⟨v,e,ai h⟩) λe s' h=>h
 .exact bF (go (tR t i) (tR t (i+1)) x3 (λh'=>.inr (.inl ⟨m1,m2,m3,rfl,m4⟩)) λQ' E' q'=>rN F x1 m1 m2 m3 (!1) (by rw[<- m4];exact q')) (λfin s' ⟨v,e,h⟩=>⟨v,e,ai h⟩) λe s' h=>h
 .show az _ _ (seqItems? (.ref pl) >>= _) _ _ s
  refine aa (wpAny_seqItems t1 t3 ?_);rw[m5,aC] at hv
  cases ho:ord[i]? with
  | none=>rw[ho] at hv;cases hv
  | some j =>
   rw[ho] at hv
   have hj:j<es.size:=by
    have:j∈List.range es.size:=m4.mem_iff.mp (bO ho);exact cB.mp this
   have ej:es[j]? = some (es[j].1,es[j].2):=by simp[hj]
   have ev:v=es[j].2:=by simp only[bH,ej] at hv;cases hv;rfl
   have UP:((ord.map λi:Nat=>rawInt i).toArray)[(i:Int).toNat]? = some (.int j 0):=by
    rw[List.getElem?_toArray,br,aC,ho];rfl
   dsimp only;rw[UP];dsimp only;refine aa ?_;unfold setNextDrawn;refine aa (wpAny_setState_of x1 F.dat F.fit ?_);dsimp only;rw[if_neg (!4),br,ej];dsimp only;refine ai ?_;refine aa (wpAny_setField x3 rfl (!4) (ai ⟨_,rfl,ai ?_⟩));have y2:=vY (·.setIfInBounds 1 (rawInt ((i:Int)+1))) x3;rw[<- ev];exact q _ ⟨ot _ _ a o j9 x1,x2,.ref pl,by rw[y2];simp[rawInt],.inr (.inr ⟨m1,rfl,m2,ord,⟨UN,ot _ _ pl UN m2 t1,t2,nt,t3⟩,m4,m5⟩)⟩ (Heap.SameBut.update ..)
theorem rO {a it pl:Addr}{o:Obj}{es:Array (Int × ag)}{ep:Nat}{t:SetTable}{out:List ag}{Q:Option ag->aq->Prop}(hh:A.handled=none)(F:Ag w o es ep t)(x:E6 w a it pl o es ep t out out.length s.heap)
  (q:∀h',Heap.ExtBut it s.heap h'->Q none { s with heap:=h' }):az (model prog w) A (pyNext (.ref it)) Q E s:=by
 have ty:=x.type;obtain⟨x1,x2,first,x3,m⟩:=x;unfold pyNext;refine aa (wpAny_attempt (wpAny_callSpecial?_slot (name:=Str.ofString "__next__") ty kh (wpAny_call_entry kh ty uS ?_ (xY _))));show az _ _ (fieldsOf (.ref it) >>= _) _ _ s;refine aa (wpAny_fieldsOf x3 rfl ?_);show az _ _ (setEntries a >>= _) _ _ s;refine aa (wpAny_setEntries_of x1 F.dat F.fit ?_);rw[if_neg (!4)]
 have fin:∀{α:Type} (h1:Heap) (B:Around) (Q':α->aq->Prop),B.handled=none->Heap.ExtBut it s.heap h1->az (model prog w) B (newExc (ag.type "StopIteration") [] >>= λe=>raiseNew e)
   Q' (λe s'=>az (model prog w) A (isInstance e (ag.type "StopIteration") >>= λb=>if b=true then pure none else throw e) Q E s') { s with heap:=h1 }:=by
  intro α h1 B Q' hB k1;refine aa ?_;simp only[newExc,newTuple];refine aa (be (aa (m:=firstArgMember _ _) (wpAny_of_eq (a:=ag.none) (by first | rfl | (simp only[firstArgMember];rfl)) (be ?_ (by size_fits)))) (by size_fits));simp only[raiseNew];refine aa (wpAny_handled ?_);rw[hB];refine aa (ai (wpAny_throw ?_));refine aa (wpAny_isInstance (T := "StopIteration") (b:=true) ⟨_,aF _ rfl,rfl⟩ isSubtype_stop (ai ?_));exact q _ ((k1.push _).push _)
 have no:out[out.length]? = none:=by simp
 rcases m with⟨m1,rfl,m2⟩ | ⟨m1,m2,m3,rfl,m4⟩ | ⟨m1,rfl,m2,ord,⟨UN,t1,t2,nt,t3⟩,m4,m5⟩
 .show az _ _ (setNext a _ _ _ >>= _) _ _ s
  simp only[br];refine aa (rM F x1 m1 ?_);rw[<- m2,no];dsimp only [Option.map];exact aa (wpAny_setField x3 rfl (!4) (fin _ _ _ hh (Heap.SameBut.update ..).extBut))
 .show az _ _ (setNext a _ _ _ >>= _) _ _ s
  simp only[br];refine aa (rN F x1 m1 m2 m3 (!1) ?_);rw[<- m4,no];dsimp only [Option.map];exact aa (wpAny_setField x3 rfl (!4) (fin _ _ _ hh (Heap.SameBut.update ..).extBut))
 .show az _ _ (seqItems? (.ref pl) >>= _) _ _ s
  refine aa (wpAny_seqItems t1 t3 ?_);have ol:ord.length=out.length:=by rw[m5,ak]
  have UP:((ord.map λi:Nat=>rawInt i).toArray)[((out.length:Nat):Int).toNat]? = none:=by
   rw[List.getElem?_toArray,br,aC,bq (!1)];rfl
  dsimp only;rw[UP];dsimp only;refine aa (wpAny_setField x3 rfl (!4) (aa ?_));have y1:=vY (·.setIfInBounds 0 (rawInt 0)) x3;exact wpAny_setField (s:={ s with heap:=s.heap.update it (Obj.mapFields (·.setIfInBounds 0 (rawInt 0))) }) y1 rfl (!4) (fin _ _ _ hh ((Heap.SameBut.update ..).trans (Heap.SameBut.update ..)).extBut)
end
open PyProof.Rows
theorem uU:Slot "set_iterator" "__iter__" "set_iterator.__iter__" :=
 Slot.of (owner := "set_iterator") (n := "__iter__") (by rw[typeLookup_type,builtinLookup_eq_fast];kernel_rfl) (!3) (!3)
  (!3) (by first | exact .inl (!3) | exact .inr (!3)) (by rw[isSubtype_type];kernel_rfl)
theorem Ai:entryFor table "set_iterator.__iter__" = some Builtin.«dict_keyiterator.__iter__»:=entryFor_alias (id' := "dict_keyiterator.__iter__") (by kernel_rfl) rfl (!3) (by kernel_rfl)
theorem D2 (a:ag):argsOk "set_iterator.__iter__" ⟨[a],[]⟩:=by unfold argsOk;kernel_rfl
section
theorem vX.ints:vX l->IntsAre (l.map (·.2)) (l.filterMap DY):=by
 induction l with
 | nil=>intro _;exact .nil
 | cons e l ih =>
  intro h;obtain⟨k,t,rfl⟩:=h e (!4);exact .cons k t (ih λe he=>h e (by simp[he]))
theorem ya (es:Array (Int × ag)):∀(l:List Nat),(∀j∈l,j<es.size)->(l.map λi=>((es[i]?).map (·.2)).getD ag.none)=(l.filterMap λi=>es[i]?).map (·.2)
 | [],_=>rfl
 | j::l,h=>by
  have hj:=h j (!4);have e:es[j]? = some es[j]:=by simp[hj]
  rw[aj,bZ,e,ya es l λi hi=>h i (by simp[hi])];rfl
theorem yb (x:i8 w a ns s.heap) (q:∀h' d' it pl o es ep t out ms,Ag w o es ep t->E6 w a it pl o es ep t out 0 h'->(∀b ob,s.heap.get? b=some ob->h'.get? b=some ob) ->
   s.heap.objs.size<=it->s.heap.objs.size<=pl->IntsAre out ms->ms.Perm ns->Q (.ref it) { s with heap:=h',drawn:=d' }):az (model prog w) A (pyIter (.ref a)) Q E s:=by
 have ty:=x.type;obtain⟨o,es,ep,t,ho,ex,hd,h1,h2,h3,h4,h5,h6⟩:=x;have F:Ag w o es ep t:=⟨ex,hd,h4,h5⟩;have hz:=uT h4;refine wpAny_pyIter_slot ty PySem.F.slot_set_iter (wpAny_call_entry PySem.F.slot_set_iter ty xZ ?_ (PySem.F.args_set_iter_1 _));unfold Builtin.«frozenset.__iter__» Builtin.Frozenset.slot0 slotArgs;simp only[List.isEmpty_nil,dl,bT,↓reduceIte,bind_assoc,bh,bne_self_eq_false];unfold Builtin.Frozenset.addrOf Builtin.Frozenset.sizeOf;refine aa (ai ?_);try dsimp only
 refine aa (ai ?_);refine aa (aa (wpAny_setEntries_of ho hd h4 (ai ?_)));unfold setDrawn;refine aa (aa (wpAny_setState_of ho hd h4 ?_));dsimp only;unfold setsByText;refine aa (aa (wpAny_askSetting (ai (ai ?_))))
 have fin:∀(h':Heap) (d':_) (pl:Addr) (first:ag) (out:List ag) (ms:List Int),(∀b ob,s.heap.get? b=some ob->h'.get? b=some ob)->s.heap.objs.size<=h'.objs.size->s.heap.objs.size<=pl ->
   Ge w a h'.objs.size pl es ep t out 0 first (h'.push { cls:=.type "set_iterator",data:=.fields #[first,.int 0 0,.ref a,.int es.size 0,.int ep 0] })->out.length=es.size->IntsAre out ms->ms.Perm ns ->
   az (model prog w) A.in1 (setEpoch a >>= λe=>newFields "set_iterator" [first,rawInt 0,.ref a,rawInt es.size,rawInt e] >>= λv=>ret v)
    (λfin s'=>∃v,fin=.done (.ret v)/\∃T' r,s'.TypeIs v T'/\typeLookup (.type T') "__next__" = pure (some r)/\Q v s') E { s with heap:=h',drawn:=d' }:=by
  intro h' d' pl first out ms kp z1 z2 md ol ia pm
  refine aa (wpAny_setEpoch_of (s:={ s with heap:=h',drawn:=d' }) (kp a o ho) hd h4 ?_);unfold newFields;refine aa (be (ai ⟨_,rfl, "set_iterator",_,⟨_,aF _ rfl,rfl⟩,kh.lookup,?_⟩));have g:(h'.push { cls:=.type "set_iterator",data:=.fields #[first,.int 0 0,.ref a,.int es.size 0,.int ep 0] }).get? h'.objs.size=some { cls:=.type "set_iterator",data:=.fields #[first,.int 0 0,.ref a,.int es.size 0,.int ep 0] }:=aF _ rfl;exact q _ d' h'.objs.size pl o es ep t out ms F ⟨ah _ (kp a o ho),ol,first,g,md⟩ (λb ob e=>ah _ (kp b ob e)) z1 z2 ia pm
 cases hb:kg w with
 | true =>
  refine wpAny_ite_split (λz=>?_) (λ_=>?_)
  .exfalso
   have:(!kg w && (!t.plain && decide (es.size > 1)))=true:=z;rw[hb] at this;cases this
  .refine aa (ai ?_)
   have p1:=rL (w.params.setOrder a ep) es;refine fin s.heap s.drawn s.heap.objs.size (.int 0 0) _ _ (λ_ _ e=>e) (am _) (am _) (.inl ⟨hb,rfl,rfl⟩) ?_ (vX.ints (h1.perm p1)) ((p1.filterMap DY).trans h2);rw[ak,p1.length_eq,aT]
 | false =>
  refine wpAny_ite_split (λz=>?_) (λz=>?_)
  .refine aa (ll es.size (List.range es.size) (!4) λord d' p=>?_)
   refine aa (wpAny_newTuple ?_ ?_)
   .have lt:∀j∈ord,j<es.size:=λj hj=>cB.mp (p.mem_iff.mp hj)
    have p1:(ord.filterMap λi=>es[i]?).Perm es.toList:=(p.filterMap _).trans (by rw[filterMap_getElem?_range]);have g:(s.heap.push { cls:=.type "tuple",data:=.seq (ord.map λi:Nat=>rawInt i).toArray }).get? s.heap.objs.size=some { cls:=.type "tuple",data:=.seq (ord.map λi:Nat=>rawInt i).toArray }:=aF _ rfl;refine fin _ d' s.heap.objs.size (.ref s.heap.objs.size) (ord.map λi=>((es[i]?).map (·.2)).getD .none) ((ord.filterMap λi=>es[i]?).filterMap DY) (λb ob e=>ah _ e) (by rw[bX];exact cb _) (am _) ?_ ?_ ?_ ((p1.filterMap DY).trans h2)
    .refine .inr (.inr ⟨hb,rfl,by rw[bX];exact aN (dn _),ord,⟨_,ah _ g,rfl,0,rfl⟩,p,rfl⟩)
    .rw[ak,p.length_eq,bS]
    .rw[ya es ord lt]
     exact vX.ints (h1.perm p1)
   .have:ord.length=es.size:=by rw[p.length_eq,bS]
    have hb:scanBound=4096:=rfl;simp only[ak,this];rw[sizeLine_eq];omega
  .refine aa (ai ?_)
   have z':(!t.plain && decide (es.size > 1))=false:=by
    have:¬ (!kg w && (!t.plain && decide (es.size > 1)))=true:=z;rw[hb] at this;simpa using this
   refine fin s.heap s.drawn s.heap.objs.size (.int 0 0) _ _ (λ_ _ e=>e) (am _) (am _) (.inr (.inl ⟨hb,z',?_,rfl,rfl⟩)) ?_ (vX.ints h1) h2
   .cases hp:t.plain with
    | true=>exact h6 hp
    | false =>
     rw[hp] at z';have:t.place.toList.length<=1:=by rw[aT,hz];simpa using z'
     match t.place.toList,this with
     | [],_=>exact .nil
     | [a],_=>exact List.pairwise_singleton _ _
     | _::_::_,h=>exact absurd h (!4)
   .rw[ak,aT]
theorem Aj (x:E6 w a it pl o es ep t out i s.heap)(q:Q (.ref it) s):az (model prog w) A (pyIter (.ref it)) Q E s:=by
 have ty:=x.type;refine wpAny_pyIter_slot ty uU (wpAny_call_entry uU ty Ai ?_ (D2 _));show az _ _ (ret (.ref it)) _ _ s;exact ai ⟨_,rfl, "set_iterator",_,ty,kh.lookup,q⟩
theorem D3 (out:List ag)(hh:A.handled=none)(F:Ag w o es ep t)(j9:a≠it) :
  Walks prog w A it [it,a,pl] [it] out.length (λi v=>out[i]? = some v) (E6 w a it pl o es ep t out) where
 sub:=λb hb=>by simp at hb;simp[hb]
 frame:=λ_ _ _ st k=>st.frame k
 item:=λi s Q E hi st hQ=>by
  have e:out[i]? = some out[i]:=by simp[hi]
  exact Ah F st j9 e λh' eM sb=>hQ _ h' s.toks e eM λb ob hb e=>sb.extBut b ob (λh=>hb (by simp[h])) e
 done:=λs Q E st hQ=>rO hh F st λh' ex=>hQ h' s.toks λb ob hb e=>ex b ob (λh=>hb (by simp[h])) e
 self:=λ_ _ _ _ st hQ=>Aj st hQ
end
open PyProof.Rows
section
theorem Gf (x:i8 w d ns s.heap)(h:∀b,Q b s):az (model prog w) A (Builtin.List.listLengthHint (.ref d)) Q E s:=by
 have ty:=x.type;unfold Builtin.List.listLengthHint;refine aa (wpAny_specialOf ty F.slot_set_len.lookup ?_);generalize hj:("set.__len__" : String)=j0
 wp_delta
 rw[show splitId j0=some ("set", "__len__") from by subst hj;decide +kernel];subst hj;refine aa (wpAny_isInstance (T := "set") (b:=true) ty (by rw[isSubtype_type];kernel_rfl) ?_);refine wpAny_ite_split (λz=>absurd z (!2)) (λ_=>?_);refine wpAny_ite_split (λ_=>?_) (λz=>absurd (!3) z);exact aa (wpAny_typeOf ty (ai (h _)))
theorem Ak (hh:A.handled=none)(x:i8 w d ns s.heap)(e8:ns.length<=ax)(S:Addr)(res:ag)(c₀:Nat)(hS:s.heap.get? S=some { cls:=.type "list",data:=.seq #[] c₀ })
  (hR:∀h' tk d' nh c' ms,(∀b o,b≠S->s.heap.get? b=some o->h'.get? b=some o)->h'.get? S=some { cls:=.type "list",dict:=none,data:=.seq nh c',slots:=#[] }->IntsAre nh.toList ms->ms.Perm ns ->
   R (.ok (.ret res)) { s with heap:=h',toks:=tk,drawn:=d' }) :
  az (model prog w) A.in1 (Builtin.List.listExtendWith (.ref S) (.ref d) res)
   (λfin s'=>match fin with | .done f=>R (.ok f) s' | .again c'=>c'.quiet=true/\codeAny (model prog w) A c' R s') (λe s'=>R (.error e) s') s:=by
 have ty:=x.type;have xT:d<s.heap.objs.size:=by obtain⟨o,es,ep,t,e,_⟩:=id x;exact aA e
 have SR:S<s.heap.objs.size:=aA hS
 have O6:S≠d:=λz=>by
  obtain⟨o,e,c⟩:=ty;rw[<- z,hS] at e;cases e;exact absurd (show ag.type "list" = ag.type "set" from c) (!2)
 unfold Builtin.List.listExtendWith;refine aa (wpAny_typeOf ty ?_);have n1:Builtin.List.listSameRef (.ref S) (.ref d)=false:=by simp[Builtin.List.listSameRef,O6]
 have n2:(ag.type "set" == ag.type "list")=false:=by decide
 have n3:(ag.type "set" == ag.type "tuple")=false:=by decide
 simp only[n1,n2,n3,Bool.or_false,bT,if_false];refine aa (yb x λh1 d1 it pl o es ep t out ms Fx st oE Nv mT ia pm=>?_);have j9:d≠it:=aN (aL xT Nv);have SS:S≠it:=aN (aL SR Nv);have Yb:S≠pl:=aN (aL SR mT)
 have NB:S ∉ [it,d,pl]:=λz=>by
  rcases au.mp z with z | z
  .exact SS z
  .rcases au.mp z with z | z
   .exact O6 z
   .exact Yb (aw.mp z)
 have W:=(D3 (prog:=prog) (w:=w) (A:=A.in1) (a:=d) (it:=it) (pl:=pl) out hh Fx j9).toS;have ol:out.length=ns.length:=by rw[<- pm.length_eq];exact IntsAre.length ia
 have run:∀(h:Heap) (c₁ tk:Nat),E6 w d it pl o es ep t out 0 h->(∀b o,b≠S->s.heap.get? b=some o->h.get? b=some o) ->
   h.get? S=some { cls:=.type "list",data:=.seq #[] c₁ }->codeAny (model prog w) A (.builtin "list.extend.loop" ⟨[.ref S,.ref it,res],[]⟩) R { s with heap:=h,toks:=tk,drawn:=d1 }:=by
  intro h c₁ tk Yc hk lj;refine codeAny_extend_loopS W (!1) S NB res out.length 0 _ #[] c₁ rfl (bL _) Yc lj (ItemsOf.nil _) λs' nh c' mv Uz DN=>?_;have jv:=Moved.eq_with mv
  have Q1:nh.toList=out:=by
   refine List.ext_getElem? λj=>?_;rw[a9];rcases cH j nh.size with hj | hj
   .have e:nh[j]? = some nh[j]:=by simp[hj]
    rw[e,DN.2 j _ e]
   .rw[cI hj,bq (by have:=DN.1;omega)]
  rw[jv];refine hR s'.heap s'.toks d1 nh c' ms (λb o hb e=>mv.heap b o (λz=>?_) (hk b o hb e)) Uz (by rw[Q1];exact ia) pm;rcases au.mp z with z | z
  .exact hb z
  .have:b=it:=by simpa using z
   exact absurd (aL (aA e) Nv) (by rw[this];exact bt _)
 have lj:=oE S _ hS;refine aa (wpAny_holding (Gf (s:={ s with heap:=h1,drawn:=d1 }) (x.keep λo e=>oE _ o e) λb=>?_));refine wpAny_ite_split (λ_=>?_) (λ_=>ai ⟨plainId_quiet F.plain_extend_loop _,run h1 c₀ s.toks st (λb o _ e=>oE b o e) lj⟩);refine aa (wpAny_rule (aa ?_));show az _ _ (updateSeq S (·.push .none) >>= λ_=>updateSeq S (·.pop)) _ _ { s with heap:=h1,drawn:=d1 };refine aa (wpAny_updateSeq lj rfl ?_);have xU:=aS (Obj.mapSeq (·.push ag.none)) lj rfl;refine wpAny_updateSeq (hz:=by seq_fits) xU rfl ?_;have F':=aS (Obj.mapSeq (·.pop)) xU rfl
 have uO:∀b o,b≠S->h1.get? b=some o->((h1.update S (Obj.mapSeq (·.push ag.none))).update S (Obj.mapSeq (·.pop))).get? b=some o:=λb o hb e =>
  (aH _ _ (Ne.symm hb)).trans ((aH _ _ (Ne.symm hb)).trans e)
 refine ai ⟨plainId_quiet F.plain_extend_loop _,run _ _ s.toks (st.frame λb hb o e=>uO _ o (λz=>NB (z ▸ hb)) e) (λb o hb e=>uO b o hb (oE b o e)) F'⟩
theorem yd (hh:A.handled=none)(x:i8 w d ns s.heap)(e8:ns.length<=ax)
  (hQ:∀h' tk d' acc ms,(∀b o,s.heap.get? b=some o->h'.get? b=some o)->IntsAre acc ms->ms.Perm ns->Q acc { s with heap:=h',toks:=tk,drawn:=d' }):az (model prog w) A (collect (.ref d)) Q E s:=by
 unfold collect;refine aa (wpAny_runValue (codeAny_builtin F.entry_proto_collect ?_));rw[Around.under_plainId F.plain_proto_collect _];show az _ A.in1 (newList [] >>= λl=>again (.builtin "list.__iadd__" ⟨[l,.ref d],[]⟩)) _ _ s;refine aa (be (ai ⟨plainId_quiet F.plain_list_iadd _,codeAny_builtin F.entry_list_iadd ?_⟩));rw[Around.under_plainId F.plain_list_iadd _];show az _ A.in1 (Builtin.List.listExtendWith (.ref s.heap.objs.size) (.ref d) (.ref s.heap.objs.size)) _ _ _;have hS:(s.heap.push { cls:=.type "list",data:=.seq ([]:List ag).toArray }).get? s.heap.objs.size=some { cls:=.type "list",data:=.seq #[] 0 }:=aF _ rfl;have k0:∀b o,s.heap.get? b=some o->(s.heap.push { cls:=.type "list",data:=.seq ([]:List ag).toArray }).get? b=some o:=λb o e=>ah _ e;generalize s.heap.push { cls:=.type "list",data:=.seq ([]:List ag).toArray }=h0 at hS k0 ⊢
 have xH:∀(h':Heap) (tk:Nat) (d':Drawn) (acc:Array ag) (c':Nat) (ms:List Int),(∀b o,b≠s.heap.objs.size->h0.get? b=some o->h'.get? b=some o) ->
   h'.get? s.heap.objs.size=some { cls:=.type "list",dict:=none,data:=.seq acc c',slots:=#[] }->IntsAre acc.toList ms->ms.Perm ns ->
   az (model prog w) A (match ag.ref s.heap.objs.size with
   | ag.ref a=>do
    match (<- load a).data with
     | Data.seq xs _=>pure xs.toList
     | _=>unsupported "internal:collect"
   | _=>unsupported "internal:collect") Q E { s with heap:=h',toks:=tk,drawn:=d' }:=λh' tk d' acc c' ms kp e hi pm=>by
  show az _ A (load s.heap.objs.size >>= _) _ _ _;refine aa (wpAny_load e ?_);exact ai (hQ h' tk d' acc.toList ms (λb o hb=>kp b o (aN (aA hb)) (k0 b o hb)) hi pm)
 refine bF (Ak (A:=A) (R:=λr' s'=>r'=.ok (.ret (.ref s.heap.objs.size))/\∃h' tk d' acc c' ms,s'={ s with heap:=h',toks:=tk,drawn:=d' }/\(∀b o,b≠s.heap.objs.size->h0.get? b=some o->h'.get? b=some o) /\
   h'.get? s.heap.objs.size=some { cls:=.type "list",dict:=none,data:=.seq acc c',slots:=#[] }/\IntsAre acc.toList ms/\ms.Perm ns)
  (s:={ s with heap:=h0 }) hh (x.keep λo e=>k0 _ o e) e8 s.heap.objs.size (.ref s.heap.objs.size) 0 hS λh' tk d' acc c' ms kp e hi pm=>⟨rfl,h',tk,d',acc,c',ms,rfl,kp,e,hi,pm⟩) (λfin s' h=>?_) (λe s' h=>?_)
 .cases fin with
  | done f =>
   obtain⟨e,h',tk,d',acc,c',ms,rfl,kp,q,hi,pm⟩:=h;cases e;exact xH h' tk d' acc c' ms kp q hi pm
  | again c'=>exact⟨h.1,codeAny_mono h.2 λr KR hr=>by obtain⟨rfl,h',tk,d',acc,c',ms,rfl,kp,q,hi,pm⟩:=hr;exact xH h' tk d' acc c' ms kp q hi pm⟩
 .exact absurd h.1 (!4)
end
end PySem
namespace L2
open PySem PySem.Spec PyProof.Rows
section
variable {X:Cx}
theorem Ct {z:Heap}{n:Nat}{ob:Obj}(h:z.objs.size=n)(hf:ob.isFreed=false):(z.push ob).get? n=some ob:=h ▸ aF _ hf
theorem Inv.drawn (I:Inv X pins σ H s)(d:Drawn):Inv X pins σ H { s with drawn:=d } :=
 { ok:=I.ok,os:=I.os,bare:=I.bare,base:=I.base,loc:=I.loc,cell:=I.cell,free:=I.free,freeC:=I.freeC,pin:=I.pin,hok:=I.hok,len:=I.len }
theorem vZ (w:World)(hc:X.calm=true)(hw:X.w=w:=by rfl):gF X (.builtin "sorted") (λxs H Q=>∃(p:Addr) (ns:List Int),xs=[.ref p]/\H p=some (.ext (i8 w p ns))/\ns.length<64 /\
  ∀(l:Addr) (ms:List Int),ms.Perm ns->ms.Pairwise (·<=·)->H l=none->Q (.ref l) (eZ H l (.lst (ms.map V.int)))):=by
 subst hw;intro pins s σ H xs us Q I r h;obtain⟨p,ns,rfl,hp,HX,q⟩:=h;obtain⟨u,rfl,ru⟩:=vals1 r;cases ru;obtain⟨x,_,_⟩:=I.hok p _ hp;refine Calls.call_function_entry kind_sorted plain_sorted entry_sorted (args_sorted1 _) ?_;unfold Builtin.«sorted»;refine aa (m:=checkCount "sorted" 1 1 _) (ai ?_);refine aa (yd (A:=X.A.in1) (I.ok.hd hc) x (by rw[show ax=16777216 by decide];omega) λh1 tk d1 acc ms UQ hI Q5=>?_)
 have Q1:acc.length<64:=by
  rw[IntsAre.length hI,Q5.length_eq];exact HX
 refine aa (wpAny_newList ?_);have E2:(h1.push (seqObj "list" acc.toArray 0)).get? h1.objs.size=some (seqObj "list" acc.toArray 0):=aF _ rfl;show az _ _ _ _ _ { s with heap:=h1.push (seqObj "list" acc.toArray 0),toks:=tk,drawn:=d1 };refine aa (wpAny_holding (wpAny_call_entry slot_list_sort ⟨_,E2,rfl⟩ entry_list_sort (list_sort_tree E2 hI Q1 λout SV a1 a2 a3=>⟨_,rfl,?_⟩) (args_list_sort _)));refine ai ⟨_,rfl,?_⟩;have hm:=a2.length_eq;have E7:=Q5.length_eq;have hv:eh (SV.map V.int) out.toList:=eh.qE a1;have hsz:(SV.map V.int).length<=ax:=by rw[ak,show ax=16777216 by decide];omega
 have I1:Inv X pins σ H { s with heap:=h1,toks:=tk,drawn:=d1 }:=(I.kept (t':=tk) UQ).drawn d1
 have NC:∀b ob,h1.get? b=some ob->(sortedHeap (h1.push (seqObj "list" acc.toArray 0)) h1.objs.size acc out).get? b=some ob:=by
  intro b ob e;have hb:h1.objs.size≠b:=cj (aA e);unfold sortedHeap;rw[aH _ _ hb];refine ah _ (ah _ ?_);rw[aH _ _ hb];exact ah _ e
 have nw:∃n,(sortedHeap (h1.push (seqObj "list" acc.toArray 0)) h1.objs.size acc out).get? h1.objs.size=some { cls:=.type "list",data:=.seq out n }:=by
  have g2:=aS (Obj.mapSeq λ_=>(#[]:Array ag)) E2 rfl;have g3:=ah (seqObj "list" #[] 0) (ah (seqObj "tuple" acc.toArray 0) g2);have g4:=aS (Obj.mapSeq λ_=>out) g3 rfl;exact⟨_,g4⟩
 obtain⟨n,nw⟩:=nw;exact⟨.ref h1.objs.size,_,I1.laid (t':=tk) (o:=.lst (SV.map V.int)) NC (am _) ⟨hsz,out.toList,n,hv,by simpa using nw⟩,rfl,q _ SV (a2.trans Q5) a3 (I1.hok.fresh (am _))⟩
theorem D4 (K:W.Frag)(w:World)(hc:X.calm=true)(hk:X.K=K:=by rfl)(hw:X.w=w:=by rfl):gF X (.type "set") (λxs H Q=>∃(p:Addr) (ns:List Int),xs=[.ref p]/\(gK K H p (ns.map V.int)\/ja K H p (ns.map V.int))/\ns.length<4000 /\
  ∀(l:Addr) (ms:List Int),ms.Nodup->(∀k,k∈ms↔k∈ns)->ms.length<=ns.length->H l=none->Q (.ref l) (eZ H l (.ext (i8 w l ms)))):=by
 subst hk hw;intro pins s σ H xs us Q I r h;obtain⟨p,ns,rfl,hp,iQ,q⟩:=h;obtain⟨u,rfl,ru⟩:=vals1 r;cases ru
 have mem:∀(n:Nat) (k:Int),n=ns.length->(k∈iC (λi=>ns.getD i 0) n↔k∈ns):=by
  intro n k e;subst e;rw[uQ,List.mem_iff_getElem];constructor
  .rintro⟨j,hj,e⟩
   exact⟨j,hj,by rw[<- e];simp[hj]⟩
  .rintro⟨j,hj,e⟩
   exact⟨j,hj,by rw[<- e];simp[hj]⟩
 have fin:∀(n:Nat) (h':Heap) (tk:Nat),n=ns.length->i8 X.w s.heap.objs.size (iC (λi=>ns.getD i 0) n) h'->(∀b o,s.heap.get? b=some o->h'.get? b=some o)->EP X pins σ Q (.ref s.heap.objs.size) { s with heap:=h',toks:=tk }:=by
  intro n h' tk e x kp;have ol:=pC (λi=>ns.getD i 0) n;refine⟨.ref s.heap.objs.size,_,I.laid (t':=tk) (o:=.ext (i8 X.w s.heap.objs.size (iC (λi=>ns.getD i 0) n))) kp (am _) ⟨x,?_,λh1 h2 x k=>x.keep k⟩,rfl,q _ _ (xX _ _) (λk=>mem n k e) (!1) (I.hok.fresh (am _))⟩;obtain⟨o,_,_,_,e,_⟩:=x;exact⟨o,e⟩
 have O7:∀B:Around,B.handled=none->B.in1.in1.in1.handled=none:=λB h=>by simp[h]
 rcases hp with hp | hp
 .obtain⟨its,rv,pl,hz⟩:=I.list hp
  obtain⟨o,ho,Gg,n,hd⟩:=pl.isList;obtain⟨oc,Yd,Ye,zP⟩:=o;simp only at Gg hd;subst Gg hd;have hl:=rv.length;rw[ak] at hl;have mT:p<s.heap.objs.size:=aA ho
  exact uR (s:=s) (ns:=ns) ho PySem.F.sub_list_set PySem.F.sub_list_frozenset (!2) (by simpa using IntsAre.oy rv) (by rw[show scanBound=4096 from rfl,aD];omega)
   (λ{A' E' Q' z} e h=>wpAny_pyIter_list ⟨_,e,rfl,_,rfl⟩ h) (Walks.list (O7 _ (I.ok.hd hc)) _ p (aN (cv mT)) its.toArray)
   (λz hz e=>⟨⟨_,Ct hz rfl,rfl,rfl⟩,⟨_,ah _ e,rfl,_,rfl⟩⟩) λh' tk x kp=>fin _ h' tk (by rw[aD];omega) x kp
 .obtain⟨its,rv,pl,hz⟩:=I.tuple hp
  obtain⟨o,ho,Gg,n,hd⟩:=pl;obtain⟨oc,Yd,Ye,zP⟩:=o;simp only at Gg hd;subst Gg hd;have hl:=rv.length;rw[ak] at hl;have mT:p<s.heap.objs.size:=aA ho
  exact uR (s:=s) (ns:=ns) ho PySem.F.sub_tuple_set PySem.F.sub_tuple_frozenset (!2) (by simpa using IntsAre.oy rv) (by rw[show scanBound=4096 from rfl,aD];omega)
   (λ{A' E' Q' z} e h=>wpAny_pyIter_tuple ⟨_,e,rfl,_,rfl⟩ h) (Walks.tuple (O7 _ (I.ok.hd hc)) _ p (aN (cv mT)) its.toArray)
   (λz hz e=>⟨⟨_,Ct hz rfl,rfl,rfl⟩,⟨_,ah _ e,rfl,_,rfl⟩⟩) λh' tk x kp=>fin _ h' tk (by rw[aD];omega) x kp
end
noncomputable def Q6 (K:W.Frag)(a:Addr):It :=
 ⟨λi H=>∃xs x,gK K H a xs/\xs[i]? = some x,λi H x H'=>∃T xi,x=.ref T/\H T=none/\H'=eZ H T (.tup [.int (i:Nat),xi])/\∀xs,gK K H a xs->xs[i]? = some xi,λi H=>∃xs,gK K H a xs/\xs.length<=i⟩
theorem Al {P:aP}{w:World}{K:W.Frag}{xV:List Expr}{k:Nat}{pos:Pos}(a e it:Addr)(j9:e≠it):zG P w K (.Tuple xV k pos) (Q6 K a) [e,it] e (λi h=>(∃old,IsEnum h e it (i:Nat) old)/\h.IsListIter it a i) where
 mem:=by simp
 obj:=λi h st b hb=>by
  obtain⟨⟨old,he⟩,o,ho,hc,hd⟩:=st;rcases au.mp hb with z | z
  .subst z
   exact⟨_,he,λv z=>by cases z⟩
  .have z':b=it:=by simpa using z
   subst z';exact⟨o,ho,λv z=>by rw[hd] at z;cases z⟩
 keep:=λi h h' st kp=>by
  obtain⟨⟨old,he⟩,hi⟩:=st;exact⟨⟨old,kp e (!4) _ he⟩,hi.at λo q=>kp it (!4) o q⟩
 item:=by
  intro X hP hw hK hc i pins s σ H E I hf st hg;subst hP hw hK;obtain⟨⟨old,he⟩,hi⟩:=st;obtain⟨xs,x,hq,hx⟩:=hg;obtain⟨its,rv,p,hz⟩:=I.list hq;obtain⟨u,hu,ru⟩:=rv.get hx;refine wpAny_pyNext_enum_item he hi p.isList (x:=u) (by simpa using hu) j9 λh1 eo i1 t1 _ kp=>⟨_,rfl,wpAny_letOwnedTupleGo_enum eo λh2 en sb=>?_⟩;have pb:e<s.heap.objs.size:=aA he;have UB:it<s.heap.objs.size:=by obtain⟨_,q,_⟩:=hi;exact aA q
  have NC:∀b o,b≠e->b≠it->s.heap.get? b=some o->h2.get? b=some o:=λb o n1 n2 q=>(sb.2 b n1).trans (kp b o n1 n2 q);have i2:h2.IsListIter it a (i+1):=i1.at λo q=>(sb.2 it (Ne.symm j9)).trans q;have t2:h2.get? s.heap.objs.size=some { cls:=.type "tuple",data:=.seq #[.int i s.toks,u] }:=(sb.2 _ (cj pb)).trans t1;obtain⟨f0,f1,f2,f3,f4,f5⟩:=hf it (!4);obtain⟨g0,g1,g2,g3,g4,g5⟩:=hf e (!4);obtain⟨oi,UC,XW,UD⟩:=id i2;obtain⟨o0,UE,_⟩:=id hi;have m1:(s.heap.update it λ_=>oi).get? it=some oi:=aS (λ_=>oi) UE (Obj.isFreed_of_fields UD);have I1:Inv X pins σ H { s with heap:=s.heap.update it λ_=>oi,toks:=s.toks+1 }:=I.turned (λb o hb q=>(aH _ _ (Ne.symm hb)).trans q) f0 f1 f3 f4 f5
  have UH:∀b o,b≠e->(s.heap.update it λ_=>oi).get? b=some o->h2.get? b=some o:=λb o hb q=>by
   by_cases Lb:b=it
   .subst Lb
    rw[m1] at q;cases q;exact UC
   .exact NC b o hb Lb ((aH _ _ (Ne.symm Lb)).symm.trans q)
  have I2:Inv X pins σ H { s with heap:=h2,toks:=s.toks+1 }:=Inv.turned (s:={ s with heap:=s.heap.update it λ_=>oi,toks:=s.toks+1 }) (h':=h2) (t':=s.toks+1) I1 UH g0 g1 g3 g4 g5;obtain⟨p0,p1,p2,p3,p4,p5⟩:=I.qX (am s.heap.objs.size) (I.hok.fresh (am _))
  have I3:Inv X pins σ (eZ H s.heap.objs.size (.tup [.int (i:Nat),x])) { s with heap:=h2,toks:=s.toks+1 } :=
   I2.Ce (o:=.tup [.int (i:Nat),x]) t2 p0 p1 p3 p4 p5 ⟨by show 2<=ax;decide,[.int i s.toks,u],.cons ⟨_,rfl⟩ (.cons ru .nil),⟨_,t2,rfl,_,rfl,rfl⟩⟩
  refine⟨.ref s.heap.objs.size,_,I3,rfl,⟨_,x,rfl,p0,rfl,λys hy=>by rw[I.xv hy hq];exact hx⟩,⟨⟨u,by simpa using en⟩,i2⟩,λb hb=>?_⟩
  have UK:b≠s.heap.objs.size:=by
   rcases au.mp hb with z | z
   .rw[z];exact aN pb
   .have z':b=it:=by simpa using z
    rw[z'];exact aN UB
  rw[dY UK];exact (hf b hb).1
 done:=by
  intro X hP hw hK hc i pins s σ H E I hf st hg;subst hP hw hK;obtain⟨⟨old,he⟩,hi⟩:=st;obtain⟨xs,hq,hx⟩:=hg;obtain⟨its,rv,p,hz⟩:=I.list hq;obtain⟨f0,f1,f2,f3,f4,f5⟩:=hf it (!4);have hl:=rv.length;exact wpAny_pyNext_enum_end (I.ok.hd hc) he hi p.isList (by simp;omega) λh' eb=>⟨rfl,I.turned (t':=s.toks) (λb o hb q=>eb b o hb q) f0 f1 f3 f4 f5⟩
 self:=λ_ _ _ _ _ st h=>by
  obtain⟨⟨old,he⟩,_⟩:=st;exact wpAny_pyIter_enum he h
section
variable {X:Cx}{xV:List Expr}{k:Nat}{Js:Pos}
noncomputable def Gh (K:W.Frag)(te:TE):TE:=λσ H Q=>te σ H λx H1=>∃(p:Addr) (ns:List Int),x=.ref p/\(gK K H1 p (ns.map V.int)\/ja K H1 p (ns.map V.int))/\ns.length<64 /\
 ∀(l:Addr) (ms:List Int) (H2:Hp),Ext [] H1 H2->H1 l=none->H2 l=some (.lst (ms.map V.int))->ms.Pairwise (· < ·)->(∀k,k∈ms↔k∈ns)->ms.length<=ns.length->Q (.ref l) H2
noncomputable def Q7 (te:TE):TE:=λσ H Q=>∃D:VK,te σ H D/\∀x H1,D x H1->Q x H1
theorem QE.mono (he:QE X e te):QE X e (Q7 te):=⟨λpins s σ H Q I ⟨D,h,k⟩=>fM (he.run pins s σ H D I h) λv s1 ⟨x,H1,I1,r1,q1⟩=>⟨x,H1,I1,r1,k x H1 q1⟩⟩
theorem lM {l:List Int}(h:l.Pairwise (·<=·))(d:l.Nodup):l.Pairwise (· < ·):=by
 have:=h.and d;exact this.imp λ{a b} ⟨h1,h2⟩=>by omega
theorem v3 (K:W.Frag){e:Expr}{te:TE}{p1 p2 q1 q2:Pos}(hc:X.calm=true)(g1:Gl X "sorted")(m1:X.mg "sorted" = none)(g2:Gl X "set")(m2:X.mg "set" = none)(he:QE X e te)(hk:X.K=K:=by rfl)(hs:e9 e=true:=by rfl) :
  QE X (.Call (.Name "sorted" p1) [.Call (.Name "set" p2) [e] [] q2] [] q1) (Gh K te):=by
 have Q8:=g7 (p:=p2) (pos:=q2) (D4 K X.w hc hk rfl) g2 m2 (!3) (gB he.mono eY hs);have outer:=fO (p:=p1) (pos:=q1) (vZ X.w hc rfl) g1 m1 (!3) (gB Q8 eY);refine outer.weaken λσ H Q h=>?_;refine⟨_,h,λx H1 ⟨p,ns,e1,e2,e3,q⟩=>⟨p,ns,by rw[e1],e2,!1,λl ms nd mm ml hl=>⟨l,ms,rfl,dP,!1,λl2 Yf pm ps h2=>?_⟩⟩⟩;refine q l2 Yf _ (Ext.trans (.new hl) (.new h2)) ?_ dP (lM ps (pm.nodup_iff.mpr nd)) (λk=>(pm.mem_iff).trans (mm k)) (by rw[pm.length_eq];exact ml)
 cases z:H1 l2 with
 | none=>rfl
 | some o=>exact absurd h2 (by rw[(Ext.new (S:=[]) hl).keep l2 o (!4) z];simp)
end
theorem fH:∀{ms ns:List Int},ms.Nodup->(∀k∈ms,k∈ns)->ms.length<=ns.length
 | [],_,_,_=>bL _
 | m::ms,ns,nd,h=>by
  have hm:=h m (ar ..);obtain⟨n1,n2⟩:=bN.mp nd;have ih:=fH (ms:=ms) (ns:=ns.erase m) n2 λk hk=>(List.mem_erase_of_ne (λ(z:k=m)=>n1 (z ▸ hk))).mpr (h k (ao _ hk));rw[List.length_erase_of_mem hm] at ih;have:=List.length_pos_of_mem hm;simp only[ap];omega
end L2
namespace L2
open PySem
mutual
theorem eE.more {S:List Addr}{H:Hp}{p:Addr}(hp:H p=none):∀{d:ad} {v:V},eE S H d v->eE (p::S) H d v
 | .none,_,h=>h
 | .bool _,_,h=>h
 | .int _,_,h=>h
 | .str _,_,h=>h
 | .tuple ds,_,h=>by
  unfold eE at h ⊢;obtain⟨a,xs,e,ha,hr⟩:=h;exact⟨a,xs,e,ha,dS.more hp hr⟩
 | .list ds,_,h=>by
  unfold eE at h ⊢;obtain⟨a,xs,e,ha,hs,hr⟩:=h;refine⟨a,xs,e,ha,λz=>?_,dS.more hp hr⟩;rcases au.mp z with z | z
  .rw[z,hp] at ha;cases ha
  .exact hs z
 | .dict l,_,h=>by
  unfold eE at h ⊢;obtain⟨a,t,kvs,xs,e,el,ha,hs,hk,hr⟩:=h;refine⟨a,t,kvs,xs,e,el,ha,λz=>?_,hk,gn.more hp hr⟩;rcases au.mp z with z | z
  .rw[z,hp] at ha;cases ha
  .exact hs z
theorem dS.more {S:List Addr}{H:Hp}{p:Addr}(hp:H p=none):∀{ds:List ad} {vs:List V},dS S H ds vs->dS (p::S) H ds vs
 | [],_,h=>h
 | d::ds,_,h=>by
  unfold dS at h ⊢;obtain⟨y,r,e,h1,h2⟩:=h;exact⟨y,r,e,eE.more hp h1,dS.more hp h2⟩
theorem gn.more {S:List Addr}{H:Hp}{p:Addr}(hp:H p=none):∀{l:List (ad × ad)} {vs:List V},gn S H l vs->gn (p::S) H l vs
 | [],_,h=>h
 | (_,d)::l,_,h=>by
  unfold gn zY at h ⊢;obtain⟨y,r,e,h1,h2⟩:=h;exact⟨y,r,e,eE.more hp h1,gn.more hp h2⟩
end
end L2
namespace L2
open PySem PySem.Spec PyProof.Rows
structure ExcAt (h:Heap) (x:Addr) (cls:ag) (od tb:Option Addr):Prop where
 obj:∃oe vs,h.get? x=some oe/\oe.cls=cls/\oe.dict=od/\oe.data=.fields vs/\vs[1]? = some (tb.elim ag.none ag.ref)
 hd:∀T,tb=some T->T≠x/\∃oT ts,h.get? T=some oT/\oT.data=.fields ts/\ts[3]? = some .none
structure ye (fs:List Addr) (x:Addr) (tb:Option Addr) (h h':Heap):Prop where
 keep:∀b o,h.get? b=some o->b≠x->tb≠some b->b ∉ fs->h'.get? b=some o
 slot:∀b o,h.get? b=some o->b∈fs->∃sl,h'.get? b=some { o with slots:=sl }
 there:∀b o,h.get? b=some o->∃o',h'.get? b=some o'
section
variable {M:Model}{A:Around}{E:ag->aq->Prop}{s:aq}
theorem pD {h base:Heap}{l:List Env}(hl:h.FunFrames base l){b:Addr}{o:Obj}{vs:Array ag}(ho:h.get? b=some o)(hd:o.data=.fields vs):b ∉ m7 l:=λhm=>by
 obtain⟨_,o',HM,hn⟩:=hl.mem hm;rw[ho] at HM;cases HM;exact hn vs hd
theorem oF {base:Heap}{env:Env}{outer:List Env}{L x:Addr}{oe:Obj}{vs:Array ag}{head:ag}{Q9:Bool}{Q:Unit->aq->Prop}
  (D5:A.frames=some (env::outer)) (hl:s.heap.FunFrames base (env::outer)) (hf:env.frame=some L) (he:s.heap.get? x=some oe) (hd:oe.data=.fields vs) (hsz:1<vs.size)
  (h:∀h' T,s.heap.objs.size<=T->ye (m7 (env::outer)) x none s.heap h'->ExcAt h' x oe.cls oe.dict (some T)->Q () { s with heap:=h' }) :
  az M A (do setField (.ref x) 1 (<- EntryCells.newEntry head (<- frameOf env) .none (rawInt L) .none (<- entryPlaceOf L Q9))) (λ_ s'=>az M A (setFlight (.ref x) none) Q E s') E s:=by
 have WD:x ∉ m7 (env::outer):=pD hl he hd;refine aa (wpAny_frameOf_fun D5 hl hf λg hg=>aa (wpAny_entryPlaceOf λpl mT=>?_));unfold EntryCells.newEntry newFields;refine aa (be ?_ (mT.sizeOk5 _ _ _ _ _));have NG:g.get? x=some oe:=(hg.2.1 x WD).trans he;generalize xC:([head,ag.ref L,.none,rawInt L,.none]++(if pl.isEmpty then List.replicate 6 ag.none else pl)).toArray=Lc
 have h3:3<Lc.size:=by
  rw[<- xC];simp only[aD,aI,ap];omega
 have D6:=ah (h:=g) { cls:=.type "traceback",dict:=none,data:=.fields Lc } NG;have UR:(g.push { cls:=.type "traceback",dict:=none,data:=.fields Lc }).get? g.objs.size=some { cls:=.type "traceback",dict:=none,data:=.fields Lc }:=aF g rfl;have Ld:g.objs.size≠x:=cj (aA NG);refine wpAny_setField D6 hd hsz ?_;have O7:=Obj.data_mapFields hd (·.setIfInBounds 1 (ag.ref g.objs.size));have SW:=aS (Obj.mapFields (·.setIfInBounds 1 (ag.ref g.objs.size))) D6 (Obj.isFreed_of_fields O7);have UU:=(aH (g.push { cls:=.type "traceback",dict:=none,data:=.fields Lc }) (Obj.mapFields (·.setIfInBounds 1 (ag.ref g.objs.size))) Ld.symm).trans UR;have SX:∀b,b≠x->((g.push { cls:=.type "traceback",dict:=none,data:=.fields Lc }).update x (Obj.mapFields (·.setIfInBounds 1 (ag.ref g.objs.size)))).get? b=(g.push { cls:=.type "traceback",dict:=none,data:=.fields Lc }).get? b:=λb hb=>aH _ _ (Ne.symm hb);have v1:(vs.setIfInBounds 1 (ag.ref g.objs.size))[1]? = some (ag.ref g.objs.size):=by simp[hsz]
 have Ra:(Obj.mapFields (·.setIfInBounds 1 (ag.ref g.objs.size)) oe).dict=oe.dict:=by
  unfold Obj.mapFields;split<;>rfl
 generalize (g.push { cls:=.type "traceback",dict:=none,data:=.fields Lc }).update x (Obj.mapFields (·.setIfInBounds 1 (ag.ref g.objs.size)))=g3 at SW UU SX ⊢;unfold setFlight;refine aa (wpAny_field SW O7 (x:=.ref g.objs.size) v1 ?_);rw[if_pos (show (ag.ref g.objs.size != ag.none)=true by simp)];refine wpAny_setField UU rfl h3 ?_
 have p8:s.heap.get? g.objs.size=none:=by
  rw[hg.1];exact Heap.get?_none_of_le (am _)
 refine h _ g.objs.size (dA hg.1.symm) ⟨λb o hb HY _ HZ=>?_,λb o hb HZ=>?_,λb o hb=>?_⟩ ⟨⟨_,_,(aH _ _ Ld).trans SW,Obj.cls_mapFields _ _,Ra,O7,v1⟩,λT eT=>?_⟩
 .have H9:g.objs.size≠b:=λz=>by rw[<- z,p8] at hb;cases hb
  have:g.get? b=some o:=(hg.2.1 b HZ).trans hb;exact (aH _ _ H9).trans ((SX b HY).trans (ah _ this))
 .have H9:g.objs.size≠b:=λz=>by rw[<- z,p8] at hb;cases hb
  have HY:b≠x:=λz=>WD (z ▸ HZ);obtain⟨sl,e⟩:=hg.2.2 b o hb;exact⟨sl,(aH _ _ H9).trans ((SX b HY).trans (ah _ e))⟩
 .have H9:g.objs.size≠b:=λz=>by rw[<- z,p8] at hb;cases hb
  obtain⟨sl,e⟩:=hg.2.2 b o hb;by_cases HY:b=x
  .exact⟨_,(aH _ _ H9).trans (HY ▸ SW)⟩
  .exact⟨_,(aH _ _ H9).trans ((SX b HY).trans (ah _ e))⟩
 .cases eT
  exact⟨Ld,_,_,aS _ UU (Obj.isFreed_of_fields (Obj.data_mapFields rfl _)),Obj.data_mapFields rfl _,by simp[h3]⟩
theorem p9 {base:Heap}{env:Env}{outer:List Env}{L x:Addr}{cls:ag}{od tb:Option Addr}{Q:Unit->aq->Prop}
  (D5:A.frames=some (env::outer)) (hl:s.heap.FunFrames base (env::outer)) (hf:env.frame=some L) (e:ExcAt s.heap x cls od tb)
  (h:∀h' T,s.heap.objs.size<=T->ye (m7 (env::outer)) x tb s.heap h'->ExcAt h' x cls od (some T)->Q () { s with heap:=h' }) :
  az M A (noteFrame (.ref x) env) (λ_ s'=>az M A (setFlight (.ref x) none) Q E s') E s:=by
 obtain⟨⟨oe,vs,he,rfl,rfl,hd,h1⟩,ht⟩:=e;have hsz:1<vs.size:=(df.mp h1).1;unfold noteFrame;simp only[hf];refine aa (wpAny_field he hd h1 ?_)
 cases tb with
 | none =>
  rw[if_neg (show ¬ ((none:Option Addr).elim ag.none ag.ref != ag.none)=true by decide)];exact oF D5 hl hf he hd hsz h
 | some T =>
  obtain⟨Ld,oT,ts,hT,Ia,h3⟩:=ht T rfl;have SY:3<ts.size:=(df.mp h3).1;rw[if_pos (show ((some T:Option Addr).elim ag.none ag.ref != ag.none)=true by simp)];refine aa (wpAny_field hT Ia h3 ?_);rw[if_neg (show ¬ (ag.none == rawInt L)=true by simp[rawInt])];refine aa (wpAny_setField hT Ia SY ?_);have ot:∀b,b≠T->(s.heap.update T (Obj.mapFields (·.setIfInBounds 3 ag.none))).get? b=s.heap.get? b:=λb hb=>aH _ _ (Ne.symm hb);have Rb:=aS (Obj.mapFields (·.setIfInBounds 3 ag.none)) hT (Obj.isFreed_of_fields (Obj.data_mapFields Ia _));have UW:T ∉ m7 (env::outer):=pD hl hT Ia;have Cu:(s.heap.update T (Obj.mapFields (·.setIfInBounds 3 ag.none))).objs.size=s.heap.objs.size:=Heap.size_after_update ..;generalize hg:s.heap.update T (Obj.mapFields (·.setIfInBounds 3 ag.none))=g at ot Rb Cu ⊢;have NA:g.FunFrames base (env::outer):=hl.of_keeps λb o hb hn=>⟨o,(ot b λz=>by rw[z,hT] at hb;cases hb;exact hn ts Ia).trans hb,rfl⟩;refine oF (s:={ s with heap:=g }) D5 NA hf ((ot x Ld.symm).trans he) hd hsz λh' T' hn nt ea=>h h' T' (Cu ▸ hn) ⟨λb o hb HY H9 HZ=>?_,λb o hb HZ=>?_,λb o hb=>?_⟩ ea
  .have:b≠T:=λz=>H9 (by rw[z])
   exact nt.keep b o ((ot b this).trans hb) HY (!4) HZ
  .have:b≠T:=λz=>UW (z ▸ HZ)
   exact nt.slot b o ((ot b this).trans hb) HZ
  .by_cases z:b=T
   .subst z
    exact nt.there b _ Rb
   .exact nt.there b o ((ot b z).trans hb)
end
noncomputable def ki (x:Addr)(cls:ag)(od:Option Addr):Heap->Prop:=λh=>∃oe vs,h.get? x=some oe/\oe.cls=cls/\oe.dict=od/\oe.data=.fields vs
theorem ExcAt.UY (e:ExcAt h x cls od tb):ki x cls od h:=let ⟨oe,vs,a,b,c,d,_⟩:=e.obj;⟨oe,vs,a,b,c,d⟩
theorem Cv (r:ki x cls od h):fy P w H h x (.ext (ki x cls od)):=by
 refine⟨r,let ⟨oe,_,e,_⟩:=r;⟨oe,e⟩,λh1 h2 ⟨oe,vs,e,r⟩ k=>⟨oe,vs,k _ e,r⟩⟩
noncomputable def Le (P:aP)(w:World):E3:=λouter H s E e s'=>∃(x:Addr) (cls:ag) (od:Option Addr) (T:Addr) (H':Hp),e=.ref x/\s'.os=s.os/\AllBare s'.gens/\Un (m7 outer) [] H H' s.heap s'.heap/\j7 P w H' s'.heap /\
 H' x=some (.ext (ki x cls od))/\H' T=none/\s.heap.objs.size<=x/\s.heap.objs.size<=T/\ExcAt s'.heap x cls od (some T)/\E cls od H'
noncomputable def XP (X:Cx)(pins:List (Addr × Obj))(σ:St)(E:XK)(e:ag)(s':aq):Prop:=∃(x:Addr) (cls:ag) (od tb:Option Addr) (H':Hp),e=.ref x/\Inv X pins σ H' s'/\H' x=some (.ext (ki x cls od))/\X.s₀.heap.objs.size<=x/\(∀p∈X.pn++pins,p.1≠x) /\
 (∀T,tb=some T->H' T=none/\X.s₀.heap.objs.size<=T/\∀p∈X.pn++pins,p.1≠T)/\ExcAt s'.heap x cls od tb/\E cls od H'
noncomputable def lO (X:Cx)(E:XK):Prop:=∀(pins:List (Addr × Obj)) (σ:St) (e:ag) (s':aq),XP X pins σ E e s'->X.xe e s'
section
theorem Lf (I:Inv X pins σ H s)(h:Le X.prog X.w X.stack H s E e s'):XP X pins σ E e s':=by
 obtain⟨x,cls,od,T,H',rfl,os,bare,un,hok,nx,nT,sx,sT,ea,q⟩:=h;have sz:=I.sz;have lt:∀p∈X.pn++pins,p.1<s.heap.objs.size:=λp hp=>aA (I.pin p hp).1;refine⟨x,cls,od,some T,H',rfl,I.Kv os un hok bare (λb z=>absurd z (!4)),nx,aU sz sx,λp hp z=>absurd (z ▸ lt p hp) (dD.mpr sx),λT' eT=>?_,ea,q⟩;cases eT;exact⟨nT,aU sz sT,λp hp z=>absurd (z ▸ lt p hp) (dD.mpr sT)⟩
theorem Jt (hf:env.frame=some L)(h:b∈m7 (env::outer)):b=L\/b∈m7 outer:=by
 unfold m7 at *;rw[bZ,hf] at h;exact au.mp h
theorem Ju (h:b∈m7 outer):b∈m7 (env::outer):=by
 unfold m7 at *;rw[bZ];split
 .exact h
 .exact ao _ h
theorem j7.yf {P:aP}{w:World}{h h':Heap}{fs:List Addr}{x:Addr}{cls:ag}{od tb:Option Addr}(ok:j7 P w H h)(nt:ye fs x tb h h')(nx:H x=some (.ext (ki x cls od)))(fl:ki x cls od h')(nT:∀T,tb=some T->H T=none)(nf:∀b∈fs,H b=none):j7 P w H h':=λa o e=>by
 have key:∀b (u:HO),b≠x->H b=some u->∀v,h.get? b=some v->h'.get? b=some v:=λb u HY hb v hv =>
  nt.keep b v hv HY (λz=>by rw[nT b z] at hb;cases hb) λz=>by rw[nf b z] at hb;cases hb
 by_cases WE:a=x
 .subst WE
  rw[nx] at e;cases e;exact Cv fl
 .refine (ok a o e).xt (λb v hb q=>?_) (λb q=>q) λb xs q=>q
  rcases hb with rfl | hb
  .exact key b o WE e v q
  .exact key b _ (λz=>by rw[z,nx] at hb;cases hb) hb v q
end
theorem D7 {P:aP}{w:World}{K:W.Frag}{mg:Str->Option ag}{base:Heap}{N:List Str}{fu:Str}{scope:Scope}{f:Addr}{cd:ag}{A:Around}{outer:List Env}{s:aq}{H:Hp}{E:XK} :
  lO (kG (Le P w) P w K mg base N fu scope f cd A outer s H E) E:=by
 rintro pins σ e s' ⟨x,cls,od,tb,H',rfl,I,nx,sx,px,hT,ea,q⟩;have frames:=I.ok.frames;have stack:=I.stack;have free:=I.qy;show az _ _ (leaving _ _) _ _ _;unfold leaving;have bs:Un (m7 outer) [] H H' s.heap s'.heap:=I.base;have above:s.heap.objs.size<=s.heap.objs.size:=am _;refine aa (p9 frames stack rfl ea λh' T' hn nt WG=>⟨x,cls,od,T',H',rfl,I.os,I.bare,?_,I.hok.yf nt nx WG.UY (λT e=>(hT T e).1) free,nx,?_,sx,?_,WG,q⟩)
 .have out:∀b (o:Obj),s.heap.get? b=some o->b≠x/\tb≠some b/\b≠s.heap.objs.size:=λb o hb=>by
   have lt:=aA hb;exact⟨λz=>absurd (z ▸ lt) (dD.mpr sx),λz=>absurd lt (dD.mpr (hT b z).2.1),λz=>absurd (z ▸ lt) (bt _)⟩
  refine⟨λb o hb n hf hx=>?_,λb o hb n hf hx=>?_,bs.free,λb o hb hx=>?_,bs.tF,bs.qS,bs.tG⟩
  .obtain⟨o1,o2,o3⟩:=out b o hb
   exact nt.keep b o (bs.keep b o hb n hf hx) o1 o2 λz=>(Jt rfl z).elim o3 hf
  .obtain⟨sl,e1⟩:=bs.slot b o hb n hf hx
   obtain⟨TJ,e2⟩:=nt.slot b _ e1 (Ju hf);exact⟨TJ,e2⟩
  .obtain⟨o',e1⟩:=bs.there b o hb hx
   exact nt.there b o' e1
 .exact I.hok.fresh hn
 .exact aU I.sz hn
section
variable {P:aP}{w:World}{K:W.Frag}{mg:Str->Option ag}{base:Heap}
theorem uA.Yg {x fu:Str}{st:Stmt}{f:Addr}{fd:bG}{N ps:List Str}{k:Nat}{sp:Sp}(F:uA K x fu st f fd)(S:fh N ps (dM st))(len:∀vs H Q E,sp vs H Q E->vs.length=ps.length)
  (rf:∀(fz:ag) (A:Around) (outer:List Env) (s:aq) (H:Hp) (vs:List V) (Q:VK) (E:XK),fw k (A.deeper (envOfC fu (dM st) s.heap.objs.size f fz))->sp vs H Q E ->
   ∃t,uG (kG (Le P w) P w K mg base N fu (dM st) f fz A outer s H E) (fE st) t/\t { nx:=λ_ H'=>Q .gT H',rt:=Q } (start N vs) H):i5 P w K mg base (Le P w) (k+1) f fd ps sp:=by
 obtain⟨oc,od,kV,q9,pm,an,fz,ct,zP,rfl,lk,ic⟩:=F.ex;refine KU lk ic S len λA outer s H vs Q E hr zQ=>?_;obtain⟨t,h,q⟩:=rf fz A outer s H vs Q E hr zQ;exact⟨t,h.run,q⟩
structure qu (P:aP) (w:World) (K:W.Frag) (mg:Str->Option ag) (base:Heap) (k:Nat) (x:Str) (ps:List Str) (sp:Sp):Prop where
 ex:∃(f:Addr) (fd:bG),i5 P w K mg base (Le P w) k f fd ps sp/\mg x=some (.ref f)/\W.keepIn K (.ref f)=true/\Binds K fd ps []
end
noncomputable def v5 (sp:Sp)(E:XK)(t:TA):TE:=λσ H Q=>t σ H λvs H1=>sp vs H1 Q E
theorem D8 (sp:Sp)(E:XK)(t:TA):xx sp [] E t=v5 sp E t:=by
 funext σ H Q;unfold xx v5;simp only[bg]
section
theorem Gi (E:XK)(D:qu X.prog X.w X.K X.mg X.base k x ps sp)(hr:fw k X.A)(hl:lO X E)(ha:QA X (e::es) t)(hg:Gl X x:=by rfl)(jw:(x == ("__debug__" : Str))=false:=by decide) :
  QE X (.Call (.Name x p) (e::es) [] pos) (v5 sp E t):=by
 obtain⟨f,fd,F,hm,hk,hb⟩:=D.ex;rw[<- D8];exact⟨B4 F hr hg hm hk hb .nil (λpins σ H s e s' I h=>hl pins σ e s' (Lf I h)) ha.run jw (fc (jb ha.ns).1) (g6 (jb ha.ns).2)⟩
end
structure v7 (K:W.Frag) (C:Addr):Prop where
 ga:W.findIn K (.ref C) "__getattribute__" = some (some (.builtin "BaseException.__getattribute__"))
 gh:W.findIn K (.ref C) "__getattr__" = some none
 sa:W.findIn K (.ref C) "__setattr__" = some (some (.builtin "object.__setattr__"))
 hd:W.hasDictIn K C=true
 UZ:W.mroIn K C (.type "BaseException")=some true
 iso:W.mroIn K C (.type "object")=some true
section
variable {prog:aP}{w:World}{A:Around}{E:ag->aq->Prop}{K:W.Frag}{x C dx:Addr}{o:Obj}{mA:Str->Option ag}{name:Str}{v:ag}
theorem Gj:builtinKind "BaseException.__getattribute__" = some .slot:=by decide +kernel
theorem Cw:splitId "BaseException.__getattribute__" = some ("BaseException", "__getattribute__"):=by decide +kernel
theorem yg (X:K.In s.heap)(c:v7 K C)(I:W.InstAt s.heap x o C (some od))(na:W.findIn K (.ref C) name=some none)(hv:W.lookIn name od=some (some v))
  (q:R (.ok (.ret v)) s):codeAny (model prog w) A (.call (.builtin "BaseException.__getattribute__") ⟨[.ref x,.str name tk],[]⟩) R s:=by
 have L4:=W.looks_mroIn (M:=model prog w) X c.UZ;have L5:=W.looks_find (M:=model prog w) X I (W.findObj_own (attr:=none) c.hd na rfl hv);have L0:=I.type (M:=model prog w);refine codeAny_call_builtin PySem.F.excAttr_ValueError.ga.plain PySem.F.entry_bexc_ga ?_;refine @W.check_slot (model prog w) _ _ s "BaseException.__getattribute__" "BaseException" "__getattribute__" (.ref x) [.str name tk] [] _ Gj Cw (L0.andThen L4) (PySem.F.args_bexc_ga _ _) ?_;show az _ _ (Builtin.«object.__getattribute__» ⟨[.ref x,.str name tk],[]⟩) _ _ _;unfold Builtin.«object.__getattribute__»;refine aa (ai ?_);exact aa (ai (aa (L0.here (aa (L5.here (ai q))))))
theorem NH (X:K.In s.heap)(c:v7 K C)(I:W.InstAt s.heap x o C (some od))(na:W.findIn K (.ref C) name=some none)(hv:W.lookIn name od=some (some v))(hh:handedOut v=pure v)
  (q:Q v { s with toks:=s.toks+1 }):az (model prog w) A (getAttr (.ref x) name expr) Q E s:=by
 obtain⟨h,g,d,t,os⟩:=s;have L0:=I.type (M:=model prog w);have L1:=W.looks_findIn (M:=model prog w) X c.ga;have L2:=W.looks_findIn (M:=model prog w) X c.gh;have f3:=PySem.F.excAttr_ValueError.ga.bind (.ref x);have Yh:(expr && onTheHeap (ag.builtin "BaseException.__getattribute__"))=false:=by cases expr<;>rfl
 have D6:(ag.builtin "BaseException.__getattribute__" == ag.builtin "object.__getattribute__")=false:=by decide +kernel
 have NG:(onTheHeap (ag.ref C) && ag.builtin "BaseException.__getattribute__" == ag.builtin "object.__getattribute__")=false:=by rw[D6];rfl
 unfold getAttr getAttrBy;repeat (first | assumption | with_reducible refine L0.at ?_ | with_reducible refine L1.at ?_ | with_reducible refine L2.at ?_ | wp_step)
 refine yg (s:=⟨h,g,d,t+1,os⟩) X c I na hv ?_;show az _ _ (handedOut v) _ _ _;rw[hh];exact ai q
noncomputable def lP:List ag->Bool
 | [.type a,.type b,.type c,.type d]=>a == "ValueError" && b == "Exception" && c == "BaseException" && d == "object"
 | .ref _::r=>lP r
 | _=>false
theorem uV (self:ag):∀{l:List ag},lP l=true->refuseLoop self "__setattr__" l=pure ()
 | [.type a,.type b,.type c,.type d],e=>by
  simp only[lP,bv,beq_iff_eq] at e;obtain⟨⟨⟨rfl,rfl⟩,rfl⟩,rfl⟩:=e;exact PySem.F.store_ValueError.passes self
 | .ref c::r,e=>by
  rw[refuseLoop_ref];exact uV self (by cases r<;>first | exact e | cases e)
theorem qa (X:K.In s.heap)(c:v7 K C)(ic:W.clsIn K C=some cd)(Jv:lP cd.mro=true)(I:W.InstAt s.heap x o C od)(na:W.findIn K (.ref C) name=some none)
  (q:az (model prog w) A.in1 (Builtin.ObjectAttr.storeInOwnDict (.ref x) (.ref C) (.str name tk) name v false) (λfin s'=>match fin with | .done f=>R (.ok f) s' | .again c'=>c'.quiet=true/\codeAny (model prog w) A c' R s') (λe s'=>R (.error e) s') s) :
  codeAny (model prog w) A (.call (.builtin "object.__setattr__") ⟨[.ref x,.str name tk,v],[]⟩) R s:=by
 have SF:=PySem.F.store_object;have L0:=I.type (M:=model prog w);have L3:=W.looks_findIn (M:=model prog w) X na;have L4:=W.looks_mroIn (M:=model prog w) X c.iso;have L6:W.Looks (model prog w) s.heap (mroOf (.ref C)) cd.mro:=(W.looks_clsIn X ic).andThen .now;refine codeAny_call_builtin SF.slot.plain SF.entry ?_;refine @W.check_slot (model prog w) _ _ s "object.__setattr__" "object" "__setattr__" (.ref x) [.str name tk,v] [] _ SF.kind SF.split (L0.andThen L4) (SF.args (.ref x) (.str name tk) v) ?_;show az _ _ (Builtin.«object.__setattr__» ⟨[.ref x,.str name tk,v],[]⟩) _ _ _;rw[W.osa_eq,refuse_eq];refine aa (aa (L0.here (aa (L6.here ?_))));rw[uV _ Jv];refine ai (aa (L0.here (aa (L3.here ?_))));exact aa (ai q)
theorem Am {s:aq}{Q:Unit->aq->Prop}{cd:ClassData}{vs:Array ag}(X:K.In s.heap)(c:v7 K C)(ic:W.clsIn K C=some cd)(Jv:lP cd.mro=true)(hx:s.heap.get? x=some o)(hc:o.cls=.ref C)(hd:o.dict=none)(hf:o.data=.fields vs)(na:W.findIn K (.ref C) name=some none)
  (q:∀h' tk,h'.get? x=some { o with dict:=some s.heap.objs.size }->h'.Ns1 s.heap.objs.size (λy=>if y=name then some v else none)->(∀b u,b≠x->s.heap.get? b=some u->h'.get? b=some u)->Q () { s with heap:=h',toks:=tk }) :
  az (model prog w) A (setAttr (.ref x) name v) Q E s:=by
 have I:W.InstAt s.heap x o C none:=⟨hx,hc,by unfold W.notCls;rw[hf],by rw[hd];trivial⟩
 have U0:cd.hasDict=true:=by
  obtain⟨Yi,e1,e2⟩:=W.any_some c.hd;rw[ic] at e1;cases e1;exact e2
 have O8:x≠s.heap.objs.size:=aN (aA hx);refine W.set_plain X I c.sa (qa (s:={ s with toks:=s.toks+1 }) X c ic Jv I na ?_);unfold Builtin.ObjectAttr.storeInOwnDict;refine aa (ai ?_);show az _ _ (Builtin.ObjectAttr.ownDictForStores (.ref x) >>= _) _ _ _;refine aa ?_;show az _ _ (instanceDict x true) _ _ _;unfold instanceDict;refine aa (wpAny_loadPart hx ?_);rw[hc,hd,hf];refine aa (W.Looks.here (s:={ s with toks:=s.toks+1 }) (W.looks_clsIn X ic) ?_);rw[U0];show az _ _ (alloc { cls:=.type "dict",data:=.dict #[] } >>= _) _ _ _;have NG:(s.heap.push { cls:=.type "dict",data:=.dict #[] }).get? x=some o:=ah _ hx;have BY:({ o with dict:=some s.heap.objs.size }:Obj).isFreed=false:=Obj.isFreed_of_fields (vs:=vs) hf;refine aa (wpAny_alloc' ?_);refine aa (wpAny_update' NG ?_);refine ai ?_;have NI:((s.heap.push { cls:=.type "dict",data:=.dict #[] }).update x (λo=>{ o with dict:=some s.heap.objs.size })).get? s.heap.objs.size=some { cls:=.type "dict",data:=.dict #[] }:=(dc _ _ _ _ O8.symm).trans (Heap.get?_push_at rfl rfl);have D6:=aS (λo=>{ o with dict:=some s.heap.objs.size }) NG BY;have ot:∀b u,b≠x->s.heap.get? b=some u->((s.heap.push { cls:=.type "dict",data:=.dict #[] }).update x (λo=>{ o with dict:=some s.heap.objs.size })).get? b=some u:=λb u hb hu=>(dc _ _ _ _ hb).trans (ah _ hu);generalize (s.heap.push { cls:=.type "dict",data:=.dict #[] }).update x (λo=>{ o with dict:=some s.heap.objs.size })=g at NI D6 ot ⊢;have U1:g.Ns s.heap.objs.size (λ_=>none):=⟨_,#[],_,NI,rfl,λe he=>absurd he (!4),λ_=>rfl⟩;show az _ _ (Builtin.ObjectAttr.storeInDict s.heap.objs.size (.str name s.toks) name v) _ _ _;unfold Builtin.ObjectAttr.storeInDict Builtin.ObjectAttr.newKeyGuard;refine aa (ai (aa (wpAny_nsSet1 (Heap.Ns1.of_empty U1) λh' xu hs=>?_)));obtain⟨oD,Yj,Yk,U2,U3,U4⟩:=xu.count (PySem.Within.cons name v PySem.Within.nil);refine aa (wpAny_lookBehind U2 (by rw[U3];exact pastItsLine_dict (aU U4 (by rw[ap,bh,sizeLine_eq];omega))) ?_);refine ai ?_;exact q h' _ ((hs.2 x O8).trans D6) xu λb u hb hu=>(hs.2 b (aN (aA hu))).trans (ot b u hb hu)
theorem yh {s:aq}{Q:Unit->aq->Prop}{cd:ClassData}{vs:Array ag}{ns:List Str}(X:K.In s.heap)(c:v7 K C)(ic:W.clsIn K C=some cd)(Jv:lP cd.mro=true)(hx:s.heap.get? x=some o)(hc:o.cls=.ref C)(hd:o.dict=some dx)(hf:o.data=.fields vs)(hn:s.heap.Ns1 dx mA)(na:W.findIn K (.ref C) name=some none)
  (hw:PySem.Within mA ns) (hz:ns.length<=1000) (q:∀h' tk,h'.Ns1 dx (λy=>if y=name then some v else mA y)->Heap.SameBut dx s.heap h'->Q () { s with heap:=h',toks:=tk }) :
  az (model prog w) A (setAttr (.ref x) name v) Q E s:=by
 obtain⟨od,yi,_⟩:=pq hn;have I:W.InstAt s.heap x o C (some od):=⟨hx,hc,by unfold W.notCls;rw[hf],by rw[hd];exact yi⟩
 have U0:cd.hasDict=true:=by
  obtain⟨Yi,e1,e2⟩:=W.any_some c.hd;rw[ic] at e1;cases e1;exact e2
 refine W.set_plain X I c.sa (qa (s:={ s with toks:=s.toks+1 }) X c ic Jv I na ?_);unfold Builtin.ObjectAttr.storeInOwnDict;refine aa (ai ?_);show az _ _ (Builtin.ObjectAttr.ownDictForStores (.ref x) >>= _) _ _ _;refine aa ?_;show az _ _ (instanceDict x true) _ _ _;unfold instanceDict;refine aa (wpAny_loadPart hx ?_);rw[hc,hd,hf];refine aa (W.Looks.here (s:={ s with toks:=s.toks+1 }) (W.looks_clsIn X ic) ?_);rw[U0];refine ai (a:=some dx) ?_;show az _ _ (Builtin.ObjectAttr.storeInDict dx (.str name s.toks) name v) _ _ _;unfold Builtin.ObjectAttr.storeInDict Builtin.ObjectAttr.newKeyGuard;refine aa (ai (aa (wpAny_nsSet1 (s:={ s with toks:=s.toks+1 }) hn λh' xu hs=>?_)));obtain⟨oD,Yj,Yk,U2,U3,U4⟩:=xu.count (PySem.Within.cons name v hw);refine aa (wpAny_lookBehind U2 (by rw[U3];exact pastItsLine_dict (aU U4 (by rw[ap,sizeLine_eq];omega))) ?_);exact ai (q h' _ xu hs)
end
noncomputable abbrev qb:List ag:=[.type "ValueError",.type "Exception",.type "BaseException",.type "object"]
section
noncomputable abbrev oG (u:Heap)(C:Addr)(us:List ag):Heap:=(u.push { cls:=.type "tuple",data:=.seq us.toArray }).push { cls:=.ref C,data:=.fields #[.ref u.objs.size,.none,.none,.none,.bool false,.none] }
theorem kL (h:u.get? b=some o):(oG u C us).get? b=some o:=ah _ (ah _ h)
theorem yj:(oG u C us).get? (u.objs.size+1)=some { cls:=.ref C,data:=.fields #[.ref u.objs.size,.none,.none,.none,.bool false,.none] }:=by heap_get
theorem An (hK:u.get? C=some (excClassObj nm qn C N bs bm rP sn sub ab Gk dd k0 k1 k2 k3 k5 "ValueError.__new__"))(tl:OwnTail u qb bm)(LI:W.Looks (model prog w) u (typeLookup (.ref C) "__init__") (some (.ref fI)))(LF:W.Looks (model prog w) u (typeOf (.ref fI)) (.type "function"))(hl:us.length<=ax)
  (q:az (model prog w) A (call (.ref fI) (.ref (u.objs.size+1)::us)) (λr s'=>r=.none/\Q (.done (.ret (.ref (u.objs.size+1)))) s') E ⟨oG u C us,gs,dr,tk,Rc⟩) :
  az (model prog w) A (Builtin.«type.__call__» ⟨.ref C::us,[]⟩) Q E ⟨u,gs,dr,tk,Rc⟩:=by
 have F:=PySem.F.excBase_ValueError;have Yl:(oG u C us).get? C=some (excClassObj nm qn C N bs bm rP sn sub ab Gk dd k0 k1 k2 k3 k5 "ValueError.__new__"):=kL hK;have Ym:=LI.keeps (h':=oG u C us) λb o hb=>kL hb;have Yn:=LF.keeps (h':=oG u C us) λb o hb=>kL hb;have Yo:(ag.ref C::bm).contains (.ref C)=true:=by simp
 have hX:=yj (u:=u) (C:=C) (us:=us);repeat (first | (with_reducible refine wpAny_loadPart_at hK ?_) | (with_reducible refine wpAny_madeBy_exc hK ?_) | wp_step)
 refine codeAny_call_builtin_code (Code.quiet_builtin _ F.quiet) ?_;refine wpAny_check_new_subT F tl hK (codeAny_exc_new_subT F tl hK ?_ hl);show az _ _ _ _ _ ⟨oG u C us,gs,dr,tk,Rc⟩;unfold isInstance;repeat (first | (with_reducible refine wpAny_loadPart_at hX ?_) | ((with_reducible refine wpAny_isSubtype_exc Yl ?_);rw[Yo]) | wp_step)
 show az _ _ (typeLookup (.ref C) "__init__") _ _ _;refine Ym.at (wpAny_holding (aa ?_));unfold bindSpecial;refine aa (Yn.at ?_);rw[if_pos (!2)];refine ai (aa (bF q (λr s' hr=>?_) λ_ _ z=>z));obtain⟨rfl,hQ⟩:=hr
 wp_walk
 exact hQ
theorem Ao (hK:u.get? C=some (excClassObj nm qn C N bs bm rP sn sub ab Gk dd k0 k1 k2 k3 k5 "ValueError.__new__"))(tl:OwnTail u qb bm)(LI:W.Looks (model prog w) u (typeLookup (.ref C) "__init__") (some (.ref fI)))(LF:W.Looks (model prog w) u (typeOf (.ref fI)) (.type "function"))(hl:us.length<=ax)
  (q:az (model prog w) (A.under (.builtin "type.__call__" ⟨.ref C::us,[]⟩)) (call (.ref fI) (.ref (u.objs.size+1)::us)) (λr s'=>r=.none/\Q (.ref (u.objs.size+1)) s') E ⟨oG u C us,gs,dr,tk,Rc⟩) :
  az (model prog w) A (call (.ref C) us) Q E ⟨u,gs,dr,tk,Rc⟩:=by
 have g1:=tc_lookup;have g2:=tc_bind (.ref C);have hTy:(⟨u,gs,dr,tk,Rc⟩:aq).TypeIs (.ref C) "type" := ⟨_,hK,rfl⟩;refine wpAny_call (codeAny_of_tree ?_);show az _ _ (callAny (.ref C) _) _ _ _;repeat (any_goals (first | assumption | (with_reducible refine wpAny_loadPart_at hK ?_) | wp_step))
 refine⟨rfl,codeAny_call_builtin_at (Code.quiet_builtin _ (!3)) entry_typeCall ?_⟩;exact wpAny_check_type_call_sub hK (An hK tl LI LF hl q)
end
noncomputable def kM (x C:Addr)(od:Option Addr):Heap->Prop:=λh=>∃(oe:Obj) (t:Addr),h.get? x=some oe/\oe.cls=.ref C/\oe.dict=od/\oe.data=.fields #[.ref t,.none,.none,.none,.bool false,.none]
noncomputable def jz (d:Addr)(fs:List (Str × V)):Heap->Prop:=λh=>∃mA,h.Ns1 d mA/\∀g,mL (fs.lookup g) (mA g)
theorem Cy (r:kM x C od h):fy P w H h x (.ext (kM x C od)):=by
 refine⟨r,let ⟨oe,_,e,_⟩:=r;⟨oe,e⟩,λh1 h2 ⟨oe,vs,e,r⟩ k=>⟨oe,vs,k _ e,r⟩⟩
theorem yk (r:jz d fs h):fy P w H h d (.ext (jz d fs)):=by
 refine⟨r,let ⟨_,⟨o,_,_,e,_⟩,_⟩:=r;⟨o,e⟩,λh1 h2 ⟨mA,⟨o,es,ep,e,c⟩,r⟩ k=>⟨mA,⟨o,es,ep,k _ e,c⟩,r⟩⟩
theorem nk (ok:j7 P w H h)(e:H a=some (.ext φ)):φ h:=(show fy P w H h a (.ext φ) from ok a _ e).1
structure v8 (K:W.Frag) (C:Addr):Prop where
 cls:v7 K C
 ve:∃cd,W.clsIn K C=some cd/\lP cd.mro=true
 ty:∃o,K.lookup C=some o/\o.cls=.type "type"
section
theorem Gm (I:Inv X pins σ H s)(c:v8 X.K C)(na:W.findIn X.K (.ref C) f=some none)(e:H x=some (.ext (kM x C none)))(r:RelV y v)
  (q:∀d s',H d=none->d≠x->Inv X pins σ (eZ (eZ H x (.ext (kM x C (some d)))) d (.ext (jz d [(f,y)]))) s'->Q () s'):az (model X.prog X.w) X.A (setAttr (.ref x) f v) Q X.xe s:=by
 obtain⟨oe,t,hx,hc,hd,hf⟩:=nk I.hok e;obtain⟨cd,ic,Jv⟩:=c.ve;have O8:s.heap.objs.size≠x:=cj (aA hx);have D5:H s.heap.objs.size=none:=I.hok.fresh (am _);refine Am I.m8 c.cls ic Jv hx hc hd hf na λh' tk HU xu kp=>q s.heap.objs.size _ D5 O8 ?_;have raw:kM x C (some s.heap.objs.size) h':=⟨_,t,HU,hc,rfl,hf⟩
 have I1:Inv X pins σ (eZ H x (.ext (kM x C (some s.heap.objs.size)))) { s with heap:=h',toks:=tk } :=
  I.write (x:=x) (e:=x) (by rw[e];trivial) (.inl rfl) (λb u hb hu=>kp b u hb hu) ⟨_,HU⟩ (Cy raw)
 obtain⟨od,es,ep,yi,rest⟩:=id xu;have sz:=I.sz;refine I1.Ce (a:=s.heap.objs.size) yi ?_ (cj I.lt) (.inr sz) (λz cl hz e'=>?_) (λp hp e'=>?_) (yk ⟨_,xu,λg=>?_⟩)
 .rw[dY O8]
  exact D5
 .obtain⟨vv,ob,hb,_⟩:=I.cell z cl hz
  exact absurd (e' ▸ aA hb) (bt _)
 .exact absurd (e' ▸ aA (I.pin p hp).1) (bt _)
 .by_cases hg:g=f
  .subst hg
   simp only[bU,beq_self_eq_true,if_true];exact r
  .have hb:(g == f)=false:=by simpa using hg
   simp only[bU,hb,if_neg hg,List.lookup_nil];trivial
theorem D9 (I:Inv X pins σ H s)(c:v8 X.K C)(na:W.findIn X.K (.ref C) f=some none)(e:H x=some (.ext (kM x C (some dx))))(ed:H dx=some (.ext (jz dx fs)))(hl:fs.length<=900)(r:RelV y v)
  (q:∀s',Inv X pins σ (eZ H dx (.ext (jz dx (DB f y fs)))) s'->Q () s'):az (model X.prog X.w) X.A (setAttr (.ref x) f v) Q X.xe s:=by
 obtain⟨oe,t,hx,hc,hd,hf⟩:=nk I.hok e;obtain⟨mA,hn,rm⟩:=nk I.hok ed;obtain⟨cd,ic,Jv⟩:=c.ve
 have hw:PySem.Within mA (fs.map (·.1)):=λg hg=>by
  cases hk:fs.lookup g with
  | none =>
   have:=rm g;rw[hk] at this
   cases hm:mA g with
   | none=>exact absurd hm hg
   | some u=>rw[hm] at this;exact this.elim
  | some z=>exact a5.mpr ⟨(g,z),PySem.mem_of_lookup hk,rfl⟩
 refine yh I.m8 c.cls ic Jv hx hc hd hf hn na hw (by rw[ak];omega) λh' tk xu sb=>q _ ?_;obtain⟨od,es,ep,yi,rest⟩:=id xu;refine I.write (x:=dx) (e:=dx) (by rw[ed];trivial) (.inl rfl) (λb u hb hu=>(sb.2 b hb).trans hu) ⟨_,yi⟩ (yk ⟨_,xu,λg=>?_⟩);rw[pW];by_cases hg:g=f
 .rw[if_pos hg,if_pos hg];exact r
 .rw[if_neg hg,if_neg hg];exact rm g
noncomputable def Rf (K:W.Frag)(C:Addr)(ta tv:TE)(f:Str):TS:=λD σ H=>tv σ H λy H1=>ta σ H1 λu H2=>∃x,u=.ref x/\v8 K C/\W.findIn K (.ref C) f=some none /\
 ((H2 x=some (.ext (kM x C none))/\∀d,H2 d=none->d≠x->D.nx σ (eZ (eZ H2 x (.ext (kM x C (some d)))) d (.ext (jz d [(f,y)])))) \/
 ∃dx fs,H2 x=some (.ext (kM x C (some dx)))/\H2 dx=some (.ext (jz dx fs))/\fs.length<=900/\D.nx σ (eZ H2 dx (.ext (jz dx (DB f y fs)))))
theorem Jw (K:W.Frag)(C:Addr)(ha:QE X oe ta)(hv:QE X value tv)(hs:swapsWith value (some (.Attribute oe f iT)) pos.line X.env=pure false:=by rfl)(hk:X.K=K:=by rfl):QS X (.Assign [.Attribute oe f iT] value pos) (Rf K C ta tv f):=by
 subst hk;refine⟨λpins s σ H D I h=>?_⟩;refine plainObj_wpAny_Assign_Attribute (fM (hv.run pins s σ H _ I h) λu s1 ⟨y,H1,I1,ry,q⟩=>fM (ha.run pins s1 σ H1 _ I1 q) λov s2 ⟨z,H2,I2,rz,x,ez,c,na,way⟩=>?_) hs;subst ez;obtain rfl:ov=ag.ref x:=rz;rcases way with⟨e,q2⟩ | ⟨dx,fs,e,ed,hl,q2⟩
 .exact Gm I2 c na e ry λd s3 hd D' I3=>⟨σ,_,I3,q2 d hd D'⟩
 .exact D9 I2 c na e ed hl ry λs3 I3=>⟨σ,_,I3,q2⟩
end
noncomputable def Gn (C:Addr)(f:Str):Sp:=λvs H Q _=>∃(x:Addr) (a:V),vs=[.ref x,a]/\H x=some (.ext (kM x C none))/\∀d,H d=none->d≠x->Q .gT (eZ (eZ H x (.ext (kM x C (some d)))) d (.ext (jz d [(f,a)])))
structure NJ (K:W.Frag) (J:Addr):Prop where
 ex:∃c0 dd cd sl c1 d1 es n S3,K.lookup J=some ⟨c0,dd,.cls cd,sl⟩/\K.lookup cd.ns=some ⟨c1,d1,.dict es n,S3⟩/\StrKeys es/\nsFind es "__init__" = none
theorem NJ.tail {K:W.Frag}{J:Addr}{h:Heap}(j:NJ K J)(X:K.In h):OwnTail h qb (.ref J::qb):=by
 obtain⟨c0,dd,cd,sl,c1,d1,es,n,S3,e1,e2,e3,e4⟩:=j.ex;exact .own (X _ _ e1) ⟨_,es,n,X _ _ e2,rfl,e3,λ_=>rfl⟩ e4 .base
structure O9 (K:W.Frag) (C fI:Addr):Prop where
 obj:∃J nm qn N bs rP sn sub ab Gk dd k0 k1 k2 k3 k5,K.lookup C=some (excClassObj nm qn C N bs (.ref J::qb) rP sn sub ab Gk dd k0 k1 k2 k3 k5 "ValueError.__new__")/\NJ K J
 init:W.findIn K (.ref C) "__init__" = some (some (.ref fI))
 fn:W.isFn K (.ref fI)=true
 kp:W.keepIn K (.ref C)=true
 cls:v7 K C
theorem O9.ec {K:W.Frag}{C fI:Addr}(m:O9 K C fI):v8 K C:=by
 obtain⟨J,nm,qn,N,bs,rP,sn,sub,ab,Gk,dd,k0,k1,k2,k3,k5,e,_⟩:=m.obj;refine⟨m.cls,⟨{ name:=nm,bases:=bs,mro:=.ref C::.ref J::qb,ns:=N,qualname:=qn,hasDict:=rP,slotNames:=sn,subclasses:=sub,abstract:=ab,collection:=Gk,hasDel:=false },?_,by simp[lP]⟩,_,e,rfl⟩;unfold W.clsIn;rw[e]
section
theorem Inv.Rg (I:Inv X pins σ H s):Inv X pins σ (eZ H (s.heap.objs.size+1) (.ext (kM (s.heap.objs.size+1) C none))) { s with heap:=oG s.heap C us }:=by
 have sz:(s.heap.push { cls:=.type "tuple",data:=.seq us.toArray }).objs.size=s.heap.objs.size+1:=bX _ _;exact I.laid (a:=s.heap.objs.size+1) (t':=s.toks) (λb u q=>kL q) (cb _) (Cy ⟨_,_,yj,rfl,rfl,rfl⟩)
theorem Ea {R:Hp->Prop}{us:List ag}{vs:List V}(M:O9 X.K C fI)(F:i5 X.prog X.w X.K X.mg X.base rq k fI fd ps sp)(hr:fw (k+1) X.A)(hb:Binds X.K fd ps [])(I:Inv X pins σ H s)(r:eh vs us)(hl:vs.length<=100)
  (hq:sp (.ref (s.heap.objs.size+1)::vs) (eZ H (s.heap.objs.size+1) (.ext (kM (s.heap.objs.size+1) C none))) (λv H2=>v=.gT/\R H2) E0) :
  az (model X.prog X.w) X.A (call (.ref C) us) (λu s'=>u=.ref (s.heap.objs.size+1)/\∃H',Inv X pins σ H' s'/\R H') X.xe s:=by
 have I2:=Inv.Rg (C:=C) (us:=us) I;have r2:eh (V.ref (s.heap.objs.size+1)::vs) (ag.ref (s.heap.objs.size+1)::us):=.cons rfl r
 have U5:((ag.ref (s.heap.objs.size+1)::us)++[]).length=ps.length:=by
  rw[bg,<- r2.length];exact F.len _ _ _ _ hq
 obtain⟨J,nm,qn,N,bs,rP,sn,sub,ab,Gk,dd,k0,k1,k2,k3,k5,e,hj⟩:=M.obj;have X0:=I.m8;have S5:us.length<=ax:=by rw[<- r.length];exact aU hl (!2)
 have Rh:=hb _ (ag.ref (s.heap.objs.size+1)::us) I2.m8 U5;rw[bg] at Rh;refine Ao (X0 _ _ e) (hj.tail X0) (W.looks_findIn X0 M.init) (W.looks_typeIn X0 (beq_iff_eq.mp M.fn)) S5 ?_;refine wpAny_call (codeAny_mono (F.run _ X.stack _ _ ⟨ag.ref (s.heap.objs.size+1)::us,[]⟩ (ag.ref (s.heap.objs.size+1)::us) _ (λv H2=>v=.gT/\R H2) E0 (hr.make C us []) (I2.MP.make C us []) Rh r2 hq) λrr s' zC=>?_)
 cases rr with
 | error e=>exact False.elim zC
 | ok fl =>
  cases fl with
  | ret u =>
   obtain⟨v,H',I3,rv,ev,q3⟩:=I2.after zC;subst ev;exact⟨rv,rfl,_,I3,q3⟩
  | next=>exact False.elim zC
  | brk=>exact False.elim zC
  | cont=>exact False.elim zC
noncomputable def Gp (C:Addr)(sp:Sp)(E:XK)(t:TA):TS:=λ_ σ H=>t σ H λvs H1=>vs.length<=100/\∀x,H1 x=none->sp (.ref x::vs) (eZ H1 x (.ext (kM x C none))) (λv H2=>v=.gT/\∃od,H2 x=some (.ext (kM x C od))/\E (.ref C) od (eZ H2 x (.ext (ki x (.ref C) od)))) E0
theorem Gr (E:XK)(M:O9 X.K C fI)(F:i5 X.prog X.w X.K X.mg X.base rq k fI fd ps sp)(hr:fw (k+1) X.A)(hm:X.mg x=some (.ref C))(hb:Binds X.K fd ps [])(NK:lO X E)(hc:X.calm=true)(ha:QA X (e::es) t)(hg:Gl X x:=by rfl)(jw:(x == ("__debug__" : Str))=false:=by decide) :
  QS X (.Raise (some (.Call (.Name x p) (e::es) [] gu)) none pos) (Gp C sp E t):=by
 refine⟨λpins s σ H D I h=>?_⟩;rw[arm_exec_Raise];show az _ _ (standAt pos >>= λ_=>raiseStmt X.env (some (eval (.Call (.Name x p) (e::es) [] gu) X.env >>= λv=>standAt pos >>= λ_=>pure v)) none) _ _ _;refine aa (wpAny_standAt ?_);unfold raiseStmt
 have ev:az (model X.prog X.w) X.A (eval (.Call (.Name x p) (e::es) [] gu) X.env) (λu s2=>∃(a:Addr) (H2:Hp) (od:Option Addr),u=.ref a/\X.s₀.heap.objs.size<=a/\(∀p∈X.pn++pins,p.1≠a)/\Inv X pins σ H2 s2/\H2 a=some (.ext (kM a C od))/\E (.ref C) od (eZ H2 a (.ext (ki a (.ref C) od)))) X.xe s:=by
  refine wpAny_Call_Name_kw (nZ I hg hm ?_ jw);refine W.callWith_K (h₀:=X.base) I.ok.mod.Px M.kp (fM (ha.run gu pins s σ H _ I h) λus s1 ⟨vs,H1,I1,r,hl,q⟩=>⟨I1.m8,?_⟩) (fc (jb ha.ns).1) (g6 (jb ha.ns).2);refine fM (Ea M F hr hb I1 r hl (q (s1.heap.objs.size+1) (I1.hok.fresh (cb _)))) λu s2 ⟨eu,H2,I2,od,e2,q2⟩=>⟨_,H2,od,eu,aU I1.sz (cb _),λp hp z=>?_,I2,e2,q2⟩;exact absurd (z ▸ aA (I1.pin p hp).1) (dD.mpr (cb _))
 refine aa (aa (fM ev λu s1 ⟨a,H1,od,eu,sa,pa,I1,ex,q⟩=>aa (wpAny_standAt (ai ?_))));subst eu;obtain⟨oe,t,hx,Gg,yi,Ri⟩:=nk I1.hok ex;have L:=W.looks_mroIn (M:=model X.prog X.w) I1.m8 M.cls.UZ;obtain⟨oC,Yp,Yq⟩:=M.ec.ty;have hC:=I1.m8 _ _ Yp;obtain⟨oc,U6,Yr,zP⟩:=oe;dsimp only at Gg yi Ri;subst Gg yi Ri
 have fin:X.xe (.ref a) s1:=by
  have I2:Inv X pins σ (eZ H1 a (.ext (ki a (.ref C) U6))) s1 :=
   I1.write (x:=a) (e:=a) (h':=s1.heap) (t':=s1.toks) (o:=.ext (ki a (.ref C) U6)) (by rw[ex];trivial) (.inl rfl) (λb u _ hu=>hu) ⟨_,hx⟩ (Cv ⟨_,_,hx,rfl,rfl,rfl⟩)
  exact NK pins σ _ s1 ⟨a,.ref C,U6,none,_,rfl,I2,dP,sa,pa,(λT e=>nomatch e),⟨⟨_,_,hx,rfl,rfl,rfl,rfl⟩,λT e=>nomatch e⟩,q⟩
 have hh:=I1.ok.hd hc;obtain⟨hp,g,d,tk,os⟩:=s1;repeat (first | (with_reducible refine wpAny_loadPart_at hx ?_) | ((with_reducible refine wpAny_loadPart_at hC ?_);rw[Yq]) | (with_reducible refine L.at ?_) | wp_step)
 exact wpAny_raiseNew_none hh fin
end
structure Eb (K:W.Frag) (C:Addr):Prop where
 cx:v7 K C
 ha:W.findIn K (.ref C) "__class__" = some (some (.builtin "object.__class__"))
 hn:W.specialIn K (.builtin "object.__class__") "__get__" = some (some (.builtin "getset_descriptor.__get__"))
 tk:W.takesIn K (.builtin "object.__class__")=some true
section
variable {prog:aP}{w:World}{A:Around}{E:ag->aq->Prop}{K:W.Frag}{x C:Addr}{o od:Obj}{s:aq}
theorem tS {tk:Tok}{R:Result->aq->Prop}(X:K.In s.heap)(c:Eb K C)(I:W.InstAt s.heap x o C (some od))(q:R (.ok (.ret (.ref C))) s) :
  codeAny (model prog w) A (.call (.builtin "BaseException.__getattribute__") ⟨[.ref x,.str "__class__" tk],[]⟩) R s:=by
 have L4:=W.looks_mroIn (M:=model prog w) X c.cx.UZ;have hf:W.findObj K C (some od) "__class__" = some (.bind (.builtin "getset_descriptor.__get__") (.builtin "object.__class__")):=W.findObj_data (by obtain⟨cd,hc,_⟩:=W.any_some c.cx.hd;rw[hc];rfl) c.ha c.hn c.tk;have L5:=W.looks_find (M:=model prog w) X I hf;have L0:=I.type (M:=model prog w);refine codeAny_call_builtin PySem.F.excAttr_ValueError.ga.plain PySem.F.entry_bexc_ga ?_;refine @W.check_slot (model prog w) _ _ s "BaseException.__getattribute__" "BaseException" "__getattribute__" (.ref x) [.str "__class__" tk] [] _ Gj Cw (L0.andThen L4) (PySem.F.args_bexc_ga _ _) ?_;show az _ _ (Builtin.«object.__getattribute__» ⟨[.ref x,.str "__class__" tk],[]⟩) _ _ _;unfold Builtin.«object.__getattribute__»;refine aa (ai (aa (ai (aa (L0.here (aa (L5.here ?_)))))));show az _ _ (holding [.builtin "object.__class__"] (call (.builtin "getset_descriptor.__get__") [.builtin "object.__class__",.ref x,.ref C]) >>= ret) _ _ _;exact aa (wpAny_holding (wpAny_call (W.class_get (ox:=o) (od:=some od) X I c.cx.iso (ai q))))
theorem Gs {Q:Option ag->aq->Prop}(X:K.In s.heap)(c:Eb K C)(I:W.InstAt s.heap x o C (some od))(q:Q (some (.ref C)) { s with toks:=s.toks+1 }):az (model prog w) A (getAttr? (.ref x) "__class__") Q E s:=by
 obtain⟨h,g,d,t,os⟩:=s;have L0:=I.type (M:=model prog w);have L1:=W.looks_findIn (M:=model prog w) X c.cx.ga;have L2:=W.looks_findIn (M:=model prog w) X c.cx.gh;have f3:=PySem.F.excAttr_ValueError.ga.bind (.ref x);have Yh:(false && onTheHeap (ag.builtin "BaseException.__getattribute__"))=false:=rfl;have D6:(ag.builtin "BaseException.__getattribute__" == ag.builtin "object.__getattribute__")=false:=by decide +kernel
 have NG:(onTheHeap (ag.ref C) && ag.builtin "BaseException.__getattribute__" == ag.builtin "object.__getattribute__")=false:=by rw[D6];rfl
 unfold getAttr? getAttrBy? getAttrBy;repeat (first | assumption | with_reducible refine L0.at ?_ | with_reducible refine L1.at ?_ | with_reducible refine L2.at ?_ | wp_step)
 refine tS (s:=⟨h,g,d,t+1,os⟩) X c I ?_;exact W.handed_on (v:=.ref C) rfl (ai q)
theorem rQ (c:Eb K C):W.KitX K (.ref x) (.ref C) (λh=>∃o od,W.InstAt h x o C (some od)) where
 ty:=λ_ _ _ ⟨_,_,I⟩=>I.type
 it:=λ_ _ X _=>by
  obtain⟨cd,e,_⟩:=W.any_some c.cx.hd;unfold W.clsIn at e;split at e
  .rename_i c1 d1 Ys S3 e1
   exact λA' Q' E' s' k q=>by
    unfold isType loadHead;exact aa (wpAny_loadPart (k _ _ (X _ _ e1)) (ai q))
  .cases e
 ne:=λh tp dd its n sl X Yt=>by
  obtain⟨cd,e,_⟩:=W.any_some c.cx.hd;refine Bool.eq_false_iff.mpr λq=>?_;have e1:C=tp:=ag.ref.inj (beq_iff_eq.mp q);subst e1;unfold W.clsIn at e;split at e
  .rename_i c1 d1 Ys S3 e2
   have z:=(X _ _ e2).symm.trans Yt;cases z
  .cases e
 ca:=λX ⟨_,_,I⟩ k=>Gs X c I k
end
inductive Cz (K:W.Frag) (H:Hp) (C:Addr):V->Bool->Prop where
 | own {D:Addr} {b:Bool} (e:W.kitOne K (.ref C) (.ref D)=some b):Cz K H C (.ref D) b
 | ty {T:String} {b:Bool} (e:W.kitOne K (.ref C) (.type T)=some b):Cz K H C (.ty T) b
 | tup {t:Addr} {ds:List Addr} {b:Bool} (h:H t=some (.tup (ds.map V.ref))) (e:W.kitAny K (.ref C) (ds.map ag.ref)=some b):Cz K H C (.ref t) b
theorem uW:∀{ds:List Addr} {us:List ag},eh (ds.map V.ref) us->us=ds.map ag.ref
 | [],_,.nil=>rfl
 | d::ds,_,.cons r t=>by
  have e:=uW t;subst e;have:_=ag.ref d:=r;subst this;rfl
section
variable {X:Cx}
noncomputable def Rj (K:W.Frag):List V->Hp->VK->Prop:=λxs H Q=>∃(x C dx:Addr) (fs:List (Str × V)) (y:V) (b:Bool),xs=[.ref x,y]/\H x=some (.ext (ki x (.ref C) (some dx)))/\H dx=some (.ext (jz dx fs))/\Eb K C/\Cz K H C y b/\Q (.bl b) H
theorem ym (ok:j7 P w H h)(e1:H x=some (.ext (ki x (.ref C) (some dx))))(e2:H dx=some (.ext (jz dx fs))):∃(o od:Obj) (mA:Str->Option ag),W.InstAt h x o C (some od)/\(∀name,W.lookIn name od=some (mA name))/\∀g,mL (fs.lookup g) (mA g):=by
 obtain⟨oe,vs,hx,hc,hd,hf⟩:=nk ok e1;obtain⟨mA,hn,rm⟩:=nk ok e2;obtain⟨od,yi,hl⟩:=pq hn;exact⟨oe,od,mA,⟨hx,hc,by unfold W.notCls;rw[hf],by rw[hd];exact yi⟩,hl,rm⟩
theorem pE (K:W.Frag)(hk:X.K=K:=by rfl):gF X (.builtin "isinstance") (Rj K):=by
 subst hk;intro pins s σ H xs us Q I r h;obtain⟨x,C,dx,fs,y,b,rfl,e1,e2,c,a,q⟩:=h;obtain⟨o,od,mA,In,_,_⟩:=ym I.hok e1 e2;obtain⟨u1,u2,rfl,r1,r2⟩:=r.two;obtain rfl:u1=ag.ref x:=r1;have fin:∀tk,EP X pins σ Q (.bool b) { s with toks:=tk }:=λtk=>⟨.bl b,H,I.tok tk,rfl,q⟩
 cases a with
 | own e =>
  obtain rfl:=(show u2=ag.ref _ from r2);exact W.kia_one (rQ c) I.m8 ⟨_,_,In⟩ e (λz=>nomatch z) fin
 | ty e =>
  obtain rfl:=(show u2=ag.type _ from r2);exact W.kia_one (rQ c) I.m8 ⟨_,_,In⟩ e (λz=>nomatch z) fin
 | tup h e =>
  obtain rfl:=(show u2=ag.ref _ from r2);obtain⟨_,its,rv,ob,ho,Gg,n,Ri,_⟩:=(show fy X.prog X.w H s.heap _ (.tup _) from I.hok _ _ h);have:=uW rv;subst this;obtain⟨oc,od1,Yr,zP⟩:=ob;dsimp only at Gg Ri;subst Gg Ri;exact W.kia_tup (rQ c) I.m8 ⟨_,_,In⟩ ho e (λz=>nomatch z) fin
noncomputable def Rk (K:W.Frag)(ta:TE)(f:Str):TE:=λσ H Q=>ta σ H λu H1=>∃(x C dx:Addr) (fs:List (Str × V)) (v:V),u=.ref x/\H1 x=some (.ext (ki x (.ref C) (some dx)))/\H1 dx=some (.ext (jz dx fs))/\v7 K C/\W.findIn K (.ref C) f=some none/\fs.lookup f=some v/\Q v H1
theorem Jx (K:W.Frag)(he:QE X e ta)(hb:attributeBase e f X.env (eval e X.env)=eval e X.env:=by rfl)(hk:X.K=K:=by rfl):QE X (.Attribute e f pos) (Rk K ta f):=by
 subst hk;refine⟨λpins s σ H Q I h=>II hb (fM (he.run pins s σ H _ I h) λu s1 ⟨z,H1,I1,rz,x,C,dx,fs,v,ez,e1,e2,c,na,l,q⟩=>?_)⟩;subst ez;obtain rfl:u=ag.ref x:=rz;obtain⟨o,od,mA,In,hl,rm⟩:=ym I1.hok e1 e2;obtain⟨u',hu,ru⟩:=mL.some_of (v:=v) (o:=mA f) (by rw[<- l];exact rm f);exact NH I1.m8 c In na (by rw[hl,hu]) (W.handedOut_of (DC ru)) ⟨v,H1,I1.tok _,ru,q⟩
end
structure WH (X:Cx) (e:Expr) (t:XK->TE):Prop where
 run:∀(E:XK) (pins:List (Addr × Obj)) (s:aq) (σ:St) (H:Hp) (Q:VK),Inv X pins σ H s->t E σ H Q->az (model X.prog X.w) X.A (eval e X.env) (EP X pins σ Q) (XP X pins σ E) s
section
theorem Jy (F:i5 X.prog X.w X.K X.mg X.base (Le X.prog X.w) k f fd ps sp)(hr:fw k X.A)(hb:Binds X.K fd ps [])(I:Inv X pins σ H s)(r:eh vs us)(h:sp vs H Q E) :
  az (model X.prog X.w) X.A (call (.ref f) us) (EP X pins σ Q) (XP X pins σ E) s:=by
 have hl:(us++[]).length=ps.length:=by rw[bg,<- r.length];exact F.len _ _ _ _ h
 have Rh:=hb s us I.m8 hl;rw[bg] at Rh;refine wpAny_call (codeAny_mono (F.run X.A X.stack s H ⟨us,[]⟩ us vs Q E hr I.MP Rh r h) λrr s' hq=>?_)
 cases rr with
 | error e=>exact Lf I hq
 | ok fl =>
  cases fl with
  | ret u=>exact I.after hq
  | next=>exact False.elim hq
  | brk=>exact False.elim hq
  | cont=>exact False.elim hq
theorem Jz (D:qu X.prog X.w X.K X.mg X.base k x ps sp)(hr:fw k X.A)(ha:∀Ex,QA (X.pj Ex) (e::es) t)(hg:Gl X x:=by rfl)(jw:(x == ("__debug__" : Str))=false:=by decide) :
  WH X (.Call (.Name x p) (e::es) [] pos) (λE=>v5 sp E t):=by
 obtain⟨f,fd,F,hm,hk,hb⟩:=D.ex;refine⟨λE pins s σ H Q I h=>wpAny_Call_Name_kw (nZ I hg hm ?_ jw)⟩;have hA:=ha (XP X pins σ E);refine W.callWith_K (h₀:=X.base) I.ok.mod.Px hk (fM (hA.run pos pins s σ H _ (I.pj _) h) λus s1 ⟨vs,H1,I1,r,q⟩=>⟨I1.jZ.m8,?_⟩) (fc (jb hA.ns).1) (g6 (jb hA.ns).2);exact Jy F hr hb I1.jZ r q
theorem CA {x:Addr}{cls:ag}{od:Option Addr}(I:Inv X pins σ H s)(f:ki x cls od s.heap):x≠X.env.locals/\∀y c,X.env.cells.lookup y=some c->c≠x:=by
 obtain⟨oe,vs,hx,_,_,hd⟩:=f;refine⟨λz=>?_,λy c hc z=>?_⟩
 .obtain⟨m,⟨o,es,ep,ho,Il,_⟩,_⟩:=I.loc
  rw[<- z,hx] at ho;cases ho;rw[hd] at Il;cases Il
 .obtain⟨v,o,ho,Il⟩:=I.cell y c hc
  rw[z,hx] at ho;cases ho;rw[hd] at Il;cases Il
theorem Inv.yf (I:Inv X pins σ H s)(nt:ye (m7 X.stack) x tb s.heap h')(ex:H x=some (.ext (ki x cls od)))(fl:ki x cls od h')(sx:X.s₀.heap.objs.size<=x)(px:∀p∈X.pn++pins,p.1≠x)
  (hT:∀T,tb=some T->H T=none/\X.s₀.heap.objs.size<=T/\∀p∈X.pn++pins,p.1≠T) (tT:∀T,tb=some T->∃oT ts,s.heap.get? T=some oT/\oT.data=.fields ts):Inv X pins σ H { s with heap:=h' }:=by
 have fx:=CA I (nk I.hok ex);refine I.call (g':=s.gens) (t':=s.toks) (d':=s.drawn) (ch:=x::tb.toList) ⟨λb o hb n hf hc=>?_,λb o hb n hf hc=>nt.slot b o hb hf,λb o hb n _=>n,λb o hb _=>nt.there b o hb,λ_ _ e=>e,λ_ _ _ e=>e,λb ps e=>⟨#[],by rw[e];simp⟩⟩ (I.hok.yf nt ex fl (λT e=>(hT T e).1) I.qy) I.bare λb hb=>?_
 .refine nt.keep b o hb (λz=>hc (by rw[z];exact ar ..)) (λz=>hc (ao _ (by rw[z];simp))) hf
 .rcases au.mp hb with rfl | hb
  .exact⟨.inr sx,fx.1,fx.2,px⟩
  .have e:tb=some b:=by
    cases tb with
    | none=>cases hb
    | some T=>simp at hb;rw[hb]
   obtain⟨oT,ts,h1,h2⟩:=tT b e;have fT:=CA (x:=b) (cls:=oT.cls) (od:=oT.dict) I ⟨oT,ts,h1,rfl,rfl,h2⟩;exact⟨.inr (hT b e).2.1,fT.1,fT.2,(hT b e).2.2⟩
theorem Inv.gone {h':Heap}{tk:Nat}{j:Nat}{n:Str}{m:Str->Option ag}{v:Option ag}(I:Inv X pins σ H s)(hN:X.N.Nodup)(hj:X.N[j]? = some n)(hl:∀(i:Nat) (x:Str) (w:V),X.N[i]? = some x->σ[i]? = some (some w)->tH X.env.scope x->∃u,RelV w u/\Look X.env s.heap m x u)
  (xu:h'.Ns X.env.locals (λy=>if y=n then v else m y)) (hs:Heap.SameBut X.env.locals s.heap h'):Inv X pins (σ.set j none) H { s with heap:=h',toks:=tk }:=by
 have Ff:=I.Ff;have up:=I.ok.above;have old:∀b (o:Obj),X.s₀.heap.get? b=some o->b≠X.env.locals:=λb o e=>aN (aL (aA e) up);refine⟨I.ok,I.os,I.bare,⟨λb o e n' hb hx=>?_,λb o e n' hb hx=>?_,I.base.free,λb o e hx=>?_,I.base.tF,I.base.qS,I.base.tG⟩,⟨_,xu,λi y w e1 e2 e3=>?_⟩,λy c e=>?_,I.free,I.freeC,λp hp=>?_,λb ob e=>?_,by simpa using I.len⟩
 .exact (hs.2 b (old b o e)).trans (I.base.keep b o e n' hb hx)
 .obtain⟨sl,e1⟩:=I.base.slot b o e n' hb hx
  exact⟨sl,(hs.2 b (old b o e)).trans e1⟩
 .obtain⟨o',e1⟩:=I.base.there b o e hx
  exact⟨o',(hs.2 b (old b o e)).trans e1⟩
 .have S6:i≠j:=λz=>by
   subst z;by_cases iQ:i<σ.length
   .rw[cg iQ] at e2
    cases e2
   .rw[bq (by rw[a7];omega)] at e2
    cases e2
  rw[aK (Ne.symm S6)] at e2;obtain⟨u,r,q⟩:=hl i y w e1 e2 e3;refine⟨u,r,?_⟩;rcases q with⟨k,e⟩ | ⟨k,c,e,ob,U7,U8⟩
  .have Yu:y≠n:=λz=>S6 (qU hN e1 (z ▸ hj))
   exact .inl ⟨k,by simp[Yu,e]⟩
  .exact .inr ⟨k,c,e,ob,(hs.2 c (Ff y c e)).trans U7,U8⟩
 .obtain⟨w,ob,U7,U8⟩:=I.cell y c e
  exact⟨w,ob,(hs.2 c (Ff y c e)).trans U7,U8⟩
 .obtain⟨p1,p2,p3,p4,p5⟩:=I.pin p hp
  exact⟨(hs.2 p.1 p3).trans p1,p2,p3,p4,p5⟩
 .have free:=I.free
  refine (I.hok b ob e).xt (λc w' hc q=>(hs.2 c λz=>?_).trans q) (λ_ q=>q) λ_ _ q=>q;rcases hc with rfl | hc
  .rw[z,free] at e;cases e
  .rw[z,free] at hc;cases hc
end
noncomputable def rR (X:Cx)(x:Addr):Cx:={ X with A:=X.A.mark (some (.ref x)),calm:=false,xe:=λ_ _=>False }
theorem Inv.rR (I:Inv X pins σ H s)(x:Addr):Inv (rR X x) pins σ H s :=
 ⟨⟨I.ok.mod,I.ok.kind,I.ok.glob,I.ok.blt,I.ok.above,I.ok.inj,I.ok.has,I.ok.O0,λz=>(by cases z),I.ok.frames,I.ok.Py,I.ok.TF,I.ok.bs,I.ok.Ik,I.ok.Dt,I.ok.Fe,I.ok.ph,I.ok.Ks⟩,I.os,I.bare,I.base,I.loc,I.cell,I.free,I.freeC,I.pin,I.hok,I.len⟩
theorem Inv.NL (ok:X.Ok)(I:Inv (L2.rR X x) pins σ H s):Inv X pins σ H s :=
 ⟨ok,I.os,I.bare,I.base,I.loc,I.cell,I.free,I.freeC,I.pin,I.hok,I.len⟩
theorem flight_again (hl:s.heap.FunFrames base l)(ea:ExcAt s.heap x cls od (some T))
  (h:∀h',ye (m7 l) x (some T) s.heap h'->ExcAt h' x cls od (some T)->Q () { s with heap:=h' }):az M A (setFlight (.ref x) none) Q Ex s:=by
 obtain⟨⟨oe,vs,he,hc,yi,hd,h1⟩,ht⟩:=ea;obtain⟨Ld,oT,ts,hT,Ia,h3⟩:=ht T rfl;have SY:3<ts.size:=(df.mp h3).1;unfold setFlight;refine aa (wpAny_field he hd h1 ?_);rw[if_pos (show ((some T:Option Addr).elim ag.none ag.ref != ag.none)=true by simp)];refine wpAny_setField hT Ia SY ?_;have ot:∀b,b≠T->(s.heap.update T (Obj.mapFields (·.setIfInBounds 3 ((none:Option Addr).elim ag.none λf=>rawInt f)))).get? b=s.heap.get? b:=λb hb=>aH _ _ (Ne.symm hb);have Rb:=aS (Obj.mapFields (·.setIfInBounds 3 ((none:Option Addr).elim ag.none λf=>rawInt f))) hT (Obj.isFreed_of_fields (Obj.data_mapFields Ia _));have UW:T ∉ m7 l:=pD hl hT Ia;refine h _ ⟨λb o hb _ H9 _=>?_,λb o hb HZ=>?_,λb o hb=>?_⟩ ⟨⟨oe,vs,(ot x Ld.symm).trans he,hc,yi,hd,h1⟩,λT' e=>?_⟩
 .exact (ot b λz=>H9 (by rw[z])).trans hb
 .exact⟨o.slots,(ot b λz=>UW (z ▸ HZ)).trans hb⟩
 .by_cases z:b=T
  .subst z
   exact⟨_,Rb⟩
  .exact⟨o,(ot b z).trans hb⟩
 .cases e
  exact⟨Ld,_,_,Rb,Obj.data_mapFields Ia _,by simp[SY]⟩
noncomputable def Ends.after (D:Ends)(j:Nat):Ends:={ nx:=λσ H=>D.nx (σ.set j none) H,rt:=D.rt,bk:=λσ H=>D.bk (σ.set j none) H,ct:=λσ H=>D.ct (σ.set j none) H }
section
variable {X:Cx}{pins:List (Addr × Obj)}{σ:St}{H:Hp}{s:aq}{D:Ends}{th:TS}{cn n:Str}{C0:Addr}{np Ap:Pos}{b0:Stmt}{oH:List Stmt}{j:Nat}{e:ag}
noncomputable def rS (K:W.Frag)(C0:Addr)(j:Nat)(th:TS)(D:Ends)(σ:St):XK:=λcls od H'=>W.exmOne K cls (.ref C0)=some true/\∀x,H' x=some (.ext (ki x cls od))->th (D.after j) (σ.set j (some (.ref x))) H'
theorem Ec (ea:ExcAt h x cls od tb):W.Looks M h (typeOf (.ref x)) cls:=by
 obtain⟨oe,vs,hx,hc,_⟩:=ea.obj;exact hc ▸ (W.Looks.ld hx).andThen .now
theorem Ed (xl:X.stack=X.env::X.outer)(D5:X.env.frame=some X.env.locals)(hm:X.mg cn=some (.ref C0))(hg:Gl X cn)(jw:(cn == ("__debug__" : Str))=false)(hN:X.N.Nodup)(hj:X.N[j]? = some n)(Aq:X.env.scope.names.lookup n=some .local)(hs:∀x,uG (rR X x) (b0::oH) th)
  (h:XP X pins σ (rS X.K C0 j th D σ) e s) :
  az (model X.prog X.w) X.A (noteFrame e X.env) (λ_ s₂=>az (model X.prog X.w) X.A (setFlight e none) (λ_ s₃=>az (model X.prog X.w) X.A (handleBy e X.env [.ExceptHandler (some (.Name cn np)) (some n) (b0::oH) Ap]) (SP X pins D) X.xe s₃) X.xe s₂) X.xe s:=by
 obtain⟨x,cls,od,tb,H',rfl,I,ex,sx,px,hT,ea,he,q⟩:=h;have frames:=I.ok.frames;have stack:=I.stack;rw[xl] at frames stack;refine p9 frames stack D5 ea λh2 T2 hsz nt S7=>?_;have I2:Inv X pins σ H' { s with heap:=h2 }:=I.yf (by rw[xl];exact nt) ex S7.UY sx px hT λT eT=>let ⟨_,oT,ts,a,b,_⟩:=ea.hd T eT;⟨oT,ts,a,b⟩
 have UR:∀T,some T2=some T->H' T=none/\X.s₀.heap.objs.size<=T/\∀p∈X.pn++pins,p.1≠T:=λT eT=>by
  cases eT;exact⟨I.hok.fresh hsz,aU I.sz hsz,λp hp z=>absurd (z ▸ aA (I.pin p hp).1) (dD.mpr hsz)⟩
 refine wpAny_handleBy_cons (codeAny_handlers_test ?_) (by intro z;cases z);refine nZ (X:=rR X x) (I2.rR x) hg hm ?_ jw;refine (W.exm_one (h:=h2) I2.m8 (Ec S7) he).here ?_;show codeAny _ _ (.handlers (.ref x) [.ExceptHandler none (some n) (b0::oH) Ap] X.env) _ _;refine codeAny_handlers_suite_as ?_;have NM:=I2.stack;refine flight_again (T:=T2) NM S7 λh3 Yv Yw=>?_;have I3:Inv X pins σ H' { s with heap:=h3 }:=I2.yf Yv ex Yw.UY sx px UR λT eT=>let ⟨_,oT,ts,a,b,_⟩:=S7.hd T eT;⟨oT,ts,a,b⟩;refine qV (X:=rR X x) (v:=.ref x) (I3.rR x) hN hj (.inl Aq) rfl (λs4 I4=>?_) (.inr Aq);refine bF ((hs x).run pins s4 (σ.set j (some (.ref x))) H' (D.after j) I4 (q x ex)) (λf s5 zQ=>?_) λ_ _ z=>z.elim;have hk:(X.env.scope.kind == .class || (X.env.scope.kind == .module && X.env.locals != X.env.globals))=false:=by rw[I.ok.kind];rfl
 have go:∀{σ5:St} {H5:Hp} {R:aq->Prop},Inv (rR X x) pins σ5 H5 s5->(∀s6,Inv X pins (σ5.set j none) H5 s6->R s6)->az (model X.prog X.w) X.A (do bindName X.env n .none;unbindBehindTheSuite X.env n Ap) (λ_ s6=>R s6) X.xe s5:=λ{σ5 H5 R} I5 k=>by
  have J:=Inv.NL I.ok I5;obtain⟨m,hn,hl⟩:=id J.loc;exact wpAny_nameGoes_keeps Aq hn hk λh6 v xu Nc=>k _ (J.gone hN hj hl xu Nc)
 cases f with
 | next=>obtain⟨σ5,H5,I5,q5⟩:=zQ;exact go I5 λs6 I6=>⟨_,H5,I6,q5⟩
 | brk=>obtain⟨σ5,H5,I5,q5⟩:=zQ;exact go I5 λs6 I6=>⟨_,H5,I6,q5⟩
 | cont=>obtain⟨σ5,H5,I5,q5⟩:=zQ;exact go I5 λs6 I6=>⟨_,H5,I6,q5⟩
 | ret u=>obtain⟨v,σ5,H5,I5,r5,q5⟩:=zQ;exact go I5 λs6 I6=>⟨v,_,H5,I6,r5,q5⟩
end
structure mB (P:aP) (w:World) (K:W.Frag) (mg:Str->Option ag) (base:Heap) (x:Str) (C:Addr) (sp:Sp):Prop where
 ex:∃(fI:Addr) (fd:bG) (ps:List Str),O9 K C fI/\i5 P w K mg base rq 1 fI fd ps sp/\mg x=some (.ref C)/\Binds K fd ps []
theorem Ee (E:XK)(R:mB X.prog X.w X.K X.mg X.base x C sp)(hr:fw 2 X.A)(NK:lO X E)(hc:X.calm=true)(ha:QA X (e::es) t)(hg:Gl X x:=by rfl)(jw:(x == ("__debug__" : Str))=false:=by decide) :
  QS X (.Raise (some (.Call (.Name x p) (e::es) [] gu)) none pos) (Gp C sp E t):=by
 obtain⟨fI,fd,ps,M,F,hm,hb⟩:=R.ex;exact Gr E M F hr hm hb NK hc ha hg jw
noncomputable def JA (C:Addr)(f:Str)(a:V)(H:Hp)(E:XK):Prop:=∀d H',H' d=some (.ext (jz d [(f,a)]))->Ext [] H H'->E (.ref C) (some d) H'
theorem NO (r:JA C f a H0 E)(x0:Ext [] H0 H)(hx:H x=none):Gn C f [.ref x,a] (eZ H x (.ext (kM x C none))) (λv H2=>v=.gT/\∃od,H2 x=some (.ext (kM x C od))/\E (.ref C) od (eZ H2 x (.ext (ki x (.ref C) od)))) E0:=by
 refine⟨x,a,rfl,dP,λd hd D'=>⟨rfl,some d,?_,r d _ ?_ ?_⟩⟩
 .rw[dY D'.symm,dP]
 .rw[dY D',dP]
 .have S8:H d=none:=by rw[dY D'] at hd;exact hd
  refine x0.trans ⟨λb o _ hb=>?_,λb xs hb=>?_⟩
  .rw[dY (eK hb hx),dY (eK hb S8),dY (eK hb hx),dY (eK hb hx)]
   exact hb
  .rw[dY (eK hb hx),dY (eK hb S8),dY (eK hb hx),dY (eK hb hx)]
   exact hb
noncomputable def uX (s:Stmt)(i:Nat):Stmt:=match s with
 | .ClassDef _ _ _ b _ _ _ _ _ _ _=>b.getD i (.Pass ⟨0,0,0,0⟩)
 | _=>.Pass ⟨0,0,0,0⟩
structure Ef (K:W.Frag) (mg:Str->Option ag) (x:Str) (D:Addr):Prop where
 nm:mg x=some (.ref D)
 ty:W.typeIn K (.ref D)=some (.type "type")
 cl:(W.clsIn K D).isSome=true
structure tU (K:W.Frag) (C J:Addr):Prop where
 ci:Eb K C
 own:W.mroIn K C (.ref C)=some true
 val:W.mroIn K C (.type "ValueError")=some true
 up:W.mroIn K C (.ref J)=some true
 jx:W.mroIn K J (.type "BaseException")=some true
section
variable {K:W.Frag}{mg:Str->Option ag}{x:Str}{C D J:Addr}{b:Bool}
theorem Ef.U9 (o:Ef K mg x D):W.kitCls K (.ref C) (.ref D)=W.mroIn K C (.ref D):=by
 show (if ((W.clsIn K D).isSome && W.typeIn K (.ref D) == some (.type "type"))=true then W.subIn K (.ref C) (.ref D) else none)=_;rw[o.cl,o.ty];rw[if_pos (!4)];rfl
theorem tU.U' (e:tU K C J)(o:Ef K mg x J):W.exmOne K (.ref C) (.ref J)=some true:=by
 unfold W.exmOne;have h:W.subIn K (.ref J) (.type "BaseException")=some true:=e.jx;rw[h,if_pos (!4),o.U9];exact e.up
theorem tU.one (e:tU K C J)(o:Ef K mg x D)(h:W.mroIn K C (.ref D)=some b):W.kitOne K (.ref C) (.ref D)=some b:=by
 unfold W.kitOne;by_cases q:C=D
 .subst q
  have:=e.own;rw[h] at this;rw[if_pos (!4),<- this]
 .rw[if_neg (by simpa using q),o.U9]
  exact h
theorem tU.isVal (e:tU K C J):W.kitOne K (.ref C) (.type "ValueError")=some true:=by
 unfold W.kitOne;rw[if_neg (!4)];show (if W.kitMeta "ValueError" = true then W.subIn K (.ref C) (.type "ValueError") else none)=_;rw[if_pos (!3)];exact e.val
end
noncomputable def yn (es:Array DictEntry):Bool:=es.toList.all λe=>match e.key with | .str _ _=>true | _=>false
theorem Ar (h:yn es=true):StrKeys es:=λe he=>by
 have:=dm.mp h e (by simpa using he);revert this;cases e.key<;>simp
theorem lQ {K:W.Frag}{h:Heap}{mg:Str->Option ag}{x:Str}{D:Addr}{cd:ClassData}(X:K.In h)(G:h.Ns aR mg)(a:W.nsIn K aR x=some (some (.ref D)))(t:W.typeIn K (.ref D)=some (.type "type"))(c:W.clsIn K D=some cd):Ef K mg x D :=
 ⟨W.mg_of X G a,t,by rw[c];rfl⟩
structure RF (K:W.Frag) (C J fI:Addr):Prop where
 obj:∃nm qn N bs rP sn sub ab Gk dd k0 k1 k2 k3 k5,K.lookup C=some (excClassObj nm qn C N bs (.ref J::qb) rP sn sub ab Gk dd k0 k1 k2 k3 k5 "ValueError.__new__")
 init:W.findIn K (.ref C) "__init__" = some (some (.ref fI))
 fn:W.isFn K (.ref fI)=true
 kp:W.keepIn K (.ref C)=true
 ei:tU K C J
theorem RF.mk' {K:W.Frag}{C J fI:Addr}(r:RF K C J fI)(j:NJ K J):O9 K C fI :=
 let ⟨nm,qn,N,bs,rP,sn,sub,ab,Gk,dd,k0,k1,k2,k3,k5,e⟩:=r.obj
 ⟨⟨J,nm,qn,N,bs,rP,sn,sub,ab,Gk,dd,k0,k1,k2,k3,k5,e,j⟩,r.init,r.fn,r.kp,r.ei.ci.cx⟩
section
variable {P:aP}{w:World}{K:W.Frag}{mg:Str->Option ag}{base:Heap}{C J fI:Addr}{fd:bG}{x q f g:Str}{st:Stmt}{sp:Sp}{ps:List Str}
theorem Gu (r:RF K C J fI)(j:NJ K J)(m:mg x=some (.ref C))(F:i5 P w K mg base rq 1 fI fd ps sp)(b:Binds K fd ps []):mB P w K mg base x C sp:=⟨fI,fd,ps,r.mk' j,F,m,b⟩
end
end L2
namespace PySem
theorem tV (l:Addr)(items:Array ag)(n:Nat)(dd:Option Addr)(sl:Array (Option ag))(t:Tok) :
  Meets (Builtin.«tuple.__mul__» ⟨[.ref l,.int 1 t],[]⟩) (λ_ R s=>s.heap.get? l=some { cls:=.type "tuple",dict:=dd,data:=.seq items n,slots:=sl }/\R (.ok (.ret (ag.ref l))) s) :=
 .of_wp λprog w A R s h=>by
  obtain⟨hp,g,d,tk,os⟩:=s;obtain⟨hl,h⟩:=h;have f1:=AutoSeq1.idx_int
  wp_walk
  exact⟨_,rfl,h⟩
end PySem
namespace L2
open PySem PySem.Spec PyProof.Rows
variable {X:Cx}
noncomputable def NP (K:W.Frag):R2:=λx y H Q=>(∃a xs,x=.ref a/\y=.int 1/\ja K H a xs/\Q (.ref a) H)\/K8 K x y H Q
theorem Gv (K:W.Frag)(h:X.K=K:=by rfl):j8 X (binaryOp .Mult) (NP K):=by
 subst h;intro pins s σ H x y v u Q I rx ry h;rcases h with h | h
 .obtain⟨a,xs,rfl,rfl,hx,q⟩:=h
  cases rx;obtain⟨t,rfl⟩:=ry;obtain⟨its,r,ht,hl⟩:=I.tuple hx;obtain⟨⟨cls,dd,data,sl⟩,ho,hc,n,hd⟩:=id ht;simp only at hc hd;subst hc hd
  exact wpAny_binaryOp_repeat_ref (T := "tuple") (U := "int") (!2) ⟨_,ho,rfl⟩ (λs'=>typeIs_int s' 1 t) kf F.fills_int_mul F.slot_int_rmul oq F.slot_int_index.lookup
   (call_meets F.slot_int_rmul (typeIs_int s 1 t) F.entry_int_rmul (F.args_int_rmul_2 _ _) (lL 1 t a its.toArray n dd sl)
    ⟨ho,rfl,⟨_,ho,rfl⟩,call_meets F.slot_tuple_mul ⟨_,ho,rfl⟩ F.entry_tuple_mul (F.args_tuple_mul_2 _ _) (tV a its.toArray n dd sl t) ⟨ho,⟨.ref a,H,I,rfl,q⟩⟩⟩)
 .exact Jo X.K rfl pins s σ H x y v u Q I rx ry h
inductive mQ where
 | s (d:ad)
 | o (ds:List ad)
 | x (c:Str) (as:List ad)
 | d (a:Addr) (t:Bool) (kvs:List (List Int × ad))
structure Xc where
 cl:Str->Addr
 fl:Str->List Str
noncomputable abbrev fm:=List (Option mQ)
structure Fr where
 G:Hp->Int->Prop
 gs:List Addr
 S0:List Addr
 H0:Hp
 fa:V
 fd:List Nat
 xc:Xc
 iA:∀{S:List Addr} {H H':Hp} {n:Int},G H n->Ext S H H'->(∀a∈S,H0 a=none)->G H' n
 v9:∀{H:Hp} {n:Int},G H n->∀a∈gs,H a≠none
 S9:∀{H:Hp} {n:Int},G H n->∀a∈gs,∀φ,H a≠some (.ext φ)
 Ta:∀a∈gs,a∈S0
 yo:∀a∈S0,H0 a≠none
noncomputable def qc (M:Fr)(S:List Addr)(H:Hp):mQ->V->Prop
 | .s d,v=>eE S H d v
 | .o ds,v=>∃a xs,v=.ref a/\H a=some (.lst xs)/\dS S H ds xs/\a∈S/\M.H0 a=none
 | .x c as,v=>∃a dx vs,v=.ref a/\H a=some (.ext (ki a (.ref (M.xc.cl c)) (some dx)))/\H dx=some (.ext (jz dx ((M.xc.fl c).zip vs)))/\dS S H as vs/\a ∉ M.gs/\dx ∉ M.gs
 | .d a t kvs,v=>v=.ref a/\∃xs,H a=some (xm t kvs xs)/\dS S H (kvs.map (·.2)) xs/\(t=false->∀p∈kvs,p.1.length=1)/\a∈S/\M.H0 a=none
structure d5 (M:Fr) (env:fm) (pn:List (ad × V)) (σ:St) (S:List Addr) (H:Hp) (n:Int):Prop where
 val:∀(i:Nat) (e:mQ),env[i]? = some (some e)->∃v,σ[i]? = some (some v)/\qc M S H e v
 ne:∀(i j:Nat) (ds es:List ad) (a:Addr),env[i]? = some (some (.o ds))->env[j]? = some (some (.o es))->σ[i]? = some (some (.ref a))->σ[j]? = some (some (.ref a))->i=j
 len:env.length=σ.length
 Eg:∀i∈M.fd,σ[i]? = some (some M.fa)
 gd:M.G H n
 ext:Ext M.gs M.H0 H
 s0:∀a∈M.S0,a∈S
 sn:∀a∈S,a∈M.S0\/M.H0 a=none
 has:∀a∈S,H a≠none
 pin:∀p∈pn,eE S H p.1 p.2
section
theorem Fr.out (M:Fr)(h:M.H0 a=none):a ∉ M.gs:=λz=>M.yo a (M.Ta a z) h
theorem d5.tq (ok:d5 M env pn σ S H n):∀a∈M.gs,a∈S:=λa h=>ok.s0 a (M.Ta a h)
theorem Ext.some (x:Ext S H H')(ha:a ∉ S)(h:H a≠none):H' a≠none:=by
 cases e:H a with
 | none=>exact absurd e h
 | some o=>rw[x.keep a o ha e];simp
theorem qc.step (hg:∀a∈M.gs,a∈S)(h:qc M S H e v)(x:Ext M.gs H H'):qc M S H' e v:=by
 cases e with
 | s d=>exact eE.ext (x.mono hg) h
 | o ds =>
  obtain⟨a,xs,e,ha,r,hs,h0⟩:=h;exact⟨a,xs,e,x.keep _ _ (M.out h0) ha,r.ext (x.mono hg),hs,h0⟩
 | x c as =>
  obtain⟨a,dx,vs,e,ha,hd,r,g1,g2⟩:=h;exact⟨a,dx,vs,e,x.keep _ _ g1 ha,x.keep _ _ g2 hd,r.ext (x.mono hg),g1,g2⟩
 | d a t kvs =>
  obtain⟨e,xs,ha,r,hk,hs,h0⟩:=h;exact⟨e,xs,x.keep _ _ (M.out h0) ha,r.ext (x.mono hg),hk,hs,h0⟩
theorem d5.step (ok:d5 M env pn σ S H n)(x:Ext M.gs H H')(g:M.G H' n'):d5 M env pn σ S H' n':=by
 refine⟨λi e he=>?_,ok.ne,ok.len,ok.Eg,g,ok.ext.trans x,ok.s0,ok.sn,λa ha=>?_,λp hp=>(ok.pin p hp).ext (x.mono ok.tq)⟩
 .obtain⟨v,hv,r⟩:=ok.val i e he
  exact⟨v,hv,r.step ok.tq x⟩
 .by_cases z:a∈M.gs
  .exact M.v9 g a z
  .exact x.some z (ok.has a ha)
theorem d5.fresh (ok:d5 M env pn σ S H n)(h:H a=none):a ∉ S:=λz=>ok.has a z h
theorem d5.grow (ok:d5 M env pn σ S H n)(x:Ext [] H H'):M.G H' n:=M.iA ok.gd x (!4)
end
theorem eE.fresh (ha:H a=none)(h:eE S H d v):eE (a::S) H d v:=eE.more ha h
theorem dS.fresh (ha:H a=none)(h:dS S H ds vs):dS (a::S) H ds vs:=dS.more ha h
noncomputable def kj (H:Hp):Prop:=∀a xs,H a=some (.lst xs)\/H a=some (.tup xs)->xs.length<=ax
theorem j7.kl (ok:j7 P w H h):kj H:=λa xs e=>by
 rcases e with e | e
 .exact (ok a _ e).1
 .exact (ok a _ e).1
noncomputable def fC (gs S:List Addr)(H:Hp)(d:ad)(v:V):Prop:=eE S H d v\/(∃ds a xs,d=.list ds/\v=.ref a/\H a=some (.lst xs)/\dS S H ds xs/\a ∉ gs)\/∃t kvs a xs,d=iB t kvs/\v=.ref a/\H a=some (xm t kvs xs)/\dS S H (kvs.map (·.2)) xs/\(t=false->∀p∈kvs,p.1.length=1)/\a ∉ gs
section
theorem fC.ext (h:fC gs S H d v)(hg:∀a∈gs,a∈S)(x:Ext gs H H'):fC gs S H' d v:=by
 rcases h with h | ⟨ds,a,xs,e1,e2,e3,r,ha⟩ | ⟨t,kvs,a,xs,e1,e2,e3,r,hk,ha⟩
 .exact .inl (h.ext (x.mono hg))
 .exact .inr (.inl ⟨ds,a,xs,e1,e2,x.keep _ _ ha e3,r.ext (x.mono hg),ha⟩)
 .exact .inr (.inr ⟨t,kvs,a,xs,e1,e2,x.keep _ _ ha e3,r.ext (x.mono hg),hk,ha⟩)
theorem fC.fG (h:fC gs S H (.list ds) v):∃a xs,v=.ref a/\H a=some (.lst xs)/\dS S H ds xs:=by
 rcases h with h | ⟨qF,a,xs,e1,e2,e3,r,_⟩ | ⟨t,kvs,a,xs,e1,_⟩
 .obtain⟨a,xs,e,ha,_,r⟩:=h.fG
  exact⟨a,xs,e,ha,r⟩
 .cases e1
  exact⟨a,xs,e2,e3,r⟩
 .cases e1
theorem fC.pv (h:fC gs S H (.dict l) v):∃a t kvs xs,v=.ref a/\l=mV t kvs/\H a=some (xm t kvs xs)/\(t=false->∀p∈kvs,p.1.length=1)/\dS S H (kvs.map (·.2)) xs:=by
 rcases h with h | ⟨qF,a,xs,e1,_⟩ | ⟨t,kvs,a,xs,e1,e2,e3,r,hk,_⟩
 .obtain⟨a,t,kvs,xs,e,el,ha,_,hk,r⟩:=h.pv
  exact⟨a,t,kvs,xs,e,el,ha,hk,r⟩
 .cases e1
 .cases e1
  exact⟨a,t,kvs,xs,e2,rfl,e3,hk,r⟩
theorem fC.rep (h:fC gs S H d v)(hd:∀ds,d≠.list ds)(HQ:∀l,d≠.dict l:=by intro _ z;cases z):eE S H d v:=by
 rcases h with h | ⟨ds,a,xs,e1,_⟩ | ⟨t,kvs,a,xs,e1,_⟩
 .exact h
 .exact absurd e1 (hd ds)
 .exact absurd e1 (HQ _)
theorem fC.less (h:fC gs S H d v)(hg:∀a∈gs,a∈S):eE gs H d v:=by
 rcases h with h | ⟨ds,a,xs,rfl,rfl,e3,r,ha⟩ | ⟨t,kvs,a,xs,rfl,rfl,e3,r,hk,ha⟩
 .exact h.less hg
 .exact .lst e3 ha (r.less hg)
 .exact .O5 e3 ha hk (r.less hg)
theorem fC.fX (h:fC gs S H (.tuple ds) v):∃a xs,v=.ref a/\H a=some (.tup xs)/\dS S H ds xs:=(h.rep (by intro _ z;cases z)).fX
theorem fC.eP (h:fC gs S H (.int i) v):v=.int i:=(h.rep (by intro _ z;cases z)).eP
theorem fC.lh (h:fC gs S H (.bool i) v):v=.bl i:=(h.rep (by intro _ z;cases z)).lh
theorem fC.kI (h:fC gs S H (.str i) v):v=.str i:=(h.rep (by intro _ z;cases z)).kI
end
noncomputable abbrev UX:=fm->Int->(ad->Int->Prop)->Prop
noncomputable abbrev UT:=fm->Int->(Bool->Int->Prop)->Prop
noncomputable abbrev UA:=fm->Int->(List ad->Int->Prop)->Prop
structure CB where
 nx:fm->Int->Prop
 rt:ad->Int->Prop
noncomputable abbrev US:=CB->fm->Int->Prop
noncomputable def Rl (M:Fr)(u:UX):TE:=λσ H R=>∃env pn S n Q,d5 M env pn σ S H n/\u env n Q/\∀v H' d n',eE S H' d v->Ext M.gs H H'->M.G H' n'->kj H'->Q d n'->R v H'
noncomputable def Gw (M:Fr)(u:UX):TE:=λσ H R=>∃env pn S n Q,d5 M env pn σ S H n/\u env n Q/\∀v H' d n',fC M.gs S H' d v->Ext M.gs H H'->M.G H' n'->kj H'->Q d n'->R v H'
noncomputable def Rm (M:Fr)(u:fm->Int->(List ad->Int->Prop)->Prop):TE:=λσ H R=>∃env pn S n Q,d5 M env pn σ S H n/\u env n Q /\
 ∀a xs H' ds n',H a=none->H' a=some (.lst xs)->dS (a::S) H' ds xs->Ext M.gs H H'->M.G H' n'->kj H'->Q ds n'->R (.ref a) H'
noncomputable def liftT (M:Fr)(u:UT):TT:=λσ H R=>∃env pn S n Q,d5 M env pn σ S H n/\u env n Q/\∀b H' n',Ext M.gs H H'->M.G H' n'->Q b n'->R b H'
noncomputable def Rn (M:Fr)(k:Nat)(u:UA):TA:=λσ H R=>∃env pn S n Q,d5 M env pn σ S H n/\u env n Q/\∀vs H' ds n',vs.length=k->dS S H' ds vs->Ext M.gs H H'->M.G H' n'->kj H'->Q ds n'->R vs H'
noncomputable def jM (gs S:List Addr)(H:Hp):List ad->List V->Prop
 | [],vs=>vs=[]
 | d::ds,vs=>∃v r,vs=v::r/\fC gs S H d v/\jM gs S H ds r
theorem jM.less:∀{ds:List ad} {vs:List V},jM gs S H ds vs->(∀a∈gs,a∈S)->dS gs H ds vs
 | [],_,h,_=>by cases h;exact .nil
 | _::_,_,⟨v,r,e,h1,h2⟩,hg=>by subst e;exact .cons (h1.less hg) (jM.less h2 hg)
noncomputable def Gx (M:Fr)(u:UA):TA:=λσ H R=>∃env pn S n Q,d5 M env pn σ S H n/\u env n Q/\∀vs H' ds n',jM M.gs S H' ds vs->Ext M.gs H H'->M.G H' n'->kj H'->Q ds n'->R vs H'
noncomputable def Gy (M:Fr)(u:US):TS:=λD σ H=>∃env pn S n E,d5 M env pn σ S H n/\u E env n/\(∀eB σ' S' H' n',d5 M eB pn σ' S' H' n'->E.nx eB n'->D.nx σ' H') /\
 (∀v H' d n',eE M.S0 H' d v->Ext M.gs M.H0 H'->M.G H' n'->E.rt d n'->D.rt v H')
structure KE (X:Cx) (M:Fr) (e:Expr) (u:UX):Prop where run:QE X e (Rl M u)
structure KL (X:Cx) (M:Fr) (e:Expr) (u:UX):Prop where run:QE X e (Gw M u)
structure KN (X:Cx) (M:Fr) (e:Expr) (u:fm->Int->(List ad->Int->Prop)->Prop):Prop where run:QE X e (Rm M u)
structure KB (X:Cx) (M:Fr) (e:Expr) (u:UT):Prop where run:QT X e (liftT M u)
structure KW (X:Cx) (M:Fr) (e:Expr) (u:UT):Prop where run:QW X e (liftT M u)
structure KA (X:Cx) (M:Fr) (es:List Expr) (u:UA):Prop where run:QA X es (Rn M es.length u)
structure Lg (X:Cx) (M:Fr) (es:List Expr) (u:UA):Prop where run:QA X es (Gx M u)
structure KS (X:Cx) (M:Fr) (st:Stmt) (u:US):Prop where run:QS X st (Gy M u)
structure zD (X:Cx) (M:Fr) (st:List Stmt) (u:US):Prop where run:uG X st (Gy M u)
section
variable {X:Cx}{M:Fr}{e:Expr}{es:List Expr}{t:TE}{tT:TT}{ta:TA}{u:UX}
theorem As {A B C D E:Type}{P:A->B->C->D->E->Prop}{r:Prop}(h:∃a b c d e,P a b c d e)(k:∀a b c d e,P a b c d e->r):r:=by
 obtain⟨a,b,c,d,e,p⟩:=h;exact k a b c d e p
theorem Tb {A B C D E F:Type}{P:A->B->C->D->E->F->Prop}{r:Prop}(h:∃a b c d e f,P a b c d e f)(k:∀a b c d e f,P a b c d e f->r):r:=by
 obtain⟨a,b,c,d,e,f,p⟩:=h;exact k a b c d e f p
theorem QE.kl (h:QE X e t):QE X e (λσ H R=>t σ H λv H1=>kj H1->R v H1) :=
 ⟨λpins s σ H Q I q=>fM (h.run pins s σ H _ I q) λv s1 ⟨x,H1,I1,r1,q1⟩=>⟨x,H1,I1,r1,q1 I1.hok.kl⟩⟩
theorem QA.kl (h:QA X es ta):QA X es (λσ H R=>ta σ H λv H1=>kj H1->R v H1) :=
 ⟨λpos pins s σ H Q I q=>fM (h.run pos pins s σ H _ I q) λv s1 ⟨x,H1,I1,r1,q1⟩=>⟨x,H1,I1,r1,q1 I1.hok.kl⟩,h.ns⟩
theorem KE.of (h:QE X e t)(k:∀σ H R env pn S n Q,d5 M env pn σ S H n->u env n Q->(∀v H' d n',eE S H' d v->Ext M.gs H H'->M.G H' n'->Q d n'->R v H')->t σ H R):KE X M e u :=
 ⟨h.kl.weaken λσ H R h=>As h λenv pn S n Q h=>k σ H _ env pn S n Q h.1 h.2.1 λv H' d n' r x g qq sz=>h.2.2 v H' d n' r x g sz qq⟩
theorem KL.of (h:QE X e t)(k:∀σ H R env pn S n Q,d5 M env pn σ S H n->u env n Q->(∀v H' d n',fC M.gs S H' d v->Ext M.gs H H'->M.G H' n'->Q d n'->R v H')->t σ H R):KL X M e u :=
 ⟨h.kl.weaken λσ H R h=>As h λenv pn S n Q h=>k σ H _ env pn S n Q h.1 h.2.1 λv H' d n' r x g qq sz=>h.2.2 v H' d n' r x g sz qq⟩
theorem KN.of {u:fm->Int->(List ad->Int->Prop)->Prop}(h:QE X e t)(k:∀σ H R env pn S n Q,d5 M env pn σ S H n->u env n Q->(∀a xs H' ds n',H a=none->H' a=some (.lst xs)->dS (a::S) H' ds xs->Ext M.gs H H'->M.G H' n'->Q ds n'->R (.ref a) H')->t σ H R):KN X M e u :=
 ⟨h.kl.weaken λσ H R h=>As h λenv pn S n Q h=>k σ H _ env pn S n Q h.1 h.2.1 λa xs H' ds n' h0 h1 r x g qq sz=>h.2.2 a xs H' ds n' h0 h1 r x g sz qq⟩
theorem KA.of {u:UA}(h:QA X es ta)(k:∀σ H R env pn S n Q,d5 M env pn σ S H n->u env n Q->(∀v H' d n',v.length=es.length->dS S H' d v->Ext M.gs H H'->M.G H' n'->Q d n'->R v H')->ta σ H R):KA X M es u :=
 ⟨h.kl.weaken λσ H R h=>As h λenv pn S n Q h=>k σ H _ env pn S n Q h.1 h.2.1 λv H' d n' hl r x g qq sz=>h.2.2 v H' d n' hl r x g sz qq⟩
theorem Lg.of {u:UA}(h:QA X es ta)(k:∀σ H R env pn S n Q,d5 M env pn σ S H n->u env n Q->(∀v H' d n',jM M.gs S H' d v->Ext M.gs H H'->M.G H' n'->Q d n'->R v H')->ta σ H R):Lg X M es u :=
 ⟨h.kl.weaken λσ H R h=>As h λenv pn S n Q h=>k σ H _ env pn S n Q h.1 h.2.1 λv H' d n' r x g qq sz=>h.2.2 v H' d n' r x g sz qq⟩
theorem QT.weaken {t t':TT}(h:QT X e t)(w:∀σ H Q,t' σ H Q->t σ H Q):QT X e t':=⟨λpins s σ H Q I q=>h.run pins s σ H Q I (w σ H Q q)⟩
theorem QW.weaken {t t':TT}(h:QW X e t)(w:∀σ H Q,t' σ H Q->t σ H Q):QW X e t':=⟨λwh pins s σ H Q I q=>h.run wh pins s σ H Q I (w σ H Q q)⟩
theorem QS.weaken {st:Stmt}{t t':TS}(h:QS X st t)(w:∀D σ H,t' D σ H->t D σ H):QS X st t':=⟨λpins s σ H D I q=>h.run pins s σ H D I (w D σ H q)⟩
theorem uG.weaken {st:List Stmt}{t t':TS}(h:uG X st t)(w:∀D σ H,t' D σ H->t D σ H):uG X st t':=⟨λpins s σ H D I q=>h.run pins s σ H D I (w D σ H q)⟩
theorem KB.of {u:UT}(h:QT X e tT)(k:∀σ H R env pn S n Q,d5 M env pn σ S H n->u env n Q->(∀b H' n',Ext M.gs H H'->M.G H' n'->Q b n'->R b H')->tT σ H R):KB X M e u :=
 ⟨h.weaken λσ H R h=>As h λenv pn S n Q h=>k σ H _ env pn S n Q h.1 h.2.1 h.2.2⟩
theorem KW.of {u:UT}(h:QW X e tT)(k:∀σ H R env pn S n Q,d5 M env pn σ S H n->u env n Q->(∀b H' n',Ext M.gs H H'->M.G H' n'->Q b n'->R b H')->tT σ H R):KW X M e u :=
 ⟨h.weaken λσ H R h=>As h λenv pn S n Q h=>k σ H _ env pn S n Q h.1 h.2.1 h.2.2⟩
theorem KE.loose (h:KE X M e u):KL X M e u:=.of h.run λσ H R env pn S n Q ok hu k=>⟨env,pn,S,n,Q,ok,hu,λv H' d n' r x g _ q=>k v H' d n' (.inl r) x g q⟩
noncomputable def uL (u:fm->Int->(List ad->Int->Prop)->Prop):UX:=λenv n Q=>u env n λds n'=>Q (.list ds) n'
theorem KN.data {u:fm->Int->(List ad->Int->Prop)->Prop}(h:KN X M e u):KE X M e (uL u):=.of h.run λσ H R env pn S n Q ok hu k =>
 ⟨env,pn,S,n,_,ok,hu,λa xs H' ds n' h0 h1 r x g _ q=>k _ H' _ n' (.lst h1 (ok.fresh h0) (r.less λ_ h=>ao _ h)) x g q⟩
end
noncomputable def pf {α:Type}(o:Option α)(Q:α->Prop):Prop:=∃d,o=some d/\Q d
@[simp] theorem dJ {α:Type} (d:α) (Q:α->Prop):pf (some d) Q=Q d:=by simp[pf]
@[simp] theorem Ro {α:Type} (Q:α->Prop):pf (none:Option α) Q=False:=by simp[pf]
noncomputable def dU (i:Nat):UX:=λenv n Q=>match env[i]? with | some (some (.s d))=>Q d n | _=>False
noncomputable def dI (i:Nat):UX:=λenv n Q=>match env[i]? with | some (some (.s d))=>Q d n | some (some (.o ds))=>Q (.list ds) n | some (some (.d _ t kvs))=>Q (iB t kvs) n | _=>False
noncomputable def uC (d:ad):UX:=λ_ n Q=>Q d n
section
theorem gC (i:Nat)(hN:X.N[i]? = some x:=by rfl)(hv:tH X.env.scope x:=by (first | exact Or.inl rfl | exact Or.inr (Or.inl rfl) | exact Or.inr (Or.inr rfl)))(hd:(x == ("__debug__" : Str))=false:=by decide)
  (ic:(x == ("__classdict__" : Str))=false:=by decide):KE X M (.Name x pos) (dU i):=.of (qv i hN hv hd ic) λσ H R env pn S n Q ok hu k=>by
 unfold dU at hu
 cases e:env[i]? with
 | none=>rw[e] at hu;exact hu.elim
 | some o =>
  cases o with
  | none=>rw[e] at hu;exact hu.elim
  | some en =>
   cases en with
   | o ds=>rw[e] at hu;exact hu.elim
   | x c as=>rw[e] at hu;exact hu.elim
   | d a t kvs=>rw[e] at hu;exact hu.elim
   | s d =>
    rw[e] at hu;obtain⟨v,hv,r⟩:=ok.val i _ e;exact⟨v,hv,k v H d n r (.refl _ _) ok.gd hu⟩
theorem fK (i:Nat)(hN:X.N[i]? = some x:=by rfl)(hv:tH X.env.scope x:=by (first | exact Or.inl rfl | exact Or.inr (Or.inl rfl) | exact Or.inr (Or.inr rfl)))(hd:(x == ("__debug__" : Str))=false:=by decide)
  (ic:(x == ("__classdict__" : Str))=false:=by decide):KL X M (.Name x pos) (dI i):=.of (qv i hN hv hd ic) λσ H R env pn S n Q ok hu k=>by
 unfold dI at hu
 cases e:env[i]? with
 | none=>rw[e] at hu;exact hu.elim
 | some o =>
  cases o with
  | none=>rw[e] at hu;exact hu.elim
  | some en =>
   rw[e] at hu;obtain⟨v,hv,r⟩:=ok.val i _ e
   cases en with
   | o ds =>
    obtain⟨a,xs,rfl,ha,r,hs,h0⟩:=r;exact⟨_,hv,k _ H _ n (.inr (.inl ⟨ds,a,xs,rfl,rfl,ha,r,M.out h0⟩)) (.refl _ _) ok.gd hu⟩
   | s d=>exact⟨v,hv,k v H d n (.inl r) (.refl _ _) ok.gd hu⟩
   | x c as=>exact hu.elim
   | d a t kvs =>
    obtain⟨rfl,xs,ha,r,hk,hs,h0⟩:=r;exact⟨_,hv,k _ H _ n (.inr (.inr ⟨t,kvs,a,xs,rfl,rfl,ha,r,hk,M.out h0⟩)) (.refl _ _) ok.gd hu⟩
theorem Rp (h:QE X e (tC v))(r:∀S H,eE S H d v):KE X M e (uC d):=.of h λσ H R env pn S n Q ok hu k=>k v H d n (r S H) (.refl _ _) ok.gd hu
theorem d6 {i j pos}:KE X M (.Constant (.int i) j pos) (uC (.int i)):=Rp eG λ_ _=>.int i
theorem qw {i j pos}:KE X M (.Constant (.bool i) j pos) (uC (.bool i)):=Rp FQ λ_ _=>.bl i
theorem Rq {j pos}:KE X M (.Constant .none j pos) (uC .none):=Rp Nj λ_ _=>.gT
theorem CC {x j pos}:KE X M (.Constant (.str x) j pos) (uC (.str x)):=Rp Nk λ_ _=>.str x
theorem Va (hm:∃t,X.mg x=some (.int i t))(hg:Gl X x:=by rfl)(hd:(x == ("__debug__" : Str))=false:=by decide):KE X M (.Name x pos) (uC (.int i)):=Rp (FY hg hm hd) λ_ _=>.int i
end
noncomputable def dN:UA:=λ_ n Q=>Q [] n
noncomputable def dH (u:UX)(r:UA):UA:=λenv n Q=>u env n λd n1=>r env n1 λds n2=>Q (d::ds) n2
section
variable {X:Cx}{M:Fr}{e a b:Expr}{es:List Expr}{u ua ub:UX}{ur:UA}{pos:Pos}
theorem dO:KA X M [] dN:=.of eY λσ H R env pn S n Q ok hu k=>k [] H [] n rfl .nil (.refl _ _) ok.gd hu
theorem dW (h:KE X M e u)(hr:KA X M es ur)(hs:e9 e=true:=by rfl):KA X M (e::es) (dH u ur):=.of (gB h.run hr.run hs) λσ H R env pn S n Q ok hu k =>
 ⟨env,pn,S,n,_,ok,hu,λv H1 d n1 r1 x1 g1 _ q1=>⟨env,pn,S,n1,_,ok.step x1 g1,q1,λvs H2 ds n2 hl r2 x2 g2 _ q2=>k _ H2 _ n2 (by simp[hl]) (.cons (r1.ext (x2.mono ok.tq)) r2) (x1.trans x2) g2 q2⟩⟩
theorem fP:Lg X M [] dN:=.of eY λσ H R env pn S n Q ok hu k=>k [] H [] n rfl (.refl _ _) ok.gd hu
theorem ig (h:KL X M e u)(hr:Lg X M es ur)(hs:e9 e=true:=by rfl):Lg X M (e::es) (dH u ur):=.of (gB h.run hr.run hs) λσ H R env pn S n Q ok hu k =>
 ⟨env,pn,S,n,_,ok,hu,λv H1 d n1 r1 x1 g1 _ q1=>⟨env,pn,S,n1,_,ok.step x1 g1,q1,λvs H2 ds n2 r2 x2 g2 _ q2=>k _ H2 (d::ds) n2 ⟨_,_,rfl,r1.ext ok.tq x2,r2⟩ (x1.trans x2) g2 q2⟩⟩
noncomputable def fD (ur:UA):UX:=λenv n Q=>ur env n λds n1=>Q (.tuple ds) n1
theorem gw {x1}(h:KA X M es ur)(hl:es.length<=ax:=by decide):KE X M (.Tuple es x1 pos) (fD ur) :=
 .of (FU h.run) λσ H R env pn S n Q ok hu k=>⟨env,pn,S,n,_,ok,hu,λvs H1 ds n1 el r1 x1 g1 sz q1=>⟨by rw[el];exact hl,λp hp =>
  have x2:=Ext.new (S:=[]) (o:=.tup vs) hp
  k _ _ _ n1 (.tup dP (r1.ext (x2.mono (!4)))) (x1.trans (x2.mono (!4))) (M.iA g1 x2 (!4)) q1⟩⟩
theorem j4 (h:KA X M es ur)(hl:es.length<=ax:=by decide):KN X M (.List es pos) ur :=
 .of (z4 h.run) λσ H R env pn S n Q ok hu k=>⟨env,pn,S,n,_,ok,hu,λvs H1 ds n1 el r1 x1 g1 sz q1=>⟨by rw[el];exact hl,λp hp =>
  have x2:=Ext.new (S:=[]) (o:=.lst vs) hp
  have Yx:H p=none:=by
   by_cases z:p∈M.gs
   .exact absurd hp (M.v9 g1 p z)
   .exact x1.fresh z hp
  k p vs _ _ n1 Yx dP ((r1.fresh hp).ext (x2.mono (!4))) (x1.trans (x2.mono (!4))) (M.iA g1 x2 (!4)) q1⟩⟩
end
theorem RelV.one (h:RelV v u)(k:RelV w u):v=w:=by
 cases v<;>cases w<;>simp only[RelV] at h k<;>first | rfl | (obtain⟨t,rfl⟩:=h;obtain⟨t',e⟩:=k;cases e;rfl) | (subst h;cases k;rfl) | (subst h;obtain⟨t',e⟩:=k;cases e) | (obtain⟨t,rfl⟩:=h;obtain⟨t',e⟩:=k;cases e;done) | (obtain⟨t,rfl⟩:=h;cases k;done) | (subst h;cases k;done)
theorem CD:∀{kvs ij:List (List Int × ad)} {xs nW:List V},xs.length=kvs.length->nW.length=ij.length->E4 kvs xs=E4 ij nW->xs=nW/\kvs.map (λp=>p.1.headD 0)=ij.map (λp=>p.1.headD 0)
 | [],[],[],[],_,_,_=>⟨rfl,rfl⟩
 | [],[],_::_,_,h,_,_=>by simp at h
 | [],[],[],_::_,_,h,_=>by simp at h
 | [],p::_,_,[],_,h,_=>by simp at h
 | [],p::_,[],_::_,_,_,h=>by simp[E4] at h
 | [],p::_,_::_,_::_,h,_,_=>by simp at h
 | p::_,[],[],_,h,_,_=>by simp at h
 | p::_,[],_::_,[],_,_,h=>by simp[E4] at h
 | p::_,[],_::_,_::_,_,h,_=>by simp at h
 | p::_,q::_,[],_,h,_,_=>by simp at h
 | p::_,q::_,_::_,[],_,h,_=>by simp at h
 | p::kvs,q::ij,x::xs,y::ys,h1,h2,h=>by
  rw[E4,E4] at h;injection h with e1 e2;injection e1 with e3 e4;injection e3 with e3;obtain⟨a,b⟩:=CD (by simpa using h1) (by simpa using h2) e2;rw[e4,a,aj,aj,b];exact⟨rfl,by rw[e3]⟩
theorem CF:∀{a b:List Int},(a.map Sum.inl:List Key)=b.map Sum.inl->a=b
 | [],[],_=>rfl
 | [],_::_,h=>by cases h
 | _::_,[],h=>by cases h
 | x::a,y::b,h=>by
  rw[aj,aj] at h;injection h with h1 h2;injection h1 with h1;rw[h1,CF h2]
theorem CG:∀{kvs ij:List (List Int × ad)} {xs nW:List V},xs.length=kvs.length->nW.length=ij.length->HV kvs xs=HV ij nW->xs=nW/\kvs.map (λp=>p.1)=ij.map (λp=>p.1)
 | [],[],[],[],_,_,_=>⟨rfl,rfl⟩
 | [],[],_::_,_,h,_,_=>by simp at h
 | [],[],[],_::_,_,h,_=>by simp at h
 | [],p::_,_,[],_,h,_=>by simp at h
 | [],p::_,[],_::_,_,_,h=>by simp[HV] at h
 | [],p::_,_::_,_::_,h,_,_=>by simp at h
 | p::_,[],[],_,h,_,_=>by simp at h
 | p::_,[],_::_,[],_,_,h=>by simp[HV] at h
 | p::_,[],_::_,_::_,_,h,_=>by simp at h
 | p::_,q::_,[],_,h,_,_=>by simp at h
 | p::_,q::_,_::_,[],_,h,_=>by simp at h
 | p::kvs,q::ij,x::xs,y::ys,h1,h2,h=>by
  rw[HV,HV] at h;injection h with e1 e2;injection e1 with e3 e4;obtain⟨a,b⟩:=CG (by simpa using h1) (by simpa using h2) e2;rw[e4,a,aj,aj,b];exact⟨rfl,by rw[CF e3]⟩
theorem CH:∀{l l':List (List Int × ad)},l.map (λp=>p.1)=l'.map (λp=>p.1)->l.map (·.2)=l'.map (·.2)->l=l'
 | [],[],_,_=>rfl
 | [],_::_,h,_=>by cases h
 | _::_,[],h,_=>by cases h
 | (a,b)::l,(c,d)::l',h,k=>by
  rw[aj,aj] at h k;injection h with h1 h2;injection k with k1 k2;have h1:a=c:=h1;have k1:b=d:=k1;rw[CH h2 k2,h1,k1]
theorem uY {l:List (List Int × ad)}(h:∀p∈l,p.1.length=1):l.map (λp=>p.1)=(l.map λp=>p.1.headD 0).map λi=>[i]:=by
 rw[bu];refine cA λp hp=>?_
 match p,h p hp with
 | ([i],_),_=>rfl
theorem JB {t t':Bool}{kvs ij:List (List Int × ad)}{xs nW:List V}(h1:xs.length=kvs.length)(h2:nW.length=ij.length)(k1:t=false->∀p∈kvs,p.1.length=1)(k2:t'=false->∀p∈ij,p.1.length=1)(h:xm t kvs xs=xm t' ij nW):t=t'/\xs=nW/\kvs.map (λp=>p.1)=ij.map (λp=>p.1):=by
 cases t with
 | true=>cases t' with
  | true =>
   injection h with h;exact⟨rfl,CG h1 h2 h⟩
  | false=>cases h
 | false=>cases t' with
  | true=>cases h
  | false =>
   injection h with h;obtain⟨a,b⟩:=CD h1 h2 h;exact⟨rfl,a,by rw[uY (k1 rfl),uY (k2 rfl),b]⟩
mutual
theorem eE.one {S:List Addr}{H:Hp}:∀{d d':ad} {v:V},eE S H d v->eE S H d' v->d=d'
 | .none,d',v,h,k=>by cases h.vP;cases d'<;>simp[eE] at k;rfl
 | .bool b,d',v,h,k=>by cases h.lh;cases d'<;>simp[eE] at k;rw[k]
 | .int b,d',v,h,k=>by cases h.eP;cases d'<;>simp[eE] at k;rw[k]
 | .str b,d',v,h,k=>by cases h.kI;cases d'<;>simp[eE] at k;rw[k]
 | .tuple ds,d',v,h,k=>by
  obtain⟨a,xs,rfl,ha,r⟩:=h.fX
  cases d' with
  | tuple es =>
   obtain⟨b,ys,e,hb,r'⟩:=k.fX;cases e;rw[ha] at hb;cases hb;rw[dS.one r r']
  | list es=>obtain⟨b,ys,e,hb,_⟩:=k.fG;cases e;rw[ha] at hb;cases hb
  | dict es=>obtain⟨b,t,kvs,ys,e,_,hb,_⟩:=k.pv;cases e;rw[ha] at hb;exact (Cf hb).elim
  | _=>simp[eE] at k
 | .list ds,d',v,h,k=>by
  obtain⟨a,xs,rfl,ha,_,r⟩:=h.fG
  cases d' with
  | list es =>
   obtain⟨b,ys,e,hb,_,r'⟩:=k.fG;cases e;rw[ha] at hb;cases hb;rw[dS.one r r']
  | tuple es=>obtain⟨b,ys,e,hb,_⟩:=k.fX;cases e;rw[ha] at hb;cases hb
  | dict es=>obtain⟨b,t,kvs,ys,e,_,hb,_⟩:=k.pv;cases e;rw[ha] at hb;exact (og hb).elim
  | _=>simp[eE] at k
 | .dict l,d',v,h,k=>by
  have h':=h;unfold eE at h';obtain⟨a,t,kvs,xs,rfl,rfl,ha,hs,hk,hr⟩:=h';have hl:xs.length=kvs.length:=by have:=(gn.DO.mp hr).length;rw[iF,ap,ap,ak] at this;omega
  cases d' with
  | tuple es=>obtain⟨b,ys,e,hb,_⟩:=k.fX;cases e;rw[ha] at hb;exact (Cf hb.symm).elim
  | list es=>obtain⟨b,ys,e,hb,_⟩:=k.fG;cases e;rw[ha] at hb;exact (og hb.symm).elim
  | dict l' =>
   unfold eE at k;obtain⟨b,t',ij,ys,e,rfl,hb,_,Eh,WI⟩:=k;cases e;rw[ha] at hb;have NA:ys.length=ij.length:=by have:=(gn.DO.mp WI).length;rw[iF,ap,ap,ak] at this;omega
   obtain⟨rfl,rfl,Ib⟩:=JB hl NA hk Eh (Option.some.inj hb);have:=gn.one hr WI;rw[iF,iF] at this;injection this with _ this;rw[CH Ib this]
  | _=>simp[eE] at k
theorem dS.one {S:List Addr}{H:Hp}:∀{ds qF:List ad} {vs:List V},dS S H ds vs->dS S H qF vs->ds=qF
 | [],qF,vs,h,k=>by
  cases h.fB
  cases qF with
  | nil=>rfl
  | cons d ds=>obtain⟨x,r,e,_⟩:=k.of_cons;cases e
 | d::ds,qF,vs,h,k=>by
  obtain⟨x,r,rfl,h1,h2⟩:=h.of_cons
  cases qF with
  | nil=>cases k.fB
  | cons d' qF =>
   obtain⟨x',r',e,k1,k2⟩:=k.of_cons;cases e;rw[eE.one h1 k1,dS.one h2 k2]
theorem gn.one {S:List Addr}{H:Hp}:∀{l l':List (ad × ad)} {vs:List V},gn S H l vs->gn S H l' vs->l.map (·.2)=l'.map (·.2)
 | [],l',vs,h,k=>by
  unfold gn at h;subst h
  cases l' with
  | nil=>rfl
  | cons p l=>unfold gn at k;obtain⟨x,r,e,_⟩:=k;cases e
 | (_,d)::l,l',vs,h,k=>by
  unfold gn zY at h;obtain⟨x,r,rfl,h1,h2⟩:=h
  cases l' with
  | nil=>unfold gn at k;cases k
  | cons p l' =>
   unfold gn at k;obtain⟨x',r',e,k1,k2⟩:=k;cases e;have Yy:eE S H p.2 x:=by cases p;unfold zY at k1;exact k1
   rw[aj,aj,gn.one h2 k2];show d::_=p.2::_;rw[eE.one h1 Yy]
end
structure xn (X:Cx) (f:ag->ag->Sem ag) (op:ad->ad->Option ad):Prop where
 ex:∃r,j8 X f r/\∀gs S H dx dy x y d (R:VK),(∀a∈S,H a≠none)->kj H->fC gs S H dx x->fC gs S H dy y->op dx dy=some d->(∀v H',eE S H' d v->Ext [] H H'->R v H')->r x y H R
noncomputable def eJ (f:ad->ad->Option ad)(ua ub:UX):UX:=λenv n Q=>ua env n λx n1=>ub env n1 λy n2=>pf (f x y) λd=>Q d n2
noncomputable def Tc (d:ad)(Q:Bool->Prop):Prop:=match d with | .bool b=>Q b | _=>False
@[simp] theorem eU (b:Bool) (Q:Bool->Prop):Tc (.bool b) Q=Q b:=rfl
noncomputable def fj (u:UX):UT:=λenv n Q=>u env n λd n'=>Tc d λb=>Q b n'
section
variable {X:Cx}{M:Fr}{a b c e:Expr}{ua ub uc:UX}{pos:Pos}{f:ad->ad->Option ad}
theorem CI
  (hr:∀gs S H dx dy x y d (R:VK),(∀a∈S,H a≠none)->kj H->fC gs S H dx x->fC gs S H dy y->f dx dy=some d->(∀v H',eE S H' d v->Ext [] H H'->R v H')->r x y H R)
  (ok:d5 M env pn σ S H n) (hu:eJ f ua ub env n Q) (k:∀v H' d n',eE S H' d v->Ext M.gs H H'->M.G H' n'->Q d n'->R v H'):ID r (Gw M ua) (Gw M ub) σ H R :=
 ⟨env,pn,S,n,_,ok,hu,λx H1 dx n1 r1 x1 g1 _ q1=>⟨env,pn,S,n1,_,ok.step x1 g1,q1,λy H2 dy n2 r2 x2 g2 sz q2=>by
  obtain⟨d,e,q⟩:=q2;exact hr M.gs S H2 dx dy x y d R ((ok.step x1 g1).step x2 g2).has sz (r1.ext ok.tq x2) r2 e λv H3 r3 x3=>k v H3 d n2 r3 ((x1.trans x2).trans (x3.mono (!4))) (M.iA g2 x3 (!4)) q⟩⟩
theorem jA (ho:xn X (binaryOp op) f)(ha:KL X M a ua)(hb:KL X M b ub):KE X M (.BinOp a op b pos) (eJ f ua ub):=by
 obtain⟨r,h1,h2⟩:=ho.ex;exact .of (gO h1 ha.run hb.run) λσ H R env pn S n Q ok hu k=>CI h2 ok hu k
theorem yp (ho:xn X (compareOp op) f)(ha:KL X M a ua)(hb:KL X M b ub)(hm:behindInMarks op b=false:=by first | exact lF _ | rfl):KE X M (.Compare a [op] [b] pos) (eJ f ua ub):=by
 obtain⟨r,h1,h2⟩:=ho.ex;exact .of (Ji h1 ha.run hb.run hm) λσ H R env pn S n Q ok hu k=>CI h2 ok hu k
theorem gH (ho:xn X (compareOp op) f)(ha:KL X M a ua)(hb:KL X M b ub)(hm:behindInMarks op b=false:=by first | exact lF _ | rfl):KB X M (.Compare a [op] [b] pos) (fj (eJ f ua ub)):=by
 obtain⟨r,h1,h2⟩:=ho.ex;refine .of (oj h1 ha.run hb.run hm) λσ H R env pn S n Q ok hu k=>CI (R:=λx H'=>∃k,x=.bl k/\R k H') h2 ok hu λv H' d n' r x g q=>?_
 cases d with
 | bool b=>exact⟨b,r.lh,k b H' n' x g q⟩
 | _=>exact False.elim q
theorem rT (h:KE X M e ua)(he:∀mS,isTrue e X.env mS=(do let v <- mS;standAt e.pos;holding [v] (truthy v)):=by rw[3]):KB X M e (fj ua) :=
 .of (zZ h.run he) λσ H R env pn S n Q ok hu k=>⟨env,pn,S,n,_,ok,hu,λv H' d n' r x g _ q=>by
  cases d with
  | bool b=>exact⟨b,r.lh,k b H' n' x g q⟩
  | _=>exact False.elim q⟩
noncomputable def rV (u w:UT):UT:=λenv n Q=>u env n λb n1=>if b=true then w env n1 Q else Q false n1
noncomputable def Vb (u w:UT):UT:=λenv n Q=>u env n λb n1=>if b=true then Q true n1 else w env n1 Q
noncomputable def Gz (u:UT):UT:=λenv n Q=>u env n λb n1=>Q (!b) n1
variable {u w:UT}{rest:List Expr}
theorem rW (h:KB X M a u):KW X M (.BoolOp .And [a] pos) u:=⟨Ci h.run⟩
theorem Rr (h:KB X M a u):KW X M (.BoolOp .Or [a] pos) u:=⟨Nl h.run⟩
theorem w_and (ha:KB X M a u)(hb:KW X M (.BoolOp .And (b::rest) pos) w):KW X M (.BoolOp .And (a::b::rest) pos) (rV u w) :=
 .of (FR ha.run hb.run) λσ H R env pn S n Q ok hu k=>⟨env,pn,S,n,_,ok,hu,λc H1 n1 x1 g1 q=>by
  cases c with
  | true=>exact⟨env,pn,S,n1,Q,ok.step x1 g1,q,λb H2 n2 x2 g2 q2=>k b H2 n2 (x1.trans x2) g2 q2⟩
  | false=>exact k false H1 n1 x1 g1 q⟩
theorem w_or (ha:KB X M a u)(hb:KW X M (.BoolOp .Or (b::rest) pos) w):KW X M (.BoolOp .Or (a::b::rest) pos) (Vb u w) :=
 .of (QM ha.run hb.run) λσ H R env pn S n Q ok hu k=>⟨env,pn,S,n,_,ok,hu,λc H1 n1 x1 g1 q=>by
  cases c with
  | false=>exact⟨env,pn,S,n1,Q,ok.step x1 g1,q,λb H2 n2 x2 g2 q2=>k b H2 n2 (x1.trans x2) g2 q2⟩
  | true=>exact k true H1 n1 x1 g1 q⟩
theorem KW.kb (h:KW X M e u):KB X M e u:=⟨h.run.pt⟩
theorem Lh (h:KB X M a u):KB X M (.UnaryOp .Not a pos) (Gz u):=.of (Nm h.run) λσ H R env pn S n Q ok hu k=>⟨env,pn,S,n,_,ok,hu,λc H1 n1 x1 g1 q=>k _ H1 n1 x1 g1 q⟩
noncomputable def yq (ua ub:UX):UX:=λenv n Q=>ua env n λx n1=>Tc x λb=>if b=true then ub env n1 Q else Q (.bool false) n1
noncomputable def CJ (ua:UX):UX:=λenv n Q=>ua env n λx n1=>Tc x λb=>Q (.bool (!b)) n1
theorem k_one {op}(h:KE X M a ua):KE X M (.BoolOp op [a] pos) ua:=⟨Nn h.run⟩
theorem Li (ha:KE X M a ua)(hb:KE X M (.BoolOp .And (b::rest) pos) ub):KE X M (.BoolOp .And (a::b::rest) pos) (yq ua ub) :=
 .of (Np ha.run hb.run) λσ H R env pn S n Q ok hu k=>⟨env,pn,S,n,_,ok,hu,λv H1 d n1 r1 x1 g1 _ q=>by
  cases d with
  | bool c =>
   refine⟨c,r1.lh,?_⟩
   cases c with
   | true=>exact⟨env,pn,S,n1,Q,ok.step x1 g1,q,λv H2 d n2 r2 x2 g2 _ q2=>k v H2 d n2 r2 (x1.trans x2) g2 q2⟩
   | false=>exact k _ H1 _ n1 (.bl false) x1 g1 q
  | _=>exact False.elim q⟩
theorem k_not (ha:KE X M a ua):KE X M (.UnaryOp .Not a pos) (CJ ua) :=
 .of (z3 ha.run) λσ H R env pn S n Q ok hu k=>⟨env,pn,S,n,_,ok,hu,λv H1 d n1 r1 x1 g1 _ q=>by
  cases d with
  | bool c=>exact⟨c,r1.lh,k _ H1 _ n1 (.bl _) x1 g1 q⟩
  | _=>exact False.elim q⟩
noncomputable def Lj (t:UT)(ua ub:UX):UX:=λenv n Q=>t env n λc n1=>if c=true then ua env n1 Q else ub env n1 Q
theorem JC (hc:KB X M c u)(ha:KE X M a ua)(hb:KE X M b ub):KE X M (.IfExp c a b pos) (Lj u ua ub) :=
 .of (FT hc.run ha.run hb.run) λσ H R env pn S n Q ok hu k=>⟨env,pn,S,n,_,ok,hu,λc H1 n1 x1 g1 q=>by
  cases c with
  | true=>exact⟨env,pn,S,n1,Q,ok.step x1 g1,q,λv H2 d n2 r2 x2 g2 _ q2=>k v H2 d n2 r2 (x1.trans x2) g2 q2⟩
  | false=>exact⟨env,pn,S,n1,Q,ok.step x1 g1,q,λv H2 d n2 r2 x2 g2 _ q2=>k v H2 d n2 r2 (x1.trans x2) g2 q2⟩⟩
noncomputable def NQ:ad->Option ad | .int i=>some (.int (-i)) | _=>none
noncomputable def WJ (f:ad->Option ad)(ua:UX):UX:=λenv n Q=>ua env n λx n1=>pf (f x) λd=>Q d n1
theorem Rt (ha:KE X M a ua):KE X M (.UnaryOp .USub a pos) (WJ NQ ua) :=
 .of (QL MI ha.run) λσ H R env pn S n Q ok hu k=>⟨env,pn,S,n,_,ok,hu,λv H1 d n1 r1 x1 g1 _ q=>by
  obtain⟨d',e,q⟩:=q
  cases d with
  | int i=>cases e;exact⟨i,r1.eP,k _ H1 _ n1 (.int _) x1 g1 q⟩
  | _=>cases e⟩
end
noncomputable def jf:ad->ad->Option ad
 | .int i,.int j=>some (.int (i+j))
 | .tuple xs,.tuple ys=>if xs.length+ys.length<=ax then some (.tuple (xs++ys)) else none
 | .list xs,.list ys=>if xs.length+ys.length<=ax then some (.list (xs++ys)) else none
 | .str x,.str y=>if x.length+y.length<=ax then some (.str (x++y)) else none
 | _,_=>none
noncomputable def tW:ad->ad->Option ad | .int i,.int j=>some (.int (i - j)) | _,_=>none
instance (i j:Int):Decidable (zI i j):=by unfold zI;infer_instance
instance (i j:Int):Decidable (Ft i j):=by unfold Ft;infer_instance
instance (i j:Int):Decidable (MC i j):=by unfold MC;infer_instance
noncomputable def wc:ad->ad->Option ad
 | .int i,.int j=>if zI i j then some (.int (i * j)) else none
 | .list xs,.int k=>if -(2 ^ 63)<=k/\k<2 ^ 63/\xs.length * k.toNat<=ax then some (.list (List.replicate k.toNat xs).flatten) else none
 | .tuple xs,.int k=>if 1<=k/\k<2 ^ 40/\xs≠[]/\xs.length * k.toNat<=16000000 then some (.tuple (List.replicate k.toNat xs).flatten) else none
 | _,_=>none
noncomputable def GA:ad->ad->Option ad | .int i,.int j=>if Ft i j then some (.int (i * 2 ^ j.toNat)) else none | _,_=>none
noncomputable def JD:ad->ad->Option ad | .int i,.int j=>if 0<=j then some (.int (i / 2 ^ j.toNat)) else none | _,_=>none
noncomputable def O':ad->ad->Option ad | .int i,.int j=>some (.bool (decide (i<j))) | _,_=>none
noncomputable def Lk:ad->ad->Option ad | .int i,.int j=>some (.bool (decide (j<i))) | _,_=>none
noncomputable def rX (x y:ad):Option ad:=if x.canLay0=true/\y.canLay0=true/\x.depth<=60 then some (.bool (ad.eqv x y)) else none
noncomputable def CK (x y:ad):Option ad:=if x.canLay0=true/\y.canLay0=true/\x.depth<=60 then some (.bool (!PyData.eqv x y)) else none
noncomputable def NR (x:ad)(ds:List ad):Option Bool:=if x.canLay0=true/\ad.canLayAll0 ds=true/\x.depth<=60 then some (ds.any λd=>ad.eqv d x) else none
noncomputable def inD (x y:ad):Option ad:=match y with | .tuple ds=>(NR x ds).map .bool | .list ds=>(NR x ds).map .bool | _=>none
section
variable {X:Cx}
theorem CL {f:ag->ag->Sem ag}{g:Int->Int->ad}{gv:Int->Int->V}{op:ad->ad->Option ad}(h:j8 X f (HP gv))(hg:∀i j S H,eE S H (g i j) (gv i j))(ho:∀x y d,op x y=some d->∃i j,x=.int i/\y=.int j/\d=g i j):xn X f op :=
 ⟨_,h,λgs S H dx dy x y d R _ _ r1 r2 e k=>by
  obtain⟨i,j,rfl,rfl,rfl⟩:=ho _ _ _ e;exact⟨i,j,r1.eP,r2.eP,k _ H (hg i j S H) (.refl _ _)⟩⟩
theorem Ru {f:ag->ag->Sem ag}{C:Int->Int->Prop}{g:Int->Int->ad}{gv:Int->Int->V}{op:ad->ad->Option ad}(h:j8 X f (rI C gv))(hg:∀i j S H,eE S H (g i j) (gv i j))(ho:∀x y d,op x y=some d->∃i j,x=.int i/\y=.int j/\C i j/\d=g i j):xn X f op :=
 ⟨_,h,λgs S H dx dy x y d R _ _ r1 r2 e k=>by
  obtain⟨i,j,rfl,rfl,hc,rfl⟩:=ho _ _ _ e;exact⟨i,j,r1.eP,r2.eP,hc,k _ H (hg i j S H) (.refl _ _)⟩⟩
theorem uZ:xn X (binaryOp .Sub) tW:=CL (g:=λi j=>.int (i - j)) MD (λ_ _ _ _=>.int _) λx y d e=>by
 cases x<;>cases y<;>simp[tW] at e;exact⟨_,_,rfl,rfl,e.symm⟩
theorem Rv:xn X (compareOp .Lt) O':=CL (g:=λi j=>.bool (decide (i<j))) P9 (λ_ _ _ _=>.bl _) λx y d e=>by
 cases x<;>cases y<;>simp[O'] at e;exact⟨_,_,rfl,rfl,e.symm⟩
theorem NS:xn X (compareOp .Gt) Lk:=CL (g:=λi j=>.bool (decide (j<i))) KP (λ_ _ _ _=>.bl _) λx y d e=>by
 cases x<;>cases y<;>simp[Lk] at e;exact⟨_,_,rfl,rfl,e.symm⟩
theorem Rw:xn X (binaryOp .LShift) GA:=Ru (g:=λi j=>.int (i * 2 ^ j.toNat)) MF (λ_ _ _ _=>.int _) λx y d e=>by
 cases x<;>cases y<;>simp[GA] at e;exact⟨_,_,rfl,rfl,e.1,e.2.symm⟩
theorem Rx:xn X (binaryOp .RShift) JD:=Ru (g:=λi j=>.int (i / 2 ^ j.toNat)) MG (λ_ _ _ _=>.int _) λx y d e=>by
 cases x<;>cases y<;>simp[JD] at e;exact⟨_,_,rfl,rfl,e.1,e.2.symm⟩
theorem fC.reads (r:fC gs S H d v)(c0:d.canLay0=true)(ok:j7 P w H h)(rv:RelV v u):∃as,Reads h u d as:=by
 rcases r with r | ⟨ds,a,xs,rfl,rfl,ha,rs,_⟩ | ⟨t,kvs,a,xs,rfl,_⟩
 .exact eE.reads ok c0 r rv
 .cases (show u=ag.ref a from rv)
  obtain⟨_,its,n,rv,e⟩:=ok a _ ha;obtain⟨as,ra⟩:=dS.reads ok (by simpa [ad.canLay0] using c0) rs rv;exact⟨_,.list e rfl rfl (by simpa using ra)⟩
 .simp[iB,ad.canLay0] at c0
noncomputable def Ry (neg:Bool):R2:=λx y H Q=>∃gs S dx dy,fC gs S H dx x/\fC gs S H dy y/\dx.canLay0=true/\dy.canLay0=true/\dx.depth<=60/\Q (.bl (if neg then !PyData.eqv dx dy else ad.eqv dx dy)) H
theorem NT (HW:X.A.units+64<cLine):j8 X (compareOp .Eq) (Ry false):=by
 intro pins s σ H x y v u Q I rx ry h;obtain⟨gs,S,dx,dy,h1,h2,c1,c2,d1,q⟩:=h;obtain⟨as,ra⟩:=h1.reads c1 I.hok rx;obtain⟨bs,rb⟩:=h2.reads c2 I.hok ry;exact SeqAt.compareEq_reads ra rb c1 c2 (!1) ⟨.bl _,H,I,rfl,q⟩
theorem NU (HW:X.A.units+64<cLine):j8 X (compareOp .NotEq) (Ry true):=by
 intro pins s σ H x y v u Q I rx ry h;obtain⟨gs,S,dx,dy,h1,h2,c1,c2,d1,q⟩:=h;obtain⟨as,ra⟩:=h1.reads c1 I.hok rx;obtain⟨bs,rb⟩:=h2.reads c2 I.hok ry;exact SeqAt.compareNe_reads ra rb c1 c2 (!1) ⟨.bl _,H,I,rfl,q⟩
theorem pF (HW:X.A.units+64<cLine):xn X (compareOp .Eq) rX:=⟨_,NT HW,λgs S H dx dy x y d R _ _ r1 r2 e k=>by
 unfold rX at e;split at e
 .rename_i hc
  cases e;exact⟨gs,S,dx,dy,r1,r2,hc.1,hc.2.1,hc.2.2,k _ H (.bl _) (.refl _ _)⟩
 .cases e⟩
theorem Ei (HW:X.A.units+64<cLine):xn X (compareOp .NotEq) CK:=⟨_,NU HW,λgs S H dx dy x y d R _ _ r1 r2 e k=>by
 unfold CK at e;split at e
 .rename_i hc
  cases e;exact⟨gs,S,dx,dy,r1,r2,hc.1,hc.2.1,hc.2.2,k _ H (.bl _) (.refl _ _)⟩
 .cases e⟩
end
section
variable {X:Cx}
theorem fC.Ll {K:W.Frag}{gs S:List Addr}{H:Hp}{ds:List ad}{v:V}(h:fC gs S H (.tuple ds) v):∃a xs,v=.ref a/\ja K H a xs/\H a=some (.tup xs)/\dS S H ds xs:=let ⟨a,xs,e,ha,r⟩:=h.fX;⟨a,xs,e,ja.of ha,ha,r⟩
theorem fC.Pa {K:W.Frag}{gs S:List Addr}{H:Hp}{ds:List ad}{v:V}(h:fC gs S H (.list ds) v):∃a xs,v=.ref a/\gK K H a xs/\H a=some (.lst xs)/\dS S H ds xs:=let ⟨a,xs,e,ha,r⟩:=h.fG;⟨a,xs,e,gK.of ha,ha,r⟩
theorem qG {S:List Addr}{H:Hp}{ds:List ad}{xs:List V}{p:Addr}(hp:H p=none)(r:dS S H ds xs):eE S (eZ H p (.tup xs)) (.tuple ds) (.ref p):=.tup dP (r.ext (.new hp))
theorem qH (has:∀a∈S,H a≠none)(hp:H p=none)(r:dS S H ds xs):eE S (eZ H p (.lst xs)) (.list ds) (.ref p):=.lst dP (λz=>has p z hp) (r.ext (.new hp))
theorem dS.flat (r:dS S H ds xs)(k:Nat):dS S H (List.replicate k ds).flatten (List.replicate k xs).flatten:=by
 induction k with
 | zero=>exact .nil
 | succ k ih=>rw[aZ,aZ,cM,cM];exact r.append ih
theorem lp:xn X (binaryOp .Add) jf:=⟨_,((q8.or (Uu X.K)).or M1).or zK,λgs S H dx dy x y d R has sz r1 r2 e k=>by
 cases dx with
 | int i=>cases dy with
  | int j=>cases e;exact .inl (.inl (.inl ⟨i,j,r1.eP,r2.eP,k _ H (.int _) (.refl _ _)⟩))
  | _=>cases e
 | str i=>cases dy with
  | str j =>
   simp only[jf] at e;split at e
   .rename_i hz
    cases e;exact .inr ⟨i,j,r1.kI,r2.kI,hz,k _ H (.str _) (.refl _ _)⟩
   .cases e
  | _=>cases e
 | tuple ds=>cases dy with
  | tuple es =>
   simp only[jf] at e;split at e
   .rename_i hz
    cases e;obtain⟨a,xs,rfl,s1,h1,q1⟩:=r1.Ll (K:=X.K);obtain⟨b,ys,rfl,s2,h2,q2⟩:=r2.Ll (K:=X.K);refine .inl (.inl (.inr ⟨a,b,xs,ys,rfl,rfl,s1,s2,by rw[q1.length,q2.length];exact hz,λe=>?_,λe=>?_,λp hp=>k _ _ (qG hp (q1.append q2)) (.new hp)⟩))
    .subst e
     cases ds with
     | nil=>exact k _ H (.tup h2 q2) (.refl _ _)
     | cons d ds=>have:=q1.length;simp at this
    .subst e
     cases es with
     | nil=>rw[bg] at k;exact k _ H (.tup h1 q1) (.refl _ _)
     | cons d ds=>have:=q2.length;simp at this
   .cases e
  | _=>cases e
 | list ds=>cases dy with
  | list es =>
   simp only[jf] at e;split at e
   .rename_i hz
    cases e;obtain⟨a,xs,rfl,h1,q1⟩:=r1.fG;obtain⟨b,ys,rfl,h2,q2⟩:=r2.fG;exact .inl (.inr ⟨a,b,xs,ys,rfl,rfl,h1,h2,by rw[q1.length,q2.length];exact hz,λp hp=>k _ _ (qH has hp (q1.append q2)) (.new hp)⟩)
   .cases e
  | _=>cases e
 | _=>cases dy<;>cases e⟩
theorem Lm:xn X (binaryOp .Mult) wc:=⟨_,(pk.or M3).or (Gv X.K),λgs S H dx dy x y d R has sz r1 r2 e k=>by
 cases dx with
 | int i=>cases dy with
  | int j =>
   simp only[wc] at e;split at e
   .rename_i hz
    cases e;exact .inl (.inl ⟨i,j,r1.eP,r2.eP,hz,k _ H (.int _) (.refl _ _)⟩)
   .cases e
  | _=>cases e
 | list ds=>cases dy with
  | int j =>
   simp only[wc] at e;split at e
   .rename_i hz
    cases e;obtain⟨a,xs,rfl,h1,q1⟩:=r1.fG;exact .inl (.inr ⟨a,j,xs,rfl,r2.eP,h1,hz.1,hz.2.1,by rw[q1.length];exact hz.2.2,λp hp=>k _ _ (qH has hp (q1.flat _)) (.new hp)⟩)
   .cases e
  | _=>cases e
 | tuple ds=>cases dy with
  | int j =>
   simp only[wc] at e;split at e
   .rename_i hz
    cases e;obtain⟨a,xs,rfl,s1,h1,q1⟩:=r1.Ll (K:=X.K);by_cases h:j=1
    .subst h
     refine .inr (.inl ⟨a,xs,rfl,r2.eP,s1,k _ H ?_ (.refl _ _)⟩);simpa using eE.tup h1 q1
    .refine .inr (.inr ⟨a,j,xs,rfl,r2.eP,s1,λz=>?_,!1,hz.2.1,by rw[q1.length];exact hz.2.2.2,λp hp=>k _ _ (qG hp (q1.flat _)) (.new hp)⟩)
     subst z;have:=q1.length;exact hz.2.2.1 (by simpa using this.symm)
   .cases e
  | _=>cases e
 | _=>cases dy<;>cases e⟩
noncomputable def Vc (neg:Bool):R2:=λx y H Q=>∃gs S dx ds p xs,fC gs S H dx x/\y=.ref p/\(H p=some (.lst xs)\/H p=some (.tup xs))/\dS S H ds xs/\dx.canLay0=true/\ad.canLayAll0 ds=true/\dx.depth<=60/\Q (.bl (if neg then !(ds.any λd=>ad.eqv d dx) else ds.any λd=>ad.eqv d dx)) H
open Classical in
noncomputable def Ic (S:List Addr)(H:Hp)(xs:List V)(dx:ad)(y:ag):Bool:=decide (∃v d,RelV v y/\eE S H d v/\ad.eqv d dx=true)
open Classical in
theorem GB {S:List Addr}{H:Hp}{xs:List V}{dx d:ad}{v:V}{y:ag}(h1:RelV v y)(h2:eE S H d v):Ic S H xs dx y=ad.eqv d dx:=by
 unfold Ic
 cases e:ad.eqv d dx with
 | true=>exact decide_eq_true ⟨v,d,h1,h2,e⟩
 | false =>
  refine decide_eq_false λ⟨v',d',k1,k2,k3⟩=>?_;cases RelV.one h1 k1;cases eE.one h2 k2;rw[e] at k3;cases k3
theorem wd:∀{ds:List ad} {xs:List V} {us:List ag},dS S H ds xs->eh xs us->us.any (Ic S H zs dx)=ds.any λd=>ad.eqv d dx
 | [],_,_,h,r=>by cases h.fB;cases r;rfl
 | d::ds,_,_,h,r=>by
  obtain⟨x,t,rfl,h1,h2⟩:=h.of_cons
  cases r with
  | cons q1 q2=>rw[ck,ck,wd h2 q2,GB q1 h1]
theorem Au (ok:j7 P w H s.heap)(rx:fC gs S H dx x)(rv:RelV x v)(c1:dx.canLay0=true)(hu:A.units+60<cLine)(hd:dx.depth<=60) :
  ∀{ds:List ad} {xs:List V} {us:List ag},ad.canLayAll0 ds=true->dS S H ds xs->eh xs us->∀u∈us,SeqAt.EqAt A s u v (Ic S H zs dx u)
 | [],_,_,_,h,r=>by cases h.fB;cases r;intro u hu;cases hu
 | d::ds,_,_,hc,h,r=>by
  obtain⟨y,t,rfl,h1,h2⟩:=h.of_cons;simp only[ad.canLayAll0,bv] at hc
  cases r with
  | cons q1 q2 =>
   intro u NV;rcases au.mp NV with rfl | NV
   .rw[GB q1 h1]
    obtain⟨as,ra⟩:=eE.reads ok hc.1 h1 q1;obtain⟨bs,rb⟩:=rx.reads c1 ok rv;exact SeqAt.eqAt_reads d dx A s _ v as bs ra rb hc.1 c1 (by have:min d.depth dx.depth<=60:=(!1);omega)
   .exact Au ok rx rv c1 hu hd hc.2 h2 q2 u NV
theorem NW (HW:X.A.units+64<cLine):j8 X (compareOp .In) (Vc false):=by
 intro pins s σ H x y v u Q I rx ry h;obtain⟨gs,S,dx,ds,p,xs,r1,rfl,hq,rs,c1,c2,hd,q⟩:=h;cases ry;have Av:X.A.in1.units+60<cLine:=by show X.A.units+1+60<cLine;omega
 rcases hq with hq | hq
 .obtain⟨its,r,pl,hz⟩:=I.list (gK.of (K:=X.K) hq)
  refine SeqAt.in_listAt (Ic S H xs dx) pl.isList (λw hw=>Au I.hok r1 rx c1 Av hd c2 rs r w (by simpa using hw)) ⟨.bl _,H,I,rfl,?_⟩;rw[show its.toArray.any (Ic S H xs dx)=its.any (Ic S H xs dx) by simp,wd rs r];exact q
 .obtain⟨its,r,pl,hz⟩:=I.tuple (ja.of (K:=X.K) hq)
  refine SeqAt.in_tupleAt (Ic S H xs dx) pl (λw hw=>Au I.hok r1 rx c1 Av hd c2 rs r w (by simpa using hw)) ⟨.bl _,H,I,rfl,?_⟩;rw[show its.toArray.any (Ic S H xs dx)=its.any (Ic S H xs dx) by simp,wd rs r];exact q
theorem GC (h:NR x ds=some b):x.canLay0=true/\ad.canLayAll0 ds=true/\x.depth<=60/\(ds.any λd=>ad.eqv d x)=b:=by
 unfold NR at h;split at h
 .rename_i hc
  cases h;exact⟨hc.1,hc.2.1,hc.2.2,rfl⟩
 .cases h
theorem Vd (HW:X.A.units+64<cLine):xn X (compareOp .In) inD:=⟨_,NW HW,λgs S H dx dy x y d R _ _ r1 r2 e k=>by
 cases dy with
 | tuple ds =>
  obtain⟨b,hb,rfl⟩:=dC.mp (show (NR dx ds).map ad.bool=some d from e);obtain⟨c1,c2,c3,rfl⟩:=GC hb;obtain⟨a,xs,rfl,ha,rs⟩:=r2.fX;exact⟨gs,S,dx,ds,a,xs,r1,rfl,.inr ha,rs,c1,c2,c3,k _ H (.bl _) (.refl _ _)⟩
 | list ds =>
  obtain⟨b,hb,rfl⟩:=dC.mp (show (NR dx ds).map ad.bool=some d from e);obtain⟨c1,c2,c3,rfl⟩:=GC hb;obtain⟨a,xs,rfl,ha,rs⟩:=r2.fG;exact⟨gs,S,dx,ds,a,xs,r1,rfl,.inl ha,rs,c1,c2,c3,k _ H (.bl _) (.refl _ _)⟩
 | _=>cases e⟩
end
noncomputable def jd (x y:ad):Option ad:=match x,y with | .tuple ds,.int i=>qB ds i | .list ds,.int i=>qB ds i | _,_=>none
theorem yr (r:dS S H ds xs)(h:qB ds i=some d):∃v,qB xs i=some v/\eE S H d v:=by
 unfold qB at h ⊢;rw[r.length]
 cases e:K0 ds.length i with
 | none=>rw[e] at h;cases h
 | some j =>
  rw[e] at h;obtain⟨x,hx,rx⟩:=r.at (show ds[j]? = some d from h);exact⟨x,hx,rx⟩
section
variable {X:Cx}{M:Fr}{a b e:Expr}{ua ub:UX}{pos p2:Pos}
theorem gM (ha:KL X M a ua)(hb:KL X M b ub)(hs:vJ b:=by exact λ_ _=>rfl):KE X M (.Subscript a b pos) (eJ jd ua ub) :=
 .of (jc ((XO X.K).or (XR X.K)) ha.run hb.run hs) λσ H R env pn S n Q ok hu k=>CI (λgs S H dx dy x y d R _ _ r1 r2 e k=>by
  cases dx with
  | tuple ds=>cases dy with
   | int i =>
    obtain⟨a,xs,rfl,sq,_,rs⟩:=r1.Ll (K:=X.K);obtain⟨v,hv,rv⟩:=yr rs (show qB ds i=some d from e);exact .inl ⟨a,xs,i,v,rfl,r2.eP,sq,hv,k v H rv (.refl _ _)⟩
   | _=>cases e
  | list ds=>cases dy with
   | int i =>
    obtain⟨a,xs,rfl,sq,_,rs⟩:=r1.Pa (K:=X.K);obtain⟨v,hv,rv⟩:=yr rs (show qB ds i=some d from e);exact .inr ⟨a,xs,i,v,rfl,r2.eP,sq,hv,k v H rv (.refl _ _)⟩
   | _=>cases e
  | _=>cases dy<;>cases e) ok hu k
noncomputable abbrev UO:=fm->Int->(Option Int->Int->Prop)->Prop
structure KO (X:Cx) (M:Fr) (e:Option Expr) (u:UO):Prop where run:∃t,QO X e t/\∀σ H R env pn S n Q,d5 M env pn σ S H n->u env n Q->(∀o H' n',Ext M.gs H H'->M.G H' n'->Q o n'->R o H')->t σ H R
noncomputable def Pb:UO:=λ_ n Q=>Q none n
noncomputable def Pc (u:UX):UO:=λenv n Q=>u env n λd n1=>match d with | .int i=>Q (some i) n1 | _=>False
theorem we:KO X M none Pb:=⟨_,Cj,λσ H R env pn S n Q ok hu k=>k none H n (.refl _ _) ok.gd hu⟩
theorem wg (h:KE X M e ua):KO X M (some e) (Pc ua):=⟨_,Ck h.run,λσ H R env pn S n Q ok hu k=>⟨env,pn,S,n,_,ok,hu,λv H1 d n1 r1 x1 g1 _ q=>by
 cases d with
 | int i=>exact⟨i,r1.eP,k _ H1 n1 x1 g1 q⟩
 | _=>exact False.elim q⟩⟩
noncomputable def Aw {α:Type}(xs:List α)(lo hi:Option Int):List α:=(xs.drop (HT.gL xs.length 0 lo)).take (HT.gL xs.length xs.length hi - HT.gL xs.length 0 lo)
noncomputable def RA (d:ad)(lo hi:Option Int):Option ad:=match d with | .tuple ds=>some (.tuple (Aw ds lo hi)) | .list ds=>some (.list (Aw ds lo hi)) | _=>none
noncomputable def Pd (u:UX)(ul uh:UO):UX:=λenv n Q=>u env n λd n1=>ul env n1 λlo n2=>uh env n2 λhi n3=>pf (RA d lo hi) λd=>Q d n3
theorem rY (r:dS S H ds xs)(lo hi:Option Int):dS S H (Aw ds lo hi) (n8 xs lo hi):=by
 unfold Aw n8;rw[r.length];exact (r.drop _).take _
theorem Ej {S:List Addr}{H:Hp}{ds:List ad}{xs:List V}(r:dS S H ds xs){lo hi:Option Int}(h:n8 xs lo hi=xs):Aw ds lo hi=ds:=by
 have:=rY r lo hi;rw[h] at this;exact dS.one this r
theorem NY {lo hi:Option Expr}{ul uh:UO}(he:KL X M e ua)(hl:KO X M lo ul)(hu:KO X M hi uh):KE X M (.Subscript e (.Slice lo hi none p2) pos) (Pd ua ul uh):=by
 obtain⟨tl,q1,l1⟩:=hl.run;obtain⟨th,q2,l2⟩:=hu.run;refine .of (xM ((XS X.K).or (Wx X.K)) he.run q1 q2) λσ H R env pn S n Q ok hu k=>⟨env,pn,S,n,_,ok,hu,λv H1 d n1 r1 x1 g1 _ q=>?_⟩;refine l1 σ H1 _ env pn S n1 _ (ok.step x1 g1) q λlo H2 n2 x2 g2 q=>?_;refine l2 σ H2 _ env pn S n2 _ ((ok.step x1 g1).step x2 g2) q λhi H3 n3 x3 g3 q=>?_;obtain⟨d',e,q⟩:=q;have Ln:=((ok.step x1 g1).step x2 g2).step x3 g3;have r3:=(r1.ext ok.tq x2).ext ok.tq x3;have NZ:=(x1.trans x2).trans x3
 cases d with
 | tuple ds =>
  cases e;obtain⟨a,xs,rfl,sq,ha,rs⟩:=r3.Ll (K:=X.K);refine .inl ⟨a,xs,rfl,sq,λh=>?_,λp hp=>k _ _ _ n3 (qG hp (rY rs lo hi)) (NZ.trans (.new hp)) (M.iA g3 (.new (S:=[]) hp) (!4)) q⟩;have:=Ej rs h;exact k _ H3 _ n3 (.tup ha (by rw[this];exact rs)) NZ g3 q
 | list ds =>
  cases e;obtain⟨a,xs,rfl,sq,ha,rs⟩:=r3.Pa (K:=X.K);exact .inr ⟨a,xs,rfl,sq,λp hp=>k _ _ _ n3 (qH Ln.has hp (rY rs lo hi)) (NZ.trans (.new hp)) (M.iA g3 (.new (S:=[]) hp) (!4)) q⟩
 | _=>cases e
end
structure rZ (X:Cx) (fv:ag) (f:List ad->Option ad):Prop where
 ex:∃r,gF X fv r/\∀gs S H ds vs d (R:VK),(∀a∈S,H a≠none)->kj H->jM gs S H ds vs->f ds=some d->(∀v H',eE S H' d v->Ext [] H H'->R v H')->r vs H R
noncomputable def nX (f:List ad->Option ad)(ua:UA):UX:=λenv n Q=>ua env n λds n1=>pf (f ds) λd=>Q d n1
section
variable {X:Cx}{M:Fr}{e:Expr}{es:List Expr}{ua:UA}{p pos:Pos}{f:List ad->Option ad}{id T:String}{x:Str}
theorem Lp (hr:∀gs S H ds vs d (R:VK),(∀a∈S,H a≠none)->kj H->jM gs S H ds vs->f ds=some d->(∀v H',eE S H' d v->Ext [] H H'->R v H')->r vs H R)(ok:d5 M env pn σ S H n)(hu:nX f ua env n Q)(k:∀v H' d n',eE S H' d v->Ext M.gs H H'->M.G H' n'->Q d n'->R v H'):Qg r (Gx M ua) σ H R :=
 ⟨env,pn,S,n,_,ok,hu,λvs H1 ds n1 r1 x1 g1 sz q=>by
  obtain⟨d,e,q⟩:=q;exact hr M.gs S H1 ds vs d R (ok.step x1 g1).has sz r1 e λv H2 r2 x2=>k v H2 d n1 r2 (x1.trans (x2.mono (!4))) (M.iA g1 x2 (!4)) q⟩
theorem Ax (hc:rZ X (.builtin id) f)(hm:X.mg x=none)(ha:Lg X M (e::es) ua)(hg:Gl X x:=by rfl)(hv:bootBuiltins x=some (.builtin id):=by decide +kernel)(hn:x ≠ "__name__" := by decide)(jw:(x == ("__debug__" : Str))=false:=by decide) :
  KE X M (.Call (.Name x p) (e::es) [] pos) (nX f ua):=by
 obtain⟨r,h1,h2⟩:=hc.ex;exact .of (fO h1 hg hm hv ha.run hn jw) λσ H R env pn S n Q ok hu k=>Lp h2 ok hu k
theorem wj (hc:rZ X (.type T) f)(hm:X.mg x=none)(ha:Lg X M (e::es) ua)(hg:Gl X x:=by rfl)(hv:bootBuiltins x=some (.type T):=by decide +kernel)(hn:x ≠ "__name__" := by decide)(jw:(x == ("__debug__" : Str))=false:=by decide) :
  KE X M (.Call (.Name x p) (e::es) [] pos) (nX f ua):=by
 obtain⟨r,h1,h2⟩:=hc.ex;exact .of (g7 h1 hg hm hv ha.run hn jw) λσ H R env pn S n Q ok hu k=>Lp h2 ok hu k
end
theorem jM.one (h:jM gs S H [d] vs):∃v,vs=[v]/\fC gs S H d v:=let ⟨v,r,e,h1,h2⟩:=h;⟨v,by rw[e,show r=[] from h2],h1⟩
theorem jM.two (h:jM gs S H [d,e] vs):∃v w,vs=[v,w]/\fC gs S H d v/\fC gs S H e w:=let ⟨v,r,e,h1,h2⟩:=h;let ⟨w,e2,h3⟩:=jM.one h2;⟨v,w,by rw[e,e2],h1,h3⟩
noncomputable def lR:List ad->Option ad | [.tuple ds]=>some (.int ds.length) | [.list ds]=>some (.int ds.length) | _=>none
noncomputable def u0:List ad->Option ad | [.int i,.int j]=>some (.int (if j<i then j else i)) | _=>none
noncomputable def u3:List ad->Option ad | [.int i,.int j]=>some (.int (if j > i then j else i)) | _=>none
noncomputable def intD:List ad->Option ad | [.int i]=>some (.int i) | [.bool b]=>some (.int (if b then 1 else 0)) | _=>none
noncomputable def gp:List ad->Option ad | [.tuple ds]=>some (.tuple ds) | [.list ds]=>some (.tuple ds) | _=>none
section
variable {X:Cx}
theorem yt:rZ X (.builtin "len") lR:=⟨_,Ur X.K,λgs S H ds vs d R _ _ rs e k=>by
 rcases ds with _ | ⟨d1,_ | ⟨d2,l⟩⟩
 .cases e
 .obtain⟨v,rfl,r⟩:=rs.one
  cases d1 with
  | tuple ds =>
   cases e;obtain⟨a,xs,rfl,sq,_,rr⟩:=r.Ll (K:=X.K);refine⟨a,xs,rfl,.inr sq,?_⟩;rw[rr.length];exact k _ H (.int _) (.refl _ _)
  | list ds =>
   cases e;obtain⟨a,xs,rfl,sq,_,rr⟩:=r.Pa (K:=X.K);refine⟨a,xs,rfl,.inl sq,?_⟩;rw[rr.length];exact k _ H (.int _) (.refl _ _)
  | _=>cases e
 .cases d1<;>cases e⟩
theorem yu {f:List ad->Option ad}(hf:∀ds d,f ds=some d->∃i j,ds=[.int i,.int j]){gs S:List Addr}{H:Hp}{ds:List ad}{vs:List V}{d:ad}(rs:jM gs S H ds vs)(e:f ds=some d):∃i j,ds=[.int i,.int j]/\vs=[.int i,.int j]:=by
 obtain⟨i,j,rfl⟩:=hf _ _ e;obtain⟨v,w,rfl,r,r2⟩:=rs.two;exact⟨i,j,rfl,by rw[r.eP,r2.eP]⟩
theorem JE (ds:List ad)(d:ad)(e:u0 ds=some d):∃i j,ds=[.int i,.int j]:=by
 unfold u0 at e;split at e
 .exact⟨_,_,rfl⟩
 .cases e
theorem JF (ds:List ad)(d:ad)(e:u3 ds=some d):∃i j,ds=[.int i,.int j]:=by
 unfold u3 at e;split at e
 .exact⟨_,_,rfl⟩
 .cases e
theorem N0 (hc:X.calm=true):rZ X (.builtin "min") u0:=⟨_,Dz hc,λgs S H ds vs d R _ _ rs e k=>by
 obtain⟨i,j,rfl,rfl⟩:=yu JE rs e;cases e;exact⟨i,j,rfl,k _ H (.int _) (.refl _ _)⟩⟩
theorem N1 (hc:X.calm=true):rZ X (.builtin "max") u3:=⟨_,Dy hc,λgs S H ds vs d R _ _ rs e k=>by
 obtain⟨i,j,rfl,rfl⟩:=yu JF rs e;cases e;exact⟨i,j,rfl,k _ H (.int _) (.refl _ _)⟩⟩
theorem RB:rZ X (.type "int") intD:=⟨_,DA,λgs S H ds vs d R _ _ rs e k=>by
 rcases ds with _ | ⟨d1,_ | ⟨d2,l⟩⟩
 .cases e
 .obtain⟨v,rfl,r⟩:=rs.one
  cases d1 with
  | int i=>cases e;exact .inl ⟨i,by rw[r.eP],k _ H (.int _) (.refl _ _)⟩
  | bool i=>cases e;exact .inr ⟨i,by rw[r.lh],k _ H (.int _) (.refl _ _)⟩
  | _=>cases e
 .cases d1<;>cases e⟩
theorem jO:rZ X (.type "tuple") gp:=⟨_,z7 X.K,λgs S H ds vs d R _ _ rs e k=>by
 rcases ds with _ | ⟨d1,_ | ⟨d2,l⟩⟩
 .cases e
 .obtain⟨v,rfl,r⟩:=rs.one
  cases d1 with
  | tuple ds =>
   cases e;obtain⟨a,xs,rfl,sq,ha,rr⟩:=r.Ll (K:=X.K);exact⟨a,xs,rfl,.inr ⟨sq,k _ H (.tup ha rr) (.refl _ _)⟩⟩
  | list ds =>
   cases e;obtain⟨a,xs,rfl,sq,_,rr⟩:=r.Pa (K:=X.K);exact⟨a,xs,rfl,.inl ⟨sq,λl hl=>k _ _ (qG hl rr) (.new hl)⟩⟩
  | _=>cases e
 .cases d1<;>cases e⟩
end
section
theorem eR {α:Type}{l:List (Option α)}{i j:Nat}{x:α}{y:Option α}(h:(l.set i y)[j]? = some (some x)):(i=j/\y=some x)\/(i≠j/\l[j]? = some (some x)):=by
 by_cases e:i=j
 .subst e
  by_cases hl:i<l.length
  .rw[cg hl] at h;exact .inl ⟨rfl,Option.some.inj h⟩
  .rw[bq (by rw[a7];omega)] at h;cases h
 .rw[aK e] at h;exact .inr ⟨e,h⟩
theorem kN {α:Type}{l:List (Option α)}{i:Nat}{y:Option α}(h:i<l.length):(l.set i y)[i]? = some y:=cg h
theorem d5.set (ok:d5 M env pn σ S H n)(r:eE S H d v)(hi:i ∉ M.fd):d5 M (env.set i (some (.s d))) pn (σ.set i (some v)) S H n:=by
 refine⟨λj e he=>?_,λj k ds es a h1 h2 h3 h4=>?_,by rw[a7,a7,ok.len],λj hj=>?_,ok.gd,ok.ext,ok.s0,ok.sn,ok.has,ok.pin⟩
 .have hl:i<env.length->i<σ.length:=λz=>by rw[<- ok.len];exact z
  rcases eR he with⟨rfl,e1⟩ | ⟨ne,e1⟩
  .cases e1
   have:i<env.length:=by
    by_cases z:i<env.length
    .exact z
    .rw[bq (by rw[a7];omega)] at he;cases he
   exact⟨v,kN (hl this),r⟩
  .obtain⟨v',hv,rv⟩:=ok.val j e e1
   exact⟨v',by rw[aK ne];exact hv,rv⟩
 .rcases eR h1 with⟨_,e1⟩ | ⟨n1,e1⟩
  .cases e1
  .rcases eR h2 with⟨_,e2⟩ | ⟨n2,e2⟩
   .cases e2
   .rw[aK n1] at h3
    rw[aK n2] at h4;exact ok.ne j k ds es a e1 e2 h3 h4
 .have:i≠j:=λz=>hi (z ▸ hj)
  rw[aK this];exact ok.Eg j hj
theorem d5.anew (ok:d5 M env pn σ S H n)(h0:H a=none):M.H0 a=none:=by
 by_cases z:a∈M.gs
 .exact absurd h0 (M.v9 ok.gd a z)
 .exact ok.ext.fresh z h0
theorem qc.fresh (h:qc M S H e v)(h0:H a=none):qc M (a::S) H e v:=by
 cases e with
 | s d=>exact eE.fresh h0 h
 | o ds =>
  obtain⟨b,xs,e,hb,r,hs,h1⟩:=h;exact⟨b,xs,e,hb,r.fresh h0,ao _ hs,h1⟩
 | x c as =>
  obtain⟨b,dx,vs,e,ha,hd,r,g1,g2⟩:=h;exact⟨b,dx,vs,e,ha,hd,r.fresh h0,g1,g2⟩
 | d b t kvs =>
  obtain⟨e,xs,hb,r,hk,hs,h1⟩:=h;exact⟨e,xs,hb,r.fresh h0,hk,ao _ hs,h1⟩
theorem d5.RC (ok:d5 M env pn σ S H n)(h0:H a=none)(h1:H' a=some (.lst xs))(r:dS (a::S) H' ds xs)(x:Ext M.gs H H')(g:M.G H' n')(hi:i ∉ M.fd) :
  d5 M (env.set i (some (.o ds))) pn (σ.set i (some (.ref a))) (a::S) H' n':=by
 have hg:∀b∈M.gs,b∈a::S:=λb hb=>ao _ (ok.tq b hb)
 have WK:∀(j:Nat) (es:List ad) (b:Addr),env[j]? = some (some (.o es))->σ[j]? = some (some (.ref b))->b≠a:=λj es b e1 e2 z=>by
  obtain⟨v',hv,rv⟩:=ok.val j _ e1;obtain⟨c,xs,e,hc,_,hs,_⟩:=rv;subst e;rw[e2] at hv;cases hv;rw[z] at hs;exact ok.has _ hs h0
 have lC:=ok.step x g;refine⟨λj e he=>?_,λj k qF es b h2 h3 h4 h5=>?_,by rw[a7,a7,ok.len],λj hj=>?_,g,lC.ext,λb hb=>ao _ (ok.s0 b hb),λb hb=>?_,λb hb=>?_,λp hp=>?_⟩
 .rcases eR he with⟨rfl,e1⟩ | ⟨ne,e1⟩
  .cases e1
   have:i<env.length:=by
    by_cases z:i<env.length
    .exact z
    .rw[bq (by rw[a7];omega)] at he;cases he
   exact⟨.ref a,kN (by rw[<- ok.len];exact this),a,xs,rfl,h1,r,ar ..,ok.anew h0⟩
  .obtain⟨v',hv,rv⟩:=ok.val j e e1
   exact⟨v',by rw[aK ne];exact hv,(rv.fresh h0).step hg x⟩
 .rcases eR h2 with⟨rfl,e1⟩ | ⟨n1,e1⟩
  .have Pe:i<σ.length:=by
    by_cases z:i<σ.length
    .exact z
    .rw[bq (by rw[a7];omega)] at h4;cases h4
   rw[kN Pe] at h4;cases h4;rcases eR h3 with⟨e3,_⟩ | ⟨n2,e2⟩
   .exact e3
   .rw[aK n2] at h5
    exact absurd rfl (WK k _ _ e2 h5)
  .rw[aK n1] at h4
   rcases eR h3 with⟨rfl,e2⟩ | ⟨n2,e2⟩
   .have Pe:i<σ.length:=by
     by_cases z:i<σ.length
     .exact z
     .rw[bq (by rw[a7];omega)] at h5;cases h5
    rw[kN Pe] at h5;cases h5;exact absurd rfl (WK j _ _ e1 h4)
   .rw[aK n2] at h5
    exact ok.ne j k _ _ b e1 e2 h4 h5
 .have:i≠j:=λz=>hi (z ▸ hj)
  rw[aK this];exact ok.Eg j hj
 .rcases au.mp hb with z | z
  .rw[z];exact .inr (ok.anew h0)
  .exact ok.sn b z
 .rcases au.mp hb with z | z
  .rw[z,h1];simp
  .exact lC.has b z
 .exact ((ok.pin p hp).fresh h0).ext (x.mono hg)
theorem d5.put (ok:d5 M env pn σ S H n){ds es:List ad}{a:Addr}{xs ys:List V}(he:env[i]? = some (some (.o ds)))(hv:σ[i]? = some (some (.ref a)))(ha:H a=some (.lst xs))(r:dS S H es ys):d5 M (env.set i (some (.o es))) pn σ S (eZ H a (.lst ys)) n:=by
 obtain⟨v',Oa,a',nW,e',lD,_,hs,h0⟩:=ok.val i _ he;subst e';rw[hv] at Oa;cases Oa;have x:Ext [a] H (eZ H a (.lst ys)):=.set (!4) ha;have xS:Ext S H (eZ H a (.lst ys)):=x.mono (by simpa using hs);refine⟨λj e hj=>?_,λj k qF jv b h2 h3 h4 h5=>?_,by rw[a7,ok.len],ok.Eg,M.iA ok.gd x (by simpa using h0),ok.ext.Um h0 ha,ok.s0,ok.sn,λb hb=>?_,λp hp=>(ok.pin p hp).ext xS⟩
 .rcases eR hj with⟨rfl,e1⟩ | ⟨ne,e1⟩
  .cases e1
   exact⟨_,hv,a,ys,rfl,dP,r.ext xS,hs,h0⟩
  .obtain⟨w,hw,o9⟩:=ok.val j e e1
   refine⟨w,hw,?_⟩
   cases e with
   | s d=>exact eE.ext xS o9
   | o jv =>
    obtain⟨b,zs,e2,hb,r2,DT,GD⟩:=o9;subst e2;have:b≠a:=λz=>ne (ok.ne i j _ _ a he e1 hv (z ▸ hw));exact⟨b,zs,rfl,by rw[dY this];exact hb,r2.ext xS,DT,GD⟩
   | x c as =>
    obtain⟨b,dx,vs,e2,hb,hd,r2,g1,g2⟩:=o9;exact⟨b,dx,vs,e2,by rw[dY (λz=>by rw[z,ha] at hb;cases hb)];exact hb,by rw[dY (λz=>by rw[z,ha] at hd;cases hd)];exact hd,r2.ext xS,g1,g2⟩
   | d b t kvs =>
    obtain⟨e2,zs,hb,r2,DQ,DT,GD⟩:=o9;exact⟨e2,zs,by rw[dY (λz=>by rw[z,ha] at hb;exact og hb)];exact hb,r2.ext xS,DQ,DT,GD⟩
 .have g1:∃l,env[j]? = some (some (.o l)):=by
   rcases eR h2 with⟨rfl,_⟩ | ⟨_,e1⟩
   .exact⟨_,he⟩
   .exact⟨_,e1⟩
  have g2:∃l,env[k]? = some (some (.o l)):=by
   rcases eR h3 with⟨rfl,_⟩ | ⟨_,e1⟩
   .exact⟨_,he⟩
   .exact⟨_,e1⟩
  obtain⟨l1,g1⟩:=g1;obtain⟨l2,g2⟩:=g2;exact ok.ne j k _ _ b g1 g2 h4 h5
 .by_cases z:b=a
  .rw[z,dP];simp
  .rw[dY z];exact ok.has b hb
theorem d5.freeze (ok:d5 M env pn σ S H n){ds:List ad}(he:env[i]? = some (some (.o ds))):∃a xs S',σ[i]? = some (some (.ref a))/\H a=some (.lst xs)/\eE S' H (.list ds) (.ref a)/\d5 M (env.set i (some (.s (.list ds)))) pn σ S' H n:=by
 obtain⟨v',hv,a,xs,rfl,ha,r,hs,h0⟩:=ok.val i _ he;have less:∀b∈S.filter (·≠a),b∈S:=λb hb=>(aW.mp hb).1;have hr:eE (S.filter (·≠a)) H (.list ds) (.ref a):=.lst ha (!4) (r.less less);refine⟨a,xs,S.filter (·≠a),hv,ha,hr,λj e hj=>?_,λj k qF jv b h2 h3 h4 h5=>?_,by rw[a7,ok.len],ok.Eg,ok.gd,ok.ext,λb hb=>?_,λb hb=>ok.sn b (less b hb),λb hb=>ok.has b (less b hb),λp hp=>(ok.pin p hp).less less⟩
 .rcases eR hj with⟨rfl,e1⟩ | ⟨ne,e1⟩
  .cases e1
   exact⟨_,hv,hr⟩
  .obtain⟨w,hw,o9⟩:=ok.val j e e1
   refine⟨w,hw,?_⟩
   cases e with
   | s d=>exact eE.less less o9
   | o jv =>
    obtain⟨b,zs,e2,hb,r2,DT,GD⟩:=o9;subst e2;have:b≠a:=λz=>ne (ok.ne i j _ _ a he e1 hv (z ▸ hw));exact⟨b,zs,rfl,hb,r2.less less,aW.mpr ⟨DT,by simpa using this⟩,GD⟩
   | x c as =>
    obtain⟨b,dx,vs,e2,hb,hd,r2,g1,g2⟩:=o9;exact⟨b,dx,vs,e2,hb,hd,r2.less less,g1,g2⟩
   | d b t kvs =>
    obtain⟨e2,zs,hb,r2,DQ,DT,GD⟩:=o9;have:b≠a:=λz=>by rw[z,ha] at hb;exact og hb
    exact⟨e2,zs,hb,r2.less less,DQ,aW.mpr ⟨DT,by simpa using this⟩,GD⟩
 .rcases eR h2 with⟨_,e1⟩ | ⟨_,e1⟩
  .cases e1
  .rcases eR h3 with⟨_,e2⟩ | ⟨_,e2⟩
   .cases e2
   .exact ok.ne j k _ _ b e1 e2 h4 h5
 .refine aW.mpr ⟨ok.s0 b hb,?_⟩
  have:b≠a:=λz=>M.yo b hb (z ▸ h0);simpa using this
theorem d5.pins (ok:d5 M env pn σ S H n)(h:∀p∈qn,p∈pn):d5 M env qn σ S H n:=⟨ok.val,ok.ne,ok.len,ok.Eg,ok.gd,ok.ext,ok.s0,ok.sn,ok.has,λp hp=>ok.pin p (h p hp)⟩
theorem d5.GF (ok:d5 M env pn σ S H n)(h:eE S H d v):d5 M env ((d,v)::pn) σ S H n:=⟨ok.val,ok.ne,ok.len,ok.Eg,ok.gd,ok.ext,ok.s0,ok.sn,ok.has,λp hp=>by
 rcases au.mp hp with rfl | hp
 .exact h
 .exact ok.pin p hp⟩
end
noncomputable abbrev UG:=ad->fm->(fm->Prop)->Prop
noncomputable def g8 (i:Nat):UG:=λd env Q=>Q (env.set i (some (.s d)))
noncomputable def Ay:List UG->List ad->fm->(fm->Prop)->Prop
 | [],[],env,Q=>Q env
 | u::us,d::ds,env,Q=>u d env λeB=>Ay us ds eB Q
 | _,_,_,_=>False
noncomputable def Ob (us:List UG):UG:=λd env Q=>match d with | .tuple ds=>Ay us ds env Q | _=>False
noncomputable def Lq (M:Fr)(u:UG):TG:=λv σ H R=>∃env pn S n d N,d5 M env pn σ S H n/\eE S H d v/\u d env N/\∀eB σ',d5 M eB pn σ' S H n->N eB->R σ' H
noncomputable def Oc (M:Fr)(us:List UG):Mp:=λvs σ H R=>∃env pn S n ds N,d5 M env pn σ S H n/\dS S H ds vs/\Ay us ds env N/\∀eB σ',d5 M eB pn σ' S H n->N eB->R σ' H
structure KG (X:Cx) (M:Fr) (e:Expr) (u:UG):Prop where run:QG X e (Lq M u)
structure Td (X:Cx) (M:Fr) (es:List Expr) (us:List UG):Prop where run:K5 X es (Oc M us)
theorem QG.weaken (h:QG X e t)(w:∀v σ H Q,t' v σ H Q->t v σ H Q):QG X e t':=⟨λpins s σ H v u D I r q=>h.run pins s σ H v u D I r (w _ σ H _ q)⟩
theorem K5.weaken (h:K5 X es t)(w:∀v σ H Q,t' v σ H Q->t v σ H Q):K5 X es t':=⟨λpins s σ H v u D I r q=>h.run pins s σ H v u D I r (w _ σ H _ q)⟩
section
theorem Yz (hN:X.N.Nodup)(hx:Loc X.env.scope x)(hi:X.N[i]? = some x:=by rfl)(hf:X.fn x=true\/X.env.scope.names.lookup x=some .local:=by (first | exact .inl rfl | exact .inr rfl | assumption))(hfd:i ∉ M.fd:=by decide):KG X M (.Name x pos) (g8 i) :=
 ⟨(om hN hi hx hf).weaken λv σ H R h=>Tb h λenv pn S n d N h=>h.2.2.2 _ _ (h.1.set h.2.1 hfd) h.2.2.1⟩
theorem Az:Td X M [] []:=⟨Jj.weaken λvs σ H R h=>Tb h λenv pn S n ds N h=>by
 obtain⟨ok,r,hu,k⟩:=h
 cases ds with
 | nil=>exact⟨r.fB,k _ _ ok hu⟩
 | cons d ds=>exact False.elim hu⟩
theorem Ek (h:KG X M e u)(hr:Td X M es us)(hs:(assignEach (e::es) X.env).map (·.2)=assign e X.env::(assignEach es X.env).map (·.2):=by rfl):Td X M (e::es) (u::us) :=
 ⟨(FV h.run hr.run hs).weaken λvs σ H R h=>Tb h λenv pn S n ds N h=>by
  obtain⟨ok,r,hu,k⟩:=h
  cases ds with
  | nil=>exact False.elim hu
  | cons d ds =>
   obtain⟨x,t,rfl,r1,r2⟩:=r.of_cons;exact⟨x,t,rfl,env,pn,S,n,d,_,ok,r1,hu,λeB σ' lC q=>⟨eB,pn,S,n,ds,N,lC,r2,q,k⟩⟩⟩
theorem yv:∀{us:List UG} {ds:List ad} {env:fm} {Q:fm->Prop},Ay us ds env Q->(∀u∈us,∀d env (Q:fm->Prop),u d env Q->∃eB,Q eB)->ds.length=us.length
 | [],[],_,_,_,_=>rfl
 | [],_::_,_,_,h,_=>False.elim h
 | _::_,[],_,_,h,_=>False.elim h
 | u::us,d::ds,env,Q,h,k=>by
  obtain⟨eB,h'⟩:=k u (ar ..) d env _ h;simp only[ap];rw[yv h' λw hw=>k w (ao _ hw)]
theorem RD:∀d env (Q:fm->Prop),g8 i d env Q->∃eB,Q eB:=λ_ _ _ h=>⟨_,h⟩
theorem Ve (hc:X.calm=true)(h:Td X M es us)(hu:∀u∈us,∀d env (Q:fm->Prop),u d env Q->∃eB,Q eB)(hl:us.length=n')(hn:(assignEach es X.env).length=n':=by rfl)(xl:(assignEach es X.env).findIdx? (·.1)=none:=by rfl):KG X M (.Tuple es k pos) (Ob us) :=
 ⟨(Nq hc h.run hn xl).weaken λv σ H R h=>Tb h λenv pn S n d N h=>by
  obtain⟨ok,r,hh,k⟩:=h
  cases d with
  | tuple ds =>
   obtain⟨a,xs,rfl,ha,rs⟩:=r.fX;exact⟨a,xs,rfl,ja.of ha,by rw[rs.length,yv hh hu,hl],env,pn,S,n,ds,N,ok,rs,hh,k⟩
  | _=>exact False.elim hh⟩
end
structure zE (S:List Addr) (J:It) (its:List ad) (H:Hp):Prop where
 go:∀i,i<its.length->J.go i H
 HN:∀i x H',i<its.length->J.HN i H x H'->∃d,its[i]? = some d/\Ext [] H H'/\eE S H' d x
 stop:∀i,its.length<=i->J.stop i H
noncomputable abbrev UI:=fm->Int->(List ad->fm->Int->Prop)->Prop
noncomputable abbrev UJ:=fm->Int->(List ad->Int->Prop)->Prop
theorem QI.kl (h:QI X tg iter wi):QI X tg iter (λσ H R=>wi σ H λJ H1=>kj H1->R J H1) :=
 ⟨λpins s σ H R I q=>fM (h.run pins s σ H _ I q) λv s1 q1=>fM q1 λit s2 ⟨a,fp,tn,J,H',e,I2,t,t0,f,r⟩=>⟨a,fp,tn,J,H',e,I2,t,t0,f,r I2.hok.kl⟩⟩
structure KI (X:Cx) (M:Fr) (tg iter:Expr) (u:UI):Prop where
 ex:∃wi,QI X tg iter wi/\∀σ H R env pn S n Q,d5 M env pn σ S H n->u env n Q ->
  (∀J H' its eB S' n' p,d5 M eB (p++pn) σ S' H' n'->(∀S2 H2,(∀q∈p,eE S2 H2 q.1 q.2)->zE S2 J its H2)->Q its eB n'->R J H')->wi σ H R
structure KJ (X:Cx) (M:Fr) (tg iter:Expr) (u:UJ):Prop where
 ex:∃wi,QI X tg iter wi/\∀σ H R env pn S n Q,d5 M env pn σ S H n->u env n Q ->
  (∀J H' its n',Ext M.gs H H'->M.G H' n'->(∀H2,Ext M.gs H' H2->zE S J its H2)->its.length<=ax->Q its n'->R J H')->wi σ H R
theorem AA {K:W.Frag}{S:List Addr}{H:Hp}{a:Addr}{xs:List V}{ds:List ad}(ha:H a=some (.tup xs))(r:dS S H ds xs):zE S (Iy K a) ds H :=
 ⟨λi hi=>⟨xs,xs[i]'(by rw[r.length];exact hi),ja.of ha,!4⟩,λi x H' _ ⟨e,y⟩=>by
  subst e;obtain⟨d,hd,rd⟩:=r.get (y xs (ja.of ha));exact⟨d,hd,.refl _ _,rd⟩,λi hi=>⟨xs,ja.of ha,by rw[r.length];exact hi⟩⟩
theorem wk {K:W.Frag}{S:List Addr}{H:Hp}{a:Addr}{xs:List V}{ds:List ad}(ha:H a=some (.lst xs))(r:dS S H ds xs):zE S (Iw K a) ds H :=
 ⟨λi hi=>⟨xs,xs[i]'(by rw[r.length];exact hi),gK.of ha,!4⟩,λi x H' _ ⟨e,y⟩=>by
  subst e;obtain⟨d,hd,rd⟩:=r.get (y xs (gK.of ha));exact⟨d,hd,.refl _ _,rd⟩,λi hi=>⟨xs,gK.of ha,by rw[r.length];exact hi⟩⟩
noncomputable def g9 (ds:List ad):List ad:=ds.zipIdx.map λp=>.tuple [.int (p.2:Nat),p.1]
theorem jo (ds:List ad):(g9 ds).length=ds.length:=by simp[g9]
theorem yy {ds:List ad}{i:Nat}{d:ad}(h:ds[i]? = some d):(g9 ds)[i]? = some (.tuple [.int (i:Nat),d]):=by
 unfold g9;rw[aC,List.getElem?_zipIdx,h];simp
theorem yz {K:W.Frag}{S:List Addr}{H:Hp}{a:Addr}{xs:List V}{ds:List ad}(ha:H a=some (.tup xs))(r:dS S H ds xs):zE S (Q3 K a) (g9 ds) H :=
 ⟨λi hi=>⟨xs,xs[i]'(by rw[r.length,<- jo];exact hi),ja.of ha,!4⟩,λi x H' _ ⟨T,xi,e1,hT,e2,Vf⟩=>by
  subst e1 e2;obtain⟨d,hd,rd⟩:=r.get (Vf xs (ja.of ha));exact⟨_,yy hd,.new hT,.tup dP (.cons (.int _) (.cons (rd.ext (.new hT)) .nil))⟩,λi hi=>⟨xs,ja.of ha,by rw[r.length,<- jo];exact hi⟩⟩
theorem yB {K:W.Frag}{S:List Addr}{H:Hp}{a:Addr}{xs:List V}{ds:List ad}(ha:H a=some (.lst xs))(r:dS S H ds xs):zE S (Q6 K a) (g9 ds) H :=
 ⟨λi hi=>⟨xs,xs[i]'(by rw[r.length,<- jo];exact hi),gK.of ha,!4⟩,λi x H' _ ⟨T,xi,e1,hT,e2,Vf⟩=>by
  subst e1 e2;obtain⟨d,hd,rd⟩:=r.get (Vf xs (gK.of ha));exact⟨_,yy hd,.new hT,.tup dP (.cons (.int _) (.cons (rd.ext (.new hT)) .nil))⟩,λi hi=>⟨xs,gK.of ha,by rw[r.length,<- jo];exact hi⟩⟩
noncomputable def oI (lo:Int)(n:Nat):List ad:=(List.range n).map λ(k:Nat)=>.int (lo+k)
theorem GG {S:List Addr}{H:Hp}{lo:Int}{n:Nat}:zE S (SE lo n) (oI lo n) H :=
 have hl:(oI lo n).length=n:=by simp[oI]
 ⟨λi hi=>by rw[hl] at hi;exact hi,λi x H' hi ⟨e1,e2⟩=>by
  subst e1 e2;rw[hl] at hi;exact⟨.int (lo+(i:Nat)),by simp[oI,List.getElem?_range hi],.refl _ _,.int _⟩,λi hi=>by rw[hl] at hi;exact hi⟩
noncomputable def wm (i:Nat):UI:=λenv n Q=>match env[i]? with | some (some (.s (.tuple ds)))=>Q ds env n | some (some (.s (.list ds)))=>Q ds env n | some (some (.o ds))=>Q ds (env.set i (some (.s (.list ds)))) n | _=>False
noncomputable def mR (d:ad):Option (List ad):=match d with | .tuple ds=>some ds | .list ds=>some ds | _=>none
noncomputable def Od (u:UX):UI:=λenv n Q=>u env n λd n1=>pf (mR d) λds=>Q ds env n1
noncomputable def CM (u:UX):UJ:=λenv n Q=>u env n λd n1=>pf (mR d) λds=>Q ds n1
noncomputable def Te (u:UX):UJ:=λenv n Q=>u env n λd n1=>pf (mR d) λds=>Q (g9 ds) n1
noncomputable def Vg (u:UX):UI:=λenv n Q=>u env n λd n1=>pf (mR d) λds=>Q (g9 ds) env n1
noncomputable def JG (u:UX):UJ:=λenv n Q=>u env n λd n1=>match d with | .int j=>(-(2 ^ 62)<=j/\j<=16777216)/\Q (oI 0 j.toNat) n1 | _=>False
noncomputable def Lr (u:UX):UI:=λenv n Q=>u env n λd n1=>match d with | .int j=>-(2 ^ 62)<=j/\j<2 ^ 62/\Q (oI 0 j.toNat) env n1 | _=>False
noncomputable def Vh (K:W.Frag)(te:TE):TI:=λσ H R=>te σ H λx H1=>∃a,x=.ref a/\(((∃xs,gK K H1 a xs)/\R (Iw K a) H1)\/((∃xs,ja K H1 a xs)/\R (Iy K a) H1))
noncomputable def Vi (K:W.Frag)(ta:TA):TI:=λσ H R=>ta σ H λvs H1=>∃a,vs=[.ref a]/\(((∃xs,gK K H1 a xs)/\R (Q6 K a) H1)\/((∃xs,ja K H1 a xs)/\R (Q3 K a) H1))
section
variable {X:Cx}{M:Fr}{tg e a b:Expr}{u w:UX}{p pos Js:Pos}{xV:List Expr}{k:Nat}
theorem AB (h:QE X e te):QI X tg e (Vh X.K te):=by
 refine⟨λpins s σ H R I q=>fM (h.run pins s σ H _ I q) λv s1 ⟨x,H1,I1,r1,q1⟩=>?_⟩;obtain⟨a,e,q1⟩:=q1;subst e;cases r1;rcases q1 with⟨⟨xs,hq⟩,q⟩ | ⟨⟨xs,hq⟩,q⟩
 .obtain⟨its,rv,p,hz⟩:=I1.list hq
  refine wpAny_pyIter_list p.isList ?_;refine⟨s1.heap.objs.size,[s1.heap.objs.size],_,_,H1,rfl,I1.kept (t':=s1.toks) λb o e=>ah _ e,uq a _,⟨_,aF _ rfl,rfl,rfl⟩,λb hb=>?_,q⟩;have e:b=s1.heap.objs.size:=by simpa using hb
  subst e;exact I1.qX (am _) (I1.hok.fresh (am _))
 .obtain⟨its,rv,p,hz⟩:=I1.tuple hq
  refine wpAny_pyIter_tuple (show s1.heap.IsTuple a its.toArray from p) ?_;refine⟨s1.heap.objs.size,[s1.heap.objs.size],_,_,H1,rfl,I1.kept (t':=s1.toks) λb o e=>ah _ e,qY a _,⟨_,aF _ rfl,rfl,rfl⟩,λb hb=>?_,q⟩;have e:b=s1.heap.objs.size:=by simpa using hb
  subst e;exact I1.qX (am _) (I1.hok.fresh (am _))
theorem GH (hg:Gl X "enumerate")(hm:X.mg "enumerate" = none)(ha:QA X [a] ta):QI X (.Tuple xV k Js) (.Call (.Name "enumerate" p) [a] [] pos) (Vi X.K ta):=by
 refine⟨λpins s σ H R I h=>?_⟩;have hs:=fc (env:=X.env) (es:=[]) (jb ha.ns).1;refine Call_ (qW I hg hm (by decide +kernel:bootBuiltins "enumerate" = some (.type "enumerate")) (PyProof.Rows.callWith_type1 (fM (ha.run pos pins s σ H _ I h) λus s1 ⟨vs,H1,I1,r1,q1⟩=>?_) hs rfl));obtain⟨t,e,q1⟩:=q1;subst e
 have WL:∀b∈[s1.heap.objs.size+1,s1.heap.objs.size],qm X pins H1 b:=λb hb=>by
  have Oe:s1.heap.objs.size<=b:=by
   rcases au.mp hb with z | z
   .rw[z];exact cb _
   .have z':b=s1.heap.objs.size:=by simpa using z
    rw[z'];exact am _
  obtain⟨p0,p1,p2,p3,p4,p5⟩:=I1.qX Oe (I1.hok.fresh Oe);exact⟨p0,p1,p2,p3,p4,p5⟩
 cases r1 with
 | cons r rr =>
  cases rr;cases (show _=ag.ref t from r);rcases q1 with⟨⟨xs,hq⟩,q⟩ | ⟨⟨xs,hq⟩,q⟩
  .obtain⟨its,rv,pp,hz⟩:=I1.list hq
   refine call_enumerate_list pp.isList λh' en Vj sz kp=>?_;refine wpAny_pyIter_enum en ?_;have I2:Inv X pins σ H1 { s1 with heap:=h' }:=I1.kept (t':=s1.toks) kp;exact⟨s1.heap.objs.size+1,[s1.heap.objs.size+1,s1.heap.objs.size],_,_,H1,rfl,I2,Al t _ _ (Nat.succ_ne_self _),⟨⟨_,en⟩,Vj⟩,WL,q⟩
  .obtain⟨its,rv,pp,hz⟩:=I1.tuple hq
   refine Ac (show s1.heap.IsTuple t its.toArray from pp) λh' en Vj sz kp=>?_;refine wpAny_pyIter_enum en ?_;have I2:Inv X pins σ H1 { s1 with heap:=h' }:=I1.kept (t':=s1.toks) kp;exact⟨s1.heap.objs.size+1,[s1.heap.objs.size+1,s1.heap.objs.size],_,_,H1,rfl,I2,Ad t _ _ (Nat.succ_ne_self _),⟨⟨_,en⟩,Vj⟩,WL,q⟩
theorem fC.its {K:W.Frag}{gs S:List Addr}{H:Hp}{d:ad}{v:V}{ds:List ad}(r:fC gs S H d v)(e:mR d=some ds)(hg:∀a∈gs,a∈S):∃a,v=.ref a /\
  (((∃xs,H a=some (.lst xs)/\xs.length=ds.length)/\∀H2,Ext gs H H2->zE S (Iw K a) ds H2/\zE S (Q6 K a) (g9 ds) H2)\/((∃xs,H a=some (.tup xs)/\xs.length=ds.length)/\∀H2,Ext gs H H2->zE S (Iy K a) ds H2/\zE S (Q3 K a) (g9 ds) H2)):=by
 cases d with
 | tuple es =>
  cases e;obtain⟨a,xs,rfl,ha,rs⟩:=r.fX;exact⟨a,rfl,.inr ⟨⟨xs,ha,rs.length⟩,λH2 x=>⟨AA (x.tup _ _ ha) (rs.ext (x.mono hg)),yz (x.tup _ _ ha) (rs.ext (x.mono hg))⟩⟩⟩
 | list es =>
  cases e;have r0:=r;obtain⟨a,xs,rfl,ha,rs⟩:=r.fG;refine⟨a,rfl,.inl ⟨⟨xs,ha,rs.length⟩,λH2 x=>?_⟩⟩;obtain⟨a',nW,e',lD,CN⟩:=(r0.ext hg x).fG;cases e';exact⟨wk lD CN,yB lD CN⟩
 | _=>cases e
theorem r6 (h:KL X M e u):KJ X M tg e (CM u):=⟨_,(AB h.run).kl,λσ H R env pn S n Q ok hu k=>⟨env,pn,S,n,_,ok,hu,λv H1 d n1 r1 x1 g1 sz q=>by
 obtain⟨ds,e,q⟩:=q;obtain⟨a,rfl,h⟩:=r1.its (K:=X.K) e ok.tq;rcases h with⟨⟨xs,ha,hl⟩,h⟩ | ⟨⟨xs,ha,hl⟩,h⟩
 .exact⟨a,rfl,.inl ⟨⟨xs,gK.of ha⟩,λsz=>k _ H1 ds n1 x1 g1 (λH2 x2=>(h H2 x2).1) (by rw[<- hl];exact sz a xs (.inl ha)) q⟩⟩
 .exact⟨a,rfl,.inr ⟨⟨xs,ja.of ha⟩,λsz=>k _ H1 ds n1 x1 g1 (λH2 x2=>(h H2 x2).1) (by rw[<- hl];exact sz a xs (.inr ha)) q⟩⟩⟩⟩
theorem GI (hm:X.mg "enumerate" = none)(h:KL X M a u)(hs:e9 a=true:=by rfl)(hg:Gl X "enumerate" := by rfl):KJ X M (.Tuple xV k Js) (.Call (.Name "enumerate" p) [a] [] pos) (Te u) :=
 ⟨_,(GH hg hm (gB h.run eY hs)).kl,λσ H R env pn S n Q ok hu k=>⟨env,pn,S,n,_,ok,hu,λv H1 d n1 r1 x1 g1 sz q=>by
  obtain⟨ds,e,q⟩:=q;obtain⟨a,rfl,h⟩:=r1.its (K:=X.K) e ok.tq;rcases h with⟨⟨xs,ha,hl⟩,h⟩ | ⟨⟨xs,ha,hl⟩,h⟩
  .exact⟨a,rfl,.inl ⟨⟨xs,gK.of ha⟩,λsz=>k _ H1 _ n1 x1 g1 (λH2 x2=>(h H2 x2).2) (by rw[jo,<- hl];exact sz a xs (.inl ha)) q⟩⟩
  .exact⟨a,rfl,.inr ⟨⟨xs,ja.of ha⟩,λsz=>k _ H1 _ n1 x1 g1 (λH2 x2=>(h H2 x2).2) (by rw[jo,<- hl];exact sz a xs (.inr ha)) q⟩⟩⟩⟩
theorem GJ (lo:Int)(n:Nat):(oI lo n).length=n:=by simp[oI]
theorem oJ (hm:X.mg "range" = none)(h:KE X M a u)(hs:e9 a=true:=by rfl)(hg:Gl X "range" := by rfl):KJ X M tg (.Call (.Name "range" p) [a] [] pos) (JG u) :=
 ⟨_,uH hg hm (gB h.run eY hs),λσ H R env pn S n Q ok hu k=>⟨env,pn,S,n,_,ok,hu,λv H1 d n1 r1 x1 g1 sz q=>by
  cases d with
  | int j =>
   have hsz:ax=16777216:=by decide
   exact⟨j,by rw[r1.eP],q.1.1,by have:=q.1.2;omega,k _ H1 _ n1 x1 g1 (λH2 _=>GG) (by rw[GJ,hsz];have:=q.1.2;omega) q.2⟩
  | _=>exact False.elim q⟩⟩
theorem CO {K:W.Frag}{d:ad}{v:V}{ds:List ad}(e:mR d=some ds){S:List Addr}{H:Hp}(r:eE S H d v):∃a,v=.ref a /\
  (((∃xs,H a=some (.lst xs))/\∀S2 H2,(∀q∈[(d,v)],eE S2 H2 q.1 q.2)->zE S2 (Iw K a) ds H2/\zE S2 (Q6 K a) (g9 ds) H2)\/((∃xs,H a=some (.tup xs))/\∀S2 H2,(∀q∈[(d,v)],eE S2 H2 q.1 q.2)->zE S2 (Iy K a) ds H2/\zE S2 (Q3 K a) (g9 ds) H2)):=by
 cases d with
 | tuple es =>
  cases e;obtain⟨a,xs,rfl,ha,rs⟩:=r.fX;refine⟨a,rfl,.inr ⟨⟨xs,ha⟩,λS2 H2 h=>?_⟩⟩;obtain⟨a',nW,e',lD,CN⟩:=(h _ (aw.mpr rfl)).fX;cases e';exact⟨AA lD CN,yz lD CN⟩
 | list es =>
  cases e;obtain⟨a,xs,rfl,ha,_,rs⟩:=r.fG;refine⟨a,rfl,.inl ⟨⟨xs,ha⟩,λS2 H2 h=>?_⟩⟩;obtain⟨a',nW,e',lD,_,CN⟩:=(h _ (aw.mpr rfl)).fG;cases e';exact⟨wk lD CN,yB lD CN⟩
 | _=>cases e
theorem GK (h:KE X M e u):KI X M tg e (Od u):=⟨_,AB h.run,λσ H R env pn S n Q ok hu k=>⟨env,pn,S,n,_,ok,hu,λv H1 d n1 r1 x1 g1 sz q=>by
 obtain⟨ds,e,q⟩:=q;have mW:=(ok.step x1 g1).GF r1;obtain⟨a,rfl,h⟩:=CO (K:=X.K) e r1;rcases h with⟨⟨xs,ha⟩,h⟩ | ⟨⟨xs,ha⟩,h⟩
 .exact⟨a,rfl,.inl ⟨⟨xs,gK.of ha⟩,k _ H1 ds env S n1 [_] mW (λS2 H2 hh=>(h S2 H2 hh).1) q⟩⟩
 .exact⟨a,rfl,.inr ⟨⟨xs,ja.of ha⟩,k _ H1 ds env S n1 [_] mW (λS2 H2 hh=>(h S2 H2 hh).1) q⟩⟩⟩⟩
theorem Of (hm:X.mg "enumerate" = none)(h:KE X M a u)(hs:e9 a=true:=by rfl)(hg:Gl X "enumerate" := by rfl):KI X M (.Tuple xV k Js) (.Call (.Name "enumerate" p) [a] [] pos) (Vg u) :=
 ⟨_,GH hg hm (gB h.run eY hs),λσ H R env pn S n Q ok hu k=>⟨env,pn,S,n,_,ok,hu,λv H1 d n1 r1 x1 g1 sz q=>by
  obtain⟨ds,e,q⟩:=q;have mW:=(ok.step x1 g1).GF r1;obtain⟨a,rfl,h⟩:=CO (K:=X.K) e r1;rcases h with⟨⟨xs,ha⟩,h⟩ | ⟨⟨xs,ha⟩,h⟩
  .exact⟨a,rfl,.inl ⟨⟨xs,gK.of ha⟩,k _ H1 _ env S n1 [_] mW (λS2 H2 hh=>(h S2 H2 hh).2) q⟩⟩
  .exact⟨a,rfl,.inr ⟨⟨xs,ja.of ha⟩,k _ H1 _ env S n1 [_] mW (λS2 H2 hh=>(h S2 H2 hh).2) q⟩⟩⟩⟩
theorem qI (hm:X.mg "range" = none)(h:KE X M a u)(hs:e9 a=true:=by rfl)(hg:Gl X "range" := by rfl):KI X M tg (.Call (.Name "range" p) [a] [] pos) (Lr u) :=
 ⟨_,uH hg hm (gB h.run eY hs),λσ H R env pn S n Q ok hu k=>⟨env,pn,S,n,_,ok,hu,λv H1 d n1 r1 x1 g1 sz q=>by
  cases d with
  | int j=>exact⟨j,by rw[r1.eP],q.1,q.2.1,k _ H1 _ env S n1 [] (ok.step x1 g1) (λS2 H2 _=>GG) q.2.2⟩
  | _=>exact False.elim q⟩⟩
theorem CP (i:Nat)(hN:X.N[i]? = some x:=by rfl)(hv:tH X.env.scope x:=by (first | exact Or.inl rfl | exact Or.inr (Or.inl rfl) | exact Or.inr (Or.inr rfl)))(hd:(x == ("__debug__" : Str))=false:=by decide)
  (ic:(x == ("__classdict__" : Str))=false:=by decide):KI X M tg (.Name x pos) (wm i):=⟨_,AB (qv i hN hv hd ic),λσ H R env pn S n Q ok hu k=>by
 unfold wm at hu;split at hu
 .rename_i ds he
  obtain⟨v,hv,r⟩:=ok.val i _ he;obtain⟨a,xs,rfl,ha,rs⟩:=eE.fX r;refine⟨_,hv,a,rfl,.inr ⟨⟨xs,ja.of ha⟩,k _ H ds env S n [(.tuple ds,.ref a)] (ok.GF r) (λS2 H2 hh=>?_) hu⟩⟩;obtain⟨a',nW,e',lD,CN⟩:=(hh _ (aw.mpr rfl)).fX;cases e';exact AA lD CN
 .rename_i ds he
  obtain⟨v,hv,r⟩:=ok.val i _ he;obtain⟨a,xs,rfl,ha,_,rs⟩:=eE.fG r;refine⟨_,hv,a,rfl,.inl ⟨⟨xs,gK.of ha⟩,k _ H ds env S n [(.list ds,.ref a)] (ok.GF r) (λS2 H2 hh=>?_) hu⟩⟩;obtain⟨a',nW,e',lD,_,CN⟩:=(hh _ (aw.mpr rfl)).fG;cases e';exact wk lD CN
 .rename_i ds he
  obtain⟨a,xs,S',hv,ha,r,lC⟩:=ok.freeze he;refine⟨_,hv,a,rfl,.inl ⟨⟨xs,gK.of ha⟩,k _ H ds _ S' n [(.list ds,.ref a)] (lC.GF r) (λS2 H2 hh=>?_) hu⟩⟩;obtain⟨a',nW,e',lD,_,CN⟩:=(hh _ (aw.mpr rfl)).fG;cases e';exact wk lD CN
 .exact hu.elim⟩
end
noncomputable def d7 (u w:US):US:=λE env n=>u { E with nx:=w E } env n
noncomputable def yC (u w:US):US:=λE env n=>∃C:fm->Int->Prop,u { E with nx:=C } env n/\∀eB n',C eB n'->w E eB n'
noncomputable def gG:US:=λE env n=>E.nx env n
noncomputable def h9 (c:UT)(u w:US):US:=λE env n=>c env n λb n1=>if b=true then u E env n1 else w E env n1
noncomputable def fY (u:UX):US:=λE env n=>u env n E.rt
noncomputable def yD (i:Nat):US:=λE env n=>match env[i]? with | some (some (.s d))=>E.rt d n | some (some (.o ds))=>E.rt (.list ds) n | some (some (.d _ t kvs))=>E.rt (iB t kvs) n | _=>False
noncomputable def eD (i:Nat)(u:UX):US:=λE env n=>u env n λd n1=>E.nx (env.set i (some (.s d))) n1
noncomputable def r9 (i:Nat)(u:fm->Int->(List ad->Int->Prop)->Prop):US:=λE env n=>u env n λds n1=>E.nx (env.set i (some (.o ds))) n1
section
variable {X:Cx}{M:Fr}{st:Stmt}{zB body QP:List Stmt}{u w:US}{e c tg iter a b:Expr}{ue ua ub:UX}{uc:UT}{pos:Pos}
theorem KS.of (h:QS X st t)(k:∀D σ H env pn S n E,d5 M env pn σ S H n->u E env n->(∀eB σ' S' H' n',d5 M eB pn σ' S' H' n'->E.nx eB n'->D.nx σ' H')->(∀v H' d n',eE M.S0 H' d v->Ext M.gs M.H0 H'->M.G H' n'->E.rt d n'->D.rt v H')->t D σ H):KS X M st u :=
 ⟨h.weaken λD σ H h=>As h λenv pn S n E h=>k D σ H env pn S n E h.1 h.2.1 h.2.2.1 h.2.2.2⟩
theorem gN:zD X M [] gG:=⟨oo.weaken λD σ H h=>As h λenv pn S n E h=>h.2.2.1 _ _ _ _ _ h.1 h.2.1⟩
theorem d8 (h:KS X M st u):zD X M [st] u:=⟨gU h.run⟩
theorem eI (h:KS X M st u)(hr:zD X M zB w):zD X M (st::zB) (d7 u w):=⟨(fi h.run hr.run).weaken λD σ H h=>As h λenv pn S n E h =>
 ⟨env,pn,S,n,_,h.1,h.2.1,λeB σ' S' H' n' lC q=>⟨eB,pn,S',n',E,lC,q,h.2.2.1,h.2.2.2⟩,h.2.2.2⟩⟩
theorem CQ (h:KS X M st u)(hr:zD X M zB w):zD X M (st::zB) (yC u w):=⟨(fi h.run hr.run).weaken λD σ H h=>As h λenv pn S n E h=>Exists.elim h.2.1 λC hC =>
 ⟨env,pn,S,n,_,h.1,hC.1,λeB σ' S' H' n' lC q=>⟨eB,pn,S',n',E,lC,hC.2 _ _ q,h.2.2.1,h.2.2.2⟩,h.2.2.2⟩⟩
theorem pG (hc:KB X M c uc)(ha:zD X M body u)(hb:zD X M QP w):KS X M (.If c body QP pos) (h9 uc u w):=.of (xN hc.run ha.run hb.run) λD σ H env pn S n E ok hu k1 k2 =>
 ⟨env,pn,S,n,_,ok,hu,λb H1 n1 x1 g1 q=>by
  cases b with
  | true=>exact⟨env,pn,S,n1,E,ok.step x1 g1,q,k1,k2⟩
  | false=>exact⟨env,pn,S,n1,E,ok.step x1 g1,q,k1,k2⟩⟩
theorem ik (h:KE X M e ue):KS X M (.Return (some e) pos) (fY ue):=.of (kJ h.run) λD σ H env pn S n E ok hu k1 k2 =>
 ⟨env,pn,S,n,_,ok,hu,λv H1 d n1 r1 x1 g1 _ q=>k2 v H1 d n1 (r1.less ok.s0) (ok.step x1 g1).ext g1 q⟩
theorem Og (i:Nat)(hN:X.N[i]? = some x:=by rfl)(hv:tH X.env.scope x:=by (first | exact Or.inl rfl | exact Or.inr (Or.inl rfl) | exact Or.inr (Or.inr rfl)))(hd:(x == ("__debug__" : Str))=false:=by decide)
  (ic:(x == ("__classdict__" : Str))=false:=by decide):KS X M (.Return (some (.Name x iT)) pos) (yD i):=.of (kJ (qv i hN hv hd ic)) λD σ H env pn S n E ok hu k1 k2=>by
 unfold yD at hu;split at hu
 .rename_i d he
  obtain⟨v,hv,r⟩:=ok.val i _ he;exact⟨v,hv,k2 v H d n (eE.less ok.s0 r) ok.ext ok.gd hu⟩
 .rename_i ds he
  obtain⟨v,hv,a,xs,rfl,ha,r,hs,h0⟩:=ok.val i _ he;exact⟨_,hv,k2 _ H _ n (.lst ha (λz=>M.yo a z h0) (r.less ok.s0)) ok.ext ok.gd hu⟩
 .rename_i a t kvs he
  obtain⟨v,hv,rfl,xs,ha,r,hk,hs,h0⟩:=ok.val i _ he;exact⟨_,hv,k2 _ H _ n (.O5 ha (λz=>M.yo a z h0) hk (r.less ok.s0)) ok.ext ok.gd hu⟩
 .exact hu.elim
theorem RE (hN:X.N.Nodup)(hx:Loc X.env.scope x)(h:KE X M e ue)(hi:X.N[i]? = some x:=by rfl)(hs:swapsWith e (some (.Name x iT)) pos.line X.env=pure false:=by rfl)
  (hf:X.fn x=true\/X.env.scope.names.lookup x=some .local:=by (first | exact .inl rfl | exact .inr rfl | assumption)) (hfd:i ∉ M.fd:=by decide):KS X M (.Assign [.Name x iT] e pos) (eD i ue):=.of (jy hN hi hx h.run hs hf) λD σ H env pn S n E ok hu k1 k2 =>
 ⟨env,pn,S,n,_,ok,hu,λv H1 d n1 r1 x1 g1 _ q=>k1 _ _ _ _ _ ((ok.step x1 g1).set r1 hfd) q⟩
theorem RG (hN:X.N.Nodup)(hx:Loc X.env.scope x)(h:KN X M e un)(hi:X.N[i]? = some x:=by rfl)(hs:swapsWith e (some (.Name x iT)) pos.line X.env=pure false:=by rfl)
  (hf:X.fn x=true\/X.env.scope.names.lookup x=some .local:=by (first | exact .inl rfl | exact .inr rfl | assumption)) (hfd:i ∉ M.fd:=by decide):KS X M (.Assign [.Name x iT] e pos) (r9 i un):=.of (jy hN hi hx h.run hs hf) λD σ H env pn S n E ok hu k1 k2 =>
 ⟨env,pn,S,n,_,ok,hu,λa xs H1 ds n1 h0 h1 r1 x1 g1 _ q=>k1 _ _ _ _ _ (ok.RC h0 h1 r1 x1 g1 hfd) q⟩
noncomputable def km (ug:UG)(ub:US)(E:CB):List ad->fm->Int->Prop
 | [],env,n=>E.nx env n
 | d::ds,env,n=>ug d env λeB=>ub { nx:=km ug ub E ds,rt:=E.rt } eB n
noncomputable def jg (ui:UI)(ug:UG)(ub:US):US:=λE env n=>ui env n λits GL n1=>km ug ub E its GL n1
noncomputable def AD (c:UT)(ub:US):US:=λE env n=>∃W:Nat->fm->Int->Prop,(∃m,W m env n)/\∀m env n,W m env n->c env n λb n1=>if b=true then ub { nx:=λeB n'=>∃m',m' < m/\W m' eB n',rt:=E.rt } env n1 else E.nx env n1
theorem lq (hp:PassesOwn (model X.prog X.w) X.A X.env X.xe)(hc:X.calm=true)(hi:KI X M tg iter ui)(hg:KG X M tg ug)(hb:zD X M body u)(hs:∀x,foldedSetIterable iter X.env x=pure x:=by rw[3]):KS X M (.For tg iter body [] pos) (jg ui ug u):=by
 obtain⟨wi,qi,Ls⟩:=hi.ex;refine .of (z6 hp hc qi hg.run hb.run hs) λD σ H env pn S n E ok hu k1 k2=>Ls σ H _ env pn S n _ ok hu λJ H1 its GL S1 n1 p mW hJ q=>?_;refine⟨λi m σ' H'=>m=its.length - i/\i<=its.length/\∃eB S' n',d5 M eB (p++pn) σ' S' H' n'/\km ug u E (its.drop i) eB n',⟨its.length,!4,bL _,GL,S1,n1,mW,q⟩,?_⟩;rintro i m σ' H' ⟨rfl,tu,eB,S',n',lC,q'⟩;have it:=hJ S' H' λr hr=>lC.pin r (a6 _ hr);by_cases iQ:i<its.length
 .refine .inr ⟨it.go i iQ,λσ2 H2=>∃AE S2 n2,d5 M AE (p++pn) σ2 S2 H2 n2/\km ug u E (its.drop (i+1)) AE n2,λσ2 H2 h=>⟨its.length - (i+1),!1,rfl,iQ,h⟩,λx H2 hy=>?_⟩
  obtain⟨d,hd,x2,rd⟩:=it.HN i x H2 iQ hy
  have e:its.drop i=d::its.drop (i+1):=by
   rw[bB iQ];congr;exact (aX.mp hd).2
  rw[e] at q';have Ie:=lC.step (x2.mono (!4)) (M.iA lC.gd x2 (!4));exact⟨eB,p++pn,S',n',d,_,Ie,rd,q',λEl σ3 Ln q3=>⟨El,p++pn,S',n',_,Ln,q3,λVk σ4 S4 H4 n4 YA q4=>⟨Vk,S4,n4,YA,q4⟩,k2⟩⟩
 .refine .inl ⟨it.stop i (!1),?_⟩
  rw[cG (!1)] at q';exact k1 _ _ _ _ _ (lC.pins λr hr=>aJ _ hr) q'
theorem JH (hp:PassesOwn (model X.prog X.w) X.A X.env X.xe)(hc:KB X M c uc)(hb:zD X M body u):KS X M (.While c body [] pos) (AD uc u) :=
 .of (FW hp hc.run hb.run) λD σ H env pn S n E ok ⟨W,⟨m,hm⟩,hW⟩ k1 k2=>by
  refine⟨λm σ' H'=>∃eB S' n',d5 M eB pn σ' S' H' n'/\W m eB n',⟨m,env,S,n,ok,hm⟩,?_⟩;rintro m σ' H' ⟨eB,S',n',lC,hw⟩;refine⟨eB,pn,S',n',_,lC,hW m eB n' hw,λb H1 n1 x1 g1 q=>?_⟩
  cases b with
  | true=>exact⟨λσ2 H2=>∃m',m' < m/\∃AE S2 n2,d5 M AE pn σ2 S2 H2 n2/\W m' AE n2,λσ2 H2 h=>h,eB,pn,S',n1,_,lC.step x1 g1,q,λAE σ2 S2 H2 n2 Ie ⟨m',SM,YB⟩=>⟨m',SM,AE,S2,n2,Ie,YB⟩,k2⟩
  | false=>exact k1 _ _ _ _ _ (lC.step x1 g1) q
end
noncomputable def mY (mp:List (Option Nat))(env:fm):fm:=mp.map λo=>match o with | none=>none | some i=>(env[i]?).join
noncomputable def Fr.sub (M:Fr)(fd:List Nat):Fr:={ M with fd:=fd }
noncomputable def eS (ug:UG)(uc:UT)(ue:UX)(Q:List ad->Int->Prop):List ad->List ad->fm->Int->Prop
 | [],acc,_,n=>Q acc n
 | d::ds,acc,env,n=>ug d env λeB=>uc eB n λb n1=>if b=true then ue eB n1 λy n2=>eS ug uc ue Q ds (acc++[y]) eB n2 else eS ug uc ue Q ds acc eB n1
noncomputable def gj (ui:UJ)(mp:List (Option Nat))(ug:UG)(uc:UT)(ue:UX):fm->Int->(List ad->Int->Prop)->Prop:=λenv n Q=>ui env n λits n1=>eS ug uc ue Q its [] (mY mp env) n1
noncomputable def kO:UT:=λ_ n Q=>Q true n
structure KK (X:Cx) (M:Fr) (mU:List Expr) (u:UT):Prop where run:QK X mU (liftT M u)
section
theorem d5.lH (ok:d5 M env pn σ S H n)(hfd:∀j∈fd,∃i∈M.fd,mp[j]? = some (some i))(E8:(mp.filterMap id).Nodup):d5 (M.sub fd) (mY mp env) pn (lH mp σ) S H n:=by
 have at':∀(j:Nat) (e:mQ),(mY mp env)[j]? = some (some e)->∃i,mp[j]? = some (some i)/\env[i]? = some (some e):=λj e he=>by
  unfold mY at he;rw[aC] at he
  cases hm:mp[j]? with
  | none=>rw[hm] at he;cases he
  | some o =>
   rw[hm] at he
   cases o with
   | none=>cases he
   | some i =>
    refine⟨i,rfl,?_⟩;have JI:(env[i]?).join=some e:=Option.some.inj he
    cases hv:env[i]? with
    | none=>rw[hv] at JI;cases JI
    | some z=>rw[hv] at JI;exact congrArg some (show z=some e from JI)
 have Vl:∀(j i:Nat) (v:V),mp[j]? = some (some i)->σ[i]? = some (some v)->(L2.lH mp σ)[j]? = some (some v):=λj i v h1 h2=>by
  unfold L2.lH;rw[aC,h1];simp[h2]
 have Vm:∀(j i:Nat) (v:V),mp[j]? = some (some i)->(L2.lH mp σ)[j]? = some (some v)->σ[i]? = some (some v):=λj i v h1 h2=>by
  unfold L2.lH at h2;rw[aC,h1] at h2;have JI:(σ[i]?).join=some v:=Option.some.inj h2
  cases hv:σ[i]? with
  | none=>rw[hv] at JI;cases JI
  | some z=>rw[hv] at JI;exact congrArg some (show z=some v from JI)
 refine⟨λj e he=>?_,λj k ds es a h1 h2 h3 h4=>?_,by simp[mY,L2.lH],λj hj=>?_,ok.gd,ok.ext,ok.s0,ok.sn,ok.has,ok.pin⟩
 .obtain⟨i,hm,hv⟩:=at' j e he
  obtain⟨v,Oa,r⟩:=ok.val i e hv;exact⟨v,Vl j i v hm Oa,r⟩
 .obtain⟨i,hm,hv⟩:=at' j _ h1
  obtain⟨i2,E7,Oh⟩:=at' k _ h2;have e:=ok.ne i i2 _ _ a hv Oh (Vm _ _ _ hm h3) (Vm _ _ _ E7 h4);subst e;have hj:j<mp.length:=(aX.mp hm).1;have hk:k<mp.length:=(aX.mp E7).1;clear h1 h2 h3 h4 at' Vl Vm hfd
  induction mp generalizing j k with
  | nil=>cases hm
  | cons o mp ih =>
   have nd:∀{i:Nat},i∈mp.filterMap id->o≠some i:=λ{i} hi z=>by
    subst z;simp only[bZ,id] at E8;exact (bN.mp E8).1 hi
   have Vn:(mp.filterMap id).Nodup:=by
    cases o with
    | none=>simpa using E8
    | some z=>simp only[bZ,id] at E8;exact (bN.mp E8).2
   have mem:∀{k:Nat},mp[k]? = some (some i)->i∈mp.filterMap id:=λ{k} hk=>de.mpr ⟨some i,bO hk,rfl⟩
   cases j with
   | zero=>cases k with
    | zero=>rfl
    | succ k =>
     have h1:o=some i:=by simpa using hm
     have h2:mp[k]? = some (some i):=by simpa using E7
     exact absurd h1 (nd (mem h2))
   | succ j=>cases k with
    | zero =>
     have h1:o=some i:=by simpa using E7
     have h2:mp[j]? = some (some i):=by simpa using hm
     exact absurd h1 (nd (mem h2))
    | succ k=>rw[ih Vn j k (by simpa using hm) (by simpa using E7) (by simpa using hj) (by simpa using hk)]
 .obtain⟨i,hi,hm⟩:=hfd j hj
  exact Vl j i _ hm (ok.Eg i hi)
theorem kP:KK X M [] kO:=⟨⟨λpins s σ H Q I h=>As h λenv pn S n R h=>Nt.run pins s σ H Q I (h.2.2 true H n (.refl _ _) h.1.gd h.2.1)⟩⟩
theorem sd (h:KB X M c uc):KK X M [c] uc:=⟨z5 h.run⟩
theorem wo (Ls:∀σ H R env pn S n Q,d5 M env pn σ S H n->ui env n Q ->
  (∀J H' its n',Ext M.gs H H'->M.G H' n'->(∀H2,Ext M.gs H' H2->zE S J its H2)->its.length<=ax->Q its n'->R J H')->wi σ H R)
  (hfd:∀j∈fd,∃i∈M.fd,mp[j]? = some (some i)) (E8:(mp.filterMap id).Nodup) (ok:d5 M env pn σ S H n) (hu:gj ui mp ug uc ue env n Q)
  (k:∀ys H' ds n',dS S H' ds ys->Ext M.gs H H'->M.G H' n'->Q ds n'->R ys H'):uE wi mp (Lq (M.sub fd) ug) (liftT (M.sub fd) uc) (Rl (M.sub fd) ue) σ H R:=by
 refine Ls σ H _ env pn S n _ ok hu λJ H1 its n1 x1 g1 hJ hl q=>?_;have mW:=ok.step x1 g1
 refine⟨λi m ys σ' H'=>m=its.length - i/\i<=its.length/\∃eB n' acc,d5 (M.sub fd) eB pn σ' S H' n'/\dS S H' acc ys/\acc.length<=i/\Ext M.gs H1 H'/\eS ug uc ue Q (its.drop i) acc eB n',
  ⟨its.length,!4,bL _,_,n1,[],mW.lH hfd E8,.nil,am _,.refl _ _,q⟩,?_⟩
 rintro i m ys σ' H' ⟨rfl,tu,eB,n',acc,lC,ra,ha,x',q'⟩;have it:=hJ H' x';by_cases iQ:i<its.length
 .refine .inr ⟨it.go i iQ,by rw[ra.length];omega,λx H2 hy=>?_⟩
  obtain⟨d,hd,x2,rd⟩:=it.HN i x H2 iQ hy
  have e:its.drop i=d::its.drop (i+1):=by
   rw[bB iQ];congr;exact (aX.mp hd).2
  rw[e] at q';have Ie:d5 (M.sub fd) eB pn σ' S H2 n':=lC.step (x2.mono (!4)) (M.iA lC.gd x2 (!4));refine⟨eB,pn,S,n',d,_,Ie,rd,q',λEl σ3 Ln q3=>⟨El,pn,S,n',_,Ln,q3,λb H4 n4 x4 g4 q4=>?_⟩⟩;have Tf:Ext M.gs H' H4:=(x2.mono (!4)).trans x4
  cases b with
  | true=>exact⟨El,pn,S,n4,_,Ln.step x4 g4,q4,λy H5 dy n5 r5 x5 g5 _ q5=>⟨its.length - (i+1),!1,rfl,iQ,El,n5,acc++[dy],(Ln.step x4 g4).step x5 g5,(ra.ext ((Tf.trans x5).mono ok.tq)).append (.cons r5 .nil),by simp;omega,x'.trans (Tf.trans x5),q5⟩⟩
  | false=>exact⟨its.length - (i+1),!1,rfl,iQ,El,n4,acc,Ln.step x4 g4,ra.ext (Tf.mono ok.tq),!1,x'.trans Tf,q4⟩
 .refine .inl ⟨it.stop i (!1),by rw[ra.length];omega,?_⟩
  rw[cG (!1)] at q';exact k ys H' acc n' ra (x1.trans x') lC.gd q'
theorem i9 (fd:List Nat)(hc:X.calm=true)(hi:KJ X M tg iter ui)(hk:sc.kind=.function)(hm:i7 X.N X.env.scope sc N mp=true)
  (hb:∀(cl:List (Str × Addr)) (C:Addr) (s₂:aq) (H₂:Hp) (fp:List Addr),KG (fA X sc N cl C s₂ H₂ fp) (M.sub fd) tg ug/\KK (fA X sc N cl C s₂ H₂ fp) (M.sub fd) mU uc/\KE (fA X sc N cl C s₂ H₂ fp) (M.sub fd) pb ue)
  (hfd:∀j∈fd,∃i∈M.fd,mp[j]? = some (some i):=by decide) (E8:(mp.filterMap id).Nodup:=by decide) (hs:∀x,foldedSetIterable iter X.env x=pure x:=by rw[3]):KN X M (.ListComp pb [⟨tg,iter,mU,0⟩] sc pos) (gj ui mp ug uc ue):=by
 obtain⟨wi,qi,Ls⟩:=hi.ex;refine .of (vS hc qi hk hm (λcl C s₂ H₂ fp=>⟨(hb cl C s₂ H₂ fp).1.run,(hb cl C s₂ H₂ fp).2.1.run,(hb cl C s₂ H₂ fp).2.2.run⟩) hs) λσ H R env pn S n Q ok hu k=>?_;refine wo Ls hfd E8 ok hu λys H' ds n' r x g q D hD=>?_;have lC:=ok.step x g
 have Vo:H D=none:=by
  by_cases z:D∈M.gs
  .exact absurd hD (M.v9 g D z)
  .exact x.fresh z hD
 exact k D ys _ ds n' Vo dP ((r.fresh hD).ext (.new hD)) (x.trans (.new hD)) (M.iA g (.new (S:=[]) hD) (!4)) q
theorem GN (own:Bool)(fd:List Nat)(hN:X.N.Nodup)(hc:X.calm=true)(hi:KJ X M tg iter ui)(hk:sc.kind=.function)(hm:i7 X.N X.env.scope sc N mp=true)
  (hb:∀(cl:List (Str × Addr)) (C:Addr) (s₂:aq) (H₂:Hp) (fp:List Addr),KG (fA X sc N cl C s₂ H₂ fp) (M.sub fd) tg ug/\KK (fA X sc N cl C s₂ H₂ fp) (M.sub fd) mU uc/\KE (fA X sc N cl C s₂ H₂ fp) (M.sub fd) pb ue)
  (Nf:X.N[i]? = some x:=by rfl) (hx:X.env.scope.names.lookup x=some .local:=by rfl)
  (hfd:∀j∈fd,∃i∈M.fd,mp[j]? = some (some i):=by decide) (E8:(mp.filterMap id).Nodup:=by decide) (hfi:i ∉ M.fd:=by decide)
  (Je:swapsWith (.ListComp pb [⟨tg,iter,mU,0⟩] sc pos) (some (.Name x py)) spos.line X.env=pure true:=by rfl) (hs:∀x,foldedSetIterable iter X.env x=pure x:=by rw[3]) :
  KS X M (.Assign [.Name x py] (.ListComp pb [⟨tg,iter,mU,0⟩] sc pos) spos) (if own then r9 i (gj ui mp ug uc ue) else eD i (uL (gj ui mp ug uc ue))):=by
 obtain⟨wi,qi,Ls⟩:=hi.ex;have q:=Jm (i:=i) (py:=py) (spos:=spos) (pos:=pos) hN Nf hx hc qi hk hm (λcl C s₂ H₂ fp=>⟨(hb cl C s₂ H₂ fp).1.run,(hb cl C s₂ H₂ fp).2.1.run,(hb cl C s₂ H₂ fp).2.2.run⟩) Je hs
 cases own with
 | true =>
  refine .of q λD σ H env pn S n E ok hu k1 k2=>wo Ls hfd E8 ok hu λys H' ds n' r x g q D hD=>?_
  have Vo:H D=none:=by
   by_cases z:D∈M.gs
   .exact absurd hD (M.v9 g D z)
   .exact x.fresh z hD
  exact k1 _ _ _ _ _ (ok.RC Vo dP ((r.fresh hD).ext (.new hD)) (x.trans (.new hD)) (M.iA g (.new (S:=[]) hD) (!4)) hfi) q
 | false =>
  refine .of q λD σ H env pn S n E ok hu k1 k2=>wo Ls hfd E8 ok hu λys H' ds n' r x g q D hD=>?_;have lC:=ok.step x g;exact k1 _ _ _ _ _ ((lC.step (.new hD) (M.iA g (.new (S:=[]) hD) (!4))).set (qH lC.has hD r) hfi) q
end
noncomputable def mZ (i:Nat)(f:List ad->List ad->Option (List ad))(ua:UA):US:=λE env n=>match env[i]? with | some (some (.o ds))=>ua env n λas n1=>pf (f ds as) λqF=>E.nx (env.set i (some (.o qF))) n1 | _=>False
noncomputable def kQ (ds as:List ad):Option (List ad):=match as with | [d]=>if ds.length<ax then some (ds++[d]) else none | _=>none
noncomputable def jP (ds as:List ad):Option (List ad):=match as with | [.tuple es]=>if ds.length+es.length<=ax then some (ds++es) else none | [.list es]=>if ds.length+es.length<=ax then some (ds++es) else none | _=>none
noncomputable def mD (ds as:List ad):Option (List ad):=match as with | [.int i,d]=>if ds.length<ax/\0<=i/\i<2 ^ 62 then some (ds.take i.toNat++d::ds.drop i.toNat) else none | _=>none
structure Tg (X:Cx) (id:String) (f:List ad->List ad->Option (List ad)):Prop where
 ex:∃r,IS X id r/\∀S H a xs ds as vs qF (R:VK),H a=some (.lst xs)->dS S H ds xs->dS S H as vs->f ds as=some qF->(∀ys v,dS S H qF ys->R v (eZ H a (.lst ys)))->r (.ref a) vs H R
section
variable {X:Cx}{M:Fr}{e o:Expr}{es:List Expr}{ua:UA}{pos iE gu:Pos}{name:Str}{id:String}{f:List ad->List ad->Option (List ad)}
theorem se:Tg X "list.append" kQ:=⟨_,DH,λS H a xs ds as vs qF R ha r ra e k=>by
 obtain⟨d,rfl⟩:∃d,as=[d]:=by
  unfold kQ at e;split at e
  .exact⟨_,rfl⟩
  .cases e
 simp only[kQ] at e;split at e
 .rename_i hl
  cases e;obtain⟨v,t,rfl,r1,r2⟩:=ra.of_cons;cases r2.fB;exact⟨a,xs,v,rfl,rfl,ha,by rw[r.length];exact hl,k _ _ (r.append (.cons r1 .nil))⟩
 .cases e⟩
theorem GO:Tg X "list.insert" mD:=⟨_,DP,λS H a xs ds as vs qF R ha r ra e k=>by
 obtain⟨i,d,rfl⟩:∃i d,as=[.int i,d]:=by
  unfold mD at e;split at e
  .exact⟨_,_,rfl⟩
  .cases e
 simp only[mD] at e;split at e
 .rename_i hl
  cases e;obtain⟨v,t,rfl,r1,r2⟩:=ra.of_cons;obtain⟨w,t,rfl,r3,r4⟩:=r2.of_cons;cases r4.fB;exact⟨a,xs,i,w,rfl,by rw[r1.eP],ha,by rw[r.length];exact hl.1,hl.2.1,hl.2.2,k _ _ ((r.take _).append (.cons r3 (r.drop _)))⟩
 .cases e⟩
theorem GP:Tg X "list.extend" jP:=⟨_,IS.or (DI (X:=X)) (z8 X.K),λS H a xs ds as vs qF R ha r ra e k=>by
 obtain⟨es,h⟩:∃es,as=[.tuple es]\/as=[.list es]:=by
  unfold jP at e;split at e
  .exact⟨_,.inl rfl⟩
  .exact⟨_,.inr rfl⟩
  .cases e
 rcases h with rfl | rfl
 .simp only[jP] at e
  split at e
  .rename_i hl
   cases e;obtain⟨v,t,rfl,r1,r2⟩:=ra.of_cons;cases r2.fB;obtain⟨b,ys,rfl,hb,rb⟩:=r1.fX;exact .inr ⟨a,b,xs,ys,rfl,rfl,ha,ja.of hb,by rw[r.length,rb.length];exact hl,k _ _ (r.append rb)⟩
  .cases e
 .simp only[jP] at e
  split at e
  .rename_i hl
   cases e;obtain⟨v,t,rfl,r1,r2⟩:=ra.of_cons;cases r2.fB;obtain⟨b,ys,rfl,hb,_,rb⟩:=r1.fG;exact .inl ⟨a,b,xs,ys,rfl,rfl,ha,hb,by rw[r.length,rb.length];exact hl,k _ _ (r.append rb)⟩
  .cases e⟩
theorem sf (i:Nat)(pa:PlainAttrs "list")(slot:Slot "list" name id)(MZ:typeOf (.builtin id)=pure (.type "method_descriptor"))(hm:Tg X id f)(ha:KA X M (e::es) ua)
  (hN:X.N[i]? = some x:=by rfl) (hv:tH X.env.scope x:=by (first | exact Or.inl rfl | exact Or.inr (Or.inl rfl) | exact Or.inr (Or.inr rfl))) (hd:(x == ("__debug__" : Str))=false:=by decide) (ic:(x == ("__classdict__" : Str))=false:=by decide)
  (rh:attributeBase (.Name x p) name X.env (eval (.Name x p) X.env)=eval (.Name x p) X.env:=by rfl) (hl:decide ((e::es).length+0+0<30)=true:=by rfl) (rk:(iE.endLine == gu.line)=true:=by rfl)
  (hs:swapsWith (.Call (.Attribute (.Name x p) name iE) (e::es) [] gu) none pos.line X.env=pure false:=by rfl):KS X M (.Expr (.Call (.Attribute (.Name x p) name iE) (e::es) [] gu) pos) (mZ i f ua):=by
 obtain⟨r,h1,h2⟩:=hm.ex;refine .of (Jl (Nu X.K pa slot MZ h1 (qv i hN hv hd ic) ha.run rfl rh hl rk) hs) λD σ H env pn S n E ok hu k1 k2=>?_;unfold mZ at hu;split at hu
 .rename_i ds he
  obtain⟨v,hv,a,xs,rfl,ha,ra,hs,h0⟩:=ok.val i _ he;refine⟨_,hv,.inl ⟨rfl,xs,gK.of ha⟩,env,pn,S,n,_,ok,hu,λvs H1 as n1 el r1 x1 g1 _ q=>?_⟩;obtain⟨qF,e',q⟩:=q;have mW:=ok.step x1 g1;obtain⟨v',Oa,a',nW,YC,lD,YD,_,_⟩:=mW.val i _ he;subst YC;rw[hv] at Oa;cases Oa;exact h2 S H1 a nW ds as vs qF _ lD YD r1 e' λys w ry=>k1 _ _ _ _ _ (mW.put he hv lD ry) q
 .exact hu.elim
end
noncomputable abbrev XQ:=Str->List ad->Prop
noncomputable abbrev UF:=List ad->Int->(ad->Int->Prop)->XQ->Prop
noncomputable def yE:XQ:=λ_ _=>False
noncomputable def Rz (C:Xc)(S gs:List Addr)(H:Hp)(E:XK)(c:Str)(as:List ad):Prop:=∀(dx:Addr) (H':Hp) (vs:List V),dS S H' as vs->H' dx=some (.ext (jz dx ((C.fl c).zip vs)))->Ext gs H H'->E (.ref (C.cl c)) (some dx) H'
noncomputable def u4 (C:Xc)(F:UF):Sp:=λvs H Q E=>∃S ds n Qp Xp,dS S H ds vs/\(∀a∈S,H a≠none)/\F ds n Qp Xp/\(∀d v H',eE S H' d v->Ext [] H H'->Qp d n->Q v H')/\∀c as,Xp c as->Rz C S [] H E c as
structure zF where
 iU:Hp->Addr->Addr->Int->Prop
 ext:∀{S:List Addr} {H H':Hp} {fa sa:Addr} {n:Int},iU H fa sa n->Ext S H H'->fa ∉ S->sa ∉ S->iU H' fa sa n
 fa:∀{H:Hp} {fa sa:Addr} {n:Int},iU H fa sa n->H fa≠none
 sa:∀{H:Hp} {fa sa:Addr} {n:Int},iU H fa sa n->H sa≠none
 nx:∀{H:Hp} {fa sa:Addr} {n:Int},iU H fa sa n->∀φ,H fa≠some (.ext φ)
noncomputable def yF (Y:zF)(F:UF):Sp:=λvs H Q E=>∃fa sa us S ds n Qp,vs=.ref fa::us/\Y.iU H fa sa n/\fa∈S/\dS S H ds us/\(∀a∈S,H a≠none)/\F ds n Qp yE/\(∀d n' v H',eE S H' d v->Y.iU H' fa sa n'->Ext [fa] H H'->Qp d n'->Q v H')
noncomputable def Fr.pure (C:Xc)(n0:Int)(S:List Addr)(H:Hp)(has:∀a∈S,H a≠none):Fr where
 G:=λ_ n=>n=n0
 gs:=[]
 S0:=S
 H0:=H
 fa:=.gT
 fd:=[]
 xc:=C
 iA:=λh _ _=>h
 v9:=λ_ a h=>by cases h
 S9:=λ_ a h=>by cases h
 Ta:=λa h=>by cases h
 yo:=has
noncomputable def Fr.feed (C:Xc)(Y:zF)(i:Nat)(fa sa:Addr)(n0:Int)(S:List Addr)(H:Hp)(hf:Y.iU H fa sa n0)(hS:fa∈S)(has:∀a∈S,H a≠none):Fr where
 G:=λH n=>Y.iU H fa sa n
 gs:=[fa]
 S0:=S
 H0:=H
 fa:=.ref fa
 fd:=[i]
 xc:=C
 iA:=λh x k=>Y.ext h x (λz=>Y.fa hf (k _ z)) (λz=>Y.sa hf (k _ z))
 v9:=λh a ha=>by have e:=aw.mp ha;subst e;exact Y.fa h
 S9:=λh a ha=>by have e:=aw.mp ha;subst e;exact Y.nx h
 Ta:=λa ha=>by have e:=aw.mp ha;subst e;exact hS
 yo:=has
noncomputable def envOf (N:Nat)(ds:List ad):fm:=ds.map (λd=>some (.s d))++List.replicate (N - ds.length) none
noncomputable def nY (N np:Nat)(u:XQ->US):UF:=λds n Q Ex=>ds.length=np/\u Ex { nx:=λ_ n'=>Q .none n',rt:=Q } (envOf N ds) n
noncomputable def lS (N np:Nat)(u:XQ->US):UF:=λds n Q Ex=>ds.length+1=np/\u Ex { nx:=λ_ n'=>Q .none n',rt:=Q } (none::envOf (N - 1) ds) n
theorem pH (h0:M.H0=H)(hS:M.S0=S)(r:dS S H ds vs)(hfd:M.fd=[])(g:M.G H n):d5 M (envOf N.length ds) [] (start N vs) S H n:=by
 subst h0 hS;have hl:=r.length
 have key:∀(i:Nat) (e:mQ),(envOf N.length ds)[i]? = some (some e)->∃d,ds[i]? = some d/\e=.s d:=λi e h=>by
  unfold envOf at h;by_cases hi:i<ds.length
  .rw[bM (by simpa using hi),aC] at h
   cases hd:ds[i]? with
   | none=>rw[hd] at h;cases h
   | some d=>rw[hd] at h;exact⟨d,rfl,(Option.some.inj (Option.some.inj h)).symm⟩
  .rw[bJ (by simp;omega),cC] at h
   split at h<;>cases h
 refine⟨λi e h=>?_,λi j a b c h1=>?_,?_,(by rw[hfd];intro i hi;cases hi),g,.refl _ _,λa h=>h,λa h=>.inl h,M.yo,λp hp=>by cases hp⟩
 .obtain⟨d,hd,rfl⟩:=key i e h
  obtain⟨v,hv,rv⟩:=r.at hd;refine⟨v,?_,rv⟩;unfold start;rw[bM (by rw[ak];exact (aX.mp hv).1),aC,hv];rfl
 .obtain⟨d,_,e⟩:=key _ _ h1
  cases e
 .unfold envOf start
  simp[hl]
theorem AF (h0:M.H0=H)(hS:M.S0=S)(r:dS S H ds vs)(hfd:M.fd=[0])(Pf:M.fa=.ref fa)(hN:1<=N.length)(g:M.G H n):d5 M (none::envOf (N.length - 1) ds) [] (start N (.ref fa::vs)) S H n:=by
 subst h0 hS;have hl:=r.length
 have key:∀(i:Nat) (e:mQ),(none::envOf (N.length - 1) ds)[i]? = some (some e)->∃j d,i=j+1/\ds[j]? = some d/\e=.s d:=λi e h=>by
  cases i with
  | zero=>cases h
  | succ i =>
   rw[af] at h;unfold envOf at h;by_cases hi:i<ds.length
   .rw[bM (by simpa using hi),aC] at h
    cases hd:ds[i]? with
    | none=>rw[hd] at h;cases h
    | some d=>rw[hd] at h;exact⟨i,d,rfl,hd,(Option.some.inj (Option.some.inj h)).symm⟩
   .rw[bJ (by simp;omega),cC] at h
    split at h<;>cases h
 refine⟨λi e h=>?_,λi j a b c h1=>?_,?_,?_,g,.refl _ _,λa h=>h,λa h=>.inl h,M.yo,λp hp=>by cases hp⟩
 .obtain⟨j,d,rfl,hd,rfl⟩:=key i e h
  obtain⟨v,hv,rv⟩:=r.at hd;refine⟨v,?_,rv⟩;unfold start;have Lu:j<vs.length:=(aX.mp hv).1;rw[bM (by rw[ak,ap];omega),aj,af,aC,hv];rfl
 .obtain⟨j,d,_,_,e⟩:=key _ _ h1
  cases e
 .unfold envOf start
  simp[hl];omega
 .rw[hfd,Pf]
  intro i hi;have e:=aw.mp hi;subst e;unfold start;simp
section
variable {P:aP}{w:World}{K:W.Frag}{mg:Str->Option ag}{base:Heap}{f:Addr}{fd:bG}{x:Str}{fu:Str}{st:Stmt}{N ps:List Str}{k:Nat}{C:Xc}{u:XQ->US}{Y:zF}
theorem Vp (F:uA K x fu st f fd)(hm:mg x=some (.ref f))(sc:fh N ps (dM st))(hb:Binds K fd ps [])
  (body:∀(fz:ag) (A:Around) (outer:List Env) (s:aq) (H:Hp) (E:XK) (n0:Int) (S:List Addr) (has:∀a∈S,H a≠none),fw k (A.deeper (envOfC fu (dM st) s.heap.objs.size f fz))->zD (kG rq P w K mg base N fu (dM st) f fz A outer s H E).Dv (Fr.pure C n0 S H has) (fE st) (u yE)) :
  eO P w K mg base (k+1) x ps (u4 C (nY N.length ps.length λ_=>u yE)):=by
 refine⟨f,fd,F.K7 sc (λvs H Q E h=>?_) (λfz A outer s H vs Q E hr h=>?_),hm,F.kp,hb⟩
 .obtain⟨S,ds,n,Qp,Xp,r,_,hF,_⟩:=h
  rw[r.length];exact hF.1
 .obtain⟨S,ds,n,Qp,Xp,r,has,hF,hq,hx⟩:=h
  refine⟨_,(body fz A outer s H E n S has hr).run,envOf N.length ds,[],S,n,_,pH rfl rfl r rfl rfl,hF.2,λeB σ' S' H' n' ok q=>?_,λv H' d n' rv x g q=>?_⟩
  .have e:n'=n:=ok.gd
   subst e;exact hq _ _ H' .gT ok.ext q
  .have e:n'=n:=g
   subst e;exact hq d v H' rv x q
theorem Vq (F:uA K x fu st f fd)(hm:mg x=some (.ref f))(sc:fh N ps (dM st))(hb:Binds K fd ps [])(hN:1<=N.length)
  (body:∀(fz:ag) (A:Around) (outer:List Env) (s:aq) (H:Hp) (E:XK) (fa sa:Addr) (n0:Int) (S:List Addr) (hf:Y.iU H fa sa n0) (hS:fa∈S) (has:∀a∈S,H a≠none),fw k (A.deeper (envOfC fu (dM st) s.heap.objs.size f fz)) ->
   zD (kG rq P w K mg base N fu (dM st) f fz A outer s H E).Dv (Fr.feed C Y 0 fa sa n0 S H hf hS has) (fE st) (u yE)) :
  eO P w K mg base (k+1) x ps (yF Y (lS N.length ps.length λ_=>u yE)):=by
 refine⟨f,fd,F.K7 sc (λvs H Q E h=>?_) (λfz A outer s H vs Q E hr h=>?_),hm,F.kp,hb⟩
 .obtain⟨fa,sa,us,S,ds,n,Qp,rfl,_,_,r,_,hF,_⟩:=h
  rw[ap,r.length];exact hF.1
 .obtain⟨fa,sa,us,S,ds,n,Qp,rfl,fe,hS,r,has,hF,hq⟩:=h
  refine⟨_,(body fz A outer s H E fa sa n S fe hS has hr).run,none::envOf (N.length - 1) ds,[],S,n,_,AF rfl rfl r rfl rfl hN fe,hF.2,λeB σ' S' H' n' ok q=>?_,λv H' d n' rv x g q=>?_⟩
  .exact hq _ n' _ H' .gT ok.gd ok.ext q
  .exact hq d n' v H' rv g x q
end
noncomputable def dZ (F:UF)(ua:UA):UX:=λenv n Q=>ua env n λds n1=>F ds n1 Q yE
mutual
def qd:ad->Bool
 | .list _=>false
 | .tuple ds=>pI ds
 | .dict _=>false
 | _=>true
def pI:List ad->Bool
 | []=>true
 | d::ds=>qd d && pI ds
end
mutual
theorem eE.any {S S':List Addr}{H:Hp}:∀{d:ad} {v:V},qd d=true->eE S H d v->eE S' H d v
 | .none,_,_,h=>h
 | .bool _,_,_,h=>h
 | .int _,_,_,h=>h
 | .str _,_,_,h=>h
 | .tuple ds,_,hn,h=>by
  obtain⟨a,xs,rfl,ha,r⟩:=h.fX;exact .tup ha (dS.any (by simpa [qd] using hn) r)
 | .list ds,_,hn,h=>by simp[qd] at hn
 | .dict _,_,hn,h=>by simp[qd] at hn
theorem dS.any {S S':List Addr}{H:Hp}:∀{ds:List ad} {vs:List V},pI ds=true->dS S H ds vs->dS S' H ds vs
 | [],_,_,h=>h
 | d::ds,_,hn,h=>by
  obtain⟨x,t,rfl,h1,h2⟩:=h.of_cons;simp only[pI,bv] at hn;exact .cons (eE.any hn.1 h1) (dS.any hn.2 h2)
end
noncomputable def AG (F:UF)(ua:UA):UX:=λenv n Q=>ua env n λds n1=>F ds n1 (λd n'=>qd d=true/\Q d n') yE
section
theorem fZ (D:eO X.prog X.w X.K X.mg X.base k x ps (u4 C F))(hr:fw k X.A)(ha:KA X M (e::es) ua)(hg:Gl X x:=by rfl)(jw:(x == ("__debug__" : Str))=false:=by decide):KE X M (.Call (.Name x p) (e::es) [] pos) (dZ F ua) :=
 .of (lK D hr ha.run hg jw) λσ H R env pn S n Q ok hu k=>⟨env,pn,S,n,_,ok,hu,λvs H1 ds n1 el r1 x1 g1 _ q=>⟨S,ds,n1,Q,yE,r1,(ok.step x1 g1).has,q,λd v H2 r2 x2 q2=>k v H2 d n1 r2 (x1.trans (x2.mono (!4))) (M.iA g1 x2 (!4)) q2,λc as z=>z.elim⟩⟩
theorem JJ (D:eO X.prog X.w X.K X.mg X.base k x ps (u4 C F))(hr:fw k X.A)(ha:Lg X M (e::es) ua)(hg:Gl X x:=by rfl)(jw:(x == ("__debug__" : Str))=false:=by decide):KE X M (.Call (.Name x p) (e::es) [] pos) (AG F ua) :=
 .of (lK D hr ha.run hg jw) λσ H R env pn S n Q ok hu k=>⟨env,pn,S,n,_,ok,hu,λvs H1 ds n1 r1 x1 g1 _ q=>⟨M.gs,ds,n1,_,yE,r1.less ok.tq,M.v9 g1,q,λd v H2 r2 x2 q2=>k v H2 d n1 (r2.any q2.1) (x1.trans (x2.mono (!4))) (M.iA g1 x2 (!4)) q2.2,λc as z=>z.elim⟩⟩
theorem eN (i:Nat){y:Str}{p2:Pos}{fa sa:Addr}(D:eO X.prog X.w X.K X.mg X.base k x ps (yF Y F))(hr:fw k X.A)(ha:KA X M es ua)
  (hG:M.G=λH n=>Y.iU H fa sa n:=by rfl) (Pf:M.fa=.ref fa:=by rfl) (Cu:M.gs=[fa]:=by rfl) (hfd:i∈M.fd:=by decide)
  (hN:X.N[i]? = some y:=by rfl) (hv:tH X.env.scope y:=by (first | exact Or.inl rfl | exact Or.inr (Or.inl rfl) | exact Or.inr (Or.inr rfl))) (hd:(y == ("__debug__" : Str))=false:=by decide) (ic:(y == ("__classdict__" : Str))=false:=by decide)
  (hg:Gl X x:=by rfl) (jw:(x == ("__debug__" : Str))=false:=by decide):KE X M (.Call (.Name x p) (.Name y p2::es) [] pos) (dZ F ua) :=
 .of (lK D hr (gB (qv i hN hv hd ic) ha.run rfl) hg jw) λσ H R env pn S n Q ok hu k=>⟨_,ok.Eg i hfd,env,pn,S,n,_,ok,hu,λvs H1 ds n1 el r1 x1 g1 _ q=>by
  have mW:=ok.step x1 g1;refine⟨fa,sa,vs,S,ds,n1,Q,by rw[Pf],by rw[hG] at g1;exact g1,ok.tq fa (by rw[Cu];simp),r1,mW.has,q,λd n2 v H2 r2 f2 x2 q2=>k v H2 d n2 r2 (x1.trans (by rw[Cu];exact x2)) (by rw[hG];exact f2) q2⟩⟩
noncomputable def AH (Ex:XQ)(c:Str)(ua:UA):US:=λ_ env n=>ua env n λas _=>Ex c as
theorem GQ (E:XK)(Ex:XQ)(C:Xc)(R:mB X.prog X.w X.K X.mg X.base x (C.cl x) (Gn (C.cl x) f))(hf:C.fl x=[f])(hr:fw 2 X.A)(hl:lO X E)(hc:X.calm=true)(hx:∀c as,Ex c as->Rz C M.S0 M.gs M.H0 E c as)(ha:KA X M [e] ua)(hg:Gl X x:=by rfl)(jw:(x == ("__debug__" : Str))=false:=by decide) :
  KS X M (.Raise (some (.Call (.Name x p) [e] [] gu)) none pos) (AH Ex x ua):=.of (Ee E R hr hl hc ha.run hg jw) λD σ H env pn S n En ok hu k1 k2=>⟨env,pn,S,n,_,ok,hu,λvs H1 as n1 el r1 x1 g1 _ q=>by
 have hv:∃v,vs=[v]:=by
  match vs,el with
  | [v],_=>exact⟨v,rfl⟩
 obtain⟨v,rfl⟩:=hv;refine⟨by show 1<=100;decide,λy hy=>NO (H0:=H1) (λdx H' hd x'=>?_) (.refl _ _) hy⟩;refine hx x as q dx H' [v] ((r1.ext (x'.mono (!4))).less ok.s0) (by rw[hf];exact hd) ((ok.step x1 g1).ext.trans (x'.mono (!4)))⟩
end
noncomputable def Oi (c:String)(d:ad):Bool:=match c,d with
 | "int",.int _=>true | "int",.bool _=>true | "bool",.bool _=>true | "tuple",.tuple _=>true | "list",.list _=>true | "str",.str _=>true | _,_=>false
noncomputable def Oj (c:String)(u:UX):UX:=λenv n Q=>u env n λd n1=>Q (.bool (Oi c d)) n1
theorem Vr {K:W.Frag}{c:String}(hc:c = "int" \/ c = "bool" \/ c = "tuple" \/ c = "list" \/ c = "str")(d:ad):W.kitOne K (.type (Up d)) (.type c)=some (Oi c d):=by
 rcases hc with rfl | rfl | rfl | rfl | rfl<;>cases d<;>rfl
theorem fC.ty {K:W.Frag}{gs S:List Addr}{H:Hp}{d:ad}{v:V}(h:fC gs S H d v):mM K H v (.type (Up d)):=by
 rcases h with h | ⟨ds,a,xs,rfl,rfl,ha,_⟩ | ⟨t,kvs,a,xs,rfl,rfl,ha,_⟩
 .exact h.ty
 .exact .lst ha
 .cases t with
  | true=>exact .dT ha
  | false=>exact .dK ha
section
variable {X:Cx}{M:Fr}{e a b:Expr}{u w:UX}{p p2 q2 pos:Pos}{c:String}{x:Str}
theorem RH (hm:X.mg "isinstance" = none)(hx:X.mg x=none)(h:KL X M e u)(hc:c = "int" \/ c = "bool" \/ c = "tuple" \/ c = "list" \/ c = "str" := by decide)(hv:bootBuiltins x=some (.type c):=by decide +kernel)(hg:Gl X "isinstance" := by rfl)(YE:Gl X x:=by rfl)(hs:e9 e=true:=by rfl)(hn:x ≠ "__name__" := by decide)(jw:(x == ("__debug__" : Str))=false:=by decide) :
  KE X M (.Call (.Name "isinstance" p) [e,.Name x p2] [] pos) (Oj c u) :=
 .of (fO (Us X.K) hg hm (!3) (gB h.run (gB (K6 c YE hx hv hn jw) eY rfl) hs)) λσ H R env pn S n Q ok hu k=>⟨env,pn,S,n,_,ok,hu,λv H1 d n1 r1 x1 g1 _ q=>⟨v,_,c,_,rfl,r1.ty,Vr hc d,k _ H1 _ n1 (.bl _) x1 g1 q⟩⟩
theorem AI (ok:d5 M env pn σ S H n)(x:Ext M.gs H H')(g:M.G H' n')(h:H' l=none):H l=none:=by
 by_cases z:l∈M.gs
 .exact absurd h (M.v9 g l z)
 .exact x.fresh z h
noncomputable def yG (u:UX):fm->Int->(List ad->Int->Prop)->Prop:=λenv n Q=>u env n λd n1=>match d with | .int j=>(-(2 ^ 62)<=j/\j<=16777216)/\Q (oI 0 j.toNat) n1 | _=>False
theorem yH (j:Int):dS S H (oI 0 j.toNat) (ng 0 j):=by
 unfold oI ng;rw[Int.sub_zero];generalize j.toNat=m
 induction m with
 | zero=>exact .nil
 | succ m ih =>
  rw[List.range_succ,a8,a8];exact ih.append (.cons (.int _) .nil)
theorem JK (hm:X.mg "list" = none)(E7:X.mg "range" = none)(hc:X.calm=true)(h:KE X M e u)(hg:Gl X "list" := by rfl)(E9:Gl X "range" := by rfl)(hs:e9 e=true:=by rfl):KN X M (.Call (.Name "list" p) [.Call (.Name "range" p2) [e] [] q2] [] pos) (yG u) :=
 .of (g7 (tL hc) hg hm (!3) (gB (g7 xI E9 E7 (!3) (gB h.run eY hs)) eY)) λσ H R env pn S n Q ok hu k=>⟨env,pn,S,n,_,ok,hu,λv H1 d n1 r1 x1 g1 _ q=>by
  cases d with
  | int j =>
   refine⟨j,by rw[r1.eP],λr hr=>⟨r,0,j,rfl,dP,⟨!2,!2,q.1.1,by have:=q.1.2;omega⟩,by have:=q.1.2;omega,λl hl=>?_⟩⟩;have x2:Ext [] H1 (eZ H1 r (.Fc 0 j)):=.new hr;have x3:Ext [] (eZ H1 r (.Fc 0 j)) _:=.new (o:=.lst (ng 0 j)) hl;have RI:=x2.trans x3;exact k l _ _ _ n1 (AI ok (x1.trans (x2.mono (!4))) (M.iA g1 x2 (!4)) hl) dP (yH j) (x1.trans (RI.mono (!4))) (M.iA g1 RI (!4)) q.2
  | _=>exact False.elim q⟩
noncomputable def Lv (u:fm->Int->(List ad->Int->Prop)->Prop):UX:=λenv n Q=>u env n λds n'=>Q (.tuple ds) n'
theorem Ol (hm:X.mg "tuple" = none)(E7:X.mg "range" = none)(hc:X.calm=true)(h:KE X M e u)(hg:Gl X "tuple" := by rfl)(E9:Gl X "range" := by rfl)(hs:e9 e=true:=by rfl):KE X M (.Call (.Name "tuple" p) [.Call (.Name "range" p2) [e] [] q2] [] pos) (Lv (yG u)) :=
 .of (g7 (rD hc) hg hm (!3) (gB (g7 xI E9 E7 (!3) (gB h.run eY hs)) eY)) λσ H R env pn S n Q ok hu k=>⟨env,pn,S,n,_,ok,hu,λv H1 d n1 r1 x1 g1 _ q=>by
  cases d with
  | int j =>
   refine⟨j,by rw[r1.eP],λr hr=>⟨r,0,j,rfl,dP,⟨!2,!2,q.1.1,by have:=q.1.2;omega⟩,by have:=q.1.2;omega,λl hl=>?_⟩⟩;have x2:Ext [] H1 (eZ H1 r (.Fc 0 j)):=.new hr;have x3:Ext [] (eZ H1 r (.Fc 0 j)) _:=.new (o:=.tup (ng 0 j)) hl;have RI:=x2.trans x3;exact k _ _ _ n1 (.tup dP (yH j)) (x1.trans (RI.mono (!4))) (M.iA g1 RI (!4)) q.2
  | _=>exact False.elim q⟩
noncomputable def yI:ad->Option Int | .int i=>some i | _=>none
noncomputable def iG (ds:List ad):Option (List Int):=ds.mapM yI
@[simp] theorem iH (ns:List Int):iG (ns.map .int)=some ns:=by
 unfold iG
 induction ns with
 | nil=>rfl
 | cons n ns ih=>rw[aj,cD,ih];rfl
theorem iI:∀{ds:List ad} {ns:List Int},iG ds=some ns->ds=ns.map .int
 | [],ns,h=>by cases h;rfl
 | d::ds,ns,h=>by
  unfold iG at h;rw[cD] at h
  cases d with
  | int i =>
   cases e:ds.mapM yI with
   | none=>simp[yI,e] at h
   | some ms =>
    simp[yI,e] at h;subst h;rw[iI (ds:=ds) e];rfl
  | _=>simp[yI] at h
theorem jq:∀{ns:List Int} {xs:List V},dS S H (ns.map .int) xs->xs=ns.map V.int
 | [],_,r=>r.fB
 | n::ns,_,r=>by
  obtain⟨x,t,rfl,r1,r2⟩:=r.of_cons;rw[r1.eP,jq r2];rfl
noncomputable def insI (a:Int):List Int->List Int | []=>[a] | b::l=>if a<=b then a::b::l else b::insI a l
noncomputable def sortI:List Int->List Int | []=>[] | a::l=>insI a (sortI l)
theorem insI_perm (a:Int):∀l,(insI a l).Perm (a::l)
 | []=>.refl _
 | b::l=>by
  unfold insI;split
  .exact .refl _
  .exact ((insI_perm a l).cons b).trans (.swap a b l)
theorem sortI_perm:∀l,(sortI l).Perm l
 | []=>.refl _
 | a::l=>(insI_perm a (sortI l)).trans ((sortI_perm l).cons a)
theorem qf (a:Int):∀l:List Int,l.Pairwise (·<=·)->(insI a l).Pairwise (·<=·)
 | [],_=>by simp[insI]
 | b::l,h=>by
  unfold insI;obtain⟨h1,h2⟩:=b8.mp h;split
  .rename_i pZ
   exact b8.mpr ⟨λc hc=>by rcases au.mp hc with rfl | hc;exact pZ;exact bD pZ (h1 c hc),h⟩
  .rename_i pZ
   refine b8.mpr ⟨λc hc=>?_,qf a l h2⟩;rcases au.mp ((insI_perm a l).mem_iff.mp hc) with rfl | hc
   .omega
   .exact h1 c hc
theorem jh:∀l,(sortI l).Pairwise (·<=·)
 | []=>.nil
 | a::l=>qf a _ (jh l)
theorem nq {l m:List Int}(h:l.Perm m)(hl:l.Pairwise (·<=·))(hm:m.Pairwise (·<=·)):l=m:=h.eq_of_pairwise (λa b _ _ h1 h2=>Int.le_antisymm h1 h2) hl hm
noncomputable def jQ:List Int->List Int | []=>[] | a::l=>if a∈l then jQ l else a::jQ l
theorem jr:∀{l:List Int},k∈jQ l↔k∈l
 | []=>Iff.rfl
 | a::l=>by
  unfold jQ;split
  .rename_i h
   rw[jr,au];exact⟨.inr,λz=>z.elim (λe=>e ▸ h) id⟩
  .rw[au,jr,au]
theorem jR:∀l:List Int,(jQ l).Nodup
 | []=>List.nodup_nil
 | a::l=>by
  unfold jQ;split
  .exact jR l
  .rename_i h
   exact bN.mpr ⟨λz=>h (jr.mp z),jR l⟩
noncomputable def kR (l:List Int):List Int:=sortI (jQ l)
theorem iK:k∈kR l↔k∈l:=((sortI_perm _).mem_iff).trans jr
theorem mE (l:List Int):(kR l).Pairwise (· < ·):=lM (jh _) ((sortI_perm _).nodup_iff.mpr (jR l))
theorem wq:∀{l m:List Int},l.Pairwise (· < ·)->m.Pairwise (· < ·)->(∀k,k∈l↔k∈m)->l=m:=λ{l m} hl hm h=>by
 have nl:l.Nodup:=hl.imp λh=>by omega
 have nm:m.Nodup:=hm.imp λh=>by omega
 exact nq ((bY nl nm).mpr h) (hl.imp λh=>by omega) (hm.imp λh=>by omega)
noncomputable def AJ (u:UX):fm->Int->(List ad->Int->Prop)->Prop:=λenv n Q=>u env n λd n1=>pf (mR d) λds=>pf (iG ds) λns=>ns.length<64/\Q ((kR ns).map .int) n1
theorem JL (hm:X.mg "sorted" = none)(E7:X.mg "set" = none)(hc:X.calm=true)(h:KL X M e u)(hg:Gl X "sorted" := by rfl)(E9:Gl X "set" := by rfl)(hs:e9 e=true:=by rfl):KN X M (.Call (.Name "sorted" p) [.Call (.Name "set" p2) [e] [] q2] [] pos) (AJ u) :=
 .of (v3 X.K hc hg hm E9 E7 h.run rfl hs) λσ H R env pn S n Q ok hu k=>⟨env,pn,S,n,_,ok,hu,λv H1 d n1 r1 x1 g1 _ q=>by
  obtain⟨ds,e,ns,ei,hl,q⟩:=q;have e2:=iI ei;subst e2
  have fin:∀(l:Addr) (ms:List Int) (H2:Hp),Ext [] H1 H2->H1 l=none->H2 l=some (.lst (ms.map V.int))->ms.Pairwise (· < ·)->(∀k,k∈ms↔k∈ns)->ms.length<=ns.length->R (.ref l) H2:=λl ms H2 x2 hl h2 hp hm _=>by
   have em:ms=kR ns:=wq hp (mE ns) λk=>(hm k).trans iK.symm;subst em;exact k l _ H2 _ n1 (AI ok x1 g1 hl) h2 (.ints _) (x1.trans (x2.mono (!4))) (M.iA g1 x2 (!4)) q
  cases d with
  | tuple es =>
   cases e;obtain⟨a,xs,rfl,sq,_,rs⟩:=r1.Ll (K:=X.K);rw[jq rs] at sq;exact⟨a,ns,rfl,.inr sq,hl,fin⟩
  | list es =>
   cases e;obtain⟨a,xs,rfl,sq,_,rs⟩:=r1.Pa (K:=X.K);rw[jq rs] at sq;exact⟨a,ns,rfl,.inl sq,hl,fin⟩
  | _=>cases e⟩
noncomputable def jS (u:UX):UX:=λenv n Q=>u env n λd n1=>Good d/\Q (.str d.shown) n1
theorem si (hr:fw kk X.A)(hm:X.mg "repr" = none)(h:KE X M e u)(hg:Gl X "repr" := by rfl)(hs:e9 e=true:=by rfl):KE X M (.Call (.Name "repr" p) [e] [] pos) (jS u) :=
 .of (fO (rC hr) hg hm (!3) (gB h.run eY hs)) λσ H R env pn S n Q ok hu k=>⟨env,pn,S,n,_,ok,hu,λv H1 d n1 r1 x1 g1 _ q=>⟨S,d,v,rfl,r1,q.1,k _ H1 _ n1 (.str _) x1 g1 q.2⟩⟩
noncomputable def Om:ad->Option Bool | .bool i=>some i | _=>none
noncomputable def CS (ds:List ad):Option (List Bool):=ds.mapM Om
@[simp] theorem Lw (ns:List Bool):CS (ns.map .bool)=some ns:=by
 unfold CS
 induction ns with
 | nil=>rfl
 | cons n ns ih=>rw[aj,cD,ih];rfl
end
theorem nf (i:Nat)(l:List Nat)(h:l.contains i=false:=by rfl):i ∉ l:=λz=>by
 have:l.contains i=true:=List.contains_iff_mem.mpr z;rw[h] at this;cases this
theorem Ig {P:Nat->Prop}:∀j∈([]:List Nat),P j:=λj h=>by cases h
theorem Th {i j:Nat}{mp:List (Option Nat)}(h:mp[j]? = some (some i)):∀j'∈[j],∃i'∈[i],mp[j']? = some (some i'):=λj' hj=>by
 have e:=aw.mp hj;subst e;exact⟨i,aw.mpr rfl,h⟩
structure XF (K:W.Frag) (mg:Str->Option ag) (C:Xc) (oK all:List Str):Prop where
 nm:∀c∈all,mg c=some (.ref (C.cl c))
 U':∀c∈oK,∀h,(h=c\/h = "JoinError")->W.exmOne K (.ref (C.cl c)) (.ref (C.cl h))=some true
 WM:∀c∈oK,∀h∈all,W.kitOne K (.ref (C.cl c)) (.ref (C.cl h))=some (decide (h=c\/h = "JoinError"))
 val:∀c∈oK,W.kitOne K (.ref (C.cl c)) (.type "ValueError")=some true
 ci:∀c∈oK,Eb K (C.cl c)
 fld:∀c∈oK,∀f∈C.fl c,W.findIn K (.ref (C.cl c)) f=some none
section
variable {X:Cx}{M:Fr}{C:Xc}{oK all:List Str}{e:Expr}{es:List Expr}{ua:UA}{F:UF}{k i j:Nat}{x f cn nm:Str}{ps:List Str}{b0:Stmt}{oH:List Stmt}{uh:US}{p pos iE px np Ap gu:Pos}
theorem d5.drop (ok:d5 M env pn σ S H n)(hj:j ∉ M.fd):d5 M (env.set j none) pn (σ.set j none) S H n:=by
 refine⟨λi e he=>?_,λi k ds es a h1 h2 h3 h4=>?_,by rw[a7,a7,ok.len],λi hi=>?_,ok.gd,ok.ext,ok.s0,ok.sn,ok.has,ok.pin⟩
 .rcases eR he with⟨_,e1⟩ | ⟨ne,e1⟩
  .cases e1
  .obtain⟨v,hv,r⟩:=ok.val i e e1
   exact⟨v,by rw[aK ne];exact hv,r⟩
 .rcases eR h1 with⟨_,e1⟩ | ⟨n1,e1⟩
  .cases e1
  .rcases eR h2 with⟨_,e2⟩ | ⟨n2,e2⟩
   .cases e2
   .rw[aK n1] at h3
    rw[aK n2] at h4;exact ok.ne i k ds es a e1 e2 h3 h4
 .have:j≠i:=λz=>hj (z ▸ hi)
  rw[aK this];exact ok.Eg i hi
theorem d5.Vs (ok:d5 M env pn σ S H n)(r:qc M S H (.x c as) v)(hj:j ∉ M.fd):d5 M (env.set j (some (.x c as))) pn (σ.set j (some v)) S H n:=by
 refine⟨λi e he=>?_,λi k ds es a h1 h2 h3 h4=>?_,by rw[a7,a7,ok.len],λi hi=>?_,ok.gd,ok.ext,ok.s0,ok.sn,ok.has,ok.pin⟩
 .rcases eR he with⟨rfl,e1⟩ | ⟨ne,e1⟩
  .cases e1
   have:j<env.length:=by
    by_cases z:j<env.length
    .exact z
    .rw[bq (by rw[a7];omega)] at he;cases he
   exact⟨v,kN (by rw[<- ok.len];exact this),r⟩
  .obtain⟨v,hv,r⟩:=ok.val i e e1
   exact⟨v,by rw[aK ne];exact hv,r⟩
 .rcases eR h1 with⟨_,e1⟩ | ⟨n1,e1⟩
  .cases e1
  .rcases eR h2 with⟨_,e2⟩ | ⟨n2,e2⟩
   .cases e2
   .rw[aK n1] at h3
    rw[aK n2] at h4;exact ok.ne i k ds es a e1 e2 h3 h4
 .have:j≠i:=λz=>hj (z ▸ hi)
  rw[aK this];exact ok.Eg i hi
noncomputable def JM (i:Nat)(oK:List Str)(h:Str):UX:=λenv n Q=>match env[i]? with | some (some (.x c _))=>c∈oK/\Q (.bool (decide (h=c\/h = "JoinError"))) n | _=>False
noncomputable def CT (i:Nat)(oK:List Str):UX:=λenv n Q=>match env[i]? with | some (some (.x c _))=>c∈oK/\Q (.bool true) n | _=>False
noncomputable def CU (i:Nat)(oK hs:List Str):UX:=λenv n Q=>match env[i]? with | some (some (.x c _))=>c∈oK/\Q (.bool (hs.any λh=>decide (h=c\/h = "JoinError"))) n | _=>False
noncomputable def JN (i:Nat)(oK:List Str)(fl:Str->List Str)(f:Str):UX:=λenv n Q=>match env[i]? with | some (some (.x c as))=>(c∈oK/\f∈fl c)/\pf (((fl c).zip as).lookup f) λd=>Q d n | _=>False
theorem sj:∀{fs:List Str} {as:List ad} {vs:List V},dS S H as vs->(fs.zip as).lookup f=some d->∃v,(fs.zip vs).lookup f=some v/\eE S H d v
 | [],_,_,_,h=>by cases h
 | g::fs,[],_,_,h=>by cases h
 | g::fs,a::as,_,r,h=>by
  obtain⟨v,t,rfl,r1,r2⟩:=r.of_cons;rw[List.zip_cons_cons,bU] at h;rw[List.zip_cons_cons,bU]
  cases e:f == g with
  | true=>rw[e] at h;cases h;exact⟨v,rfl,r1⟩
  | false=>rw[e] at h;exact sj r2 h
theorem RJ (i:Nat)(hM:M.xc=C)(xf:XF X.K X.mg C oK all)(hh:h∈all)(hm:X.mg "isinstance" = none)(hN:X.N[i]? = some y:=by rfl)(hv:tH X.env.scope y:=by (first | exact Or.inl rfl | exact Or.inr (Or.inl rfl) | exact Or.inr (Or.inr rfl)))(hd:(y == ("__debug__" : Str))=false:=by decide)(ic:(y == ("__classdict__" : Str))=false:=by decide)
  (hg:Gl X "isinstance" := by rfl) (RK:Gl X h:=by rfl) (Vt:(h == ("__debug__" : Str))=false:=by decide):KE X M (.Call (.Name "isinstance" p) [.Name y p2,.Name h p3] [] pos) (JM i oK h) :=
 .of (fO (pE X.K) hg hm (!3) (gB (qv i hN hv hd ic) (gB (Cg (v:=.ref (C.cl h)) RK (xf.nm h hh) rfl Vt) eY rfl) rfl)) λσ H R env pn S n Q ok hu k=>by
  unfold JM at hu;split at hu
  .rename_i c as he
   obtain⟨v,hv,a,dx,vs,rfl,ha,D',rv,_⟩:=ok.val i _ he;subst hM;exact⟨_,hv,a,_,dx,_,_,_,rfl,ha,D',xf.ci c hu.1,.own (xf.WM c hu.1 h hh),k _ H _ n (.bl _) (.refl _ _) ok.gd hu.2⟩
  .exact hu.elim
theorem Oo (i:Nat)(hM:M.xc=C)(xf:XF X.K X.mg C oK all)(hm:X.mg "isinstance" = none)(YF:X.mg "ValueError" = none)(hN:X.N[i]? = some y:=by rfl)(hv:tH X.env.scope y:=by (first | exact Or.inl rfl | exact Or.inr (Or.inl rfl) | exact Or.inr (Or.inr rfl)))(hd:(y == ("__debug__" : Str))=false:=by decide)(ic:(y == ("__classdict__" : Str))=false:=by decide)
  (hg:Gl X "isinstance" := by rfl) (RK:Gl X "ValueError" := by rfl):KE X M (.Call (.Name "isinstance" p) [.Name y p2,.Name "ValueError" p3] [] pos) (CT i oK) :=
 .of (fO (pE X.K) hg hm (!3) (gB (qv i hN hv hd ic) (gB (K6 "ValueError" RK YF (!3)) eY rfl) rfl)) λσ H R env pn S n Q ok hu k=>by
  unfold CT at hu;split at hu
  .rename_i c as he
   obtain⟨v,hv,a,dx,vs,rfl,ha,D',rv,_⟩:=ok.val i _ he;subst hM;exact⟨_,hv,a,_,dx,_,_,_,rfl,ha,D',xf.ci c hu.1,.ty (xf.val c hu.1),k _ H _ n (.bl _) (.refl _ _) ok.gd hu.2⟩
  .exact hu.elim
structure Ti (X:Cx) (C:Xc) (es:List Expr) (hs:List Str):Prop where
 run:∃t,QA X es t/\∀σ H (R:List V->Hp->Prop),R (hs.map λh=>.ref (C.cl h)) H->t σ H R
theorem Oq:Ti X C [] []:=⟨_,eY,λσ H R h=>h⟩
theorem Em (xf:XF X.K X.mg C oK all)(hh:h∈all)(r:Ti X C es hs)(RK:Gl X h:=by rfl)(Vt:(h == ("__debug__" : Str))=false:=by decide):Ti X C (.Name h p3::es) (h::hs):=by
 obtain⟨t,q,k⟩:=r.run;exact⟨_,gB (Cg (v:=.ref (C.cl h)) RK (xf.nm h hh) rfl Vt) q rfl,λσ H R hR=>k σ H _ hR⟩
theorem CV {K:W.Frag}{mg:Str->Option ag}(xf:XF K mg C oK all){c:Str}(hc:c∈oK):∀{hs:List Str},(∀h∈hs,h∈all)->W.kitAny K (.ref (C.cl c)) ((hs.map λh=>C.cl h).map ag.ref)=some (hs.any λh=>decide (h=c\/h = "JoinError"))
 | [],_=>rfl
 | h::hs,ha=>by
  rw[aj,aj,ck];show (match W.kitOne K (.ref (C.cl c)) (.ref (C.cl h)) with | some true=>some true | some false=>W.kitAny K (.ref (C.cl c)) ((hs.map λh=>C.cl h).map ag.ref) | none=>none)=_;rw[xf.WM c hc h (ha h (ar ..))]
  cases e:decide (h=c\/h = "JoinError") with
  | true=>rfl
  | false=>exact CV xf hc λg hg=>ha g (ao _ hg)
theorem Ot (i:Nat)(hM:M.xc=C)(xf:XF X.K X.mg C oK all)(hh:∀h∈hs,h∈all)(hm:X.mg "isinstance" = none)(cs:Ti X C es hs)(hl:hs.length<=ax:=by decide)(hN:X.N[i]? = some y:=by rfl)(hv:tH X.env.scope y:=by (first | exact Or.inl rfl | exact Or.inr (Or.inl rfl) | exact Or.inr (Or.inr rfl)))(hd:(y == ("__debug__" : Str))=false:=by decide)(ic:(y == ("__classdict__" : Str))=false:=by decide)
  (hg:Gl X "isinstance" := by rfl):KE X M (.Call (.Name "isinstance" p) [.Name y p2,.Tuple es k2 p3] [] pos) (CU i oK hs):=by
 obtain⟨t,qt,kt⟩:=cs.run;refine .of (fO (pE X.K) hg hm (!3) (gB (qv i hN hv hd ic) (gB (FU qt) eY rfl) rfl)) λσ H R env pn S n Q ok hu k=>?_;unfold CU at hu;split at hu
 .rename_i c as he
  obtain⟨v,hv,a,dx,vs,rfl,ha,D',rv,_⟩:=ok.val i _ he;subst hM;refine⟨_,hv,kt σ H _ ⟨by rw[ak];exact hl,λt ht=>?_⟩⟩;have x1:Ext [] H (eZ H t (.tup (hs.map λh=>.ref (M.xc.cl h)))):=.new ht;refine⟨a,_,dx,_,_,_,rfl,x1.keep _ _ (!4) ha,x1.keep _ _ (!4) D',xf.ci c hu.1,.tup (ds:=hs.map λh=>M.xc.cl h) ?_ (CV xf hu.1 hh),k _ _ _ n (.bl _) (x1.mono (!4)) (M.iA ok.gd x1 (!4)) hu.2⟩;rw[dP,bu];rfl
 .exact hu.elim
theorem RL (i:Nat)(hM:M.xc=C)(xf:XF X.K X.mg C oK all)(hN:X.N[i]? = some y:=by rfl)(hv:tH X.env.scope y:=by (first | exact Or.inl rfl | exact Or.inr (Or.inl rfl) | exact Or.inr (Or.inr rfl)))(hd:(y == ("__debug__" : Str))=false:=by decide)(ic:(y == ("__classdict__" : Str))=false:=by decide)
  (hb:attributeBase (.Name y p2) f X.env (eval (.Name y p2) X.env)=eval (.Name y p2) X.env:=by rfl):KE X M (.Attribute (.Name y p2) f pos) (JN i oK C.fl f) :=
 .of (Jx X.K (qv i hN hv hd ic) hb) λσ H R env pn S n Q ok hu k=>by
  unfold JN at hu;split at hu
  .rename_i c as he
   obtain⟨v,hv,a,dx,vs,rfl,ha,D',rv,_⟩:=ok.val i _ he;subst hM;obtain⟨⟨h1,h2⟩,d,hl,q⟩:=hu;obtain⟨w,hw,o9⟩:=sj rv hl;exact⟨_,hv,a,_,dx,_,w,rfl,ha,D',(xf.ci c h1).cx,xf.fld c h1 f h2,hw,k w H d n o9 (.refl _ _) ok.gd q⟩
  .exact hu.elim
end
noncomputable def kn:Int:=1099511627776
noncomputable def fL:UF:=λds n Q _=>match ds with | [.int m]=>(0<m/\m<1073741824/\n<kn)/\∀r:Int,0<=r->r<m->Q (.int r) (n+1) | _=>False
noncomputable def CW (Y:zF):Sp:=λvs H Q _=>∃(fa sa:Addr) (n many:Int),vs=[.ref fa,.int many]/\Y.iU H fa sa n/\0<many/\many<1073741824/\n<kn/\∀(r:Int) (H':Hp),0<=r->r<many->Y.iU H' fa sa (n+1)->Ext [fa] H H'->Q (.int r) H'
noncomputable def qJ (Y:zF)(K:W.Frag):Sp:=λvs H Q _=>∃(a:Addr) (ns:List Int),vs=[.ref a]/\gK K H a (ns.map V.int)/\∀(fa sa:Addr) (H':Hp),Y.iU H' fa sa 0->Ext [] H H'->H fa=none->H sa=none->Q (.ref fa) H'
noncomputable def yJ (K:W.Frag):Sp:=λvs H Q _=>∃(a:Addr) (ns:List Int),vs=[.ref a]/\gK K H a (ns.map V.int)/\ns.length<=63/\∀H',Q (.bl true) H'
section
variable {P:aP}{w:World}{K:W.Frag}{mg:Str->Option ag}{base:Heap}{f:Addr}{fd:bG}{x:Str}{ps:List Str}{k:Nat}{C:Xc}{u:US}{Y:zF}{st WN:Stmt}{rest:List Stmt}{N:List Str}{sn:Str}
theorem eO.imp {sp Qd:Sp}(D:eO P w K mg base k x ps sp)(h:∀vs H Q E,Qd vs H Q E->sp vs H Q E):eO P w K mg base k x ps Qd:=let ⟨f,fd,F,r⟩:=D.ex;⟨f,fd,F.imp h,r⟩
theorem eO.up {sp:Sp}{k':Nat}(D:eO P w K mg base k x ps sp)(h:k<=k'):eO P w K mg base k' x ps sp:=let ⟨f,fd,F,r⟩:=D.ex;⟨f,fd,F.mono h,r⟩
theorem eO.draw (D:eO P w K mg base k x ps (CW Y)):eO P w K mg base k x ps (yF Y fL):=D.imp λvs H Q E h=>by
 obtain⟨fa,sa,us,S,ds,n,Qp,rfl,fe,hS,r,has,hF,hq⟩:=h;unfold fL at hF;split at hF
 .rename_i m
  obtain⟨⟨h1,h2,h3⟩,h4⟩:=hF;obtain⟨v,t,rfl,r1,r2⟩:=r.of_cons;cases r2.fB;cases r1.eP;exact⟨fa,sa,n,m,rfl,fe,h1,h2,h3,λr H' r0 r1 YG x=>hq _ _ _ H' (.int r) YG x (h4 r r0 r1)⟩
 .exact hF.elim
theorem Vu (F:uA K "law" "law" st f fd)(sc:fh N [sn] (dM st))(hN:2<=N.length)
  (body:∀(fz:ag) (A:Around) (outer:List Env) (s:aq) (H:Hp) (E:XK),fw k (A.deeper (envOfC "law" (dM st) s.heap.objs.size f fz)) ->
   QS (kG rq P w K mg base N "law" (dM st) f fz A outer s H E).Dv WN (Fl (rA (qJ Y K) (Fv (Ma 0) ML)) (xw 1)) /\
   ∀(fa sa:Addr) (n0:Int) (S:List Addr) (H1:Hp) (hf:Y.iU H1 fa sa n0) (hS:fa∈S) (has:∀a∈S,H1 a≠none),zD (kG rq P w K mg base N "law" (dM st) f fz A outer s H E).Dv (Fr.feed C Y 1 fa sa n0 S H1 hf hS has) rest u)
  (hb:fE st=WN::rest) (hu:u { nx:=λ_ _=>False,rt:=λd _=>d=.bool true } (List.replicate N.length none) 0):i5 P w K mg base rq (k+1) f fd [sn] (yJ K):=by
 refine F.K7 sc (λvs H Q E h=>?_) (λfz A outer s H vs Q E hr h=>?_)
 .obtain⟨a,ns,rfl,_⟩:=h
  rfl
 .obtain⟨a,ns,rfl,hs,_,q⟩:=h
  obtain⟨q0,qr⟩:=body fz A outer s H E hr
  have RN:uG (kG rq P w K mg base N "law" (dM st) f fz A outer s H E).Dv rest (λD σ H'=>∃fa sa n0 S H1 hf hS has,Gy (Fr.feed C Y 1 fa sa n0 S H1 hf hS has) u D σ H') :=
   ⟨λpins s σ H D I ⟨fa,sa,n0,S,H1,hf,hS,has,h⟩=>(qr fa sa n0 S H1 hf hS has).run.run pins s σ H D I h⟩
  rw[hb];have xl:start N [V.ref a]=some (.ref a)::List.replicate (N.length - 1) none:=rfl;refine⟨_,fi q0 RN,_,by rw[xl];rfl,a,ns,rfl,hs,λfa sa H1 fe x1 Pf hsa=>?_⟩;have has:∀b∈[fa],H1 b≠none:=λb hb=>by have e:=aw.mp hb;subst e;exact Y.fa fe
  refine⟨fa,sa,0,[fa],H1,fe,aw.mpr rfl,has,List.replicate N.length none,[],[fa],0,_,⟨λi e he=>?_,λi j ds es b h1=>?_,?_,?_,fe,.refl _ _,λb hb=>hb,λb hb=>.inl hb,has,λp hp=>by cases hp⟩,hu,λ_ _ _ _ _ _ z=>z.elim,λv H' d n' r _ _ e=>?_⟩
  .rw[cC] at he
   split at he<;>cases he
  .rw[cC] at h1
   split at h1<;>cases h1
  .rw[a7,xl,ap,cY,cY]
   omega
  .intro i hi
   have e:i=1:=aw.mp hi;subst e;rw[xl];exact kN (by rw[ap,cY];omega)
  .subst e
   rw[r.lh];exact q H'
end
noncomputable def JO:ad->ad->Option ad | .int i,.int j=>some (.int (Builtin.bitAnd i j)) | _,_=>none
section
theorem RO:xn X (binaryOp .BitAnd) JO:=CL (g:=λi j=>.int (Builtin.bitAnd i j)) MH (λ_ _ _ _=>.int _) λx y d e=>by
 cases x<;>cases y<;>simp[JO] at e;exact⟨_,_,rfl,rfl,e.symm⟩
end
theorem tU.Vv {K:W.Frag}{mg:Str->Option ag}{x:Str}{C J:Addr}(e:tU K C J)(o:Ef K mg x C)(bx:W.mroIn K C (.type "BaseException")=some true):W.exmOne K (.ref C) (.ref C)=some true:=by
 unfold W.exmOne;have h:W.subIn K (.ref C) (.type "BaseException")=some true:=bx;rw[h,if_pos (!4),o.U9];exact e.own
end L2
namespace L2
open PySem
mutual
def Gd (B:Nat):ad->Prop
 | .none=>True
 | .bool _=>True
 | .int i=>i.natAbs<=B
 | .str x=>(∀c∈x.cps.toList,c<1114112)/\x.cps.size<=60
 | .tuple ds=>Lx B ds
 | .list ds=>Lx B ds
 | .dict _=>False
def Lx (B:Nat):List ad->Prop
 | []=>True
 | d::ds=>Gd B d/\Lx B ds
end
theorem RP:(10:Nat) ^ 50<2 ^ 1920:=by decide +kernel
mutual
theorem wu:∀d:ad,Gd (10 ^ 50) d->d.canLay0=true/\d.showable=true/\d.leavesShort 60=true
 | .none,_=>⟨rfl,rfl,rfl⟩
 | .bool _,_=>⟨rfl,rfl,rfl⟩
 | .int i,g=>by
  simp only[Gd] at g;refine⟨rfl,?_,?_⟩
  .simp only[ad.showable,decide_eq_true_eq]
   by_cases h:i.natAbs=0
   .rw[h];decide
   .exact (Nat.log2_lt h).mpr (cT g RP)
  .simp only[ad.leavesShort,decide_eq_true_eq]
   have e:=int_text_length_le10 (k:=51) (!2) (cT g (by decide +kernel:(10:Nat) ^ 50<10 ^ 51));show (Str.ofString (toString i)).length<=60;rw[ofString_length];omega
 | .str x,g=>by
  simp only[Gd] at g;refine⟨?_,rfl,?_⟩
  .show ad.strOk x=true
   unfold ad.strOk;rw[Array.all_eq_true'];intro c hc;exact decide_eq_true (g.1 c (by simpa using hc))
  .simp only[ad.leavesShort,dm,decide_eq_true_eq]
   intro c hc;exact aL (g.1 c hc) (!2)
 | .tuple ds,g=>by simp only[Gd] at g;simpa only [ad.canLay0,ad.showable,ad.leavesShort] using wx ds g
 | .list ds,g=>by simp only[Gd] at g;simpa only [ad.canLay0,ad.showable,ad.leavesShort] using wx ds g
 | .dict _,g=>by simp only[Gd] at g
theorem wx:∀ds:List ad,Lx (10 ^ 50) ds->ad.canLayAll0 ds=true/\ad.showableAll ds=true/\ad.leavesShortAll 60 ds=true
 | [],_=>⟨rfl,rfl,rfl⟩
 | d::ds,g=>by
  simp only[Lx] at g;obtain⟨a1,a2,a3⟩:=wu d g.1;obtain⟨b1,b2,b3⟩:=wx ds g.2;simp only[ad.canLayAll0,ad.showableAll,ad.leavesShortAll,a1,a2,a3,b1,b2,b3];exact⟨rfl,rfl,rfl⟩
end
theorem JP (g:Gd (10 ^ 50) d)(hd:d.depth<=60)(hw:d.weight<=200000):Good d:=⟨(wu d g).1,(wu d g).2.1,(wu d g).2.2,hd,hw⟩
theorem Ly (h:i.natAbs<2 ^ k):ad.weight (.int i)<=k:=by
 simp only[ad.weight];split
 .omega
 .rename_i j9
  have:i.natAbs≠0:=λz=>j9 (by simp;omega);have:=(Nat.log2_lt this).mpr h;omega
mutual
def Gq (B L:Nat):ad->Prop
 | .none=>True
 | .bool _=>True
 | .int i=>i.natAbs<=B
 | .str x=>(∀c∈x.cps.toList,c<1114112)/\x.cps.size<=L
 | .tuple ds=>Fb B L ds
 | .list ds=>Fb B L ds
 | .dict _=>False
def Fb (B L:Nat):List ad->Prop
 | []=>True
 | d::ds=>Gq B L d/\Fb B L ds
end
mutual
theorem wy {B L B' L':Nat}(h:B<=B')(k:L<=L'):∀d:ad,Gq B L d->Gq B' L' d
 | .none,_=>by simp[Gq]
 | .bool _,_=>by simp[Gq]
 | .int i,g=>by simp only[Gq] at g ⊢;omega
 | .str x,g=>by simp only[Gq] at g ⊢;exact⟨g.1,!1⟩
 | .tuple ds,g=>by simp only[Gq] at g ⊢;exact oM h k ds g
 | .list ds,g=>by simp only[Gq] at g ⊢;exact oM h k ds g
 | .dict _,g=>by simp only[Gq] at g
theorem oM {B L B' L':Nat}(h:B<=B')(k:L<=L'):∀ds:List ad,Fb B L ds->Fb B' L' ds
 | [],_=>by simp[Fb]
 | d::ds,g=>by simp only[Fb] at g ⊢;exact⟨wy h k d g.1,oM h k ds g.2⟩
end
mutual
theorem Lz:∀d:ad,Gq (10 ^ 50) 60 d->Gd (10 ^ 50) d
 | .none,_=>by simp[Gd]
 | .bool _,_=>by simp[Gd]
 | .int i,g=>by simp only[Gq] at g;simp only[Gd];exact g
 | .str x,g=>by simp only[Gq] at g;simp only[Gd];exact g
 | .tuple ds,g=>by simp only[Gq] at g;simp only[Gd];exact AK ds g
 | .list ds,g=>by simp only[Gq] at g;simp only[Gd];exact AK ds g
 | .dict _,g=>by simp only[Gq] at g
theorem AK:∀ds:List ad,Fb (10 ^ 50) 60 ds->Lx (10 ^ 50) ds
 | [],_=>by simp[Lx]
 | d::ds,g=>by simp only[Fb] at g;simp only[Lx];exact⟨Lz d g.1,AK ds g.2⟩
end
structure Sz (B L w p:Nat) (d:ad):Prop where
 gq:Gq B L d
 wt:d.weight<=w
 dp:d.depth<=p
structure lz (B L w p:Nat) (ds:List ad):Prop where
 gq:Fb B L ds
 wt:ad.weightAll ds<=w
 dp:ad.depthAll ds<=p
section
variable {B L B' L' w w' p p':Nat}{d:ad}{ds es:List ad}
theorem Sz.mono (h:Sz B L w p d)(hB:B<=B')(hL:L<=L')(hw:w<=w')(hp:p<=p'):Sz B' L' w' p' d:=⟨wy hB hL d h.gq,aU h.wt hw,aU h.dp hp⟩
theorem lz.mono (h:lz B L w p ds)(hB:B<=B')(hL:L<=L')(hw:w<=w')(hp:p<=p'):lz B' L' w' p' ds:=⟨oM hB hL ds h.gq,aU h.wt hw,aU h.dp hp⟩
theorem Sz.gd (h:Sz B L w p d)(hB:B<=10 ^ 50)(hL:L<=60):Gd (10 ^ 50) d:=Lz d (wy hB hL d h.gq)
theorem Sz.good (h:Sz B L w p d)(hB:B<=10 ^ 50)(hL:L<=60)(hw:w<=200000)(hp:p<=60):Good d:=JP (h.gd hB hL) (aU h.dp hp) (aU h.wt hw)
theorem lz.nil:lz B L 0 0 []:=⟨by simp[Fb],by simp[ad.weightAll],by simp[ad.depthAll]⟩
theorem lz.cons (h:Sz B L w p d)(t:lz B L w' p' ds):lz B L (w+1+w') (max p p') (d::ds):=by
 refine⟨by simp only[Fb];exact⟨h.gq,t.gq⟩,?_,?_⟩
 .simp only[ad.weightAll];have:=h.wt;have:=t.wt;omega
 .simp only[ad.depthAll];have:=h.dp;have:=t.dp;omega
theorem Sz.tup (h:lz B L w p ds):Sz B L w (p+1) (.tuple ds):=⟨by simp only[Gq];exact h.gq,by simp only[ad.weight];exact h.wt,by simp only[ad.depth];have:=h.dp;omega⟩
theorem Sz.lst (h:lz B L w p ds):Sz B L w (p+1) (.list ds):=⟨by simp only[Gq];exact h.gq,by simp only[ad.weight];exact h.wt,by simp only[ad.depth];have:=h.dp;omega⟩
theorem Sz.small (h:i.natAbs<1024)(hB:1023<=B):Sz B L 10 0 (.int i):=⟨by simp only[Gq];omega,Ly h,by simp[ad.depth]⟩
theorem lz.ints (hB:1023<=B):∀{ns:List Int},(∀i∈ns,i.natAbs<1024)->lz B L (11 * ns.length) 0 (ns.map .int)
 | [],_=>lz.nil
 | n::ns,h=>by
  have t:=lz.ints (ns:=ns) hB λi hi=>h i (ao _ hi);have:=lz.cons (Sz.small (h n (ar ..)) hB) t;rw[aj,ap];exact this.mono (am _) (am _) (!1) (!4)
theorem lz.all:∀{ds:List ad},(∀d∈ds,Sz B L w p d)->lz B L ((w+1) * ds.length) p ds
 | [],_=>lz.nil.mono (am _) (am _) (!4) (bL _)
 | d::ds,h=>by
  have t:=lz.all (ds:=ds) λi hi=>h i (ao _ hi);refine (lz.cons (h d (ar ..)) t).mono (am _) (am _) ?_ (!4);rw[ap,Nat.mul_succ];omega
end
section
variable {i j:Int}{ns ms:List Int}{x y:ad}
theorem oN (ns:List Int):ad.canLayAll0 (ns.map .int)=true:=by
 induction ns with
 | nil=>rfl
 | cons n ns ih=>simpa [ad.canLayAll0,ad.canLay0] using ih
theorem yL (ns:List Int):ad.depthAll (ns.map .int)=0:=by
 induction ns with
 | nil=>rfl
 | cons n ns ih=>simpa [ad.depthAll,ad.depth] using ih
theorem sk:∀ns ms:List Int,ad.eqvAll (ns.map .int) (ms.map .int)=decide (ns=ms)
 | [],[]=>rfl
 | [],m::ms=>rfl
 | n::ns,[]=>rfl
 | n::ns,m::ms=>by
  simp only[aj,ad.eqvAll,ad.eqv,sk ns ms,List.cons.injEq];by_cases h:n=m<;>simp[h]
theorem AL (hx:x.canLay0=true)(hy:y.canLay0=true)(hd:x.depth<=60):rX x y=some (.bool (ad.eqv x y)):=if_pos ⟨hx,hy,hd⟩
theorem sm (hx:x.canLay0=true)(hy:y.canLay0=true)(hd:x.depth<=60):CK x y=some (.bool (!PyData.eqv x y)):=if_pos ⟨hx,hy,hd⟩
theorem ji:rX (.int i) (.int j)=some (.bool (decide (i=j))):=by
 rw[AL rfl rfl (by simp[ad.depth])];simp only[ad.eqv];congr
theorem GR:CK (.bool a) (.bool b)=some (.bool (!(a == b))):=by
 rw[sm rfl rfl (by simp[ad.depth])];simp only[ad.eqv]
theorem Eo:rX (.tuple (ns.map .int)) (.tuple (ms.map .int))=some (.bool (decide (ns=ms))):=by
 rw[AL (show ad.canLay0 (.tuple _)=true from oN ns) (show ad.canLay0 (.tuple _)=true from oN ms) (by simp[ad.depth,yL])];simp only[ad.eqv,sk]
theorem u5:CK (.tuple (ns.map .int)) (.tuple (ms.map .int))=some (.bool (!decide (ns=ms))):=by
 rw[sm (show ad.canLay0 (.tuple _)=true from oN ns) (show ad.canLay0 (.tuple _)=true from oN ms) (by simp[ad.depth,yL])];simp only[ad.eqv,sk]
end
section
variable {α:Type}
theorem pJ (h0:0<=i)(h1:i<xs.length):qB xs i=xs[i.toNat]? := by
 unfold qB K0;rw[if_pos h0,if_pos h1];rfl
theorem lr (a:α)(l:List α):qB (a::l) 0=some a:=by rw[pJ (!2) (by simp only[ap];omega)];rfl
theorem ko (a b:α)(l:List α):qB (a::b::l) 1=some b:=by rw[pJ (!2) (by simp only[ap];omega)];rfl
theorem RQ (a b c:α)(l:List α):qB (a::b::c::l) 2=some c:=by rw[pJ (!2) (by simp only[ap];omega)];rfl
theorem GS {xs:List α}{i:Int}(h0:0<=i)(h1:i<xs.length):∃x,qB xs i=some x/\x∈xs:=by
 have:i.toNat<xs.length:=by omega
 exact⟨xs[i.toNat],by rw[pJ h0 h1];simp[this],bV _⟩
theorem wz (xs:List α)(k:Int)(h:0<=k):Aw xs none (some k)=xs.take k.toNat:=by
 unfold Aw;rw[show k=((k.toNat:Nat):Int) by omega,HT.IL,HT.Fy];simp only[List.drop_zero,Nat.sub_zero,br];by_cases hc:k.toNat<=xs.length
 .rw[Nat.min_eq_left hc]
 .rw[Nat.min_eq_right (!1),bC (am _),bC (!1)]
end
theorem lu:jd (.tuple ds) (.int i)=qB ds i:=rfl
theorem LA:jd (.list ds) (.int i)=qB ds i:=rfl
theorem fQ (h0:0<m)(h1:m<1073741824)(h2:n<kn)(h:∀r:Int,0<=r->r<m->Q (.int r) (n+1)):fL [.int m] n Q X:=⟨⟨h0,h1,h2⟩,h⟩
section
variable {i j:Nat}{ue:UX}{uc:UT}{Q:List ad->Int->Prop}{env:fm}
theorem qg (f:ad->ad)(p:ad->Bool):∀(its acc:List ad) (n:Int) (env:fm),(∀d∈its,∀n Q,ue (env.set i (some (.s d))) n Q=Q (f d) n)->(∀d∈its,∀n Q,uc (env.set i (some (.s d))) n Q=Q (p d) n)->eS (g8 i) uc ue Q its acc env n=Q (acc++(its.filter p).map f) n
 | [],acc,n,env,_,_=>by simp[eS]
 | d::ds,acc,n,env,h,k=>by
  have ih:=λacc=>qg f p ds acc n (env.set i (some (.s d))) (λe he n Q=>by rw[List.set_set];exact h e (ao _ he) n Q) (λe he n Q=>by rw[List.set_set];exact k e (ao _ he) n Q);simp only[eS,g8,k d (ar ..),h d (ar ..),ih]
  cases hp:p d with
  | true=>simp[hp]
  | false=>simp[hp]
end
theorem gQ (Inv:List ad->List ad->fm->Int->Prop) :
  ∀(its pre:List ad) (env:fm) (n:Int),(∀pre d post env n (E':CB),E'.rt=E.rt->Inv pre (d::post) env n->(∀eB n',Inv (pre++[d]) post eB n'->E'.nx eB n')->ug d env λGL=>ub E' GL n)->Inv pre its env n->(∀pre env n,Inv pre [] env n->E.nx env n)->km ug ub E its env n
 | [],pre,env,n,_,h0,hd=>hd pre env n h0
 | d::ds,pre,env,n,hb,h0,hd=>hb pre d ds env n { nx:=km ug ub E ds,rt:=E.rt } rfl h0 λeB n' h'=>gQ Inv ds (pre++[d]) eB n' hb h' hd
theorem wA (h:zI i j):wc (.int i) (.int j)=some (.int (i * j)):=if_pos h
theorem GU:wc (.int c) (.int (if b=true then 1 else 0))=some (.int (if b=true then c else 0)):=by
 cases b with
 | true=>rw[if_pos rfl,if_pos rfl,wA (.inr ⟨!2,!2⟩),Int.mul_one]
 | false=>rw[if_neg (!2),if_neg (!2),wA (.inr ⟨!2,!2⟩),Int.mul_zero]
theorem Ou (h:xs.length+ys.length<=16777216):jf (.tuple xs) (.tuple ys)=some (.tuple (xs++ys)):=if_pos (by rw[show ax=16777216 by decide];exact h)
theorem Ov (h:xs.length+ys.length<=16777216):jf (.list xs) (.list ys)=some (.list (xs++ys)):=if_pos (by rw[show ax=16777216 by decide];exact h)
theorem nr (h:ds.length<16777216):kQ ds [d]=some (ds++[d]):=if_pos (by rw[show ax=16777216 by decide];exact h)
noncomputable def gI (lo:Int)(n:Nat):List Int:=(List.range n).map λ(k:Nat)=>lo+(k:Int)
theorem jT (lo:Int)(n:Nat):oI lo n=(gI lo n).map .int:=by unfold oI gI;rw[bu];rfl
theorem fk:i∈gI lo n↔lo<=i/\i<lo+n:=by
 unfold gI;rw[a5];constructor
 .rintro⟨k,hk,rfl⟩
  have:=cB.mp hk;omega
 .intro h
  exact⟨(i - lo).toNat,cB.mpr (!1),!1⟩
theorem eQ (lo:Int)(n:Nat):(gI lo n).length=n:=by simp[gI]
theorem yM (p:ad->Bool)(ns:List Int):(ns.map ad.int).filter p=(ns.filter λi=>p (.int i)).map .int:=by rw[List.filter_map];rfl
theorem GV (f:ad->ad)(ns:List Int):(ns.map ad.int).map f=ns.map λi=>f (.int i):=by rw[bu];rfl
section
variable {ns:List Int}
theorem yN {i:Int}(h0:0<=i)(h1:i<ns.length):∃k,qB (ns.map ad.int) i=some (.int k)/\k∈ns/\ns[i.toNat]? = some k:=by
 have hl:i.toNat<ns.length:=by omega
 refine⟨ns[i.toNat],?_,bV _,by simp[hl]⟩;rw[pJ h0 (by simpa using h1),aC];simp[hl]
end
theorem mF (f:Int->ad)(p:Int->Bool)(ns:List Int)(acc:List ad)(n:Int)(env:fm)(h:∀k∈ns,∀n Q,ue (env.set i (some (.s (.int k)))) n Q=Q (f k) n)(hp:∀k∈ns,∀n Q,uc (env.set i (some (.s (.int k)))) n Q=Q (p k) n) :
  eS (g8 i) uc ue Q (ns.map .int) acc env n=Q (acc++(ns.filter p).map f) n:=by
 rw[qg (λd=>match d with | .int k=>f k | _=>.none) (λd=>match d with | .int k=>p k | _=>false) _ _ _ _ (λd hd n Q=>?_) (λd hd n Q=>?_),yM,GV]
 .obtain⟨k,hk,rfl⟩:=a5.mp hd
  exact h k hk n Q
 .obtain⟨k,hk,rfl⟩:=a5.mp hd
  exact hp k hk n Q
noncomputable def Ep (x y:ad):Option ad:=match x,y with | .str a,.str b=>some (.bool (!decide (a=b))) | _,_=>none
noncomputable def Er (x y:ad):Option ad:=match x,y with | .str a,.str b=>some (.bool (decide (a=b))) | _,_=>none
theorem yO:decide (V.str a=V.str b)=decide (a=b):=by
 rw[decide_eq_decide];exact⟨λh=>by cases h;rfl,λh=>by rw[h]⟩
theorem fC.qK (r:fC gs S H (.str x) v):v=.str x:=by
 rcases r with r | ⟨ds,a,xs,h,_⟩ | ⟨t,kvs,a,xs,h,_⟩
 .exact r.kI
 .cases h
 .cases h
section
theorem LB:xn X (compareOp .NotEq) Ep:=⟨_,P8,λgs S H dx dy x y d R _ _ r1 r2 e k=>by
 unfold Ep at e;split at e
 .rename_i a b
  cases e;have e1:=r1.qK;have e2:=r2.qK;subst e1 e2;refine⟨rfl,?_⟩;rw[yO];exact k _ H (.bl _) (.refl _ _)
 .cases e⟩
theorem RR:xn X (compareOp .Eq) Er:=⟨_,P7,λgs S H dx dy x y d R _ _ r1 r2 e k=>by
 unfold Er at e;split at e
 .rename_i a b
  cases e;have e1:=r1.qK;have e2:=r2.qK;subst e1 e2;refine⟨rfl,?_⟩;rw[yO];exact k _ H (.bl _) (.refl _ _)
 .cases e⟩
end
end L2
namespace L2
open PySem PySem.Spec PyProof.Rows
noncomputable def Vw (x:ad):Prop:=match x with | .tuple _=>True | .list _=>True | _=>False
theorem JQ {α:Type}{us:List α}{n:Nat}(h:us.length=n+1):∃a r,us=a::r/\r.length=n:=by
 cases us with
 | nil=>cases h
 | cons a r=>exact⟨a,r,rfl,Nat.succ.inj h⟩
theorem AM {α:Type}{us:List α}(h:us.length=1):∃a,us=[a]:=by
 obtain⟨a,r,rfl,k⟩:=JQ (n:=0) h;rw[List.eq_nil_of_length_eq_zero k];exact⟨_,rfl⟩
theorem Es {α:Type}{us:List α}(h:us.length=2):∃a b,us=[a,b]:=by
 obtain⟨a,r,rfl,k⟩:=JQ (n:=1) h;obtain⟨b,rfl⟩:=AM k;exact⟨_,_,rfl⟩
theorem GW {α:Type}{us:List α}(h:us.length=3):∃a b c,us=[a,b,c]:=by
 obtain⟨a,r,rfl,k⟩:=JQ (n:=2) h;obtain⟨b,c,rfl⟩:=Es k;exact⟨_,_,_,rfl⟩
theorem Ow {α:Type}{us:List α}(h:us.length=4):∃a b c d,us=[a,b,c,d]:=by
 obtain⟨a,r,rfl,k⟩:=JQ (n:=3) h;obtain⟨b,c,d,rfl⟩:=GW k;exact⟨_,_,_,_,rfl⟩
noncomputable def wB (op:CmpOp)(A:Around)(s:aq)(y x:ag)(b:Bool):Prop :=
 ∀(prog:aP) (w:World) (E:ag->aq->Prop) (Q:ag->aq->Prop),Q (.bool b) s->az (model prog w) A (richCompare op y x) Q E s
noncomputable def oO (e f:Nat->Bool)(fin:Bool):List Nat->Bool
 | []=>fin
 | i::r=>if e i then oO e f fin r else f i
mutual
def pK (g:Bool):ad->ad->Option Bool
 | .int i,.int j=>some (if g then decide (j<i) else decide (i<j))
 | .tuple xs,.tuple ys=>qh g xs ys
 | _,_=>none
def qh (g:Bool):List ad->List ad->Option Bool
 | [],[]=>some false
 | [],_::_=>some (!g)
 | _::_,[]=>some g
 | x::xs,y::ys=>if ad.eqv x y then qh g xs ys else pK g x y
end
theorem u6:∀(xs ys:List ad) (j:Nat) (r:Bool),qh g xs ys=some r->j<xs.length->j<ys.length->(∀i<j,SeqAt.pairEq xs ys i=true)->SeqAt.pairEq xs ys j=false->∃q,pK g (xs.getD j .none) (ys.getD j .none)=some q
 | [],_,_,_,_,h,_,_,_=>absurd h (dF _)
 | _::_,[],_,_,_,_,h,_,_=>absurd h (dF _)
 | x::xs,y::ys,j,r,e,h1,h2,al,hj=>by
  rw[qh] at e
  cases j with
  | zero =>
   have:ad.eqv x y=false:=hj;rw[this,if_neg (!2)] at e;exact⟨r,e⟩
  | succ j =>
   have:ad.eqv x y=true:=al 0 (Nat.succ_pos _);rw[this,if_pos rfl] at e;exact u6 xs ys j r e (bR h1) (bR h2) (λi hi=>al (i+1) (Nat.succ_lt_succ hi)) hj
theorem ku:∀{vs:List ag} {xs:List ad} {as:List Addr},ReadsAll h vs xs as->∀{j:Nat} (hj:j<vs.length),∃bs,Reads h vs[j] (xs.getD j .none) bs
 | _::_,_::_,_,.cons r rs,j,hj=>by
  cases j with
  | zero=>exact⟨_,r⟩
  | succ j=>exact ku rs (bR hj)
theorem yQ:∀{xs:List ad} {j:Nat},j<xs.length->(xs.getD j .none).depth<=ad.depthAll xs
 | x::xs,0,_=>by simp only[ad.depthAll,List.getD_cons_zero];omega
 | x::xs,j+1,h=>by
  have:=yQ (xs:=xs) (j:=j) (bR h);simp only[ad.depthAll,List.getD_cons_succ];omega
theorem AO:∀{xs:List ad} {j:Nat},ad.canLayAll0 xs=true->j<xs.length->(xs.getD j .none).canLay0=true
 | x::xs,0,h,_=>by simp only[ad.canLayAll0,bv] at h;exact h.1
 | x::xs,j+1,h,hj=>by simp only[ad.canLayAll0,bv] at h;exact AO (xs:=xs) (j:=j) h.2 (bR hj)
theorem u7 (e f:Nat->Bool)(fin:Bool):∀l:List Nat,oO e f fin (l.map (· + 1))=oO (λi=>e (i+1)) (λi=>f (i+1)) fin l
 | []=>rfl
 | i::l=>by rw[aj,oO,oO,u7 e f fin l]
theorem GX (l b:Addr)(xs ys:Array ag)(n m:Nat)(d1 d2:Option Addr)(s1 s2:Array (Option ag))(e f:Nat->Bool) :
  Meets (Builtin.«tuple.__lt__» ⟨[.ref l,.ref b],[]⟩) (λA R s=>s.heap.get? l=some { cls:=.type "tuple",dict:=d1,data:=.seq xs n,slots:=s1 }/\s.heap.get? b=some { cls:=.type "tuple",dict:=d2,data:=.seq ys m,slots:=s2 } /\
    (∀j (h1:j<xs.size) (h2:j<ys.size),SeqAt.EqAt A.in1 s xs[j] ys[j] (e j))/\(∀j (h1:j<xs.size) (h2:j<ys.size),(∀i<j,e i=true)->e j=false->wB .Lt A.in1 s xs[j] ys[j] (f j)) /\
    R (.ok (.ret (.bool (oO e f (decide (xs.size<ys.size)) (List.range (min xs.size ys.size)))))) s) :=
 .of_wp λprog w A R s h=>by
  obtain⟨hp,g,d,tk,os⟩:=s;obtain⟨gl,gb,he,hf,h⟩:=h;have sub:=AutoSeq1.sub_tuple_tuple;have zl:(xs.toList.zip ys.toList).length=min xs.size ys.size:=by simp
  wp_walk using AutoSeq1.wpAny_loadPart' gl,AutoSeq1.wpAny_loadPart' gb,wpAny_forIn_list _ (λleft b s'=>b.1=none/\s'=⟨hp,g,d,tk,os⟩/\∃i,left=(xs.toList.zip ys.toList).drop i/\(∀k<i,e k=true)/\R (.ok (.ret (.bool (oO e f (decide (xs.size<ys.size)) ((List.range (min xs.size ys.size)).drop i))))) ⟨hp,g,d,tk,os⟩) _
  case turn =>
   rintro⟨y,x⟩ left b s' ⟨nb,rfl,i,ez,al,rr⟩;have il:i<(xs.toList.zip ys.toList).length:=Nat.lt_of_not_le λq=>by rw[cG q] at ez;cases ez
   have im:i<min xs.size ys.size:=zl ▸ il;have i1:i<xs.size:=by omega
   have i2:i<ys.size:=by omega
   rw[bB il] at ez;injection ez with ep er;obtain rfl:y=xs[i]:=by simpa using congrArg Prod.fst ep
   obtain rfl:x=ys[i]:=by simpa using congrArg Prod.snd ep
   rw[show (List.range (min xs.size ys.size)).drop i=i::(List.range (min xs.size ys.size)).drop (i+1) by simp[bB,im],oO] at rr;refine aa (he i i1 i2 prog w _ _ ?_)
   cases ei:e i with
   | true =>
    rw[ei,if_pos rfl] at rr
    wp_walk
    exact⟨rfl,rfl,i+1,er,λk hk=>(cH k i).elim (al k) λq=>by rw[show k=i by omega];exact ei,rr⟩
   | false =>
    rw[ei,if_neg (!2)] at rr;have hc:=hf i i1 i2 al ei prog w
    wp_walk using hc _ _
    exact⟨_,rfl,by simpa using rr⟩
  case fin =>
   rintro⟨b1,b2⟩ s' ⟨nb,rfl,i,ez,_,rr⟩;simp only at nb;subst nb;have ge:min xs.size ys.size<=i:=Nat.le_of_not_lt λq=>by rw[bB (zl.symm ▸ q)] at ez;cases ez
   rw[cG (by simpa using ge),oO] at rr
   wp_walk
   exact⟨_,rfl,by simpa [Builtin.Tuple.tupleCompareSizes] using rr⟩
  case h=>exact⟨rfl,rfl,0,!4,!4,by simpa using h⟩
theorem wB.JR (hl:s.heap.IsTuple l xs)(hb:s.heap.IsTuple b ys)(hu:A.units<cLine)(he:∀j (h1:j<xs.size) (h2:j<ys.size),SeqAt.EqAt A.in1 s xs[j] ys[j] (e j))
  (hf:∀j (h1:j<xs.size) (h2:j<ys.size),(∀i<j,e i=true)->e j=false->wB .Lt A.in1 s xs[j] ys[j] (f j)):wB .Lt A s (.ref l) (.ref b) (oO e f (decide (xs.size<ys.size)) (List.range (min xs.size ys.size))):=λprog w E Q h=>by
 obtain⟨⟨c1,d1,data,s1⟩,ho,hc,n,hd⟩:=id hl;obtain⟨⟨c2,d2,data2,s2⟩,DG,KY,n2,HQ⟩:=id hb;simp only at hc hd KY HQ;subst hc hd KY HQ;exact richCompare_meets_room (op:=.Lt) ⟨_,ho,rfl⟩ ⟨_,DG,rfl⟩ F.slot_tuple_lt F.entry_tuple_lt (F.args_tuple_lt_2 _ _) (GX l b xs ys n n2 d1 d2 s1 s2 e f) ⟨ho,DG,he,hf,show ag.bool _≠ag.notImplemented/\Q (.bool _) s from ⟨(λx=>nomatch x),h⟩⟩ hu
theorem lex_lt:∀(xs ys:List ad) (r:Bool),qh false xs ys=some r->oO (SeqAt.pairEq xs ys) (λj=>(pK false (xs.getD j .none) (ys.getD j .none)).getD false) (decide (xs.length<ys.length)) (List.range (min xs.length ys.length))=r
 | [],[],r,e=>by cases e;rfl
 | [],y::ys,r,e=>by cases e;simp[oO]
 | x::xs,[],r,e=>by cases e;simp[oO]
 | x::xs,y::ys,r,e=>by
  rw[qh] at e;rw[ap,ap,Nat.succ_min_succ,cW,oO]
  cases q:ad.eqv x y with
  | true =>
   rw[q,if_pos rfl] at e;rw[if_pos (show SeqAt.pairEq (x::xs) (y::ys) 0=true from q)];have:=lex_lt xs ys r e;rw[show List.map Nat.succ=List.map (· + 1) from rfl,u7,show decide (xs.length+1<ys.length+1)=decide (xs.length<ys.length) by simp];exact this
  | false =>
   rw[q,if_neg (!2)] at e;rw[if_neg (by rw[show SeqAt.pairEq (x::xs) (y::ys) 0=false from q];decide)];simp only[List.getD_cons_zero,e,Option.getD_some]
theorem RS:∀(N:Nat) (da db:ad) (r:Bool) (A:Around) (s:aq) (a b:ag) (as bs:List Addr),da.depth<=N->Reads s.heap a da as->Reads s.heap b db bs->da.canLay0=true->db.canLay0=true->A.units+N<cLine->pK false da db=some r->wB .Lt A s a b r:=by
 intro N
 induction N with
 | zero =>
  intro da db r A s a b as bs hN ra rb ha hb hu e
  cases ra with
  | int i t =>
   cases rb with
   | int j u =>
    cases e;exact λprog w E Q h=>richCompare_gives (op:=.Lt) (typeIs_int s _ t) (typeIs_int s _ u) F.slot_int_lt F.entry_int_lt (F.args_int_lt_2 _ _) (gives_int_lt _ _ t u) (λx=>nomatch x) h
   | _=>simp[pK] at e
  | tuple=>simp[ad.depth] at hN
  | _=>simp[pK] at e
 | succ N ih =>
  intro da db r A s a b as bs hN ra rb ha hb hu e
  cases ra with
  | int i t =>
   cases rb with
   | int j u =>
    cases e;exact λprog w E Q h=>richCompare_gives (op:=.Lt) (typeIs_int s _ t) (typeIs_int s _ u) F.slot_int_lt F.entry_int_lt (F.args_int_lt_2 _ _) (gives_int_lt _ _ t u) (λx=>nomatch x) h
   | _=>simp[pK] at e
  | @tuple l o vs n xs WO h1 h2 h3 h4 =>
   cases rb with
   | @tuple l' o' ws n' ys WQ k1 k2 k3 k4 =>
    have n1:vs.size=xs.length:=by simpa using SeqAt.ReadsAll.length _ _ _ h4
    have n2:ws.size=ys.length:=by simpa using SeqAt.ReadsAll.length _ _ _ k4
    simp only[ad.depth] at hN;simp only[pK] at e
    have he:∀j (j1:j<vs.size) (j2:j<ws.size),SeqAt.EqAt A.in1 s vs[j] ws[j] (SeqAt.pairEq xs ys j):=λj j1 j2=>by
     have NV:A.in1.units+min (ad.depthAll xs) (ad.depthAll ys)<cLine:=by show A.units+1+_<_;omega
     have q:=SeqAt.eqAt_readsAll xs ys A.in1 s vs.toList ws.toList _ _ h4 k4 ha hb NV j (by simpa using j1) (by simpa using j2);rw[bE,bE] at q;exact q
    have hf:∀j (j1:j<vs.size) (j2:j<ws.size),(∀i<j,SeqAt.pairEq xs ys i=true)->SeqAt.pairEq xs ys j=false->wB .Lt A.in1 s vs[j] ws[j] ((pK false (xs.getD j .none) (ys.getD j .none)).getD false):=λj j1 j2 al hj=>by
     obtain⟨q,hq⟩:=u6 xs ys j r e (!1) (!1) al hj;obtain⟨WR,r1⟩:=ku h4 (j:=j) (by simpa using j1);obtain⟨WS,r2⟩:=ku k4 (j:=j) (by simpa using j2);rw[hq];have d1:=yQ (xs:=xs) (j:=j) (!1);have q2:=ih _ _ q A.in1 s _ _ WR WS (!1) r1 r2 (AO ha (!1)) (AO hb (!1)) (by show A.units+1+_<_;omega) hq;rw[bE,bE] at q2;exact q2
    have:=wB.JR ⟨_,h1,h2,_,h3⟩ ⟨_,k1,k2,_,k3⟩ (show A.units<cLine by omega) he hf;rw[n1,n2,lex_lt xs ys r e] at this;exact this
   | _=>simp[pK] at e
  | _=>simp[pK] at e
theorem RM (hr:fw k A)(h:d<=k:=by decide):fw d A:=hr.mono h
theorem nd (N:List Str)(h:N.Nodup:=by decide +kernel):N.Nodup:=h
theorem co (N:List Str)(s:Scope)(h:i7 N s sc N' mp=true:=by decide +kernel):i7 N s sc N' mp=true:=h
theorem RT (h1:s.kind=.function:=by rfl)(h2:s.isCoroutine=false:=by rfl)(h3:s.isGenerator=false:=by rfl)(h4:N.Nodup:=by decide +kernel)(h5:N.take ps.length=ps:=by rfl)
  (h6:∀x∈ps,s.names.lookup x=some .local\/s.names.lookup x=some .cell:=by decide +kernel) (h7:∀y∈s.names,y.2≠.free:=by decide +kernel):fh N ps s:=⟨h1,h2,h3,h4,h5,h6,h7⟩
theorem Vx (is:List Nat)(h:us=is.map g8:=by rfl):∀u∈us,∀d env (Q:fm->Prop),u d env Q->∃eB,Q eB:=λu hu=>by
 subst h;obtain⟨i,_,rfl⟩:=a5.mp hu;exact RD
section
theorem oP (i:Nat)(hN:X.N.Nodup)(hx:Loc X.env.scope x:=by exact Or.inl rfl)(hi:X.N[i]? = some x:=by rfl)(hf:X.fn x=true\/X.env.scope.names.lookup x=some .local:=by (first | exact .inl rfl | exact .inr rfl | assumption))(hfd:i ∉ M.fd:=by exact nf _ _ rfl):KG X M (.Name x pos) (g8 i):=Yz hN hx hi hf hfd
theorem gD (i:Nat)(hN:X.N.Nodup)(h:KE X M e ue)(hx:Loc X.env.scope x:=by exact Or.inl rfl)(hi:X.N[i]? = some x:=by rfl)(hs:swapsWith e (some (.Name x iT)) pos.line X.env=pure false:=by rfl)
  (hf:X.fn x=true\/X.env.scope.names.lookup x=some .local:=by (first | exact .inl rfl | exact .inr rfl | assumption)) (hfd:i ∉ M.fd:=by exact nf _ _ rfl):KS X M (.Assign [.Name x iT] e pos) (eD i ue):=RE hN hx h hi hs hf hfd
theorem JS (i:Nat)(hN:X.N.Nodup)(h:KN X M e un)(hx:Loc X.env.scope x:=by exact Or.inl rfl)(hi:X.N[i]? = some x:=by rfl)(hs:swapsWith e (some (.Name x iT)) pos.line X.env=pure false:=by rfl)
  (hf:X.fn x=true\/X.env.scope.names.lookup x=some .local:=by (first | exact .inl rfl | exact .inr rfl | assumption)) (hfd:i ∉ M.fd:=by exact nf _ _ rfl):KS X M (.Assign [.Name x iT] e pos) (r9 i un):=RG hN hx h hi hs hf hfd
end
structure FM (K:W.Frag) (mg:Str->Option ag) (x:Str) (st:Stmt):Prop where
 ex:∃f fd,uA K x x st f fd/\mg x=some (.ref f)
structure Ox (K:W.Frag) (x:Str) (st:Stmt):Prop where
 ex:∃f fd,uA K x x st f fd/\W.nsIn K aR x=some (some (.ref f))
theorem Ox.of {K:W.Frag}{x:Str}{st:Stmt}{f:Addr}{oc:ag}{od an:Option Addr}{zP:Array (Option ag)}{kV q9 pm fz ct:ag}(a:W.nsIn K aR x=some (some (.ref f)))(l:K.lookup f=some ⟨oc,od,.func (W.fnOf x x (je st) (fE st) (dM st) .none kV q9 pm an fz ct),zP⟩)
  (c:W.codeIn K fz x=true) (k:W.keepIn K (.ref f)=true):Ox K x st:=⟨f,_,zU l c k,a⟩
theorem Ox.m {K:W.Frag}{x:Str}{st:Stmt}{h:Heap}{mg:Str->Option ag}(a:Ox K x st)(X:K.In h)(G:h.Ns aR mg):FM K mg x st :=
 let ⟨f,fd,F,n⟩:=a.ex;⟨f,fd,F,W.mg_of X G n⟩
noncomputable def GY (K:W.Frag)(t:Nat->Stmt):List (Str × Nat)->Prop
 | []=>True
 | (x,i)::r=>Ox K x (t i)/\GY K t r
theorem GZ {K:W.Frag}{t:Nat->Stmt}:GY K t []:=trivial
theorem Oy {K:W.Frag}{t:Nat->Stmt}{x:Str}{i:Nat}{r:List (Str × Nat)}(h:Ox K x (t i))(hr:GY K t r):GY K t ((x,i)::r):=⟨h,hr⟩
noncomputable def BD (x:Str)(st:Stmt)(ps:List Str):Prop:=∀(kV q9 pm:ag) (an:Option Addr) (fz ct:ag) (us:List ag),us.length=ps.length->bindArgs (W.fnOf x x (je st) (fE st) (dM st) .none kV q9 pm an fz ct) ⟨us,[]⟩=pure (ps.zip us)
section
variable {P:aP}{w:World}{K:W.Frag}{mg:Str->Option ag}{base:Heap}{x:Str}{st:Stmt}{N ps:List Str}{k:Nat}{C:Xc}{Y:zF}
theorem lT (u:US)(N:List Str)(F:FM K mg x st)
  (body:fh N ps (dM st)->∀(f:Addr) (fz:ag) (A:Around) (outer:List Env) (s:aq) (H:Hp) (E:XK) (n0:Int) (S:List Addr) (has:∀a∈S,H a≠none),fw k (A.deeper (envOfC x (dM st) s.heap.objs.size f fz))->(A.deeper (envOfC x (dM st) s.heap.objs.size f fz)).units+64<cLine->zD (kG rq P w K mg base N x (dM st) f fz A outer s H E).Dv (Fr.pure C n0 S H has) (fE st) u)
  (sc:fh N ps (dM st):=by exact RT) (hb:BD x st ps:=by rw[999]) :
  eO P w K mg base (k+1) x ps (u4 C (nY N.length ps.length λ_=>u)) :=
 let ⟨f,_,F,hm⟩:=F.ex;Vp (u:=λ_=>u) F hm sc (F.binds hb) λfz A outer s H E n0 S has hr=>body sc f fz A outer s H E n0 S has hr hr.units
theorem G0 (u:US)(N:List Str)(F:FM K mg x st)
  (body:fh N ps (dM st)->∀(f:Addr) (fz:ag) (A:Around) (outer:List Env) (s:aq) (H:Hp) (E:XK) (fa sa:Addr) (n0:Int) (S:List Addr) (hf:Y.iU H fa sa n0) (hS:fa∈S) (has:∀a∈S,H a≠none),fw k (A.deeper (envOfC x (dM st) s.heap.objs.size f fz))->(A.deeper (envOfC x (dM st) s.heap.objs.size f fz)).units+64<cLine ->
   zD (kG rq P w K mg base N x (dM st) f fz A outer s H E).Dv (Fr.feed C Y 0 fa sa n0 S H hf hS has) (fE st) u)
  (sc:fh N ps (dM st):=by exact RT) (hN:1<=N.length:=by decide) (hb:BD x st ps:=by rw[999]) :
  eO P w K mg base (k+1) x ps (yF Y (lS N.length ps.length λ_=>u)) :=
 let ⟨f,_,F,hm⟩:=F.ex;Vq (u:=λ_=>u) F hm sc (F.binds hb) hN λfz A outer s H E fa sa n0 S hf hS has hr=>body sc f fz A outer s H E fa sa n0 S hf hS has hr hr.units
end
noncomputable def Oz (F:UF):Sp:=λvs H Q E=>∃S ds n Qp,dS S H ds vs/\(∀a∈S,H a≠none)/\F ds n Qp yE/\∀a xs H' es,H a=none->H' a=some (.lst xs)->dS (a::S) H' es xs->Ext [] H H'->Qp (.list es) n->Q (.ref a) H'
noncomputable def OA (M:Fr)(u:US):TS:=λD σ H=>∃env pn S n E,d5 M env pn σ S H n/\u E env n/\∀a xs H' ds n',M.H0 a=none->H' a=some (.lst xs)->dS (a::M.S0) H' ds xs->Ext M.gs M.H0 H'->M.G H' n'->E.rt (.list ds) n'->D.rt (.ref a) H'
structure LC (X:Cx) (M:Fr) (zB:List Stmt) (u:US):Prop where run:uG X zB (OA M u)
noncomputable def iD (u w:US):US:=λE env n=>u { nx:=w E,rt:=λ_ _=>False } env n
section
variable {X:Cx}{M:Fr}{e:Expr}{es:List Expr}{st:Stmt}{zB:List Stmt}{u w:US}{ue:fm->Int->(List ad->Int->Prop)->Prop}{ua:UA}{F:UF}{x:Str}{ps:List Str}{k:Nat}{pos p:Pos}
theorem so (h:KS X M st u)(hr:LC X M zB w):LC X M (st::zB) (iD u w):=⟨(fi h.run hr.run).weaken λD σ H h=>As h λenv pn S n E h =>
 ⟨env,pn,S,n,_,h.1,h.2.1,λeB σ' S' H' n' lC q=>⟨eB,pn,S',n',E,lC,q,h.2.2⟩,λv H' d n' _ _ _ q=>False.elim q⟩⟩
theorem qL (h:KN X M e ue):LC X M [.Return (some e) pos] (fY (uL ue)):=⟨(gU (kJ h.run)).weaken λD σ H h=>As h λenv pn S n E h =>
 ⟨env,pn,S,n,_,h.1,h.2.1,λa xs H' ds n' h0 h1 r x g _ q=>h.2.2 a xs H' ds n' (h.1.ext.fresh (λz=>h.1.has a (h.1.tq a z) h0) h0) h1 (r.less λb hb=>by
  rcases au.mp hb with rfl | hb
  .exact ar ..
  .exact ao _ (h.1.s0 b hb)) (h.1.ext.trans x) g q⟩⟩
noncomputable def AQ (F:UF)(ua:UA):fm->Int->(List ad->Int->Prop)->Prop:=λenv n Q=>ua env n λds n1=>F ds n1 (λd n'=>match d with | .list es=>Q es n' | _=>False) yE
theorem JT (D:eO X.prog X.w X.K X.mg X.base k x ps (Oz F))(hr:fw k X.A)(ha:KA X M (e::es) ua)(hg:Gl X x:=by rfl)(jw:(x == ("__debug__" : Str))=false:=by decide):KN X M (.Call (.Name x p) (e::es) [] pos) (AQ F ua) :=
 .of (lK D hr ha.run hg jw) λσ H R env pn S n Q ok hu k=>⟨env,pn,S,n,_,ok,hu,λvs H1 ds n1 el r1 x1 g1 _ q=>⟨S,ds,n1,_,r1,(ok.step x1 g1).has,q,λa xs H2 es h0 h1 r x2 q2=>k a xs H2 es n1 (x1.fresh (λz=>(ok.step x1 g1).has a (ok.tq a z) h0) h0) h1 r (x1.trans (x2.mono (!4))) (M.iA g1 x2 (!4)) q2⟩⟩
theorem Et:lO X (λ_ _ _=>False):=λpins σ e s' ⟨_,_,_,_,_,_,_,_,_,_,_,_,q⟩=>False.elim q
theorem JU {kk:Nat}{u:UX}(hr:fw kk X.A)(hm:X.mg "repr" = none)(h:KL X M e u)(hg:Gl X "repr" := by rfl)(hs:e9 e=true:=by rfl):KE X M (.Call (.Name "repr" p) [e] [] pos) (jS u) :=
 .of (fO (rC hr) hg hm (!3) (gB h.run eY hs)) λσ H R env pn S n Q ok hu k=>⟨env,pn,S,n,_,ok,hu,λv H1 d n1 r1 x1 g1 _ q=>⟨M.gs,d,v,rfl,r1.less ok.tq,q.1,k _ H1 _ n1 (.str _) x1 g1 q.2⟩⟩
end
section
variable {P:aP}{w:World}{K:W.Frag}{mg:Str->Option ag}{base:Heap}{f:Addr}{fd:bG}{x:Str}{fu:Str}{st:Stmt}{N ps:List Str}{k:Nat}{C:Xc}
theorem Vy (u:US)(N:List Str)(F:FM K mg x st)
  (body:fh N ps (dM st)->∀(f:Addr) (fz:ag) (A:Around) (outer:List Env) (s:aq) (H:Hp) (E:XK) (n0:Int) (S:List Addr) (has:∀a∈S,H a≠none),fw k (A.deeper (envOfC x (dM st) s.heap.objs.size f fz))->(A.deeper (envOfC x (dM st) s.heap.objs.size f fz)).units+64<cLine->LC (kG rq P w K mg base N x (dM st) f fz A outer s H E).Dv (Fr.pure C n0 S H has) (fE st) u)
  (sc:fh N ps (dM st):=by exact RT) (hb:BD x st ps:=by rw[999]) :
  eO P w K mg base (k+1) x ps (Oz (nY N.length ps.length λ_=>u)):=by
 obtain⟨f,fd,F,hm⟩:=F.ex;refine⟨f,fd,F.K7 sc (λvs H Q E h=>?_) (λfz A outer s H vs Q E hr h=>?_),hm,F.kp,F.binds hb⟩
 .obtain⟨S,ds,n,Qp,r,_,hF,_⟩:=h
  rw[r.length];exact hF.1
 .obtain⟨S,ds,n,Qp,r,has,hF,hq⟩:=h
  refine⟨_,(body sc f fz A outer s H E n S has hr hr.units).run,envOf N.length ds,[],S,n,_,pH rfl rfl r rfl rfl,hF.2,λa xs H' es n' h0 h1 r x g q=>?_⟩;have e:n'=n:=g;subst e;exact hq a xs H' es h0 h1 r x q
end
noncomputable def sr (C:Xc)(F:UF):Sp:=λvs H Q E=>∃S ds n Qp Xp,dS S H ds vs/\(∀a∈S,H a≠none)/\F ds n Qp Xp/\(∀a xs H' es,H a=none->H' a=some (.lst xs)->dS (a::S) H' es xs->Ext [] H H'->Qp (.list es) n->Q (.ref a) H')/\∀c as,Xp c as->Rz C S [] H E c as
noncomputable def JV (t:UT)(u w:US):US:=λE env n=>t env n λb n1=>if b=true then u E env n1 else w E env n1
noncomputable def gV (F:UF)(Ex:XQ)(ua:UA):fm->Int->(List ad->Int->Prop)->Prop:=λenv n Q=>ua env n λds n1=>F ds n1 (λd n'=>match d with | .list es=>Q es n' | _=>False) Ex
section
theorem OB (hc:KB X M c uc)(hb:LC X M body u)(hr:LC X M zB w):LC X M (.If c body [] pos::zB) (JV uc u w):=⟨(fi (xN hc.run hb.run oo) hr.run).weaken λD σ H h=>As h λenv pn S n E h=>⟨env,pn,S,n,_,h.1,h.2.1,λb H1 n1 x1 g1 q=>by
 cases b with
 | true=>exact⟨env,pn,S,n1,E,h.1.step x1 g1,q,h.2.2⟩
 | false=>exact⟨env,pn,S,n1,E,h.1.step x1 g1,q,h.2.2⟩⟩⟩
theorem yR (E:XK)(Ex:XQ)(D:qu X.prog X.w X.K X.mg X.base k x ps (sr C F))(hr:fw k X.A)(hl:lO X E)(hx:∀c as,Ex c as->Rz C M.S0 M.gs M.H0 E c as)(ha:KA X M (e::es) ua)(hg:Gl X x:=by rfl)(jw:(x == ("__debug__" : Str))=false:=by decide) :
  KN X M (.Call (.Name x p) (e::es) [] pos) (gV F Ex ua) :=
 .of (Gi E D hr hl ha.run hg jw) λσ H R env pn S n Q ok hu k=>⟨env,pn,S,n,_,ok,hu,λvs H1 ds n1 el r1 x1 g1 _ q=>⟨S,ds,n1,_,Ex,r1,(ok.step x1 g1).has,q,λa xs H2 es h0 h1 r x2 q2=>k a xs H2 es n1 (x1.fresh (λz=>(ok.step x1 g1).has a (ok.tq a z) h0) h0) h1 r (x1.trans (x2.mono (!4))) (M.iA g1 x2 (!4)) q2,
  λc as z dx H' YH rv hd x'=>hx c as z dx H' YH (rv.less ok.s0) hd ((ok.step x1 g1).ext.trans (x'.mono (!4)))⟩⟩
theorem oQ (D:qu X.prog X.w X.K X.mg X.base k x ps (sr C F))(hr:fw k X.A)(ha:KA X M (e::es) ua)(hg:Gl X x:=by rfl)(jw:(x == ("__debug__" : Str))=false:=by decide) :
  KN X M (.Call (.Name x p) (e::es) [] pos) (gV F yE ua):=yR _ yE D hr Et (λ_ _ z=>z.elim) ha hg jw
theorem qu.RU {P:aP}{w:World}{K:W.Frag}{mg:Str->Option ag}{base:Heap}(D:qu P w K mg base k x ps (sr C F)):qu P w K mg base k x ps (u4 C F):=by
 obtain⟨f,fd,G,h⟩:=D.ex;have w:∀vs H Q E,u4 C F vs H Q E->sr C F vs H Q E:=λvs H Q E ⟨S,ds,n,Qp,Xp,r,has,hF,hq,hx⟩=>⟨S,ds,n,Qp,Xp,r,has,hF,λa xs H' es h0 h1 rr x q=>hq _ _ H' (.lst h1 (λz=>has a z h0) (rr.less λ_ h=>ao _ h)) x q,hx⟩;exact⟨f,fd,G.imp w,h⟩
end
section
variable {P:aP}{w:World}{K:W.Frag}{mg:Str->Option ag}{base:Heap}{x:Str}{st:Stmt}{ps:List Str}{k:Nat}{C:Xc}
theorem LD (u:XQ->US)(N:List Str)(F:FM K mg x st)
  (body:fh N ps (dM st)->∀(f:Addr) (fz:ag) (A:Around) (outer:List Env) (s:aq) (H:Hp) (E:XK) (n0:Int) (S:List Addr) (has:∀a∈S,H a≠none) (Ex:XQ),(∀c as,Ex c as->Rz C S [] H E c as)->fw k (A.deeper (envOfC x (dM st) s.heap.objs.size f fz))->(A.deeper (envOfC x (dM st) s.heap.objs.size f fz)).units+64<cLine->lO (kG (Le P w) P w K mg base N x (dM st) f fz A outer s H E) E ->
   LC (kG (Le P w) P w K mg base N x (dM st) f fz A outer s H E) (Fr.pure C n0 S H has) (fE st) (u Ex))
  (sc:fh N ps (dM st):=by exact RT) (hb:BD x st ps:=by rw[999]) :
  qu P w K mg base (k+1) x ps (sr C (nY N.length ps.length u)):=by
 obtain⟨f,fd,F,hm⟩:=F.ex;refine⟨f,fd,F.Yg sc (λvs H Q E h=>?_) (λfz A outer s H vs Q E hr h=>?_),hm,F.kp,F.binds hb⟩
 .obtain⟨S,ds,n,Qp,Xp,r,_,hF,_⟩:=h
  rw[r.length];exact hF.1
 .obtain⟨S,ds,n,Qp,Xp,r,has,hF,hq,hx⟩:=h
  refine⟨_,(body sc f fz A outer s H E n S has Xp hx hr hr.units D7).run,envOf N.length ds,[],S,n,_,pH rfl rfl r rfl rfl,hF.2,λa xs H' es n' h0 h1 r x g q=>?_⟩;have e:n'=n:=g;subst e;exact hq a xs H' es h0 h1 r x q
end
section
variable {X:Cx}{cn n np:Str}{C0:Addr}{j:Nat}{b0:Stmt}{oH:List Stmt}{th:TS}{ex:Expr}{te:XK->TE}{np Ap iE pos:Pos}
noncomputable def RV (K:W.Frag)(C0:Addr)(j:Nat)(te:XK->TE)(th:TS):TS:=λD σ H=>te (rS K C0 j th D σ) σ H λ_ H1=>D.nx σ H1
theorem JW (K:W.Frag)(hm:X.mg cn=some (.ref C0))(hN:X.N.Nodup)(hj:X.N[j]? = some n)(Aq:X.env.scope.names.lookup n=some .local)(he:WH X ex te)(hs:∀x,uG (rR X x) (b0::oH) th)
  (xl:X.stack=X.env::X.outer:=by rfl) (D5:X.env.frame=some X.env.locals:=by rfl) (hg:Gl X cn:=by rfl) (jw:(cn == ("__debug__" : Str))=false:=by decide) (Je:swapsWith ex none iE.line X.env=pure false:=by rfl) (hk:X.K=K:=by rfl) :
  QS X (.Try [.Expr ex iE] [.ExceptHandler (some (.Name cn np)) (some n) (b0::oH) Ap] [] [] pos) (RV K C0 j te th):=by
 subst hk;exact⟨λpins s σ H D I h=>wpAny_Try_except (wpAny_execs_cons (bF (wpAny_Expr_any (E:=XP X pins σ (rS X.K C0 j th D σ)) (fM (he.run _ pins s σ H _ I h) λv s1 ⟨y,H1,I1,r1,q1⟩=>wpAny_execs_nil (wpAny_execs_nil ⟨_,H1,I1,q1⟩)) I.quiet Je) (λf s1 q=>q) λe s1 q=>Ed xl D5 hm hg jw hN hj Aq hs q))⟩
end
noncomputable def G1 (j:Nat)(F:UF)(cn:Str)(oK:List Str)(ua:UA)(uh:US):US:=λE env n=>ua env n λds n1=>F ds n1 (λ_ n'=>E.nx env n') λc as=>(c∈oK/\(cn=c\/cn = "JoinError"))/\uh { nx:=λeB=>E.nx (eB.set j none),rt:=E.rt } (env.set j (some (.x c as))) n1
section
theorem OC (hM:M.xc=C)(xf:XF X.K X.mg C oK all)(YI:cn∈all)(D:qu X.prog X.w X.K X.mg X.base k f ps (u4 C F))(hr:fw k X.A)(hN:X.N.Nodup)(ha:∀Ex,KA (X.pj Ex) M (e::es) ua)(hs:∀x,zD (rR X x) M (b0::oH) uh)
  (WT:j ∉ M.fd) (hj:X.N[j]? = some nm:=by rfl) (Aq:X.env.scope.names.lookup nm=some .local:=by rfl) (xl:X.stack=X.env::X.outer:=by rfl) (D5:X.env.frame=some X.env.locals:=by rfl) (hg:Gl X cn:=by rfl) (jw:(cn == ("__debug__" : Str))=false:=by decide) (YJ:Gl X f:=by rfl) (M5:(f == ("__debug__" : Str))=false:=by decide)
  (Je:swapsWith (.Call (.Name f p) (e::es) [] gu) none iE.line X.env=pure false:=by rfl) :
  KS X M (.Try [.Expr (.Call (.Name f p) (e::es) [] gu) iE] [.ExceptHandler (some (.Name cn np)) (some nm) (b0::oH) Ap] [] [] pos) (G1 j F cn oK ua uh) :=
 .of (JW X.K (xf.nm cn YI) hN hj Aq (Jz D hr (λEx=>(ha Ex).run) YJ M5) (λy=>(hs y).run) xl D5 hg jw Je) λD σ H env pn S n E ok hu k1 k2=>⟨env,pn,S,n,_,ok,hu,λvs H1 ds n1 el r1 x1 g1 _ q =>
  ⟨S,ds,n1,_,_,r1,(ok.step x1 g1).has,q,λd v H2 r2 x2 q2=>k1 _ _ _ _ _ ((ok.step x1 g1).step (x2.mono (!4)) (M.iA g1 x2 (!4))) q2,λc as z dx H' vs rv hd x'=>by
   refine⟨xf.U' c z.1.1 cn z.1.2,λy hy=>?_⟩;have lC:=(ok.step x1 g1).step (x'.mono (!4)) (M.iA g1 x' (!4));subst hM;have gy:y ∉ M.gs/\dx ∉ M.gs:=⟨λzz=>M.S9 lC.gd y zz _ hy,λzz=>M.S9 lC.gd dx zz _ hd⟩;exact⟨env.set j (some (.x c as)),pn,S,n1,_,lC.Vs ⟨y,dx,vs,rfl,hy,hd,rv,gy.1,gy.2⟩ WT,z.2,λeB σ' S' Nb n' Vz YK=>k1 _ _ _ _ _ (Vz.drop WT) YK,k2⟩⟩⟩
end
end L2
namespace PySem
open Sem (wp)
open PyProof.Rows Builtin Builtin.Frozenset
end PySem
namespace L2
open PySem PySem.Spec PyProof.Rows
open PySem.W (KasT kas_asc kas_desc kas_tail3 kas_descPart kas_count kas_place kas_bin kas_sort kas_rev kas_ask kas_item kat_run kat_snds KatTups KatLex KatGo kat_cons kat_nil kat_go kat_yes kat_no kat_one kat_lt kas_mapM kas_first_eq)
noncomputable abbrev RW (n:Nat)(p:Array Nat):Prop:=p.Perm (cO (List.range n))
section
variable {prog:aP}{w:World}{A:Around}{E:ag->aq->Prop}{s:aq}
theorem sv (vs:List ag):(List.range vs.length).map (λi=>vs.getD i ag.none)=vs:=by
 refine dq (!4) λi h1 h2=>?_;simp[aE,h2]
noncomputable def wC (prog:aP)(w:World)(A:Around)(vs:List ag)(s:aq)(G:Array Nat->Prop):Prop:=2<=vs.length->∃κ:SortKind,(∀(Q:SortKind->aq->Prop) (E:ag->aq->Prop),Q κ s->az (model prog w) A (keyKind' vs.toArray) Q E s)/\∀E:ag->aq->Prop,az (model prog w) A (sortRuns'.run (SortSt.mk' κ (vs.toArray.zip vs.toArray) #[] 7 none)) (λr s'=>s'=s/\∃p:Array Nat,RW vs.length p/\G p/\arrOf r.2=p.map (kas_item (vs.toArray.zip vs.toArray))/\failedOf r.2=none) E s
theorem tX {a:Addr}{vs:List ag}{n:Nat}{P:Fin->aq->Prop}{G:Array Nat->Prop}(hG:vs.length<2->G (cO (List.range vs.length)))(ho:s.heap.get? a=some (seqObj "list" vs.toArray n))(HX:vs.length<1000000)
  (hk:∀s':aq,(∀b o,b≠a->s.heap.get? b=some o->s'.heap.get? b=some o)->wC prog w A vs s' G)
  (h:∀p:Array Nat,RW vs.length p->G p->P (.done (.ret .none)) { s with heap:=sortedHeap s.heap a vs (cO (p.toList.map λi=>vs.getD i ag.none)) }) :
  az (model prog w) A (Builtin.«list.sort» ⟨[.ref a],[]⟩) P E s:=by
 rw[list_sort_plain];have ha:a<s.heap.objs.size:=aA ho;refine aa (listItems_at ho rfl ?_);refine aa (listUpdate_at ho rfl ?_);obtain⟨e1,Tj⟩:∃e1,(s.heap.update a (Obj.mapSeq λ_=>#[])).get? a=some (seqObj "list" #[] e1):=⟨_,get?_update_seq ho (λ_=>#[])⟩;refine aa (seqEpoch_at Tj rfl ?_);refine aa (wpAny_newTuple ?_);refine aa (wpAny_newList ?_);refine wpAny_holding ?_
 have Tn:(((s.heap.update a (Obj.mapSeq λ_=>#[])).push (seqObj "tuple" vs.toArray 0)).push (seqObj "list" #[] 0)).get? a=some (seqObj "list" #[] e1):=by
  rw[di _ _ _ (by rw[size_push',Heap.size_update];exact aN (cv ha)),di _ _ _ (by rw[Heap.size_update];exact aN ha)];exact Tj
 have UQ:∀b o,b≠a->s.heap.get? b=some o->(((s.heap.update a (Obj.mapSeq λ_=>#[])).push (seqObj "tuple" vs.toArray 0)).push (seqObj "list" #[] 0)).get? b=some o:=λb o hb e=>ah _ (ah _ ((dc _ _ _ _ hb).trans e));show az (model prog w) A _ P E { s with heap:=((s.heap.update a (Obj.mapSeq λ_=>#[])).push (seqObj "tuple" vs.toArray 0)).push (seqObj "list" #[] 0) };dsimp only;have hsz:vs.toArray.size=vs.length:=by simp
 by_cases h2:vs.toArray.size<2
 .rw[if_pos h2,if_pos h2]
  refine aa (ai ?_);rw[StateT.run_pure];refine aa (ai ?_);dsimp only;refine aa (seqEpoch_at Tn rfl ?_);refine aa (listUpdate_at Tn rfl ?_ (hsz2:=by rw[Array.size_map];show (pairsOf vs).size<=_;rw[pairsOf_size,sizeLine_eq];omega));simp only[bne_self_eq_false,bT,if_false];have:=h (cO (List.range vs.length)) (Array.Perm.refl _) (hG (!1));rw[List.toList_toArray,sv] at this
  have e:(arrOf (SortSt.mk' general' (vs.toArray.zip vs.toArray) #[] 7 none)).map (·.2)=vs.toArray:=by
   show (vs.toArray.zip vs.toArray).map (·.2)=vs.toArray;apply cP.mp;simp[List.map_snd_zip]
  refine ai ?_;rw[<- e] at this;exact this
 .rw[if_neg h2,if_neg h2]
  obtain⟨κ,kk,ka⟩:=hk { s with heap:=((s.heap.update a (Obj.mapSeq λ_=>#[])).push (seqObj "tuple" vs.toArray 0)).push (seqObj "list" #[] 0) } UQ (!1);refine aa (kk _ _ ?_);refine aa (bF (ka E) ?_ λ_ _ e=>e);rintro⟨⟨⟩,eM⟩ s' ⟨rfl,p,hp,hg,YL,hf⟩;dsimp only;have RX:=kat_snds (ks:=vs) (vs:=vs) rfl YL;have U5:p.size=vs.length:=by have:=hp.size_eq;simpa using this
  refine aa (seqEpoch_at Tn rfl ?_);refine aa (listUpdate_at Tn rfl ?_ (hsz2:=by rw[RX,aD,ak,aT,U5,sizeLine_eq];omega));rw[hf];simp only[bne_self_eq_false,bT,if_false];refine ai ?_;have:=h p hp hg;rw[<- RX] at this;exact this
theorem AR {l:Addr}{vs:List ag}{Q:ag->aq->Prop}{G:Array Nat->Prop}(hG:vs.length<2->G (cO (List.range vs.length)))(hl:s.heap.IsList l vs.toArray)(HX:vs.length<1000000)
  (hk:∀s':aq,(∀b o,s.heap.get? b=some o->s'.heap.get? b=some o)->∀A',A'.units<=A.units+8->wC prog w A' vs s' G)
  (h:∀p:Array Nat,RW vs.length p->G p->Q (.ref (s.heap.objs.size+1)) { s with heap:=sortedAll s.heap vs (cO (p.toList.map λi=>vs.getD i ag.none)) }) :
  az (model prog w) A (call (.builtin "sorted") [.ref l]) Q E s:=by
 refine Calls.call_function_entry kind_sorted plain_sorted entry_sorted (args_sorted1 _) ?_;unfold Builtin.«sorted»;refine aa (m:=checkCount "sorted" 1 1 _) (ai ?_);refine aa (collect_list hl ?_);refine aa (wpAny_newList ?_)
 have hsz:((s.heap.push (seqObj "list" #[] 0)).update s.heap.objs.size (Obj.mapSeq (·++vs.toArray))).objs.size=s.heap.objs.size+1:=by
  rw[Heap.size_update,size_push']
 have E2:(((s.heap.push (seqObj "list" #[] 0)).update s.heap.objs.size (Obj.mapSeq (·++vs.toArray))).push (seqObj "list" vs.toArray 0)).get? (s.heap.objs.size+1)=some (seqObj "list" vs.toArray 0):=by
  rw[<- hsz];exact aF _ rfl
 have keep:∀b o,s.heap.get? b=some o->(((s.heap.push (seqObj "list" #[] 0)).update s.heap.objs.size (Obj.mapSeq (·++vs.toArray))).push (seqObj "list" vs.toArray 0)).get? b=some o:=λb o q=>by
  have iQ:b<s.heap.objs.size:=aA q;rw[di _ _ _ (by rw[hsz];exact aN (cv iQ)),dc _ _ _ _ (aN iQ),di _ _ _ (aN iQ)];exact q
 show az _ _ _ _ _ { s with heap:=((s.heap.push (seqObj "list" #[] 0)).update s.heap.objs.size (Obj.mapSeq (·++vs.toArray))).push (seqObj "list" vs.toArray 0) };rw[hsz];refine aa (wpAny_holding (wpAny_call_entry slot_list_sort ⟨_,E2,rfl⟩ entry_list_sort (tX hG E2 HX (λs' Nc=>hk s' (λb o e=>Nc b o (aN (cv (aA e))) (keep b o e)) _ ?_) λp hp hg=>⟨_,rfl,?_⟩) (args_list_sort _)))
 .show A.units+1+1<=A.units+8
  omega
 .exact ai ⟨_,rfl,h p hp hg⟩
noncomputable def OD (h:Heap)(v:ag):Prop:=∃(a:Addr) (o:Obj) (xs:Array ag) (n:Nat) (row:List Int) (as:List Addr),v=.ref a/\h.get? a=some o/\o.cls=.type "tuple" /\ o.data=.seq xs n/\ReadsAll h xs.toList (row.map .int) as
theorem sy:∀{us:List ag} {row:List Int} {as:List Addr},ReadsAll h us (row.map .int) as->∀v∈us,∃i t,v=ag.int i t
 | [],_,_,_,v,hv=>by cases hv
 | u::us,[],_,r,v,hv=>by cases r
 | u::us,i::row,_,.cons r rs,v,hv=>by
  rcases au.mp hv with rfl | hv
  .cases r
   exact⟨_,_,rfl⟩
  .exact sy rs v hv
theorem CY (i j:Int)(t u:Tok)(A:Around)(s:aq):wB .Lt A s (.int i t) (.int j u) (decide (i<j)):=λprog w E Q h=>richCompare_gives (op:=.Lt) (typeIs_int s _ t) (typeIs_int s _ u) F.slot_int_lt F.entry_int_lt (F.args_int_lt_2 _ _) (gives_int_lt _ _ t u) (λx=>nomatch x) h
theorem kx:∀row:List Int,ad.canLayAll0 (row.map ad.int)=true
 | []=>rfl
 | i::row=>by simp only[aj,ad.canLayAll0,ad.canLay0,kx row,Bool.and_self]
theorem pL:∀row:List Int,ad.depthAll (row.map ad.int)=0
 | []=>rfl
 | i::row=>by simp only[aj,ad.depthAll,ad.depth,pL row];rfl
noncomputable def wD (h:Heap):List ag->List (Option ag)->Prop
 | [],[]=>True
 | v::vs,f::fs=>(∃a o xs n,v=.ref a/\h.get? a=some o/\o.cls=.type "tuple" /\ o.data=.seq xs n/\xs[0]? = f)/\wD h vs fs
 | _,_=>False
theorem nu:∀(vs:List ag) (fs:List (Option ag)) {Q:List (Option ag)->aq->Prop},wD s.heap vs fs->Q fs s->az (model prog w) A (vs.mapM firstOfTuple') Q E s
 | [],[],_,_,h=>by rw[List.mapM_nil];exact ai h
 | [],_::_,_,t,_=>t.elim
 | _::_,[],_,t,_=>t.elim
 | v::vs,f::fs,Q,t,h=>by
  obtain⟨⟨a,o,xs,n,rfl,ho,hc,hd,hf⟩,t⟩:=t;rw[cD];refine aa ?_;rw[kas_first_eq];refine aa (W.Looks.here (show W.Looks (model prog w) s.heap (typeOf (.ref a)) o.cls from (W.Looks.ld ho).andThen .now) ?_);rw[hc,if_neg (by first | decide | simp)];refine aa (listItems_at ho hd (ai ?_));rw[hf];exact aa (nu vs fs (Q:=λbs s'=>az (model prog w) A (pure (f::bs)) Q E s') t (ai h))
theorem u9:∀(vs:List ag),(∀v∈vs,OD s.heap v)->∃fs,wD s.heap vs fs/\∀f∈fs,f=none\/∃i t,f=some (ag.int i t)
 | [],_=>⟨[],trivial,!4⟩
 | v::vs,h=>by
  obtain⟨fs,h1,h2⟩:=u9 vs λv hv=>h v (ao _ hv);obtain⟨a,o,xs,n,row,as,rfl,k1,k2,k3,k4⟩:=h v (ar ..);refine⟨xs[0]? :: fs,⟨⟨a,o,xs,n,rfl,k1,k2,k3,rfl⟩,h1⟩,λf hf=>?_⟩;rcases au.mp hf with rfl | hf
  .cases e:xs[0]? with
   | none=>exact .inl rfl
   | some u =>
    obtain⟨i,t,rfl⟩:=sy k4 u (by have:=Array.mem_of_getElem? e;simpa using this);exact .inr ⟨i,t,rfl⟩
  .exact h2 f hf
theorem sC:∀(vs:List ag) (fs:List (Option ag)),wD h vs fs->fs.all (·.isSome)=true->∃gs:List ag,fs=gs.map some/\KatTups h vs gs
 | [],[],_,_=>⟨[],rfl,trivial⟩
 | [],_::_,t,_=>t.elim
 | _::_,[],t,_=>t.elim
 | v::vs,none::fs,_,e=>by simp at e
 | v::vs,some g::fs,t,e=>by
  obtain⟨⟨a,o,xs,n,rfl,ho,hc,hd,hf⟩,t⟩:=t;obtain⟨gs,rfl,k⟩:=sC vs fs t (by simpa using e);exact⟨g::gs,rfl,W.KatTups.cons ho hc hd hf k⟩
theorem qj:∀{vs gs:List ag},KatTups h vs gs->gs.length=vs.length
 | [],[],_=>rfl
 | [],_::_,t=>t.elim
 | _::_,[],t=>t.elim
 | v::vs,g::gs,t=>by rw[ap,ap,qj t.2]
theorem Eu {vs:List ag}(h:∀v∈vs,OD s.heap v)(h2:2<=vs.length):∃κ:SortKind,(κ=tuples' true\/κ=general'\/κ=oneType')/\∀(Q:SortKind->aq->Prop) (E:ag->aq->Prop),Q κ s->az (model prog w) A (keyKind' vs.toArray) Q E s:=by
 obtain⟨fs,hf,hfi⟩:=u9 vs h;by_cases FC:(fs.toArray.all (·.isSome))=true
 .refine⟨tuples' true,.inl rfl,λQ E hq=>?_⟩
  obtain⟨gs,rfl,k⟩:=sC vs fs hf (by simpa using FC);refine W.kat_kind (T:=ag.type "int") k (by rw[qj k];omega) (λv hv=>?_) rfl hq;rcases hfi (some v) (List.mem_map_of_mem hv) with e | ⟨i,t,e⟩
  .cases e
  .cases e
   exact W.Looks.of_pure rfl
 .by_cases h0:(fs.toArray[0]?.bind id).isSome=true
  .refine⟨general',.inr (.inl rfl),λQ E hq=>?_⟩
   rw[PyProof.Rows.kat_kind_eq,List.mapM_toArray,map_eq_pure_bind];refine aa (aa (nu vs fs hf (ai ?_)));rw[if_neg FC,if_pos h0];exact ai hq
  .refine⟨oneType',.inr (.inr rfl),λQ E hq=>?_⟩
   rw[PyProof.Rows.kat_kind_eq,List.mapM_toArray,map_eq_pure_bind];refine aa (aa (nu vs fs hf (ai ?_)));rw[if_neg FC,if_neg h0]
   obtain⟨v₁,rest,rfl⟩:∃v₁ rest,vs=v₁::rest:=by
    match vs,h2 with
    | [],h2=>simp at h2
    | v₁::rest,_=>exact⟨v₁,rest,rfl⟩
   rw[oneTypeOnly'_eq,List.mapM_toArray,map_eq_pure_bind];refine aa (aa (aa (kas_mapM (r:=ag.type "tuple") _ (λv hv Q' hq=>?_) (ai ?_))))
   .obtain⟨a,o,xs,n,row,as,rfl,k1,k2,k3,k4⟩:=h v hv
    refine W.Looks.here ?_ hq;exact (show W.Looks (model prog w) s.heap (typeOf (.ref a)) o.cls from (W.Looks.ld k1).andThen .now) |> λz=>by rw[k2] at z;exact z
   .have RY:((List.map (λ_=>ag.type "tuple") (v₁::rest)).toArray.all λx=>x == ag.type "tuple")=true:=by
     simp only[List.all_toArray,List.all_map,dm];intro _ _;rfl
    have Ih:(List.map (λ_=>ag.type "tuple") (v₁::rest)).toArray[0]? = some (ag.type "tuple"):=by simp
    rw[Ih];simp only[RY,if_true];exact ai (ai hq)
end
noncomputable def yS:ad->Option (List Int) | .tuple ds=>iG ds | _=>none
noncomputable def pM (ds:List ad):Option (List (List Int)):=ds.mapM yS
noncomputable def kS (r:List Int):ad:=.tuple (r.map .int)
theorem G2 (h:yS d=some r):d=kS r:=by
 cases d with
 | tuple ds=>rw[kS,<- iI h]
 | _=>cases h
theorem sD (rs:List (List Int)):pM (rs.map kS)=some rs:=by
 unfold pM
 induction rs with
 | nil=>rfl
 | cons r rs ih=>rw[aj,cD,ih,kS,yS,iH];rfl
theorem vc:∀{ds:List ad} {rs:List (List Int)},pM ds=some rs->ds=rs.map kS
 | [],rs,h=>by cases h;rfl
 | d::ds,rs,h=>by
  unfold pM at h;rw[cD] at h
  cases e1:yS d with
  | none=>rw[e1] at h;cases h
  | some r =>
   cases e:ds.mapM yS with
   | none=>rw[e1,e] at h;cases h
   | some ms =>
    rw[e1,e] at h;cases h;rw[G2 e1,vc (ds:=ds) e];rfl
theorem eh.at:∀{xs:List V} {us:List ag},eh xs us->∀j,j<us.length->RelV (xs.getD j .gT) (us.getD j ag.none)
 | _,[],_,j,hj=>absurd hj (dF _)
 | _,u::us,q,j,hj=>by
  cases q with
  | cons q1 q2 =>
   cases j with
   | zero=>exact q1
   | succ j=>exact eh.at q2 j (bR hj)
theorem dS.WU:∀{ds:List ad} {xs:List V},dS S H ds xs->∀j,j<ds.length->eE S H (ds.getD j .none) (xs.getD j .gT)
 | [],_,_,j,hj=>absurd hj (dF _)
 | d::ds,_,r,j,hj=>by
  obtain⟨x,t,rfl,h1,h2⟩:=r.of_cons
  cases j with
  | zero=>exact h1
  | succ j=>exact dS.WU h2 j (bR hj)
theorem eh.pick (q:eh xs us):∀l:List Nat,(∀j∈l,j<us.length)->eh (l.map λj=>xs.getD j .gT) (l.map λj=>us.getD j ag.none)
 | [],_=>.nil
 | j::l,h=>.cons (q.at j (h j (ar ..))) (eh.pick q l λk hk=>h k (ao _ hk))
theorem dS.pick {S:List Addr}{H:Hp}{rs:List (List Int)}{xs:List V}(r:dS S H (rs.map kS) xs):∀l:List Nat,(∀j∈l,j<rs.length)->dS S H ((l.map λj=>rs.getD j []).map kS) (l.map λj=>xs.getD j .gT)
 | [],_=>.nil
 | j::l,h=>by
  have hj:=h j (ar ..);have:=r.WU j (by rw[ak];exact hj);have e:(rs.map kS).getD j .none=kS (rs.getD j []):=by simp[aE,hj]
  rw[e] at this;exact .cons this (dS.pick r l λk hk=>h k (ao _ hk))
section
theorem G3 (rs:List (List Int)):ad.canLayAll0 (rs.map kS)=true:=by
 have:∀r:List Int,ad.canLayAll0 (r.map .int)=true:=λr=>by
  induction r with
  | nil=>rfl
  | cons a r ih=>simpa [ad.canLayAll0,ad.canLay0] using ih
 induction rs with
 | nil=>rfl
 | cons r rs ih=>simp only[aj,ad.canLayAll0,kS,ad.canLay0,this,ih];rfl
end
noncomputable def JX:Bool->Keyed->Array Keyed->Nat->Nat->Nat->StateT SortSt Sem (Option Nat):=sortPriv% PySem.Builtin.gallop
noncomputable def m6:Nat->StateT SortSt Sem Unit:=sortPriv% PySem.Builtin.setMinGallop
noncomputable def G4:Array Keyed->Array Keyed->StateT SortSt Sem (Array Keyed):=sortPriv% PySem.Builtin.mergeLo
noncomputable def G5:Array Keyed->Array Keyed->StateT SortSt Sem (Array Keyed):=sortPriv% PySem.Builtin.mergeHi
noncomputable abbrev nv (st:SortSt)(g:Nat):SortSt:=SortSt.mk' (kindOf st) (arrOf st) (pendingOf st) g (failedOf st)
theorem pN (g:Nat):m6 g=modify λs=>nv s g:=rfl
section
theorem fb {arr:Array Keyed}{i:Nat}{st:SortSt}{Q:Keyed->SortSt->Prop}(hi:i<arr.size)(h:Q arr[i] st):wpS (model prog w) A E s (elem' arr i) Q st:=by
 rw[elem'_eq,getElem?_pos arr i hi];exact wpS_pure h
theorem JY {β:Type}{a b:Nat}{f:Nat->β->StateT SortSt Sem (ForInStep β)}(I:β->SortSt->Prop)(RZ:∀i c st,I c st->wpS (model prog w) A E s (f i c) (λr eM=>match r with | .done c'=>I c' eM | .yield c'=>I c' eM) st){c:β}{st:SortSt}(h:I c st):wpS (model prog w) A E s (forIn [a:b] c f) I st :=
 wpS_forRange (I:=λ_=>I) (λi c st _ _ h=>RZ i c st h) (λ_ _ h=>h) h
end
section
variable {prog:aP}{w:World}{A:Around}{E:ag->aq->Prop}{s:aq}
theorem Ew {st:SortSt}{g:Nat}{Q:Unit->SortSt->Prop}(h:Q () (nv st g)):wpS (model prog w) A E s (m6 g) Q st:=by
 rw[pN];exact wpS_modify h
noncomputable def Lo (a b out:Array Keyed)(ia ib:Nat):Prop:=(out.toList++a.toList.drop ia++b.toList.drop ib).Perm (a.toList++b.toList)
theorem wF (a:Array Keyed)(i:Nat):(a.extract i a.size).toList=a.toList.drop i:=by
 rw[cN,cr,bC (!4)]
theorem d4 {α:Type}{c:Prop}[Decidable c]{m1 m2:StateT SortSt Sem α}{Q:α->SortSt->Prop}{st:SortSt}(h1:c->wpS (model prog w) A E s m1 Q st)(h2:¬c->wpS (model prog w) A E s m2 Q st):wpS (model prog w) A E s (if c then m1 else m2) Q st:=by
 by_cases h:c
 .rw[if_pos h];exact h1 h
 .rw[if_neg h];exact h2 h
theorem Lo.done (h:Lo a b out ia ib):(out++a.extract ia a.size++b.extract ib b.size).toList.Perm (a.toList++b.toList):=by
 rw[aQ,aQ,wF,wF];exact h
theorem Lo.last (h:Lo a b out ia ib):(out++b.extract ib b.size++a.extract ia a.size).toList.Perm (a.toList++b.toList):=by
 refine List.Perm.trans ?_ h;rw[aQ,aQ,wF,wF,aG,aG];exact List.Perm.append_left _ cL
theorem Lo.as (k:Nat)(h:Lo a b out ia ib):Lo a b (out++a.extract ia (ia+k)) (ia+k) ib:=by
 unfold Lo at h ⊢
 have e:a.toList.drop ia=(a.extract ia (ia+k)).toList++a.toList.drop (ia+k):=by
  rw[cN,cr,cU,<- List.drop_drop,List.take_append_drop]
 rw[e] at h;simpa using h
theorem Lo.bs (k:Nat)(h:Lo a b out ia ib):Lo a b (out++b.extract ib (ib+k)) ia (ib+k):=by
 unfold Lo at h ⊢
 have e:b.toList.drop ib=(b.extract ib (ib+k)).toList++b.toList.drop (ib+k):=by
  rw[cN,cr,cU,<- List.drop_drop,List.take_append_drop]
 rw[e] at h;refine List.Perm.trans ?_ h;rw[aQ,aG,aG,aG];refine List.Perm.append_left _ ?_;rw[<- aG,<- aG];exact List.Perm.append_right _ cL
theorem Lo.a1 (h:Lo a b out ia ib)(hi:ia<a.size):Lo a b (out.push a[ia]) (ia+1) ib:=by
 have:=h.as 1;rwa [show out++a.extract ia (ia+1)=out.push a[ia] from cP.mp (by simp[bB,hi,List.take])] at this
theorem Lo.b1 (h:Lo a b out ia ib)(hi:ib<b.size):Lo a b (out.push b[ib]) ia (ib+1):=by
 have:=h.bs 1;rwa [show out++b.extract ib (ib+1)=out.push b[ib] from cP.mp (by simp[bB,hi,List.take])] at this
structure Mo (a b:Array Keyed) (i:Nat) (out:Array Keyed) (ia ib:Nat):Prop where
 lo:Lo a b out ia ib
 la:ia+1<a.size
 lb:ib<b.size
 up:i<ia+ib
theorem Mo.a1 (h:Mo a b i out ia ib)(e:¬ (ia+1+1 == a.size)=true):Mo a b i (out.push (a[ia]'(by have:=h.la;omega))) (ia+1) ib:=by
 have:=h.la;have:=h.up;rw[beq_iff_eq] at e;exact⟨h.lo.a1 _,!1,h.lb,!1⟩
theorem Mo.as (h:Mo a b i out ia ib)(hk:k<=a.size - ia)(e:¬ (ia+k+1 == a.size)=true)(e':¬ (ia+k == a.size)=true):Mo a b i (out++a.extract ia (ia+k)) (ia+k) ib:=by
 have:=h.la;have:=h.up;rw[beq_iff_eq] at e e';exact⟨h.lo.as k,!1,h.lb,!1⟩
theorem Mo.bs (h:Mo a b i out ia ib)(hk:k<=b.size - ib)(e:¬ (ib+k == b.size)=true):Mo a b i (out++b.extract ib (ib+k)) ia (ib+k):=by
 have:=h.lb;have:=h.up;rw[beq_iff_eq] at e;exact⟨h.lo.bs k,h.la,!1,!1⟩
theorem Mo.b1 (h:Mo a b i out ia ib)(e:¬ (ib+1 == b.size)=true):Mo a b i (out.push (b[ib]'h.lb)) ia (ib+1):=by
 have:=h.lb;have:=h.up;rw[beq_iff_eq] at e;exact⟨h.lo.b1 _,h.la,!1,!1⟩
theorem Mo.lt (h:Mo a b i out ia ib):ia<a.size:=by
 have:=h.la;omega
noncomputable def Hi (a b out:Array Keyed)(na nb:Nat):Prop:=(a.toList.take na++b.toList.take nb++out.toList).Perm (a.toList++b.toList)
theorem qM (a:Array Keyed)(i:Nat):(a.extract 0 i).toList=a.toList.take i:=by
 rw[cN,cr,Nat.sub_zero,List.drop_zero]
theorem Hi.done (h:Hi a b out na nb):(a.extract 0 na++b.extract 0 nb++out.reverse).toList.Perm (a.toList++b.toList):=by
 rw[aQ,aQ,qM,qM,bW];exact (List.Perm.append_left _ (dj _)).trans h
theorem Hi.first (h:Hi a b out na nb):(b.extract 0 nb++a.extract 0 na++out.reverse).toList.Perm (a.toList++b.toList):=by
 rw[aQ,aQ,qM,qM,bW];exact ((List.Perm.append_left _ (dj _)).trans (List.Perm.append_right _ cL)).trans h
theorem qN (a:Array Keyed)(h:k<=n):a.toList.take n=a.toList.take k++(a.extract k n).toList:=by
 rw[cN,cr,show n=k+(n - k) by omega,List.take_add,cU]
theorem Hi.as (h:Hi a b out na nb)(hk:k<=na):Hi a b (out++(a.extract k na).reverse) k nb:=by
 unfold Hi at h ⊢;rw[qN a hk] at h;refine List.Perm.trans ?_ h;rw[aQ,bW,aG,aG,aG];refine List.Perm.append_left _ ?_;rw[<- aG,<- aG];refine (List.Perm.append_left _ (dj _)).trans ?_;exact cL.trans (by rw[aG])
theorem Hi.bs (h:Hi a b out na nb)(hk:k<=nb):Hi a b (out++(b.extract k nb).reverse) na k:=by
 unfold Hi at h ⊢;rw[qN b hk] at h;refine List.Perm.trans ?_ h;rw[aQ,bW,aG,aG,aG];refine List.Perm.append_left _ (List.Perm.append_left _ ?_);exact (List.Perm.append_left _ (dj _)).trans cL
theorem AS (a:Array Keyed)(h:n<a.size):(a.extract n (n+1)).reverse=#[a[n]]:=cP.mp (by simp[bB,h,List.take])
theorem Hi.a1 (h:Hi a b out na nb)(h0:0<na)(hi:na - 1<a.size):Hi a b (out.push a[na - 1]) (na - 1) nb:=by
 have:=h.as (Nat.sub_le na 1);have e:=AS a hi;rw[show na - 1+1=na by omega] at e;rw[e] at this;simpa using this
theorem Hi.b1 (h:Hi a b out na nb)(h0:0<nb)(hi:nb - 1<b.size):Hi a b (out.push b[nb - 1]) na (nb - 1):=by
 have:=h.bs (Nat.sub_le nb 1);have e:=AS b hi;rw[show nb - 1+1=nb by omega] at e;rw[e] at this;simpa using this
structure Mh (a b:Array Keyed) (i:Nat) (out:Array Keyed) (na nb:Nat):Prop where
 hi:Hi a b out na nb
 la:0<na
 lb:1<nb
 ua:na<a.size
 ub:nb<=b.size
 up:i+na+nb<a.size+b.size
theorem Mh.xa (h:Mh a b i out na nb):na - 1<a.size:=by
 have:=h.ua;omega
theorem Mh.xb (h:Mh a b i out na nb):nb - 1<b.size:=by
 have:=h.ub;have:=h.lb;omega
theorem Mh.a1 (h:Mh a b i out na nb)(e:¬ (na - 1 == 0)=true):Mh a b i (out.push (a[na - 1]'h.xa)) (na - 1) nb:=by
 obtain⟨h1,h2,h3,h4,h5,h6⟩:=h;rw[beq_iff_eq] at e;exact⟨h1.a1 h2 _,!1,h3,!1,h5,!1⟩
theorem Mh.b1 (h:Mh a b i out na nb)(e:¬ (nb - 1 == 1)=true):Mh a b i (out.push (b[nb - 1]'h.xb)) na (nb - 1):=by
 obtain⟨h1,h2,h3,h4,h5,h6⟩:=h;rw[beq_iff_eq] at e;exact⟨h1.b1 (!1) _,h2,!1,h4,!1,!1⟩
theorem Mh.as (h:Mh a b i out na nb)(hk:k<=na)(e:¬ (k == 0)=true):Mh a b i (out++(a.extract k na).reverse) k nb:=by
 obtain⟨h1,h2,h3,h4,h5,h6⟩:=h;rw[beq_iff_eq] at e;exact⟨h1.as hk,!1,h3,!1,h5,!1⟩
theorem Mh.bs (h:Mh a b i out na nb)(hk:k<=nb)(e:¬ (k == 1)=true)(e':¬ (k == 0)=true):Mh a b i (out++(b.extract k nb).reverse) na k:=by
 obtain⟨h1,h2,h3,h4,h5,h6⟩:=h;rw[beq_iff_eq] at e e';exact⟨h1.bs hk,h2,!1,h4,!1,!1⟩
end
section
variable {prog:aP}{w:World}{A:Around}{E:ag->aq->Prop}{s:aq}{a₀:Array Keyed}{κ:SortKind}
noncomputable abbrev Run:=Nat × Nat × Nat
noncomputable def Ch:Nat->List Run->Nat->Prop
 | lo,[],hi=>lo=hi
 | lo,(s,n,_)::l,hi=>s=lo/\1<=n/\Ch (lo+n) l hi
structure Sb (a₀:Array Keyed) (κ:SortKind) (hi:Nat) (st:SortSt):Prop where
 perm:(arrOf st).Perm a₀
 kind:kindOf st=κ
 failed:failedOf st=none
 ch:Ch 0 (pendingOf st).toList hi
 le:hi<=a₀.size
theorem Sb.size {st:SortSt}{hi:Nat}(h:Sb a₀ κ hi st):(arrOf st).size=a₀.size:=h.perm.size_eq
theorem Sb.arr {st:SortSt}{hi:Nat}(h:Sb a₀ κ hi st){xs:Array Keyed}(hp:xs.Perm (arrOf st)):Sb a₀ κ hi (setArr st xs):=⟨hp.trans h.perm,h.kind,h.failed,h.ch,h.le⟩
theorem Sb.g {st:SortSt}{hi:Nat}(h:Sb a₀ κ hi st)(g:Nat):Sb a₀ κ hi (nv st g):=⟨h.perm,h.kind,h.failed,h.ch,h.le⟩
theorem Ch.split:∀{l:List Run} {lo hi i:Nat},Ch lo l hi->i+1<l.length->∃pre sa na p nb q post,l=pre++(sa,na,p)::(sa+na,nb,q)::post/\pre.length=i/\lo<=sa/\1<=na/\1<=nb/\sa+na+nb<=hi/\∀p',Ch lo (pre++(sa,na+nb,p')::post) hi
 | (sa,na,p)::(sb,nb,q)::post,lo,hi,0,h,_=>by
  obtain⟨rfl,h1,rfl,h2,h3⟩:=h
  have le:∀{l:List Run} {lo hi:Nat},Ch lo l hi->lo<=hi:=λ{l}=>by
   induction l with
   | nil=>intro lo hi h;exact dA h
   | cons x l ih=>intro lo hi h;exact aU (Nat.le_add_right _ _) (ih h.2.2)
  exact⟨[],_,_,_,_,_,_,rfl,rfl,am _,h1,h2,le h3,λp'=>⟨rfl,!1,by rw[<- Nat.add_assoc];exact h3⟩⟩
 | (s,n,p)::l,lo,hi,i+1,h,zA=>by
  obtain⟨rfl,h1,h2⟩:=h;obtain⟨pre,sa,na,p',nb,q,post,rfl,e,b1,b2,b3,b4,b5⟩:=Ch.split h2 (bR zA);exact⟨(s,n,p)::pre,sa,na,p',nb,q,post,rfl,by rw[ap,e],!1,b2,b3,b4,λp'=>⟨rfl,h1,b5 p'⟩⟩
 | [_],_,_,0,_,h=>by simp at h
 | [],_,_,_,_,h=>by simp at h
theorem Ch.push (h1:1<=n):∀{l:List Run} {lo hi:Nat},Ch lo l hi->Ch lo (l++[(hi,n,p)]) (hi+n)
 | [],lo,hi,h=>⟨h.symm,h1,by rw[show lo=hi from h];rfl⟩
 | _::_,lo,hi,h=>⟨h.1,h.2.1,Ch.push h1 h.2.2⟩
theorem Ch.mod (pw:Nat):∀{l:List Run} {i lo hi:Nat},Ch lo l hi->Ch lo (l.modify i λx=>(x.1,x.2.1,pw)) hi
 | [],i,lo,hi,h=>by simpa using h
 | _::_,0,lo,hi,h=>h
 | _::l,i+1,lo,hi,h=>⟨h.1,h.2.1,Ch.mod pw (l:=l) (i:=i) h.2.2⟩
theorem CZ (f:Nat):∀(l:List Keyed) (j:Nat) (xs:Array Keyed),f+j+l.length<=xs.size->((l.zipIdx j).foldl (λa x=>a.setIfInBounds (f+x.2) x.1) xs).toList=xs.toList.take (f+j)++l++xs.toList.drop (f+j+l.length)
 | [],j,xs,_=>by simp
 | z::l,j,xs,h=>by
  rw[ap] at h;rw[List.zipIdx_cons,cu];dsimp only;rw[CZ f l (j+1) _ (by rw[Array.size_setIfInBounds];omega),Array.toList_setIfInBounds,ap];have hz:f+j<xs.toList.length:=by rw[aT];omega
  have e1:(xs.toList.set (f+j) z).take (f+(j+1))=xs.toList.take (f+j)++[z]:=by
   rw[<- Nat.add_assoc,List.take_succ,List.take_set_of_le (am _),cg hz];rfl
  have e2:(xs.toList.set (f+j) z).drop (f+(j+1)+l.length)=xs.toList.drop (f+j+(l.length+1)):=by
   rw[List.drop_set_of_lt (!1)];congr 1;omega
  rw[e1,e2,aG,aG,aG];rfl
end
section
variable {prog:aP}{w:World}{A:Around}{E:ag->aq->Prop}{s:aq}{a₀:Array Keyed}{κ:SortKind}
theorem JZ {x st:SortSt}{Q:PUnit->SortSt->Prop}(h:Q ⟨⟩ x):wpS (model prog w) A E s (set x:StateT SortSt Sem PUnit) Q st:=by
 unfold wpS;rw[StateT.run_set];exact ai ⟨rfl,h⟩
theorem wG {a:Array Keyed}{i j:Nat}{x:Keyed}(h:x∈a.extract i j):x∈a:=by
 obtain⟨k,hk,rfl⟩:=Array.getElem_of_mem h;rw[cp];exact bf _
end
open PySem.W (kas_ask kas_item)
theorem J1 {α:Type}(d:α){l m:List α}(h:l.Perm m):∃p:List Nat,p.Perm (List.range m.length)/\l=p.map λi=>m.getD i d:=by
 induction h with
 | nil=>exact⟨[],.nil,rfl⟩
 | cons x _ ih =>
  obtain⟨p,hp,e⟩:=ih;refine⟨0::p.map (· + 1),?_,?_⟩
  .rw[ap,cW]
   exact (hp.map _).cons 0
  .rw[aj,bu,e]
   rfl
 | swap x y l =>
  refine⟨1::0::(List.range l.length).map (· + 2),?_,?_⟩
  .rw[ap,ap,cW,cW,aj,bu]
   exact .swap ..
  .have e:(List.range l.length).map (λi=>l.getD i d)=l:=dq (!4) λi h1 h2=>by simp[aE,h2]
   rw[aj,aj,bu];show _=_::_::(List.range l.length).map (λi=>l.getD i d);rw[e];rfl
 | trans _ _ YM YN =>
  obtain⟨p,hp,e⟩:=YM;obtain⟨q,hq,e2⟩:=YN;have hl:=hq.length_eq;subst e2;rw[ak] at hp;refine⟨p.map λi=>q.getD i 0,?_,?_⟩
  .refine List.Perm.trans ?_ hq
   have:=hp.map λi=>q.getD i 0;rwa [show (List.range q.length).map (λi=>q.getD i 0)=q from dq (!4) λi h1 h2=>by simp[aE,h2]] at this
  .rw[e,bu]
   refine cA λi hi=>?_;have zA:i<q.length:=by simpa using hp.mem_iff.mp hi
   simp[aE,zA]
section
variable {prog:aP}{w:World}{A:Around}{E:ag->aq->Prop}{s:aq}{key:Keyed->Int}
noncomputable def sE (prog:aP)(w:World)(A:Around)(s:aq)(key:Keyed->Int)(κ:SortKind)(x y:Keyed):Prop:=∀C:Bool->aq->Prop,C (decide (key x<key y)) s->az (model prog w) A (keyLt' κ x.1 y.1) C (λ_ _=>False) s
theorem G6 {x y:Keyed}{st:SortSt}{Q:Option Bool->SortSt->Prop}(hc:sE prog w A s key (kindOf st) x y)(h:Q (some (decide (key x<key y))) st):wpS (model prog w) A E s (lt' x y) Q st:=by
 rw[lt'_eq];refine wpS_bind (wpS_get ?_);refine wpS_bind (wpS_lift (wpAny_attempt (bF (hc (λb s'=>s'=s/\wpS (model prog w) A E s (pure (some b)) Q st) ⟨rfl,wpS_pure h⟩) (λb s' hb=>hb) λ_ _ hF=>hF.elim)))
noncomputable def kA (key:Keyed->Int)(xs:Array Keyed)(i:Nat):Int:=match xs[i]? with | some x=>key x | none=>0
theorem hU (h:i<xs.size):kA key xs i=key xs[i]:=by
 unfold kA;rw[getElem?_pos xs i h]
noncomputable def AU (left:Bool)(q a:Int):Bool:=if left=true then decide (a<q) else !decide (q<a)
theorem G7 (h:a<=b)(hb:AU left q b=true):AU left q a=true:=by
 unfold AU at hb ⊢
 cases left with
 | true =>
  rw[if_pos rfl,decide_eq_true_eq] at hb ⊢;omega
 | false =>
  rw[if_neg (!2),Bool.not_eq_true',decide_eq_false_iff_not] at hb ⊢;omega
theorem ky {left:Bool}{it:Keyed}{arr:Array Keyed}{base n hint:Nat}{st:SortSt}{Q:Option Nat->SortSt->Prop}(hn:base+n<=arr.size)(hh:hint<n)
  (hc:∀x∈arr,sE prog w A s key (kindOf st) it x/\sE prog w A s key (kindOf st) x it) (hs:∀i j,i<=j->j<n->kA key arr (base+i)<=kA key arr (base+j))
  (h:∀k,k<=n->(∀i,i<k->AU left (key it) (kA key arr (base+i))=true)->(∀i,k<=i->i<n->AU left (key it) (kA key arr (base+i))=false)->Q (some k) st):wpS (model prog w) A E s (JX left it arr base n hint) Q st:=by
 obtain⟨B,hB⟩:∃B:Nat->Bool,∀i,AU left (key it) (kA key arr (base+i))=B i:=⟨_,λ_=>rfl⟩
 have an:∀i j,i<=j->j<n->B j=true->B i=true:=λi j h1 h2 h3=>by
  rw[<- hB] at h3 ⊢;exact G7 (hs i j h1 h2) h3
 simp only[hB] at h
 have hb:∀{i:Nat} {Q:Option Bool->SortSt->Prop},i<n->Q (some (B i)) st->wpS (model prog w) A E s (elem' arr (base+i) >>= λx=>if left=true then lt' x it else lt' it x >>= λr=>pure (r.map λb=>!b)) Q st:=λ{i Q} hi q=>by
  have iQ:base+i<arr.size:=by omega
  refine wpS_bind (fb iQ ?_);have e:=hB i;rw[hU iQ] at e;unfold AU at e
  cases left with
  | true =>
   rw[if_pos rfl] at e ⊢;exact G6 (hc _ (bf _)).2 (e ▸ q)
  | false =>
   rw[if_neg (!2)] at e ⊢;exact wpS_bind (G6 (hc _ (bf _)).1 (wpS_pure (by rw[bH,e];exact q)))
 have R0:∀{f:Nat->Option (Option Nat) × Nat × Nat->StateT SortSt Sem (ForInStep (Option (Option Nat) × Nat × Nat))} {lo hi:Nat},hi<=n->(∀i,i<lo->i<n->B i=true)->(∀i,hi<=i->i<n->B i=false) ->
   (∀i lo hi (Q:ForInStep (Option (Option Nat) × Nat × Nat)->SortSt->Prop),hi<=n->(hi<=lo->Q (.done (none,lo,hi)) st)->(∀m,lo+(hi - lo) / 2=m->m<hi->(B m=true->Q (.yield (none,m+1,hi)) st)/\(B m=false->Q (.yield (none,lo,m)) st))->wpS (model prog w) A E s (f i (none,lo,hi)) Q st) ->
   wpS (model prog w) A E s (forIn [0:n] ((none,lo,hi):Option (Option Nat) × Nat × Nat) f) (λc eM=>eM=st/\∃lo hi,c=(none,lo,hi)/\hi<=n/\(∀i,i<lo->i<n->B i=true)/\(∀i,hi<=i->i<n->B i=false)/\hi<=lo) st:=λ{f lo hi} h1 h2 h3 hf=>by
  refine wpS_forRange (I:=λi c eM=>eM=st/\∃lo hi,c=(none,lo,hi)/\hi<=n/\(∀i,i<lo->i<n->B i=true)/\(∀i,hi<=i->i<n->B i=false)/\hi<=lo+(n - i)) ?_ ?_ ⟨rfl,_,_,rfl,h1,h2,h3,!1⟩
  .rintro i _ st a1 a2 ⟨rfl,lo,hi,rfl,b1,b2,b3,b4⟩
   refine hf i lo hi _ b1 (λtu=>⟨rfl,_,_,rfl,b1,b2,b3,tu⟩) λm hm iQ=>⟨λe=>⟨rfl,_,_,rfl,b1,λj j1 j2=>an j m (!1) (!1) e,b3,!1⟩,λe=>⟨rfl,_,_,rfl,!1,b2,λj j1 j2=>?_,!1⟩⟩
   cases e2:B j with
   | false=>rfl
   | true=>rw[an m j j1 j2 e2] at e;cases e
  .rintro _ st ⟨rfl,lo,hi,rfl,b1,b2,b3,b4⟩
   exact⟨rfl,_,_,rfl,b1,b2,b3,!1⟩
 refine wpS_bind (hb hh ?_);dsimp only
 cases e0:B hint with
 | true =>
  refine wpS_bind (wpS_mono (wpS_forRange (I:=λi c eM=>eM=st/\∃l u,c=(none,l,u)/\hint+l<n/\B (hint+l)=true/\i+1<=u) (Q:=λc eM=>eM=st/\∃l u,c=(none,l,u)/\hint+l<n/\B (hint+l)=true/\(n - hint<=u\/hint+u<n/\B (hint+u)=false)) ?_ ?_ ⟨rfl,_,_,rfl,hh,e0,am _⟩) ?_)
  .rintro i _ st a1 a2 ⟨rfl,l,u,rfl,b1,b2,b3⟩
   dsimp only;refine d4 (λ_=>wpS_pure ⟨rfl,_,_,rfl,b1,b2,.inl (!1)⟩) λiQ=>wpS_bind (hb (!1) ?_);dsimp only
   cases e:B (hint+u) with
   | true=>exact wpS_pure ⟨rfl,_,_,rfl,!1,e,!1⟩
   | false=>exact wpS_pure ⟨rfl,_,_,rfl,b1,b2,.inr ⟨!1,e⟩⟩
  .rintro _ st ⟨rfl,l,u,rfl,b1,b2,b3⟩
   exact⟨rfl,_,_,rfl,b1,b2,.inl (!1)⟩
  .rintro _ st ⟨rfl,l,u,rfl,b1,b2,b3⟩
   have VA:∀i,hint+min u (n - hint)<=i->i<n->B i=false:=λi i1 i2=>by
    rcases b3 with b3 | ⟨b3,b4⟩
    .omega
    .cases e:B i with
     | false=>rfl
     | true=>rw[an (hint+u) i (!1) i2 e] at b4;cases b4
   dsimp only;refine wpS_bind (wpS_mono (R0 (lo:=hint+l+1) (hi:=hint+min u (n - hint)) (!1) (λi i1 i2=>an i _ (!1) b1 b2) VA ?_) ?_)
   .intro i lo hi Q q0 q1 q2
    dsimp only;refine d4 (λ_=>wpS_pure (q1 (!1))) λ_=>wpS_bind (hb (!1) ?_);have:=q2 _ rfl (!1);dsimp only
    cases e:B (lo+(hi - lo) / 2) with
    | true=>exact wpS_pure (this.1 e)
    | false=>exact wpS_pure (this.2 e)
   .rintro _ st ⟨rfl,lo,hi,rfl,c1,c2,c3,c4⟩
    exact wpS_pure (h hi c1 (λj hj=>c2 j (!1) (!1)) c3)
 | false =>
  refine wpS_bind (wpS_mono (wpS_forRange (I:=λi c eM=>eM=st/\∃l u,c=(none,l,u)/\l<=hint/\B (hint - l)=false/\i+1<=u) (Q:=λc eM=>eM=st/\∃l u,c=(none,l,u)/\l<=hint/\B (hint - l)=false/\(hint+1<=u\/u<=hint/\B (hint - u)=true)) ?_ ?_ ⟨rfl,_,_,rfl,bL _,e0,am _⟩) ?_)
  .rintro i _ st a1 a2 ⟨rfl,l,u,rfl,b1,b2,b3⟩
   dsimp only;refine d4 (λ_=>wpS_pure ⟨rfl,_,_,rfl,b1,b2,.inl (!1)⟩) λiQ=>wpS_bind (hb (!1) ?_);dsimp only
   cases e:B (hint - u) with
   | true=>exact wpS_pure ⟨rfl,_,_,rfl,b1,b2,.inr ⟨!1,e⟩⟩
   | false=>exact wpS_pure ⟨rfl,_,_,rfl,!1,e,!1⟩
  .rintro _ st ⟨rfl,l,u,rfl,b1,b2,b3⟩
   exact⟨rfl,_,_,rfl,b1,b2,.inl (!1)⟩
  .rintro _ st ⟨rfl,l,u,rfl,b1,b2,b3⟩
   have Qs:∀i,i<hint+1 - min u (hint+1)->i<n->B i=true:=λi i1 i2=>by
    rcases b3 with b3 | ⟨b3,b4⟩
    .omega
    .exact an i (hint - u) (!1) (!1) b4
   have VA:∀i,hint - l<=i->i<n->B i=false:=λi i1 i2=>by
    cases e:B i with
    | false=>rfl
    | true=>rw[an (hint - l) i i1 i2 e] at b2;cases b2
   dsimp only;refine wpS_bind (wpS_mono (R0 (lo:=hint+1 - min u (hint+1)) (hi:=hint - l) (!1) Qs VA ?_) ?_)
   .intro i lo hi Q q0 q1 q2
    dsimp only;refine d4 (λ_=>wpS_pure (q1 (!1))) λ_=>wpS_bind (hb (!1) ?_);have:=q2 _ rfl (!1);dsimp only
    cases e:B (lo+(hi - lo) / 2) with
    | true=>exact wpS_pure (this.1 e)
    | false=>exact wpS_pure (this.2 e)
   .rintro _ st ⟨rfl,lo,hi,rfl,c1,c2,c3,c4⟩
    exact wpS_pure (h hi c1 (λj hj=>c2 j (!1) (!1)) c3)
end
section
variable {prog:aP}{w:World}{A:Around}{E:ag->aq->Prop}{s:aq}{key:Keyed->Int}
theorem WV {P:Nat->Prop}{ia k:Nat}(h:∀j,j<k->P (ia+j)):∀i,ia<=i->i<ia+k->P i:=λi h1 h2=>Nat.add_sub_cancel' h1 ▸ h (i - ia) (!1)
theorem WW {P:Nat->Prop}{ia k n:Nat}(h:∀j,k<=j->j<n - ia->P (ia+j)):∀i,ia+k<=i->i<n->P i:=λi h1 h2=>Nat.add_sub_cancel' (show ia<=i by omega) ▸ h (i - ia) (!1) (!1)
noncomputable abbrev Nd (key:Keyed->Int)(l:List Keyed):Prop:=l.Pairwise λx y=>key x<=key y
noncomputable def Sk (key:Keyed->Int)(a:Array Keyed):Prop:=∀i j,i<=j->j<a.size->kA key a i<=kA key a j
theorem gP (h:x∈(a.extract i j).toList):∃k,i<=k/\k<j/\k<a.size/\key x=kA key a k:=by
 obtain⟨k,hk,rfl⟩:=ce h;rw[aT,bi] at hk;refine⟨i+k,!1,!1,!1,?_⟩;rw[bE,cp,hU (!1)]
theorem lU (h:Sk key a)(i j:Nat):Nd key (a.extract i j).toList:=by
 refine cq.mpr λp q hp hq hpq=>?_;rw[aT,bi] at hp hq;rw[bE,bE,cp,cp];have:=h (i+p) (i+q) (!1) (!1);rwa [hU (!1),hU (!1)] at this
theorem R1 (h:Sk key a):Nd key a.toList:=by
 have:=lU h 0 a.size;rwa [Array.extract_size] at this
theorem C1 (out a:Array Keyed)(hi:i<a.size):out++a.extract i (i+1)=out.push a[i]:=cP.mp (by simp[bB,hi,List.take])
structure tY (key:Keyed->Int) (a b out:Array Keyed) (ia ib:Nat):Prop where
 G8:Nd key out.toList
 ba:∀x∈out.toList,∀i,ia<=i->i<a.size->key x<=kA key a i
 bb:∀x∈out.toList,∀i,ib<=i->i<b.size->key x<=kA key b i
theorem j5 (h1:Nd key l)(h2:Nd key m)(h3:∀x∈l,∀y∈m,key x<=key y):Nd key (l++m):=List.pairwise_append.mpr ⟨h1,h2,h3⟩
section
variable {a b out:Array Keyed}{ia ib:Nat}
theorem tY.as (h:tY key a b out ia ib)(sa:Sk key a)(k:Nat)(tu:∀i,ia<=i->i<ia+k->i<a.size->∀j,ib<=j->j<b.size->kA key a i<=kA key b j):tY key a b (out++a.extract ia (ia+k)) (ia+k) ib:=by
 refine⟨?_,λx hx i i1 i2=>?_,λx hx i i1 i2=>?_⟩
 .rw[aQ]
  refine j5 h.G8 (lU sa _ _) λx hx y hy=>?_;obtain⟨k,k1,k2,k3,e⟩:=gP (key:=key) hy;rw[e];exact h.ba x hx k k1 k3
 all_goals
  rw[aQ] at hx;rcases aB.mp hx with hx | hx
 .exact h.ba x hx i (!1) i2
 .obtain⟨k,k1,k2,k3,e⟩:=gP (key:=key) hx
  rw[e];exact sa _ _ (!1) i2
 .exact h.bb x hx i i1 i2
 .obtain⟨k,k1,k2,k3,e⟩:=gP (key:=key) hx
  rw[e];exact tu k k1 k2 k3 i i1 i2
theorem tY.bs (h:tY key a b out ia ib)(sb:Sk key b)(k:Nat)(tu:∀i,ib<=i->i<ib+k->i<b.size->∀j,ia<=j->j<a.size->kA key b i<=kA key a j):tY key a b (out++b.extract ib (ib+k)) ia (ib+k):=by
 have:=tY.as (key:=key) (a:=b) (b:=a) (out:=out) (ia:=ib) (ib:=ia) ⟨h.G8,h.bb,h.ba⟩ sb k tu;exact⟨this.G8,this.bb,this.ba⟩
theorem tY.a1 (h:tY key a b out ia ib)(sa:Sk key a)(hi:ia<a.size)(tu:∀j,ib<=j->j<b.size->kA key a ia<=kA key b j):tY key a b (out.push a[ia]) (ia+1) ib:=by
 have:=h.as sa 1 λi i1 i2 i3 j j1 j2=>by rw[show i=ia by omega];exact tu j j1 j2
 rwa [C1 out a hi] at this
theorem tY.b1 (h:tY key a b out ia ib)(sb:Sk key b)(hi:ib<b.size)(tu:∀j,ia<=j->j<a.size->kA key b ib<=kA key a j):tY key a b (out.push b[ib]) ia (ib+1):=by
 have:=h.bs sb 1 λi i1 i2 i3 j j1 j2=>by rw[show i=ib by omega];exact tu j j1 j2
 rwa [C1 out b hi] at this
theorem tY.done (h:tY key a b out ia ib)(sa:Sk key a)(sb:Sk key b)(he:a.size<=ia\/b.size<=ib):Nd key (out++a.extract ia a.size++b.extract ib b.size).toList:=by
 rw[aQ,aQ];refine j5 (j5 h.G8 (lU sa _ _) λx hx y hy=>?_) (lU sb _ _) λx hx y hy=>?_
 .obtain⟨k,k1,k2,k3,e⟩:=gP (key:=key) hy
  rw[e];exact h.ba x hx k k1 k3
 .obtain⟨k,k1,k2,k3,e⟩:=gP (key:=key) hy
  rw[e];rcases aB.mp hx with hx | hx
  .exact h.bb x hx k k1 k3
  .obtain⟨j,j1,j2,j3,_⟩:=gP (key:=key) hx
   omega
theorem tY.last (h:tY key a b out ia ib)(sa:Sk key a)(sb:Sk key b)(hl:∀j,j<b.size->kA key b j<=kA key a (a.size - 1))(he:ia+1=a.size):Nd key (out++b.extract ib b.size++a.extract ia a.size).toList:=by
 rw[aQ,aQ];refine j5 (j5 h.G8 (lU sb _ _) λx hx y hy=>?_) (lU sa _ _) λx hx y hy=>?_
 .obtain⟨k,k1,k2,k3,e⟩:=gP (key:=key) hy
  rw[e];exact h.bb x hx k k1 k3
 .obtain⟨k,k1,k2,k3,e⟩:=gP (key:=key) hy
  rw[e];rcases aB.mp hx with hx | hx
  .exact h.ba x hx k k1 k3
  .obtain⟨j,j1,j2,j3,e⟩:=gP (key:=key) hx
   rw[e,show k=a.size - 1 by omega];exact hl j j3
end
theorem G9:AU false q a=true↔a<=q:=by unfold AU;rw[if_neg (!2),Bool.not_eq_true',decide_eq_false_iff_not];omega
theorem AV:AU false q a=false↔q<a:=by unfold AU;rw[if_neg (!2),Bool.not_eq_false',decide_eq_true_eq]
theorem G':AU true q a=true↔a<q:=by unfold AU;rw[if_pos rfl,decide_eq_true_eq]
theorem AW:AU true q a=false↔q<=a:=by unfold AU;rw[if_pos rfl,decide_eq_false_iff_not];omega
inductive To {γ:Type} (key:Keyed->Int) (a b:Array Keyed) (st:SortSt) (i:Nat) (P:Nat->Nat->Prop):Option (Array Keyed) × Array Keyed × Nat × Nat × γ->SortSt->Prop
 | mk (out:Array Keyed) (ia ib:Nat) (z:γ) (g:Nat) (m:Mo a b i out ia ib) (o:tY key a b out ia ib) (p:P ia ib):To key a b st i P (none,out,ia,ib,z) (nv st g)
inductive Tp {γ:Type} (key:Keyed->Int) (a b:Array Keyed) (st:SortSt) (i:Nat):Option (Array Keyed) × Array Keyed × Nat × Nat × γ->SortSt->Prop
 | nx (out:Array Keyed) (ia ib:Nat) (z:γ) (g:Nat) (m:Mo a b i out ia ib) (o:tY key a b out ia ib):Tp key a b st i (none,out,ia,ib,z) (nv st g)
 | rt (x out:Array Keyed) (ia ib:Nat) (z:γ) (g:Nat) (h:x.toList.Perm (a.toList++b.toList)) (n:Nd key x.toList):Tp key a b st i (some x,out,ia,ib,z) (nv st g)
inductive VB {γ:Type} (key:Keyed->Int) (a b:Array Keyed) (st:SortSt):Option (Array Keyed) × γ->SortSt->Prop
 | mk (x:Array Keyed) (z:γ) (g:Nat) (h:x.toList.Perm (a.toList++b.toList)) (n:Nd key x.toList):VB key a b st (some x,z) (nv st g)
noncomputable abbrev J2:Nat->Nat->Prop:=λ_ _=>True
theorem Ey {a b:Array Keyed}{st:SortSt}{Q:Array Keyed->SortSt->Prop}(ha:1<=a.size)(hb:1<=b.size)(hc:∀x∈a,∀y∈b,sE prog w A s key (kindOf st) x y/\sE prog w A s key (kindOf st) y x)
  (sa:Sk key a) (sb:Sk key b) (Ih:kA key b 0<=kA key a 0) (OE:∀j,j<b.size->kA key b j<=kA key a (a.size - 1))
  (h:∀out g,out.toList.Perm (a.toList++b.toList)->Nd key out.toList->Q out (nv st g)):wpS (model prog w) A E s (G4 a b) Q st:=by
 refine wpS_bind (wpS_lift (wpAny_rule ⟨rfl,?_⟩));refine wpS_bind (fb (!1) ?_)
 have h0:Lo a b #[b[0]] 0 1:=by
  have:=Lo.b1 (a:=a) (b:=b) (out:=#[]) (ia:=0) (ib:=0) (by simp[Lo]) (!1);simpa using this
 have o0:tY key a b #[b[0]] 0 1:=by
  have:=tY.b1 (key:=key) (a:=a) (b:=b) (out:=#[]) (ia:=0) (ib:=0) ⟨!4,!4,!4⟩ sb (!1) λj _ hj=>bD Ih (sa _ _ (bL _) hj);simpa using this
 dsimp only;refine d4 (λe=>wpS_pure (h _ (gallopOf st) h0.done (o0.done sa sb (.inr (by rw[beq_iff_eq] at e;omega))))) λe1=>?_;refine d4 (λe=>wpS_pure (h _ (gallopOf st) h0.last (o0.last sa sb OE (by rw[beq_iff_eq] at e;omega)))) λe2=>?_;refine wpS_bind (wpS_get ?_);rw[beq_iff_eq] at e1 e2;refine wpS_bind (wpS_mono (wpS_forRange (I:=λi=>To key a b st i J2) (Q:=VB key a b st) ?step ?fin (.mk _ _ _ _ (gallopOf st) ⟨h0,!1,!1,!1⟩ o0 trivial)) ?post)
 case post =>
  rintro _ _ ⟨x,t,g',hx,hn⟩;exact wpS_pure (h _ _ hx hn)
 case fin =>
  rintro _ _ ⟨out,ia,ib,g,g',m,o,_⟩;have:=m.la;have:=m.lb;have:=m.up;omega
 case step =>
  rintro i _ _ _ hi ⟨out,ia,ib,g,g',m,o,_⟩;dsimp only;refine wpS_bind (wpS_mono (wpS_forRange (I:=λj=>To key a b st i λia ib=>0<j->i+1<ia+ib) (Q:=Tp key a b st (i+1)) ?s1 ?f1 (.mk _ _ _ _ _ m o (!1))) ?p1)
  case f1 =>
   rintro _ _ ⟨out,ia,ib,z,g',m,o,hp⟩;exact .nx _ _ _ _ _ ⟨m.lo,m.la,m.lb,hp (!1)⟩ o
  case s1 =>
   rintro j _ _ _ hj ⟨out,ia,ib,⟨ac,bc⟩,g',⟨lo,la,lb,up⟩,o,hp⟩;dsimp only;have OG:ia<a.size:=by omega
   refine wpS_bind (fb lb (wpS_bind (fb OG (wpS_bind (G6 (hc _ (bf _) _ (bf _)).2 ?_)))));dsimp only;rw[<- hU (key:=key) lb,<- hU (key:=key) OG];refine d4 (λhw=>wpS_bind (fb lb ?_)) λhw=>wpS_bind (fb OG ?_)
   .have hw:kA key b ib<kA key a ia:=of_decide_eq_true hw
    have o1:=o.b1 sb lb λj j1 j2=>bD (cy hw) (sa _ _ j1 j2);refine d4 (λe=>wpS_pure (.rt _ _ _ _ _ _ (lo.b1 lb).done (o1.done sa sb (.inr (by rw[beq_iff_eq] at e;omega))))) λe=>?_;rw[beq_iff_eq] at e;refine d4 (λ_=>wpS_pure (.nx _ _ _ _ _ ⟨lo.b1 lb,la,!1,!1⟩ o1)) λ_=>wpS_pure (.mk _ _ _ _ _ ⟨lo.b1 lb,la,!1,!1⟩ o1 (!1))
   .have hw:kA key a ia<=kA key b ib:=by have:¬ kA key b ib<kA key a ia:=λz=>hw (decide_eq_true z);omega
    have o1:=o.a1 sa OG λj j1 j2=>bD hw (sb _ _ j1 j2);refine d4 (λe=>wpS_pure (.rt _ _ _ _ _ _ (lo.a1 OG).last (o1.last sa sb OE (by rw[beq_iff_eq] at e;omega)))) λe=>?_;rw[beq_iff_eq] at e;refine d4 (λ_=>wpS_pure (.nx _ _ _ _ _ ⟨lo.a1 OG,!1,!1,!1⟩ o1)) λ_=>wpS_pure (.mk _ _ _ _ _ ⟨lo.a1 OG,!1,!1,!1⟩ o1 (!1))
  case p1 =>
   rintro _ _ (⟨out,ia,ib,⟨ac,bc⟩,g',m,o⟩ | ⟨x,out,ia,ib,t,g',hx,hn⟩)
   .dsimp only
    refine wpS_bind (wpS_lift (wpAny_rule ⟨rfl,?_⟩));refine wpS_bind (wpS_mono (wpS_forRange (I:=λ_=>To key a b st (i+1) J2) (Q:=Tp key a b st (i+1)) ?s2 ?f2 (.mk _ _ _ _ _ m o trivial)) ?p2)
    case f2 =>
     rintro _ _ ⟨out,ia,ib,z,g',m,o,_⟩;exact .nx _ _ _ _ _ m o
    case p2 =>
     rintro _ _ (⟨out,ia,ib,⟨mg,ac,bc⟩,g',m,o⟩ | ⟨x,out,ia,ib,t,g',hx,hn⟩)
     .exact wpS_bind (Ew (wpS_pure (.mk _ _ _ _ _ m o trivial)))
     .exact wpS_pure (.mk _ _ _ hx hn)
    case s2 =>
     rintro j _ _ _ hj ⟨out,ia,ib,⟨mg,ac,bc⟩,g',m,o,_⟩;dsimp only;refine d4 (λ_=>wpS_bind (Ew ?_)) λ_=>wpS_bind (Ew ?_)
     all_goals
      have hl:=m.la;have Pg:=m.lb;refine wpS_bind (fb m.lb (wpS_bind (ky (key:=key) (!1) (!1) (λx hx=>⟨(hc x hx _ (bf _)).2,(hc x hx _ (bf _)).1⟩) (λi j h1 h2=>sa _ _ (!1) (!1)) λk hk LG DQ=>?_)));rw[<- hU (key:=key) m.lb] at LG DQ;have g1:=WV (P:=λi=>kA key a i<=kA key b ib) λj hj=>G9.mp (LG j hj);have g2:=WW (P:=λi=>kA key b ib<=kA key a i) λj h1 h2=>cy (AV.mp (DQ j h1 h2));have oA:=o.as sa k λi i1 i2 i3 j j1 j2=>bD (g1 i i1 i2) (sb _ _ j1 j2);dsimp only;refine d4 (λ_=>d4 (λe=>wpS_pure (.rt _ _ _ _ _ _ (m.lo.as k).last (oA.last sa sb OE (by rw[beq_iff_eq] at e;omega)))) λe=>d4 (λe'=>wpS_pure (.rt _ _ _ _ _ _ (m.lo.as k).done (oA.done sa sb (.inl (by rw[beq_iff_eq] at e';omega))))) λe'=>?_) λHa=>?_
      all_goals first
       | (replace m:=m.as hk e e';replace o:=oA)
       | (have Ha:k=0:=(!1);subst Ha;rw[Nat.add_zero] at g2)
      all_goals
       have Pg:=m.lb;have oB:=o.b1 sb m.lb λj j1 j2=>g2 j j1 j2;refine wpS_bind (fb m.lb (d4 (λe=>wpS_pure (.rt _ _ _ _ _ _ (m.lo.b1 m.lb).done (oB.done sa sb (.inr (by rw[beq_iff_eq] at e;omega))))) λe=>?_));replace m:=m.b1 e;replace o:=oB;have Pg:=m.lb;have YO:=m.lt;refine wpS_bind (fb m.lt (wpS_bind (ky (key:=key) (!1) (!1) (λx hx=>hc _ (bf _) x hx) (λi j h1 h2=>sb _ _ (!1) (!1)) λk' Eh R3 R4=>?_)));rw[<- hU (key:=key) m.lt] at R3 R4;have q3:=WV (P:=λi=>kA key b i<_) λj hj=>G'.mp (R3 j hj);have oC:=o.bs sb k' λi i1 i2 i3 j j1 j2=>bD (cy (q3 i i1 i2)) (sa _ _ j1 j2);have g3:=WW (P:=λi=>_<=kA key b i) λj h1 h2=>AW.mp (R4 j h1 h2);dsimp only;refine d4 (λ_=>d4 (λe=>wpS_pure (.rt _ _ _ _ _ _ (m.lo.bs k').done (oC.done sa sb (.inr (by rw[beq_iff_eq] at e;omega))))) λe=>?_) λHa=>?_
       all_goals first
        | (replace m:=m.bs Eh e;replace o:=oC)
        | (have Ha:k'=0:=(!1);subst Ha;rw[Nat.add_zero] at g3)
       all_goals
        have YO:=m.lt;have oD:=o.a1 sa m.lt λj j1 j2=>g3 j j1 j2;exact wpS_bind (fb m.lt (d4 (λe=>wpS_pure (.rt _ _ _ _ _ _ (m.lo.a1 m.lt).last (oD.last sa sb OE (by rw[beq_iff_eq] at e;omega)))) λe=>d4 (λ_=>wpS_pure (.nx _ _ _ _ _ (m.a1 e) oD)) λ_=>wpS_pure (.mk _ _ _ _ _ (m.a1 e) oD trivial)))
   .exact wpS_pure (.mk _ _ _ hx hn)
end
section
variable {prog:aP}{w:World}{A:Around}{E:ag->aq->Prop}{s:aq}{key:Keyed->Int}
structure tZ (key:Keyed->Int) (a b out:Array Keyed) (na nb:Nat):Prop where
 G8:Nd key out.toList.reverse
 ba:∀x∈out.toList,∀i,i<na->i<a.size->kA key a i<=key x
 bb:∀x∈out.toList,∀i,i<nb->i<b.size->kA key b i<=key x
section
theorem tZ.as (h:tZ key a b out na nb)(sa:Sk key a)(hk:k<=na)(tu:∀i,k<=i->i<na->i<a.size->∀j,j<nb->j<b.size->kA key b j<=kA key a i):tZ key a b (out++(a.extract k na).reverse) k nb:=by
 refine⟨?_,λx hx i i1 i2=>?_,λx hx i i1 i2=>?_⟩
 .rw[aQ,bW,List.reverse_append,List.reverse_reverse]
  refine j5 (lU sa _ _) h.G8 λx hx y hy=>?_;obtain⟨k,k1,k2,k3,e⟩:=gP (key:=key) hx;rw[e];exact h.ba y (c6.mp hy) k k2 k3
 all_goals
  rw[aQ,bW] at hx;rcases aB.mp hx with hx | hx
 .exact h.ba x hx i (!1) i2
 .obtain⟨k,k1,k2,k3,e⟩:=gP (key:=key) (c6.mp hx)
  rw[e];exact sa _ _ (!1) k3
 .exact h.bb x hx i i1 i2
 .obtain⟨k,k1,k2,k3,e⟩:=gP (key:=key) (c6.mp hx)
  rw[e];exact tu k k1 k2 k3 i i1 i2
theorem tZ.bs (h:tZ key a b out na nb)(sb:Sk key b)(hk:k<=nb)(tu:∀i,k<=i->i<nb->i<b.size->∀j,j<na->j<a.size->kA key a j<=kA key b i):tZ key a b (out++(b.extract k nb).reverse) na k:=by
 have:=tZ.as (key:=key) (a:=b) (b:=a) (out:=out) (na:=nb) (nb:=na) ⟨h.G8,h.bb,h.ba⟩ sb hk tu;exact⟨this.G8,this.bb,this.ba⟩
theorem Hb (out a:Array Keyed)(h0:0<n)(h:n - 1<a.size):out++(a.extract (n - 1) n).reverse=out.push a[n - 1]:=by
 have e:=AS a h;rw[show n - 1+1=n by omega] at e;rw[e];simp
theorem tZ.a1 (h:tZ key a b out na nb)(sa:Sk key a)(h0:0<na)(hi:na - 1<a.size)(tu:∀j,j<nb->j<b.size->kA key b j<=kA key a (na - 1)):tZ key a b (out.push a[na - 1]) (na - 1) nb:=by
 have:=h.as sa (Nat.sub_le na 1) λi i1 i2 i3 j j1 j2=>by rw[show i=na - 1 by omega];exact tu j j1 j2
 rwa [Hb out a h0 hi] at this
theorem tZ.b1 (h:tZ key a b out na nb)(sb:Sk key b)(h0:0<nb)(hi:nb - 1<b.size)(tu:∀j,j<na->j<a.size->kA key a j<=kA key b (nb - 1)):tZ key a b (out.push b[nb - 1]) na (nb - 1):=by
 have:=h.bs sb (Nat.sub_le nb 1) λi i1 i2 i3 j j1 j2=>by rw[show i=nb - 1 by omega];exact tu j j1 j2
 rwa [Hb out b h0 hi] at this
theorem tZ.done (h:tZ key a b out na nb)(sa:Sk key a)(sb:Sk key b)(he:na=0\/nb=0):Nd key (a.extract 0 na++b.extract 0 nb++out.reverse).toList:=by
 rw[aQ,aQ,bW];refine j5 (j5 (lU sa _ _) (lU sb _ _) λx hx y hy=>?_) h.G8 λx hx y hy=>?_
 .obtain⟨k,k1,k2,k3,e⟩:=gP (key:=key) hx
  obtain⟨j,j1,j2,j3,_⟩:=gP (key:=key) hy;omega
 .have hy:=c6.mp hy
  rcases aB.mp hx with hx | hx
  .obtain⟨k,k1,k2,k3,e⟩:=gP (key:=key) hx
   rw[e];exact h.ba y hy k k2 k3
  .obtain⟨k,k1,k2,k3,e⟩:=gP (key:=key) hx
   rw[e];exact h.bb y hy k k2 k3
theorem tZ.first (h:tZ key a b out na nb)(sa:Sk key a)(sb:Sk key b)(Ih:kA key b 0<=kA key a 0)(he:nb<=1):Nd key (b.extract 0 nb++a.extract 0 na++out.reverse).toList:=by
 rw[aQ,aQ,bW];refine j5 (j5 (lU sb _ _) (lU sa _ _) λx hx y hy=>?_) h.G8 λx hx y hy=>?_
 .obtain⟨k,k1,k2,k3,e⟩:=gP (key:=key) hx
  obtain⟨j,j1,j2,j3,e'⟩:=gP (key:=key) hy;rw[e,e',show k=0 by omega];exact bD Ih (sa _ _ (bL _) j3)
 .have hy:=c6.mp hy
  rcases aB.mp hx with hx | hx
  .obtain⟨k,k1,k2,k3,e⟩:=gP (key:=key) hx
   rw[e];exact h.bb y hy k k2 k3
  .obtain⟨k,k1,k2,k3,e⟩:=gP (key:=key) hx
   rw[e];exact h.ba y hy k k2 k3
end
inductive Tq {γ:Type} (key:Keyed->Int) (a b:Array Keyed) (st:SortSt) (i:Nat) (P:Nat->Nat->Prop):Option (Array Keyed) × Nat × Nat × Array Keyed × γ->SortSt->Prop
 | mk (na nb:Nat) (out:Array Keyed) (z:γ) (g:Nat) (m:Mh a b i out na nb) (o:tZ key a b out na nb) (p:P na nb):Tq key a b st i P (none,na,nb,out,z) (nv st g)
inductive Tr {γ:Type} (key:Keyed->Int) (a b:Array Keyed) (st:SortSt) (i:Nat):Option (Array Keyed) × Nat × Nat × Array Keyed × γ->SortSt->Prop
 | nx (na nb:Nat) (out:Array Keyed) (z:γ) (g:Nat) (m:Mh a b i out na nb) (o:tZ key a b out na nb):Tr key a b st i (none,na,nb,out,z) (nv st g)
 | rt (x:Array Keyed) (na nb:Nat) (out:Array Keyed) (z:γ) (g:Nat) (h:x.toList.Perm (a.toList++b.toList)) (n:Nd key x.toList):Tr key a b st i (some x,na,nb,out,z) (nv st g)
theorem Ez {a b:Array Keyed}{st:SortSt}{Q:Array Keyed->SortSt->Prop}(ha:1<=a.size)(hb:1<=b.size)(hc:∀x∈a,∀y∈b,sE prog w A s key (kindOf st) x y/\sE prog w A s key (kindOf st) y x)
  (sa:Sk key a) (sb:Sk key b) (Ih:kA key b 0<=kA key a 0) (OE:∀j,j<b.size->kA key b j<=kA key a (a.size - 1))
  (h:∀out g,out.toList.Perm (a.toList++b.toList)->Nd key out.toList->Q out (nv st g)):wpS (model prog w) A E s (G5 a b) Q st:=by
 refine wpS_bind (wpS_lift (wpAny_rule ⟨rfl,?_⟩));refine wpS_bind (fb (!1) ?_)
 have h0:Hi a b #[a[a.size - 1]] (a.size - 1) b.size:=by
  have:=Hi.a1 (a:=a) (b:=b) (out:=#[]) (na:=a.size) (nb:=b.size) (by simp[Hi,bC]) (!1) (!1);simpa using this
 have o0:tZ key a b #[a[a.size - 1]] (a.size - 1) b.size:=by
  have:=tZ.a1 (key:=key) (a:=a) (b:=b) (out:=#[]) (na:=a.size) (nb:=b.size) ⟨!4,!4,!4⟩ sa (!1) (!1) λj j1 _=>OE j j1;simpa using this
 dsimp only;refine d4 (λe=>wpS_pure (h _ (gallopOf st) h0.done (o0.done sa sb (.inl (by rw[beq_iff_eq] at e;omega))))) λe1=>?_;refine d4 (λe=>wpS_pure (h _ (gallopOf st) h0.first (o0.first sa sb Ih (by rw[beq_iff_eq] at e;omega)))) λe2=>?_;refine wpS_bind (wpS_get ?_);rw[beq_iff_eq] at e1 e2;refine wpS_bind (wpS_mono (wpS_forRange (I:=λi=>Tq key a b st i J2) (Q:=VB key a b st) ?step ?fin (.mk _ _ _ _ (gallopOf st) ⟨h0,!1,!1,!1,!1,!1⟩ o0 trivial)) ?post)
 case post =>
  rintro _ _ ⟨x,t,g',hx,hn⟩;exact wpS_pure (h _ _ hx hn)
 case fin =>
  rintro _ _ ⟨na,nb,out,g,g',m,o,_⟩;have:=m.up;omega
 case step =>
  rintro i _ _ _ hi ⟨na,nb,out,g,g',m,o,_⟩;dsimp only;refine wpS_bind (wpS_mono (wpS_forRange (I:=λj=>Tq key a b st i λna nb=>0<j->i+1+na+nb<a.size+b.size) (Q:=Tr key a b st (i+1)) ?s1 ?f1 (.mk _ _ _ _ _ m o (!1))) ?p1)
  case f1 =>
   rintro _ _ ⟨na,nb,out,z,g',m,o,hp⟩;exact .nx _ _ _ _ _ ⟨m.hi,m.la,m.lb,m.ua,m.ub,hp (!1)⟩ o
  case s1 =>
   rintro j _ _ _ hj ⟨na,nb,out,⟨ac,bc⟩,g',m,o,hp⟩;dsimp only;have:=m.la;have:=m.lb;have:=m.up;refine wpS_bind (fb m.xb (wpS_bind (fb m.xa (wpS_bind (G6 (hc _ (bf _) _ (bf _)).2 ?_)))));dsimp only;rw[<- hU (key:=key) m.xb,<- hU (key:=key) m.xa];refine d4 (λhw=>wpS_bind (fb m.xa ?_)) λhw=>wpS_bind (fb m.xb ?_)
   .have hw:kA key b (nb - 1)<kA key a (na - 1):=of_decide_eq_true hw
    have o1:=o.a1 sa m.la m.xa λj j1 j2=>bD (sb _ _ (!1) m.xb) (cy hw);refine d4 (λe=>wpS_pure (.rt _ _ _ _ _ _ (m.hi.a1 m.la m.xa).done (o1.done sa sb (.inl (by rw[beq_iff_eq] at e;omega))))) λe=>?_;have m1:=m.a1 e;refine d4 (λ_=>wpS_pure (.nx _ _ _ _ _ ⟨m1.hi,m1.la,m1.lb,m1.ua,m1.ub,!1⟩ o1)) λ_=>wpS_pure (.mk _ _ _ _ _ m1 o1 (!1))
   .have hw:kA key a (na - 1)<=kA key b (nb - 1):=by have:¬ kA key b (nb - 1)<kA key a (na - 1):=λz=>hw (decide_eq_true z);omega
    have o1:=o.b1 sb (!1) m.xb λj j1 j2=>bD (sa _ _ (!1) m.xa) hw;refine d4 (λe=>wpS_pure (.rt _ _ _ _ _ _ (m.hi.b1 (!1) m.xb).first (o1.first sa sb Ih (by rw[beq_iff_eq] at e;omega)))) λe=>?_;have m1:=m.b1 e;refine d4 (λ_=>wpS_pure (.nx _ _ _ _ _ ⟨m1.hi,m1.la,m1.lb,m1.ua,m1.ub,!1⟩ o1)) λ_=>wpS_pure (.mk _ _ _ _ _ m1 o1 (!1))
  case p1 =>
   rintro _ _ (⟨na,nb,out,⟨ac,bc⟩,g',m,o⟩ | ⟨x,na,nb,out,t,g',hx,hn⟩)
   .dsimp only
    refine wpS_bind (wpS_lift (wpAny_rule ⟨rfl,?_⟩));refine wpS_bind (wpS_mono (wpS_forRange (I:=λ_=>Tq key a b st (i+1) J2) (Q:=Tr key a b st (i+1)) ?s2 ?f2 (.mk _ _ _ _ _ m o trivial)) ?p2)
    case f2 =>
     rintro _ _ ⟨na,nb,out,z,g',m,o,_⟩;exact .nx _ _ _ _ _ m o
    case p2 =>
     rintro _ _ (⟨na,nb,out,⟨mg,ac,bc⟩,g',m,o⟩ | ⟨x,na,nb,out,t,g',hx,hn⟩)
     .exact wpS_bind (Ew (wpS_pure (.mk _ _ _ _ _ m o trivial)))
     .exact wpS_pure (.mk _ _ _ hx hn)
    case s2 =>
     rintro j _ _ _ hj ⟨na,nb,out,⟨mg,ac,bc⟩,g',m,o,_⟩;dsimp only;refine d4 (λ_=>wpS_bind (Ew ?_)) λ_=>wpS_bind (Ew ?_)
     all_goals
      have h1:=m.la;have h2:=m.ua;have h5:=m.ub;refine wpS_bind (fb m.xb (wpS_bind (ky (key:=key) (!1) (!1) (λx hx=>⟨(hc x hx _ (bf _)).2,(hc x hx _ (bf _)).1⟩) (λi j q1 q2=>sa _ _ (!1) (!1)) λk hk LG DQ=>?_)));rw[<- hU (key:=key) m.xb] at LG DQ
      have g1:∀i,i<k->kA key a i<=kA key b (nb - 1):=λi i1=>by
       have:=G9.mp (LG i i1);rwa [cV] at this
      have g2:∀i,k<=i->i<na->kA key b (nb - 1)<=kA key a i:=λi i1 i2=>by
       have:=AV.mp (DQ i i1 i2);rw[cV] at this;omega
      have YQ:=m.xb;have oA:=o.as sa hk λi i1 i2 i3 j j1 j2=>bD (sb _ _ (!1) YQ) (g2 i i1 i2);dsimp only;refine d4 (λ_=>d4 (λe=>wpS_pure (.rt _ _ _ _ _ _ (m.hi.as hk).done (oA.done sa sb (.inl (by rw[beq_iff_eq] at e;omega))))) λe=>?_) λHa=>?_
      all_goals first
       | (replace m:=m.as hk e;replace o:=oA)
       | (have Ha:k=na:=(!1);subst Ha)
      all_goals
       have h3:=m.lb;have oB:=o.b1 sb (!1) m.xb λj j1 j2=>g1 j j1;refine wpS_bind (fb m.xb (d4 (λe=>wpS_pure (.rt _ _ _ _ _ _ (m.hi.b1 (!1) m.xb).first (oB.first sa sb Ih (by rw[beq_iff_eq] at e;omega)))) λe=>?_));replace m:=m.b1 e;replace o:=oB;have h4:=m.lb;have h5:=m.ub;have h6:=m.la;have h7:=m.ua;refine wpS_bind (fb m.xa (wpS_bind (ky (key:=key) (!1) (!1) (λx hx=>hc _ (bf _) x hx) (λi j q1 q2=>sb _ _ (!1) (!1)) λk' Eh R3 R4=>?_)));rw[<- hU (key:=key) m.xa] at R3 R4
       have g3:∀i,i<k'->kA key b i<=_:=λi i1=>by
        have:=G'.mp (R3 i i1);rw[cV] at this;exact cy this
       have YR:=m.xa
       have oC:=o.bs sb Eh λi i1 i2 i3 j j1 j2=>by
        have:=AW.mp (R4 i i1 i2);rw[cV] at this;exact bD (sa _ _ (!1) YR) this
       dsimp only;refine d4 (λ_=>d4 (λe=>wpS_pure (.rt _ _ _ _ _ _ (m.hi.bs Eh).first (oC.first sa sb Ih (by rw[beq_iff_eq] at e;omega)))) λe=>d4 (λe'=>wpS_pure (.rt _ _ _ _ _ _ (m.hi.bs Eh).done (oC.done sa sb (.inr (by rw[beq_iff_eq] at e';omega))))) λe'=>?_) λHa=>?_
       all_goals first
        | (replace m:=m.bs Eh e e';replace o:=oC)
        | (have Ha:k'=_:=Nat.le_antisymm Eh (!1);subst Ha)
       all_goals
        have oD:=o.a1 sa m.la m.xa λj j1 j2=>g3 j j1;exact wpS_bind (fb m.xa (d4 (λe=>wpS_pure (.rt _ _ _ _ _ _ (m.hi.a1 m.la m.xa).done (oD.done sa sb (.inl (by rw[beq_iff_eq] at e;omega))))) λe=>d4 (λ_=>wpS_pure (.nx _ _ _ _ _ (m.a1 e) oD)) λ_=>wpS_pure (.mk _ _ _ _ _ (m.a1 e) oD trivial)))
   .exact wpS_pure (.mk _ _ _ hx hn)
end
section
variable {prog:aP}{w:World}{A:Around}{E:ag->aq->Prop}{s:aq}{a₀:Array Keyed}{κ:SortKind}{key:Keyed->Int}
noncomputable def Sg (key:Keyed->Int)(xs:Array Keyed)(lo hi:Nat):Prop:=∀i j,lo<=i->i<=j->j<hi->kA key xs i<=kA key xs j
noncomputable def Dg (key:Keyed->Int)(xs:Array Keyed)(lo hi:Nat):Prop:=∀i j,lo<=i->i<=j->j<hi->kA key xs j<=kA key xs i
theorem Sg.more {xs:Array Keyed}{lo m:Nat}(h:Sg key xs lo m)(h1:lo<m)(h2:kA key xs (m - 1)<=kA key xs m):Sg key xs lo (m+1):=λi j i1 i2 i3=>by
 by_cases hj:j=m
 .subst hj
  by_cases hi:i=j
  .subst hi;exact c9 _
  .exact bD (h i (j - 1) i1 (!1) (!1)) h2
 .exact h i j i1 i2 (!1)
theorem Dg.more {xs:Array Keyed}{lo m:Nat}(h:Dg key xs lo m)(h1:lo<m)(h2:kA key xs m<=kA key xs (m - 1)):Dg key xs lo (m+1):=λi j i1 i2 i3=>by
 by_cases hj:j=m
 .subst hj
  by_cases hi:i=j
  .subst hi;exact c9 _
  .exact bD h2 (h i (j - 1) i1 (!1) (!1))
 .exact h i j i1 i2 (!1)
theorem Sg.one (xs:Array Keyed)(lo:Nat):Sg key xs lo (lo+1):=λi j i1 i2 i3=>by rw[show i=j by omega];exact c9 _
theorem Sg.AX {xs ys:Array Keyed}{lo hi:Nat}(h:Sg key xs lo hi)(e:∀i,lo<=i->i<hi->kA key ys i=kA key xs i):Sg key ys lo hi:=λi j i1 i2 i3=>by
 rw[e i i1 (!1),e j (!1) i3];exact h i j i1 i2 i3
theorem Dg.AX {xs ys:Array Keyed}{lo hi:Nat}(h:Dg key xs lo hi)(e:∀i,lo<=i->i<hi->kA key ys i=kA key xs i):Dg key ys lo hi:=λi j i1 i2 i3=>by
 rw[e i i1 (!1),e j (!1) i3];exact h i j i1 i2 i3
theorem Ch.within:∀{l:List Run} {lo hi:Nat},Ch lo l hi->lo<=hi/\∀r∈l,lo<=r.1/\r.1+r.2.1<=hi
 | [],lo,hi,h=>⟨dA h,!4⟩
 | (s,n,p)::l,lo,hi,h=>by
  obtain⟨rfl,h1,h2⟩:=h;obtain⟨h3,h4⟩:=Ch.within h2;refine⟨!1,λr hr=>?_⟩;rcases au.mp hr with rfl | hr
  .exact⟨am _,h3⟩
  .have:=h4 r hr
   omega
structure So (key:Keyed->Int) (a₀:Array Keyed) (κ:SortKind) (hi:Nat) (st:SortSt):Prop where
 sb:Sb a₀ κ hi st
 seg:∀r∈(pendingOf st).toList,Sg key (arrOf st) r.1 (r.1+r.2.1)
theorem So.arr {st:SortSt}{hi:Nat}(h:So key a₀ κ hi st){xs:Array Keyed}(hp:xs.Perm (arrOf st))(e:∀i,i<hi->kA key xs i=kA key (arrOf st) i):So key a₀ κ hi (setArr st xs) :=
 ⟨h.sb.arr hp,λr hr=>(h.seg r hr).AX λi i1 i2=>e i (by have:=(Ch.within h.sb.ch).2 r hr;omega)⟩
noncomputable def Call3 (prog:aP)(w:World)(A:Around)(s:aq)(key:Keyed->Int)(κ:SortKind)(a₀:Array Keyed):Prop:=∀x∈a₀,∀y∈a₀,sE prog w A s key κ x y
theorem So.cmp {st:SortSt}{hi:Nat}(h:So key a₀ κ hi st)(hc:Call3 prog w A s key κ a₀){x y:Keyed}(hx:x∈arrOf st)(hy:y∈arrOf st):sE prog w A s key (kindOf st) x y:=by
 rw[h.sb.kind];exact hc x (h.sb.perm.mem_iff.mp hx) y (h.sb.perm.mem_iff.mp hy)
theorem So.lt {st:SortSt}{hi i j:Nat}{Q:Option Bool->SortSt->Prop}(h:So key a₀ κ hi st)(hc:Call3 prog w A s key κ a₀)(hi:i<a₀.size)(hj:j<a₀.size)(q:Q (some (decide (kA key (arrOf st) i<kA key (arrOf st) j))) st):wpS (model prog w) A E s (ltAt' i j) Q st:=by
 rw[ltAt'_eq];have e:=h.sb.size;rw[hU (!1),hU (!1)] at q;refine wpS_bind (wpS_get (wpS_bind (fb (!1) (wpS_bind (fb (!1) (G6 ?_ q))))));exact h.cmp hc (bf _) (bf _)
theorem Hc {α:Type}{r:Option α}{lo n lA hi:Nat}{st:SortSt}{f:Nat->Option α × Nat->StateT SortSt Sem (ForInStep (Option α × Nat))}{Q:Option α × Nat->SortSt->Prop}(h:So key a₀ κ hi st)(hc:Call3 prog w A s key κ a₀)(hl:lo+lA<=a₀.size)(h1:1<=n)(hn:n<=lA)(hs:Sg key (arrOf st) lo (lo+n))
  (hf:∀i m,f i (none,m)=ltAt' (lo+m) (lo+m - 1) >>= λx=>match x with | some b=>if b=true then pure (ForInStep.done (none,m)) else pure (ForInStep.yield (none,m+1)) | none=>pure (ForInStep.done (r,m)))
  (q:∀m,n<=m->m<=lA->Sg key (arrOf st) lo (lo+m)->(m<lA->kA key (arrOf st) (lo+m)<kA key (arrOf st) (lo+m - 1))->Q (none,m) st):wpS (model prog w) A E s (forIn [n:lA] ((none,n):Option α × Nat) f) Q st:=by
 refine wpS_forRange (I:=λx c eM=>eM=st/\c=(none,x)/\Sg key (arrOf st) lo (lo+x)) ?_ ?_ ⟨rfl,rfl,hs⟩
 .rintro x _ st a1 a2 ⟨rfl,rfl,hx⟩
  rw[hf];refine wpS_bind (h.lt hc (!1) (!1) ?_);by_cases iQ:kA key (arrOf st) (lo+x)<kA key (arrOf st) (lo+x - 1)
  .rw[decide_eq_true iQ]
   exact wpS_pure (q _ a1 (!1) hx λ_=>iQ)
  .rw[decide_eq_false iQ]
   exact wpS_pure ⟨rfl,rfl,hx.more (!1) (!1)⟩
 .rintro _ st ⟨rfl,rfl,hx⟩
  rw[show max n lA=lA by omega] at hx ⊢;exact q _ hn (am _) hx λz=>absurd z (bt _)
theorem yT {i j lo:Nat}{st:SortSt}{Q:Unit->SortSt->Prop}(h:So key a₀ κ lo st)(hi:lo<=i)(hj:j<=a₀.size)(q:∀eM,So key a₀ κ lo eM->(∀k,kA key (arrOf eM) k=if i<=k/\k<j then kA key (arrOf st) (i+j - 1 - k) else kA key (arrOf st) k)->Q () eM):wpS (model prog w) A E s (reverseSlice' i j) Q st:=by
 rw[reverseSlice'_eq]
 have e:∀k,kA key (mirror (arrOf st) i j ((j - i) / 2)) k=if i<=k/\k<j then kA key (arrOf st) (i+j - 1 - k) else kA key (arrOf st) k:=λk=>by
  have:=getElem?_mirror_all (xs:=arrOf st) (i:=i) (j:=j) (by rw[h.sb.size];exact hj) k;unfold kA;rw[this];by_cases hk:i<=k/\k<j
  .rw[if_pos hk,if_pos hk]
  .rw[if_neg hk,if_neg hk]
 refine wpS_modify (q _ (h.arr (mirror_perm _ _ _ _) λk hk=>?_) e);rw[e,if_neg (!1)]
theorem AY {lo lA:Nat}{st:SortSt}{Q:Option Nat->SortSt->Prop}(h:So key a₀ κ lo st)(hc:Call3 prog w A s key κ a₀)(hl:lo+lA<=a₀.size)(h1:1<=lA)
  (q:∀m eM,So key a₀ κ lo eM->1<=m->m<=lA->Sg key (arrOf eM) lo (lo+m)->Q (some m) eM):wpS (model prog w) A E s (countRun' lo lA) Q st:=by
 rw[countRun'_eq];refine wpS_bind (Hc (r:=some none) h hc hl (am 1) h1 (Sg.one _ _) (λi m=>bind_congr λx=>by cases x<;>rfl) λm m1 m2 hs VC=>?_);dsimp only;refine d4 (λ_=>wpS_pure (q _ _ h m1 m2 hs)) λe=>?_;rw[beq_iff_eq] at e;have VC:=VC (!1)
 have go:∀eM,So key a₀ κ lo eM->Dg key (arrOf eM) lo (lo+(m+1))->∀{f:Nat->Option (Option Nat) × Nat × Nat->StateT SortSt Sem (ForInStep (Option (Option Nat) × Nat × Nat))},
   (∀x xo eM (Q:ForInStep (Option (Option Nat) × Nat × Nat)->SortSt->Prop),So key a₀ κ lo eM->m+1<=x->x<lA->xo<x->(∀i,lo+x - (xo+1)<=i->i<lo+x->kA key (arrOf eM) i=kA key (arrOf eM) (lo+x - 1)) ->
    (kA key (arrOf eM) (lo+x)<kA key (arrOf eM) (lo+x - 1)->∀J',So key a₀ κ lo J'->(∀k,kA key (arrOf J') k=kA key (arrOf eM) k)->Q (.yield (none,x+1,0)) J') ->
    (kA key (arrOf eM) (lo+x - 1)<kA key (arrOf eM) (lo+x)->Q (.done (none,x,xo)) eM)->(kA key (arrOf eM) (lo+x)=kA key (arrOf eM) (lo+x - 1)->Q (.yield (none,x+1,xo+1)) eM)->wpS (model prog w) A E s (f x (none,x,xo)) Q eM) ->
   wpS (model prog w) A E s (forIn [m+1:lA] ((none,m+1,0):Option (Option Nat) × Nat × Nat) f) (λc eM=>∃x xo,c=(none,x,xo)/\m+1<=x/\x<=lA/\So key a₀ κ lo eM/\Dg key (arrOf eM) lo (lo+x)/\xo<x/\∀i,lo+x - (xo+1)<=i->i<lo+x->kA key (arrOf eM) i=kA key (arrOf eM) (lo+x - 1)) eM:=λeM h hd f hf=>by
  refine wpS_forRange (I:=λx c eM=>∃xo,c=(none,x,xo)/\m+1<=x/\x<=lA/\So key a₀ κ lo eM/\Dg key (arrOf eM) lo (lo+x)/\xo<x/\∀i,lo+x - (xo+1)<=i->i<lo+x->kA key (arrOf eM) i=kA key (arrOf eM) (lo+x - 1)) ?_ ?_ ⟨_,rfl,am _,!1,h,hd,!1,λi i1 i2=>by rw[show i=lo+(m+1) - 1 by omega]⟩
  .rintro x _ st a1 a2 ⟨xo,rfl,b1,b2,h,hd,b3,b4⟩
   refine hf x xo st _ h b1 a2 b3 b4 (λiQ J' h2 e2=>⟨_,rfl,!1,!1,h2,?_,!1,λi i1 i2=>by rw[show i=lo+(x+1) - 1 by omega]⟩) (λiQ=>⟨_,_,rfl,b1,b2,h,hd,b3,b4⟩) λYS=>⟨_,rfl,!1,!1,h,Dg.more (m:=lo+x) hd (!1) (!1),!1,λi i1 i2=>?_⟩
   .refine Dg.AX (Dg.more (m:=lo+x) hd (!1) (!1)) λi _ _=>e2 i
   .by_cases hi:i=lo+x
    .rw[hi];rfl
    .rw[b4 i (!1) (!1),<- YS];rfl
  .rintro _ st ⟨xo,rfl,b1,b2,h,hd,b3,b4⟩
   rw[show max (m+1) lA=lA by omega] at *;exact⟨_,_,rfl,b1,b2,h,hd,b3,b4⟩
 have hD:∀eM,So key a₀ κ lo eM->(∀k,kA key (arrOf eM) k=kA key (arrOf st) k)->(m > 1->¬ kA key (arrOf st) lo<kA key (arrOf st) (lo+m - 1))->Dg key (arrOf eM) lo (lo+(m+1)):=λeM _ e2 hr=>by
  refine Dg.AX (Dg.more (m:=lo+m) (λi j i1 i2 i3=>?_) (!1) (cy VC)) λi _ _=>e2 i;by_cases hm:m > 1
  .have:=hr hm
   have a:=hs lo i (am _) i1 (!1);have b:=hs j (lo+m - 1) (!1) (!1) (!1);omega
  .rw[show i=j by omega];exact c9 _
 refine d4 (λhm=>wpS_bind (h.lt hc (!1) (!1) (d4 (λ_=>wpS_pure (q _ _ h m1 m2 hs)) λhr=>wpS_bind (yT h (am _) (!1) λIA h2 e2=>?_)))) λhm=>?_;have hr:¬ kA key (arrOf st) lo<kA key (arrOf st) (lo+m - 1):=λz=>hr (decide_eq_true z)
 have e2:∀k,kA key (arrOf IA) k=kA key (arrOf st) k:=λk=>by
  rw[e2];split
  .rename_i hk
   have a1:=hs lo k (am _) hk.1 (!1);have a2:=hs k (lo+m - 1) (!1) (!1) (!1);have a3:=hs lo (lo+(lo+m) - 1 - k) (am _) (!1) (!1);have a4:=hs (lo+(lo+m) - 1 - k) (lo+m - 1) (!1) (!1) (!1);omega
  .rfl
 have hd:=hD IA h2 e2 λ_=>hr;clear e2;generalize IA=st at h2 hd ⊢;replace h:=h2
 rotate_left
 have hd:=hD st h (λk=>rfl) λz=>absurd z hm
 all_goals
  refine wpS_bind (wpS_lift (wpAny_rule ⟨rfl,wpS_bind (wpS_mono (go st h hd ?_) ?_)⟩))
  .intro x xo eM Q h c1 c2 c3 c4 k1 k2 k3
   dsimp only;refine wpS_bind (h.lt hc (!1) (!1) (d4 (λhw=>?_) λhw=>wpS_bind (h.lt hc (!1) (!1) (d4 (λR5=>wpS_pure (k2 (of_decide_eq_true R5))) λR5=>wpS_pure (k3 ?_)))))
   .have hw:=of_decide_eq_true hw
    refine d4 (λhq=>wpS_bind (yT h (!1) (!1) λIB h3 e3=>wpS_pure (k1 hw IB h3 λk=>?_))) λhq=>wpS_pure (k1 hw eM h λk=>rfl);rw[e3];split
    .rw[c4 k (!1) (!1),c4 _ (!1) (!1)]
    .rfl
   .have:¬ kA key (arrOf eM) (lo+x)<kA key (arrOf eM) (lo+x - 1):=λz=>hw (decide_eq_true z)
    have:¬ kA key (arrOf eM) (lo+x - 1)<kA key (arrOf eM) (lo+x):=λz=>R5 (decide_eq_true z);omega
  .rintro _ st ⟨x,xo,rfl,x1,x2,h,hd,c3,c4⟩
   dsimp only;refine d4 (λ_=>wpS_bind (yT h (!1) (!1) λIB h3 e3=>wpS_bind (yT h3 (am _) (!1) λYT h4 e4=>?_))) λ_=>wpS_bind (yT h (am _) (!1) λYT h4 e4=>?_)
   .have e3:∀k,kA key (arrOf IB) k=kA key (arrOf st) k:=λk=>by
     rw[e3];split
     .rw[c4 k (!1) (!1),c4 _ (!1) (!1)]
     .rfl
    refine wpS_bind (Hc (r:=some none) h4 hc hl (!1) x2 (λi j i1 i2 i3=>?_) (λi m=>bind_congr λx=>by cases x<;>rfl) λm m1 m2 hs _=>wpS_pure (q _ _ h4 (!1) m2 hs));rw[e4,e4,if_pos ⟨!1,!1⟩,if_pos ⟨!1,!1⟩,e3,e3];exact hd _ _ (!1) (!1) (!1)
   .refine wpS_bind (Hc (r:=some none) h4 hc hl (!1) x2 (λi j i1 i2 i3=>?_) (λi m=>bind_congr λx=>by cases x<;>rfl) λm m1 m2 hs _=>wpS_pure (q _ _ h4 (!1) m2 hs))
    rw[e4,e4,if_pos ⟨!1,!1⟩,if_pos ⟨!1,!1⟩];exact hd _ _ (!1) (!1) (!1)
end
section
variable {prog:aP}{w:World}{A:Around}{E:ag->aq->Prop}{s:aq}{a₀:Array Keyed}{κ:SortKind}{key:Keyed->Int}
theorem EA (hs:src<xs.size)(hd:d<=src)(k:Nat):kA key (bubble xs src d) k=if k=src - d then kA key xs src else if src - d<k/\k<=src then kA key xs (k - 1) else kA key xs k:=by
 have e:=getElem?_bubble hs d hd k;unfold kA;rw[e];by_cases h1:k=src - d
 .rw[if_pos h1,if_pos h1]
 .rw[if_neg h1,if_neg h1]
  by_cases h2:src - d<k/\k<=src
  .rw[if_pos h2,if_pos h2]
  .rw[if_neg h2,if_neg h2]
theorem wH {lo n ok:Nat}{st:SortSt}{Q:Bool->SortSt->Prop}(h:So key a₀ κ lo st)(hc:Call3 prog w A s key κ a₀)(hl:lo+n<=a₀.size)(h1:1<=ok)(h2:ok<=n)(hs:Sg key (arrOf st) lo (lo+ok))(q:∀eM,So key a₀ κ lo eM->Sg key (arrOf eM) lo (lo+n)->Q true eM):wpS (model prog w) A E s (binarySort' lo n ok) Q st:=by
 rw[binarySort'_eq];refine wpS_bind (wpS_mono (wpS_forRange (I:=λk c eM=>c=(none,())/\So key a₀ κ lo eM/\Sg key (arrOf eM) lo (lo+k)) (Q:=λc eM=>c=(none,())/\So key a₀ κ lo eM/\Sg key (arrOf eM) lo (lo+n)) ?_ ?_ ⟨rfl,h,by rw[show max ok 1=ok by omega];exact hs⟩) ?_)
 .rintro k _ st a1 a2 ⟨rfl,h,hs⟩
  have sz:=h.sb.size;dsimp only;refine wpS_bind (wpS_mono (wpS_forRange (I:=λi c eM=>eM=st/\∃l r,c=(none,l,r)/\l<=r/\r<=k/\(∀i,i<l->kA key (arrOf st) (lo+i)<=kA key (arrOf st) (lo+k))/\(∀i,r<=i->i<k->kA key (arrOf st) (lo+k)<=kA key (arrOf st) (lo+i))/\r<=l+(k - i)) (Q:=λc eM=>eM=st/\∃l r,c=(none,l,r)/\l=r/\r<=k/\(∀i,i<l->kA key (arrOf st) (lo+i)<=kA key (arrOf st) (lo+k))/\(∀i,r<=i->i<k->kA key (arrOf st) (lo+k)<=kA key (arrOf st) (lo+i))) ?_ ?_ ⟨rfl,_,_,rfl,bL _,am _,λi hi=>by omega,λi i1 i2=>by omega,!1⟩) ?_)
  .rintro i _ eM b1 b2 ⟨rfl,l,r,rfl,c1,c2,c3,c4,c5⟩
   dsimp only;refine d4 (λe=>wpS_pure ⟨rfl,_,_,rfl,!1,c2,c3,c4⟩) λe=>wpS_bind (h.lt hc (!1) (!1) ?_);generalize hm:(l+r) / 2=m;dsimp only;by_cases iQ:kA key (arrOf eM) (lo+k)<kA key (arrOf eM) (lo+m)
   .rw[decide_eq_true iQ,if_pos rfl]
    exact wpS_pure ⟨rfl,_,_,rfl,!1,!1,c3,λi i1 i2=>bD (cy iQ) (hs _ _ (!1) (!1) (!1)),!1⟩
   .rw[decide_eq_false iQ,if_neg (!2)]
    exact wpS_pure ⟨rfl,_,_,rfl,!1,c2,λi i1=>bD (hs _ (lo+m) (!1) (!1) (!1)) (!1),c4,!1⟩
  .rintro _ eM ⟨rfl,l,r,rfl,c1,c2,c3,c4,c5⟩
   exact⟨rfl,_,_,rfl,!1,c2,c3,c4⟩
  .rintro _ eM ⟨rfl,l,r,rfl,rfl,c2,c3,c4⟩
   dsimp only;rw[moveDown'_eq];have e:=EA (key:=key) (xs:=arrOf eM) (src:=lo+k) (d:=lo+k - (lo+l)) (!1) (!1);rw[show lo+k - (lo+k - (lo+l))=lo+l by omega] at e;refine wpS_bind (wpS_modify (wpS_pure ⟨rfl,h.arr (bubble_perm _ _ _) λi hi=>?_,λi j i1 i2 i3=>?_⟩))
   .rw[e,if_neg (!1),if_neg (!1)]
   .show kA key (bubble (arrOf eM) (lo+k) (lo+k - (lo+l))) i<=kA key (bubble (arrOf eM) (lo+k) (lo+k - (lo+l))) j
    rw[e,e];by_cases x1:i=lo+l
    .rw[if_pos x1]
     by_cases y1:j=lo+l
     .rw[if_pos y1];exact c9 _
     .rw[if_neg y1,if_pos ⟨!1,!1⟩]
      have:=c4 (j - 1 - lo) (!1) (!1);rwa [show lo+(j - 1 - lo)=j - 1 by omega] at this
    .rw[if_neg x1]
     by_cases x2:lo+l<i/\i<=lo+k
     .rw[if_pos x2,if_neg (!1),if_pos ⟨!1,!1⟩]
      exact hs _ _ (!1) (!1) (!1)
     .rw[if_neg x2]
      have hi:i<lo+l:=by omega
      by_cases y1:j=lo+l
      .rw[if_pos y1]
       have:=c3 (i - lo) (!1);rwa [show lo+(i - lo)=i by omega] at this
      .rw[if_neg y1]
       by_cases y2:lo+l<j/\j<=lo+k
       .rw[if_pos y2]
        exact hs _ _ (!1) (!1) (!1)
       .rw[if_neg y2]
        exact hs _ _ (!1) (!1) (!1)
 .rintro _ st ⟨rfl,h,hs⟩
  rw[show max (max ok 1) n=n by omega] at hs;exact⟨rfl,h,hs⟩
 .rintro _ st ⟨rfl,h,hs⟩
  exact wpS_pure (q _ h hs)
theorem Ch.two:∀{l m:List Run} {lo hi:Nat},Ch lo (l++m) hi->∃mid,Ch lo l mid/\Ch mid m hi
 | [],m,lo,hi,h=>⟨lo,rfl,h⟩
 | (s,n,p)::l,m,lo,hi,h=>by
  obtain⟨rfl,h1,h2⟩:=h;obtain⟨mid,h3,h4⟩:=Ch.two h2;exact⟨mid,⟨rfl,h1,h3⟩,h4⟩
theorem OH (h:ys.toList=xs.toList.take f++l++xs.toList.drop (f+l.length))(hf:f+l.length<=xs.size):(∀i,i<f\/f+l.length<=i->kA key ys i=kA key xs i)/\∀i (hi:i<l.length),kA key ys (f+i)=key l[i]:=by
 have ht:(xs.toList.take f).length=f:=by rw[bQ,aT];omega
 have e:∀i,ys[i]? = (xs.toList.take f++l++xs.toList.drop (f+l.length))[i]? := λi=>by rw[<- h,a9]
 refine⟨λi hi=>?_,λi hi=>?_⟩
 .unfold kA
  rw[e]
  have:(xs.toList.take f++l++xs.toList.drop (f+l.length))[i]? = xs[i]? := by
   rcases hi with hi | hi
   .rw[aG,bM (!1),List.getElem?_take,if_pos hi,a9]
   .rw[bJ (by rw[aI,ht];exact hi),aI,ht,List.getElem?_drop,a9]
    congr 1;omega
  rw[this]
 .unfold kA
  rw[e,aG,bJ (!1),ht,show f+i - f=i by omega,bM hi,aV hi]
theorem LH {xs:Array Keyed}{lo hi:Nat}(h:Sg key xs lo hi)(hh:hi<=xs.size){i j:Nat}(hi1:lo<=i)(hj:j<=hi):Sk key (xs.extract i j):=λp q h1 h2=>by
 rw[bi] at h2
 have e:∀p,p<(xs.extract i j).size->kA key (xs.extract i j) p=kA key xs (i+p):=λp hp=>by
  rw[bi] at hp;rw[hU (by rw[bi];omega),cp,hU (!1)]
 rw[e p (by rw[bi];omega),e q (by rw[bi];omega)];exact h _ _ (!1) (!1) (!1)
theorem C2 (hp:p<j - i)(hj:j<=xs.size):kA key (xs.extract i j) p=kA key xs (i+p):=by
 rw[hU (by rw[bi];omega),cp,hU (!1)]
theorem vd {i hi:Nat}{st:SortSt}{Q:Bool->SortSt->Prop}(h:So key a₀ κ hi st)(hc:Call3 prog w A s key κ a₀)(hl:i+1<(pendingOf st).size)(q:∀eM,So key a₀ κ hi eM->(pendingOf eM).size+1=(pendingOf st).size->(∀i,hi<=i->kA key (arrOf eM) i=kA key (arrOf st) i)->Q true eM):wpS (model prog w) A E s (mergeAt' i) Q st:=by
 obtain⟨pre,sa,na,p,nb,p2,post,e,rfl,b1,b2,b3,b4,b5⟩:=Ch.split h.sb.ch (by simpa using hl);refine wpS_bind (wpS_get ?_);have g1:(pendingOf st)[pre.length]? = some (sa,na,p):=by rw[<- a9,e];simp
 have g2:(pendingOf st)[pre.length+1]? = some (sa+na,nb,p2):=by rw[<- a9,e];simp[List.getElem?_append]
 have g3:(((pendingOf st).setIfInBounds pre.length (sa,na+nb,p)).eraseIdxIfInBounds (pre.length+1)).toList=pre++(sa,na+nb,p)::post:=by
  rw[Array.toList_eraseIdxIfInBounds,Array.toList_setIfInBounds,e];rw[List.set_append_right _ _ (am _),Nat.sub_self,av,List.eraseIdx_append_of_length_le (!1),cU];rfl
 rw[g1,g2];refine wpS_bind (JZ ?_);generalize ((pendingOf st).setIfInBounds pre.length (sa,na+nb,p)).eraseIdxIfInBounds (pre.length+1)=pd at g3 ⊢
 have hsz:pd.size+1=(pendingOf st).size:=by
  have x1:=congrArg List.length g3;have x2:=congrArg List.length e;simp only[aT,aI,ap] at x1 x2;omega
 have E5:Sb a₀ κ hi (setPending st pd):=⟨h.sb.perm,h.sb.kind,h.sb.failed,by show Ch 0 pd.toList hi;rw[g3];exact b5 p,h.sb.le⟩;have sz:=h.sb.size;have le:=h.sb.le;have sA:Sg key (arrOf st) sa (sa+na):=h.seg (sa,na,p) (by rw[e];simp);have sB:Sg key (arrOf st) (sa+na) (sa+na+nb):=h.seg (sa+na,nb,p2) (by rw[e];simp)
 have DK:∀r∈pre,r.1+r.2.1<=sa:=λr hr=>by
  have:=h.sb.ch;rw[e] at this;obtain⟨mid,c1,c2⟩:=Ch.two this;have:=(Ch.within c1).2 r hr;have:=c2.1;omega
 have ip:∀r∈post,sa+na+nb<=r.1:=λr hr=>by
  have:=h.sb.ch;rw[e] at this;obtain⟨mid,c1,c2⟩:=Ch.two this;have:=(Ch.within c2.2.2.2.2).2 r hr;have:=c2.1;omega
 have all:∀(xs:Array Keyed),(∀i,i<sa\/sa+na+nb<=i->kA key xs i=kA key (arrOf st) i)->Sg key xs sa (sa+na+nb)->∀r∈pd.toList,Sg key xs r.1 (r.1+r.2.1):=λxs hx hs r hr=>by
  rw[g3] at hr;rcases aB.mp hr with hr | hr
  .have h1:=DK r hr
   exact (h.seg r (by rw[e];exact a6 _ hr)).AX λi i1 i2=>hx i (.inl (!1))
  .rcases au.mp hr with rfl | hr
   .show Sg key xs sa (sa+(na+nb))
    rw[<- Nat.add_assoc];exact hs
   .have h1:=ip r hr
    exact (h.seg r (by rw[e];exact aJ _ (ao _ (ao _ hr)))).AX λi i1 i2=>hx i (.inr (!1))
 have xb:sa+na<(arrOf st).size:=by omega
 refine wpS_bind (fb (arr:=arrOf st) xb (wpS_bind (ky (key:=key) (arr:=arrOf st) (!1) (!1) (λx hx=>⟨h.cmp hc (bf _) hx,h.cmp hc hx (bf _)⟩) (λi j q1 q2=>sA _ _ (!1) (!1) (!1)) λk hk k1 k2=>?_)));rw[<- hU (key:=key) xb] at k1 k2
 have k1:∀i,sa<=i->i<sa+k->kA key (arrOf st) i<=kA key (arrOf st) (sa+na):=λi i1 i2=>by
  have:=G9.mp (k1 (i - sa) (!1));rwa [show sa+(i - sa)=i by omega] at this
 have k2:∀i,sa+k<=i->i<sa+na->kA key (arrOf st) (sa+na)<kA key (arrOf st) i:=λi i1 i2=>by
  have:=AV.mp (k2 (i - sa) (!1) (!1));rwa [show sa+(i - sa)=i by omega] at this
 dsimp only;refine d4 (λe1=>wpS_pure (q _ ⟨E5,all _ (λi _=>rfl) λi j i1 i2 i3=>?_⟩ hsz λ_ _=>rfl)) λe1=>?_
 .rw[beq_iff_eq] at e1
  show kA key (arrOf st) i<=kA key (arrOf st) j;by_cases x1:j<sa+na
  .exact sA _ _ i1 i2 x1
  .by_cases x2:sa+na<=i
   .exact sB _ _ x2 i2 i3
   .exact bD (k1 i i1 (!1)) (sB _ _ (am _) (!1) i3)
 rw[beq_iff_eq] at e1;have xa:sa+k+(na - k) - 1<(arrOf st).size:=by omega
 refine wpS_bind (fb (arr:=arrOf st) xa (wpS_bind (ky (key:=key) (arr:=arrOf st) (!1) (!1) (λx hx=>⟨h.cmp hc (bf _) hx,h.cmp hc hx (bf _)⟩) (λi j q1 q2=>sB _ _ (!1) (!1) (!1)) λk' Eh k3 k4=>?_)));rw[<- hU (key:=key) xa,show sa+k+(na - k) - 1=sa+na - 1 by omega] at k3 k4
 have k3:∀i,sa+na<=i->i<sa+na+k'->kA key (arrOf st) i<kA key (arrOf st) (sa+na - 1):=λi i1 i2=>by
  have:=G'.mp (k3 (i - (sa+na)) (!1));rwa [show sa+na+(i - (sa+na))=i by omega] at this
 have k4:∀i,sa+na+k'<=i->i<sa+na+nb->kA key (arrOf st) (sa+na - 1)<=kA key (arrOf st) i:=λi i1 i2=>by
  have:=AW.mp (k4 (i - (sa+na)) (!1) (!1));rwa [show sa+na+(i - (sa+na))=i by omega] at this
 dsimp only;refine d4 (λe2=>wpS_pure (q _ ⟨E5,all _ (λi _=>rfl) λi j i1 i2 i3=>?_⟩ hsz λ_ _=>rfl)) λe2=>?_
 .rw[beq_iff_eq] at e2
  show kA key (arrOf st) i<=kA key (arrOf st) j;by_cases x1:j<sa+na
  .exact sA _ _ i1 i2 x1
  .by_cases x2:sa+na<=i
   .exact sB _ _ x2 i2 i3
   .exact bD (sA i (sa+na - 1) i1 (!1) (!1)) (k4 j (!1) i3)
 rw[beq_iff_eq] at e2
 have fin:∀(out:Array Keyed) (g:Nat),out.toList.Perm (((arrOf st).extract (sa+k) (sa+na)).toList++((arrOf st).extract (sa+na) (sa+na+k')).toList)->Nd key out.toList->wpS (model prog w) A E s (do
   modify λs=>setArr s (out.toList.zipIdx.foldl (λa x=>a.setIfInBounds (sa+k+x.2) x.1) (arrOf s))
   return (failedOf (<- get)).isNone) Q (nv (setPending st pd) g):=λout g ho hn=>by
  refine wpS_bind (wpS_modify (wpS_bind (wpS_get ?_)))
  have e8:out.toList.length=na - k+k':=by
   rw[ho.length_eq,aI,aT,aT,bi,bi];omega
  have mT:=CZ (sa+k) out.toList 0 (arrOf st) (!1);rw[Nat.add_zero] at mT
  have hp:(out.toList.zipIdx.foldl (λa x=>a.setIfInBounds (sa+k+x.2) x.1) (arrOf st)).Perm (arrOf st):=by
   rw[cm,mT]
   have e3:(arrOf st).toList=(arrOf st).toList.take (sa+k)++(((arrOf st).extract (sa+k) (sa+na)).toList++((arrOf st).extract (sa+na) (sa+na+k')).toList)++(arrOf st).toList.drop (sa+k+out.toList.length):=by
    rw[<- aG,<- qN _ (!1),<- qN _ (!1),show sa+k+out.toList.length=sa+na+k' by omega,List.take_append_drop]
   exact ((List.Perm.append_left _ ho).append_right _).trans (.of_eq e3.symm)
  obtain⟨z1,z2⟩:=OH (key:=key) mT (!1);generalize O8:(out.toList.zipIdx.foldl (λa x=>a.setIfInBounds (sa+k+x.2) x.1) (arrOf st))=xs at hp z1 z2;rw[e8] at z1
  have zb:∀i,sa+k<=i->i<sa+na+k'->∃j,(sa+k<=j/\j<sa+na+k')/\kA key xs i=kA key (arrOf st) j:=λi i1 i2=>by
   have Pe:i - (sa+k)<out.toList.length:=by omega
   have:=z2 (i - (sa+k)) Pe;rw[show sa+k+(i - (sa+k))=i by omega] at this;have hm:=ho.mem_iff.mp (bV Pe);rcases aB.mp hm with hm | hm
   .obtain⟨j,j1,j2,j3,ej⟩:=gP (key:=key) hm
    exact⟨j,⟨j1,!1⟩,this.trans ej⟩
   .obtain⟨j,j1,j2,j3,ej⟩:=gP (key:=key) hm
    exact⟨j,⟨!1,j2⟩,this.trans ej⟩
  have R6:∀i j,sa<=i->i<sa+k->sa+k<=j->j<sa+na+nb->kA key (arrOf st) i<=kA key (arrOf st) j:=λi j i1 i2 j1 j2=>by
   by_cases x:j<sa+na
   .exact sA _ _ i1 (!1) x
   .exact bD (k1 i i1 i2) (sB _ _ (am _) (!1) j2)
  have YU:∀i j,sa<=i->i<sa+na+k'->sa+na+k'<=j->j<sa+na+nb->kA key (arrOf st) i<=kA key (arrOf st) j:=λi j i1 i2 j1 j2=>by
   by_cases x:i<sa+na
   .exact bD (sA i (sa+na - 1) i1 (!1) (!1)) (k4 j j1 j2)
   .exact sB _ _ (!1) (!1) j2
  have VD:Sg key xs sa (sa+na+nb):=λi j i1 i2 i3=>by
   by_cases x1:i<sa+k
   .rw[z1 i (.inl x1)]
    by_cases y1:j<sa+k
    .rw[z1 j (.inl y1)]
     exact sA _ _ i1 i2 (!1)
    .by_cases y2:j<sa+na+k'
     .obtain⟨j',⟨u1,u2⟩,ej⟩:=zb j (!1) y2
      rw[ej];exact R6 i j' i1 x1 u1 (!1)
     .rw[z1 j (.inr (!1))]
      exact R6 i j i1 x1 (!1) i3
   .by_cases x2:i<sa+na+k'
    .by_cases y2:j<sa+na+k'
     .have v1:=z2 (i - (sa+k)) (!1)
      have v2:=z2 (j - (sa+k)) (!1);rw[show sa+k+(i - (sa+k))=i by omega] at v1;rw[show sa+k+(j - (sa+k))=j by omega] at v2;rw[v1,v2];by_cases S6:i=j
      .subst S6;exact c9 _
      .exact cq.mp hn _ _ (!1) (!1) (!1)
     .obtain⟨i',⟨u1,u2⟩,ei⟩:=zb i (!1) x2
      rw[ei,z1 j (.inr (!1))];exact YU i' j (!1) u2 (!1) i3
    .rw[z1 i (.inr (!1)),z1 j (.inr (!1))]
     exact sB _ _ (!1) i2 i3
  have h2:So key a₀ κ hi (setArr (nv (setPending st pd) g) xs):=⟨(E5.g g).arr hp,all xs (λi hi=>z1 i (!1)) VD⟩;have ef:=h2.sb.failed;refine wpS_pure ?_;have:(failedOf (setArr (nv (setPending st pd) g) xs)).isNone=true:=by rw[ef];rfl
  have:=this ▸ q _ h2 hsz λi hi=>z1 i (!1);exact this
 have xp:∀x∈(arrOf st).extract (sa+k) (sa+na),∀y∈(arrOf st).extract (sa+na) (sa+na+k'),sE prog w A s key (kindOf st) x y/\sE prog w A s key (kindOf st) y x:=λx hx y hy=>⟨h.cmp hc (wG hx) (wG hy),h.cmp hc (wG hy) (wG hx)⟩;have m1:Sk key ((arrOf st).extract (sa+k) (sa+na)):=LH sA (!1) (!1) (am _);have m2:Sk key ((arrOf st).extract (sa+na) (sa+na+k')):=LH sB (!1) (am _) (!1)
 have m3:kA key ((arrOf st).extract (sa+na) (sa+na+k')) 0<=kA key ((arrOf st).extract (sa+k) (sa+na)) 0:=by
  rw[C2 (!1) (!1),C2 (!1) (!1)];exact cy (k2 _ (!1) (!1))
 have m4:∀j,j<((arrOf st).extract (sa+na) (sa+na+k')).size->kA key ((arrOf st).extract (sa+na) (sa+na+k')) j<=kA key ((arrOf st).extract (sa+k) (sa+na)) (((arrOf st).extract (sa+k) (sa+na)).size - 1):=λj hj=>by
  rw[bi] at hj;rw[bi,C2 (!1) (!1),C2 (!1) (!1),show sa+k+(min (sa+na) (arrOf st).size - (sa+k) - 1)=sa+na - 1 by omega];exact cy (k3 _ (!1) (!1))
 exact d4 (λ_=>wpS_bind (Ey (a:=(arrOf st).extract (sa+k) (sa+na)) (b:=(arrOf st).extract (sa+na) (sa+na+k')) (by rw[bi];omega) (by rw[bi];omega) xp m1 m2 m3 m4 fin)) λ_=>wpS_bind (Ez (a:=(arrOf st).extract (sa+k) (sa+na)) (b:=(arrOf st).extract (sa+na) (sa+na+k')) (by rw[bi];omega) (by rw[bi];omega) xp m1 m2 m3 m4 fin)
theorem Ch.count:∀{l:List Run} {lo hi:Nat},Ch lo l hi->lo+l.length<=hi
 | [],lo,hi,h=>dA h
 | (s,n,p)::l,lo,hi,h=>by
  have:=Ch.count h.2.2;have:=h.2.1;rw[ap];omega
theorem AZ {st:SortSt}{Q:Unit->SortSt->Prop}(h:So key a₀ κ 0 st)(hc:Call3 prog w A s key κ a₀)(q:∀eM,(arrOf eM).Perm a₀->Nd key (arrOf eM).toList->failedOf eM=none->Q () eM):wpS (model prog w) A E s sortRuns' Q st:=by
 rw[sortRuns'_eq];refine wpS_bind (wpS_get ?_);have sz:=h.sb.size;dsimp only;rw[sz];generalize minRun' a₀.size a₀.size 0=mr;refine wpS_bind (wpS_mono (wpS_forRange (I:=λi c eM=>∃lo,c=(none,lo)/\So key a₀ κ lo eM/\(i<=lo\/a₀.size<=lo)) (Q:=λc eM=>∃lo,c=(none,lo)/\So key a₀ κ lo eM/\a₀.size<=lo) ?_ ?_ ⟨_,rfl,h,.inl (am _)⟩) ?_)
 .rintro i _ st a1 a2 ⟨lo,rfl,h,Qs⟩
  have:=h.sb.le;dsimp only;refine d4 (λe=>wpS_pure ⟨_,rfl,h,e⟩) λe=>wpS_bind (AY h hc (!1) (!1) λm st h m1 m2 hs=>?_);dsimp only
  have push:∀(n:Nat) (st:SortSt),1<=n->lo+n<=a₀.size->So key a₀ κ lo st->Sg key (arrOf st) lo (lo+n)->wpS (model prog w) A E s (do
    modify λs=>setPending s ((pendingOf s).push (lo,n,0))
    pure (ForInStep.yield ((none,lo+n):Option Unit × Nat))) (λr eM =>
   match r with
   | ForInStep.done c'=>∃lo,c'=(none,lo)/\So key a₀ κ lo eM/\a₀.size<=lo
   | ForInStep.yield c'=>∃lo,c'=(none,lo)/\So key a₀ κ lo eM/\(i+1<=lo\/a₀.size<=lo)) st:=λn st n1 n2 h hs=>by
   refine wpS_bind (wpS_modify (wpS_pure ⟨_,rfl,⟨⟨h.sb.perm,h.sb.kind,h.sb.failed,?_,n2⟩,λr hr=>?_⟩,!1⟩))
   .show Ch 0 ((pendingOf st).push (lo,n,0)).toList _
    rw[dh];exact h.sb.ch.push n1
   .have hr:r∈((pendingOf st).push (lo,n,0)).toList:=hr
    rw[dh] at hr;rcases aB.mp hr with hr | hr
    .exact h.seg r hr
    .rw[aw.mp hr];exact hs
  refine d4 (λe1=>wpS_bind (wpS_lift (wpAny_rule ⟨rfl,wpS_bind (wH h hc (!1) m1 (!1) hs λst h hs=>?_)⟩))) λ_=>?_
  all_goals
   try rw[if_neg (!2)]
   refine wpS_bind (wpS_get ?_)
   cases (pendingOf st).back? with
   | none=>exact push _ _ (!1) (!1) h hs
   | some x =>
    dsimp only;refine wpS_bind (wpS_mono (JY (λc eM=>c=(none,())/\So key a₀ κ lo eM/\Sg key (arrOf eM) lo (lo+_)) ?_ ⟨rfl,h,hs⟩) ?_)
    .rintro i _ st ⟨rfl,h,hs⟩
     refine wpS_bind (wpS_get ?_);by_cases e3:(pendingOf st).size > 1
     .rw[if_pos e3,getElem?_pos (pendingOf st) _ (!1)]
      dsimp only;refine d4 (λ_=>wpS_pure ⟨rfl,h,hs⟩) λ_=>wpS_bind (vd h hc (!1) λst h _ hk=>wpS_pure ⟨rfl,h,hs.AX λi i1 _=>hk i i1⟩)
     .rw[if_neg e3]
      exact wpS_pure ⟨rfl,h,hs⟩
    .rintro _ st ⟨rfl,h,hs⟩
     dsimp only;refine wpS_bind (wpS_modify (push _ _ (!1) (!1) ⟨⟨h.sb.perm,h.sb.kind,h.sb.failed,?_,h.sb.le⟩,λr hr=>?_⟩ hs))
     .show Ch 0 (Array.modify _ _ _).toList _
      rw[Array.toList_modify];exact h.sb.ch.mod _
     .have hr:r∈(Array.modify _ _ _).toList:=hr
      rw[Array.toList_modify] at hr;obtain⟨j,hj,rfl⟩:=ce hr;rw[List.length_modify] at hj;rw[List.getElem_modify];split
      .exact h.seg (pendingOf st).toList[j] (bV hj)
      .exact h.seg _ (bV hj)
 .rintro _ st ⟨lo,rfl,h,Qs⟩
  exact⟨_,rfl,h,!1⟩
 .rintro _ st ⟨lo,rfl,h,Qs⟩
  have e0:lo=a₀.size:=by have:=h.sb.le;omega
  subst e0;dsimp only;refine wpS_bind (wpS_mono (wpS_forRange (I:=λi c eM=>c=(none,())/\So key a₀ κ a₀.size eM/\((pendingOf eM).size<=1\/(pendingOf eM).size+i<=a₀.size)) (Q:=λc eM=>c=(none,())/\So key a₀ κ a₀.size eM/\(pendingOf eM).size<=1) ?_ ?_ ⟨rfl,h,.inr (by have:=Ch.count h.sb.ch;rw[aT] at this;omega)⟩) ?_)
  .rintro i _ st a1 a2 ⟨rfl,h,hp⟩
   refine wpS_bind (wpS_get (d4 (λe=>wpS_pure ⟨rfl,h,e⟩) λe=>wpS_bind (vd h hc ?_ λst h hsz _=>wpS_pure ⟨rfl,h,.inr (!1)⟩)));have:∀(c:Prop) [Decidable c] (x:Nat),(if c then x - 1 else x)<=x:=λc _ x=>by split<;>omega
   exact cT (Nat.succ_le_succ (this _ _)) (!1)
  .rintro _ st ⟨rfl,h,hp⟩
   exact⟨rfl,h,!1⟩
  .rintro _ st ⟨rfl,h,hp⟩
   refine wpS_pure (q _ h.sb.perm ?_ h.sb.failed);have BW:=h.sb.ch;have WX:=h.seg;have hsz:=h.sb.size;have hl:(pendingOf st).toList.length<=1:=by rw[aT];exact hp
   generalize (pendingOf st).toList=l at BW WX hl;refine R1 λi j i1 i2=>?_
   match l,hl with
   | [],_ =>
    have:0=a₀.size:=BW;omega
   | [(s,n,p)],_ =>
    obtain⟨rfl,_,h3⟩:=BW;have h3:0+n=a₀.size:=h3;exact WX (0,n,p) (aw.mpr rfl) i j (bL _) i1 (by show j<0+n;omega)
end
open PySem.W (KatLex kat_cons kat_yes kat_no kat_one kat_lt kas_item)
noncomputable def jU:List Int->List Int->Bool
 | [],[]=>false
 | [],_::_=>true
 | _::_,[]=>false
 | a::r,b::t=>if a=b then jU r t else decide (a<b)
theorem C3 (a b:Int):ad.eqv (.int a) (.int b)=decide (a=b):=by
 by_cases h:a=b
 .subst h;simp[ad.eqv]
 .simp[ad.eqv,h]
theorem wI:∀xs ys:List Int,qh false (xs.map ad.int) (ys.map ad.int)=some (jU xs ys)
 | [],[]=>rfl
 | [],_::_=>rfl
 | _::_,[]=>rfl
 | x::xs,y::ys=>by
  rw[aj,aj,qh,jU,C3,wI xs ys];by_cases h:x=y
  .rw[if_pos h,if_pos (decide_eq_true h)]
  .rw[if_neg h,if_neg (by simpa using h)]
   rfl
theorem wJ:∀a:List Int,jU a a=false
 | []=>rfl
 | x::a=>by rw[jU,if_pos rfl,wJ a]
theorem wK:∀{a b c:List Int},jU a b=true->jU b c=true->jU a c=true
 | [],[],_,h,_=>by cases h
 | [],_::_,[],_,h=>by cases h
 | [],_::_,_::_,_,_=>rfl
 | _::_,[],_,h,_=>by cases h
 | _::_,_::_,[],_,h=>by cases h
 | x::a,y::b,z::c,h,k=>by
  rw[jU] at h k ⊢;by_cases h1:x=y
  .subst h1
   rw[if_pos rfl] at h;by_cases h2:x=z
   .rw[if_pos h2] at k ⊢
    exact wK h k
   .rw[if_neg h2] at k ⊢
    exact k
  .rw[if_neg h1,decide_eq_true_eq] at h
   by_cases h2:y=z
   .subst h2
    rw[if_neg h1];exact decide_eq_true h
   .rw[if_neg h2,decide_eq_true_eq] at k
    rw[if_neg (!1)];exact decide_eq_true (!1)
theorem wL:∀{a b:List Int},jU a b=false->jU b a=false->a=b
 | [],[],_,_=>rfl
 | [],_::_,h,_=>by cases h
 | _::_,[],_,h=>by cases h
 | x::a,y::b,h,k=>by
  rw[jU] at h k;by_cases h1:x=y
  .subst h1
   rw[if_pos rfl] at h k;rw[wL h k]
  .rw[if_neg h1,decide_eq_false_iff_not] at h
   rw[if_neg (λz=>h1 z.symm),decide_eq_false_iff_not] at k;omega
theorem OI (h:jU a b=true):jU b a=false:=by
 cases e:jU b a with
 | false=>rfl
 | true =>
  have:=wK h e;rw[wJ] at this;cases this
theorem Hd {a b c:List Int}(h:jU b a=false)(k:jU c b=false):jU c a=false:=by
 cases e:jU c a with
 | false=>rfl
 | true =>
  cases e2:jU a b with
  | true=>rw[wK e e2] at k;cases k
  | false =>
   have:=wL e2 h;subst this;rw[e] at k;cases k
noncomputable def OJ (R:List (List Int))(a:List Int):Int:=((R.countP λt=>jU t a:Nat):Int)
theorem He:∀{l:List (List Int)} {a:List Int},(∀x∈l,p x=true->q x=true)->a∈l->q a=true->p a=false->l.countP p<l.countP q
 | [],a,_,h,_,_=>by cases h
 | x::l,a,h,ha,hq,hp=>by
  have tu:l.countP p<=l.countP q:=List.countP_mono_left λy hy=>h y (ao _ hy);rw[cQ,cQ];rcases au.mp ha with rfl | ha
  .simp[hq,hp]
   omega
  .have ih:=He (λy hy=>h y (ao _ hy)) ha hq hp
   have hx:=h x (ar ..)
   cases e1:p x with
   | true=>rw[hx e1];simp;omega
   | false =>
    cases q x<;>simp<;>omega
theorem LJ (ha:a∈R):decide (OJ R a<OJ R b)=jU a b:=by
 cases e:jU a b with
 | true =>
  refine decide_eq_true ?_;unfold OJ;exact Int.ofNat_lt.mpr (He (λx _ hx=>wK hx e) ha e (wJ a))
 | false =>
  refine decide_eq_false ?_;unfold OJ
  have:R.countP (λt=>jU t b)<=R.countP (λt=>jU t a):=List.countP_mono_left λx _ hx=>by
   cases e2:jU x a with
   | true=>rfl
   | false =>
    have:=Hd e e2;rw[hx] at this;cases this
  omega
noncomputable def gx (rs:List (List Int)):List (List Int):=rs.mergeSort λa b=>!jU b a
noncomputable abbrev Ka (rs:List (List Int)):Prop:=rs.Pairwise λa b=>jU b a=false
theorem f6 (rs:List (List Int)):(gx rs).Perm rs:=List.mergeSort_perm _ _
theorem yU (rs:List (List Int)):Ka (gx rs):=by
 have:=List.pairwise_mergeSort (le:=λa b=>!jU b a) (λa b c h k=>by
  rw[Bool.not_eq_true'] at h k ⊢
  exact Hd h k) (λa b=>by
  cases h:jU b a with
  | false=>simp
  | true=>simp[OI h]) rs
 exact this.imp λh=>by simpa using h
theorem C4:∀{a b:List (List Int)},a.Perm b->Ka a->Ka b->a=b
 | [],b,h,_,_=>by rw[List.nil_perm.mp h]
 | x::a,[],h,_,_=>by have:=h.length_eq;simp at this
 | x::a,y::b,h,h1,h2=>by
  obtain⟨a1,a2⟩:=b8.mp h1;obtain⟨b1,b2⟩:=b8.mp h2
  have xp:x=y:=by
   have hx:x∈y::b:=h.mem_iff.mp (ar ..);have hy:y∈x::a:=h.mem_iff.mpr (ar ..);rcases au.mp hx with e | hx
   .exact e
   .rcases au.mp hy with e | hy
    .exact e.symm
    .exact wL (b1 x hx |> λz=>z) (a1 y hy) |>.symm ▸ rfl
  subst xp;rw[C4 (h.cons_inv) a2 b2]
theorem vf (h:a.Perm b)(h1:Ka a):a=gx b:=C4 (h.trans (f6 b).symm) h1 (yU b)
theorem sF (h:a.Perm b):gx a=gx b:=vf ((f6 a).trans h) (yU a)
section
variable {prog:aP}{w:World}{A:Around}{E:ag->aq->Prop}{s:aq}
noncomputable def qx (h:Heap)(v:ag)(row:List Int):Prop:=∃(a:Addr) (o:Obj) (xs:Array ag) (n:Nat) (as:List Addr),v=.ref a/\h.get? a=some o/\o.cls=.type "tuple" /\ o.data=.seq xs n/\ReadsAll h xs.toList (row.map .int) as
theorem qx.tup (t:qx h v row):OD h v:=by
 obtain⟨a,o,xs,n,as,h⟩:=t;exact⟨a,o,xs,n,row,as,h⟩
noncomputable def vInt:ag->Int | .int i _=>i | _=>0
noncomputable def kz (h:Heap)(v:ag):List Int:=match v with
 | .ref a=>(match h.get? a with | some o=>(match o.data with | .seq xs _=>xs.toList.map vInt | _=>[]) | none=>[])
 | _=>[]
theorem vg:∀{us:List ag} {row:List Int} {as:List Addr},ReadsAll h us (row.map .int) as->us.map vInt=row
 | [],[],_,_=>rfl
 | [],_::_,_,r=>by cases r
 | u::us,[],_,r=>by cases r
 | u::us,i::row,_,r=>by
  rw[aj] at r
  cases r with
  | cons r rs =>
   cases r;rw[aj,vg rs];rfl
theorem qx.row {h:Heap}{v:ag}{row:List Int}(t:qx h v row):kz h v=row:=by
 obtain⟨a,o,xs,n,as,rfl,h1,h2,h3,h4⟩:=t;unfold kz;simp only[h1,h3];exact vg h4
theorem EB (hu:A.units<cLine):∀(us vs:List ag) (r t:List Int) (as bs:List Addr) (i:Nat),ReadsAll s.heap us (r.map .int) as->ReadsAll s.heap vs (t.map .int) bs->(fin=decide (r.length<t.length)\/True)->(∀b,(b=if r.take (min r.length t.length)=t.take (min r.length t.length) then fin else jU r t)->Q b s)->KatLex prog w A true fin Q (us.zip vs) i s:=by
 intro us vs r t as bs i h1 h2 _ hq
 induction us generalizing vs r t as bs i with
 | nil =>
  cases r with
  | nil=>exact hq _ (!4)
  | cons _ _=>cases h1
 | cons u us ih =>
  cases r with
  | nil=>cases h1
  | cons a r =>
   cases vs with
   | nil =>
    cases t with
    | nil=>exact hq _ (!4)
    | cons _ _=>cases h2
   | cons v vs =>
    cases t with
    | nil=>cases h2
    | cons b t =>
     rw[aj] at h1 h2
     cases h1 with
     | cons g1 h1 =>
      cases h2 with
      | cons g2 h2 =>
       cases g1 with
       | int _ t1 =>
        cases g2 with
        | int _ t2 =>
         rw[List.zip_cons_cons];have he:=SeqAt.eqAt_reads (.int a) (.int b) A s _ _ [] [] (.int a t1) (.int b t2) rfl rfl (by simpa [ad.depth] using hu);rw[C3] at he;refine kat_cons (he prog w _ _ ?_);by_cases pZ:a=b
         .subst pZ
          rw[decide_eq_true rfl];refine kat_yes (ih vs r t _ _ (i+1) h1 h2 (.inr trivial) λb hb=>hq b ?_);rw[hb,jU,if_pos rfl];have:min (a::r).length (a::t).length=min r.length t.length+1:=by simp only[ap];omega
          rw[this,cf,cf];simp
         .rw[decide_eq_false pZ]
          have zC:Q (decide (a<b)) s:=hq _ (by
           have:min (a::r).length (b::t).length=min r.length t.length+1:=by simp only[ap];omega
           rw[this,cf,cf,if_neg (by simp[pZ]),jU,if_neg pZ])
          refine kat_no ?_
          cases i with
          | zero=>exact oneLt_int zC
          | succ i=>exact kat_one _ _ (CY a b t1 t2 A s prog w _ _ zC)
theorem C5:∀r t:List Int,(if r.take (min r.length t.length)=t.take (min r.length t.length) then decide (r.length<t.length) else jU r t)=jU r t
 | [],[]=>rfl
 | [],_::_=>by simp[jU]
 | _::_,[]=>by simp[jU]
 | a::r,b::t=>by
  have ih:=C5 r t;have:min (a::r).length (b::t).length=min r.length t.length+1:=by simp only[ap];omega
  rw[this,cf,cf,jU];by_cases h:a=b
  .subst h
   rw[if_pos rfl];simpa using ih
  .rw[if_neg (by simp[h])]
theorem A0 (hx:qx s.heap x r)(hy:qx s.heap y t)(hu:A.units+1<cLine)(hq:Q (jU r t) s):az (model prog w) A (keyLt' (tuples' true) x y) Q E s:=by
 obtain⟨a,o,xs,n,as,rfl,h1,h2,h3,h4⟩:=hx;obtain⟨b,o',ys,m,bs,rfl,k1,k2,k3,k4⟩:=hy;have n1:xs.size=r.length:=by have:=SeqAt.ReadsAll.length _ _ _ h4;simpa using this
 have n2:ys.size=t.length:=by have:=SeqAt.ReadsAll.length _ _ _ k4;simpa using this
 refine kat_lt h1 h3 k1 k3 (EB (!1) xs.toList ys.toList r t as bs 0 h4 k4 (.inr trivial) λb hb=>?_);rw[hb,n1,n2,C5];exact hq
theorem yV (hx:qx s.heap x r)(hy:qx s.heap y t)(hu:A.units+1<cLine)(hq:Q (jU r t) s):az (model prog w) A (keyLt' general' x y) Q E s:=by
 obtain⟨a,o,xs,n,as,rfl,h1,h2,h3,h4⟩:=hx;obtain⟨b,o',ys,m,bs,rfl,k1,k2,k3,k4⟩:=hy;have e:∀x y,keyLt' general' x y=oneLt' false x y:=λ_ _=>rfl;rw[e];exact kat_one _ _ (RS 1 (.tuple (r.map .int)) (.tuple (t.map .int)) (jU r t) A s _ _ as bs (by rw[ad.depth,pL];exact am _) (.tuple h1 h2 h3 h4) (.tuple k1 k2 k3 k4) (by rw[ad.canLay0];exact kx r) (by rw[ad.canLay0];exact kx t) hu (by rw[pK];exact wI r t) prog w _ _ hq)
theorem Kb (hx:qx s.heap x row)(hy:qx s.heap y oR)(hu:A.units+2<cLine)(hq:Q (jU row oR) s):az (model prog w) A (keyLt' oneType' x y) Q E s:=by
 obtain⟨a,⟨c1,d1,data,s1⟩,xs,n,as,rfl,h1,h2,h3,h4⟩:=hx;obtain⟨b,⟨c2,d2,data2,s2⟩,ys,m,bs,rfl,k1,k2,k3,k4⟩:=hy;simp only at h2 h3 k2 k3;subst h2 h3 k2 k3;rw[keyLt'_oneType,oneLt'_eq];simp only[if_true];refine aa (wpAny_cRoomFor (!1) ?_);have n1:xs.size=row.length:=by have:=SeqAt.ReadsAll.length _ _ _ h4;simpa using this
 have n2:ys.size=oR.length:=by have:=SeqAt.ReadsAll.length _ _ _ k4;simpa using this
 have he:∀j (j1:j<xs.size) (j2:j<ys.size),SeqAt.EqAt A.in1 s xs[j] ys[j] (SeqAt.pairEq (row.map ad.int) (oR.map ad.int) j):=λj j1 j2=>by
  have NV:A.in1.units+min (ad.depthAll (row.map ad.int)) (ad.depthAll (oR.map ad.int))<cLine:=by rw[pL];show A.units+1+_<_;omega
  have q:=SeqAt.eqAt_readsAll (row.map ad.int) (oR.map ad.int) A.in1 s xs.toList ys.toList _ _ h4 k4 (kx row) (kx oR) NV j (by simpa using j1) (by simpa using j2);rw[bE,bE] at q;exact q
 have hf:∀j (j1:j<xs.size) (j2:j<ys.size),(∀i<j,SeqAt.pairEq (row.map ad.int) (oR.map ad.int) i=true)->SeqAt.pairEq (row.map ad.int) (oR.map ad.int) j=false->wB .Lt A.in1 s xs[j] ys[j] ((pK false ((row.map ad.int).getD j .none) ((oR.map ad.int).getD j .none)).getD false):=λj j1 j2 _ _=>by
  obtain⟨WR,r1⟩:=ku h4 (j:=j) (by simpa using j1);obtain⟨WS,r2⟩:=ku k4 (j:=j) (by simpa using j2);have e1:(row.map ad.int).getD j .none=.int (row.getD j 0):=by simp[aE,show j<row.length by omega]
  have e2:(oR.map ad.int).getD j .none=.int (oR.getD j 0):=by simp[aE,show j<oR.length by omega]
  rw[e1,bE] at r1;rw[e2,bE] at r2;rw[e1,e2];generalize xs[j]=X1 at r1 ⊢;generalize ys[j]=Y1 at r2 ⊢;cases r1;cases r2;exact CY _ _ _ _ _ _
 refine aa (wpAny_callSpecialIfBound?_slot ⟨_,h1,rfl⟩ F.slot_tuple_lt (call_meets F.slot_tuple_lt ⟨_,h1,rfl⟩ F.entry_tuple_lt (F.args_tuple_lt_2 _ _) (GX a b xs ys n m d1 d2 s1 s2 _ _) ⟨h1,k1,he,hf,?_⟩));have:=lex_lt (row.map ad.int) (oR.map ad.int) _ (wI row oR);rw[ak,ak,<- n1,<- n2] at this;rw[this];exact wpAny_truthy_bool hq
theorem A1 {vs:List ag}(h:∀v∈vs,qx s.heap v (kz s.heap v))(hu:A.units+2<cLine):wC prog w A vs s (λp=>Ka (p.toList.map λi=>kz s.heap (vs.getD i ag.none))):=λh2=>by
 obtain⟨κ,hk,kk⟩:=Eu (prog:=prog) (w:=w) (A:=A) (λv hv=>(h v hv).tup) h2;have hz:(vs.toArray.zip vs.toArray).size=vs.length:=by simp
 refine⟨κ,kk,λE=>AZ (key:=λx=>OJ (vs.map (kz s.heap)) (kz s.heap x.1)) (a₀:=vs.toArray.zip vs.toArray) (κ:=κ) (Q:=λ_ eM=>∃p:Array Nat,RW vs.length p/\Ka (p.toList.map λi=>kz s.heap (vs.getD i ag.none))/\arrOf eM=p.map (kas_item (vs.toArray.zip vs.toArray))/\failedOf eM=none) ⟨⟨Array.Perm.refl _,rfl,rfl,rfl,bL _⟩,λr hr=>by cases hr⟩ (λx hx y hy=>?_) λeM hp hn hf=>?_⟩
 .obtain⟨i,hi,rfl⟩:=Array.getElem_of_mem hx
  obtain⟨j,hj,rfl⟩:=Array.getElem_of_mem hy;intro C hC;have Ts:vs[i]'(!1)∈vs:=bV _;have VE:vs[j]'(!1)∈vs:=bV _;have e1:((vs.toArray.zip vs.toArray)[i]).1=vs[i]'(!1):=by simp
  have e2:((vs.toArray.zip vs.toArray)[j]).1=vs[j]'(!1):=by simp
  have e:decide (OJ (vs.map (kz s.heap)) (kz s.heap ((vs.toArray.zip vs.toArray)[i]).1)<OJ (vs.map (kz s.heap)) (kz s.heap ((vs.toArray.zip vs.toArray)[j]).1))=jU (kz s.heap (vs[i]'(!1))) (kz s.heap (vs[j]'(!1))):=by
   simp only[e1,e2];exact LJ (List.mem_map_of_mem Ts)
  replace hC:C (jU (kz s.heap (vs[i]'(!1))) (kz s.heap (vs[j]'(!1)))) s:=e ▸ hC;rw[e1,e2];rcases hk with rfl | rfl | rfl
  .exact A0 (h _ Ts) (h _ VE) (!1) hC
  .exact yV (h _ Ts) (h _ VE) (!1) hC
  .exact Kb (h _ Ts) (h _ VE) (!1) hC
 .obtain⟨p,h1,h2⟩:=J1 ((ag.none,ag.none):Keyed) (cm.mp hp)
  have iQ:∀i∈p,i<vs.length:=λi hi=>by have:=h1.mem_iff.mp hi;simpa [hz] using this
  refine⟨p.toArray,?_,?_,?_,hf⟩
  rotate_left 2
  .refine cP.mp ?_
   rw[h2];simp[kas_item]
  .rw[RW,cm]
   simpa [hz] using h1
  .rw[h2] at hn
   rw[List.toList_toArray];refine cc.mpr ((cc.mp hn).imp_of_mem ?_);intro i j hi hj tu;have hi:=iQ i hi;have hj:=iQ j hj;have e:∀i,i<vs.length->((vs.toArray.zip vs.toArray).toList.getD i ((ag.none,ag.none):Keyed)).1=vs.getD i ag.none:=λi hi=>by simp[aE,hi]
   have hm:kz s.heap (vs.getD j ag.none)∈vs.map (kz s.heap):=List.mem_map_of_mem (by rw[aE,aV hj];exact bV _);have:=LJ (R:=vs.map (kz s.heap)) (b:=kz s.heap (vs.getD i ag.none)) hm;rw[<- this];refine decide_eq_false ?_;simp only[e i hi,e j hj] at tu;omega
end
section
theorem A2 (hM:N<=1000000)(hu:X.A.units+64<cLine):gF X (.builtin "sorted") (λxs H Q=>∃(p:Addr) (ys:List V) (S:List Addr) (rs:List (List Int)),xs=[.ref p]/\gK X.K H p ys/\dS S H (rs.map kS) ys/\rs.length<N/\∀(l:Addr) (VF:List V),dS S H ((gx rs).map kS) VF->H l=none->Q (.ref l) (eZ H l (.lst VF))):=by
 intro pins s σ H xs us Q I r h;obtain⟨p,ys,S,rs,rfl,hp,hr,HX,q⟩:=h;obtain⟨u,rfl,ru⟩:=vals1 r;cases ru;obtain⟨its,rv,ht,hz⟩:=I.list hp;have e8:its.length=rs.length:=by rw[<- rv.length,hr.length,ak]
 refine AR (G:=λp=>Ka (p.toList.map λi=>rs.getD i [])) (λh2=>?_) ht.isList (!1) (λs' held A' hA=>?_) λpm Q5 OK=>?_
 .rw[e8] at h2 ⊢
  rw[List.toList_toArray]
  match rs,h2 with
  | [],_=>exact List.Pairwise.nil
  | [a],_=>simp[Ka]
 .have Hf:∀j (hj:j<its.length),qx s'.heap its[j] (rs.getD j []):=λj hj=>by
   obtain⟨as,ra⟩:=dS.reads (I.kept (h':=s'.heap) (t':=s.toks) held).hok (G3 rs) hr rv;obtain⟨bs,rj⟩:=ku ra hj;have e:(rs.map kS).getD j .none=kS (rs.getD j []):=by simp[aE,show j<rs.length by omega]
   rw[e,kS] at rj;generalize its[j]=z at rj ⊢
   cases rj with
   | tuple a1 a2 a3 a4=>exact⟨_,_,_,_,_,rfl,a1,a2,a3,a4⟩
  have:=A1 (prog:=X.prog) (w:=X.w) (A:=A') (s:=s') (vs:=its) (λv hv=>by
   obtain⟨j,hj,rfl⟩:=ce hv;rw[(Hf j hj).row];exact Hf j hj) (!1)
  intro h2;obtain⟨κ,kk,kr⟩:=this h2;refine⟨κ,kk,λE=>bF (kr E) ?_ λ_ _ e=>e⟩;rintro r s2 ⟨rfl,p,hp,OK,rest⟩;refine⟨rfl,p,hp,?_,rest⟩;have mT:p.toList.Perm (List.range its.length):=by have:=cm.mp hp;simpa using this
  show Ka (p.toList.map λi=>rs.getD i [])
  rw[show (p.toList.map λi=>rs.getD i [])=p.toList.map λi=>kz s2.heap (its.getD i ag.none) from cA λi hi=>by
   have hi:i<its.length:=by simpa using mT.mem_iff.mp hi
   rw[aE (l:=its),aV hi,Option.getD_some,(Hf i hi).row]]
  exact OK
 .have mT:pm.toList.Perm (List.range rs.length):=by have:=cm.mp Q5;simpa [e8] using this
  have iQ:∀j∈pm.toList,j<rs.length:=λj hj=>by simpa using mT.mem_iff.mp hj
  have hv:eh (pm.toList.map λj=>ys.getD j .gT) (pm.toList.map λj=>its.getD j ag.none):=rv.pick _ λj hj=>by rw[e8];exact iQ j hj
  have WY:=hr.pick _ iQ
  have VG:(pm.toList.map λj=>rs.getD j []).Perm rs:=by
   have:=mT.map λj=>rs.getD j [];rwa [show (List.range rs.length).map (λj=>rs.getD j [])=rs from dq (!4) λi h1 h2=>by simp[aE,h2]] at this
  rw[vf VG OK] at WY;have hsz:(pm.toList.map λj=>ys.getD j V.gT).length<=ax:=by rw[ak,mT.length_eq,bS,show ax=16777216 by decide];omega
  have kp:∀b o,s.heap.get? b=some o->(sortedAll s.heap its (cO (pm.toList.map λj=>its.getD j ag.none))).get? b=some o:=λb o e=>sortedAll_old e;obtain⟨n,nw⟩:=sortedAll_at s.heap its (cO (pm.toList.map λj=>its.getD j ag.none));exact⟨.ref (s.heap.objs.size+1),_,I.laid (t':=s.toks) (o:=.lst (pm.toList.map λj=>ys.getD j V.gT)) kp (cb _) ⟨hsz,_,n,hv,by simpa using nw⟩,rfl,q _ _ WY (I.hok.fresh (cb _))⟩
end
noncomputable def sG (u:UX):fm->Int->(List ad->Int->Prop)->Prop:=λenv n Q=>u env n λd n1=>match d with | .list ds=>pf (pM ds) λrs=>rs.length<4000/\Q ((gx rs).map kS) n1 | _=>False
section
theorem wM (hm:X.mg "sorted" = none)(hu:X.A.units+64<cLine)(h:KL X M e u)(hg:Gl X "sorted" := by rfl)(hs:e9 e=true:=by rfl):KN X M (.Call (.Name "sorted" p) [e] [] pos) (sG u) :=
 .of (fO (A2 (N:=4000) (!2) hu) hg hm (!3) (gB h.run eY hs)) λσ H R env pn S n Q ok hu k=>⟨env,pn,S,n,_,ok,hu,λv H1 d n1 r1 x1 g1 _ q=>by
  cases d with
  | list es =>
   obtain⟨rs,ei,hl,q⟩:=q;have e2:=vc ei;subst e2;obtain⟨a,xs,rfl,sq,_,rr⟩:=r1.Pa (K:=X.K);refine⟨a,xs,S,rs,rfl,sq,rr,hl,λl VF Hg hl=>?_⟩;exact k l _ _ _ n1 (AI ok x1 g1 hl) dP ((Hg.fresh hl).ext (.new hl)) (x1.trans (.new hl)) (M.iA g1 (.new (S:=[]) hl) (!4)) q
  | _=>exact False.elim q⟩
end
noncomputable abbrev iZ:=List (List Int × ad)
noncomputable def wN (t:Bool)(d:ad):Option (List Int):=match t,d with | false,.int i=>some [i] | true,.tuple ds=>iG ds | _,_=>none
noncomputable def eV (kvs:iZ)(k:List Int):Option ad:=(kvs.find? λp=>decide (p.1=k)).map (·.2)
noncomputable def iV (kvs:iZ)(k:List Int)(d:ad):iZ:=if (kvs.any λp=>decide (p.1=k))=true then kvs.map (λp=>if p.1=k then (p.1,d) else p) else kvs++[(k,d)]
section
variable {κ:Type}[DecidableEq κ]{S:List Addr}{H:Hp}{f:List Int->κ}
noncomputable def ny (f:List Int->κ):iZ->List V->List (κ × V)
 | p::kvs,x::xs=>(f p.1,x)::ny f kvs xs
 | _,_=>[]
theorem wO (f:List Int->κ):∀{kvs:iZ} {xs:List V},dS S H (kvs.map (·.2)) xs->(ny f kvs xs).length=kvs.length
 | [],_,r=>by cases r.fB;rfl
 | p::kvs,_,r=>by
  obtain⟨x,t,rfl,r1,r2⟩:=r.of_cons;rw[ny,ap,wO f r2,ap]
theorem wQ:∀{kvs:iZ} {xs:List V},dS S H (kvs.map (·.2)) xs->(∀p∈kvs,f p.1=f k->p.1=k)->(eV kvs k=none/\ie (ny f kvs xs) (f k)=none)\/∃d v,eV kvs k=some d/\ie (ny f kvs xs) (f k)=some v/\eE S H d v
 | [],_,r,_=>by cases r.fB;exact .inl ⟨rfl,rfl⟩
 | p::kvs,_,r,inj=>by
  obtain⟨x,t,rfl,r1,r2⟩:=r.of_cons;by_cases e:p.1=k
  .refine .inr ⟨p.2,x,?_,?_,r1⟩
   .unfold eV;rw[bP,decide_eq_true e];rfl
   .rw[ny,gg (by rw[e])]
  .have e2:¬ f p.1=f k:=λz=>e (inj p (ar ..) z)
   have ih:=wQ r2 λq hq=>inj q (ao _ hq);have h1:eV (p::kvs) k=eV kvs k:=by unfold eV;rw[bP,decide_eq_false e]
   rw[h1,ny,gi (p:=(f p.1,x)) e2];exact ih
theorem C6:∀{kvs:iZ} {xs:List V},dS S H (kvs.map (·.2)) xs->(∀p∈kvs,f p.1=f k->p.1=k)->((ny f kvs xs).any λkv=>decide (kv.1=f k))=kvs.any λp=>decide (p.1=k)
 | [],_,r,_=>by cases r.fB;rfl
 | p::kvs,_,r,inj=>by
  obtain⟨x,t,rfl,r1,r2⟩:=r.of_cons;rw[ny,ck,ck,C6 r2 λq hq=>inj q (ao _ hq)];congr 1;rw[decide_eq_decide];exact⟨inj p (ar ..),λz=>by rw[z]⟩
theorem C7 (rv:eE S H d v):∀{kvs:iZ} {xs:List V},dS S H (kvs.map (·.2)) xs->(∀p∈kvs,f p.1=f k->p.1=k) ->
  ∃ys,(ny f kvs xs).map (λkv=>if kv.1=f k then (kv.1,v) else kv)=ny f (kvs.map λp=>if p.1=k then (p.1,d) else p) ys/\dS S H ((kvs.map λp=>if p.1=k then (p.1,d) else p).map (·.2)) ys
 | [],_,r,_=>⟨[],by cases r.fB;rfl,.nil⟩
 | p::kvs,_,r,inj=>by
  obtain⟨x,t,rfl,r1,r2⟩:=r.of_cons;obtain⟨ys,h1,h2⟩:=C7 rv r2 λq hq=>inj q (ao _ hq);by_cases e:p.1=k
  .refine⟨v::ys,?_,?_⟩
   .rw[ny,aj,aj,h1,if_pos e,ny,if_pos (by rw[e])]
   .rw[aj,aj,if_pos e]
    exact .cons rv h2
  .have e2:¬ f p.1=f k:=λz=>e (inj p (ar ..) z)
   refine⟨x::ys,?_,?_⟩
   .rw[ny,aj,aj,h1,if_neg e,ny,if_neg e2]
   .rw[aj,aj,if_neg e]
    exact .cons r1 h2
theorem yW:∀{kvs:iZ} {xs:List V} (d:ad),dS S H (kvs.map (·.2)) xs->ny f kvs xs++[(f k,v)]=ny f (kvs++[(k,d)]) (xs++[v])
 | [],_,d,r=>by cases r.fB;rfl
 | p::kvs,_,d,r=>by
  obtain⟨x,t,rfl,r1,r2⟩:=r.of_cons;rw[ny,bn,yW d r2];rfl
theorem C8 (rv:eE S H d v)(r:dS S H (kvs.map (·.2)) xs)(inj:∀p∈kvs,f p.1=f k->p.1=k) :
  ∃ys,kK (ny f kvs xs) (f k) v=ny f (iV kvs k d) ys/\dS S H ((iV kvs k d).map (·.2)) ys:=by
 unfold kK iV;rw[C6 r inj];split
 .exact C7 rv r inj
 .refine⟨xs++[v],yW d r,?_⟩
  rw[a8];exact r.append (.cons rv .nil)
end
theorem A3:∀(kvs:iZ) (xs:List V),E4 kvs xs=ny (λk=>(Sum.inl (k.headD 0):Key)) kvs xs
 | [],xs=>by cases xs<;>rfl
 | p::kvs,[]=>rfl
 | p::kvs,x::xs=>by rw[E4,ny,A3 kvs xs]
theorem A4:∀(kvs:iZ) (xs:List V),HV kvs xs=ny (λk=>(k.map Sum.inl:List Key)) kvs xs
 | [],xs=>by cases xs<;>rfl
 | p::kvs,[]=>rfl
 | p::kvs,x::xs=>by rw[HV,ny,A4 kvs xs]
theorem C9:∀{a b:List Int},(a.map Sum.inl:List Key)=b.map Sum.inl->a=b
 | [],[],_=>rfl
 | [],_::_,h=>by cases h
 | _::_,[],h=>by cases h
 | x::a,y::b,h=>by
  rw[aj,aj] at h;injection h with h1 h2;injection h1 with h1;rw[h1,C9 h2]
theorem one_inj {a b:List Int}(ha:a.length=1)(hb:b.length=1)(h:(Sum.inl (a.headD 0):Key)=Sum.inl (b.headD 0)):a=b:=by
 match a,b,ha,hb with
 | [x],[y],_,_=>injection h with h;simpa using h
theorem mG {gs S:List Addr}{H:Hp}{t:Bool}{d:ad}{v:V}{k:List Int}(r:fC gs S H d v)(e:wN t d=some k):(t=false->k.length=1) /\
  (∀(a:Addr) (kvs:iZ) (xs:List V),H a=some (xm t kvs xs)->dS S H (kvs.map (·.2)) xs->(t=false->∀p∈kvs,p.1.length=1) ->
   ((eV kvs k=none/\ly H a v none)\/∃d v',eV kvs k=some d/\ly H a v (some v')/\eE S H d v') /\
   ∀(d':ad) (v':V),eE S H d' v'->kvs.length<ax->∃ys,rG H a v v' (eZ H a (xm t (iV kvs k d') ys))/\dS S H ((iV kvs k d').map (·.2)) ys):=by
 cases t with
 | false =>
  obtain⟨i,rfl⟩:∃i,d=.int i:=by
   cases d with
   | int i=>exact⟨i,rfl⟩
   | _=>cases e
  cases e;rw[r.eP];refine⟨λ_=>rfl,λa kvs xs ha rr hk=>?_⟩;have lD:H a=some (.dK (ny (λk=>(Sum.inl (k.headD 0):Key)) kvs xs)):=by rw[<- A3];exact ha
  have inj:∀p∈kvs,(Sum.inl (p.1.headD 0):Key)=Sum.inl (([i]:List Int).headD 0)->p.1=[i]:=λp hp h=>one_inj (hk rfl p hp) rfl h;refine⟨?_,λd' v' rv hl=>?_⟩
  .have hg:ly H a (.int i) (ie (ny (λk=>(Sum.inl (k.headD 0):Key)) kvs xs) (Sum.inl i)):=ly.k (k:=Sum.inl i) lD
   rcases wQ (f:=λk=>(Sum.inl (k.headD 0):Key)) (k:=[i]) rr inj with⟨h1,h2⟩ | ⟨d,v,h1,h2,h3⟩
   .have Q0:ie (ny (λk=>(Sum.inl (k.headD 0):Key)) kvs xs) (Sum.inl i)=none:=h2
    rw[Q0] at hg;exact .inl ⟨h1,hg⟩
   .have Q0:ie (ny (λk=>(Sum.inl (k.headD 0):Key)) kvs xs) (Sum.inl i)=some v:=h2
    rw[Q0] at hg;exact .inr ⟨d,v,h1,hg,h3⟩
  .obtain⟨ys,h1,h2⟩:=C8 (f:=λk=>(Sum.inl (k.headD 0):Key)) (k:=[i]) rv rr inj
   refine⟨ys,?_,h2⟩;have hp:=rG.k (k:=Sum.inl i) (v:=v') lD (by rw[wO _ rr];exact hl);have YV:kK (ny (λk=>(Sum.inl (k.headD 0):Key)) kvs xs) (Sum.inl i) v'=ny (λk=>(Sum.inl (k.headD 0):Key)) (iV kvs [i] d') ys:=h1;rw[YV,<- A3] at hp;exact hp
 | true =>
  obtain⟨ds,rfl⟩:∃ds,d=.tuple ds:=by
   cases d with
   | tuple ds=>exact⟨ds,rfl⟩
   | _=>cases e
  have e':ds=k.map .int:=iI e;subst e';obtain⟨b,ys,rfl,hb,rb⟩:=r.fX;rw[jq rb] at hb;have Oe:H b=some (.tup ((k.map (Sum.inl:Int->Key)).map kV)):=by rw[bu];exact hb
  refine⟨(λz=>by cases z),λa kvs xs ha rr hk=>?_⟩;have lD:H a=some (.dT (ny (λk=>(k.map Sum.inl:List Key)) kvs xs)):=by rw[<- A4];exact ha
  have inj:∀p∈kvs,(p.1.map Sum.inl:List Key)=k.map Sum.inl->p.1=k:=λp _ h=>C9 h;refine⟨?_,λd' v' rv hl=>?_⟩
  .have hg:=ly.t lD Oe
   rcases wQ (f:=λk=>(k.map Sum.inl:List Key)) (k:=k) rr inj with⟨h1,h2⟩ | ⟨d,v,h1,h2,h3⟩
   .rw[h2] at hg
    exact .inl ⟨h1,hg⟩
   .rw[h2] at hg
    exact .inr ⟨d,v,h1,hg,h3⟩
  .obtain⟨ys,h1,h2⟩:=C8 (f:=λk=>(k.map Sum.inl:List Key)) (k:=k) rv rr inj
   refine⟨ys,?_,h2⟩;have hp:=rG.t (v:=v') lD Oe (by rw[wO _ rr];exact hl);rw[h1,<- A4] at hp;exact hp
theorem Ext.VH (hp:p∈S)(h:H p=Option.some (xm t kvs xs)):Ext S H (eZ H p o) :=
 ⟨λb u hb e=>by rw[dY (λ(z:b=p)=>hb (by rw[z];exact hp))];exact e,λb ys e=>by rw[dY (λz=>by rw[z,h] at e;cases t<;>cases e)];exact e⟩
theorem Ext.R7 (a:Ext S H0 H)(h0:H0 p=none):Ext S H0 (eZ H p o) :=
 ⟨λb u hb e=>by rw[dY (λz=>by rw[z,h0] at e;cases e)];exact a.keep b u hb e,λb ys e=>by rw[dY (λz=>by rw[z,h0] at e;cases e)];exact a.tup b ys e⟩
noncomputable def OL (env:fm)(i:Nat)(a:Addr):Prop:=∀j t kvs,j≠i->env[j]? ≠ some (some (.d a t kvs))
section
theorem d5.VI (ok:d5 M env pn σ S H n)(h0:H a=none)(h1:H' a=some (xm t kvs xs))(r:dS (a::S) H' (kvs.map (·.2)) xs)(hk:t=false->∀p∈kvs,p.1.length=1)(x:Ext M.gs H H')(g:M.G H' n')(hi:i ∉ M.fd) :
  d5 M (env.set i (some (.d a t kvs))) pn (σ.set i (some (.ref a))) (a::S) H' n':=by
 have hg:∀b∈M.gs,b∈a::S:=λb hb=>ao _ (ok.tq b hb);have lC:=ok.step x g;refine⟨λj e he=>?_,λj k ds es b h2 h3 h4 h5=>?_,by rw[a7,a7,ok.len],λj hj=>?_,g,lC.ext,λb hb=>ao _ (ok.s0 b hb),λb hb=>?_,λb hb=>?_,λp hp=>?_⟩
 .rcases eR he with⟨rfl,e1⟩ | ⟨ne,e1⟩
  .cases e1
   have:i<env.length:=by
    by_cases z:i<env.length
    .exact z
    .rw[bq (by rw[a7];omega)] at he;cases he
   exact⟨.ref a,kN (by rw[<- ok.len];exact this),rfl,xs,h1,r,hk,ar ..,ok.anew h0⟩
  .obtain⟨v',hv,rv⟩:=ok.val j e e1
   exact⟨v',by rw[aK ne];exact hv,(rv.fresh h0).step hg x⟩
 .rcases eR h2 with⟨_,e1⟩ | ⟨n1,e1⟩
  .cases e1
  .rcases eR h3 with⟨_,e2⟩ | ⟨n2,e2⟩
   .cases e2
   .rw[aK n1] at h4
    rw[aK n2] at h5;exact ok.ne j k ds es b e1 e2 h4 h5
 .have:i≠j:=λz=>hi (z ▸ hj)
  rw[aK this];exact ok.Eg j hj
 .rcases au.mp hb with z | z
  .rw[z];exact .inr (ok.anew h0)
  .exact ok.sn b z
 .rcases au.mp hb with z | z
  .rw[z,h1];simp
  .exact lC.has b z
 .exact ((ok.pin p hp).fresh h0).ext (x.mono hg)
theorem d5.only (ok:d5 M env pn σ S H n)(h0:H a=none)(j:Nat)(t:Bool)(kvs:iZ):env[j]? ≠ some (some (.d a t kvs)):=λz=>by
 obtain⟨v,_,_,xs,ha,_,_,hs,_⟩:=ok.val j _ z;exact ok.has a hs h0
theorem d5.putD (ok:d5 M env pn σ S H n)(he:env[i]? = some (some (.d a t kvs)))(ho:OL env i a)(r:dS S H (ij.map (·.2)) ys)(hk:t=false->∀p∈ij,p.1.length=1) :
  d5 M (env.set i (some (.d a t ij))) pn σ S (eZ H a (xm t ij ys)) n:=by
 obtain⟨v',hv,rfl,xs,ha,_,_,hs,h0⟩:=ok.val i _ he;have x:Ext [a] H (eZ H a (xm t ij ys)):=.VH (!4) ha;have xS:Ext S H (eZ H a (xm t ij ys)):=x.mono (by simpa using hs);refine⟨λj e hj=>?_,λj k qF jv b h2 h3 h4 h5=>?_,by rw[a7,ok.len],ok.Eg,M.iA ok.gd x (by simpa using h0),ok.ext.R7 h0,ok.s0,ok.sn,λb hb=>?_,λp hp=>(ok.pin p hp).ext xS⟩
 .rcases eR hj with⟨rfl,e1⟩ | ⟨ne,e1⟩
  .cases e1
   exact⟨_,hv,rfl,ys,dP,r.ext xS,hk,hs,h0⟩
  .obtain⟨w,hw,o9⟩:=ok.val j e e1
   refine⟨w,hw,?_⟩
   cases e with
   | s d=>exact eE.ext xS o9
   | o jv =>
    obtain⟨b,zs,e2,hb,r2,DT,GD⟩:=o9;subst e2;exact⟨b,zs,rfl,by rw[dY (λz=>by rw[z,ha] at hb;exact og hb.symm)];exact hb,r2.ext xS,DT,GD⟩
   | x c as =>
    obtain⟨b,dx,vs,e2,hb,hd,r2,g1,g2⟩:=o9;exact⟨b,dx,vs,e2,by rw[dY (λz=>by rw[z,ha] at hb;cases t<;>cases hb)];exact hb,by rw[dY (λz=>by rw[z,ha] at hd;cases t<;>cases hd)];exact hd,r2.ext xS,g1,g2⟩
   | d b t2 YW =>
    obtain⟨e2,zs,hb,r2,DQ,DT,GD⟩:=o9;have YX:b≠a:=λz=>ho j t2 YW (λz2=>ne z2.symm) (z ▸ e1);exact⟨e2,zs,by rw[dY YX];exact hb,r2.ext xS,DQ,DT,GD⟩
 .rcases eR h2 with⟨_,e1⟩ | ⟨n1,e1⟩
  .cases e1
  .rcases eR h3 with⟨_,e2⟩ | ⟨n2,e2⟩
   .cases e2
   .exact ok.ne j k qF jv b e1 e2 h4 h5
 .by_cases z:b=a
  .rw[z,dP];simp
  .rw[dY z];exact ok.has b hb
end
theorem Av {X:Cx}(h:X.A.units+64<cLine):X.A.units+1<cLine:=by omega
noncomputable def C' (i:Nat)(t:Bool):US:=λE env n=>∀a:Addr,(∀(j:Nat) (t':Bool) (kv:iZ),env[j]? ≠ some (some (mQ.d a t' kv)))->E.nx (env.set i (some (.d a t []))) n
noncomputable def oS (i:Nat)(uk uv:UX):US:=λE env n=>uv env n λd n1=>match env[i]? with | some (some (.d a t kvs))=>uk env n1 λk n2=>pf (wN t k) λkk=>(kvs.length<ax/\OL env i a)/\E.nx (env.set i (some (.d a t (iV kvs kk d)))) n2 | _=>False
noncomputable def sH (i:Nat)(uk:UX):UX:=λenv n Q=>match env[i]? with | some (some (.d a t kvs))=>uk env n λk n1=>pf (wN t k) λkk=>pf (eV kvs kk) λd=>Q d n1 | _=>False
noncomputable def wR (i:Nat)(uk:UX):UX:=λenv n Q=>uk env n λk n1=>match env[i]? with | some (some (.d a t kvs))=>pf (wN t k) λkk=>Q (.bool (eV kvs kk).isSome) n1 | _=>False
theorem Kc (hk:t=false->∀p∈kvs,p.1.length=1)(h1:t=false->k.length=1):t=false->∀p∈iV kvs k d,p.1.length=1:=λht p hp=>by
 unfold iV at hp;split at hp
 .obtain⟨q,hq,rfl⟩:=a5.mp hp
  split
  .exact hk ht q hq
  .exact hk ht q hq
 .rcases aB.mp hp with hp | hp
  .exact hk ht p hp
  .rw[aw.mp hp];exact h1 ht
section
theorem Dc (hN:X.N.Nodup)(hx:Loc X.env.scope x)(hi:X.N[i]? = some x:=by rfl)(hs:swapsWith (.Dict [] [] p) (some (.Name x iT)) pos.line X.env=pure false:=by rfl)
  (hf:X.fn x=true\/X.env.scope.names.lookup x=some .local:=by (first | exact .inl rfl | exact .inr rfl | assumption)) (hfd:i ∉ M.fd:=by decide):KS X M (.Assign [.Name x iT] (.Dict [] [] p) pos) (C' i false):=.of (jy hN hi hx rH hs hf) λD σ H env pn S n E ok hu k1 k2 a ha =>
 k1 _ _ _ _ _ (ok.VI (t:=false) (kvs:=[]) (xs:=[]) ha dP .nil (!4) (.new ha) (ok.grow (.new ha)) hfd) (hu a λj t kv=>ok.only ha j t kv)
theorem A5 (i:Nat)(hu:X.A.units+1<cLine)(hk:KL X M ke uk)(hv:KE X M ve uv)(hN:X.N[i]? = some x:=by rfl)(Hh:tH X.env.scope x:=by (first | exact Or.inl rfl | exact Or.inr (Or.inl rfl) | exact Or.inr (Or.inr rfl)))(hd:(x == ("__debug__" : Str))=false:=by decide)(ic:(x == ("__classdict__" : Str))=false:=by decide)
  (hs:swapsWith ve (some (.Subscript (.Name x p) ke iT)) pos.line X.env=pure false:=by rfl):KS X M (.Assign [.Subscript (.Name x p) ke iT] ve pos) (oS i uk uv):=.of (vT hu (qv i hN Hh hd ic) hk.run hv.run hs) λD σ H env pn S n E ok tw k1 k2=>by
 refine⟨env,pn,S,n,_,ok,tw,λv H1 d n1 r1 x1 g1 _ q=>?_⟩;have mW:=ok.step x1 g1;split at q
 .rename_i a t kvs he
  obtain⟨v0,EC,rfl,xs,ha,rr,Ib,VJ,h0⟩:=mW.val i _ he;refine⟨_,EC,env,pn,S,n1,_,mW,q,λy H3 kd n2 r2 x2 g2 _ q2=>?_⟩;obtain⟨kk,ek,⟨hl,ho⟩,q2⟩:=q2;have Ie:=mW.step x2 g2;obtain⟨WZ,R8,e',nW,lD,Hg,uf,_,_⟩:=Ie.val i _ he;obtain⟨h1,h2⟩:=mG r2 ek;obtain⟨ys,hp,hr⟩:=(h2 a kvs nW lD Hg uf).2 d v (r1.ext (x2.mono mW.tq)) hl;exact⟨a,_,rfl,hp,k1 _ _ _ _ _ (Ie.putD he ho hr (Kc uf h1)) q2⟩
 .exact q.elim
theorem Hj (i:Nat)(hu:X.A.units+1<cLine)(hk:KL X M ke uk)(hN:X.N[i]? = some x:=by rfl)(Hh:tH X.env.scope x:=by (first | exact Or.inl rfl | exact Or.inr (Or.inl rfl) | exact Or.inr (Or.inr rfl)))(hd:(x == ("__debug__" : Str))=false:=by decide)(ic:(x == ("__classdict__" : Str))=false:=by decide)
  (hs:F0 ke:=by exact λ_ _=>rfl):KE X M (.Subscript (.Name x p) ke pos) (sH i uk):=.of (qD hu (qv i hN Hh hd ic) hk.run hs) λσ H R env pn S n Q ok tw k=>by
 unfold sH at tw;split at tw
 .rename_i a t kvs he
  obtain⟨v0,EC,rfl,xs,ha,rr,Ib,VJ,h0⟩:=ok.val i _ he;refine⟨_,EC,env,pn,S,n,_,ok,tw,λy H1 kd n1 r1 x1 g1 _ q=>?_⟩;obtain⟨kk,ek,d,ed,q⟩:=q;have mW:=ok.step x1 g1;obtain⟨WZ,R8,e',nW,lD,Hg,uf,_,_⟩:=mW.val i _ he;rcases ((mG r1 ek).2 a kvs nW lD Hg uf).1 with⟨z,_⟩ | ⟨d',v',z,hg,hr⟩
  .rw[z] at ed;cases ed
  .rw[z] at ed
   cases ed;exact⟨a,v',rfl,hg,k v' H1 _ n1 hr x1 g1 q⟩
 .exact tw.elim
theorem LK (i:Nat)(hu:X.A.units+1<cLine)(hk:KL X M ke uk)(hN:X.N[i]? = some x:=by rfl)(Hh:tH X.env.scope x:=by (first | exact Or.inl rfl | exact Or.inr (Or.inl rfl) | exact Or.inr (Or.inr rfl)))(hd:(x == ("__debug__" : Str))=false:=by decide)(ic:(x == ("__classdict__" : Str))=false:=by decide)
  (hm:behindInMarks .In (.Name x p)=false:=by first | exact lF _ | rfl):KE X M (.Compare ke [.In] [.Name x p] pos) (wR i uk):=.of (⟨Mf (F1 hu hk.run.run (qv i hN Hh hd ic).run) hm⟩:QE X _ _) λσ H R env pn S n Q ok tw k=>by
 refine⟨env,pn,S,n,_,ok,tw,λy H1 kd n1 r1 x1 g1 _ q=>?_⟩;have mW:=ok.step x1 g1;split at q
 .rename_i a t kvs he
  obtain⟨kk,ek,q⟩:=q;obtain⟨v0,EC,rfl,nW,lD,Hg,uf,_,_⟩:=mW.val i _ he;rcases ((mG r1 ek).2 a kvs nW lD Hg uf).1 with⟨z,hg⟩ | ⟨d',v',z,hg,hr⟩
  .rw[z] at q
   exact⟨_,EC,a,_,rfl,hg,k _ H1 _ n1 (.bl _) x1 g1 q⟩
  .rw[z] at q
   exact⟨_,EC,a,_,rfl,hg,k _ H1 _ n1 (.bl _) x1 g1 q⟩
 .exact q.elim
theorem R9 (i:Nat)(hu:X.A.units+1<cLine)(hk:KL X M ke uk)(hN:X.N[i]? = some x:=by rfl)(Hh:tH X.env.scope x:=by (first | exact Or.inl rfl | exact Or.inr (Or.inl rfl) | exact Or.inr (Or.inr rfl)))(hd:(x == ("__debug__" : Str))=false:=by decide)(ic:(x == ("__classdict__" : Str))=false:=by decide)
  (hm:behindInMarks .In (.Name x p)=false:=by first | exact lF _ | rfl):KB X M (.Compare ke [.In] [.Name x p] pos) (fj (wR i uk)):=.of (⟨Mg (F1 hu hk.run.run (qv i hN Hh hd ic).run) hm⟩:QT X _ _) λσ H R env pn S n Q ok tw k=>by
 refine⟨env,pn,S,n,_,ok,tw,λy H1 kd n1 r1 x1 g1 _ q=>?_⟩;have mW:=ok.step x1 g1;split at q
 .rename_i a t kvs he
  obtain⟨kk,ek,q⟩:=q;obtain⟨v0,EC,rfl,nW,lD,Hg,uf,_,_⟩:=mW.val i _ he;rcases ((mG r1 ek).2 a kvs nW lD Hg uf).1 with⟨z,hg⟩ | ⟨d',v',z,hg,hr⟩
  .rw[z] at q
   exact⟨_,EC,a,_,rfl,hg,_,rfl,k _ H1 n1 x1 g1 q⟩
  .rw[z] at q
   exact⟨_,EC,a,_,rfl,hg,_,rfl,k _ H1 n1 x1 g1 q⟩
 .exact q.elim
noncomputable def sI (i:Nat)(uk ud:UX):UX:=λenv n Q=>match env[i]? with | some (some (.d a t kvs))=>uk env n λk n1=>ud env n1 λd n2=>pf (wN t k) λkk=>Q ((eV kvs kk).getD d) n2 | _=>False
theorem Kd (i:Nat)(hu:X.A.units+1<cLine)(hk:KE X M ke uk)(hv:KE X M ve ud)(m:M2 X (.Name x p) "get" iE ke ve gu)(hN:X.N[i]? = some x:=by rfl)(Hh:tH X.env.scope x:=by (first | exact Or.inl rfl | exact Or.inr (Or.inl rfl) | exact Or.inr (Or.inr rfl)))(hd:(x == ("__debug__" : Str))=false:=by decide)(ic:(x == ("__classdict__" : Str))=false:=by decide) :
  KE X M (.Call (.Attribute (.Name x p) "get" iE) [ke,ve] [] gu) (sI i uk ud):=.of (rJ hu (qv i hN Hh hd ic) hk.run hv.run m) λσ H R env pn S n Q ok tw k=>by
 unfold sI at tw;split at tw
 .rename_i a t kvs he
  obtain⟨v0,EC,rfl,xs,ha,rr,Ib,VJ,h0⟩:=ok.val i _ he
  have YY:Uy H a:=by
   cases t with
   | false=>exact .inl ⟨_,.inl ha⟩
   | true=>exact .inr ⟨_,.inl ha⟩
  refine⟨_,EC,a,rfl,YY,env,pn,S,n,_,ok,tw,λy H1 kd n1 r1 x1 g1 _ q=>?_⟩;have mW:=ok.step x1 g1;refine⟨env,pn,S,n1,_,mW,q,λz H2 d n2 r2 x2 g2 _ q2=>?_⟩;obtain⟨kk,ek,q2⟩:=q2;have Ie:=mW.step x2 g2;obtain⟨WZ,R8,e',nW,lD,Hg,uf,_,_⟩:=Ie.val i _ he;have YZ:fC M.gs S H2 kd y:=.inl (r1.ext (x2.mono mW.tq));rcases ((mG YZ ek).2 a kvs nW lD Hg uf).1 with⟨z',hg⟩ | ⟨d',v',z',hg,hr⟩
  .rw[z'] at q2
   exact⟨_,hg,k _ H2 _ n2 r2 (x1.trans x2) g2 q2⟩
  .rw[z'] at q2
   exact⟨_,hg,k _ H2 _ n2 hr (x1.trans x2) g2 q2⟩
 .exact tw.elim
theorem yX:∀{kvs:iZ} {xs:List V},dS S H (kvs.map (·.2)) xs->(E4 kvs xs).map (·.1)=(kvs.map λp=>p.1.headD 0).map Sum.inl
 | [],_,r=>by cases r.fB;rfl
 | p::kvs,_,r=>by
  obtain⟨x,t,rfl,r1,r2⟩:=r.of_cons;rw[E4,aj,yX r2];rfl
noncomputable def Dd (i:Nat):fm->Int->(List ad->Int->Prop)->Prop:=λenv n Q=>match env[i]? with | some (some (.d _ false kvs))=>kvs.length<64/\Q ((sortI (kvs.map λp=>p.1.headD 0)).map .int) n | _=>False
theorem Ke (i:Nat)(hm:X.mg "sorted" = none)(hc:X.calm=true)(hg:Gl X "sorted" := by rfl)(hN:X.N[i]? = some x:=by rfl)(Hh:tH X.env.scope x:=by (first | exact Or.inl rfl | exact Or.inr (Or.inl rfl) | exact Or.inr (Or.inr rfl)))(hd:(x == ("__debug__" : Str))=false:=by decide)(ic:(x == ("__classdict__" : Str))=false:=by decide)
  (hs:e9 (.Name x p2)=true:=by rfl):KN X M (.Call (.Name "sorted" p) [.Name x p2] [] pos) (Dd i) :=
 .of (fO (vV hc) hg hm (!3) (gB (qv i hN Hh hd ic) eY hs)) λσ H R env pn S n Q ok tw k=>by
  unfold Dd at tw;split at tw
  .rename_i a kvs he
   obtain⟨hl,q⟩:=tw;obtain⟨v0,EC,rfl,xs,ha,rr,Ib,VJ,h0⟩:=ok.val i _ he;refine⟨_,EC,a,_,kvs.map (λp=>p.1.headD 0),rfl,ha,yX rr,by rw[ak];exact hl,λl ms pm ps hl=>?_⟩;have em:ms=sortI (kvs.map λp=>p.1.headD 0):=nq (pm.trans (sortI_perm _).symm) ps (jh _);subst em;exact k l _ _ _ n hl dP (.ints _) (.new hl) (ok.grow (.new hl)) q
  .exact tw.elim
end
noncomputable def oU (p:ad × ad):Option (List Int × ad):=match p.1 with | .tuple ks=>(iG ks).map λk=>(k,p.2) | _=>none
noncomputable def Ph (d:ad):Option (Bool × iZ):=match d with | .dict ((.bool t,.none)::l)=>(l.mapM oU).map λkvs=>(t,kvs) | _=>none
theorem Hk:∀kvs:iZ,(kvs.map λp=>(ad.tuple (p.1.map .int),p.2)).mapM oU=some kvs
 | []=>rfl
 | p::kvs=>by
  have e:oU (ad.tuple (p.1.map .int),p.2)=some p:=by
   unfold oU;simp only[iH];rfl
  rw[aj,cD,Hk kvs,e];rfl
theorem A6 (t:Bool)(kvs:iZ):Ph (iB t kvs)=some (t,kvs):=by
 unfold iB mV Ph;simp only[Hk,bH]
theorem yY:∀{l:List (ad × ad)} {kvs:iZ},l.mapM oU=some kvs->l=kvs.map λp=>(ad.tuple (p.1.map .int),p.2)
 | [],kvs,h=>by cases h;rfl
 | p::l,kvs,h=>by
  rw[cD] at h
  cases hp:oU p with
  | none=>rw[hp] at h;cases h
  | some q =>
   cases hl:l.mapM oU with
   | none=>rw[hp,hl] at h;cases h
   | some r =>
    rw[hp,hl] at h;cases h;rw[aj,<- yY hl];congr 1;unfold oU at hp;split at hp
    .rename_i ks he
     cases ha:iG ks with
     | none=>rw[ha] at hp;cases hp
     | some k =>
      rw[ha] at hp;cases hp;rw[<- iI ha];cases p;simp only at he;rw[he]
    .cases hp
theorem Hl (h:Ph d=some (t,kvs)):d=iB t kvs:=by
 unfold Ph at h;split at h
 .rename_i t' l
  cases hl:l.mapM oU with
  | none=>rw[hl] at h;cases h
  | some r =>
   rw[hl] at h;cases h;rw[iB,mV,<- yY hl]
 .cases h
theorem Hm (h:mV t kvs=mV t' ij):t=t'/\kvs=ij:=by
 have h1:=A6 t kvs;rw[iB,h,<- iB,A6] at h1;cases h1;exact⟨rfl,rfl⟩
theorem fC.R' (r:fC gs S H d v)(e:Ph d=some (t,kvs)):∃a xs,v=.ref a/\H a=some (xm t kvs xs)/\dS S H (kvs.map (·.2)) xs/\(t=false->∀p∈kvs,p.1.length=1):=by
 rw[Hl e] at r;obtain⟨a,t',ij,xs,e1,e2,ha,hk,hr⟩:=fC.pv r;obtain⟨rfl,rfl⟩:=Hm e2;exact⟨a,xs,e1,ha,hr,hk⟩
noncomputable def vh (ud uk:UX):UX:=λenv n Q=>ud env n λd n1=>pf (Ph d) λtk=>uk env n1 λk n2=>pf (wN tk.1 k) λkk=>pf (eV tk.2 kk) λx=>Q x n2
section
variable {X:Cx}{M:Fr}{o e ke ve:Expr}{uk uv ud:UX}{pos iT p p2:Pos}
theorem A7 (hu:X.A.units+1<cLine)(ho:KL X M o ud)(hk:KL X M ke uk)(hs:F0 ke:=by exact λ_ _=>rfl):KE X M (.Subscript o ke pos) (vh ud uk):=.of (qD hu ho.run hk.run hs) λσ H R env pn S n Q ok tw k=>by
 refine⟨env,pn,S,n,_,ok,tw,λv H1 d n1 r1 x1 g1 _ q=>?_⟩;obtain⟨⟨t,kvs⟩,e,q⟩:=q;have mW:=ok.step x1 g1;refine⟨env,pn,S,n1,_,mW,q,λy H2 kd n2 r2 x2 g2 _ q2=>?_⟩;obtain⟨kk,ek,x,ex,q2⟩:=q2;obtain⟨a,xs,rfl,ha,rr,Ib⟩:=(r1.ext mW.tq x2).R' e;rcases ((mG r2 ek).2 a kvs xs ha rr Ib).1 with⟨z,_⟩ | ⟨d',v',z,hg,hr⟩
 .rw[z] at ex;cases ex
 .rw[z] at ex
  cases ex;exact⟨a,v',rfl,hg,k v' H2 _ n2 hr (x1.trans x2) g2 q2⟩
end
end L2
open PySem
namespace Odj
end Odj
open PySem
namespace Odj
noncomputable abbrev tD:=List (Int × Bool)
noncomputable def gR (o:tD)(k:Int):Bool:=((o.find? λp=>decide (p.1=k)).map (·.2)).getD false
noncomputable def fR (o:tD)(k:Int):tD:=if o.any (λp=>decide (p.1=k)) then o.map (λp=>if p.1=k then (p.1,!(gR o k)) else p) else o++[(k,!(gR o k))]
noncomputable def eA (row:List Int):tD:=row.foldl fR []
noncomputable def jV (o:tD):List Int:=(o.filter (·.2)).map (·.1)
noncomputable def fq (o:tD):List Int:=o.map (·.1)
theorem vi (o:tD)(k:Int):fq (fR o k)=if k∈fq o then fq o else fq o++[k]:=by
 unfold fR fq;by_cases h:k∈o.map (·.1)
 .have h':o.any (λp=>decide (p.1=k))=true:=by
   obtain⟨p,hp,e⟩:=a5.mp h;exact du.mpr ⟨p,hp,decide_eq_true e⟩
  rw[if_pos h',if_pos h,bu];apply cA;intro p _;simp only[Function.comp];split<;>rfl
 .have h':¬ o.any (λp=>decide (p.1=k))=true:=by
   intro z;obtain⟨p,hp,e⟩:=du.mp z;exact h (a5.mpr ⟨p,hp,of_decide_eq_true e⟩)
  rw[if_neg h',if_neg h,a8];rfl
theorem A8 (h:(fq o).Nodup):(fq (fR o k)).Nodup:=by
 rw[vi];split
 .exact h
 .rename_i hk
  rw[cw];refine⟨h,!4,λa ha b hb=>?_⟩;have:b=k:=by simpa using hb
  subst this;intro z;subst z;exact hk ha
theorem Hn (o:tD)(k:Int):(fR o k).length<=o.length+1:=by
 unfold fR;split
 .simp
 .simp
theorem Ho (h:x∈fq (fR o k)):x=k\/x∈fq o:=by
 rw[vi] at h;split at h
 .exact .inr h
 .rcases aB.mp h with z | z
  .exact .inr z
  .exact .inl (by simpa using z)
theorem Hq {o:tD}(h:(fq o).Nodup){i:Nat}{p:Int × Bool}(hp:o[i]? = some p):gR o p.1=p.2:=by
 induction o generalizing i with
 | nil=>cases hp
 | cons q o ih =>
  unfold fq at h;rw[aj,bN] at h
  cases i with
  | zero =>
   have:q=p:=by simpa using hp
   subst this;simp[gR]
  | succ i =>
   have A9:o[i]? = some p:=by simpa using hp
   have hm:p.1∈o.map (·.1):=a5.mpr ⟨p,bO A9,rfl⟩;have j9:¬ q.1=p.1:=λz=>h.1 (z ▸ hm);have:=ih h.2 A9;unfold gR at this ⊢;rw[bP];simp only[j9,decide_false];exact this
end Odj
open PySem
namespace Odj
theorem sL:∀{l1 l2:List Int},l1.Pairwise (· < ·)->l2.Pairwise (· < ·)->(∀k,k∈l1↔k∈l2)->l1=l2
 | [],[],_,_,_=>rfl
 | [],b::l2,_,_,h=>absurd ((h b).mpr (ar ..)) (!4)
 | a::l1,[],_,_,h=>absurd ((h a).mp (ar ..)) (!4)
 | a::l1,b::l2,h1,h2,h=>by
  obtain⟨q1,r1⟩:=b8.mp h1;obtain⟨q2,r2⟩:=b8.mp h2
  have e:a=b:=by
   rcases au.mp ((h a).mp (ar ..)) with z | z
   .exact z
   .rcases au.mp ((h b).mpr (ar ..)) with y | y
    .exact y.symm
    .have:=q2 a z
     have:=q1 b y;omega
  subst e;rw[sL r1 r2 λk=>?_];constructor
  .intro hk
   rcases au.mp ((h k).mp (ao _ hk)) with z | z
   .have:=q1 k hk
    omega
   .exact z
  .intro hk
   rcases au.mp ((h k).mpr (ao _ hk)) with z | z
   .have:=q2 k hk
    omega
   .exact z
noncomputable def Ba (row ns:List Int):Prop:=ns.Pairwise (· < ·)/\∀k,k∈ns↔row.count k % 2=1
end Odj
namespace Odj
open PySem L2
noncomputable def eF (row:List Int):List Int:=kR (row.filter λk=>decide (row.count k % 2=1))
noncomputable def f9:UF:=λds n Q _=>match ds with
 | [.list es]=>pf (iG es) λrow=>((jQ row).length<=60/\row.length<=100000)/\Q (.tuple ((eF row).map .int)) n
 | [.tuple es]=>pf (iG es) λrow=>((jQ row).length<=60/\row.length<=100000)/\Q (.tuple ((eF row).map .int)) n
 | _=>False
noncomputable def ED:List Str:=["TooMany"]
noncomputable def Kf:List Str:=["JoinError", "NoPaper", "NoWalk", "NoText", "NoTurns", "NoTie", "TooMany", "NoLine"]
noncomputable def FL (c:Str):List Str:=(([("TooMany",["word"])]:List (Str × List Str)).lookup c).getD []
noncomputable abbrev XC (cl:Str->Addr):Xc:=⟨cl,FL⟩
noncomputable def nz:US:=(fY (dZ f9 (dH (eJ jf (dI 0) (dI 1)) dN)))
noncomputable def f':UF:=nY 2 2 (λ_=>nz)
noncomputable def pO:US:=(d7 (r9 2 dN)
 (d7 (jg (wm 1) (g8 3)
 (mZ 2 jP (dH (Pd (eJ jd (eJ jd (dI 0) (uC (.int 1))) (dI 3)) Pb (Pc (uC (.int 2)))) dN)))
 (fY (AG f9 (dH (dI 2) dN)))))
noncomputable def mH:UF:=nY 4 2 (λ_=>pO)
noncomputable def lV:US:=(fY (nX gp (dH (uL (gj (Te (dI 0)) [none,none,some 1] (Ob [(g8 1),(g8 0)]) (fj (eJ rX (dI 0) (dI 2))) (dU 1))) dN)))
noncomputable def iW:UF:=nY 2 2 (λ_=>lV)
noncomputable def nA:US:=(d7 (eD 1 (uL (yG (eJ jd (dI 0) (uC (.int 0))))))
 (d7 (jg (Od (eJ jd (dI 0) (uC (.int 1)))) (g8 2)
 (d7 (eD 3 (nX u0 (dH (eJ jd (dI 1) (eJ jd (dI 2) (uC (.int 0)))) (dH (eJ jd (dI 1) (eJ jd (dI 2) (uC (.int 1)))) dN))))
 (d7 (eD 4 (nX u3 (dH (eJ jd (dI 1) (eJ jd (dI 2) (uC (.int 0)))) (dH (eJ jd (dI 1) (eJ jd (dI 2) (uC (.int 1)))) dN))))
 (eD 1 (uL (gj (CM (dI 1)) [none,some 3,some 4] (g8 0) kO (Lj (fj (eJ rX (dI 0) (dI 2))) (dU 1) (dU 0))))))))
 (fY (nX gp (dH (uL (gj (CM (uL (AJ (dI 1)))) [none,some 1] (g8 0) kO (dZ iW (dH (dU 1) (dH (dU 0) dN))))) dN)))))
noncomputable def kT:UF:=nY 5 1 (λ_=>nA)
noncomputable def lW:US:=(fY (Lj (fj (eJ rX (eJ jd (dI 0) (uC (.int 0))) (dI 1))) (eJ jd (dI 0) (uC (.int 1))) (eJ jd (dI 0) (uC (.int 0)))))
noncomputable def iX:UF:=nY 2 2 (λ_=>lW)
noncomputable def lX:US:=(d7 (C' 1 false)
 (d7 (jg (Od (dZ kT (dH (dU 0) dN))) (g8 2)
 (oS 1 (eJ jd (dI 2) (uC (.int 0))) (fD dN)))
 (d7 (eD 3 (uC (.bool true)))
 (d7 (AD (fj (dU 3))
 (d7 (eD 3 (uC (.bool false)))
 (jg (Vg (eJ jd (dI 0) (uC (.int 1)))) (Ob [(g8 4),(g8 5)])
 (h9 (fj (eJ CK (wR 1 (eJ jd (dI 5) (uC (.int 0)))) (wR 1 (eJ jd (dI 5) (uC (.int 1)))))) (d7 (eD 6 (Lj (fj (wR 1 (eJ jd (dI 5) (uC (.int 0))))) (eJ jd (dI 5) (uC (.int 0))) (eJ jd (dI 5) (uC (.int 1)))))
 (d7 (oS 1 (dZ iX (dH (dU 5) (dH (dU 6) dN))) (dZ f' (dH (sH 1 (dI 6)) (dH (fD (dH (dU 4) dN)) dN))))
 (eD 3 (uC (.bool true))))) gG))))
 (yD 1)))))
noncomputable def jW:UF:=nY 7 1 (λ_=>lX)
noncomputable def kU:US:=(d7 (eD 2 (uL (gj (Te (eJ jd (dI 0) (uC (.int 1)))) [none,none,some 1] (Ob [(g8 0),(g8 1)]) kO (dZ f' (dH (fD (dH (dU 0) dN)) (dH (dZ f' (dH (vh (dI 2) (eJ jd (dI 1) (uC (.int 0)))) (dH (vh (dI 2) (eJ jd (dI 1) (uC (.int 1)))) dN))) dN))))))
 (fY (uL (gj (CM (dI 2)) [none] (g8 0) (fj (eJ CK (dI 0) (fD dN))) (dU 0)))))
noncomputable def jj:UF:=nY 3 2 (λ_=>kU)
noncomputable def nB:US:=(iD (eD 2 (uL (dH (dU 0) dN))) (iD (jg (wm 1) (g8 3)
 (eD 2 (eJ jf (dI 2) (uL (gj (CM (dI 2)) [none,some 3] (g8 0) kO (dZ f' (dH (dU 0) (dH (dU 1) dN)))))))) (fY (uL (sG (dI 2))))))
noncomputable def kW:UF:=nY 4 2 (λ_=>nB)
noncomputable def lY (Ex:XQ):US:=(iD (eD 2 (dZ jW (dH (dU 0) dN)))
 (iD (eD 3 (dZ jj (dH (dU 0) (dH (dU 2) dN))))
 (iD (h9 (fj (eJ Lk (nX lR (dH (dI 3) dN)) (uC (.int (10))))) (AH Ex "TooMany" (dH (uC (.str "sets")) dN)) gG)
 (iD (eD 4 (fD dN))
 (iD (jg (wm 1) (g8 5)
 (eD 4 (dZ f' (dH (dU 4) (dH (vh (dI 2) (dI 5)) dN)))))
 (JV (fj (eJ CK (dZ mH (dH (dU 0) (dH (dU 4) dN))) (dI 1))) (fY (uL dN))
 (fY (uL (AQ kW (dH (dU 4) (dH (dU 3) dN)))))))))))
noncomputable def fS:UF:=nY 6 2 (lY)
noncomputable def lZ (Ex:XQ):US:=(fY (uL (gV fS Ex (dH (dU 0) (dH (fD dN) dN)))))
noncomputable def jX:UF:=nY 1 1 (lZ)
noncomputable def l3:US:=(d7 (eD 2 (eJ jd (uL (dH (uC (.int 1)) (dH (uC (.int 2)) (dH (uC (.int 3)) (dH (uC (.int 0)) (dH (uC (.int 5)) (dH (uC (.int 1)) (dH (uC (.int 99)) (dH (dZ fL (dH (uC (.int 100)) dN)) dN))))))))) (dZ fL (dH (uC (.int 8)) dN))))
 (fY (Lj (rV (fj (dU 1)) (fj (eJ rX (dZ fL (dH (uC (.int 3)) dN)) (uC (.int 0))))) (WJ NQ (dU 2)) (dU 2))))
noncomputable def fU:UF:=lS 3 2 (λ_=>l3)
noncomputable def pP:US:=(d7 (eD 4 (eJ jf (uC (.int 1)) (dZ fL (dH (dU 1) dN))))
 (d7 (eD 5 (dZ fL (dH (uC (.int 4)) dN)))
 (d7 (r9 6 dN)
 (yC (h9 (fj (eJ O' (dI 5) (uC (.int 2)))) (r9 6 (gj (JG (eJ tW (dI 4) (uC (.int 1)))) [none,some 0,some 3] (g8 0) kO (fD (dH (dU 0) (dH (eJ jf (dI 0) (uC (.int 1))) (dH (dZ fU (dH (dU 2) dN)) dN)))))) gG)
 (yC (h9 (rV (fj (eJ rX (dI 5) (uC (.int 0)))) (fj (eJ Lk (dI 4) (uC (.int 1))))) (mZ 6 kQ (dH (fD (dH (uC (.int 0)) (dH (eJ tW (dI 4) (uC (.int 1))) (dH (dZ fU (dH (dU 3) dN)) dN)))) dN)) gG)
 (d7 (jg (Lr (eJ wc (dZ fL (dH (eJ jf (dI 2) (uC (.int 1))) dN)) (nX intD (dH (eJ Lk (dI 4) (uC (.int 1))) dN)))) (g8 7)
 (d7 (eD 8 (dZ fL (dH (eJ tW (dI 4) (uC (.int 1))) dN)))
 (d7 (eD 9 (fD (dH (dU 8) (dH (eJ jf (eJ jf (dI 8) (uC (.int 1))) (dZ fL (dH (eJ tW (eJ tW (dI 4) (uC (.int 1))) (dI 8)) dN))) (dH (dZ fU (dH (dU 3) dN)) dN)))))
 (yC (h9 (rV (fj (eJ CK (dI 6) (uL dN))) (fj (eJ rX (dZ fL (dH (uC (.int 5)) dN)) (uC (.int 0))))) (eD 9 (eJ jd (dI 6) (dZ fL (dH (nX lR (dH (dI 6) dN)) dN)))) gG)
 (mZ 6 mD (dH (dZ fL (dH (eJ jf (nX lR (dH (dI 6) dN)) (uC (.int 1))) dN)) (dH (dU 9) dN)))))))
 (fY (fD (dH (dU 4) (dH (nX gp (dH (Pd (dI 6) Pb (Pc (dU 2))) dN)) dN))))))))))
noncomputable def mI:UF:=lS 10 4 (λ_=>pP)
noncomputable def nC:US:=(d7 (eD 2 (dZ fL (dH (uC (.int 6)) dN)))
 (d7 (h9 (fj (eJ O' (dI 2) (uC (.int 2)))) (fY (Lv (yG (eJ wc (dI 1) (dI 2))))) gG)
 (fY (nX gp (dH (uL (gj (JG (dU 1)) [none,some 0,some 2] (g8 0) (fj (eJ rX (dZ fL (dH (dU 2) dN)) (uC (.int 0)))) (dU 0))) dN)))))
noncomputable def iL:UF:=lS 3 2 (λ_=>nC)
noncomputable def nD:US:=(d7 (C' 2 false)
 (d7 (jg (wm 1) (g8 3)
 (jg (Od (Pd (eJ jd (eJ jd (dI 0) (uC (.int 1))) (dI 3)) Pb (Pc (uC (.int 2))))) (g8 4)
 (oS 2 (dI 4) (CJ (sI 2 (dU 4) (uC (.bool false)))))))
 (fY (nX gp (dH (uL (gj (CM (uL (Dd 2))) [none,some 2] (g8 0) (fj (sH 1 (dI 0))) (dU 0))) dN)))))
noncomputable def jB:UF:=nY 5 2 (λ_=>nD)
noncomputable def jC:US:=(d7 (r9 2 dN)
 (d7 (eD 3 (nX lR (dH (eJ jd (dI 0) (uC (.int 1))) dN)))
 (d7 (jg (Lr (eJ GA (uC (.int 1)) (dI 3))) (g8 4)
 (d7 (eD 5 (nX gp (dH (uL (gj (JG (dU 3)) [none,some 4] (g8 0) (fj (eJ rX (eJ JO (eJ JD (dI 1) (dI 0)) (uC (.int 1))) (uC (.int 1)))) (dU 0))) dN)))
 (h9 (fj (eJ rX (dZ jB (dH (dU 0) (dH (dU 5) dN))) (dI 1))) (mZ 2 kQ (dH (dU 5) dN)) gG)))
 (fY (uL (sG (dI 2)))))))
noncomputable def gJ:UF:=nY 6 2 (λ_=>jC)
noncomputable def l4:US:=(d7 (eD 2 (jS (fD (dH (dU 0) (dH (dU 1) dN)))))
 (d7 (eD 3 (dZ gJ (dH (dU 0) (dH (dU 1) dN))))
 (d7 (jg (Lr (uC (.int 2))) (g8 4)
 (d7 (r9 5 (gV fS yE (dH (dU 0) (dH (dU 1) dN))))
 (d7 (h9 (Vb (Gz (fj (Oj "list" (dI 5)))) (fj (eJ Ep (jS (dI 5)) (jS (dU 3))))) (fY (uC (.bool false))) gG)
 (mZ 5 kQ (dH (fD dN) dN)))))
 (d7 (eD 6 (uL (gV fS yE (dH (dU 0) (dH (dU 1) dN)))))
 (d7 (h9 (rV (fj (eJ CK (dI 6) (uL dN))) (fj (eJ CK (uL (sG (uL (gj (CM (uL (gV jX yE (dH (dU 0) dN)))) [none,some 6] (g8 0) kO (dZ f' (dH (eJ jd (dI 1) (uC (.int 0))) (dH (dU 0) dN))))))) (dI 6)))) (fY (uC (.bool false))) gG)
 (fY (eJ Er (jS (fD (dH (dU 0) (dH (dU 1) dN)))) (dI 2))))))))
noncomputable def hV:UF:=nY 7 2 (λ_=>l4)
noncomputable def nE:US:=(d7 (eD 2 (uC .none))
 (d7 (G1 3 fS "JoinError" ED (dH (dU 0) (dH (dU 1) dN))
 (d7 (eD 4 (CU 3 ED ["NoLine", "NoPaper", "NoText", "NoTie", "NoTurns", "NoWalk"]))
 (h9 (rV (fj (JM 3 ED "TooMany")) (rV (fj (CT 3 ED)) (Gz (fj (dU 4))))) (eD 2 (JN 3 ED FL "word")) gG)))
 (fY (dU 2))))
noncomputable def iM:UF:=nY 5 2 (λ_=>nE)
noncomputable def yZ:US:=(d7 (jg (Lr (uC (.int 3))) (g8 2)
 (d7 (eD 3 (dZ mI (dH (uC (.int 5)) (dH (uC (.int 7)) (dH (uC (.bool true)) dN)))))
 (d7 (eD 4 (uL (dH (dZ jB (dH (dU 3) (dH (dZ iL (dH (nX lR (dH (eJ jd (dI 3) (uC (.int 1))) dN)) dN)) dN))) (dH (dZ iL (dH (eJ jd (dI 3) (uC (.int 0))) dN)) (dH (fD dN) dN)))))
 (h9 (fj (eJ inD (uC (.bool false)) (uL (gj (CM (dI 4)) [none,some 3] (g8 0) kO (dZ hV (dH (dU 1) (dH (dU 0) dN))))))) (fY (uC (.bool false))) gG))))
 (yC (h9 (fj (eJ rX (dZ fL (dH (uC (.int 16)) dN)) (uC (.int 0)))) (d7 (eD 5 (fD (dH (uC (.int 2)) (dH (nX gp (dH (uL (gj (JG (uC (.int 11))) [none,some 1] (g8 0) kO (fD (dH (uC (.int 0)) (dH (uC (.int 1)) (dH (dZ fU (dH (uC (.bool true)) dN)) dN)))))) dN)) dN))))
 (d7 (eD 6 (eJ jd (uL (dH (fD (dH (uC (.int 0)) (dH (uC (.int 1)) dN))) (dH (fD dN) (dH (fD (dH (uC (.int 0)) dN)) dN)))) (dZ fL (dH (uC (.int 3)) dN))))
 (h9 (fj (eJ Ep (jS (uL (gV fS yE (dH (dU 5) (dH (dU 6) dN))))) (jS (dZ gJ (dH (dU 5) (dH (dU 6) dN)))))) (fY (uC (.bool false))) gG))) gG)
 (d7 (eD 7 (eJ jf (uC (.int 2)) (dZ fL (dH (uC (.int 4)) dN))))
 (d7 (eD 8 (nX gp (dH (uL (gj (JG (eJ jf (eJ jf (uC (.int 9)) (dI 7)) (dZ fL (dH (uC (.int 2)) dN)))) [none,some 7,some 1] (g8 0) kO (fD (dH (uC (.int 0)) (dH (eJ tW (dI 1) (uC (.int 1))) (dH (dZ fU (dH (uC (.bool true)) dN)) dN)))))) dN)))
 (d7 (eD 3 (fD (dH (dU 7) (dH (eJ jf (dI 8) (fD (dH (fD (dH (uC (.int 0)) (dH (uC (.int 1)) (dH (uC (.int 5)) dN)))) dN))) dN))))
 (d7 (eD 9 (dZ iM (dH (dU 3) (dH (dZ iL (dH (dU 7) dN)) dN))))
 (fY (yq (eJ rX (dI 9) (uC (.str "sets"))) (yq (eJ rX (dZ iM (dH (dU 3) (dH (fD (dH (uC (.int 0)) dN)) dN))) (uC (.str "sets"))) (eJ rX (dZ iM (dH (dU 3) (dH (fD dN) dN))) (uC (.str "sets"))))))))))))
noncomputable def top (i:Nat):Stmt:=PySem.Challenge.pw_oddjoins_k11_all_joins.main.body.getD i (.Pass ⟨0,0,0,0⟩)
structure sM (mg:Str->Option ag):Prop where
 ValueError:mg "ValueError" = none
 enumerate:mg "enumerate" = none
 int:mg "int" = none
 isinstance:mg "isinstance" = none
 len:mg "len" = none
 list:mg "list" = none
 max:mg "max" = none
 min:mg "min" = none
 range:mg "range" = none
 repr:mg "repr" = none
 set:mg "set" = none
 sorted:mg "sorted" = none
 tuple:mg "tuple" = none
noncomputable abbrev N2:List Str:=["one", "other"]
noncomputable abbrev N3:List Str:=["web", "some", "ends", "number"]
noncomputable abbrev N4:List Str:=["least", "leasts"]
noncomputable abbrev N5:List Str:=["web", "leasts", "tie", "low", "high"]
noncomputable abbrev N6:List Str:=["least", "low", "high"]
noncomputable abbrev N7:List Str:=["own", "place", "least"]
noncomputable abbrev N8:List Str:=["leasts", "least"]
noncomputable abbrev N9:List Str:=["tie", "place"]
noncomputable abbrev Y0:List Str:=["web", "ways", "part", "grown", "number", "tie", "near"]
noncomputable abbrev W0:List Str:=["even"]
noncomputable abbrev VL:List Str:=["web", "ways", "evens"]
noncomputable abbrev VM:List Str:=["number", "tie", "ways"]
noncomputable abbrev W2:List Str:=["other", "even"]
noncomputable abbrev W3:List Str:=["some", "base", "found", "even"]
noncomputable abbrev Y2:List Str:=["web"]
noncomputable abbrev Y3:List Str:=["web", "told", "ways", "base", "join", "place"]
noncomputable abbrev Y4:List Str:=["_law_feed_here", "_law_signed", "_law_price_here"]
noncomputable abbrev W4:List Str:=["_law_k", "_law_feed_here", "_law_signed"]
noncomputable abbrev W5:List Str:=["_law_feed_here", "_law_most", "_law_ties", "_law_signed", "_law_many", "_law_way", "_law_found", "_law_k", "_law_a", "_law_tie"]
noncomputable abbrev W6:List Str:=["_law_k", "_law_feed_here", "_law_way"]
noncomputable abbrev W7:List Str:=["_law_feed_here", "_law_many", "_law_way"]
noncomputable abbrev W8:List Str:=["_law_place", "_law_odd"]
noncomputable abbrev W9:List Str:=["_law_web_here", "_law_some_here", "_law_odd", "_law_number", "_law_place"]
noncomputable abbrev W':List Str:=["_law_k", "_law_number"]
noncomputable abbrev Xa:List Str:=["_law_web_here", "_law_told", "_law_found", "_law_ties", "_law_number", "_law_some_here"]
noncomputable abbrev Xb:List Str:=["_law_even", "_law_joins"]
noncomputable abbrev Xd:List Str:=["_law_web_here", "_law_told", "_law_kept", "_law_due", "_law_turn", "_law_found", "_law_joins"]
noncomputable abbrev Y5:List Str:=["_law_web_here", "_law_told", "_law_word_here", "e", "_law_others"]
noncomputable abbrev Xe:List Str:=["_law_k", "_law_places", "_law_feed_here"]
noncomputable abbrev Tt:List Str:=["_law_script", "_law_feed_here", "_law_k", "_law_web_here", "_law_some_here", "_law_great", "_law_told", "_law_places", "_law_ties", "_law_word_here"]
noncomputable abbrev Xf:List Str:=["_law_k", "_law_feed_here"]
noncomputable abbrev Xg:List Str:=["_law_told", "_law_web_here"]
section
variable (P:aP)(w:World)(K:W.Frag)(mg:Str->Option ag)(base:Heap)(cl:Str->Addr)(Y:zF)
noncomputable abbrev nF:Prop:=eO P w K mg base 1 "odd_ones" ["row"] (u4 (XC cl) f9)
noncomputable abbrev gW:Prop:=eO P w K mg base 2 "by_turns" ["one", "other"] (u4 (XC cl) f')
noncomputable abbrev pQ:Prop:=eO P w K mg base 2 "odds_of" ["web", "some"] (u4 (XC cl) mH)
noncomputable abbrev nG:Prop:=eO P w K mg base 2 "parts_of" ["web"] (u4 (XC cl) kT)
noncomputable abbrev l5:Prop:=eO P w K mg base 1 "places_of" ["leasts", "least"] (u4 (XC cl) iW)
noncomputable abbrev l6:Prop:=eO P w K mg base 1 "other_end" ["tie", "place"] (u4 (XC cl) iX)
noncomputable abbrev l7:Prop:=eO P w K mg base 3 "ways_home" ["web"] (u4 (XC cl) jW)
noncomputable abbrev kX:Prop:=eO P w K mg base 3 "base_rings" ["web", "ways"] (u4 (XC cl) jj)
noncomputable abbrev nH:Prop:=eO P w K mg base 3 "all_from" ["some", "base"] (Oz kW)
noncomputable abbrev l8:Prop:=qu P w K mg base 5 "all_evens" ["web"] (sr (XC cl) jX)
noncomputable abbrev hZ:Prop:=qu P w K mg base 4 "all_joins" ["web", "told"] (sr (XC cl) fS)
noncomputable abbrev jD:Prop:=eO P w K mg base 1 "_law_draw" ["_law_feed_here", "_law_many"] (yF Y fL)
noncomputable abbrev jY:Prop:=eO P w K mg base 2 "_law_price" ["_law_feed_here", "_law_signed"] (yF Y fU)
noncomputable abbrev pR:Prop:=eO P w K mg base 3 "_law_web" ["_law_feed_here", "_law_most", "_law_ties", "_law_signed"] (yF Y mI)
noncomputable abbrev nI:Prop:=eO P w K mg base 2 "_law_some" ["_law_feed_here", "_law_many"] (yF Y iL)
noncomputable abbrev kY:Prop:=eO P w K mg base 1 "_law_odds" ["_law_web_here", "_law_some_here"] (u4 (XC cl) jB)
noncomputable abbrev iq:Prop:=eO P w K mg base 2 "_law_all_sets" ["_law_web_here", "_law_told"] (u4 (XC cl) gJ)
noncomputable abbrev l9:Prop:=eO P w K mg base 6 "_law_right" ["_law_web_here", "_law_told"] (u4 (XC cl) hV)
noncomputable abbrev nK:Prop:=eO P w K mg base 5 "_law_word" ["_law_web_here", "_law_told"] (u4 (XC cl) iM)
end
theorem y3 (ns:List Int):ad.canLayAll0 (ns.map ad.int)=true:=by
 induction ns with
 | nil=>rfl
 | cons n ns ih=>simpa [ad.canLayAll0,ad.canLay0] using ih
theorem Bb (ns:List Int):ad.depthAll (ns.map ad.int)=0:=by
 induction ns with
 | nil=>rfl
 | cons n ns ih=>simpa [ad.depthAll,ad.depth] using ih
structure iU (H:Hp) (fa sa:Addr) (n:Int):Prop where
 ex:∃(ns:List Int) (i c:Int),H fa=some (.lst [.ref sa,.int i,.int c,.int n])/\H sa=some (.lst (ns.map V.int))
 ne:sa≠fa
 lo:0<=n
theorem iU.ext {S:List Addr}{H H':Hp}{fa sa:Addr}{n:Int}(f:iU H fa sa n)(x:Ext S H H')(h1:fa ∉ S)(h2:sa ∉ S):iU H' fa sa n:=by
 obtain⟨ns,i,c,e1,e2⟩:=f.ex;exact⟨⟨ns,i,c,x.keep _ _ h1 e1,x.keep _ _ h2 e2⟩,f.ne,f.lo⟩
theorem iU.put {H:Hp}{fa sa:Addr}{n:Int}(f:iU H fa sa n)(i c n':Int)(h:0<=n'):iU (eZ H fa (.lst [.ref sa,.int i,.int c,.int n'])) fa sa n'/\Ext [fa] H (eZ H fa (.lst [.ref sa,.int i,.int c,.int n'])):=by
 obtain⟨ns,i0,c0,e1,e2⟩:=f.ex;exact⟨⟨⟨ns,i,c,dP,by rw[dY f.ne];exact e2⟩,f.ne,h⟩,.set (!4) e1⟩
noncomputable def Bc:zF where
 iU:=iU
 ext:=λf x h1 h2=>f.ext x h1 h2
 fa:=λf=>let ⟨_,_,_,e,_⟩:=f.ex;by rw[e];simp
 sa:=λf=>let ⟨_,_,_,_,e⟩:=f.ex;by rw[e];simp
 nx:=λf φ=>let ⟨_,_,_,e,_⟩:=f.ex;by rw[e];simp
noncomputable abbrev OM (K:W.Frag):Sp:=qJ Bc K
noncomputable abbrev ON:Sp:=CW Bc
section
variable {P:aP}{w:World}{K:W.Frag}{mg:Str->Option ag}{base:Heap}{f:Addr}{fd:bG}
theorem OO (F:uA K "_law_feed" "_law_feed" (top 26) f fd)(hm:mg "_law_feed" = some (.ref f))(B:sM mg):eO P w K mg base 1 "_law_feed" ["_law_script"] (OM K):=by
 refine⟨f,fd,?_,hm,F.kp,F.binds λ_ _ _ _ _ _ us hl=>by obtain⟨_,rfl⟩:=AM hl;rfl⟩;have sc:fh ["_law_script"] ["_law_script"] (dM (top 26)):=⟨rfl,rfl,rfl,!3,rfl,!3,!3⟩;refine F.K7 sc (λvs H Q E h=>?_) (λfz A outer s H vs Q E hr h=>?_)
 .obtain⟨a,ns,rfl,_⟩:=h
  rfl
 .obtain⟨a,ns,rfl,hs,q⟩:=h
  refine⟨_,(gU (kJ (z4 (gB (xM (Wx K) (qv 0) Cj (Ck eG)) (gB eG (gB eG (gB eG eY))))))),?_⟩;refine⟨_,rfl,63,rfl,a,_,rfl,hs,λp hp=>⟨by show 4<=ax;decide,λl hl=>?_⟩⟩;have mT:p≠l:=λz=>by rw[<- z,dP] at hl;cases hl
  have Y6:H l=none:=by rw[dY mT.symm] at hl;exact hl
  have x:Ext [] H (eZ (eZ H p (.lst (n8 (ns.map V.int) none (some 63)))) l (.lst [.ref p,.int 0,.int 0,.int 0])):=(Ext.new hp).trans (.new hl);refine q l p _ ⟨⟨(ns.drop (HT.gL (ns.map V.int).length 0 none)).take (HT.gL (ns.map V.int).length (ns.map V.int).length (some 63) - HT.gL (ns.map V.int).length 0 none),0,0,dP,?_⟩,mT,!2⟩ x Y6 hp;rw[dY mT,dP];unfold n8;rw[List.map_take,List.map_drop]
theorem OP (F:uA K "_law_draw" "_law_draw" (top 27) f fd)(hm:mg "_law_draw" = some (.ref f))(B:sM mg):eO P w K mg base 1 "_law_draw" ["_law_feed_here", "_law_many"] ON:=by
 refine⟨f,fd,?_,hm,F.kp,F.binds λ_ _ _ _ _ _ us hl=>by obtain⟨_,_,rfl⟩:=Es hl;rfl⟩;have sc:fh ["_law_feed_here", "_law_many", "_law_found", "_law_cell", "_law_mixed"] ["_law_feed_here", "_law_many"] (dM (top 27)):=⟨rfl,rfl,rfl,!3,rfl,!3,!3⟩;refine F.K7 sc (λvs H Q E h=>?_) (λfz A outer s H vs Q E hr h=>?_)
 .obtain⟨fa,sa,n,many,rfl,_⟩:=h
  rfl
 .obtain⟨fa,sa,n,many,rfl,fe,m0,m1,nm,q⟩:=h
  refine⟨_,(fi (vR (gO q8 (jc gf (qv 0) eG (λ_ _=>rfl)) eG) (vQ (qv 0) eG oa))
   (fi (xN (oj KP (jc gf (qv 0) eG (λ_ _=>rfl)) eG (lF _)) (fi (jy (i:=2) sc.nd rfl (Or.inl rfl) (gO m9 (jc gf (qv 0) eG (λ_ _=>rfl)) (qv 1)))
   (fi (vR (gO qA (jc gf (qv 0) eG (λ_ _=>rfl)) (qv 1)) (vQ (qv 0) eG oa))
   (gU (kJ (qv 2))))) oo)
   (fi (jy (i:=3) sc.nd rfl (Or.inl rfl) eG)
   (Cm (xN (oj (Ng hr) (jc gf (qv 0) eG (λ_ _=>rfl)) (z4 eY) (lF _)) (gU (jy (i:=3) sc.nd rfl (Or.inl rfl) (jc gf (jc gf (qv 0) eG (λ_ _=>rfl)) (gO m9 (jc gf (qv 0) eG (λ_ _=>rfl)) (fO kH (by rfl) B.len (!3) (gB (jc gf (qv 0) eG (λ_ _=>rfl)) eY))) (λ_ _=>rfl)))) oo)
   (fi (vR (gO q8 (jc gf (qv 0) eG (λ_ _=>rfl)) eG) (vQ (qv 0) eG oa))
   (Cm (xN (QW.pt (FR (oj Qa (qv 3) (gO ME eG eG) (lF _)) (Ci (oj P' (jc gf (qv 0) eG (λ_ _=>rfl)) (fO kH (by rfl) B.len (!3) (gB (jc gf (qv 0) eG (λ_ _=>rfl)) eY)) (lF _))))) (fi (vR (gO qA (qv 3) (qv 1)) (vQ (qv 0) eG oa))
   (gU (kJ (gO m9 (qv 3) (qv 1))))) oo)
   (fi (jy (i:=4) sc.nd rfl (Or.inl rfl) (gO m9 (gO pk (gO q8 (gO m9 (qv 3) eG) (gO pk eG (jc gf (qv 0) eG (λ_ _=>rfl)))) eG) eG))
   (fi (jy (i:=4) sc.nd rfl (Or.inl rfl) (gO m9 (gO pk (gO q8 (gO qA (qv 4) eG) (gO pk (gO pk eG (jc gf (qv 0) eG (λ_ _=>rfl))) (jc gf (qv 0) eG (λ_ _=>rfl)))) eG) eG))
   (gU (kJ (gO m9 (gO qA (qv 4) eG) (qv 1)))))))))))),?_⟩
  obtain⟨ns,i,c,e1,e2⟩:=fe.ex;have n0:=fe.lo;obtain⟨f1,x1⟩:=fe.put i c (n+1) (!1);refine⟨_,rfl,fa,_,3,_,rfl,rfl,gK.of e1,rfl,n,1,rfl,rfl,_,rfl,fa,_,3,3,rfl,rfl,e1,rfl,?_⟩;refine⟨_,rfl,fa,_,2,_,rfl,rfl,gK.of dP,rfl,c,0,rfl,rfl,_,rfl,M9 (λhc=>?_) (λhc=>?_)⟩
  .refine⟨_,rfl,fa,_,2,_,rfl,rfl,gK.of dP,rfl,_,rfl,c,many,rfl,rfl,m0,?_⟩
   refine⟨_,rfl,fa,_,2,_,rfl,rfl,gK.of dP,rfl,_,rfl,c,many,rfl,rfl,⟨m0,m1⟩,_,rfl,fa,_,2,2,rfl,rfl,dP,rfl,?_⟩;obtain⟨f2,x2⟩:=f1.put i (c / many) (n+1) (!1);exact⟨_,rfl,q _ _ (dG _ (!1)) (dg _ m0) f2 (x1.trans x2)⟩
  .-- the cell
   refine⟨λσ' H'=>∃cell:Int,σ'=[some (.ref fa),some (.int many),none,some (.int cell),none]/\iU H' fa sa (n+1)/\Ext [fa] H H',?_,?_⟩
   .refine⟨_,rfl,fa,_,0,_,rfl,rfl,gK.of dP,rfl,bL _,λp hp=>?_⟩
    have hpf:p≠fa:=λz=>by rw[z,dP] at hp;cases hp
    have x2:Ext [] (eZ H fa (.lst [.ref sa,.int i,.int c,.int (n+1)])) (eZ (eZ H fa (.lst [.ref sa,.int i,.int c,.int (n+1)])) p (.lst [])):=.new hp;have f2:=f1.ext x2 (!4) (!4);have x3:=x1.trans (x2.mono (S':=[fa]) (!4));have a2:(eZ (eZ H fa (.lst [.ref sa,.int i,.int c,.int (n+1)])) p (.lst [])) sa=some (.lst (ns.map V.int)):=x2.keep _ _ (!4) (by rw[dY fe.ne];exact e2);have a1:(eZ (eZ H fa (.lst [.ref sa,.int i,.int c,.int (n+1)])) p (.lst [])) fa=some (.lst [.ref sa,.int i,.int c,.int (n+1)]):=x2.keep _ _ (!4) dP;refine⟨[],.list (ns.map .int),.list [],.lst a2 (!4) (.ints ns),.lst dP (!4) .nil,y3 ns,rfl,by simp[ad.depth,Bb],_,rfl,?_⟩
    cases ns with
    | nil=>exact I8 ⟨7,rfl,f2,x3⟩
    | cons k ns =>
     refine M8 ?_;have hl:(0:Int)<(((k::ns).map V.int).length:Nat):=by simp
     obtain⟨v,hv,Oh⟩:=Ni (xs:=(k::ns).map V.int) (dG i (!1)) (dg i hl)
     obtain⟨z,rfl⟩:∃z,v=V.int z:=by
      rw[aC] at Oh
      cases e:(k::ns)[(i % (((k::ns).map V.int).length:Nat)).toNat]? with
      | none=>rw[e] at Oh;cases Oh
      | some z=>rw[e] at Oh;exact⟨z,(Option.some.inj Oh).symm⟩
     refine⟨_,rfl,fa,_,0,_,rfl,rfl,gK.of a1,rfl,_,rfl,fa,_,1,_,rfl,rfl,gK.of a1,rfl,_,rfl,fa,_,0,_,rfl,rfl,gK.of a1,rfl,sa,_,rfl,.inl (gK.of a2),i,_,rfl,rfl,hl,sa,_,_,_,rfl,rfl,gK.of a2,hv,z,rfl,f2,x3⟩
   .rintro σ' H' ⟨cell,rfl,f2,x2⟩
    obtain⟨Y7,i2,c2,b1,b2⟩:=f2.ex;obtain⟨f3,x3⟩:=f2.put (i2+1) c2 (n+1) (!1);have b3:(eZ H' fa (.lst [.ref sa,.int (i2+1),.int c2,.int (n+1)])) sa=some (.lst (Y7.map V.int)):=by rw[dY fe.ne];exact b2
    refine⟨_,rfl,fa,_,1,_,rfl,rfl,gK.of b1,rfl,i2,1,rfl,rfl,_,rfl,fa,_,1,1,rfl,rfl,b1,rfl,?_⟩;refine⟨λσ' H2=>σ'=[some (.ref fa),some (.int many),none,some (.int cell),none]/\H2=eZ H' fa (.lst [.ref sa,.int (i2+1),.int c2,.int (n+1)]),?_,?_⟩
    .refine⟨_,rfl,10,18,rfl,rfl,⟨!2,!2,!2⟩,cell,_,rfl,rfl,_,rfl,M9 (λhb=>?_) (λhb=>?_)⟩
     .refine⟨_,rfl,fa,_,1,_,rfl,rfl,gK.of dP,rfl,_,rfl,fa,_,0,_,rfl,rfl,gK.of dP,rfl,sa,_,rfl,.inl (gK.of b3),_,_,rfl,rfl,_,rfl,M9 (λhd=>?_) (λhd=>?_)⟩
      .refine⟨_,rfl,_,rfl,cell,many,rfl,rfl,⟨m0,m1⟩,_,rfl,fa,_,2,2,rfl,rfl,dP,rfl,?_⟩
       obtain⟨f4,x4⟩:=f3.put (i2+1) (cell / many) (n+1) (!1);exact⟨_,rfl,_,rfl,cell,many,rfl,rfl,m0,q _ _ (dG _ (!1)) (dg _ m0) f4 ((x2.trans x3).trans x4)⟩
      .exact⟨rfl,rfl⟩
     .exact I8 ⟨rfl,rfl⟩
    .rintro σ' H2 ⟨rfl,rfl⟩
     have nb:-(2 ^ 64)<n+1/\n+1<2 ^ 64:=by
      have:kn=1099511627776:=rfl;constructor<;>omega
     refine⟨_,rfl,_,_,rfl,rfl,(by show (0:Int)<1000000007;decide),_,rfl,fa,_,3,_,rfl,rfl,gK.of dP,rfl,_,_,rfl,rfl,.inl ⟨!2,!2⟩,_,_,rfl,rfl,_,_,rfl,rfl,.inr ⟨!2,!2⟩,_,_,rfl,rfl,(by show (0:Int)<2147483629;decide),?_⟩;refine⟨_,rfl,_,_,rfl,rfl,⟨!2,!2⟩,_,rfl,fa,_,3,_,rfl,rfl,gK.of dP,rfl,_,_,rfl,rfl,.inl ⟨!2,!2⟩,_,rfl,fa,_,3,_,rfl,rfl,gK.of dP,rfl,_,_,rfl,rfl,.inr nb,_,_,rfl,rfl,_,_,rfl,rfl,.inr ⟨!2,!2⟩,_,_,rfl,rfl,(by show (0:Int)<2147483587;decide),?_⟩;exact⟨_,rfl,_,_,rfl,rfl,⟨!2,!2⟩,_,rfl,_,_,rfl,rfl,m0,q _ _ (dG _ (!1)) (dg _ m0) f3 (x2.trans x3)⟩
end
end Odj
namespace L2
open PySem
theorem Ext.put {S:List Addr}{H0 H:Hp}{p:Addr}{o:HO}(a:Ext S H0 H)(h0:H0 p=none):Ext S H0 (eZ H p o) :=
 ⟨λb u hb e=>by rw[dY (λz=>by rw[z,h0] at e;cases e)];exact a.keep b u hb e,λb ys e=>by rw[dY (λz=>by rw[z,h0] at e;cases e)];exact a.tup b ys e⟩
end L2
namespace Odj
open PySem L2
noncomputable def gc (o:tD):List (Key × V):=o.map λp=>((Sum.inl p.1:Key),V.bl p.2)
theorem vj (o:tD)(k:Int):ie (gc o) (Sum.inl k)=((o.find? λp=>decide (p.1=k)).map (·.2)).map V.bl:=by
 induction o with
 | nil=>rfl
 | cons p o ih =>
  have e:gc (p::o)=((Sum.inl p.1:Key),V.bl p.2)::gc o:=rfl;by_cases h:p.1=k
  .rw[e,gg (by rw[h]),bP]
   simp[h]
  .rw[e,gi (λz=>h (Sum.inl.inj z)),ih,bP]
   simp[h]
theorem oV (o:tD)(k:Int):(ie (gc o) (Sum.inl k)).getD (.bl false)=.bl (gR o k):=by
 rw[vj];unfold gR;cases (o.find? λp=>decide (p.1=k))<;>rfl
theorem De {o:tD}(h:(fq o).Nodup){i:Nat}{p:Int × Bool}(hp:o[i]? = some p):ie (gc o) (Sum.inl p.1)=some (.bl p.2):=by
 have e:=Hq h hp;rw[vj];unfold gR at e
 cases hf:(o.find? λq=>decide (q.1=p.1)) with
 | none =>
  have:=List.find?_eq_none.mp hf p (bO hp);simp at this
 | some q =>
  rw[hf] at e;have e':q.2=p.2:=e;simp[e']
theorem sN (o:tD)(k:Int):kK (gc o) (Sum.inl k) (.bl (!gR o k))=gc (fR o k):=by
 have ha:((gc o).any λkv=>decide (kv.1=Sum.inl k))=o.any λp=>decide (p.1=k):=by
  unfold gc;rw[List.any_map];congr 1;funext p;show decide ((Sum.inl p.1:Key)=Sum.inl k)=decide (p.1=k);by_cases h:p.1=k
  .simp[h]
  .have:¬ (Sum.inl p.1:Key)=Sum.inl k:=λz=>h (Sum.inl.inj z)
   simp[h]
 unfold kK fR;rw[ha];split
 .unfold gc
  rw[bu,bu];apply cA;intro p _;simp only[Function.comp];by_cases h:p.1=k
  .simp[h]
  .have:¬ (Sum.inl p.1:Key)=Sum.inl k:=λz=>h (Sum.inl.inj z)
   simp[h]
 .unfold gc
  rw[a8];rfl
theorem oW (o:tD):(gc o).length=o.length:=by unfold gc;rw[ak]
theorem vk (row:List Int)(k:Int):eA (row++[k])=fR (eA row) k:=by
 unfold eA;rw[List.foldl_append];rfl
noncomputable def Kg (row ns:List Int):Prop:=ns.Perm (jV (eA row))/\ns.Pairwise (·<=·)
theorem Bd (o:tD)(k j:Int):gR (fR o k) j=if j=k then !gR o k else gR o j:=by
 have e:=oV (fR o k) j;rw[<- sN,FZ] at e;by_cases h:j=k
 .subst h
  rw[if_pos rfl] at e;rw[if_pos rfl];exact (V.bl.inj e).symm
 .rw[if_neg (λz=>h (Sum.inl.inj z)),oV] at e
  rw[if_neg h];exact (V.bl.inj e).symm
theorem sO (k:Int):∀(row:List Int) (o:tD),gR (row.foldl fR o) k=(gR o k != decide (row.count k % 2=1))
 | [],o=>by simp
 | x::row,o=>by
  rw[cu,sO k row,Bd,cS];by_cases h:k=x
  .subst h
   rw[if_pos rfl];have h2:=Nat.mod_two_eq_zero_or_one (row.count k);rcases h2 with z | z
   .have e1:(row.count k+if (k == k)=true then 1 else 0) % 2=1:=by simp;omega
    simp only[e1,z];cases gR o k<;>rfl
   .have e1:(row.count k+if (k == k)=true then 1 else 0) % 2=0:=by simp;omega
    simp only[e1,z];cases gR o k<;>rfl
  .rw[if_neg h]
   have e1:(x == k)=false:=by
    rw[beq_eq_false_iff_ne];exact λz=>h z.symm
   simp[e1]
theorem qk (row:List Int)(k:Int):gR (eA row) k=decide (row.count k % 2=1):=by
 unfold eA;rw[sO];have:gR [] k=false:=rfl;rw[this];cases decide (row.count k % 2=1)<;>rfl
theorem sP:∀(row:List Int) (o:tD),(fq o).Nodup->(fq (row.foldl fR o)).Nodup
 | [],o,h=>h
 | x::row,o,h=>sP row _ (A8 h)
theorem kZ (row:List Int):(fq (eA row)).Nodup:=sP row [] (by simp[fq])
theorem sQ:∀(row:List Int) (o:tD),(row.foldl fR o).length<=o.length+row.length
 | [],o=>by simp
 | x::row,o=>by
  rw[cu,ap];have:=sQ row (fR o x);have:=Hn o x;omega
theorem nL (row:List Int):(eA row).length<=row.length:=by
 have:=sQ row [];unfold eA;simpa using this
theorem Kh {o:tD}{k:Int}(h:gR o k=true):k∈fq o:=by
 unfold gR at h
 cases hf:(o.find? λp=>decide (p.1=k)) with
 | none=>rw[hf] at h;cases h
 | some p=>exact a5.mpr ⟨p,List.mem_of_find?_eq_some hf,by simpa using List.find?_some hf⟩
theorem Hr {o:tD}(hn:(fq o).Nodup):jV o=(fq o).filter (gR o):=by
 unfold jV fq;rw[List.filter_map];congr 1;apply List.filter_congr;intro p hp;obtain⟨i,hi⟩:=List.getElem?_of_mem hp;exact (Hq hn hi).symm
theorem qO {row ns:List Int}(h:Kg row ns):Ba row ns/\ns.length<=row.length:=by
 have hn:=kZ row;have ht:=Hr hn;have VN:ns.Nodup:=h.1.symm.nodup (by rw[ht];exact hn.filter _);refine⟨⟨?_,λk=>?_⟩,?_⟩
 .have:=h.2.and VN
  exact this.imp λz=>by
   have h1:=z.1;have h2:=z.2;omega
 .rw[h.1.mem_iff,ht,aW,qk]
  constructor
  .intro z;exact of_decide_eq_true z.2
  .intro z
   exact⟨Kh (by rw[qk];exact decide_eq_true z),decide_eq_true z⟩
 .rw[h.1.length_eq]
  unfold jV;rw[ak];exact aU (bw _ _) (nL row)
noncomputable def EE:Sp:=λvs H Q _=>∃(a:Addr) (row:List Int),vs=[.ref a]/\(H a=some (.lst (row.map V.int))\/H a=some (.tup (row.map V.int)))/\(eA row).length<=60/\row.length<=100000 /\
 ∀(ns:List Int) (p:Addr) (H':Hp),Ba row ns->ns.length<=row.length->H' p=some (.tup (ns.map V.int))->Ext [] H H'->Q (.ref p) H'
section
variable {P:aP}{w:World}{K:W.Frag}{mg:Str->Option ag}{base:Heap}{f:Addr}{fd:bG}
theorem y4 (F:uA K "odd_ones" "odd_ones" (top 10) f fd)(hm:mg "odd_ones" = some (.ref f))(B:sM mg):eO P w K mg base 1 "odd_ones" ["row"] EE:=by
 refine⟨f,fd,?_,hm,F.kp,F.binds λ_ _ _ _ _ _ us hl=>by obtain⟨_,rfl⟩:=AM hl;rfl⟩;have sc:fh ["row", "odd", "number"] ["row"] (dM (top 10)):=⟨rfl,rfl,rfl,!3,rfl,!3,!3⟩;refine F.K7 sc (λvs H Q E h=>?_) (λfz A outer s H vs Q E hr h=>?_)
 .obtain⟨a,row,rfl,_⟩:=h
  rfl
 .obtain⟨a,row,rfl,ha,hb,Pj,q⟩:=h
  have hsz:ax=16777216:=by decide
  have hu:=Qw hr;rcases ha with ha | ha
  .skip
   refine⟨_,(fi (jy (i:=1) sc.nd rfl (Or.inr rfl) rH)
   (fi (z6 PassesOwn.never rfl (FX K (qv 0)) (om (i:=2) sc.nd rfl (Or.inl rfl)) (gU (vT hu (qv 1) (qv 2) (z3 (rJ hu (qv 1) (qv 2) FQ ⟨rfl,rfl,rfl,rfl⟩)))))
   (gU (kJ (g7 (z7 K) (by rfl) B.tuple (!3) (gB (fO (oz K) (by rfl) B.sorted (!3) (gB (vS (N:=["number", "odd"]) (mp:=[none,some 1]) rfl (Cp (qv 1)) rfl (by show i7 ["row", "odd", "number"] (dM (top 10)) _ _ _=true;decide +kernel) λ_ _ _ _ _=>⟨(om (i:=0) (by show List.Nodup [("number" : Str),("odd" : Str)];decide +kernel) rfl (Or.inl rfl)),(z5 (zZ (qD hu (qv 1) (qv 0) (λ_ _=>rfl)))),(qv 0)⟩) eY)) eY)))))),?_⟩
   intro d hd;have Q9:a≠d:=eK ha hd
   refine⟨_,rfl,a,rfl,⟨_,gK.of (by rw[dY Q9];exact ha)⟩,Fs (xs:=row.map V.int) (λi σ' H'=>(∃y,σ'=[some (.ref a),some (.ref d),y])/\H' d=some (.dK (gc (eA (row.take i))))/\Ext [] H H')
    ⟨⟨none,rfl⟩,dP,.new hd⟩ (λi σ' H' _ h=>gK.of (h.2.2.keep _ _ (!4) ha)) ?_ ?_⟩
   .rintro i x σ' H' hx ⟨⟨y,rfl⟩,hD,x1⟩
    rw[aC] at hx
    cases hk:row[i]? with
    | none=>rw[hk] at hx;cases hx
    | some k =>
     rw[hk] at hx;cases hx;have ol:=nL (row.take i);rw[bQ] at ol;refine⟨_,rfl,d,rfl,.inl ⟨_,.inl hD⟩,_,rfl,_,ly.k (k:=Sum.inl k) hD,_,oV _ _,_,rfl,_,rfl,d,_,rfl,rG.k (k:=Sum.inl k) hD (by rw[oW];omega),⟨_,rfl⟩,?_,x1.put hd⟩;rw[dP,sN,dk,hk];show _=some (HO.dK (gc (eA (row.take i++[k]))));rw[vk]
   .rintro σ' H' ⟨⟨y,rfl⟩,hD,x1⟩
    rw[bC (by rw[ak];exact am _)] at hD;have ol:(eA row).length<=60/\(fq (eA row)).Nodup:=⟨hb,kZ row⟩
    refine⟨_,rfl,d,_,rfl,hD,λo=>uN (λi ys σ' H2=>(∃y,σ'=[y,some (.ref d)])/\H2=eZ H' d (.qR o (.dK (gc (eA row))))/\ys=(((eA row).take i).filter (·.2)).map λp=>V.int p.1) ⟨⟨none,rfl⟩,rfl,rfl⟩
     (λi ys σ' H2 h=>by rw[h.2.1];exact dP) ?_ ?_⟩
    .rintro i k v ys σ' H2 EF ⟨⟨y,rfl⟩,rfl,rfl⟩
     unfold gc at EF;rw[aC] at EF
     cases hp:(eA row)[i]? with
     | none=>rw[hp] at EF;cases EF
     | some p =>
      rw[hp] at EF;cases EF
      have hl:((((eA row).take i).filter (·.2)).map λp=>V.int p.1).length<ax:=by
       rw[ak];have:=bw (·.2) ((eA row).take i);rw[bQ] at this;omega
      refine⟨hl,_,rfl,_,rfl,d,.bl p.2,rfl,.inl ⟨_,Sum.inl p.1,.inr ⟨o,dP⟩,rfl,(De ol.2 hp).symm⟩,_,rfl,?_⟩;have et:(eA row).take (i+1)=(eA row).take i++[p]:=by rw[dk,hp];rfl
      cases Hs:p.2 with
      | true=>exact M8 ⟨_,rfl,⟨_,rfl⟩,rfl,by rw[et,cJ,a8];simp[cR,Hs];rfl⟩
      | false=>exact I8 ⟨⟨_,rfl⟩,rfl,by rw[et,cJ,a8];simp[cR,Hs]⟩
    .rintro ys σ' H2 ⟨⟨y,rfl⟩,rfl,rfl⟩
     rw[bC (by rw[oW];exact am _)];have e:((eA row).filter (·.2)).map (λp=>V.int p.1)=(jV (eA row)).map V.int:=by unfold jV;rw[bu];rfl
     rw[e]
     have hl:(jV (eA row)).length<=60:=by
      unfold jV;rw[ak];have:=bw (·.2) (eA row);omega
     refine⟨by rw[ak];omega,λD VO=>⟨D,jV (eA row),rfl,gK.of dP,!1,λl ms p1 p2 Ca=>⟨l,_,rfl,.inl ⟨gK.of dP,λt ht=>q ms t _ (qO ⟨p1,p2⟩).1 (qO ⟨p1,p2⟩).2 dP ?_⟩⟩⟩⟩;exact (((x1.put hd).trans (.new VO)).trans (.new Ca)).trans (.new ht)
  .skip
   refine⟨_,(fi (jy (i:=1) sc.nd rfl (Or.inr rfl) rH)
   (fi (z6 PassesOwn.never rfl (Jn K (qv 0)) (om (i:=2) sc.nd rfl (Or.inl rfl)) (gU (vT hu (qv 1) (qv 2) (z3 (rJ hu (qv 1) (qv 2) FQ ⟨rfl,rfl,rfl,rfl⟩)))))
   (gU (kJ (g7 (z7 K) (by rfl) B.tuple (!3) (gB (fO (oz K) (by rfl) B.sorted (!3) (gB (vS (N:=["number", "odd"]) (mp:=[none,some 1]) rfl (Cp (qv 1)) rfl (by show i7 ["row", "odd", "number"] (dM (top 10)) _ _ _=true;decide +kernel) λ_ _ _ _ _=>⟨(om (i:=0) (by show List.Nodup [("number" : Str),("odd" : Str)];decide +kernel) rfl (Or.inl rfl)),(z5 (zZ (qD hu (qv 1) (qv 0) (λ_ _=>rfl)))),(qv 0)⟩) eY)) eY)))))),?_⟩
   intro d hd;have Q9:a≠d:=eK ha hd
   refine⟨_,rfl,a,rfl,⟨_,ja.of (by rw[dY Q9];exact ha)⟩,IC (K:=K) (a:=a) (xs:=row.map V.int) (λi σ' H'=>(∃y,σ'=[some (.ref a),some (.ref d),y])/\H' d=some (.dK (gc (eA (row.take i))))/\Ext [] H H')
    ⟨⟨none,rfl⟩,dP,.new hd⟩ (λi σ' H' _ h=>ja.of (h.2.2.tup _ _ ha)) ?_ ?_⟩
   .rintro i x σ' H' hx ⟨⟨y,rfl⟩,hD,x1⟩
    rw[aC] at hx
    cases hk:row[i]? with
    | none=>rw[hk] at hx;cases hx
    | some k =>
     rw[hk] at hx;cases hx;have ol:=nL (row.take i);rw[bQ] at ol;refine⟨_,rfl,d,rfl,.inl ⟨_,.inl hD⟩,_,rfl,_,ly.k (k:=Sum.inl k) hD,_,oV _ _,_,rfl,_,rfl,d,_,rfl,rG.k (k:=Sum.inl k) hD (by rw[oW];omega),⟨_,rfl⟩,?_,x1.put hd⟩;rw[dP,sN,dk,hk];show _=some (HO.dK (gc (eA (row.take i++[k]))));rw[vk]
   .rintro σ' H' ⟨⟨y,rfl⟩,hD,x1⟩
    rw[bC (by rw[ak];exact am _)] at hD;have ol:(eA row).length<=60/\(fq (eA row)).Nodup:=⟨hb,kZ row⟩
    refine⟨_,rfl,d,_,rfl,hD,λo=>uN (λi ys σ' H2=>(∃y,σ'=[y,some (.ref d)])/\H2=eZ H' d (.qR o (.dK (gc (eA row))))/\ys=(((eA row).take i).filter (·.2)).map λp=>V.int p.1) ⟨⟨none,rfl⟩,rfl,rfl⟩
     (λi ys σ' H2 h=>by rw[h.2.1];exact dP) ?_ ?_⟩
    .rintro i k v ys σ' H2 EF ⟨⟨y,rfl⟩,rfl,rfl⟩
     unfold gc at EF;rw[aC] at EF
     cases hp:(eA row)[i]? with
     | none=>rw[hp] at EF;cases EF
     | some p =>
      rw[hp] at EF;cases EF
      have hl:((((eA row).take i).filter (·.2)).map λp=>V.int p.1).length<ax:=by
       rw[ak];have:=bw (·.2) ((eA row).take i);rw[bQ] at this;omega
      refine⟨hl,_,rfl,_,rfl,d,.bl p.2,rfl,.inl ⟨_,Sum.inl p.1,.inr ⟨o,dP⟩,rfl,(De ol.2 hp).symm⟩,_,rfl,?_⟩;have et:(eA row).take (i+1)=(eA row).take i++[p]:=by rw[dk,hp];rfl
      cases Hs:p.2 with
      | true=>exact M8 ⟨_,rfl,⟨_,rfl⟩,rfl,by rw[et,cJ,a8];simp[cR,Hs];rfl⟩
      | false=>exact I8 ⟨⟨_,rfl⟩,rfl,by rw[et,cJ,a8];simp[cR,Hs]⟩
    .rintro ys σ' H2 ⟨⟨y,rfl⟩,rfl,rfl⟩
     rw[bC (by rw[oW];exact am _)];have e:((eA row).filter (·.2)).map (λp=>V.int p.1)=(jV (eA row)).map V.int:=by unfold jV;rw[bu];rfl
     rw[e]
     have hl:(jV (eA row)).length<=60:=by
      unfold jV;rw[ak];have:=bw (·.2) (eA row);omega
     refine⟨by rw[ak];omega,λD VO=>⟨D,jV (eA row),rfl,gK.of dP,!1,λl ms p1 p2 Ca=>⟨l,_,rfl,.inl ⟨gK.of dP,λt ht=>q ms t _ (qO ⟨p1,p2⟩).1 (qO ⟨p1,p2⟩).2 dP ?_⟩⟩⟩⟩;exact (((x1.put hd).trans (.new VO)).trans (.new Ca)).trans (.new ht)
theorem vm:∀(row:List Int) (o:tD) (k:Int),k∈fq (row.foldl fR o)->k∈fq o\/k∈row
 | [],o,k,h=>.inl h
 | x::row,o,k,h=>by
  rcases vm row _ k h with h | h
  .rcases Ho h with h | h
   .exact .inr (by rw[h];exact ar ..)
   .exact .inl h
  .exact .inr (ao _ h)
theorem EG (row:List Int)(k:Int)(h:k∈fq (eA row)):k∈row:=by
 rcases vm row [] k h with h | h
 .simp[fq] at h
 .exact h
theorem k8 {S:List Addr}{H:Hp}:∀ns:List Int,dS S H (ns.map .int) (ns.map V.int)
 | []=>.nil
 | n::ns=>.cons (.int n) (k8 ns)
theorem Ht {row ns:List Int}(h:Ba row ns):ns=eF row:=by
 refine sL h.1 (mE _) λk=>?_;unfold eF;rw[h.2,iK,aW];constructor
 .intro z
  exact⟨cK.mp (!1),decide_eq_true z⟩
 .intro z
  exact of_decide_eq_true z.2
theorem vn (row:List Int):(eA row).length<=(jQ row).length:=by
 have h:=fH (kZ row) (ns:=jQ row) λk hk=>jr.mpr ?_
 .unfold fq at h
  rwa [ak] at h
 .exact EG row k hk
theorem Be (F:uA K "odd_ones" "odd_ones" (top 10) f fd)(hm:mg "odd_ones" = some (.ref f))(B:sM mg){C:Xc}:eO P w K mg base 1 "odd_ones" ["row"] (u4 C f9) :=
 (y4 F hm B).imp λvs H Q E ⟨S,ds,n,Qp,Xp,r,has,hF,hq,_⟩=>by
  unfold f9 at hF;split at hF
  .rename_i es
   obtain⟨row,e,⟨h1,h2⟩,q⟩:=hF;obtain⟨v,t,rfl,rv,rn⟩:=r.of_cons;cases rn.fB;obtain⟨a,xs,rfl,ha,_,rs⟩:=rv.fG;rw[iI e] at rs;rw[jq rs] at ha;refine⟨a,row,rfl,.inl ha,aU (vn row) h1,h2,λns p H' ho _ hp x=>hq _ _ H' (.tup hp (k8 _)) x ?_⟩;rw[Ht ho];exact q
  .rename_i es
   obtain⟨row,e,⟨h1,h2⟩,q⟩:=hF;obtain⟨v,t,rfl,rv,rn⟩:=r.of_cons;cases rn.fB;obtain⟨a,xs,rfl,ha,rs⟩:=rv.fX;rw[iI e] at rs;rw[jq rs] at ha;refine⟨a,row,rfl,.inr ha,aU (vn row) h1,h2,λns p H' ho _ hp x=>hq _ _ H' (.tup hp (k8 _)) x ?_⟩;rw[Ht ho];exact q
  .exact hF.elim
end
end Odj
namespace Odj
open PySem PySem.Spec L2
section
variable {P:aP}{w:World}{K:W.Frag}{mg:Str->Option ag}{base:Heap}{f:Addr}{fd:bG}{cl:Str->Addr}{Y:zF}
theorem EH {C J:Addr}(F:uA K "__init__" "TooMany.__init__" (uX (top 7) 0) f fd)(r:RF K C J f)(j:NJ K J)(m:mg "TooMany" = some (.ref C))(n0:W.findIn K (.ref C) "word" = some none):mB P w K mg base "TooMany" C (Gn C "word"):=by
 have sc:fh ["self", "word"] ["self", "word"] (dM (uX (top 7) 0)):=⟨rfl,rfl,rfl,!3,rfl,!3,!3⟩;refine Gu r j m (ps:=["self", "word"]) (F.K7 (k:=0) sc (λvs H Q E h=>?_) (λfz A outer s H vs Q E hr h=>?_)) (F.binds λ_ _ _ _ _ _ us hl=>match us,hl with | [_,_],_=>rfl)
 .obtain⟨x,a,rfl,_⟩:=h
  rfl
 .obtain⟨x,a,rfl,hx,q⟩:=h
  exact⟨_,(gU (Jw K C (qv 0) (qv 1))),_,rfl,_,rfl,x,rfl,(r.mk' j).ec,n0,.inl ⟨hx,q⟩⟩
end
section
variable {P:aP}{w:World}{K:W.Frag}{mg:Str->Option ag}{base:Heap}{f:Addr}{fd:bG}{cl:Str->Addr}{Y:zF}
theorem Bf (F:FM K mg "by_turns" (top 12))(B:sM mg)(iN:nF P w K mg base cl) :
  gW P w K mg base cl :=
 lT nz N2 F λsc f fz A outer s H E n0 S has hr hu =>
 (d8 (ik (fZ iN (RM hr) (dW (jA lp (fK 0) (fK 1)) dO))))
theorem EI (F:FM K mg "odds_of" (top 13))(B:sM mg)(iN:nF P w K mg base cl) :
  pQ P w K mg base cl :=
 lT pO N3 F λsc f fz A outer s H E n0 S has hr hu =>
 (eI (JS 2 sc.nd (j4 dO))
 (eI (lq PassesOwn.never rfl (CP 1) (oP 3 sc.nd)
 (d8 (sf 2 PySem.F.plainAttrs_list PySem.F.slot_list_extend PySem.F.type_list_extend (GP) (dW (NY (KE.loose (gM (KE.loose (gM (fK 0) (KE.loose d6))) (fK 3))) we (wg d6)) dO))))
 (d8 (ik (JJ iN (RM hr) (ig (fK 2) fP))))))
theorem Bg (F:FM K mg "parts_of" (top 14))(B:sM mg)(ma:l5 P w K mg base cl) :
  nG P w K mg base cl :=
 lT nA N5 F λsc f fz A outer s H E n0 S has hr hu =>
 (eI (gD 1 sc.nd (KN.data (JK B.list B.range rfl (gM (fK 0) (KE.loose d6)))) (Or.inr rfl))
 (eI (lq PassesOwn.never rfl (GK (gM (fK 0) (KE.loose d6))) (oP 2 sc.nd)
 (eI (gD 3 sc.nd (Ax (N0 rfl) B.min (ig (KE.loose (gM (fK 1) (KE.loose (gM (fK 2) (KE.loose d6))))) (ig (KE.loose (gM (fK 1) (KE.loose (gM (fK 2) (KE.loose d6))))) fP))) (Or.inr rfl))
 (eI (gD 4 sc.nd (Ax (N1 rfl) B.max (ig (KE.loose (gM (fK 1) (KE.loose (gM (fK 2) (KE.loose d6))))) (ig (KE.loose (gM (fK 1) (KE.loose (gM (fK 2) (KE.loose d6))))) fP))) (Or.inr rfl))
 (d8 (gD 1 sc.nd (KN.data (i9 [] (N:=N6) (mp:=[none,some 3,some 4]) rfl (r6 (fK 1)) rfl (co N5 (dM (top 14))) (λ_ _ _ _ _=>⟨(oP 0 (nd N6)),kP,(JC (gH (pF hu) (fK 0) (fK 2)) (gC 1) (gC 0))⟩) (hfd:=Ig))) (Or.inr rfl))))))
 (d8 (ik (wj jO B.tuple (ig (KE.loose (KN.data (i9 [] (N:=N4) (mp:=[none,some 1]) rfl (r6 (KE.loose (KN.data (JL B.sorted B.set rfl (fK 1))))) rfl (co N5 (dM (top 14))) (λ_ _ _ _ _=>⟨(oP 0 (nd N4)),kP,(fZ ma (RM hr) (dW (gC 1) (dW (gC 0) dO)))⟩) (hfd:=Ig)))) fP))))))
theorem y6 (F:FM K mg "places_of" (top 15))(B:sM mg) :
  l5 P w K mg base cl :=
 lT lV N8 F λsc f fz A outer s H E n0 S has hr hu =>
 (d8 (ik (wj jO B.tuple (ig (KE.loose (KN.data (i9 [] (N:=N7) (mp:=[none,none,some 1]) rfl (GI B.enumerate (fK 0)) rfl (co N8 (dM (top 15))) (λ_ _ _ _ _=>⟨(Ve (n':=2) rfl (Ek (oP 1 (nd N7)) (Ek (oP 0 (nd N7)) Az)) (Vx [1,0]) rfl),(sd (gH (pF hu) (fK 0) (fK 2))),(gC 1)⟩) (hfd:=Ig)))) fP))))
end
section
variable {P:aP}{w:World}{K:W.Frag}{mg:Str->Option ag}{base:Heap}{f:Addr}{fd:bG}{cl:Str->Addr}{Y:zF}
theorem y7 (F:FM K mg "other_end" (top 17))(B:sM mg) :
  l6 P w K mg base cl :=
 lT lW N9 F λsc f fz A outer s H E n0 S has hr hu =>
 (d8 (ik (JC (gH (pF hu) (KE.loose (gM (fK 0) (KE.loose d6))) (fK 1)) (gM (fK 0) (KE.loose d6)) (gM (fK 0) (KE.loose d6)))))
theorem y8 (F:FM K mg "ways_home" (top 20))(B:sM mg)(me:l6 P w K mg base cl)(eL:gW P w K mg base cl)(nM:nG P w K mg base cl) :
  l7 P w K mg base cl :=
 lT lX Y0 F λsc f fz A outer s H E n0 S has hr hu =>
 (eI (Dc (i:=1) sc.nd (Or.inl rfl) (hfd:=(nf 1 [])))
 (eI (lq PassesOwn.never rfl (GK (fZ nM (RM hr) (dW (gC 0) dO))) (oP 2 sc.nd)
 (d8 (A5 1 (Av hu) (KE.loose (gM (fK 2) (KE.loose d6))) (gw dO))))
 (eI (gD 3 sc.nd qw)
 (eI (JH PassesOwn.never (rT (gC 3))
 (eI (gD 3 sc.nd qw)
 (d8 (lq PassesOwn.never rfl (Of B.enumerate (gM (fK 0) (KE.loose d6))) (Ve (n':=2) rfl (Ek (oP 4 sc.nd) (Ek (oP 5 sc.nd) Az)) (Vx [4,5]) rfl)
 (d8 (pG (gH (Ei hu) (KE.loose (LK 1 (Av hu) (KE.loose (gM (fK 5) (KE.loose d6))))) (KE.loose (LK 1 (Av hu) (KE.loose (gM (fK 5) (KE.loose d6)))))) (eI (gD 6 sc.nd (JC (R9 1 (Av hu) (KE.loose (gM (fK 5) (KE.loose d6)))) (gM (fK 5) (KE.loose d6)) (gM (fK 5) (KE.loose d6))))
 (eI (A5 1 (Av hu) (KE.loose (fZ me (RM hr) (dW (gC 5) (dW (gC 6) dO)))) (fZ eL (RM hr) (dW (Hj 1 (Av hu) (fK 6)) (dW (gw (dW (gC 4) dO)) dO))))
 (d8 (gD 3 sc.nd qw)))) gN))))))
 (d8 (Og 1))))))
theorem wU (F:FM K mg "base_rings" (top 21))(B:sM mg)(eL:gW P w K mg base cl) :
  kX P w K mg base cl :=
 lT kU VL F λsc f fz A outer s H E n0 S has hr hu =>
 (eI (GN (i:=2) false [] sc.nd (N:=VM) (mp:=[none,none,some 1]) rfl (GI B.enumerate (KE.loose (gM (fK 0) (KE.loose d6)))) rfl (co VL (dM (top 21))) (λ_ _ _ _ _=>⟨(Ve (n':=2) rfl (Ek (oP 0 (nd VM)) (Ek (oP 1 (nd VM)) Az)) (Vx [0,1]) rfl),kP,(fZ eL (RM hr) (dW (gw (dW (gC 0) dO)) (dW (fZ eL (RM hr) (dW (A7 (Av hu) (fK 2) (KE.loose (gM (fK 1) (KE.loose d6)))) (dW (A7 (Av hu) (fK 2) (KE.loose (gM (fK 1) (KE.loose d6)))) dO))) dO)))⟩) (hfd:=Ig) (hfi:=(nf 2 [])))
 (d8 (ik (KN.data (i9 [] (N:=W0) (mp:=[none]) rfl (r6 (fK 2)) rfl (co VL (dM (top 21))) (λ_ _ _ _ _=>⟨(oP 0 (nd W0)),(sd (gH (Ei hu) (fK 0) (KE.loose (gw dO)))),(gC 0)⟩) (hfd:=Ig))))))
theorem Bh (F:FM K mg "all_from" (top 22))(B:sM mg)(eL:gW P w K mg base cl) :
  nH P w K mg base  :=
 Vy (C:=XC λ_=>0) nB W3 F λsc f fz A outer s H E n0 S has hr hu =>
 (so (gD 2 sc.nd (KN.data (j4 (dW (gC 0) dO)))) (so (lq PassesOwn.never rfl (CP 1) (oP 3 sc.nd (Or.inr rfl))
 (d8 (gD 2 sc.nd (jA lp (fK 2) (KE.loose (KN.data (i9 [] (N:=W2) (mp:=[none,some 3]) rfl (r6 (fK 2)) rfl (co W3 (dM (top 22))) (λ_ _ _ _ _=>⟨(oP 0 (nd W2)),kP,(fZ eL (RM hr) (dW (gC 0) (dW (gC 1) dO)))⟩) (hfd:=Ig)))))))) (qL (wM B.sorted hu (fK 2)))))
end
section
variable {P:aP}{w:World}{K:W.Frag}{mg:Str->Option ag}{base:Heap}{f:Addr}{fd:bG}{cl:Str->Addr}{Y:zF}
theorem y9 (F:FM K mg "all_evens" (top 23))(B:sM mg)(eW:hZ P w K mg base cl) :
  l8 P w K mg base cl :=
 LD lZ Y2 F λsc f fz A outer s H E n0 S has Ex hx hr hu NK =>
 (qL (yR E Ex eW (RM hr) NK hx (dW (gC 0) (dW (gw dO) dO))))
theorem y' (F:FM K mg "all_joins" (top 24))(B:sM mg)(ir:∃t,mg "MOST_BASE_RINGS" = some (.int 10 t))(mf:l7 P w K mg base cl)(k9:kX P w K mg base cl)(eL:gW P w K mg base cl)(pS:pQ P w K mg base cl)(nN:nH P w K mg base )(pT:mB P w K mg base "TooMany" (cl "TooMany") (Gn (cl "TooMany") "word")) :
  hZ P w K mg base cl :=
 LD lY Y3 F λsc f fz A outer s H E n0 S has Ex hx hr hu NK =>
 (so (gD 2 sc.nd (fZ mf (RM hr) (dW (gC 0) dO)))
 (so (gD 3 sc.nd (fZ k9 (RM hr) (dW (gC 0) (dW (gC 2) dO))))
 (so (pG (gH NS (KE.loose (Ax yt B.len (ig (fK 3) fP))) (KE.loose (Va ir))) (d8 (GQ E Ex (XC cl) pT (show FL "TooMany" = (["word"]:List Str) by decide +kernel) (RM hr) NK rfl hx (dW CC dO))) gN)
 (so (gD 4 sc.nd (gw dO))
 (so (lq PassesOwn.leaving rfl (CP 1) (oP 5 sc.nd)
 (d8 (gD 4 sc.nd (fZ eL (RM hr) (dW (gC 4) (dW (A7 (Av hu) (fK 2) (fK 5)) dO))))))
 (OB (gH (Ei hu) (KE.loose (fZ pS (RM hr) (dW (gC 0) (dW (gC 4) dO)))) (fK 1)) (qL (j4 dO))
 (qL (JT nN (RM hr) (dW (gC 4) (dW (gC 3) dO))))))))))
theorem za (F:FM K mg "_law_price" (top 28))(B:sM mg)(ee:jD P w K mg base Y) :
  jY P w K mg base Y :=
 G0 (C:=XC λ_=>0) l3 Y4 F λsc f fz A outer s H E fa sa n0 S hf hS has hr hu =>
 (eI (gD 2 sc.nd (gM (KE.loose (KN.data (j4 (dW d6 (dW d6 (dW d6 (dW d6 (dW d6 (dW d6 (dW d6 (dW (eN 0 ee (RM hr) (dW d6 dO) (hfd:=(by decide:0∈[0]))) dO))))))))))) (KE.loose (eN 0 ee (RM hr) (dW d6 dO) (hfd:=(by decide:0∈[0]))))))
 (d8 (ik (JC (KW.kb (w_and (rT (gC 1)) (rW (gH (pF hu) (KE.loose (eN 0 ee (RM hr) (dW d6 dO) (hfd:=(by decide:0∈[0])))) (KE.loose d6))))) (Rt (gC 2)) (gC 2)))))
theorem EJ (F:FM K mg "_law_web" (top 29))(B:sM mg)(ee:jD P w K mg base Y)(fV:jY P w K mg base Y) :
  pR P w K mg base Y :=
 G0 (C:=XC λ_=>0) pP W5 F λsc f fz A outer s H E fa sa n0 S hf hS has hr hu =>
 (eI (gD 4 sc.nd (jA lp (KE.loose d6) (KE.loose (eN 0 ee (RM hr) (dW (gC 1) dO) (hfd:=(by decide:0∈[0]))))))
 (eI (gD 5 sc.nd (eN 0 ee (RM hr) (dW d6 dO) (hfd:=(by decide:0∈[0]))))
 (eI (JS 6 sc.nd (j4 dO))
 (CQ (pG (gH Rv (fK 5) (KE.loose d6)) (d8 (GN (i:=6) true [1] sc.nd (N:=W4) (mp:=[none,some 0,some 3]) rfl (oJ B.range (jA uZ (fK 4) (KE.loose d6))) rfl (co W5 (dM (top 29))) (λ_ _ _ _ _=>⟨(oP 0 (nd W4)),kP,(gw (dW (gC 0) (dW (jA lp (fK 0) (KE.loose d6)) (dW (eN 1 fV (RM hr) (dW (gC 2) dO) (hfd:=(by decide:1∈[1]))) dO))))⟩) (hfd:=(Th (i:=0) rfl)) (hfi:=(nf 6 [0])))) gN)
 (CQ (pG (KW.kb (w_and (gH (pF hu) (fK 5) (KE.loose d6)) (rW (gH NS (fK 4) (KE.loose d6))))) (d8 (sf 6 PySem.F.plainAttrs_list PySem.F.slot_list_append PySem.F.type_list_append (se) (dW (gw (dW d6 (dW (jA uZ (fK 4) (KE.loose d6)) (dW (eN 0 fV (RM hr) (dW (gC 3) dO) (hfd:=(by decide:0∈[0]))) dO)))) dO))) gN)
 (eI (lq PassesOwn.never rfl (qI B.range (jA Lm (KE.loose (eN 0 ee (RM hr) (dW (jA lp (fK 2) (KE.loose d6)) dO) (hfd:=(by decide:0∈[0])))) (KE.loose (wj RB B.int (ig (KE.loose (yp NS (fK 4) (KE.loose d6))) fP))))) (oP 7 sc.nd)
 (eI (gD 8 sc.nd (eN 0 ee (RM hr) (dW (jA uZ (fK 4) (KE.loose d6)) dO) (hfd:=(by decide:0∈[0]))))
 (eI (gD 9 sc.nd (gw (dW (gC 8) (dW (jA lp (KE.loose (jA lp (fK 8) (KE.loose d6))) (KE.loose (eN 0 ee (RM hr) (dW (jA uZ (KE.loose (jA uZ (fK 4) (KE.loose d6))) (fK 8)) dO) (hfd:=(by decide:0∈[0]))))) (dW (eN 0 fV (RM hr) (dW (gC 3) dO) (hfd:=(by decide:0∈[0]))) dO)))))
 (CQ (pG (KW.kb (w_and (gH (Ei hu) (fK 6) (KE.loose (KN.data (j4 dO)))) (rW (gH (pF hu) (KE.loose (eN 0 ee (RM hr) (dW d6 dO) (hfd:=(by decide:0∈[0])))) (KE.loose d6))))) (d8 (gD 9 sc.nd (gM (fK 6) (KE.loose (eN 0 ee (RM hr) (dW (Ax yt B.len (ig (fK 6) fP)) dO) (hfd:=(by decide:0∈[0]))))))) gN)
 (d8 (sf 6 PySem.F.plainAttrs_list PySem.F.slot_list_insert PySem.F.type_list_insert (GO) (dW (eN 0 ee (RM hr) (dW (jA lp (KE.loose (Ax yt B.len (ig (fK 6) fP))) (KE.loose d6)) dO) (hfd:=(by decide:0∈[0]))) (dW (gC 9) dO))))))))
 (d8 (ik (gw (dW (gC 4) (dW (wj jO B.tuple (ig (KE.loose (NY (fK 6) we (wg (gC 2)))) fP)) dO)))))))))))
end
section
variable {P:aP}{w:World}{K:W.Frag}{mg:Str->Option ag}{base:Heap}{f:Addr}{fd:bG}{cl:Str->Addr}{Y:zF}
theorem Bi (F:FM K mg "_law_some" (top 30))(B:sM mg)(ee:jD P w K mg base Y) :
  nI P w K mg base Y :=
 G0 (C:=XC λ_=>0) nC W7 F λsc f fz A outer s H E fa sa n0 S hf hS has hr hu =>
 (eI (gD 2 sc.nd (eN 0 ee (RM hr) (dW d6 dO) (hfd:=(by decide:0∈[0]))) (Or.inr rfl))
 (eI (pG (gH Rv (fK 2) (KE.loose d6)) (d8 (ik (Ol B.tuple B.range rfl (jA Lm (fK 1) (fK 2))))) gN)
 (d8 (ik (wj jO B.tuple (ig (KE.loose (KN.data (i9 [1] (N:=W6) (mp:=[none,some 0,some 2]) rfl (oJ B.range (gC 1)) rfl (co W7 (dM (top 30))) (λ_ _ _ _ _=>⟨(oP 0 (nd W6)),(sd (gH (pF hu) (KE.loose (eN 1 ee (RM hr) (dW (gC 2) dO) (hfd:=(by decide:1∈[1])))) (KE.loose d6))),(gC 0)⟩) (hfd:=(Th (i:=0) rfl))))) fP))))))
theorem Bj (F:FM K mg "_law_odds" (top 31))(B:sM mg) :
  kY P w K mg base cl :=
 lT nD W9 F λsc f fz A outer s H E n0 S has hr hu =>
 (eI (Dc (i:=2) sc.nd (Or.inr rfl) (hfd:=(nf 2 [])))
 (eI (lq PassesOwn.never rfl (CP 1) (oP 3 sc.nd)
 (d8 (lq PassesOwn.never rfl (GK (NY (KE.loose (gM (KE.loose (gM (fK 0) (KE.loose d6))) (fK 3))) we (wg d6))) (oP 4 sc.nd)
 (d8 (A5 2 (Av hu) (fK 4) (k_not (Kd 2 (Av hu) (gC 4) qw ⟨rfl,rfl,rfl,rfl⟩)))))))
 (d8 (ik (wj jO B.tuple (ig (KE.loose (KN.data (i9 [] (N:=W8) (mp:=[none,some 2]) rfl (r6 (KE.loose (KN.data (Ke 2 B.sorted rfl)))) rfl (co W9 (dM (top 31))) (λ_ _ _ _ _=>⟨(oP 0 (nd W8)),(sd (rT (Hj 1 (Av hu) (fK 0)))),(gC 0)⟩) (hfd:=Ig)))) fP))))))
theorem sR (F:FM K mg "_law_all_sets" (top 32))(B:sM mg)(iO:kY P w K mg base cl) :
  iq P w K mg base cl :=
 lT jC Xa F λsc f fz A outer s H E n0 S has hr hu =>
 (eI (JS 2 sc.nd (j4 dO))
 (eI (gD 3 sc.nd (Ax yt B.len (ig (KE.loose (gM (fK 0) (KE.loose d6))) fP)))
 (eI (lq PassesOwn.never rfl (qI B.range (jA Rw (KE.loose d6) (fK 3))) (oP 4 sc.nd (Or.inr rfl))
 (eI (gD 5 sc.nd (wj jO B.tuple (ig (KE.loose (KN.data (i9 [] (N:=W') (mp:=[none,some 4]) rfl (oJ B.range (gC 3)) rfl (co Xa (dM (top 32))) (λ_ _ _ _ _=>⟨(oP 0 (nd W')),(sd (gH (pF hu) (KE.loose (jA RO (KE.loose (jA Rx (fK 1) (fK 0))) (KE.loose d6))) (KE.loose d6))),(gC 0)⟩) (hfd:=Ig)))) fP)))
 (d8 (pG (gH (pF hu) (KE.loose (fZ iO (RM hr) (dW (gC 0) (dW (gC 5) dO)))) (fK 1)) (d8 (sf 2 PySem.F.plainAttrs_list PySem.F.slot_list_append PySem.F.type_list_append (se) (dW (gC 5) dO))) gN))))
 (d8 (ik (KN.data (wM B.sorted hu (fK 2))))))))
theorem zc (F:FM K mg "_law_right" (top 33))(B:sM mg)(mh:l8 P w K mg base cl)(eL:gW P w K mg base cl)(eW:hZ P w K mg base cl)(gk:iq P w K mg base cl) :
  l9 P w K mg base cl :=
 lT l4 Xd F λsc f fz A outer s H E n0 S has hr hu =>
 (eI (gD 2 sc.nd (si hr B.repr (gw (dW (gC 0) (dW (gC 1) dO)))))
 (eI (gD 3 sc.nd (fZ gk (RM hr) (dW (gC 0) (dW (gC 1) dO))))
 (eI (lq PassesOwn.never rfl (qI B.range d6) (oP 4 sc.nd)
 (eI (JS 5 sc.nd (oQ eW (RM hr) (dW (gC 0) (dW (gC 1) dO))))
 (eI (pG (KW.kb (w_or (Lh (rT (RH B.isinstance B.list (fK 5)))) (Rr (gH LB (KE.loose (JU hr B.repr (fK 5))) (KE.loose (si hr B.repr (gC 3))))))) (d8 (ik qw)) gN)
 (d8 (sf 5 PySem.F.plainAttrs_list PySem.F.slot_list_append PySem.F.type_list_append (se) (dW (gw dO) dO))))))
 (eI (gD 6 sc.nd (KN.data (oQ eW (RM hr) (dW (gC 0) (dW (gC 1) dO)))) (Or.inr rfl))
 (eI (pG (KW.kb (w_and (gH (Ei hu) (fK 6) (KE.loose (KN.data (j4 dO)))) (rW (gH (Ei hu) (KE.loose (KN.data (wM B.sorted hu (KE.loose (KN.data (i9 [] (N:=Xb) (mp:=[none,some 6]) rfl (r6 (KE.loose (KN.data (oQ mh (RM hr) (dW (gC 0) dO))))) rfl (co Xd (dM (top 33))) (λ_ _ _ _ _=>⟨(oP 0 (nd Xb)),kP,(fZ eL (RM hr) (dW (gM (fK 1) (KE.loose d6)) (dW (gC 0) dO)))⟩) (hfd:=Ig))))))) (fK 6))))) (d8 (ik qw)) gN)
 (d8 (ik (yp RR (KE.loose (si hr B.repr (gw (dW (gC 0) (dW (gC 1) dO))))) (fK 2)))))))))
end
section
variable {P:aP}{w:World}{K:W.Frag}{mg:Str->Option ag}{base:Heap}{f:Addr}{fd:bG}{cl:Str->Addr}{Y:zF}
theorem Bk (F:FM K mg "_law_word" (top 34))(B:sM mg)(eW:hZ P w K mg base cl)(xf:XF K mg (XC cl) ED Kf) :
  nK P w K mg base cl :=
 lT nE Y5 F λsc f fz A outer s H E n0 S has hr hu =>
 (eI (gD 2 sc.nd Rq)
 (eI (OC (j:=3) rfl xf (!3) (qu.RU eW) (RM hr) sc.nd (λ_=>(dW (gC 0) (dW (gC 1) dO))) (λ_=>(eI (gD 4 sc.nd (Ot 3 rfl xf (!3) B.isinstance (Em xf (!3) (Em xf (!3) (Em xf (!3) (Em xf (!3) (Em xf (!3) (Em xf (!3) Oq))))))))
 (d8 (pG (KW.kb (w_and (rT (RJ 3 rfl xf (!3) B.isinstance)) (w_and (rT (Oo 3 rfl xf B.isinstance B.ValueError)) (rW (Lh (rT (gC 4))))))) (d8 (gD 2 sc.nd (RL 3 rfl xf))) gN)))) (nf 3 []))
 (d8 (ik (gC 2)))))
end
section
variable {P:aP}{w:World}{K:W.Frag}{mg:Str->Option ag}{base:Heap}{f:Addr}{fd:bG}{cl:Str->Addr}{Y:zF}
theorem Sa (F:uA K "law" "law" (top 35) f fd)(B:sM mg)(nO:eO P w K mg base 1 "_law_feed" ["_law_script"] (qJ Y K))(jE:nK P w K mg base cl)(jF:nI P w K mg base Y)(ee:jD P w K mg base Y)(fV:jY P w K mg base Y)(eW:hZ P w K mg base cl)(gk:iq P w K mg base cl)(mi:l9 P w K mg base cl)(iO:kY P w K mg base cl)(pU:pR P w K mg base Y)(Y8:yZ { nx:=λ_ _=>False,rt:=λd _=>d=.bool true } (List.replicate 10 none) 0) :
  i5 P w K mg base rq 20 f fd ["_law_script"] (yJ K):=by
 have sc:fh Tt ["_law_script"] (dM (top 35)):=RT;refine Vu (C:=XC cl) (Y:=Y) (k:=19) (u:=yZ) F sc (!2) (λfz A outer s H E hr=>⟨jy (i:=1) sc.nd rfl (Or.inr rfl) (lK nO (RM hr) (gB (qv 0) eY)),λfa sa n0 S H1 hf hS has=>?_⟩) rfl Y8;have hu:=hr.units;unfold yZ;exact (eI (lq PassesOwn.never rfl (qI B.range d6) (oP 2 sc.nd)
 (eI (gD 3 sc.nd (eN 1 pU (RM hr) (dW d6 (dW d6 (dW qw dO))) (hfd:=(by decide:1∈[1]))) (Or.inr rfl))
 (eI (gD 4 sc.nd (KN.data (j4 (dW (fZ iO (RM hr) (dW (gC 3) (dW (eN 1 jF (RM hr) (dW (Ax yt B.len (ig (KE.loose (gM (fK 3) (KE.loose d6))) fP)) dO) (hfd:=(by decide:1∈[1]))) dO))) (dW (eN 1 jF (RM hr) (dW (gM (fK 3) (KE.loose d6)) dO) (hfd:=(by decide:1∈[1]))) (dW (gw dO) dO))))))
 (d8 (pG (gH (Vd hu) (KE.loose qw) (KE.loose (KN.data (i9 [] (N:=Xg) (mp:=[none,some 3]) rfl (r6 (fK 4)) rfl (co Tt (dM (top 35))) (λ_ _ _ _ _=>⟨(oP 0 (nd Xg)),kP,(fZ mi (RM hr) (dW (gC 1) (dW (gC 0) dO)))⟩) (hfd:=Ig))))) (d8 (ik qw)) gN)))))
 (CQ (pG (gH (pF hu) (KE.loose (eN 1 ee (RM hr) (dW d6 dO) (hfd:=(by decide:1∈[1])))) (KE.loose d6)) (eI (gD 5 sc.nd (gw (dW d6 (dW (wj jO B.tuple (ig (KE.loose (KN.data (i9 [1] (N:=Xf) (mp:=[none,some 1]) rfl (oJ B.range d6) rfl (co Tt (dM (top 35))) (λ_ _ _ _ _=>⟨(oP 0 (nd Xf)),kP,(gw (dW d6 (dW d6 (dW (eN 1 fV (RM hr) (dW qw dO) (hfd:=(by decide:1∈[1]))) dO))))⟩) (hfd:=(Th (i:=1) rfl))))) fP)) dO))))
 (eI (gD 6 sc.nd (gM (KE.loose (KN.data (j4 (dW (gw (dW d6 (dW d6 dO))) (dW (gw dO) (dW (gw (dW d6 dO)) dO)))))) (KE.loose (eN 1 ee (RM hr) (dW d6 dO) (hfd:=(by decide:1∈[1]))))))
 (d8 (pG (gH LB (KE.loose (si hr B.repr (KN.data (oQ eW (RM hr) (dW (gC 5) (dW (gC 6) dO)))))) (KE.loose (si hr B.repr (fZ gk (RM hr) (dW (gC 5) (dW (gC 6) dO)))))) (d8 (ik qw)) gN)))) gN)
 (eI (gD 7 sc.nd (jA lp (KE.loose d6) (KE.loose (eN 1 ee (RM hr) (dW d6 dO) (hfd:=(by decide:1∈[1]))))) (Or.inr rfl))
 (eI (gD 8 sc.nd (wj jO B.tuple (ig (KE.loose (KN.data (i9 [2] (N:=Xe) (mp:=[none,some 7,some 1]) rfl (oJ B.range (jA lp (KE.loose (jA lp (KE.loose d6) (fK 7))) (KE.loose (eN 1 ee (RM hr) (dW d6 dO) (hfd:=(by decide:1∈[1])))))) rfl (co Tt (dM (top 35))) (λ_ _ _ _ _=>⟨(oP 0 (nd Xe)),kP,(gw (dW d6 (dW (jA uZ (fK 1) (KE.loose d6)) (dW (eN 2 fV (RM hr) (dW qw dO) (hfd:=(by decide:2∈[2]))) dO))))⟩) (hfd:=(Th (i:=1) rfl))))) fP)))
 (eI (gD 3 sc.nd (gw (dW (gC 7) (dW (jA lp (fK 8) (KE.loose (gw (dW (gw (dW d6 (dW d6 (dW d6 dO)))) dO)))) dO))) (Or.inr rfl))
 (eI (gD 9 sc.nd (fZ jE (RM hr) (dW (gC 3) (dW (eN 1 jF (RM hr) (dW (gC 7) dO) (hfd:=(by decide:1∈[1]))) dO))))
 (d8 (ik (Li (yp (pF hu) (fK 9) (KE.loose CC)) (Li (yp (pF hu) (KE.loose (fZ jE (RM hr) (dW (gC 3) (dW (gw (dW d6 dO)) dO)))) (KE.loose CC)) (k_one (yp (pF hu) (KE.loose (fZ jE (RM hr) (dW (gC 3) (dW (gw dO) dO)))) (KE.loose CC)))))))))))))
end
end Odj
namespace Odj
open PySem L2
local macro_rules | `(tactic| simp! [$ls,*]) => do let ex <- ("nY lS envOf List.length_cons List.length_nil List.map_cons List.map_nil List.cons_append List.nil_append List.append_nil List.replicate_succ List.replicate_zero Nat.reduceSub Nat.reduceAdd true_and and_true d7 gG h9 fY yD eD r9 dU dI uC dN dH fD uL Lv eJ fj eU rV Vb Gz yq CJ Lj WJ nX Oj dZ AG AH mZ jg wm Od Vg Lr gj CM Te JG kO Pd Pb Pc yG AJ Vw jS g8 Ob Ay mY dJ Ro mR lu LA List.getElem?_cons_zero List.getElem?_cons_succ List.set_cons_zero List.set_cons_succ Option.join_some Option.join_none if_true if_false Bool.not_true Bool.not_false Bool.true_eq_false Bool.false_eq_true reduceIte".splitOn " ").toArray.mapM λs => `(Lean.Parser.Tactic.simpLemma| $(Lean.mkIdent s.toName):ident);`(tactic| simp only[$ls,*, $ex,*])
noncomputable abbrev fN:=Int × Int × Int
noncomputable def fg (t:fN):ad:=.tuple [.int t.1,.int t.2.1,.int t.2.2]
noncomputable def gE (many:Int)(ts:List fN):ad:=.tuple [.int many,.tuple (ts.map fg)]
noncomputable def dQ (ns:List Int):ad:=.tuple (ns.map .int)
theorem vo:∀ts:List fN,ad.canLayAll0 (ts.map fg)=true
 | []=>rfl
 | t::ts=>by simp only[aj,ad.canLayAll0,fg,ad.canLay0,vo ts];rfl
theorem Hu (ts:List fN):(ad.list (ts.map fg)).canLay0=true:=vo ts
theorem vp:∀ts:List fN,ad.depthAll (ts.map fg)<=1
 | []=>by simp[ad.depthAll]
 | t::ts=>by have:=vp ts;simp only[aj,ad.depthAll,fg,ad.depth];omega
theorem Hv (ts:List fN):(ad.list (ts.map fg)).depth<=60:=by have:=vp ts;simp only[ad.depth];omega
theorem zd (i j:Int):tW (.int i) (.int j)=some (.int (i - j)):=by simp only[tW]
theorem oX (i j:Int):jf (.int i) (.int j)=some (.int (i+j)):=by simp only[jf]
section
variable {n:Int}{Q:ad->Int->Prop}{X:XQ}
noncomputable def kB (t:fN)(x:Int):Int:=if t.1=x then t.2.1 else t.1
theorem wV (t:fN)(x:Int):iX [fg t,.int x] n Q X=Q (.int (kB t x)) n:=by
 simp! [iX,lW,fg,lr,ko,ji,kB];by_cases h:t.1=x<;>simp[h]
theorem oY {ts:List fN}{i:Int}(h0:0<=i)(h1:i<(ts.length:Int)):∃t,ts[i.toNat]? = some t/\t∈ts/\qB (ts.map fg) i=some (fg t):=by
 have hl:i.toNat<ts.length:=by omega
 refine⟨ts[i.toNat],by simp[hl],bV _,?_⟩;rw[pJ h0 (by simpa using h1),aC];simp[hl]
end
noncomputable def mj (ts:List fN)(k:Int):List Int:=[(ts.getD k.toNat (0,0,0)).1,(ts.getD k.toNat (0,0,0)).2.1]
noncomputable def eC (ts:List fN)(ks:List Int):List Int:=(ks.map (mj ts)).flatten
noncomputable abbrev iu (ts:List fN)(ks:List Int):Prop:=∀k∈ks,0<=k/\k<(ts.length:Int)
theorem gr (ts:List fN)(k:Int)(ks:List Int):eC ts (k::ks)=mj ts k++eC ts ks:=rfl
theorem oZ (ts:List fN)(a b:List Int):eC ts (a++b)=eC ts a++eC ts b:=by
 unfold eC;rw[a8,List.flatten_append]
theorem nP {ts:List fN}{a b:List Int}(h:a.Perm b):(eC ts a).Perm (eC ts b):=(h.map _).flatten
noncomputable def Df (ts:List fN)(ks:List Int):Prop:=∀v,(eC ts ks).count v % 2=0
theorem sS {l:List Int}(h:l.Nodup)(k:Int):l.count k=if k∈l then 1 else 0:=List.Nodup.count h
theorem gS {row:List Int}{v:Int}:v∈eF row↔row.count v % 2=1:=by
 unfold eF;rw[iK,aW];constructor
 .intro z
  exact of_decide_eq_true z.2
 .intro z
  exact⟨cK.mp (!1),decide_eq_true z⟩
theorem iw (row:List Int):(eF row).Pairwise (· < ·):=mE _
theorem gz {l:List Int}(h:l.Pairwise (· < ·)):l.Nodup:=h.imp λh z=>by omega
theorem iR (row:List Int):(eF row).Nodup:=gz (iw row)
theorem iP {a b:List Int}(ha:a.Nodup)(hb:b.Nodup){k:Int}:k∈eF (a++b)↔¬ (k∈a↔k∈b):=by
 rw[gS,bj,sS ha,sS hb];by_cases h1:k∈a<;>by_cases h2:k∈b<;>simp[h1,h2]
theorem Bl {a s:List Int}(ha:a.Nodup)(hs:s.Nodup):(eF (a++s)).Perm ((a.filter λk=>!decide (k∈s))++(s.filter λk=>!decide (k∈a))):=by
 refine (bY (iR _) (cw.mpr ⟨ha.filter _,hs.filter _,λx hx y hy e=>?_⟩)).mpr λk=>?_
 .subst e
  have h1:=(aW.mp hx).1;have h2:=(aW.mp hy).2;simp[h1] at h2
 .rw[iP ha hs,aB,aW,aW]
  by_cases h1:k∈a<;>by_cases h2:k∈s<;>simp[h1,h2]
theorem EK {a s:List Int}(ha:a.Nodup)(hs:s.Nodup):(a.filter λk=>decide (k∈s)).Perm (s.filter λk=>decide (k∈a)):=by
 refine (bY (ha.filter _) (hs.filter _)).mpr λk=>?_;rw[aW,aW];simp[and_comm]
theorem jG {α:Type}(l:List α):l.filter (λ_=>true)=l:=by simp
theorem Dh (row:List Int):(jQ row).length<=row.length:=fH (jR row) λk hk=>jr.mp hk
theorem wW {ts:List fN}{a b:List Int}(ha:iu ts a)(hb:iu ts b):iu ts (eF (a++b)):=λk hk=>by
 have:k∈a++b:=cK.mp (by have:=gS.mp hk;omega);exact (aB.mp this).elim (ha k) (hb k)
theorem OQ {a b:List Int}(ha:a.Pairwise (· < ·))(hb:b.Pairwise (·<=·))(h:b.Perm a):b=a:=nq h hb (ha.imp λh=>by omega)
section
variable {n:Int}{X:XQ}{Q:ad->Int->Prop}
theorem Bm {row:List Int}(h1:(jQ row).length<=60)(h2:row.length<=100000):f9 [.tuple (row.map .int)] n Q X=Q (dQ (eF row)) n:=by
 simp only[f9,iH,dJ,h1,h2,true_and,dQ,and_self]
theorem h8 {a b:List Int}(h:a.length+b.length<=60):f' [dQ a,dQ b] n Q X=Q (dQ (eF (a++b))) n:=by
 have e:jf (.tuple (a.map .int)) (.tuple (b.map .int))=some (.tuple ((a++b).map .int)):=by rw[Ou (by rw[ak,ak];omega),a8]
 have hl:(a++b).length<=60:=by rw[aI];exact h
 simp! [f',nz];rw[dQ,dQ];simp! [e,Bm (aU (Dh (a++b)) hl) (!1)]
end
theorem mn (k:List Int):eV [] k=none:=rfl
theorem js (p:List Int × ad)(kvs:iZ)(k:List Int):eV (p::kvs) k=if p.1=k then some p.2 else eV kvs k:=by
 unfold eV;rw[bP];by_cases h:p.1=k
 .rw[decide_eq_true h,if_pos h];rfl
 .rw[decide_eq_false h,if_neg h]
theorem vq (k j:List Int)(d:ad):∀kvs:iZ,(kvs.any λp=>decide (p.1=k))=false->eV (kvs++[(k,d)]) j=if j=k then some d else eV kvs j
 | [],_=>by
  rw[aO,js,mn];by_cases h:j=k
  .rw[if_pos h.symm,if_pos h]
  .rw[if_neg (λz=>h z.symm),if_neg h]
 | p::kvs,ha=>by
  rw[ck,Bool.or_eq_false_iff] at ha;have hp:¬ p.1=k:=of_decide_eq_false ha.1;rw[bn,js,vq k j d kvs ha.2,js];by_cases h:p.1=j
  .rw[if_pos h,if_pos h,if_neg (λz=>hp (h.trans z))]
  .rw[if_neg h,if_neg h]
theorem ze (k j:List Int)(d:ad):∀kvs:iZ,eV (kvs.map λp=>if p.1=k then (p.1,d) else p) j=(eV kvs j).map λx=>if j=k then d else x
 | []=>rfl
 | p::kvs=>by
  rw[aj,js,js,ze k j d kvs];by_cases h:p.1=k
  .rw[if_pos h]
   by_cases h2:p.1=j
   .rw[if_pos h2,if_pos h2,bH,if_pos (h2.symm.trans h)]
   .rw[if_neg h2,if_neg h2]
  .rw[if_neg h]
   by_cases h2:p.1=j
   .rw[if_pos h2,if_pos h2,bH,if_neg (λz=>h (h2.trans z))]
   .rw[if_neg h2,if_neg h2]
theorem mq (k:List Int):∀kvs:iZ,(kvs.any λp=>decide (p.1=k))=(eV kvs k).isSome
 | []=>rfl
 | p::kvs=>by
  rw[ck,js,mq k kvs];by_cases h:p.1=k
  .rw[if_pos h,decide_eq_true h];rfl
  .rw[if_neg h,decide_eq_false h];rfl
theorem jH (kvs:iZ)(k j:List Int)(d:ad):eV (iV kvs k d) j=if j=k then some d else eV kvs j:=by
 unfold iV;split
 .rename_i h
  rw[mq] at h;rw[ze];by_cases hj:j=k
  .subst hj
   obtain⟨x,hx⟩:=b9.mp h;rw[hx,if_pos rfl,bH,if_pos rfl]
  .rw[if_neg hj]
   cases eV kvs j with
   | none=>rfl
   | some x=>rw[bH,if_neg hj]
 .rename_i h
  exact vq k j d kvs (Bool.eq_false_iff.mpr h)
noncomputable def fW (kvs:iZ):List (List Int):=kvs.map (·.1)
theorem o4 (kvs:iZ)(k:List Int)(d:ad):fW (iV kvs k d)=if k∈fW kvs then fW kvs else fW kvs++[k]:=by
 have ha:((kvs.any λp=>decide (p.1=k))=true)↔k∈fW kvs:=by
  rw[du,fW,a5];constructor
  .rintro⟨p,hp,h⟩;exact⟨p,hp,of_decide_eq_true h⟩
  .rintro⟨p,hp,h⟩;exact⟨p,hp,decide_eq_true h⟩
 unfold iV;by_cases h:(kvs.any λp=>decide (p.1=k))=true
 .rw[if_pos h,if_pos (ha.mp h),fW,fW,bu]
  refine cA λp _=>?_;show (if p.1=k then (p.1,d) else p).1=p.1;split<;>rfl
 .rw[if_neg h,if_neg (λz=>h (ha.mpr z)),fW,fW,a8]
  rfl
structure nQ (row:List Int) (kvs:iZ):Prop where
 val:∀k,eV kvs [k]=if k∈row then some (.bool (decide (row.count k % 2=1))) else none
 mem:∀l,l∈fW kvs↔∃k∈row,l=[k]
 nd:(fW kvs).Nodup
theorem nQ.nil:nQ [] []:=⟨λk=>by rw[mn];simp,λl=>by simp[fW],by simp[fW]⟩
theorem nQ.step {row:List Int}{kvs:iZ}(h:nQ row kvs)(k:Int):∃b,(eV kvs [k]).getD (.bool false)=.bool b/\nQ (row++[k]) (iV kvs [k] (.bool (!b))):=by
 refine⟨decide (row.count k % 2=1),?_,λj=>?_,λl=>?_,?_⟩
 .rw[h.val]
  split
  .rfl
  .rename_i hk
   rw[List.count_eq_zero.mpr hk];rfl
 .rw[jH]
  by_cases hj:j=k
  .subst hj
   rw[if_pos rfl,if_pos (!4),bj];have:(row.count j + [j].count j) % 2=1↔¬ row.count j % 2=1:=by simp;omega
   congr 2;rw[<- decide_not,decide_eq_decide];exact this.symm
  .rw[if_neg (by simpa using hj),h.val,bj]
   have e:[k].count j=0:=by simp[List.count_singleton];exact λz=>hj z.symm
   rw[e,Nat.add_zero];simp[hj]
 .rw[o4]
  split
  .rename_i hm
   rw[h.mem];obtain⟨k',Eh,e⟩:=(h.mem [k]).mp hm;have:k=k':=by simpa using e
   subst this;constructor
   .rintro⟨j,hj,e⟩;exact⟨j,a6 _ hj,e⟩
   .rintro⟨j,hj,e⟩
    rcases aB.mp hj with hj | hj
    .exact⟨j,hj,e⟩
    .rw[aw.mp hj] at e;exact⟨k,Eh,e⟩
  .rw[aB,h.mem,aw]
   constructor
   .rintro (⟨j,hj,e⟩ | e)
    .exact⟨j,a6 _ hj,e⟩
    .exact⟨k,!4,e⟩
   .rintro⟨j,hj,e⟩
    rcases aB.mp hj with hj | hj
    .exact .inl ⟨j,hj,e⟩
    .rw[aw.mp hj] at e;exact .inr e
 .rw[o4]
  split
  .exact h.nd
  .rename_i hm
   rw[cw];exact⟨h.nd,!4,λa ha b hb=>by rw[aw.mp hb];exact λz=>hm (z ▸ ha)⟩
theorem nQ.heads {row:List Int}{kvs:iZ}(h:nQ row kvs):(kvs.map λp=>p.1.headD 0).Nodup/\∀k,k∈(kvs.map λp=>p.1.headD 0)↔k∈row:=by
 have e:(kvs.map λp=>p.1.headD 0)=(fW kvs).map λl=>l.headD 0:=by rw[fW,bu];rfl
 rw[e];refine⟨?_,λk=>?_⟩
 .have:∀l:List (List Int),l.Nodup->(∀a∈l,a∈fW kvs)->(l.map λl=>l.headD 0).Nodup:=by
   intro l
   induction l with
   | nil=>intro _ _;exact List.nodup_nil
   | cons a l ih =>
    intro hn hm;obtain⟨n1,n2⟩:=bN.mp hn;rw[aj,bN];refine⟨λz=>?_,ih n2 λb hb=>hm b (ao _ hb)⟩;obtain⟨b,hb,pZ⟩:=a5.mp z;obtain⟨x,_,rfl⟩:=(h.mem a).mp (hm a (ar ..));obtain⟨y,_,rfl⟩:=(h.mem b).mp (hm b (ao _ hb));have e:y=x:=by simpa using pZ
    exact n1 (e ▸ hb)
  exact this _ h.nd λ_ ha=>ha
 .rw[a5]
  constructor
  .rintro⟨l,hl,rfl⟩
   obtain⟨x,hx,rfl⟩:=(h.mem l).mp hl;exact hx
  .intro hk
   exact⟨[k],(h.mem _).mpr ⟨k,hk,rfl⟩,rfl⟩
theorem nQ.sorted {row:List Int}{kvs:iZ}(h:nQ row kvs):(sortI (kvs.map λp=>p.1.headD 0)).filter (λk=>decide (row.count k % 2=1))=eF row:=by
 obtain⟨h1,h2⟩:=h.heads;refine wq ?_ (mE _) λk=>?_
 .exact (lM (jh _) ((sortI_perm _).nodup_iff.mpr h1)).sublist List.filter_sublist
 .rw[aW,(sortI_perm _).mem_iff,h2,eF,iK,aW]
structure wX (many:Int) (sg:Bool) (t:fN):Prop where
 a0:0<=t.1
 ab:t.1<t.2.1
 bm:t.2.1<many
 pr:t.2.2.natAbs<=99
 pl:sg=false->0<=t.2.2
structure VP (many:Int) (sg:Bool) (ts:List fN):Prop where
 m0:1<=many
 LL:∀t∈ts,wX many sg t
section
variable {n:Int}{X:XQ}{Q:ad->Int->Prop}
theorem ix {sg:Bool}(hn:n+3<=kn)(h:∀(p:Int) (n':Int),p.natAbs<=99->(sg=false->0<=p)->n<=n'->n'<=n+3->Q (.int p) n'):fU [.bool sg] n Q X:=by
 unfold fU l3;simp only[nY,lS,envOf,aj,bo,ap,bh,Nat.reduceSub,Nat.reduceAdd,aZ,bA,bn,aO];with_reducible generalize ht:fY _=t
 simp! [d7];refine fQ (!2) (!2) (!1) λb b0 b1=>?_;refine fQ (!2) (!2) (!1) λc c0 c1=>?_;obtain⟨x,hx,hm⟩:=GS (xs:=[ad.int 1,.int 2,.int 3,.int 0,.int 5,.int 1,.int 99,.int b]) c0 (by simpa using c1)
 obtain⟨p,rfl,p0,p1⟩:∃p:Int,x=.int p/\0<=p/\p<=99:=by
  simp only[au,bK,or_false] at hm;rcases hm with rfl | rfl | rfl | rfl | rfl | rfl | rfl | rfl<;>exact⟨_,rfl,!1,!1⟩
 simp! [hx];subst ht
 cases sg with
 | false =>
  simp! [d7];exact h p _ (!1) (λ_=>p0) (!1) (!1)
 | true =>
  simp! [d7];refine fQ (!2) (!2) (!1) λd d0 d1=>?_;simp! [ji,NQ];split
  .exact h (-p) _ (!1) (λz=>by cases z) (!1) (!1)
  .exact h p _ (!1) (λz=>by cases z) (!1) (!1)
theorem vt {many:Int}{sg:Bool}{Q:List ad->Int->Prop}{x1:Option mQ}:∀(xs:List Int) (acc:List fN) (n:Int) (x0:Option mQ),(∀k∈xs,0<=k/\k+1<many)->n+3 * xs.length<=kn->(∀t∈acc,wX many sg t) ->
  (∀(ts:List fN) (n':Int),(∀t∈ts,wX many sg t)->ts.length=acc.length+xs.length->n<=n'->n'<=n+3 * xs.length->Q (ts.map fg) n') ->
  eS (g8 0) kO (fD (dH (dU 0) (dH (eJ jf (dI 0) (uC (.int 1))) (dH (dZ fU (dH (dU 2) dN)) dN)))) Q (xs.map .int) (acc.map fg) [x0,x1,some (.s (.bool sg))] n
 | [],acc,n,x0,_,_,ha,h=>h acc n ha (!4) (!1) (!4)
 | k::xs,acc,n,x0,hk,hn,ha,h=>by
  rw[ap] at hn h;have LG:=hk k (ar ..);rw[aj,eS,g8];simp only[av];rw[kO,if_pos rfl];simp only[fD,dH,dU,eJ,dI,uC,dN,dZ,oX,dJ,ae,af];refine ix (!1) λp n1 hp hs h1 h2=>?_;have e:acc.map fg++[ad.tuple [.int k,.int (k+1),.int p]]=(acc++[(k,k+1,p)]).map fg:=by rw[a8];rfl
  rw[e];refine vt xs (acc++[(k,k+1,p)]) n1 _ (λj hj=>hk j (ao _ hj)) (!1) (λt ht=>?_) λts n' ht hl h3 h4=>h ts n' ht (by rw[hl];simp;omega) (!1) (!1);rcases aB.mp ht with ht | ht
  .exact ha t ht
  .rw[aw.mp ht]
   exact⟨LG.1,by show k<k+1;omega,LG.2,hp,hs⟩
structure Sd (m k many way:Int) (sg:Bool) (n e:Int) (c:Nat) (env:fm) (n':Int):Prop where
 ex:∃ts:List fN,env=[none,some (.s (.int m)),some (.s (.int k)),some (.s (.bool sg)),some (.s (.int many)),some (.s (.int way)),some (.o (ts.map fg)),none,none,none]/\(∀t∈ts,wX many sg t)/\ts.length<=c
 lo:n<=n'
 hi:n'<=n+e
structure VQ (m k many way:Int) (sg:Bool) (ts:List fN) (x7 x8:Option mQ) (n:Int) (env:fm) (n':Int):Prop where
 ex:∃t:fN,env=[none,some (.s (.int m)),some (.s (.int k)),some (.s (.bool sg)),some (.s (.int many)),some (.s (.int way)),some (.o (ts.map fg)),x7,x8,some (.s (fg t))]/\wX many sg t
 lo:n<=n'
 hi:n'<=n+2
theorem Bn {m k:Int}{sg:Bool}(hm:1<=m)(hm9:m<=9)(hk:0<=k)(Y9:k<=16)(hn:n+400<=kn)(h:∀(many:Int) (ts:List fN) (n':Int),VP many sg ts->many<=m->(ts.length:Int)<=k->n<=n'->n'<=n+400->Q (gE many ts) n'):mI [.int m,.int k,.bool sg] n Q X:=by
 have Se:kn=1099511627776:=by decide
 unfold mI pP;simp only[nY,lS,envOf,aj,bo,ap,bh,Nat.reduceSub,Nat.reduceAdd,aZ,bA,bn,aO];with_reducible generalize VR:fY _=t5
 with_reducible generalize Y':yC (h9 (rV (fj (eJ CK _ _)) _) _ _) _=lc
 with_reducible generalize Pg:d7 (eD 8 _) _=lb
 with_reducible generalize VS:d7 (jg _ _ _) t5=t4
 with_reducible generalize VT:yC (h9 (rV (fj (eJ rX _ _)) _) _ _) t4=t3
 simp! [d7];refine fQ (!1) (!1) (!1) λr r0 r1=>?_;simp! [oX];obtain⟨many,em,k0,k1⟩:∃many:Int,1+r=many/\1<=many/\many<=m:=⟨_,rfl,!1,!1⟩;rw[em];refine fQ (!2) (!2) (!1) λway w0 w1=>?_;refine⟨Sd m k many way sg n 30 8,?_,?_⟩
 .simp! [O']
  split
  .simp! [zd]
   refine⟨⟨!1,!1⟩,?_⟩;rw[jT];refine vt (many:=many) (sg:=sg) _ [] _ _ (λj hj=>by have:=fk.mp hj;omega) (by rw[eQ];omega) (!4) λts n' ht hl h1 h2=>?_;rw[eQ] at hl h2;exact⟨⟨ts,rfl,ht,by rw[hl];simp;omega⟩,!1,!1⟩
  .exact⟨⟨[],rfl,!4,!4⟩,!1,!1⟩
 .rintro eB n1 ⟨⟨ts,rfl,wY,hl⟩,Xh,Uc⟩
  rw[<- VT];refine⟨Sd m k many way sg n 33 9,?_,?_⟩
  .simp! [ji,Lk]
   split
   .split
    .simp! [zd]
     rename_i hw hg;have hg':1<many:=of_decide_eq_true hg;refine ix (!1) λp n2 hp hs h1 h2=>?_;rw[nr (by rw[ak];omega),dJ];refine⟨⟨ts++[(0,many - 1,p)],by rw[a8];rfl,λt ht=>?_,by simp;omega⟩,!1,!1⟩;rcases aB.mp ht with ht | ht
     .exact wY t ht
     .rw[aw.mp ht]
      exact⟨c9 0,by show (0:Int)<many - 1;omega,by show many - 1<many;omega,hp,hs⟩
    .exact⟨⟨ts,rfl,wY,!1⟩,!1,!1⟩
   .exact⟨⟨ts,rfl,wY,!1⟩,!1,!1⟩
  .rintro eB n2 ⟨⟨ts,rfl,wY,hl⟩,Za,hn4⟩
   subst VS;simp! [oX];refine fQ (!1) (!1) (!1) λc c0 c1=>?_;simp! [Lk,intD,GU];have hj:0<=(if decide (1<many)=true then c else 0)/\(if decide (1<many)=true then c else 0)<=16:=by split<;>omega
   have Ud:0<(if decide (1<many)=true then c else 0)->1<many:=by
    split
    .rename_i hh;intro _;exact of_decide_eq_true hh
    .intro z;omega
   generalize (if decide (1<many)=true then c else 0)=j at hj Ud ⊢;refine⟨!1,!1,?_⟩;refine gQ (λpre post env n'=>∃(us:List fN) (x7 x8 x9:Option mQ),env=[none,some (.s (.int m)),some (.s (.int k)),some (.s (.bool sg)),some (.s (.int many)),some (.s (.int way)),some (.o (us.map fg)),x7,x8,x9]/\(∀t∈us,wX many sg t)/\us.length=ts.length+pre.length/\n2<=n'/\n'<=n2+1+10 * pre.length/\pre.length+post.length=j.toNat) _ [] _ _ ?_ ⟨ts,none,none,none,rfl,wY,rfl,!1,!4,by simp[oI]⟩ ?_
   .rintro pre d post env n' E' hE ⟨us,x7,x8,x9,rfl,Pk,S5,Zb,Zc,hp⟩ wZ
    rw[ap] at hp;have hm1:1<many:=Ud (!1);rw[g8];simp only[ay,av];subst Pg;simp! [zd];refine fQ (!1) (!1) (!1) λa a0 a1=>?_;simp! [oX,zd];refine fQ (!1) (!1) (!1) λb b0 b1=>?_;simp! [oX];refine ix (!1) λp n3 A9 hs h1 h2=>?_;have hT:wX many sg (a,a+1+b,p):=⟨a0,by show a<a+1+b;omega,by show a+1+b<many;omega,A9,hs⟩;subst Y';refine⟨VQ m k many way sg us (some (.s d)) (some (.s (.int a))) n3,?_,?_⟩
    .simp! [d7]
     rw[sm (x:=.list (us.map fg)) (y:=.list []) (Hu us) rfl (Hv us)]
     cases us with
     | nil =>
      simp! [bo,ad.eqv,ad.eqvAll];exact⟨⟨_,rfl,hT⟩,!1,!1⟩
     | cons u us =>
      simp! [aj,ad.eqv,ad.eqvAll];refine fQ (!2) (!2) (!1) λe e0 e1=>?_;simp! [ji];split
      .simp! [lR,ap,ak]
       rw[ap] at S5;refine fQ (!1) (!1) (!1) λg g0 g1=>?_;obtain⟨t,h3,h4,h5⟩:=oY (ts:=u::us) (i:=g) g0 (by rw[ap];omega);rw[aj] at h5;simp! [h5];exact⟨⟨t,rfl,Pk t h4⟩,!1,!1⟩
      .exact⟨⟨_,rfl,hT⟩,!1,!1⟩
    .rintro eB n4 ⟨⟨t,rfl,ht⟩,hn7,hn8⟩
     simp! [lR,oX,ak];refine fQ (!1) (!1) (!1) λg g0 g1=>?_
     have Ki:mD (us.map fg) [.int g,fg t]=some ((us.take g.toNat++t::us.drop g.toNat).map fg):=by
      simp only[mD];rw[if_pos ⟨by rw[ak,show ax=16777216 by decide];omega,g0,!1⟩,a8,aj,List.map_take,List.map_drop]
     simp! [Ki];refine wZ _ _ ⟨_,_,_,_,rfl,λt' OR=>?_,by simp;omega,!1,by rw[aI];simp;omega,by simp;omega⟩;rcases aB.mp OR with OR | OR
     .exact Pk t' (List.mem_of_mem_take OR)
     .rcases au.mp OR with rfl | OR
      .exact ht
      .exact Pk t' (List.mem_of_mem_drop OR)
   .rintro pre env n' ⟨us,x7,x8,x9,rfl,Pk,S5,Zb,Zc,hp⟩
    rw[bh] at hp;subst VR;simp! [RA,wz _ k hk,gp];rw[<- List.map_take];exact h many (us.take k.toNat) n' ⟨k0,λt ht=>Pk t (List.mem_of_mem_take ht)⟩ k1 (by rw[bQ];omega) (!1) (!1)
end
noncomputable abbrev EL (many:Int)(ts:List fN):Prop:=∀t∈ts,0<=t.1/\t.1<many/\0<=t.2.1/\t.2.1<many
section
variable {n:Int}{X:XQ}{Q:ad->Int->Prop}
theorem Di {E:CB}{a:Addr}{row:List Int}{kvs:iZ}{d0 d1 d3:ad}{k:Int}(h:nQ row kvs)(hl:kvs.length<1000)
  (hq:∀ij,nQ (row++[k]) ij->ij.length<=kvs.length+1->E.nx [some (.s d0),some (.s d1),some (.d a false ij),some (.s d3),some (.s (.int k))] n) :
  oS 2 (dI 4) (CJ (sI 2 (dU 4) (uC (.bool false)))) E [some (.s d0),some (.s d1),some (.d a false kvs),some (.s d3),some (.s (.int k))] n:=by
 obtain⟨b,hb,hs⟩:=h.step k;have hsz:ax=16777216:=by decide
 have e8:(iV kvs [k] (.bool (!b))).length<=kvs.length+1:=by
  unfold iV;split
  .rw[ak];omega
  .simp
 have zC:=hq _ hs e8;simp only[oS,CJ,sI,dU,uC,dI,wN,dJ,hb,ae,af];refine⟨⟨!1,λj t kv hj=>?_⟩,zC⟩;rcases j with _ | _ | _ | _ | _ | j
 .simp
 .simp
 .exact absurd rfl hj
 .simp
 .simp
 .simp
theorem Hw {ts:List fN}{k:Int}(h:0<=k/\k<(ts.length:Int)):qB (ts.map fg) k=some (fg (ts.getD k.toNat (0,0,0))):=by
 obtain⟨t,h1,_,h2⟩:=oY h.1 h.2;rw[h2,aE,h1];rfl
theorem o5 {many:Int}{ts:List fN}(w:EL many ts):∀{s:List Int},iu ts s->∀v∈eC ts s,0<=v/\v<many
 | [],_,v,hv=>by simp[eC] at hv
 | k::s,h,v,hv=>by
  rw[gr] at hv;rcases aB.mp hv with hv | hv
  .obtain⟨t,h1,h2,_⟩:=oY (ts:=ts) (h k (ar ..)).1 (h k (ar ..)).2
   have hw:=w t h2;have e:ts.getD k.toNat (0,0,0)=t:=by rw[aE,h1];rfl
   unfold mj at hv;rw[e] at hv;simp only[au,bK,or_false] at hv;rcases hv with rfl | rfl<;>omega
  .exact o5 w (λj hj=>h j (ao _ hj)) v hv
theorem nQ.SQ {row:List Int}{kvs:iZ}(h:nQ row kvs){many:Int}(hr:∀v∈row,0<=v/\v<many):kvs.length<=many.toNat:=by
 obtain⟨h1,h2⟩:=h.heads;have:=fH h1 (ns:=gI 0 many.toNat) λv hv=>fk.mpr (by have:=hr v ((h2 v).mp hv);omega);rwa [ak,eQ] at this
theorem ql {many:Int}{ts:List fN}(w:EL many ts)(hm:many<=60){s:List Int}(h:iu ts s)(hq:Q (dQ (eF (eC ts s))) n):jB [gE many ts,dQ s] n Q X:=by
 have e0:gE many ts=.tuple [.int many,.tuple (ts.map fg)]:=rfl;unfold jB nD;simp only[nY,lS,envOf,aj,bo,ap,bh,Nat.reduceSub,Nat.reduceAdd,aZ,bA,bn,aO];with_reducible generalize OS:fY _=tr
 with_reducible generalize hb:jg (Od _) _ _=b
 rw[true_and,d7];intro a ha;simp only[ay,av,d7,jg,wm,ae,af,dQ];refine gQ (λpre post env n'=>n'=n/\∃(p q:List Int) (kvs:iZ) (x3 x4:Option mQ),env=[some (.s (gE many ts)),some (.s (.tuple (s.map .int))),some (.d a false kvs),x3,x4]/\post=q.map .int/\s=p++q/\nQ (eC ts p) kvs) _ [] _ _ ?_ ⟨rfl,[],s,[],_,_,rfl,rfl,rfl,nQ.nil⟩ ?_
 .rintro pre d post env n' E' hE ⟨rfl,p,q,kvs,x3,x4,rfl,ip,hs,ho⟩ wZ
  cases q with
  | nil=>cases ip
  | cons k q =>
   rw[aj] at ip;injection ip with h1 h2;subst h1;have hk:=h k (by rw[hs];simp);have hp:iu ts p:=λj hj=>h j (by rw[hs];exact a6 _ hj);have Ki:=o5 w hp;have IV:=ho.SQ Ki;rw[g8];simp only[ay,av];subst hb;have Zd:=Hw hk;rw[e0];simp only[jg,Od,Pd,Pb,Pc,eJ,dI,uC,ae,af,lu,ko,dJ,Zd,fg,RA,wz _ 2 (!2),show Int.toNat 2=2 from rfl,cf,List.take_zero,mR];rw[<- e0];simp only[km,g8,ay,av];refine Di ho (!1) λZe Tj Xi=>?_;refine Di Tj (!1) λVU DG Ca=>?_;refine wZ _ _ ⟨rfl,p++[k],q,VU,_,_,rfl,h2,by rw[hs];simp,?_⟩;rw[oZ,gr];rw[aG] at DG;exact DG
 .rintro pre env n' ⟨rfl,p,q,kvs,x3,x4,rfl,ip,hs,ho⟩
  cases q with
  | cons k q=>cases ip
  | nil =>
   rw[bg] at hs;subst hs;have IV:=ho.SQ (o5 w h);subst OS;have EM:=ho.heads.2;simp only[fY,nX,dH,uL,dN,gj,CM,Dd,mY,mR,dJ,aj,bo,ae,af];refine⟨!1,?_⟩
   rw[mF (λk=>.int k) (λk=>decide ((eC ts s).count k % 2=1)) _ _ _ _ (λk _ n Q=>by simp! [d7]) (λk hk n Q=>by
    have hv:=ho.val k;rw[if_pos ((EM k).mp ((sortI_perm _).mem_iff.mp hk))] at hv;simp only[fj,sH,dI,wN,dJ,hv,eU,dv,av,ae,af]),aO,ho.sorted]
   simp only[gp,dJ];exact hq
end
theorem iY (row:List Int)(v:Int):(eF row).count v % 2=row.count v % 2:=by
 rw[sS (iR row)];by_cases h:v∈eF row
 .rw[if_pos h,gS.mp h]
 .rw[if_neg h]
  have:¬ row.count v % 2=1:=λz=>h (gS.mpr z);omega
theorem Hx {a b:List Int}(h:∀v,a.count v % 2=b.count v % 2):eF a=eF b :=
 OQ (iw b) ((iw a).imp λh=>by omega) ((bY (iR a) (iR b)).mpr λv=>by rw[gS,gS,h v])
noncomputable def iy (ls:List Int)(t:fN):List Int:=match ls[t.1.toNat]?,ls[t.2.1.toNat]? with
 | some a,some b=>ls.map λl=>if l=(if a<b then b else a) then (if b<a then b else a) else l
 | _,_=>ls
structure Kl (many:Nat) (ts:List fN) (ls:List Int):Prop where
 len:ls.length=many
 join:∀t∈ts,ls[t.1.toNat]? = ls[t.2.1.toNat]?
 EN:∀C:Nat->Prop,(∀t∈ts,(C t.1.toNat↔C t.2.1.toNat))->∀p q l,ls[p]? = some l->ls[q]? = some l->(C p↔C q)
theorem Kl.begin (many:Nat):Kl many [] (gI 0 many):=by
 refine⟨by rw[eQ],!4,λC _ p q l h1 h2=>?_⟩
 have e:∀(p:Nat) (l:Int),(gI 0 many)[p]? = some l->l=(p:Int):=λp l h=>by
  unfold gI at h;rw[aC] at h
  cases hr:(List.range many)[p]? with
  | none=>rw[hr] at h;cases h
  | some x =>
   rw[hr] at h;have:=aX.mp hr;obtain⟨hl,hx⟩:=this;rw[List.getElem_range] at hx;cases h;show 0+(x:Int)=p;omega
 have a:=e p l h1;have b:=e q l h2;have:p=q:=by omega
 rw[this]
theorem EO {x y M m:Int}(j9:¬ x=y)(h:(if x=M then m else x)=(if y=M then m else y)):(x=M/\y=m)\/(x=m/\y=M):=by
 by_cases h1:x=M
 .by_cases h2:y=M
  .exact absurd (h1.trans h2.symm) j9
  .rw[if_pos h1,if_neg h2] at h
   exact .inl ⟨h1,h.symm⟩
 .by_cases h2:y=M
  .rw[if_neg h1,if_pos h2] at h
   exact .inr ⟨h,h2⟩
  .rw[if_neg h1,if_neg h2] at h
   exact absurd h j9
theorem Kl.step {many:Nat}{ts:List fN}{ls:List Int}(k:Kl many ts ls){t:fN}(h1:t.1.toNat<many)(h2:t.2.1.toNat<many):Kl many (ts++[t]) (iy ls t):=by
 have l1:t.1.toNat<ls.length:=by rw[k.len];exact h1
 have l2:t.2.1.toNat<ls.length:=by rw[k.len];exact h2
 obtain⟨a,ha⟩:∃a,ls[t.1.toNat]? = some a:=⟨ls[t.1.toNat],by simp[l1]⟩;obtain⟨b,hb⟩:∃b,ls[t.2.1.toNat]? = some b:=⟨ls[t.2.1.toNat],by simp[l2]⟩
 have e:iy ls t=ls.map λl=>if l=(if a<b then b else a) then (if b<a then b else a) else l:=by
  unfold iy;rw[ha,hb]
 rw[e];refine⟨by rw[ak];exact k.len,λu hu=>?_,λC hC p q l hp hq=>?_⟩
 .rw[aC,aC]
  rcases aB.mp hu with hu | hu
  .rw[k.join u hu]
  .have eu:=aw.mp hu
   subst eu;rw[ha,hb];simp only[bH,Option.some.injEq];by_cases pZ:a<b
   .have:¬ b<a:=by omega
    simp only[pZ,this,if_true,if_false];by_cases h:a=b<;>simp[h]
   .simp only[pZ,if_false,if_true]
    by_cases h:b<a
    .have:b≠a:=by omega
     simp[h,this]
    .have:a=b:=by omega
     simp[this]
 .rw[aC] at hp hq
  have Sf:∀u∈ts,(C u.1.toNat↔C u.2.1.toNat):=λu hu=>hC u (a6 _ hu);have pZ:=hC t (aJ _ (aw.mpr rfl))
  cases A9:ls[p]? with
  | none=>rw[A9] at hp;cases hp
  | some x =>
   cases zC:ls[q]? with
   | none=>rw[zC] at hq;cases hq
   | some y =>
    rw[A9] at hp;rw[zC] at hq;simp only[bH,Option.some.injEq] at hp hq;by_cases xp:x=y
    .subst xp
     exact k.EN C Sf p q x A9 zC
    .have hM:(if a<b then b else a)=a\/(if a<b then b else a)=b:=by
      split
      .exact .inr rfl
      .exact .inl rfl
     have hm:(if b<a then b else a)=a\/(if b<a then b else a)=b:=by
      split
      .exact .inr rfl
      .exact .inl rfl
     have Sh:=EO xp (hp.trans hq.symm)
     have hx:x=a\/x=b:=by
      rcases Sh with⟨z,_⟩ | ⟨z,_⟩
      .rw[z];exact hM
      .rw[z];exact hm
     have hy:y=a\/y=b:=by
      rcases Sh with⟨_,z⟩ | ⟨_,z⟩
      .rw[z];exact hm
      .rw[z];exact hM
     have px:C p↔C t.1.toNat:=by
      rcases hx with rfl | rfl
      .exact k.EN C Sf p _ x A9 ha
      .exact (k.EN C Sf p _ x A9 hb).trans pZ.symm
     have py:C q↔C t.1.toNat:=by
      rcases hy with rfl | rfl
      .exact k.EN C Sf q _ y zC ha
      .exact (k.EN C Sf q _ y zC hb).trans pZ.symm
     exact px.trans py.symm
theorem Kl.fold {many:Nat}:∀{us ts:List fN} {ls:List Int},Kl many ts ls->(∀t∈us,t.1.toNat<many/\t.2.1.toNat<many)->Kl many (ts++us) (us.foldl iy ls)
 | [],ts,ls,k,_=>by simpa using k
 | t::us,ts,ls,k,h=>by
  have:=Kl.fold (us:=us) (k.step (h t (ar ..)).1 (h t (ar ..)).2) λu hu=>h u (ao _ hu);rw[aG] at this;exact this
noncomputable def gX (p:Int->Bool):Nat->List Int->List Int
 | _,[]=>[]
 | k,x::xs=>if p x=true then (k:Int)::gX p (k+1) xs else gX p (k+1) xs
theorem sU {p:Int->Bool}{i:Int}:∀{xs:List Int} {k:Nat},i∈gX p k xs↔∃j x,i=((k+j:Nat):Int)/\xs[j]? = some x/\p x=true
 | [],k=>by simp[gX]
 | x::xs,k=>by
  have ih:=sU (p:=p) (i:=i) (xs:=xs) (k:=k+1)
  have key:(∃j y,i=((k+1+j:Nat):Int)/\xs[j]? = some y/\p y=true)↔∃j y,i=((k+(j+1):Nat):Int)/\(x::xs)[j+1]? = some y/\p y=true:=by
   constructor
   .rintro⟨j,y,e,h⟩
    exact⟨j,y,!1,h⟩
   .rintro⟨j,y,e,h⟩
    exact⟨j,y,!1,h⟩
  unfold gX;constructor
  .intro h
   split at h
   .rename_i hp
    rcases au.mp h with rfl | h
    .exact⟨0,x,rfl,rfl,hp⟩
    .obtain⟨j,y,h⟩:=key.mp (ih.mp h)
     exact⟨j+1,y,h⟩
   .obtain⟨j,y,h⟩:=key.mp (ih.mp h)
    exact⟨j+1,y,h⟩
  .rintro⟨j,y,e,h1,h2⟩
   cases j with
   | zero =>
    simp only[ae,Option.some.injEq] at h1;subst h1;rw[if_pos h2];exact au.mpr (.inl e)
   | succ j =>
    have:=ih.mpr (key.mpr ⟨j,y,e,h1,h2⟩);split
    .exact ao _ this
    .exact this
section
variable {n:Int}{X:XQ}
theorem zf {p:Int->Bool}{uc:UT}{Q:List ad->Int->Prop}{rest:fm}:∀(xs:List Int) (k:Nat) (acc:List ad) (x y:Option mQ),(∀a∈xs,∀(b:Int) n Q,uc (some (.s (.int a))::some (.s (.int b))::rest) n Q=Q (p a) n) ->
  eS (Ob [g8 1,g8 0]) uc (dU 1) Q (((xs.map ad.int).zipIdx k).map λq=>ad.tuple [.int (q.2:Nat),q.1]) acc (x::y::rest) n=Q (acc++(gX p k xs).map .int) n
 | [],k,acc,x,y,_=>by simp[eS,gX]
 | a::xs,k,acc,x,y,h=>by
  have ih:=λacc x y=>zf (Q:=Q) xs (k+1) acc x y λb hb=>h b (ao _ hb);simp only[aj,List.zipIdx_cons,eS,Ob,Ay,g8,av,ay,h a (ar ..)];unfold gX;by_cases hp:p a=true
  .simp! [hp,if_true]
   rw[ih];simp
  .have A9:p a=false:=by simpa using hp
   simp only[A9,bT,if_false];rw[ih]
variable {Q:ad->Int->Prop}
theorem w4 (ls:List Int)(l:Int):iW [.list (ls.map .int),.int l] n Q X=Q (dQ (gX (λa=>decide (a=l)) 0 ls)) n:=by
 simp! [iW,lV,g9];rw[zf (p:=λa=>decide (a=l)) _ _ _ _ _ λa _ b n Q=>by simp! [ji]];simp! [gp,dQ]
noncomputable def dR (many:Int)(ts:List fN):List Int:=ts.foldl iy (gI 0 many.toNat)
theorem sV (ls:List Int)(t:fN):(iy ls t).length=ls.length:=by
 unfold iy;split<;>simp
theorem zg {many:Int}{ts:List fN}(h0:0<=many)(h1:many<60)(ok:∀t∈ts,0<=t.1/\t.1<many/\0<=t.2.1/\t.2.1<many) :
  kT [gE many ts] n Q X=Q (.tuple ((kR (dR many ts)).map λl=>dQ (gX (λa=>decide (a=l)) 0 (dR many ts)))) n:=by
 simp! [kT,nA,gE,lr,ko];have hd:(-(2 ^ 62)<=many/\many<=16777216):=⟨!1,!1⟩;simp only[hd,true_and]
 have key:∀(us:List fN) (ls:List Int) (w:ad) (x2 x3 x4:Option mQ),ls.length=many.toNat->(∀t∈us,t∈ts)->km (g8 2) (d7 (eD 3 (nX u0 (dH (eJ jd (dI 1) (eJ jd (dI 2) (uC (ad.int 0)))) (dH (eJ jd (dI 1) (eJ jd (dI 2) (uC (ad.int 1)))) dN))))
   (d7 (eD 4 (nX u3 (dH (eJ jd (dI 1) (eJ jd (dI 2) (uC (ad.int 0)))) (dH (eJ jd (dI 1) (eJ jd (dI 2) (uC (ad.int 1)))) dN))))
    (eD 1 (uL (gj (CM (dI 1)) [none,some 3,some 4] (g8 0) kO (Lj (fj (eJ rX (dI 0) (dI 2))) (dU 1) (dU 0)))))))
   { nx:=fY (nX gp (dH (uL (gj (CM (uL (AJ (dI 1)))) [none,some 1] (g8 0) kO (dZ iW (dH (dU 1) (dH (dU 0) dN))))) dN)) { nx:=λx n'=>Q ad.none n',rt:=Q },rt:=Q }
   (us.map fg) [some (.s w),some (.s (.list (ls.map .int))),x2,x3,x4] n=Q (.tuple ((kR (us.foldl iy ls)).map λl=>dQ (gX (λa=>decide (a=l)) 0 (us.foldl iy ls)))) n:=by
  intro us
  induction us with
  | nil =>
   intro ls w x2 x3 x4 hl _;have HX:ls.length<64:=by omega
   simp! [km,bo,iH,HX];rw[mF (λl=>dQ (gX (λa=>decide (a=l)) 0 ls)) (λ_=>true) _ _ _ _ (λk _ n Q=>by simp! [w4]) (λk _ n Q=>by simp! [d7])];simp! [gp,jG,List.foldl_nil]
  | cons t us ih =>
   intro ls w x2 x3 x4 hl wY;have ht:=ok t (wY t (ar ..));obtain⟨a,ha,_,lD⟩:=yN (ns:=ls) (i:=t.1) ht.1 (!1);obtain⟨b,hb,_,Oe⟩:=yN (ns:=ls) (i:=t.2.1) ht.2.2.1 (!1)
   have e:iy ls t=ls.map λl=>if l=(if a<b then b else a) then (if b<a then b else a) else l:=by
    unfold iy;rw[lD,Oe]
   simp! [km,fg,lr,ko,ha,hb,u0,u3]
   rw[mF (λl=>.int (if l=(if a<b then b else a) then (if b<a then b else a) else l)) (λ_=>true) _ _ _ _ (λk _ n Q=>by
    simp! [ji,gt_iff_lt];by_cases hk:k=(if a<b then b else a)<;>simp[hk]) (λk _ n Q=>by simp! [d7])]
   have e2:(ls.map λl=>ad.int (if l=(if a<b then b else a) then (if b<a then b else a) else l))=(iy ls t).map .int:=by rw[e,bu];rfl
   simp! [jG,e2];rw[cu];exact ih (iy ls t) _ _ _ _ (by rw[sV];exact hl) λu hu=>wY u (ao _ hu)
 rw[jT];exact key ts _ _ _ _ _ (eQ _ _) (λ_ h=>h)
end
theorem sW (ts:List fN)(p:Int->Bool)(u:Int):∀l:List Int,(eC ts l).count u=(eC ts (l.filter p)).count u+(eC ts (l.filter λk=>!p k)).count u
 | []=>rfl
 | k::l=>by
  have ih:=sW ts p u l
  cases hp:p k with
  | true =>
   rw[cE hp,cF (by simp[hp]),gr,gr,bj,bj];omega
  | false =>
   rw[cF (by simp[hp]),cE (by simp[hp]),gr,gr,bj,bj];omega
theorem zh (p:Int->Bool):∀l:List Int,l.length=(l.filter p).length+(l.filter λk=>!p k).length
 | []=>rfl
 | k::l=>by
  have ih:=zh p l
  cases hp:p k with
  | true =>
   rw[cE hp,cF (by simp[hp]),ap,ap];omega
  | false =>
   rw[cF (by simp[hp]),cE (by simp[hp]),ap,ap];omega
theorem gY {ts:List fN}{a s:List Int}(ha:a.Nodup)(hs:s.Nodup)(u:Int):(eC ts (eF (a++s))).count u % 2=((eC ts a).count u+(eC ts s).count u) % 2:=by
 have h1:=(nP (ts:=ts) (Bl ha hs)).count_eq u;rw[oZ,bj] at h1;have h2:=sW ts (λk=>decide (k∈s)) u a;have h3:=sW ts (λk=>decide (k∈a)) u s;have h4:=(nP (ts:=ts) (EK ha hs)).count_eq u;omega
theorem zi {l:List Int}(h:∀v,l.count v % 2=0):eF l=[]:=c7.mpr λk hk=>by
 have:=gS.mp hk;have:=h k;omega
noncomputable def lB (ls:List Int)(v:Int):Int:=(gX (λa=>decide (a=ls.getD v.toNat 0)) 0 ls).headD 0
theorem getD_at {ls:List Int}{i:Nat}(h:i<ls.length):ls[i]? = some (ls.getD i 0):=by
 rw[aE,aV h];rfl
theorem Hy {ls:List Int}{v:Int}(h0:0<=v)(h1:v<(ls.length:Int)):lB ls v∈gX (λa=>decide (a=ls.getD v.toNat 0)) 0 ls:=by
 have hm:v∈gX (λa=>decide (a=ls.getD v.toNat 0)) 0 ls:=sU.mpr ⟨v.toNat,ls.getD v.toNat 0,!1,getD_at (!1),!4⟩;unfold lB
 cases h:gX (λa=>decide (a=ls.getD v.toNat 0)) 0 ls with
 | nil=>rw[h] at hm;cases hm
 | cons a r=>exact ar ..
theorem LM {ls:List Int}{v:Int}(h0:0<=v)(h1:v<(ls.length:Int)):0<=lB ls v/\lB ls v<(ls.length:Int)/\ls.getD (lB ls v).toNat 0=ls.getD v.toNat 0:=by
 obtain⟨j,x,e,hx,hp⟩:=sU.mp (Hy h0 h1);have hj:=(aX.mp hx).1;rw[e];refine⟨!1,!1,?_⟩;rw[show ((0+j:Nat):Int).toNat=j by omega,aE,hx];exact of_decide_eq_true hp
theorem Dj {ls:List Int}{u v:Int}(h:ls.getD u.toNat 0=ls.getD v.toNat 0):lB ls u=lB ls v:=by
 unfold lB;rw[h]
noncomputable abbrev iS (ts:List fN)(k:Int):fN:=ts.getD k.toNat (0,0,0)
noncomputable abbrev jI (many:Int)(ts:List fN):Prop:=∀t∈ts,0<=t.1/\t.1<t.2.1/\t.2.1<many
theorem nR {ts:List fN}{k:Int}(h:0<=k/\k<(ts.length:Int)):iS ts k∈ts:=by
 obtain⟨t,h1,h2,_⟩:=oY (ts:=ts) h.1 h.2;unfold iS;rw[aE,h1];exact h2
theorem Kj (kvs:iZ)(k:List Int):(eV kvs k).isSome=true↔k∈fW kvs:=by
 rw[<- mq,du,fW,a5];constructor
 .rintro⟨p,hp,h⟩;exact⟨p,hp,of_decide_eq_true h⟩
 .rintro⟨p,hp,h⟩;exact⟨p,hp,decide_eq_true h⟩
noncomputable abbrev bI (p:Prop)[Decidable p]:Nat:=if p then 1 else 0
structure Fo (many:Int) (ts:List fN) (rt:Int->Int) (kvs:iZ) (tr:List Int):Prop where
 val:∀v d,eV kvs [v]=some d->0<=v/\v<many/\∃w:List Int,d=dQ w/\w.Pairwise (· < ·)/\(∀k∈w,k∈tr)/\∀u,(eC ts w).count u % 2=(bI (u=v)+bI (u=rt v)) % 2
 key:∀l∈fW kvs,∃v,l=[v]
 nd:(fW kvs).Nodup
 num:iu ts tr
 LL:∀k∈tr,∃wa wb,eV kvs [(iS ts k).1]=some (dQ wa)/\eV kvs [(iS ts k).2.1]=some (dQ wb)/\eF ([k]++eF (wa++wb))=[]
 free:∀S:List Int,S.Nodup->(∀k∈S,k∈tr)->Df ts S->S=[]
 cnt:kvs≠[]->tr.length<kvs.length
theorem Fo.nil (many:Int)(ts:List fN)(rt:Int->Int):Fo many ts rt [] []:=⟨λv d h=>(by rw[mn] at h;cases h),λl h=>(by simp[fW] at h),by simp[fW],λk hk=>(by cases hk),λk hk=>(by cases hk),λS _ h _=>c7.mpr λk hk=>(by cases h k hk),λz=>absurd rfl z⟩
section
variable {many:Int}{ts:List fN}{rt:Int->Int}{kvs:iZ}{tr:List Int}
theorem Dk {y:Int}{d:ad}(h:∀l∈fW kvs,∃v,l=[v]):∀l∈fW (iV kvs [y] d),∃v,l=[v]:=λl hl=>by
 rw[o4] at hl;split at hl
 .exact h l hl
 .rcases aB.mp hl with hl | hl
  .exact h l hl
  .exact⟨y,aw.mp hl⟩
theorem Hz {y:Int}{d:ad}(h:(fW kvs).Nodup):(fW (iV kvs [y] d)).Nodup:=by
 rw[o4];split
 .exact h
 .rename_i hm
  rw[cw];exact⟨h,!4,λa ha b hb=>by rw[aw.mp hb];exact λz=>hm (z ▸ ha)⟩
theorem Fo.root (F:Fo many ts rt kvs []){p:Int}(h0:0<=p)(h1:p<many)(hr:rt p=p):Fo many ts rt (iV kvs [p] (dQ [])) []:=by
 refine⟨λv d h=>?_,Dk F.key,Hz F.nd,F.num,λk hk=>(by cases hk),F.free,λz=>List.length_pos_iff.mpr z⟩;rw[jH] at h;by_cases hv:v=p
 .subst hv
  rw[if_pos rfl] at h;cases h;refine⟨h0,h1,[],rfl,List.Pairwise.nil,!4,λu=>?_⟩;rw[hr];show 0 % 2=(bI (u=v)+bI (u=v)) % 2;omega
 .rw[if_neg (by simpa using hv)] at h
  exact F.val v d h
theorem sX {ts:List fN}{k x y:Int}(h:(iS ts k).1=x/\(iS ts k).2.1=y\/(iS ts k).2.1=x/\(iS ts k).1=y)(u:Int):(mj ts k).count u=bI (u=x)+bI (u=y):=by
 have c1:∀a b:Int,[a,b].count u=bI (u=a)+bI (u=b):=λa b=>by
  have e:∀a:Int,(if (a == u)=true then 1 else 0)=bI (u=a):=λa=>by
   by_cases h:u=a
   .subst h;simp[bI]
   .rw[bI,if_neg h,if_neg (by simpa using λz=>h z.symm)]
  rw[cS,cS,List.count_nil,e,e];omega
 show [(iS ts k).1,(iS ts k).2.1].count u=_;rw[c1];rcases h with⟨rfl,rfl⟩ | ⟨rfl,rfl⟩
 .rfl
 .exact Nat.add_comm _ _
theorem Fo.grow (F:Fo many ts rt kvs tr){k x y:Int}{w:List Int}(hk:0<=k/\k<(ts.length:Int))(xp:(iS ts k).1=x/\(iS ts k).2.1=y\/(iS ts k).2.1=x/\(iS ts k).1=y)(j9:x≠y)(y0:0<=y)(y1:y<many)
  (hx:eV kvs [x]=some (dQ w)) (hy:eV kvs [y]=none) (hr:rt y=rt x):Fo many ts rt (iV kvs [y] (dQ (eF (w++[k])))) (tr++[k]):=by
 obtain⟨_,_,w',ew,hw,Zf,Zg⟩:=F.val x _ hx
 have e:w'=w:=by
  have:w'.map ad.int=w.map ad.int:=by injection ew.symm
  exact List.map_inj_right (λa b h=>by injection h) |>.mp this
 subst e;have OT:∀v d,eV kvs [v]=some d->v≠y:=λv d h z=>by rw[z,hy] at h;cases h
 have Zh:∀u,(eC ts [k]).count u=bI (u=x)+bI (u=y):=λu=>by
  show (mj ts k++[]).count u=_;rw[bg];exact sX xp u
 have keep:∀{v:Int} {d:ad},eV kvs [v]=some d->eV (iV kvs [y] (dQ (eF (w'++[k])))) [v]=some d:=λ{v d} h=>by
  rw[jH,if_neg (by simpa using OT v d h)];exact h
 have xC:eV (iV kvs [y] (dQ (eF (w'++[k])))) [y]=some (dQ (eF (w'++[k]))):=by rw[jH,if_pos rfl]
 refine⟨λv d h=>?_,Dk F.key,Hz F.nd,λj hj=>?_,λj hj=>?_,λS hS FP OU=>?_,λ_=>?_⟩
 .rw[jH] at h
  by_cases hv:v=y
  .subst hv
   rw[if_pos rfl] at h;cases h;refine⟨y0,y1,_,rfl,iw _,λj hj=>?_,λu=>?_⟩
   .have hj:j∈w'++[k]:=cK.mp (by have:=gS.mp hj;omega)
    rcases aB.mp hj with hj | hj
    .exact a6 _ (Zf j hj)
    .exact aJ _ hj
   .have h1:=gY (ts:=ts) (gz hw) (by simp:[k].Nodup) u
    have h2:=Zg u;have h3:=Zh u;rw[hr];generalize bI (u=x)=A at h2 h3;generalize bI (u=v)=B at h3 ⊢;generalize bI (u=rt x)=C at h2 ⊢;omega
  .rw[if_neg (by simpa using hv)] at h
   obtain⟨a,b,w2,e2,h2,h3,h4⟩:=F.val v d h;exact⟨a,b,w2,e2,h2,λj hj=>a6 _ (h3 j hj),h4⟩
 .rcases aB.mp hj with hj | hj
  .exact F.num j hj
  .rw[aw.mp hj];exact hk
 .rcases aB.mp hj with hj | hj
  .obtain⟨wa,wb,h1,h2,h3⟩:=F.LL j hj
   exact⟨wa,wb,keep h1,keep h2,h3⟩
  .rw[aw.mp hj]
   have ev:∀a b:List Int,(∀v,(a++b).count v=(w'++eF (w'++[k])).count v)->eF ([k]++eF (a++b))=[]:=λa b pZ=>zi λv=>by
    have h1:=iY (a++b) v;have h2:=iY (w'++[k]) v;have h3:=pZ v;rw[bj] at h2 h3 ⊢;rw[bj] at h3;rw[bj] at h1;omega
   rcases xp with⟨e1,e2⟩ | ⟨e1,e2⟩
   .rw[e1,e2]
    exact⟨w',_,keep hx,xC,ev _ _ λv=>rfl⟩
   .rw[e1,e2]
    exact⟨_,w',xC,keep hx,ev _ _ λv=>by rw[bj,bj];omega⟩
 .by_cases Xj:k∈S
  .exfalso
   have hp:=List.perm_cons_erase Xj;have hc:=(nP (ts:=ts) hp).count_eq y;rw[gr,bj,sX xp y] at hc
   have h0:(eC ts (S.erase k)).count y=0:=List.count_eq_zero.mpr λhm=>by
    obtain⟨l,hl,Tu⟩:=List.mem_flatten.mp hm;obtain⟨j,hj,rfl⟩:=a5.mp hl
    have Pm:j≠k:=λz=>by
     subst z;exact (bN.mp (hp.nodup_iff.mp hS)).1 hj
    have Zi:j∈tr:=by
     rcases aB.mp (FP j (List.mem_of_mem_erase hj)) with h | h
     .exact h
     .exact absurd (aw.mp h) Pm
    obtain⟨wa,wb,h1,h2,_⟩:=F.LL j Zi;have Tu:y∈[(iS ts j).1,(iS ts j).2.1]:=Tu;simp only[au,bK,or_false] at Tu;rcases Tu with e | e
    .exact OT _ _ h1 e.symm
    .exact OT _ _ h2 e.symm
   have h2:=OU y;rw[show bI (y=x)=0 from if_neg (λz=>j9 z.symm),show bI (y=y)=1 from if_pos rfl,h0] at hc;omega
  .exact F.free S hS (λj hj=>by
    rcases aB.mp (FP j hj) with h | h
    .exact h
    .exact absurd (aw.mp h ▸ hj) Xj) OU
 .have h1:=F.cnt λz=>by rw[z,mn] at hx;cases hx
  have:(iV kvs [y] (dQ (eF (w'++[k])))).length=kvs.length+1:=by
   unfold iV;rw[if_neg (by rw[mq,hy];simp),aI,bp]
  rw[aI,bp];omega
end
structure j6 (many:Int) (ts:List fN) (kvs:iZ) (tr:List Int):Prop where
 fo:Fo many ts (lB (dR many ts)) kvs tr
 all:∀v,0<=v->v<many->(eV kvs [v]).isSome=true
theorem sY (many:Int)(ts:List fN):(dR many ts).length=many.toNat:=by
 have:∀(us:List fN) (ls:List Int),(us.foldl iy ls).length=ls.length:=by
  intro us
  induction us with
  | nil=>intro ls;rfl
  | cons t us ih=>intro ls;rw[cu,ih,sV]
 unfold dR;rw[this,eQ]
theorem vw {many:Int}{ts:List fN}(ok:jI many ts):Kl many.toNat ts (dR many ts):=by
 have:=Kl.fold (us:=ts) (Kl.begin many.toNat) λt ht=>by
  have:=ok t ht;omega
 rwa [aO] at this
theorem Bo {many:Int}{ts:List fN}(ok:jI many ts){t:fN}(ht:t∈ts):lB (dR many ts) t.1=lB (dR many ts) t.2.1:=by
 refine Dj ?_;have:=(vw ok).join t ht;rw[aE,aE,this]
theorem OV {many:Int}{ts:List fN}(ok:jI many ts){C:Int->Prop}(hC:∀t∈ts,(C t.1↔C t.2.1)){v:Int}(h0:0<=v)(h1:v<many):C v↔C (lB (dR many ts) v):=by
 have hl:=sY many ts;obtain⟨r0,r1,hr⟩:=LM (ls:=dR many ts) (v:=v) h0 (!1)
 have hm:=(vw ok).EN (λi=>C (i:Int)) (λt ht=>by
  have:=ok t ht;rw[show ((t.1.toNat:Nat):Int)=t.1 by omega,show ((t.2.1.toNat:Nat):Int)=t.2.1 by omega];exact hC t ht) v.toNat (lB (dR many ts) v).toNat _ (getD_at (!1)) (by rw[<- hr];exact getD_at (!1))
 rwa [show ((v.toNat:Nat):Int)=v by omega,show (((lB (dR many ts) v).toNat:Nat):Int)=lB (dR many ts) v by omega] at hm
theorem LN (i:Int):wN false (.int i)=some [i]:=rfl
noncomputable abbrev Pl (x:Option mQ):Prop:=∀a t kvs,x≠some (.d a t kvs)
theorem zj (d:ad):Pl (some (.s d)):=λ_ _ _ z=>by cases z
theorem HA:Pl none:=λ_ _ _ z=>by cases z
theorem Dl {e:Option mQ}{a:Addr}:∀(pre post:List (Option mQ)),(∀x∈pre++post,Pl x)->OL (pre++e::post) pre.length a
 | pre,post,h=>λj t kvs hj z=>by
  by_cases h1:j<pre.length
  .rw[bM h1] at z
   exact h _ (a6 _ (bO z)) a t kvs rfl
  .rw[bJ (!1)] at z
   obtain⟨i,hi⟩:∃i,j - pre.length=i+1:=⟨j - pre.length - 1,!1⟩;rw[hi,af] at z;exact h _ (aJ _ (bO z)) a t kvs rfl
theorem Fo.len {many:Int}{ts:List fN}{rt:Int->Int}{kvs:iZ}{tr:List Int}(F:Fo many ts rt kvs tr):kvs.length<=many.toNat:=by
 have h1:((fW kvs).map λl=>l.headD 0).Nodup:=by
  refine cc.mpr (List.Pairwise.imp_of_mem ?_ F.nd);intro a b ha hb pZ z;obtain⟨x,rfl⟩:=F.key a ha;obtain⟨y,rfl⟩:=F.key b hb;exact pZ (by simpa using z)
 have h2:=fH (ns:=gI 0 many.toNat) h1 λv hv=>by
  obtain⟨l,hl,rfl⟩:=a5.mp hv;obtain⟨x,rfl⟩:=F.key l hl;obtain⟨d,hd⟩:=b9.mp ((Kj kvs [x]).mpr hl);have:=F.val x d hd;exact fk.mpr ⟨this.1,by have:=this.2.1;simp;omega⟩
 rw[ak,fW,ak,eQ] at h2;exact h2
theorem jk {ts:List fN}{w tr:List Int}(h1:w.Pairwise (· < ·))(h2:∀k∈w,k∈tr)(h3:iu ts tr):w.length<=ts.length:=by
 have:=fH (ns:=gI 0 ts.length) (gz h1) λk hk=>fk.mpr (by have:=h3 k (h2 k hk);omega);rwa [eQ] at this
theorem Kk {kvs:iZ}{k:List Int}{d:ad}(h:eV kvs k=none):(iV kvs k d).length=kvs.length+1:=by
 unfold iV;have:(kvs.any λp=>decide (p.1=k))=false:=by rw[mq,h];rfl
 rw[if_neg (by simp[this]),aI,bp]
theorem OW {ts:List fN}{pre post:List ad}{d:ad}(h:pre++d::post=g9 (ts.map fg)):pre.length<ts.length/\d=.tuple [.int (pre.length:Nat),fg (iS ts (pre.length:Nat))]:=by
 unfold g9 at h;have h1:=congrArg (λl=>l[pre.length]?) h;simp only[bJ (am _),Nat.sub_self,ae,aC,List.getElem?_zipIdx] at h1;have h2:=congrArg List.length h;rw[aI,ap,ak,List.length_zipIdx,ak] at h2;have hl:pre.length<ts.length:=by omega
 refine⟨hl,?_⟩;rw[aV hl] at h1;simp only[bH,Option.some.injEq,cV] at h1;rw[h1];simp[iS,aE,hl]
section
variable {n:Int}{X:XQ}{Q:ad->Int->Prop}
theorem w5 {many:Int}{ts:List fN}(m0:1<=many)(m1:many<60)(ok:jI many ts)(hl:ts.length<=30)(hq:∀kvs tr,j6 many ts kvs tr->Q (iB false kvs) n):jW [gE many ts] n Q X:=by
 have hsz:ax=16777216:=by decide
 have e0:gE many ts=.tuple [.int many,.tuple (ts.map fg)]:=rfl;have OE:=sY many ts;unfold jW lX;simp only[nY,lS,envOf,aj,bo,ap,bh,Nat.reduceSub,Nat.reduceAdd,aZ,bA,bn,aO];with_reducible generalize Zj:d7 (eD 3 (uC (.bool true))) _=wh
 rw[true_and,d7,C'];intro a ha;simp only[ay,av];rw[d7,jg,Od,dZ,dH,dU];simp only[ae,af];rw[dN,zg (!1) m1 (λt ht=>by have:=ok t ht;omega)];simp only[mR,dJ]
 refine gQ (λpre post env n'=>n'=n/\pre++post=((kR (dR many ts)).map λl=>dQ (gX (λa=>decide (a=l)) 0 (dR many ts)))/\∃(kvs:iZ) (x2:Option mQ),env=[some (.s (gE many ts)),some (.d a false kvs),x2,none,none,none,none]/\Pl x2/\Fo many ts (lB (dR many ts)) kvs [] /\
  ∀l∈dR many ts,dQ (gX (λa=>decide (a=l)) 0 (dR many ts))∈pre->(eV kvs [(gX (λa=>decide (a=l)) 0 (dR many ts)).headD 0]).isSome=true) _ [] _ _ ?_ ⟨rfl,rfl,[],none,rfl,HA,Fo.nil _ _ _,!4⟩ ?_
 .rintro pre d post env n' E' hE ⟨rfl,hp,kvs,x2,rfl,D6,F,Dm⟩ wZ
  obtain⟨l,Xi,rfl⟩:∃l∈kR (dR many ts),dQ (gX (λa=>decide (a=l)) 0 (dR many ts))=d:=a5.mp (hp ▸ aJ pre (ar ..));have Zk:l∈dR many ts:=iK.mp Xi;obtain⟨j,hj,Lu⟩:=ce Zk
  have VV:(dR many ts).getD ((j:Int)).toNat 0=l:=by
   rw[aE,br,aV hj,Lu];rfl
  have Pj:(gX (λa=>decide (a=l)) 0 (dR many ts)).headD 0=lB (dR many ts) (j:Int):=by unfold lB;rw[VV]
  have EM:=Hy (ls:=dR many ts) (v:=(j:Int)) (!1) (!1);have Ki:=LM (ls:=dR many ts) (v:=(j:Int)) (!1) (!1);rw[VV] at EM Ki;rw[<- Pj] at Ki EM
  have Si:lB (dR many ts) ((gX (λa=>decide (a=l)) 0 (dR many ts)).headD 0)=(gX (λa=>decide (a=l)) 0 (dR many ts)).headD 0:=by
   conv=>rhs;rw[Pj]
   exact Dj (by rw[Ki.2.2,VV])
  obtain⟨p,r,Pn⟩:∃p r,gX (λa=>decide (a=l)) 0 (dR many ts)=p::r:=by
   cases h:gX (λa=>decide (a=l)) 0 (dR many ts) with
   | nil=>rw[h] at EM;cases EM
   | cons p r=>exact⟨p,r,rfl⟩
  have e8:=F.len;rw[g8];simp only[ay,av];rw[oS,fD,dN];simp only[ae,af];rw[eJ,dI];simp only[ae,af]
  have Nf:jd (dQ (gX (λa=>decide (a=l)) 0 (dR many ts))) (.int 0)=some (.int ((gX (λa=>decide (a=l)) 0 (dR many ts)).headD 0)):=by
   rw[Pn];show jd (.tuple (.int p::r.map .int)) (.int 0)=_;rw[lu,lr];rfl
  rw[uC,Nf,dJ,LN,dJ]
  refine⟨⟨!1,Dl [_] [_,_,_,_,_] (by
   intro x hx;simp only[bn,aO,au,bK,or_false] at hx;rcases hx with rfl | rfl | rfl | rfl | rfl | rfl<;>first | exact zj _ | exact HA)⟩,?_⟩
  simp only[ay,av];refine wZ _ _ ⟨rfl,by rw[aG];exact hp,_,_,rfl,zj _,F.root Ki.1 (!1) Si,λl' NA hm=>?_⟩;rw[jH];split
  .rfl
  .rename_i j9
   rcases aB.mp hm with hm | hm
   .exact Dm l' NA hm
   .exfalso
    have e:=aw.mp hm
    have:gX (λa=>decide (a=l')) 0 (dR many ts)=gX (λa=>decide (a=l)) 0 (dR many ts):=by
     have:(gX (λa=>decide (a=l')) 0 (dR many ts)).map ad.int=(gX (λa=>decide (a=l)) 0 (dR many ts)).map ad.int:=by injection e
     exact List.map_inj_right (λa b h=>by injection h) |>.mp this
    rw[this] at j9;exact j9 rfl
 .rintro pre env n' ⟨rfl,hp,kvs,x2,rfl,D6,F,Dm⟩
  rw[bg] at hp
  have lg:∀v,0<=v->v<many->(eV kvs [lB (dR many ts) v]).isSome=true:=λv v0 v1=>by
   have hm:(dR many ts).getD v.toNat 0∈dR many ts:=bO (getD_at (!1));exact Dm _ hm (hp ▸ a5.mpr ⟨_,iK.mpr hm,rfl⟩)
  clear Dm hp;show wh _ _ _;subst Zj;with_reducible generalize Zl:h9 _ _ _=bd
  rw[d7,eD,uC];simp only[ay,av];rw[d7];unfold AD
  refine⟨λm env n2=>n2=n'/\∃(kvs:iZ) (tr:List Int) (g:Bool) (x2 x4 x5 x6:Option mQ),env=[some (.s (gE many ts)),some (.d a false kvs),x2,some (.s (.bool g)),x4,x5,x6]/\(Pl x2/\Pl x4/\Pl x5/\Pl x6)/\Fo many ts (lB (dR many ts)) kvs tr/\(∀v,0<=v->v<many->(eV kvs [lB (dR many ts) v]).isSome=true) /\
   (g=false->∀t∈ts,(eV kvs [t.1]).isSome=(eV kvs [t.2.1]).isSome)/\m=(if g=true then 1 else 0)+(many.toNat - kvs.length),⟨_,rfl,kvs,[],true,x2,none,none,none,rfl,⟨D6,HA,HA,HA⟩,F,lg,λz=>(by cases z),rfl⟩,?_⟩
  clear lg F D6;rintro m env n' ⟨rfl,kvs,tr,g,x2,x4,x5,x6,rfl,⟨p2,p4,p5,p6⟩,F,lg,hg,rfl⟩;rw[fj,dU];simp only[ae,af];rw[eU]
  cases g with
  | false =>
   rw[if_neg (!2)];show yD 1 _ _ _;rw[yD];simp only[ae,af];refine hq kvs tr ⟨F,λv v0 v1=>?_⟩;refine (OV ok (C:=λv=>(eV kvs [v]).isSome=true) (λt ht=>by rw[hg rfl t ht]) v0 v1).mpr (lg v v0 v1)
  | true =>
   rw[if_pos rfl,d7,eD,uC];simp only[ay,av];rw[jg,Vg,eJ,dI];simp only[ae,af];rw[uC,e0,lu,ko,dJ];simp only[mR,dJ];rw[<- e0]
   refine gQ (λpre post env Sj=>Sj=n'/\pre++post=g9 (ts.map fg)/\∃(kv:iZ) (tr:List Int) (g:Bool) (x2 x4 x5 x6:Option mQ),env=[some (.s (gE many ts)),some (.d a false kv),x2,some (.s (.bool g)),x4,x5,x6]/\(Pl x2/\Pl x4/\Pl x5/\Pl x6)/\Fo many ts (lB (dR many ts)) kv tr/\(∀v,0<=v->v<many->(eV kv [lB (dR many ts) v]).isSome=true) /\
    (g=true->kvs.length<kv.length)/\(g=false->kv.length=kvs.length/\∀i:Nat,i<pre.length->(eV kv [(iS ts i).1]).isSome=(eV kv [(iS ts i).2.1]).isSome)) _ [] _ _ ?_ ⟨rfl,rfl,kvs,tr,false,x2,x4,x5,x6,rfl,⟨p2,p4,p5,p6⟩,F,lg,λz=>(by cases z),λ_=>⟨rfl,λi hi=>(by cases hi)⟩⟩ ?_
   .clear p2 p4 p5 p6 F lg hg
    rintro pre d post env Sj E' hE ⟨rfl,hp,kv,tr,g,x2,x4,x5,x6,rfl,⟨p2,p4,p5,p6⟩,F,lg,NI,E9⟩ wZ;obtain⟨mT,rfl⟩:=OW hp;obtain⟨k,hk⟩:∃k:Int,k=(pre.length:Nat):=⟨_,rfl⟩;rw[<- hk];have Tv:0<=k/\k<(ts.length:Int):=by omega
    have LO:=nR Tv;have Zm:=ok _ LO;have VW:=Bo ok LO;generalize ht:iS ts k=t at LO Zm VW ⊢
    have A9:(pre++[ad.tuple [.int (pre.length:Nat),fg (iS ts (pre.length:Nat))]])++post=g9 (ts.map fg):=by
     rw[aG];exact hp
    subst Zl;rw[Ob,Ay];simp only[Ay,g8,ay,av];rw[h9,fj,eJ,wR,eJ,dI];simp only[ae,af];rw[uC,fg,lu,lr,dJ,LN,dJ,wR,eJ,dI];simp only[ae,af];rw[uC,lu,ko,dJ,LN,dJ,GR,dJ,eU]
    have LP:∀(g':Bool),g'=g->(eV kv [t.1]).isSome=(eV kv [t.2.1]).isSome->E'.nx [some (.s (gE many ts)),some (.d a false kv),x2,some (.s (.bool g)),some (.s (.int k)),some (.s (.tuple [.int t.1,.int t.2.1,.int t.2.2])),x6] Sj:=λg' _ hs=>by
     refine wZ _ _ ⟨rfl,A9,kv,tr,g,_,_,_,_,rfl,⟨p2,zj _,zj _,p6⟩,F,lg,NI,λz=>⟨(E9 z).1,λi hi=>?_⟩⟩;rw[aI,bp] at hi;by_cases h:i<pre.length
     .exact (E9 z).2 i h
     .have:(i:Int)=k:=by omega
      rw[this,ht];exact hs
    have LQ:∀x y w,(t.1=x/\t.2.1=y\/t.2.1=x/\t.1=y)->kB t x=y->eV kv [x]=some (dQ w)->eV kv [y]=none->d7 (oS 1 (dZ iX (dH (dU 5) (dH (dU 6) dN))) (dZ f' (dH (sH 1 (dI 6)) (dH (fD (dH (dU 4) dN)) dN))))
      (eD 3 (uC (.bool true))) E' [some (.s (gE many ts)),some (.d a false kv),x2,some (.s (.bool g)),some (.s (.int k)),some (.s (.tuple [.int t.1,.int t.2.1,.int t.2.2])),some (.s (.int x))] Sj:=λx y w xp Zn hx hy=>by
     have Zo:=F.val x _ hx;have j9:x≠y:=by rcases xp with⟨rfl,rfl⟩ | ⟨rfl,rfl⟩<;>omega
     have Xk:0<=y/\y<many:=by rcases xp with⟨rfl,rfl⟩ | ⟨rfl,rfl⟩<;>omega
     have VX:lB (dR many ts) y=lB (dR many ts) x:=by rcases xp with⟨rfl,rfl⟩ | ⟨rfl,rfl⟩<;>first | exact VW | exact VW.symm
     obtain⟨_,_,w2,ew,Zp,R5,_⟩:=Zo
     have e:w2=w:=by
      have:w2.map ad.int=w.map ad.int:=by injection ew.symm
      exact List.map_inj_right (λa b h=>by injection h) |>.mp this
     subst e;have O3:=jk Zp R5 F.num;have F2:=F.grow (k:=k) (x:=x) (y:=y) (w:=w2) Tv (by rw[ht];exact xp) j9 Xk.1 Xk.2 hx hy VX;have Zq:=Kk (d:=dQ (eF (w2++[k]))) hy;have e8:=F.len;rw[d7,oS,dZ,dH,sH];simp only[ae,af];rw[dI];simp only[ae,af];rw[LN,dJ,hx,dJ,dH,fD,dH,dU];simp only[ae,af];rw[dN,dN];rw[show ad.tuple [.int k]=dQ [k] from rfl,h8 (by simp;omega)];try simp only[ae,af]
     rw[dZ,dH,dU];simp only[ae,af];rw[dH,dU];simp only[ae,af];rw[dN,show ad.tuple [.int t.1,.int t.2.1,.int t.2.2]=fg t from rfl,wV,Zn,LN,dJ]
     refine⟨⟨!1,Dl [_] [_,_,_,_,_] (by
      intro z hz;simp only[bn,aO,au,bK,or_false] at hz;rcases hz with rfl | rfl | rfl | rfl | rfl | rfl<;>first | exact zj _ | exact p2)⟩,?_⟩
     simp only[ay,av];rw[eD,uC];simp only[ay,av];refine wZ _ _ ⟨rfl,A9,_,tr++[k],true,_,_,_,_,rfl,⟨p2,zj _,zj _,zj _⟩,F2,λv v0 v1=>?_,λ_=>?_,λz=>(by cases z)⟩
     .rw[jH]
      split
      .rfl
      .exact lg v v0 v1
     .rw[Zq]
      cases g with
      | true=>have:=NI rfl;omega
      | false=>have:=(E9 rfl).1;omega
    have D0:∀v,(eV kv [v]).isSome=true->∃w,eV kv [v]=some (dQ w):=λv hv=>by
     obtain⟨d,hd⟩:=b9.mp hv;obtain⟨_,_,w,rfl,_⟩:=F.val v d hd;exact⟨w,hd⟩
    have p8:∀v,(eV kv [v]).isSome=false->eV kv [v]=none:=λv hv=>by simpa using hv
    have VY:kB t t.1=t.2.1:=if_pos rfl;have VZ:kB t t.2.1=t.1:=if_neg (!1)
    cases E5:(eV kv [t.1]).isSome with
    | true =>
     cases Hs:(eV kv [t.2.1]).isSome with
     | true =>
      rw[if_neg (!2),gG];exact LP g rfl (by rw[E5,Hs])
     | false =>
      obtain⟨w,hw⟩:=D0 _ E5;rw[if_pos (!2),d7,eD,Lj,fj,wR,eJ,dI];simp only[ae,af];rw[uC,lu,lr,dJ,LN,dJ,E5,eU,if_pos rfl,eJ,dI];simp only[ae,af];rw[uC,lu,lr,dJ];simp only[ay,av];exact LQ t.1 t.2.1 w (.inl ⟨rfl,rfl⟩) VY hw (p8 _ Hs)
    | false =>
     cases Hs:(eV kv [t.2.1]).isSome with
     | true =>
      obtain⟨w,hw⟩:=D0 _ Hs;rw[if_pos (!2),d7,eD,Lj,fj,wR,eJ,dI];simp only[ae,af];rw[uC,lu,lr,dJ,LN,dJ,E5,eU,if_neg (!2),eJ,dI];simp only[ae,af];rw[uC,lu,ko,dJ];simp only[ay,av];exact LQ t.2.1 t.1 w (.inr ⟨rfl,rfl⟩) VZ hw (p8 _ E5)
     | false =>
      rw[if_neg (!2),gG];exact LP g rfl (by rw[E5,Hs])
   .rintro pre env Sj ⟨rfl,hp,kv,tr,g,x2,x4,x5,x6,rfl,ps,F2,Km,NI,E9⟩
    rw[bg] at hp;have mT:pre.length=ts.length:=by rw[hp];simp[g9]
    have e8:=F2.len;have LR:=F.len;refine⟨_,?_,rfl,kv,tr,g,x2,x4,x5,x6,rfl,ps,F2,Km,λz t ht=>?_,rfl⟩
    .cases g with
     | true=>have:=NI rfl;simp only[if_true];omega
     | false=>have:=(E9 rfl).1;simp only[if_true,bT,if_false];omega
    .obtain⟨i,hi,rfl⟩:=ce ht
     have:=(E9 z).2 i (!1);rwa [show iS ts (i:Int)=ts[i] by simp[iS,aE,hi]] at this
end
noncomputable def jl (kvs:iZ)(v:Int):List Int:=match eV kvs [v] with
 | some (.tuple ds)=>(iG ds).getD []
 | _=>[]
theorem w6 {kvs:iZ}{v:Int}{w:List Int}(h:eV kvs [v]=some (dQ w)):jl kvs v=w:=by
 unfold jl;rw[h];show (iG (w.map .int)).getD []=w;rw[iH];rfl
noncomputable def gm (ts:List fN)(kvs:iZ)(k:Int):List Int:=eF ([k]++eF (jl kvs (iS ts k).1++jl kvs (iS ts k).2.1))
section
variable {many:Int}{ts:List fN}{kvs:iZ}{tr:List Int}
theorem j6.way (h:j6 many ts kvs tr){v:Int}(h0:0<=v)(h1:v<many):eV kvs [v]=some (dQ (jl kvs v))/\(jl kvs v).Pairwise (· < ·)/\(∀k∈jl kvs v,k∈tr)/\∀u,(eC ts (jl kvs v)).count u % 2=(bI (u=v)+bI (u=lB (dR many ts) v)) % 2:=by
 obtain⟨d,hd⟩:=b9.mp (h.all v h0 h1);obtain⟨_,_,w,rfl,hw⟩:=h.fo.val v d hd;rw[w6 hd];exact⟨hd,hw⟩
theorem j6.OX (h:j6 many ts kvs tr){v:Int}(h0:0<=v)(h1:v<many):(jl kvs v).length<=ts.length:=jk (h.way h0 h1).2.1 (h.way h0 h1).2.2.1 h.fo.num
theorem iz {l:List Int}{k:Int}(h:k∈eF l):k∈l:=cK.mp (by have:=gS.mp h;omega)
theorem o6 (h:j6 many ts kvs tr)(ok:jI many ts){k:Int}(hk:0<=k/\k<(ts.length:Int)):∀j∈gm ts kvs k,j=k\/j∈tr:=λj hj=>by
 have ht:=ok _ (nR hk);rcases aB.mp (iz hj) with h1 | h1
 .exact .inl (aw.mp h1)
 .rcases aB.mp (iz h1) with h1 | h1
  .exact .inr ((h.way ht.1 (!1)).2.2.1 j h1)
  .exact .inr ((h.way (!1) ht.2.2).2.2.1 j h1)
theorem sZ (h:j6 many ts kvs tr)(ok:jI many ts){k:Int}(hk:0<=k/\k<(ts.length:Int)):iu ts (gm ts kvs k):=λj hj=>by
 rcases o6 h ok hk j hj with rfl | h1
 .exact hk
 .exact h.fo.num j h1
theorem qP (ts:List fN)(kvs:iZ)(k:Int):(gm ts kvs k).Pairwise (· < ·):=iw _
theorem vx (h:j6 many ts kvs tr)(ok:jI many ts){k:Int}(hk:0<=k/\k<(ts.length:Int)):Df ts (gm ts kvs k):=λu=>by
 have LO:=nR hk;have ht:=ok _ LO;obtain⟨_,a1,_,a2⟩:=h.way ht.1 (!1);obtain⟨_,c1,_,c2⟩:=h.way (show 0<=(iS ts k).2.1 by omega) ht.2.2;have h1:=gY (ts:=ts) (gz a1) (gz c1) u;have h2:=gY (ts:=ts) (by simp:[k].Nodup) (iR (jl kvs (iS ts k).1++jl kvs (iS ts k).2.1)) u
 have h3:(eC ts [k]).count u=bI (u=(iS ts k).1)+bI (u=(iS ts k).2.1):=by
  show (mj ts k++[]).count u=_;rw[bg];exact sX (.inl ⟨rfl,rfl⟩) u
 have h4:=a2 u;have h5:=c2 u;rw[Bo ok LO] at h4;unfold gm;generalize bI (u=(iS ts k).1)=A at h3 h4;generalize bI (u=(iS ts k).2.1)=B at h3 h5;generalize bI (u=lB (dR many ts) (iS ts k).2.1)=C at h4 h5;omega
theorem zk (h:j6 many ts kvs tr){k:Int}(hk:k∈tr):gm ts kvs k=[]:=by
 obtain⟨wa,wb,h1,h2,h3⟩:=h.fo.LL k hk;unfold gm;rw[w6 h1,w6 h2];exact h3
theorem s9 (h:j6 many ts kvs tr)(ok:jI many ts){k:Int}(hk:0<=k/\k<(ts.length:Int))(hn:k ∉ tr):k∈gm ts kvs k:=by
 have ht:=ok _ (nR hk);unfold gm;rw[iP (by simp:[k].Nodup) (iR _)];intro z;have hm:=z.mp (aw.mpr rfl);rcases aB.mp (iz hm) with h1 | h1
 .exact hn ((h.way ht.1 (!1)).2.2.1 k h1)
 .exact hn ((h.way (!1) ht.2.2).2.2.1 k h1)
theorem Kn (h:j6 many ts kvs tr)(ok:jI many ts){k:Int}(hk:0<=k/\k<(ts.length:Int)):gm ts kvs k≠[]↔k ∉ tr :=
 ⟨λh1 h2=>h1 (zk h h2),λh1 h2=>by have:=s9 h ok hk h1;rw[h2] at this;cases this⟩
end
section
variable {n:Int}{X:XQ}{Q:ad->Int->Prop}
theorem ER (ts:List fN):g9 (ts.map fg)=(gI 0 ts.length).map λk=>.tuple [.int k,fg (iS ts k)]:=by
 refine List.ext_getElem? λi=>?_;unfold g9 gI;rw[aC,List.getElem?_zipIdx,aC,aC,aC];by_cases hi:i<ts.length
 .rw[aV hi,aV (by simpa using hi)]
  simp[iS,aE,hi]
 .rw[bq (!1),bq (by simp;omega)]
  rfl
theorem o7 {α:Type}(I:fm->Prop)(g f:α->ad)(p:α->Bool){ug:UG}{uc:UT}{ue:UX}{Q:List ad->Int->Prop}{n:Int}:∀(xs:List α) (acc:List ad) (env:fm),(∀k∈xs,∀env,I env->∃eB,I eB/\(∀K,ug (g k) env K=K eB)/\(∀n Q,uc eB n Q=Q (p k) n)/\(∀n Q,ue eB n Q=Q (f k) n))->I env ->
  eS ug uc ue Q (xs.map g) acc env n=Q (acc++(xs.filter p).map f) n
 | [],acc,env,_,_=>by simp[eS]
 | a::xs,acc,env,h,hi=>by
  obtain⟨eB,zA,h1,h2,h3⟩:=h a (ar ..) env hi;have ih:=λacc=>o7 I g f p (ug:=ug) (uc:=uc) (ue:=ue) (Q:=Q) (n:=n) xs acc eB (λk hk=>h k (ao _ hk)) zA;rw[aj,eS,h1,h2]
  cases hp:p a with
  | true =>
   rw[if_pos rfl,h3,ih,cE hp,aj,aG];rfl
  | false=>rw[if_neg (!2),ih,cF (by simp[hp])]
theorem HB {env:fm}{n:Int}{Q:ad->Int->Prop}{uk ud:UX}{v:Int}{kvs:iZ}{d:ad}(h1:∀n Q,uk env n Q=Q (.int v) n)(h2:∀n Q,ud env n Q=Q (iB false kvs) n)(h3:eV kvs [v]=some d):vh ud uk env n Q=Q d n:=by
 rw[vh,h2,A6,dJ];simp only[h1,LN,dJ,h3]
theorem Ko (w:List Int):CK (dQ w) (.tuple [])=some (.bool (!decide (w=[]))):=by
 rw[show ad.tuple []=.tuple (([]:List Int).map .int) from rfl,dQ,u5]
theorem uj {many:Int}{ts:List fN}{kvs:iZ}{tr:List Int}(h:j6 many ts kvs tr)(ok:jI many ts)(hl:ts.length<=28):jj [gE many ts,iB false kvs] n Q X=Q (.list ((((gI 0 ts.length).map (gm ts kvs)).filter λw=>!decide (w=[])).map dQ)) n:=by
 have e0:gE many ts=.tuple [.int many,.tuple (ts.map fg)]:=rfl;rw[e0];simp! [jj,kU,ko,Te,ER]
 rw[o7 (λenv=>∃x y,env=[x,y,some (.s (iB false kvs))]) _ (λk=>dQ (gm ts kvs k)) (λ_=>true) _ _ _ (λk hk env ⟨x,y,he⟩=>by
  subst he;have hk:=fk.mp hk;have Tv:0<=k/\k<(ts.length:Int):=by omega
  have ht:=ok _ (nR Tv);have w1:=h.way ht.1 (show (iS ts k).1<many by omega);have w2:=h.way (show 0<=(iS ts k).2.1 by omega) ht.2.2;have l1:=h.OX ht.1 (show (iS ts k).1<many by omega);have l2:=h.OX (show 0<=(iS ts k).2.1 by omega) ht.2.2;refine⟨[some (.s (.int k)),some (.s (fg (iS ts k))),some (.s (iB false kvs))],⟨_,_,rfl⟩,λK=>by simp! [d7],λn Q=>by simp! [d7],λn Q=>?_⟩;rw[dZ,dH,fD,dH,dU];simp only[ae,af];rw[dN,dH,dZ,dH];rw[HB (v:=(iS ts k).1) (kvs:=kvs) (d:=dQ (jl kvs (iS ts k).1)) (λn Q=>by rw[fg];simp! [lr]) (λn Q=>by simp! [d7]) w1.1,dH]
  rw[HB (v:=(iS ts k).2.1) (kvs:=kvs) (d:=dQ (jl kvs (iS ts k).2.1)) (λn Q=>by rw[fg];simp! [ko]) (λn Q=>by simp! [d7]) w2.1,dN,h8 (!1),dN,show ad.tuple [.int k]=dQ [k] from rfl,h8 (by
   have h1:=fH (ms:=eF (jl kvs (iS ts k).1++jl kvs (iS ts k).2.1)) (ns:=jl kvs (iS ts k).1++jl kvs (iS ts k).2.1) (iR _) λj hj=>iz hj;rw[aI] at h1;rw[bp];omega)]
  rfl) ⟨_,_,rfl⟩]
 rw[jG,aO];simp! [d7];rw[show ((gI 0 ts.length).map λk=>dQ (gm ts kvs k))=((gI 0 ts.length).map (gm ts kvs)).map dQ by rw[bu];rfl]
 rw[o7 (λenv=>∃x,env=[x]) dQ dQ (λw=>!decide (w=[])) _ _ _ (λw hw env ⟨x,he⟩=>by
  subst he;obtain⟨k,hk,rfl⟩:=a5.mp hw;have hk:=fk.mp hk;have e8:=jk (qP ts kvs k) (λj hj=>hj) (sZ h ok (by omega:0<=k/\k<(ts.length:Int)))
  exact⟨[some (.s (dQ (gm ts kvs k)))],⟨_,rfl⟩,λK=>by simp! [d7],λn Q=>by
   rw[fj,eJ,dI];simp only[ae];rw[fD,dN,Ko,dJ,eU],λn Q=>by simp! [d7]⟩) ⟨_,rfl⟩]
 rw[aO]
end
noncomputable def jJ (m:Nat)(r:Nat):List Int:=(gI 0 m).filter λk=>decide (r / 2 ^ k.toNat % 2=1)
theorem zm (p:Int->Bool):∀m:Nat,∃r:Nat,r<2 ^ m/\∀k:Nat,k<m->(r / 2 ^ k % 2=1↔p k=true)
 | 0=>⟨0,!2,λk hk=>by omega⟩
 | m+1=>by
  obtain⟨r,hr,h⟩:=zm p m;have Zr:(2:Nat) ^ (m+1)=2 * 2 ^ m:=by rw[Nat.pow_succ];omega
  cases hp:p m with
  | false =>
   refine⟨r,!1,λk hk=>?_⟩;by_cases e:k=m
   .subst e
    rw[Nat.div_eq_of_lt hr,hp];simp
   .exact h k (!1)
  | true =>
   refine⟨r+2 ^ m,!1,λk hk=>?_⟩;by_cases e:k=m
   .subst e
    rw[Nat.add_div_right _ (Nat.pow_pos (!2)),Nat.div_eq_of_lt hr,hp];simp
   .have Zs:k<m:=by omega
    have e2:(2:Nat) ^ m=2 ^ k * (2 * 2 ^ (m - k - 1)):=by
     rw[<- Nat.pow_succ',<- Nat.pow_add];congr 1;omega
    rw[e2,Nat.add_mul_div_left _ _ (Nat.pow_pos (!2)),Nat.add_mul_mod_self_left];exact h k Zs
theorem w9 (m:Nat):(gI 0 m).Pairwise (· < ·):=by
 unfold gI;exact cc.mpr (List.pairwise_lt_range.imp λh=>by omega)
theorem Dn (ts:List fN)(r:Nat):iu ts (jJ ts.length r):=λk hk=>by have:=fk.mp (aW.mp hk).1;omega
theorem HC (m r:Nat):(jJ m r).Pairwise (· < ·):=(w9 m).sublist List.filter_sublist
theorem Kp {ts:List fN}{ks:List Int}(hk:iu ts ks)(hl:ks.Pairwise (· < ·)):∃r:Nat,r<2 ^ ts.length/\jJ ts.length r=ks:=by
 obtain⟨r,hr,h⟩:=zm (λk=>decide (k∈ks)) ts.length;refine⟨r,hr,wq (HC _ _) hl λk=>?_⟩;unfold jJ;rw[aW,fk];constructor
 .rintro⟨h1,h2⟩
  have:=(h k.toNat (!1)).mp (of_decide_eq_true h2);rw[show ((k.toNat:Nat):Int)=k by omega] at this;exact of_decide_eq_true this
 .intro hm
  have hb:=hk k hm;refine⟨!1,decide_eq_true ((h k.toNat (!1)).mpr ?_)⟩;rw[show ((k.toNat:Nat):Int)=k by omega];exact decide_eq_true hm
noncomputable def gZ (ts:List fN)(told:List Int):List (List Int):=((List.range (2 ^ ts.length)).filter λr=>decide (eF (eC ts (jJ ts.length r))=told)).map (jJ ts.length)
theorem gA {ts:List fN}{told ks:List Int}:ks∈gZ ts told↔iu ts ks/\ks.Pairwise (· < ·)/\eF (eC ts ks)=told:=by
 unfold gZ;rw[a5];constructor
 .rintro⟨r,hr,rfl⟩
  exact⟨Dn ts r,HC _ _,of_decide_eq_true (aW.mp hr).2⟩
 .rintro⟨h1,h2,h3⟩
  obtain⟨r,hr,rfl⟩:=Kp h1 h2;exact⟨r,aW.mpr ⟨cB.mpr hr,decide_eq_true h3⟩,rfl⟩
section
variable {n:Int}{X:XQ}{Q:ad->Int->Prop}
theorem lx {many:Int}{ts:List fN}{told:List Int}(w:EL many ts)(hm:many<=60)(hl:ts.length<=11)(h:Q (.list ((gx (gZ ts told)).map dQ)) n):gJ [gE many ts,dQ told] n Q X:=by
 have e0:gE many ts=.tuple [.int many,.tuple (ts.map fg)]:=rfl;have hsz:ax=16777216:=by decide
 have Zt:(2:Nat) ^ ts.length<=2 ^ 11:=cz (!2) hl;have V0:(1:Int) * 2 ^ ts.length=((2 ^ ts.length:Nat):Int):=by simp
 have V1:GA (.int 1) (.int (ts.length:Nat))=some (.int ((2 ^ ts.length:Nat):Int)):=by
  simp only[GA];rw[br,if_pos ⟨!1,!1,!1⟩,V0]
 have hand:∀i:Int,0<=i->i<2048->Builtin.bitAnd i 1=i % 2:=λi i0 i1=>by
  have:∀x:Fin 2048,Builtin.bitAnd (x.val:Int) 1=(x.val:Int) % 2:=by decide +kernel
  have:=this ⟨i.toNat,!1⟩;rwa [show (((⟨i.toNat,!1⟩:Fin 2048).val:Nat):Int)=i by show ((i.toNat:Nat):Int)=i;omega] at this
 unfold gJ jC;simp only[nY,lS,envOf,aj,bo,ap,bh,Nat.reduceSub,Nat.reduceAdd,aZ,bA,bn,aO];with_reducible generalize OS:fY _=tr
 with_reducible generalize hb:d7 (eD 5 _) _=b
 simp only[r9,dN,d7,eD,nX,dH,eJ,dI,uC,true_and,ae,af,ay,av];rw[e0,lu,ko,dJ,<- e0];simp only[lR,ak,dJ,ay,av,jg,Lr,eJ,uC,dI,ae,af,V1];generalize Zu:(2:Nat) ^ ts.length=NN at Zt;refine⟨!1,!1,?_⟩;rw[br,jT];refine gQ (λpre post env n'=>n'=n/\∃x4 x5:Option mQ,env=[some (.s (gE many ts)),some (.s (dQ told)),some (.o ((((List.range pre.length).filter λr=>decide (eF (eC ts (jJ ts.length r))=told)).map (jJ ts.length)).map dQ)),some (.s (.int (ts.length:Nat))),x4,x5]/\pre++post=(gI 0 NN).map ad.int) _ [] _ _ ?_ ⟨rfl,_,_,rfl,rfl⟩ ?_
 .rintro pre d post env n' E' hE ⟨rfl,x4,x5,rfl,hp⟩ wZ
  have HD:pre.length<NN:=by
   have:=congrArg List.length hp;rw[aI,ap,ak,eQ] at this;omega
  have hd:d=.int (pre.length:Nat):=by
   have h1:=congrArg (λl=>l[pre.length]?) hp;simp only[bJ (am _),Nat.sub_self,ae,aC] at h1;unfold gI at h1;rw[aC,List.getElem?_range HD] at h1;simpa using h1
  subst hd;rw[g8];simp only[ay,av];subst hb;rw[d7,eD,nX,dH,uL,gj,JG,dU];simp only[ae,af,mY,aj,bo,dv];refine⟨⟨!1,!1⟩,?_⟩;rw[br,jT]
  rw[mF (λk=>.int k) (λk=>decide (pre.length / 2 ^ k.toNat % 2=1)) _ _ _ _ (λk _ n Q=>by simp! [d7]) (λk hk n Q=>by
   have hk:=fk.mp hk;have S8:(0:Int)<=(pre.length:Int) / 2 ^ k.toNat:=Int.ediv_nonneg (!1) (by exact cy (Int.pow_pos (!2)));have Zv:(pre.length:Int) / 2 ^ k.toNat<2048:=Int.lt_of_le_of_lt (Int.ediv_le_self _ (!1)) (!1)
   have e2:((pre.length:Int) / 2 ^ k.toNat % 2=1)↔(pre.length / 2 ^ k.toNat % 2=1):=by
    have:((pre.length / 2 ^ k.toNat % 2:Nat):Int)=(pre.length:Int) / 2 ^ k.toNat % 2:=by simp
    omega
   simp! [JD,show (0:Int)<=k from hk.1,if_true,JO,hand _ S8 Zv,ji,e2]),aO]
  rw[dN];simp only[gp,dJ,ay,av];show h9 _ _ _ E' [some (.s (gE many ts)),some (.s (dQ told)),some (.o ((((List.range pre.length).filter λr=>decide (eF (eC ts (jJ ts.length r))=told)).map (jJ ts.length)).map dQ)),some (.s (.int (ts.length:Nat))),some (.s (.int (pre.length:Nat))),some (.s (dQ (jJ ts.length pre.length)))] n';rw[h9,fj,eJ,dZ,dH,dU];simp only[ae,af];rw[dH,dU];simp only[ae,af];rw[dN];refine ql w hm (Dn ts _) ?_;rw[dI];simp only[ae,af];rw[show rX (dQ (eF (eC ts (jJ ts.length pre.length)))) (dQ told)=some (.bool (decide (eF (eC ts (jJ ts.length pre.length))=told))) from Eo,dJ,eU];have Zw:=bw (λr=>decide (eF (eC ts (jJ ts.length r))=told)) (List.range pre.length);rw[bS] at Zw;by_cases hd:eF (eC ts (jJ ts.length pre.length))=told
  .rw[decide_eq_true hd,if_pos rfl]
   simp only[mZ,dH,dU,dN,ae,af];rw[nr (by rw[ak,ak];omega),dJ];refine wZ _ _ ⟨rfl,some (.s (.int (pre.length:Nat))),some (.s (dQ (jJ ts.length pre.length))),?_,by rw[aG];exact hp⟩;rw[aI,bp,List.range_succ,cJ,a8,a8];simp only[cR,decide_eq_true hd,if_true,List.filter_nil,aj,bo,ay,av]
  .rw[decide_eq_false hd,if_neg (!2),gG]
   refine wZ _ _ ⟨rfl,some (.s (.int (pre.length:Nat))),some (.s (dQ (jJ ts.length pre.length))),?_,by rw[aG];exact hp⟩;rw[aI,bp,List.range_succ,cJ];simp only[cR,decide_eq_false hd,bT,if_false,List.filter_nil,bg]
 .rintro pre env n' ⟨rfl,x4,x5,rfl,hp⟩
  rw[bg] at hp;have HD:pre.length=NN:=by rw[hp,ak,eQ]
  rw[HD,<- Zu]
  have IV:(gZ ts told).length<=2 ^ ts.length:=by
   unfold gZ;rw[ak];have:=bw (λr=>decide (eF (eC ts (jJ ts.length r))=told)) (List.range (2 ^ ts.length));rwa [bS] at this
  rw[<- OS];have Hf:∀l:List (List Int),l.map dQ=l.map kS:=λl=>rfl;simp only[fY,uL,sG,dI,ae,af];rw[Hf,sD,dJ];exact⟨by show (gZ ts told).length<4000;omega,h⟩
end
theorem vy (p:Int->Bool):∀(m:Nat) (l:List Int),l.length<=m->(∀v,l.count v % 2=0)->(l.countP p) % 2=0
 | _,[],_,_=>rfl
 | 0,a::r,h,_=>by simp at h
 | m+1,a::r,h,he=>by
  have h1:=he a;rw[List.count_cons_self] at h1;have hm:a∈r:=cK.mp (!1);have hp:=List.perm_cons_erase hm;have hl:=hp.length_eq;rw[ap] at h hl
  have ih:=vy p m (r.erase a) (!1) λv=>by
   have h2:=he v;have h3:=hp.count_eq v;rw[cS] at h2 h3;omega
  rw[cQ,hp.countP_eq,cQ];omega
theorem HE (p:Int->Bool)(l:List Int):((eF l).countP p) % 2=(l.countP p) % 2:=by
 have:=vy p _ (eF l++l) (am _) λv=>by
  have:=iY l v;rw[bj];omega
 rw[List.countP_append] at this;omega
theorem o8 {a b:List Int}(ha:a.Pairwise (· < ·))(hb:b.Pairwise (· < ·))(h:∀k,k∈a↔k∈b):a=b:=wq ha hb h
structure vz (ts:List fN) (told s:List Int):Prop where
 num:iu ts s
 lt:s.Pairwise (· < ·)
 od:eF (eC ts s)=told
theorem vz.turn {ts:List fN}{told s e:List Int}(h:vz ts told s)(he:Df ts e)(hn:iu ts e)(hl:e.Pairwise (· < ·)):vz ts told (eF (s++e)):=by
 refine⟨wW h.num hn,iw _,?_⟩;rw[<- h.od];refine Hx λv=>?_;have h1:=gY (ts:=ts) (gz h.lt) (gz hl) v;have h2:=he v;omega
noncomputable def zo (l:List (List Int))(base:List (List Int)):List (List Int):=base.foldl (λl e=>l++l.map λx=>eF (x++e)) l
section
variable {many:Int}{ts:List fN}{kvs:iZ}{tr told:List Int}
structure zp (ts:List fN) (tr told:List Int) (D:List Int) (l:List (List Int)):Prop where
 nd:l.Nodup
 jn:∀x∈l,vz ts told x
 sub:∀x∈l,∀k∈x,k∈tr\/k∈D
 ex:∀s:Int->Bool,∃x∈l,∀k∈D,(k∈x↔s k=true)
theorem zp.step (H:j6 many ts kvs tr)(ok:jI many ts){D:List Int}{l:List (List Int)}(h:zp ts tr told D l){k:Int}(hk:0<=k/\k<(ts.length:Int))(hn:k ∉ tr)(hD:k ∉ D)(Zx:∀j∈D,j ∉ tr):zp ts tr told (D++[k]) (l++l.map λx=>eF (x++gm ts kvs k)):=by
 have Pj:=qP ts kvs k;have Xl:=s9 H ok hk hn;have mt:∀x∈l,∀j,(j∈eF (x++gm ts kvs k)↔¬ (j∈x↔j∈gm ts kvs k)):=λx hx j=>iP (gz (h.jn x hx).lt) (gz Pj);have Tw:∀x∈l,k ∉ x:=λx hx z=>(h.sub x hx k z).elim hn hD;refine⟨cw.mpr ⟨h.nd,?_,λx hx y hy e=>?_⟩,λx hx=>?_,λx hx j hj=>?_,λs=>?_⟩
 .refine cc.mpr (List.Pairwise.imp_of_mem ?_ h.nd)
  intro x y hx hy xp z;refine xp (o8 (h.jn x hx).lt (h.jn y hy).lt λj=>?_);have h1:=mt x hx j;have h2:=mt y hy j;rw[z] at h1;have:=h1.symm.trans h2;by_cases a:j∈x<;>by_cases b:j∈y<;>by_cases c:j∈gm ts kvs k<;>simp_all
 .subst e
  obtain⟨y,hy,e⟩:=a5.mp hy;refine Tw x hx ?_;rw[<- e,mt y hy];exact λz=>Tw y hy (z.mpr Xl)
 .rcases aB.mp hx with hx | hx
  .exact h.jn x hx
  .obtain⟨y,hy,rfl⟩:=a5.mp hx
   exact (h.jn y hy).turn (vx H ok hk) (sZ H ok hk) Pj
 .rcases aB.mp hx with hx | hx
  .exact (h.sub x hx j hj).imp id λz=>a6 _ z
  .obtain⟨y,hy,rfl⟩:=a5.mp hx
   rcases aB.mp (iz hj) with z | z
   .exact (h.sub y hy j z).imp id λz=>a6 _ z
   .rcases o6 H ok hk j z with rfl | z
    .exact .inr (aJ _ (aw.mpr rfl))
    .exact .inl z
 .obtain⟨x,hx,hs⟩:=h.ex s
  cases e:s k with
  | false =>
   refine⟨x,a6 _ hx,λj hj=>?_⟩;rcases aB.mp hj with hj | hj
   .exact hs j hj
   .rw[aw.mp hj,e]
    simp[Tw x hx]
  | true =>
   refine⟨_,aJ _ (a5.mpr ⟨x,hx,rfl⟩),λj hj=>?_⟩;rw[mt x hx];rcases aB.mp hj with hj | hj
   .have:j ∉ gm ts kvs k:=λz=>by
     rcases o6 H ok hk j z with e | z
     .exact hD (e ▸ hj)
     .exact Zx j hj z
    rw[<- hs j hj];simp[this]
   .rw[aw.mp hj,e]
    simp[Tw x hx,Xl]
noncomputable def nS (ts:List fN)(tr:List Int):List Int:=(gI 0 ts.length).filter λk=>!decide (k∈tr)
theorem mw {k:Int}:k∈nS ts tr↔(0<=k/\k<(ts.length:Int))/\k ∉ tr:=by
 unfold nS;rw[aW,fk];simp
theorem Bp (m:Nat):(gI 0 m).Nodup:=gz (w9 m)
theorem zp.go (H:j6 many ts kvs tr)(ok:jI many ts):∀(ks:List Int) (D:List Int) (l:List (List Int)),zp ts tr told D l->(D++ks).Nodup->(∀k∈D++ks,(0<=k/\k<(ts.length:Int))/\k ∉ tr)->zp ts tr told (D++ks) (zo l (ks.map (gm ts kvs)))
 | [],D,l,h,_,_=>by rw[bg];exact h
 | k::ks,D,l,h,hn,hk=>by
  have Ib:=hk k (aJ _ (ar ..));have Zy:k ∉ D:=λz=>(cw.mp hn).2.2 k z k (ar ..) rfl;have e:D++k::ks=(D++[k])++ks:=by rw[aG];rfl
  rw[e] at hn hk ⊢;exact zp.go H ok ks (D++[k]) _ (h.step H ok Ib.1 Ib.2 Zy λj hj=>(hk j (a6 _ (a6 _ hj))).2) hn hk
theorem HF (H:j6 many ts kvs tr)(ok:jI many ts):((gI 0 ts.length).map (gm ts kvs)).filter (λw=>!decide (w=[]))=(nS ts tr).map (gm ts kvs):=by
 unfold nS;rw[List.filter_map];congr 1;refine List.filter_congr λk hk=>?_;have hk:=fk.mp hk;have:=Kn H ok (k:=k) (!1);show (!decide (gm ts kvs k=[]))=!decide (k∈tr);by_cases h:k∈tr
 .rw[decide_eq_true h,decide_eq_true (zk H h)]
 .rw[decide_eq_false h,decide_eq_false (this.mpr h)]
theorem xg (ts:List fN)(told:List Int):(gZ ts told).Nodup:=by
 unfold gZ;refine cc.mpr (List.Pairwise.imp_of_mem ?_ (List.nodup_range.filter _));intro a b ha hb pZ z;have ha:=cB.mp (aW.mp ha).1;have hb:=cB.mp (aW.mp hb).1
 have key:∀m a b:Nat,a<2 ^ m->b<2 ^ m->(∀k,k<m->(a / 2 ^ k % 2=1↔b / 2 ^ k % 2=1))->a=b:=by
  intro m
  induction m with
  | zero=>intro a b ha hb _;simp at ha hb;omega
  | succ m ih =>
   intro a b ha hb hk;rw[Nat.pow_succ] at ha hb;have h0:=hk 0 (!1)
   have h1:=ih (a / 2) (b / 2) (!1) (!1) λk Eh=>by
    have:=hk (k+1) (!1);rw[Nat.pow_succ',<- Nat.div_div_eq_div_mul,<- Nat.div_div_eq_div_mul] at this;exact this
   simp at h0;omega
 refine pZ (key _ a b ha hb λk hk=>?_)
 have hm:∀r:Nat,((k:Int)∈jJ ts.length r↔r / 2 ^ k % 2=1):=λr=>by
  unfold jJ;rw[aW,fk,decide_eq_true_eq,br];exact⟨λh=>h.2,λh=>⟨!1,h⟩⟩
 rw[<- hm a,<- hm b,z]
theorem HG (H:j6 many ts kvs tr)(ok:jI many ts){j:List Int}(hj:vz ts told j)(hs:∀k∈j,k∈tr):(zo [j] ((nS ts tr).map (gm ts kvs))).Perm (gZ ts told):=by
 have h:=zp.go H ok (told:=told) (nS ts tr) [] [j] ⟨!4,by simpa using hj,λx hx k hk=>.inl (hs k (by rw[aw.mp hx] at hk;exact hk)),λs=>⟨j,!4,!4⟩⟩ (by rw[aO];exact (Bp _).filter _) (λk hk=>by rw[aO] at hk;exact mw.mp hk);rw[aO] at h;have VN:=xg ts told;refine (bY h.nd VN).mpr λS=>?_;rw[gA];constructor
 .intro hS
  have:=h.jn S hS;exact⟨this.num,this.lt,this.od⟩
 .rintro⟨h1,h2,h3⟩
  obtain⟨x,hx,hs⟩:=h.ex λk=>decide (k∈S);have Po:=h.jn x hx;have h0:=H.fo.free (eF (S++x)) (iR _) (λk hk=>?_) λv=>?_
  .have:S=x:=o8 h2 Po.lt λk=>by
    have:=iP (gz h2) (gz Po.lt) (k:=k);rw[h0] at this;by_cases a:k∈S<;>by_cases b:k∈x<;>simp_all
   rw[this];exact hx
  .refine Classical.byContradiction λhn=>?_
   have SU:=wW h1 Po.num k hk;have:=hs k (mw.mpr ⟨SU,hn⟩);rw[iP (gz h2) (gz Po.lt)] at hk;rw[decide_eq_true_eq] at this;exact hk this.symm
  .have e1:=gY (ts:=ts) (gz h2) (gz Po.lt) v
   have e2:=iY (eC ts S) v;have e3:=iY (eC ts x) v;rw[h3] at e2;rw[Po.od] at e3;omega
noncomputable def LS (kvs:iZ)(told:List Int):List Int:=told.foldl (λj p=>eF (j++jl kvs p)) []
theorem tf (H:j6 many ts kvs tr):∀(us pre j:List Int),(∀p∈us,0<=p/\p<many)->j.Pairwise (· < ·)->(∀k∈j,k∈tr)->(∀u,(eC ts j).count u % 2=(pre.count u+(pre.map (lB (dR many ts))).count u) % 2) ->
  (us.foldl (λj p=>eF (j++jl kvs p)) j).Pairwise (· < ·)/\(∀k∈us.foldl (λj p=>eF (j++jl kvs p)) j,k∈tr)/\∀u,(eC ts (us.foldl (λj p=>eF (j++jl kvs p)) j)).count u % 2=((pre++us).count u+((pre++us).map (lB (dR many ts))).count u) % 2
 | [],pre,j,_,h1,h2,h3=>by rw[bg];exact⟨h1,h2,h3⟩
 | p::us,pre,j,hp,h1,h2,h3=>by
  obtain⟨_,w1,w2,w3⟩:=H.way (hp p (ar ..)).1 (hp p (ar ..)).2;rw[cu,show pre++p::us=(pre++[p])++us by rw[aG];rfl];refine tf H us (pre++[p]) _ (λq hq=>hp q (ao _ hq)) (iw _) (λk hk=>?_) λu=>?_
  .rcases aB.mp (iz hk) with z | z
   .exact h2 k z
   .exact w2 k z
  .have e1:=gY (ts:=ts) (gz h1) (gz w1) u
   have e2:=h3 u;have e3:=w3 u;rw[bj,a8,bj]
   have c:∀a:Int,[a].count u=bI (u=a):=λa=>by
    rw[cS,List.count_nil];by_cases h:u=a
    .subst h;simp[bI]
    .rw[bI,if_neg h,if_neg (by simpa using λz=>h z.symm)]
   rw[aj,bo,c,c];omega
theorem Bq (ok:jI many ts){S:List Int}(hS:iu ts S)(hr:∀p∈told,0<=p/\p<many)(h:eF (eC ts S)=told)(u:Int):((told.map (lB (dR many ts))).count u) % 2=0:=by
 have h1:=HE (λv=>decide (lB (dR many ts) v=u)) (eC ts S);rw[h] at h1
 have h2:(told.map (lB (dR many ts))).count u=told.countP (λv=>decide (lB (dR many ts) v=u)):=by
  rw[List.count,List.countP_map];congr 1
 have h3:∀l:List Int,iu ts l->(eC ts l).countP (λv=>decide (lB (dR many ts) v=u)) % 2=0:=by
  intro l
  induction l with
  | nil=>intro _;rfl
  | cons k l ih =>
   intro hl;have hk:=hl k (ar ..);have e:=Bo ok (nR hk);have:=ih λj hj=>hl j (ao _ hj);rw[gr,List.countP_append]
   have:[(iS ts k).1,(iS ts k).2.1].countP (λv=>decide (lB (dR many ts) v=u)) % 2=0:=by
    rw[cQ,cQ,List.countP_nil,e];split<;>omega
   have:(mj ts k).countP (λv=>decide (lB (dR many ts) v=u)) % 2=0:=this;omega
 have:=h3 S hS;omega
end
theorem tj:∀(base l:List (List Int)),(zo l base).length=l.length * 2 ^ base.length
 | [],l=>by simp[zo]
 | e::base,l=>by
  have:=tj base (l++l.map λx=>eF (x++e));unfold zo at this ⊢;rw[cu,this,aI,ak,ap,Nat.pow_succ,Nat.mul_comm (2 ^ base.length) 2,<- Nat.mul_assoc];congr 1;omega
theorem HH {m:Nat}{a b:List Int}(ha:∀k∈a,0<=k/\k<(m:Int))(hb:∀k∈b,0<=k/\k<(m:Int)):(eF (a++b)).length<=m:=by
 have:=fH (ns:=gI 0 m) (iR (a++b)) λk hk=>fk.mpr (by
  rcases aB.mp (iz hk) with z | z
  .have:=ha k z;omega
  .have:=hb k z;omega)
 rwa [eQ] at this
theorem Br (ns:List Int):qd (dQ ns)=true:=by
 have:∀ns:List Int,pI (ns.map .int)=true:=by
  intro ns
  induction ns with
  | nil=>rfl
  | cons a ns ih=>simpa [pI,qd] using ih
 exact this _
theorem O2 (t:fN):RA (fg t) none (some 2)=some (.tuple [.int t.1,.int t.2.1]):=by
 simp only[fg,RA,wz _ 2 (!2)];rfl
theorem zq {ts:List fN}{k:Int}{t:fN}(h:ts[k.toNat]? = some t):mj ts k=[t.1,t.2.1]:=by
 unfold mj;rw[aE,h];rfl
theorem vA (l:List (List Int)):pM (l.map dQ)=some l:=sD l
section
variable {n:Int}{X:XQ}{Q:ad->Int->Prop}
theorem Bs {row:List Int}(h1:(jQ row).length<=60)(h2:row.length<=100000):f9 [.list (row.map .int)] n Q X=Q (dQ (eF row)) n:=by
 simp only[f9,iH,dJ,h1,h2,true_and,dQ,and_self]
theorem Bt {many:Int}{ts:List fN}{ks:List Int}(hk:iu ts ks)(hl:2 * ks.length<=60):mH [gE many ts,dQ ks] n Q X=Q (dQ (eF (eC ts ks))) n:=by
 simp! [mH,pO,dQ];have hsz:ax=16777216:=by decide
 have key:∀(us ps:List Int) (x1 x3:Option mQ),iu ts us->ps.length+2 * us.length<=60->km (g8 3) (mZ 2 jP (dH (Pd (eJ jd (eJ jd (dI 0) (uC (.int 1))) (dI 3)) Pb (Pc (uC (.int 2)))) dN))
   { nx:=fY (AG f9 (dH (dI 2) dN)) { nx:=λx n'=>Q ad.none n',rt:=Q },rt:=Q } (us.map .int) [some (.s (gE many ts)),x1,some (.o (ps.map .int)),x3] n=Q (dQ (eF (ps++eC ts us))) n:=by
  intro us
  induction us with
  | nil =>
   intro ps x1 x3 _ hl;have Zz:ps.length<=60:=by simp at hl;omega
   simp! [km,bo,Bs (aU (Dh ps) Zz) (by omega:ps.length<=100000),Br];simp[eC]
  | cons k us ih =>
   intro ps x1 x3 hu hl;rw[ap] at hl;obtain⟨t,ht,_,ha⟩:=oY (hu k (ar ..)).1 (hu k (ar ..)).2
   have ex:jP (ps.map .int) [.tuple [.int t.1,.int t.2.1]]=some ((ps++mj ts k).map .int):=by
    simp only[jP];rw[if_pos (by rw[ak,hsz];simp;omega),zq ht,a8];rfl
   have:=ih (ps++mj ts k) x1 (some (.s (.int k))) (λj hj=>hu j (ao _ hj)) (by rw[aI,zq ht];simp;omega);rw[gE] at this ⊢;simp! [km,ko,ha,O2,ex];rw[this,aG,<- gr]
 exact key ks [] _ _ hk (by simp only[bh];omega)
theorem zr {m:Nat}{j:List Int}{base:List (List Int)}(hm:m<=28)(hj:∀k∈j,0<=k/\k<(m:Int))(Lu:j.length<=m)(hb:∀e∈base,e.length<=m/\∀k∈e,0<=k/\k<(m:Int))(hl:base.length<=10)(h:Q (.list ((gx (zo [j] base)).map dQ)) n):kW [dQ j,.list (base.map dQ)] n Q X:=by
 unfold kW nB;simp only[nY,lS,envOf,aj,bo,ap,bh,Nat.reduceSub,Nat.reduceAdd,aZ,bA,bn,aO];with_reducible generalize OS:fY _=tr
 rw[true_and,iD,eD,uL,dH,dU];simp only[ae,af];rw[dN];simp only[ay,av];rw[iD,jg,wm];simp only[ae,af,mR,dJ];refine gQ (λpre post env n'=>n'=n/\∃(done left l:List (List Int)) (x3:Option mQ),env=[some (.s (dQ j)),some (.s (.list (base.map dQ))),some (.s (.list (l.map dQ))),x3]/\done++left=base/\post=left.map dQ/\l=zo [j] done/\∀x∈l,x.length<=m/\∀k∈x,0<=k/\k<(m:Int)) _ [] _ _ ?_ ⟨rfl,[],base,[j],none,rfl,rfl,rfl,rfl,λx hx=>by rw[aw.mp hx];exact⟨Lu,hj⟩⟩ ?_
 .rintro pre d post env n' E' hE ⟨rfl,done,left,l,x3,rfl,xT,ip,Ca,hx⟩ wZ
  cases left with
  | nil=>cases ip
  | cons e left =>
   rw[aj] at ip;injection ip with e1 e2;subst e1;have V2:e∈base:=by rw[<- xT];exact aJ _ (ar ..)
   have e8:=tj done [j];rw[<- Ca,bp,Nat.one_mul] at e8
   have ZA:done.length<=9:=by
    have:=congrArg List.length xT;rw[aI,ap] at this;omega
   have hp:(2:Nat) ^ done.length<=2 ^ 9:=cz (!2) ZA;rw[g8];simp only[ay,av];rw[eD,eJ,dI];simp only[ae,af];rw[uL,gj,CM,dI];simp only[ae,af,mR,dJ]
   rw[o7 (λenv=>∃x,env=[x,some (.s (dQ e))]) dQ (λx=>dQ (eF (x++e))) (λ_=>true) _ _ _ (λx ZC env ⟨y,he⟩=>by
    subst he;refine⟨[some (.s (dQ x)),some (.s (dQ e))],⟨_,rfl⟩,λK=>by simp! [d7],λn Q=>by simp! [d7],λn Q=>?_⟩;rw[dZ,dH,dU];simp only[ae,af];rw[dH,dU];simp only[ae,af];rw[dN,h8 (by have:=(hx x ZC).1;have:=(hb e V2).1;omega)]) ⟨_,by simp! [d7];rfl⟩]
   rw[jG,aO,Ov (by rw[ak,ak];omega),dJ];simp only[ay,av];refine wZ _ _ ⟨rfl,done++[e],left,l++l.map λx=>eF (x++e),some (.s (dQ e)),?_,by rw[aG];exact xT,e2,by rw[Ca];unfold zo;rw[List.foldl_append];rfl,λx HU=>?_⟩
   .rw[a8,bu]
    rfl
   .rcases aB.mp HU with HU | HU
    .exact hx x HU
    .obtain⟨y,hy,rfl⟩:=a5.mp HU
     refine⟨HH (hx y hy).2 (hb e V2).2,λk hk=>?_⟩;rcases aB.mp (iz hk) with z | z
     .exact (hx y hy).2 k z
     .exact (hb e V2).2 k z
 .rintro pre env n' ⟨rfl,done,left,l,x3,rfl,xT,ip,Ca,hx⟩
  have:left=[]:=by simpa using ip.symm
  subst this;rw[bg] at xT;subst xT;have e8:=tj done [j];rw[<- Ca,bp,Nat.one_mul] at e8;have hp:(2:Nat) ^ done.length<=2 ^ 10:=cz (!2) hl;show tr _ _ _;subst OS;rw[fY,uL,sG,dI];simp only[ae,af];rw[vA,dJ,Ca];exact⟨by rw[<- Ca];omega,h⟩
noncomputable def Kq (X:XQ):Prop:=X "TooMany" [.str "sets"]
theorem jm {many:Int}{ts:List fN}{told:List Int}(m0:1<=many)(m1:many<60)(ok:jI many ts)(hl:ts.length<=28)(hr:∀p∈told,0<=p/\p<many)(ht:told.Pairwise (· < ·))
  (hA:∀kvs tr,j6 many ts kvs tr->(nS ts tr).length<=10->Q (.list ((gx (gZ ts told)).map dQ)) n) (hB:∀kvs tr,j6 many ts kvs tr->10<(nS ts tr).length->Kq X):fS [gE many ts,dQ told] n Q X:=by
 unfold fS lY;simp only[nY,lS,envOf,aj,bo,ap,bh,Nat.reduceSub,Nat.reduceAdd,aZ,bA,bn,aO];with_reducible generalize VT:iD (eD 3 _) _=t3
 rw[true_and,iD,eD,dZ,dH,dU];simp only[ae,af];rw[dN];refine w5 m0 m1 ok (!1) λkvs tr H=>?_;simp only[ay,av];subst VT;with_reducible generalize VS:iD (h9 _ _ _) _=t4
 rw[iD,eD,dZ,dH,dU];simp only[ae,af];rw[dH,dU];simp only[ae,af];rw[dN,uj H ok hl,HF H ok];simp only[ay,av];subst VS;with_reducible generalize VR:iD (eD 4 _) _=t5
 rw[iD,h9,fj,eJ,nX,dH,dI];simp only[ae,af];rw[dN];simp only[lR,dJ,ak];rw[uC];simp only[Lk,dJ,eU];by_cases Sl:10<(nS ts tr).length
 .rw[if_pos (decide_eq_true (!1)),AH,dH,uC,dN]
  exact hB kvs tr H Sl
 rw[if_neg (by rw[decide_eq_true_eq];omega),gG];show t5 _ _ _;subst VR;with_reducible generalize V3:JV _ _ _=t6
 rw[iD,eD,fD,dN];simp only[ay,av];rw[iD,jg,wm,dQ];simp only[ae,af,mR,dJ];have O3:∀p,0<=p->p<many->(jl kvs p).length<=ts.length:=λp p0 p1=>H.OX p0 p1;refine gQ (λpre post env n'=>n'=n/\∃(done left j:List Int) (x5:Option mQ),env=[some (.s (gE many ts)),some (.s (.tuple (told.map .int))),some (.s (iB false kvs)),some (.s (.list (((nS ts tr).map (gm ts kvs)).map dQ))),some (.s (dQ j)),x5]/\done++left=told/\post=left.map .int/\j=LS kvs done) _ [] _ _ ?_ ⟨rfl,[],told,[],none,rfl,rfl,rfl,rfl⟩ ?_
 .rintro pre d post env n' E' hE ⟨rfl,done,left,j,x5,rfl,xT,ip,hj⟩ wZ
  cases left with
  | nil=>cases ip
  | cons p left =>
   rw[aj] at ip;injection ip with e1 e2;subst e1;have Pn:=hr p (by rw[<- xT];exact aJ _ (ar ..));obtain⟨w1,w2,w3,_⟩:=H.way Pn.1 Pn.2;have Xm:=tf H done [] [] (λq hq=>hr q (by rw[<- xT];exact a6 _ hq)) List.Pairwise.nil (!4) (λu=>rfl);have Lu:j.length<=ts.length:=by rw[hj];exact jk Xm.1 Xm.2.1 H.fo.num
   rw[g8];simp only[ay,av];rw[eD,dZ,dH,dU];simp only[ae,af];rw[dH,HB (v:=p) (kvs:=kvs) (d:=dQ (jl kvs p)) (λn Q=>by simp only[dI,ae,af]) (λn Q=>by simp only[dI,ae,af]) w1,dN,h8 (by have:=O3 p Pn.1 Pn.2;omega)];simp only[ay,av];refine wZ _ _ ⟨rfl,done++[p],left,_,_,rfl,by rw[aG];exact xT,e2,?_⟩;rw[hj];unfold LS;rw[List.foldl_append];rfl
 .rintro pre env n' ⟨rfl,done,left,j,x5,rfl,xT,ip,hj⟩
  have:left=[]:=by simpa using ip.symm
  subst this;rw[bg] at xT;subst xT;obtain⟨j1,j2,j3⟩:=tf H done [] [] hr List.Pairwise.nil (!4) (λu=>rfl);rw[show (done.foldl (λj p=>eF (j++jl kvs p)) [])=j from hj.symm] at j1 j2 j3;rw[aO] at j3;have Pm:iu ts j:=λk hk=>H.fo.num k (j2 k hk);have Lu:=jk j1 j2 H.fo.num;show t6 _ _ _;subst V3;rw[JV,fj,eJ,dZ,dH,dU];simp only[ae,af];rw[dH,dU];simp only[ae,af];rw[dN,Bt Pm (!1),dI];simp only[ae,af];rw[dQ,u5,dJ,eU];by_cases yi:eF (eC ts j)=done
  .rw[decide_eq_true yi,dl,if_neg (!2),fY,uL,AQ,dH,dU]
   simp only[ae,af];rw[dH,dU];simp only[ae,af];rw[dN];refine zr (m:=ts.length) hl (λk hk=>Pm k hk) Lu (λe he=>?_) (by rw[ak];omega) ?_
   .obtain⟨k,hk,rfl⟩:=a5.mp he
    have hk:=mw.mp hk;have h1:=sZ H ok hk.1;exact⟨jk (qP ts kvs k) (λj hj=>hj) h1,h1⟩
   .have:=sF (HG H ok (told:=done) ⟨Pm,j1,yi⟩ j2)
    rw[this];exact hA kvs tr H (!1)
  .rw[decide_eq_false yi,Bool.not_false,if_pos rfl,fY,uL,dN]
   have p8:gZ ts done=[]:=c7.mpr λS hS=>by
    obtain⟨s1,s2,s3⟩:=gA.mp hS;refine yi (o8 (iw _) ht λu=>?_);rw[gS,j3 u];have h1:=Bq ok s1 hr s3 u;have h2:=List.Nodup.count (gz ht) (a:=u);by_cases hu:u∈done
    .rw[if_pos hu] at h2
     simp only[hu,iff_true];omega
    .rw[if_neg hu] at h2
     simp only[hu,iff_false];omega
   have:=hA kvs tr H (!1);rw[p8,show gx []=[] from List.perm_nil.mp (f6 [])] at this;exact this
end
theorem nU {w:Int}{x1:Option mQ}(w0:0<w)(w1:w<100){Q:List ad->Int->Prop}:∀(xs acc:List Int) (x:Option mQ) (n:Int),n+xs.length<=kn->(∀sub:List Int,sub.Sublist xs->Q ((acc++sub).map .int) (n+xs.length)) ->
  eS (g8 0) (fj (eJ rX (dZ fL (dH (dU 2) dN)) (uC (.int 0)))) (dU 0) Q (xs.map .int) (acc.map .int) [x,x1,some (.s (.int w))] n
 | [],acc,x,n,hn,h=>by
  have:=h [] (List.Sublist.refl _);rw[bg] at this;simpa [eS] using this
 | k::xs,acc,x,n,hn,h=>by
  rw[ap] at hn;have e1:n+1+(xs.length:Int)=n+((xs.length+1:Nat):Int):=by omega
  rw[aj,eS,g8];simp only[av,fj,eJ,dZ,dH,dU,uC,dN,ae,af];refine fQ w0 (!1) (!1) λr r0 r1=>?_;rw[ji,dJ,eU];by_cases hr:r=0
  .rw[decide_eq_true hr,if_pos rfl]
   have e2:acc.map ad.int++[.int k]=(acc++[k]).map .int:=by rw[a8];rfl
   rw[e2];refine nU w0 w1 xs (acc++[k]) _ (n+1) (!1) λsub hs=>?_;have:=h (k::sub) (hs.cons_cons k);rw[aG,e1];exact this
  .rw[decide_eq_false hr,if_neg (!2)]
   refine nU w0 w1 xs acc _ (n+1) (!1) λsub hs=>?_;have:=h sub (hs.cons k);rw[e1];exact this
section
variable {n:Int}{X:XQ}{Q:ad->Int->Prop}
theorem mx {m:Int}(m0:0<=m)(m1:m<=60)(hn:n+100<=kn)(h:∀(l:List Int) (n':Int),l.Pairwise (· < ·)->(∀k∈l,0<=k/\k<m)->n<=n'->n'<=n+100->Q (dQ l) n'):iL [.int m] n Q X:=by
 unfold iL nC;simp only[nY,lS,envOf,aj,bo,ap,bh,Nat.reduceSub,Nat.reduceAdd,aZ,bA,bn,aO];with_reducible generalize ht:fY (nX gp _)=t
 simp! [d7];refine fQ (!2) (!2) (!1) λw w0 w1=>?_;simp! [O'];by_cases hw:w<2
 .have V4:wc (.int m) (.int w)=some (.int (m * w)):=wA (.inr ⟨!1,!1⟩)
  simp! [hw,decide_true,if_true,yG,V4]
  have hr:(0<=m * w/\m * w<=m):=by
   have:w=0\/w=1:=by omega
   rcases this with rfl | rfl<;>omega
  refine⟨⟨!1,!1⟩,?_⟩;rw[jT];exact h (gI 0 (m * w).toNat) _ (w9 _) (λk hk=>by have:=fk.mp hk;omega) (!1) (!1)
 .simp! [hw,decide_false,bT,if_false]
  subst ht;simp! [d7];refine⟨⟨!1,!1⟩,?_⟩;rw[jT];refine nU (!1) (!1) (gI 0 m.toNat) [] _ _ (by rw[eQ];omega) λsub hs=>?_;rw[eQ,aO];simp only[gp,dJ];exact h sub _ ((w9 _).sublist hs) (λk hk=>by have:=fk.mp (hs.subset hk);omega) (!1) (!1)
end
theorem vB (x:Str):Ep (.str x) (.str x)=some (.bool false):=by simp[Ep]
theorem ES (x:Str):Er (.str x) (.str x)=some (.bool true):=by simp[Er]
theorem vC:∀ns:List Int,ad.eqvAll (ns.map .int) (ns.map .int)=true
 | []=>rfl
 | n::ns=>by simp only[aj,ad.eqvAll,vC ns,ad.eqv];simp
theorem vD:∀rs:List (List Int),ad.eqvAll (rs.map dQ) (rs.map dQ)=true
 | []=>rfl
 | r::rs=>by
  have:ad.eqv (dQ r) (dQ r)=true:=by
   unfold dQ;simp only[ad.eqv];exact vC r
  simp only[aj,ad.eqvAll,vD rs,this];simp
theorem vE {ts:List fN}{told:List Int}(hl:ts.length<=11):Good (.list ((gx (gZ ts told)).map dQ)):=by
 have e8:(gx (gZ ts told)).length<=2 ^ 11:=by
  rw[(f6 _).length_eq];unfold gZ;rw[ak];have h1:=bw (λr=>decide (eF (eC ts (jJ ts.length r))=told)) (List.range (2 ^ ts.length));rw[bS] at h1;exact aU h1 (cz (!2) hl)
 have he:∀d∈(gx (gZ ts told)).map dQ,Sz 16 11 55 1 d:=λd hd=>by
  obtain⟨S,hS,rfl⟩:=a5.mp hd;obtain⟨s1,s2,_⟩:=gA.mp ((f6 _).mem_iff.mp hS);have sl:=jk s2 (λk hk=>hk) s1
  have h4:lz 16 11 (5 * (S.map ad.int).length) 0 (S.map ad.int):=lz.all λd hd=>by
   obtain⟨i,hi,rfl⟩:=a5.mp hd;have:=s1 i hi;exact⟨by simp only[Gq];omega,Ly (!1),by simp[ad.depth]⟩
  rw[ak] at h4;exact (Sz.tup h4).mono (am _) (am _) (!1) (!1)
 have:=Sz.lst (lz.all he);rw[ak] at this;exact this.good (!3) (!2) (!1) (!2)
theorem ET {many:Int}{ts:List fN}{told:List Int}(m0:1<=many)(m1:many<=9)(wY:∀t∈ts,wX many true t)(hl:ts.length<=20)(ht:told.Pairwise (· < ·))(hr:∀p∈told,0<=p/\p<many):Good (.tuple [gE many ts,dQ told]):=by
 have h1:lz 1023 11 (34 * (ts.map fg).length) 1 (ts.map fg):=lz.all λd hd=>by
  obtain⟨t,LO,rfl⟩:=a5.mp hd;have h:=wY t LO;have a0:=h.a0;have ab:=h.ab;have bm:=h.bm;have pr:=h.pr;exact (Sz.tup (lz.cons (Sz.small (!1) (!2)) (lz.cons (Sz.small (!1) (!2)) (lz.cons (Sz.small (!1) (!2)) lz.nil)))).mono (am _) (am _) (!1) (!1)
 rw[ak] at h1
 have htl:told.length<=9:=by
  have:=fH (ns:=gI 0 many.toNat) (gz ht) λk hk=>fk.mpr (by have:=hr k hk;omega);rw[eQ] at this;omega
 have h2:lz 1023 11 (11 * told.length) 0 (told.map ad.int):=lz.ints (am _) λi hi=>by have:=hr i hi;omega
 have h3:=Sz.tup (lz.cons (Sz.tup (lz.cons (Sz.small (i:=many) (L:=11) (!1) (am 1023)) (lz.cons (Sz.tup h1) lz.nil))) (lz.cons (Sz.tup h2) lz.nil));exact h3.good (!3) (!2) (!1) (!1)
theorem EU {ts:List fN}{told j:List Int}(hj:j∈gZ ts told):((gx (gZ ts [])).map λe=>eF (j++e)).Perm (gZ ts told):=by
 obtain⟨j1,j2,j3⟩:=gA.mp hj;refine ((f6 _).map _).trans ?_
 have OU:∀e,eF (eC ts e)=[]->Df ts e:=λe he v=>by
  have:=iY (eC ts e) v;rw[he,List.count_nil] at this;omega
 have back:∀x:List Int,x.Pairwise (· < ·)->eF (j++eF (j++x))=x:=λx hx=>o8 (iw _) hx λk=>by
  rw[iP (gz j2) (iR _),iP (gz j2) (gz hx)];by_cases a:k∈j<;>by_cases b:k∈x<;>simp[a,b]
 refine (bY (cc.mpr (List.Pairwise.imp_of_mem ?_ (xg ts []))) (xg ts told)).mpr λx=>?_
 .intro a b ha hb pZ z
  have ha:=(gA.mp ha).2.1;have hb:=(gA.mp hb).2.1;exact pZ (by rw[<- back a ha,<- back b hb,z])
 .rw[a5,gA]
  constructor
  .rintro⟨e,he,rfl⟩
   obtain⟨e1,e2,e3⟩:=gA.mp he;have:=vz.turn (told:=told) ⟨j1,j2,j3⟩ (OU e e3) e1 e2;exact⟨this.num,this.lt,this.od⟩
  .rintro⟨x1,x2,x3⟩
   refine⟨eF (j++x),gA.mpr ⟨wW j1 x1,iw _,zi λv=>?_⟩,back x x2⟩;have e1:=gY (ts:=ts) (gz j2) (gz x2) v;have e2:=iY (eC ts j) v;have e3:=iY (eC ts x) v;rw[j3] at e2;rw[x3] at e3;omega
section
variable {many:Int}{ts:List fN}{kvs:iZ}{tr:List Int}
theorem HI (hl:ts.length<=10):(nS ts tr).length<=10:=by
 have:=bw (λk=>!decide (k∈tr)) (gI 0 ts.length);rw[eQ] at this;exact aU this hl
theorem Bu (H:j6 many ts kvs tr)(ok:jI many ts)(hl:ts.length=11):(nS ts tr).length<=10:=by
 have h0:∃j,j∈tr:=by
  refine Classical.byContradiction λhn=>?_;have hk:(0:Int)<=0/\(0:Int)<(ts.length:Int):=by omega
  have ZD:(0:Int) ∉ tr:=λz=>hn ⟨_,z⟩;have ho:=s9 H ok hk ZD
  have e:gm ts kvs 0=[0]:=o8 (qP ts kvs 0) (!4) λj=>by
   rw[aw];constructor
   .intro hj
    rcases o6 H ok hk j hj with h | h
    .exact h
    .exact absurd ⟨_,h⟩ hn
   .rintro rfl
    exact ho
  have OU:=vx H ok hk (iS ts 0).1;rw[e] at OU;have Ki:=ok _ (nR hk);have e2:eC ts [0]=[(iS ts 0).1,(iS ts 0).2.1]:=rfl;rw[e2,List.count_cons_self,cS,List.count_nil,if_neg (by rw[beq_iff_eq];omega)] at OU;omega
 obtain⟨j,hj⟩:=h0;have Pm:=H.fo.num j hj
 have:=fH (ms:=j::nS ts tr) (ns:=gI 0 ts.length) (bN.mpr ⟨λz=>(mw.mp z).2 hj,(Bp _).filter _⟩) λk hk=>by
  rcases au.mp hk with rfl | hk
  .exact fk.mpr (!1)
  .have:=(mw.mp hk).1
   exact fk.mpr (!1)
 rw[ap,eQ] at this;omega
theorem HJ (H:j6 many ts kvs tr)(m0:1<=many)(hl:many+10<=(ts.length:Int)):10<(nS ts tr).length:=by
 have j9:kvs≠[]:=λz=>by
  have:=H.all 0 (!2) (!1);rw[z,mn] at this;cases this
 have h1:=H.fo.cnt j9;have h2:=H.fo.len;have h3:=zh (λk=>!decide (k∈tr)) (gI 0 ts.length);rw[eQ] at h3
 have h4:=fH (ns:=tr) ((Bp ts.length).filter λk=>!(!decide (k∈tr))) λk hk=>by
  have:=(aW.mp hk).2;simpa using this
 unfold nS;omega
end
section
variable {n:Int}{X:XQ}{Q:ad->Int->Prop}
theorem xh {many:Int}{ts:List fN}(m0:1<=many)(m1:many<60)(ok:jI many ts)(hl:ts.length<=10)(h:Q (.list ((gx (gZ ts [])).map dQ)) n):jX [gE many ts] n Q X:=by
 unfold jX lZ;simp only[nY,lS,envOf,aj,bo,ap,bh,Nat.reduceSub,Nat.reduceAdd,aZ,bA,bn,aO];rw[true_and,fY,uL,gV,dH,dU];simp only[ae,af];rw[dH,fD,dN,dN];refine jm (told:=[]) m0 m1 ok (!1) (!4) List.Pairwise.nil (λkvs tr H _=>h) λkvs tr H z=>?_;have:=HI (tr:=tr) hl;omega
end
section
variable {n:Int}{X:XQ}{Q:ad->Int->Prop}
theorem xj {many:Int}{ts:List fN}{told:List Int}(m0:1<=many)(m1:many<=9)(wY:∀t∈ts,wX many true t)(hl:ts.length<=10)(ht:told.Pairwise (· < ·))(hr:∀p∈told,0<=p/\p<many)(hq:Q (.bool true) n):hV [gE many ts,dQ told] n Q X:=by
 have hsz:ax=16777216:=by decide
 have ok:jI many ts:=λt h=>⟨(wY t h).a0,(wY t h).ab,(wY t h).bm⟩;have tok:EL many ts:=λt h=>by have:=ok t h;omega
 have hg:=ET m0 m1 wY (!1) ht hr;have Cu:=vE (ts:=ts) (told:=told) (!1)
 have e8:(gx (gZ ts told)).length<4000:=by
  rw[(f6 _).length_eq];unfold gZ;rw[ak];have h1:=bw (λr=>decide (eF (eC ts (jJ ts.length r))=told)) (List.range (2 ^ ts.length));rw[bS] at h1;have:(2:Nat) ^ ts.length<=2 ^ 10:=cz (!2) hl;omega
 have LR:(gx (gZ ts [])).length<4000:=by
  rw[(f6 _).length_eq];unfold gZ;rw[ak];have h1:=bw (λr=>decide (eF (eC ts (jJ ts.length r))=[])) (List.range (2 ^ ts.length));rw[bS] at h1;have:(2:Nat) ^ ts.length<=2 ^ 10:=cz (!2) hl;omega
 have calm:∀{Q:ad->Int->Prop} {X:XQ} {n:Int},Q (.list ((gx (gZ ts told)).map dQ)) n->fS [gE many ts,dQ told] n Q X:=λh =>
  jm m0 (!1) ok (!1) hr ht (λkvs tr H _=>h) λkvs tr H z=>by have:=HI (tr:=tr) hl;omega
 unfold hV l4;simp only[nY,lS,envOf,aj,bo,ap,bh,Nat.reduceSub,Nat.reduceAdd,aZ,bA,bn,aO];with_reducible generalize V3:d7 (eD 6 _) _=t6
 with_reducible generalize Pg:d7 (r9 5 _) _=lb
 rw[true_and,d7,eD,jS,fD,dH,dU];simp only[ae,af];rw[dH,dU];simp only[ae,af];rw[dN];refine⟨hg,?_⟩;simp only[ay,av];rw[d7,eD,dZ,dH,dU];simp only[ae,af];rw[dH,dU];simp only[ae,af];rw[dN];refine lx tok (!1) (!1) ?_;simp only[ay,av];rw[d7,jg,Lr,uC];refine⟨!2,!2,?_⟩;generalize T7:ad.str (ad.tuple [gE many ts,dQ told]).shown=sh;refine gQ (λpre post env n'=>n'=n/\∃x4 x5:Option mQ,env=[some (.s (gE many ts)),some (.s (dQ told)),some (.s sh),some (.s (.list ((gx (gZ ts told)).map dQ))),x4,x5,none]) _ [] _ _ ?_ ⟨rfl,none,none,rfl⟩ ?_
 .rintro pre d post env n' E' hE ⟨rfl,x4,x5,rfl⟩ wZ
  rw[g8];simp only[ay,av];subst Pg;rw[d7,r9,gV,dH,dU];simp only[ae,af];rw[dH,dU];simp only[ae,af];rw[dN];refine calm ?_;simp only[ay,av];have i1:Oi "list" (.list ((gx (gZ ts told)).map dQ))=true:=rfl;rw[d7,h9,Vb,Gz,fj,Oj,dI];simp only[ae,af];rw[i1,eU,dl,if_neg (!2),fj,eJ,jS,dI];simp only[ae,af];refine⟨Cu,?_⟩;rw[jS,dU];simp only[ae,af];refine⟨Cu,?_⟩;rw[vB,dJ,eU,if_neg (!2),gG];dsimp only;rw[mZ];simp only[ae,af];rw[dH,fD,dN,dN,nr (by rw[ak];omega),dJ];exact wZ _ _ ⟨rfl,_,_,rfl⟩
 .rintro pre env n' ⟨rfl,x4,x5,rfl⟩
  show t6 _ _ _;subst V3;with_reducible generalize ZE:fY (eJ Er _ _)=t7
  rw[d7,eD,uL,gV,dH,dU];simp only[ae,af];rw[dH,dU];simp only[ae,af];rw[dN];refine calm ?_;simp only[ay,av]
  have fin:∀x4 x5 x6,t7 { nx:=λx n'=>Q ad.none n',rt:=Q } [some (.s (gE many ts)),some (.s (dQ told)),some (.s sh),some (.s (.list ((gx (gZ ts told)).map dQ))),x4,x5,x6] n':=λx4 x5 x6=>by
   subst ZE;rw[fY,eJ,jS,fD,dH,dU];simp only[ae,af];rw[dH,dU];simp only[ae,af];rw[dN];refine⟨hg,?_⟩;rw[dI];simp only[ae,af];rw[<- T7,ES,dJ];exact hq
  rw[d7,h9,rV,fj,eJ,dI];simp only[ae,af];rw[uL,dN,sm Cu.lay rfl Cu.deep,dJ,eU]
  cases hS:gx (gZ ts told) with
  | nil =>
   have e:ad.eqv (.list (List.map dQ [])) (.list [])=true:=rfl;rw[e,dl,if_neg (!2),if_neg (!2),gG];rw[hS] at fin;exact fin _ _ _
  | cons j rest =>
   have e:ad.eqv (.list (List.map dQ (j::rest))) (.list [])=false:=rfl;have hj:j∈gZ ts told:=(f6 _).mem_iff.mp (by rw[hS];exact ar ..);have Lu:=jk (gA.mp hj).2.1 (λk hk=>hk) (gA.mp hj).1;rw[e,Bool.not_false,if_pos rfl,fj,eJ,uL,sG,uL,gj,CM,uL,gV,dH,dU];simp only[ae,af];rw[dN];refine xh m0 (!1) ok hl ?_;simp only[mR,dJ]
   rw[o7 (λenv=>∃x,env=[x,some (.s (.list ((j::rest).map dQ)))]) dQ (λe=>dQ (eF (j++e))) (λ_=>true) _ _ _ (λe he env ⟨y,hy⟩=>by
    subst hy;have he:=gA.mp ((f6 _).mem_iff.mp he);have hel:=jk he.2.1 (λk hk=>hk) he.1;refine⟨[some (.s (dQ e)),some (.s (.list ((j::rest).map dQ)))],⟨_,rfl⟩,λK=>by simp! [d7],λn Q=>by simp! [d7],λn Q=>?_⟩;rw[dZ,dH,eJ,dI];simp only[ae,af];rw[uC,LA,aj,lr,dJ,dH,dU];simp only[ae,af];rw[dN,h8 (!1)]) ⟨_,by simp! [d7];rfl⟩]
   rw[jG,aO];have em:((gx (gZ ts [])).map λe=>dQ (eF (j++e)))=((gx (gZ ts [])).map λe=>eF (j++e)).map dQ:=by rw[bu];rfl
   rw[em,vA,dJ,sF (EU hj),hS];refine⟨by rw[ak];exact LR,?_⟩;rw[dI];simp only[ae,af];have Kr:=Cu;rw[hS] at Kr
   have e2:ad.eqv (.list ((j::rest).map dQ)) (.list ((j::rest).map dQ))=true:=by
    simp only[ad.eqv];exact vD _
   have e3:CK (.list ((j::rest).map kS)) (.list ((j::rest).map dQ))=some (.bool (!PyData.eqv (.list ((j::rest).map dQ)) (.list ((j::rest).map dQ)))):=sm Kr.lay Kr.lay Kr.deep;rw[e3,e2,dJ,eU,dl,if_neg (!2),gG];rw[hS] at fin;exact fin _ _ _
theorem my {many:Int}{ts:List fN}{told:List Int}(m0:1<=many)(m1:many<60)(ok:jI many ts)(hl:ts.length<=28)(hm:many+10<=(ts.length:Int))(ht:told.Pairwise (· < ·))(hr:∀p∈told,0<=p/\p<many)(hq:Q (.str "sets") n):iM [gE many ts,dQ told] n Q X:=by
 have h1:("TooMany" : Str)∈ED:=by decide +kernel
 have f1:("word" : Str)∈FL "TooMany" := by decide +kernel
 have f0:FL "TooMany" = (["word"]:List Str):=by decide +kernel
 have l1:((FL "TooMany").zip [ad.str "sets"]).lookup ("word" : Str)=some (.str "sets"):=by rw[f0];rfl
 have i4:decide (("TooMany" : Str) = "TooMany" \/ ("TooMany" : Str) = "JoinError")=true:=by decide +kernel
 have i6:((["NoLine", "NoPaper", "NoText", "NoTie", "NoTurns", "NoWalk"]:List Str).any λh=>decide (h = "TooMany" \/ h = "JoinError"))=false:=by decide +kernel
 unfold iM nE;simp only[nY,lS,envOf,aj,bo,ap,bh,Nat.reduceSub,Nat.reduceAdd,aZ,bA,bn,aO];with_reducible generalize OS:fY (dU 2)=tr
 with_reducible generalize ZF:d7 (eD 4 _) _=su
 simp only[true_and,d7,eD,uC,G1,dH,dU,dN,ay,av,ae,af];refine jm m0 m1 ok hl hr ht (λkvs tr H z=>?_) λkvs tr H z=>?_
 .have:=HJ H m0 hm
  omega
 .show _/\_
  refine⟨⟨h1,.inr trivial⟩,?_⟩;rw[<- ZF,d7];simp only[eD,CU,h9,rV,Gz,fj,JM,CT,dU,JN,h1,f1,i4,i6,l1,dJ,eU,true_and,and_self,if_true,Bool.not_false,ay,av,ae,af];rw[<- OS];exact hq
end
theorem EV:inD (.bool false) (.list [.bool true,.bool true,.bool true])=some (.bool false):=by
 simp only[inD,NR];rw[if_pos ⟨rfl,rfl,by simp[ad.depth]⟩];rfl
theorem Sm {a b c:ad}{z:Int}{K:ad->Prop}(z0:0<=z)(z1:z<3)(ha:K a)(hb:K b)(hc:K c):pf (jd (.list [a,b,c]) (.int z)) K:=by
 rw[LA];have:z=0\/z=1\/z=2:=by omega
 rcases this with rfl | rfl | rfl
 .rw[lr,dJ];exact ha
 .rw[ko,dJ];exact hb
 .rw[RQ,dJ];exact hc
theorem pV {Xn:UX}{a b:Int}{Q:List ad->Int->Prop}{env:fm}(hu:∀(x:Option mQ) (n:Int) (Q:ad->Int->Prop),n+3<=kn->(∀(p n':Int),p.natAbs<=99->n<=n'->n'<=n+3->Q (fg (a,b,p)) n')->Xn (x::env) n Q):∀(xs:List Int) (acc:List fN) (n:Int) (x0:Option mQ),n+3 * xs.length<=kn->(∀t∈acc,t.1=a/\t.2.1=b/\t.2.2.natAbs<=99) ->
  (∀(ts:List fN) (n':Int),(∀t∈ts,t.1=a/\t.2.1=b/\t.2.2.natAbs<=99)->ts.length=acc.length+xs.length->n<=n'->n'<=n+3 * xs.length->Q (ts.map fg) n') ->
  eS (g8 0) kO Xn Q (xs.map .int) (acc.map fg) (x0::env) n
 | [],acc,n,x0,_,ha,h=>h acc n ha (!4) (!1) (!4)
 | k::xs,acc,n,x0,hn,ha,h=>by
  rw[ap] at hn h;rw[aj,eS,g8];simp only[av];rw[kO,if_pos rfl];refine hu _ _ _ (!1) λp n1 hp h1 h2=>?_;have e:acc.map fg++[fg (a,b,p)]=(acc++[(a,b,p)]).map fg:=by rw[a8];rfl
  rw[e];refine pV hu xs (acc++[(a,b,p)]) n1 _ (!1) (λt ht=>?_) λts n' ht hl h3 h4=>h ts n' ht (by rw[hl];simp;omega) (!1) (!1);rcases aB.mp ht with ht | ht
  .exact ha t ht
  .rw[aw.mp ht]
   exact⟨rfl,rfl,hp⟩
section
variable {n:Int}{X:XQ}{Q:ad->Int->Prop}
theorem HK:yZ { nx:=λ_ _=>False,rt:=λd _=>d=.bool true } (List.replicate 10 none) 0:=by
 have Se:kn=1099511627776:=by decide
 unfold yZ;simp only[nY,lS,envOf,aj,bo,ap,bh,Nat.reduceSub,Nat.reduceAdd,aZ,bA,bn,aO];with_reducible generalize hb:d7 (eD 3 (dZ _ _)) _=b
 with_reducible generalize ZG:d7 (eD 7 _) _=t2
 with_reducible generalize ZH:yC _ t2=t1
 rw[d7,jg,Lr,uC];refine⟨!2,!2,?_⟩;refine gQ (λpre post env n'=>(0<=n'/\n'<=600 * pre.length/\pre.length+post.length=3)/\∃x2 x3 x4:Option mQ,env=[none,none,x2,x3,x4,none,none,none,none,none]) _ [] _ _ ?_ ⟨⟨!1,!4,rfl⟩,none,none,none,rfl⟩ ?_
 .rintro pre d post env n' E' hE ⟨⟨U1,Xh,hp⟩,x2,x3,x4,rfl⟩ wZ
  rw[ap] at hp;rw[g8];simp only[ay,av];subst hb;rw[d7,eD,dZ,dH,uC,dH,uC,dH,uC,dN];refine Bn (!2) (!2) (!2) (!2) (!1) λmany ts n1 w m1 tl h1 h2=>?_;simp only[ay,av];have m0:=w.m0;have ok:jI many ts:=λt h=>⟨(w.LL t h).a0,(w.LL t h).ab,(w.LL t h).bm⟩;have tok:EL many ts:=λt h=>by have:=ok t h;omega
  have e0:gE many ts=.tuple [.int many,.tuple (ts.map fg)]:=rfl;with_reducible generalize V5:h9 _ _ _=mU
  rw[d7,eD,uL,dH,dZ,dH,dU];simp only[ae,af];rw[dH,dZ,dH,nX,dH,eJ,dI];simp only[ae,af];rw[uC,e0,lu,ko,dJ,dN];simp only[lR,dJ,ak];rw[dN,<- e0];refine mx (!1) (!1) (!1) λs n2 s1 s2 h3 h4=>?_;rw[dN];refine ql tok (!1) s2 ?_;rw[dH,dZ,dH,eJ,dI];simp only[ae,af];rw[uC,e0,lu,lr,dJ,dN,<- e0];refine mx (!1) (!1) (!1) λs' n3 s3 s4 h5 h6=>?_;rw[dH,fD,dN,dN];simp only[ay,av];subst V5;have ho:∀v∈eF (eC ts s),0<=v/\v<many:=λv hv=>o5 tok s2 v (iz hv);rw[h9,fj,eJ,uC,uL,gj,CM,dI];simp only[ae,af,mR,dJ,mY,aj,bo,dv]
  have go:∀{Q:List ad->Int->Prop} (told:List Int) (rest:List ad) (acc:List ad) (x:Option mQ),told.Pairwise (· < ·)->(∀p∈told,0<=p/\p<many)->(∀x,eS (g8 0) kO (dZ hV (dH (dU 1) (dH (dU 0) dN))) Q rest (acc++[.bool true]) [x,some (.s (gE many ts))] n3)->eS (g8 0) kO (dZ hV (dH (dU 1) (dH (dU 0) dN))) Q (dQ told::rest) acc [x,some (.s (gE many ts))] n3:=λtold rest acc x t1 t2 k=>by
   rw[eS,g8];simp only[av];rw[kO,if_pos rfl,dZ,dH,dU];simp only[ae,af];rw[dH,dU];simp only[ae,af];rw[dN];exact xj m0 (!1) w.LL (!1) t1 t2 (k _)
  refine go _ _ _ _ (iw _) ho λx=>go _ _ _ _ s3 s4 λx=>go [] _ _ _ List.Pairwise.nil (!4) λx=>?_;rw[eS,aO];simp only[bn,aO];rw[EV,dJ,eU,if_neg (!2),gG];exact wZ _ _ ⟨⟨!1,by rw[aI,bp];omega,by rw[aI,bp];omega⟩,_,_,_,rfl⟩
 .rintro pre env n0 ⟨⟨U1,Xh,hp⟩,x2,x3,x4,rfl⟩
  rw[bh] at hp;show t1 _ _ _;subst ZH;refine⟨λenv n'=>(0<=n'/\n'<=2000)/\∃x5 x6:Option mQ,env=[none,none,x2,x3,x4,x5,x6,none,none,none],?_,?_⟩
  .rw[h9,fj,eJ,dZ,dH,uC,dN]
   refine fQ (!2) (!2) (!1) λr r0 r1=>?_;rw[uC,ji,dJ,eU];by_cases hr:r=0
   .rw[if_pos (decide_eq_true hr)]
    with_reducible generalize ZI:d7 (eD 6 _) _=s6
    rw[d7,eD,fD,dH,uC,dH,nX,dH,uL,gj,JG,uC];refine⟨⟨!2,!2⟩,?_⟩;rw[jT];simp only[mY,aj,bo,ae,af,Option.join_none];refine pV (a:=0) (b:=1) (λx n Q hn h=>?_) (gI 0 (11:Int).toNat) [] _ _ (by rw[eQ,show (11:Int).toNat=11 from rfl];omega) (!4) λts n1 wY hl h1 h2=>?_
    .rw[fD,dH,uC,dH,uC,dH,dZ,dH,uC,dN]
     refine ix hn λp n' hp _ h1 h2=>?_;rw[dN];exact h p n' hp h1 h2
    .rw[eQ,show (11:Int).toNat=11 from rfl] at h2 hl
     rw[bh] at hl;have hl:ts.length=11:=by omega
     rw[dN];simp only[gp,dJ];rw[dN];simp only[ay,av];have ok:jI 2 ts:=λt h=>by have:=wY t h;omega
     have tok:EL 2 ts:=λt h=>by have:=ok t h;omega
     subst ZI;with_reducible generalize V5:h9 _ _ _=mU
     rw[d7,eD,eJ,uL,dH,fD,dH,uC,dH,uC,dN,dH,fD,dN,dH,fD,dH,uC,dN,dN,dZ,dH,uC,dN];refine fQ (!2) (!2) (!1) λz z0 z1=>?_
     have fin:∀told:List Int,told.Pairwise (· < ·)->(∀p∈told,0<=p/\p<2)->mU { nx:=λenv n'=>(0<=n'/\n'<=2000)/\∃x5 x6:Option mQ,env=[none,none,x2,x3,x4,x5,x6,none,none,none],rt:=λd _=>d=.bool true } [none,none,x2,x3,x4,some (.s (gE 2 ts)),some (.s (dQ told)),none,none,none] (n1+1):=λtold t1 t2=>by
      have Cu:=vE (ts:=ts) (told:=told) (!1);subst V5;rw[h9,fj,eJ,jS,uL,gV,dH,dU];simp only[ae,af];rw[dH,dU];simp only[ae,af];rw[dN];refine jm (!2) (!2) ok (!1) t2 t1 (λkvs tr H _=>?_) λkvs tr H z=>?_
      .refine⟨Cu,?_⟩
       rw[jS,dZ,dH,dU];simp only[ae,af];rw[dH,dU];simp only[ae,af];rw[dN];refine lx tok (!2) (!1) ?_;refine⟨Cu,?_⟩;rw[vB,dJ,eU,if_neg (!2),gG];exact⟨⟨!1,!1⟩,_,_,rfl⟩
      .have:=Bu H ok hl
       omega
     refine Sm z0 z1 ?_ ?_ ?_
     .exact fin [0,1] (!4) (!4)
     .exact fin [] List.Pairwise.nil (!4)
     .exact fin [0] (!4) (!4)
   .rw[if_neg (by rw[decide_eq_true_eq];exact hr),gG]
    exact⟨⟨!1,!1⟩,none,none,rfl⟩
  .rintro env n' ⟨⟨Uc,Za⟩,x5,x6,rfl⟩
   subst ZG;with_reducible generalize ZJ:d7 (eD 9 _) _=t9
   rw[d7,eD,eJ,uC,dZ,dH,uC,dN];refine fQ (!2) (!2) (!1) λr r0 r1=>?_;rw[oX,dJ];simp only[ay,av];generalize hmn:2+r=many;rw[d7,eD,nX,dH,uL,gj,JG,eJ,eJ,uC,dI];simp only[ae,af];rw[oX,dJ,dZ,dH,uC,dN];refine fQ (!2) (!2) (!1) λc c0 c1=>?_;rw[oX,dJ];refine⟨⟨!1,!1⟩,?_⟩;rw[jT];simp only[mY,aj,bo,ae,af,Option.join_none,dv];refine pV (a:=0) (b:=many - 1) (λx n Q hn h=>?_) (gI 0 (9+many+c).toNat) [] _ _ (by rw[eQ];omega) (!4) λts n1 wY hl h1 h2=>?_
   .rw[fD,dH,uC,dH,eJ,dI]
    simp only[ae,af];rw[uC,zd,dJ,dH,dZ,dH,uC,dN];refine ix hn λp n' hp _ h1 h2=>?_;rw[dN];exact h p n' hp h1 h2
   .rw[eQ] at h2 hl
    rw[bh] at hl;rw[dN];simp only[gp,dJ,ay,av];rw[d7,eD,fD,dH,dU];simp only[ae,af];rw[dH,eJ,dI];simp only[ae,af];rw[fD,dH,fD,dH,uC,dH,uC,dH,uC,dN,dN]
    have ea:jf (.tuple (ts.map fg)) (.tuple [.tuple [.int 0,.int 1,.int 5]])=some (.tuple ((ts++[(0,1,5)]).map fg)):=by
     simp only[jf];rw[if_pos (by rw[ak,show ax=16777216 by decide];simp;omega),a8];rfl
    rw[ea,dJ,dN];simp only[ay,av];have iQ:(ts++[((0:Int),(1:Int),(5:Int))]).length=ts.length+1:=by simp
    have ok:jI many (ts++[(0,1,5)]):=λt h=>by
     rcases aB.mp h with h | h
     .have:=wY t h;omega
     .rw[aw.mp h]
      refine⟨!2,!2,?_⟩;show (1:Int)<many;omega
    generalize Pk:ts++[((0:Int),(1:Int),(5:Int))]=us at iQ ok;subst ZJ
    have es:rX (.str "sets") (.str "sets")=some (.bool true):=by
     have h1:(ad.str "sets").canLay0=true:=by decide +kernel
     have h2:ad.eqv (.str "sets") (.str "sets")=true:=by decide +kernel
     rw[AL h1 h1 (by simp[ad.depth]),h2]
    show d7 _ _ _ [none,none,x2,some (.s (gE many us)),x4,x5,x6,some (.s (.int many)),_,none] n1;rw[d7,eD,dZ,dH,dU];simp only[ae,af];rw[dH,dZ,dH,dU];simp only[ae,af];rw[dN];refine mx (!1) (!1) (!1) λs n2 s1 s2 h3 h4=>?_;rw[dN];refine my (!1) (!1) ok (!1) (!1) s1 s2 ?_;simp only[ay,av];rw[fY,yq,eJ,dI];simp only[ae,af];rw[uC,es,dJ,eU,if_pos rfl,yq,eJ,dZ,dH,dU];simp only[ae,af];rw[dH,fD,dH,uC,dN,dN];refine my (told:=[0]) (!1) (!1) ok (!1) (!1) (!4) (by simp;omega) ?_;rw[uC,es,dJ,eU,if_pos rfl,eJ,dZ,dH,dU];simp only[ae,af];rw[dH,fD,dN,dN];refine my (told:=[]) (!1) (!1) ok (!1) (!1) List.Pairwise.nil (!4) ?_;rw[uC,es,dJ]
end
theorem all_mk {l:W.OpenLaw}{w:World}{K:W.Frag}{h:Heap}{mg:Str->Option ag}{fa:Addr}{V6:Addr}{V7 Sn:Option Addr}{V8:Array (Option ag)}{V9 Sq Sr Ss OY Su:ag}{nV:Tok}{ff:Addr}{xk:ClassData}{jt:Addr}{Bv:ClassData}{kC:Addr}{EW:ClassData}{kD:Addr}{EX:ClassData}{ju:Addr}{Bw:ClassData}{mJ:Addr}{HL:ClassData}{d9:Addr}{Bx:ClassData}{kE:Addr}{EY:ClassData}{ZK ZL:ag}{ZM ZN:Option Addr}{Xo:ClassData}{ZO V':Array (Option ag)}{jN:Addr}{Wa:Array DictEntry}{jn:Nat}{By Bz:Str}{EZ jK:Addr}{BA zt:List ag}{BB BC:Bool}{BE:List Str}{zu:Option Bool}{BF BG BH:Option Addr}{BI BJ BK BL BM:Option ag}{BN BO BP BQ tm BR:ag}{BS:Array (Option ag)}(X:K.In h)(G:h.Ns aR mg)(Pf:mg "law" = some (.ref fa))
  (a35:W.nsIn K aR "law" = some (some (.ref V6)))
  (l35:K.lookup V6=some ⟨V9,V7,.func (W.fnOf "law" "law" (je (top 35)) (fE (top 35)) (dM (top 35)) .none Sq Sr Ss Sn OY Su),V8⟩)
  (c35:W.codeIn K OY "law" = true)
  (k35:W.keepIn K (.ref V6)=true)
  (AF0:GY K top [("odd_ones",10),("by_turns",12),("odds_of",13),("parts_of",14),("places_of",15),("other_end",17),("ways_home",20),("base_rings",21),("all_from",22),("all_evens",23),("all_joins",24),("_law_feed",26),("_law_draw",27),("_law_price",28),("_law_web",29),("_law_some",30),("_law_odds",31),("_law_all_sets",32),("_law_right",33),("_law_word",34)])
  (g_MOST_BASE_RINGS:W.nsIn K aR "MOST_BASE_RINGS" = some (some (.int 10 nV)))
  (z_ValueError:W.nsIn K aR "ValueError" = some none)
  (z_enumerate:W.nsIn K aR "enumerate" = some none)
  (z_int:W.nsIn K aR "int" = some none)
  (z_isinstance:W.nsIn K aR "isinstance" = some none)
  (z_len:W.nsIn K aR "len" = some none)
  (z_list:W.nsIn K aR "list" = some none)
  (z_max:W.nsIn K aR "max" = some none)
  (z_min:W.nsIn K aR "min" = some none)
  (z_range:W.nsIn K aR "range" = some none)
  (z_repr:W.nsIn K aR "repr" = some none)
  (z_set:W.nsIn K aR "set" = some none)
  (z_sorted:W.nsIn K aR "sorted" = some none)
  (z_tuple:W.nsIn K aR "tuple" = some none)
  (na_JoinError:W.nsIn K aR "JoinError" = some (some (.ref ff)))
  (ty_JoinError:W.typeIn K (.ref ff)=some (.type "type"))
  (cl_JoinError:W.clsIn K ff=some xk)
  (na_NoPaper:W.nsIn K aR "NoPaper" = some (some (.ref jt)))
  (ty_NoPaper:W.typeIn K (.ref jt)=some (.type "type"))
  (cl_NoPaper:W.clsIn K jt=some Bv)
  (na_NoWalk:W.nsIn K aR "NoWalk" = some (some (.ref kC)))
  (ty_NoWalk:W.typeIn K (.ref kC)=some (.type "type"))
  (cl_NoWalk:W.clsIn K kC=some EW)
  (na_NoText:W.nsIn K aR "NoText" = some (some (.ref kD)))
  (ty_NoText:W.typeIn K (.ref kD)=some (.type "type"))
  (cl_NoText:W.clsIn K kD=some EX)
  (na_NoTurns:W.nsIn K aR "NoTurns" = some (some (.ref ju)))
  (ty_NoTurns:W.typeIn K (.ref ju)=some (.type "type"))
  (cl_NoTurns:W.clsIn K ju=some Bw)
  (na_NoTie:W.nsIn K aR "NoTie" = some (some (.ref mJ)))
  (ty_NoTie:W.typeIn K (.ref mJ)=some (.type "type"))
  (cl_NoTie:W.clsIn K mJ=some HL)
  (na_TooMany:W.nsIn K aR "TooMany" = some (some (.ref d9)))
  (ty_TooMany:W.typeIn K (.ref d9)=some (.type "type"))
  (cl_TooMany:W.clsIn K d9=some Bx)
  (na_NoLine:W.nsIn K aR "NoLine" = some (some (.ref kE)))
  (ty_NoLine:W.typeIn K (.ref kE)=some (.type "type"))
  (cl_NoLine:W.clsIn K kE=some EY)
  (lJ:K.lookup ff=some ⟨ZK,ZM,.cls Xo,ZO⟩)
  (nJ:Xo.ns=jN)
  (lN:K.lookup jN=some ⟨ZL,ZN,.dict Wa jn,V'⟩)
  (sJ:yn Wa=true)
  (iJ:nsFind Wa "__init__" = none)
  (xJ:W.mroIn K ff (.type "BaseException")=some true)
  (o_TooMany:K.lookup d9=some (PySem.excClassObj By Bz d9 EZ BA (.ref ff::L2.qb) BB BE zt BC zu BF BI BJ BK BL BM "ValueError.__new__"))
  (fiTooMany:W.findIn K (.ref d9) "__init__" = some (some (.ref jK)))
  (fnTooMany:W.isFn K (.ref jK)=true)
  (kpTooMany:W.keepIn K (.ref d9)=true)
  (gaTooMany:W.findIn K (.ref d9) "__getattribute__" = some (some (.builtin "BaseException.__getattribute__")))
  (ghTooMany:W.findIn K (.ref d9) "__getattr__" = some none)
  (saTooMany:W.findIn K (.ref d9) "__setattr__" = some (some (.builtin "object.__setattr__")))
  (hdTooMany:W.hasDictIn K d9=true)
  (bxTooMany:W.mroIn K d9 (.type "BaseException")=some true)
  (obTooMany:W.mroIn K d9 (.type "object")=some true)
  (hcTooMany:W.findIn K (.ref d9) "__class__" = some (some (.builtin "object.__class__")))
  (hgTooMany:W.specialIn K (.builtin "object.__class__") "__get__" = some (some (.builtin "getset_descriptor.__get__")))
  (tkTooMany:W.takesIn K (.builtin "object.__class__")=some true)
  (owTooMany:W.mroIn K d9 (.ref d9)=some true)
  (veTooMany:W.mroIn K d9 (.type "ValueError")=some true)
  (upTooMany:W.mroIn K d9 (.ref ff)=some true)
  (no_TooMany_NoPaper:W.mroIn K d9 (.ref jt)=some false)
  (no_TooMany_NoWalk:W.mroIn K d9 (.ref kC)=some false)
  (no_TooMany_NoText:W.mroIn K d9 (.ref kD)=some false)
  (no_TooMany_NoTurns:W.mroIn K d9 (.ref ju)=some false)
  (no_TooMany_NoTie:W.mroIn K d9 (.ref mJ)=some false)
  (no_TooMany_NoLine:W.mroIn K d9 (.ref kE)=some false)
  (lITooMany:K.lookup jK=some ⟨BN,BG,.func (W.fnOf "__init__" "TooMany.__init__" (je (uX (top 7) 0)) (fE (uX (top 7) 0)) (dM (uX (top 7) 0)) .none BO BP BQ BH tm BR),BS⟩)
  (cITooMany:W.codeIn K tm "TooMany.__init__" = true)
  (kITooMany:W.keepIn K (.ref jK)=true)
  (fd_TooMany_word:W.findIn K (.ref d9) "word" = some none) :
  ∃fd:bG,(∀(s:aq) (v:ag),BindsTo s fd ⟨[v],[]⟩ [("_law_script",v)])/\∀base:Heap,K.In base->base.Ns aR mg->i5 l.prog w K mg base rq 20 fa fd ["_law_script"] (yJ K):=by
 have e:=Pf.symm.trans (W.mg_of X G a35);cases e;have ZP:=zU (st:=top 35) l35 c35 k35;obtain⟨ZQ,ZR,ZS,ZT,ZU,ZV,ZW,ZX,ZY,ZZ,Z0,Z1,Z2,Z3,Z4,Z5,Z6,Z7,Z8,Z9,_⟩:=AF0;refine⟨W.fnOf "law" "law" (je (top 35)) (fE (top 35)) (dM (top 35)) .none Sq Sr Ss Sn OY Su,λs v=>.of_eq rfl,λbase _ _=>?_⟩;have mz:=lQ X G na_JoinError ty_JoinError cl_JoinError;have vF:=lQ X G na_NoPaper ty_NoPaper cl_NoPaper;have zv:=lQ X G na_NoWalk ty_NoWalk cl_NoWalk;have zw:=lQ X G na_NoText ty_NoText cl_NoText;have vG:=lQ X G na_NoTurns ty_NoTurns cl_NoTurns;have Dp:=lQ X G na_NoTie ty_NoTie cl_NoTie;have mK:=lQ X G na_TooMany ty_TooMany cl_TooMany;have zx:=lQ X G na_NoLine ty_NoLine cl_NoLine;subst nJ;have Z':NJ K ff:=⟨_,_,_,_,_,_,_,_,_,lJ,lN,Ar sJ,iJ⟩;have ft:tU K d9 ff:=⟨⟨⟨gaTooMany,ghTooMany,saTooMany,hdTooMany,bxTooMany,obTooMany⟩,hcTooMany,hgTooMany,tkTooMany⟩,owTooMany,veTooMany,upTooMany,xJ⟩;have BU:RF K d9 ff jK:=⟨⟨_,_,_,_,_,_,_,_,_,_,_,_,_,_,_,o_TooMany⟩,fiTooMany,fnTooMany,kpTooMany,ft⟩;have BV:=zU (st:=uX (top 7) 0) lITooMany cITooMany kITooMany;let cl:Str->Addr:=λc=>(([("JoinError",ff),("NoPaper",jt),("NoWalk",kC),("NoText",kD),("NoTurns",ju),("NoTie",mJ),("TooMany",d9),("NoLine",kE)]:List (Str × Addr)).lookup c).getD 0;have LU:cl "JoinError" = ff:=rfl;have Pp:cl "NoPaper" = jt:=rfl;have Sv:cl "NoWalk" = kC:=rfl;have Sw:cl "NoText" = kD:=rfl;have Pq:cl "NoTurns" = ju:=rfl;have Tx:cl "NoTie" = mJ:=rfl;have Pr:cl "TooMany" = d9:=rfl;have Sx:cl "NoLine" = kE:=rfl
 have xf:XF K mg (XC cl) ED Kf:=by
  refine⟨λc hc=>?_,λc hc h hh=>?_,λc hc h hh=>?_,λc hc=>?_,λc hc=>?_,λc hc f hf=>?_⟩
  .have hq:=hc
   simp only[Kf,au,bK,or_false] at hq;rcases hq with rfl | rfl | rfl | rfl | rfl | rfl | rfl | rfl
   .exact mz.nm
   .exact vF.nm
   .exact zv.nm
   .exact zw.nm
   .exact vG.nm
   .exact Dp.nm
   .exact mK.nm
   .exact zx.nm
  .have hq:=hc
   simp only[ED,au,bK,or_false] at hq;subst hq;rcases hh with rfl | rfl
   .exact ft.Vv mK bxTooMany
   .exact ft.U' mz
  .have hq:=hc
   simp only[ED,au,bK,or_false] at hq;subst hq;have hq:=hh;simp only[Kf,au,bK,or_false] at hq;rcases hq with rfl | rfl | rfl | rfl | rfl | rfl | rfl | rfl
   .exact ft.one mz ft.up
   .exact ft.one vF no_TooMany_NoPaper
   .exact ft.one zv no_TooMany_NoWalk
   .exact ft.one zw no_TooMany_NoText
   .exact ft.one vG no_TooMany_NoTurns
   .exact ft.one Dp no_TooMany_NoTie
   .exact ft.one mK ft.own
   .exact ft.one zx no_TooMany_NoLine
  .have hq:=hc
   simp only[ED,au,bK,or_false] at hq;subst hq;exact ft.isVal
  .have hq:=hc
   simp only[ED,au,bK,or_false] at hq;subst hq;exact ft.ci
  .have hq:=hc
   simp only[ED,au,bK,or_false] at hq;subst hq;have hf2:f∈(["word"]:List Str):=hf;have hq:=hf2;simp only[au,bK,or_false] at hq;subst hq;exact fd_TooMany_word
 have pT:mB l.prog w K mg base "TooMany" (cl "TooMany") (Gn (cl "TooMany") "word"):=EH BV BU Z' mK.nm fd_TooMany_word;have ir:∃t,mg "MOST_BASE_RINGS" = some (.int 10 t):=⟨_,W.mg_of X G g_MOST_BASE_RINGS⟩;have B:sM mg:=⟨W.mg_none_of X G z_ValueError,W.mg_none_of X G z_enumerate,W.mg_none_of X G z_int,W.mg_none_of X G z_isinstance,W.mg_none_of X G z_len,W.mg_none_of X G z_list,W.mg_none_of X G z_max,W.mg_none_of X G z_min,W.mg_none_of X G z_range,W.mg_none_of X G z_repr,W.mg_none_of X G z_set,W.mg_none_of X G z_sorted,W.mg_none_of X G z_tuple⟩;obtain⟨_,_,F26,m26⟩:=(Z1.m X G).ex;have nO:eO l.prog w K mg base 1 "_law_feed" ["_law_script"] (qJ Bc K):=OO F26 m26 B;have iO:kY l.prog w K mg base cl:=Bj (Z6.m X G) B;have gk:iq l.prog w K mg base cl:=sR (Z7.m X G) B iO;obtain⟨_,_,F27,m27⟩:=(Z2.m X G).ex;have ee:jD l.prog w K mg base Bc:=(OP F27 m27 B).draw.up (!2);have fV:jY l.prog w K mg base Bc:=za (Z3.m X G) B ee;have me:l6 l.prog w K mg base cl:=y7 (ZV.m X G) B;obtain⟨_,_,F10,m10⟩:=(ZQ.m X G).ex;have iN:nF l.prog w K mg base cl:=Be F10 m10 B;have eL:gW l.prog w K mg base cl:=Bf (ZR.m X G) B iN;have ma:l5 l.prog w K mg base cl:=y6 (ZU.m X G) B;have nM:nG l.prog w K mg base cl:=Bg (ZT.m X G) B ma;have mf:l7 l.prog w K mg base cl:=y8 (ZW.m X G) B me eL nM;have k9:kX l.prog w K mg base cl:=wU (ZX.m X G) B eL;have pS:pQ l.prog w K mg base cl:=EI (ZS.m X G) B iN;have nN:nH l.prog w K mg base  := Bh (ZY.m X G) B eL;have eW:hZ l.prog w K mg base cl:=y' (Z0.m X G) B ir mf k9 eL pS nN pT;have mh:l8 l.prog w K mg base cl:=y9 (ZZ.m X G) B eW;have mi:l9 l.prog w K mg base cl:=zc (Z8.m X G) B mh eL eW gk;have jF:nI l.prog w K mg base Bc:=Bi (Z5.m X G) B ee;have pU:pR l.prog w K mg base Bc:=EJ (Z4.m X G) B ee fV;have jE:nK l.prog w K mg base cl:=Bk (Z9.m X G) B eW xf;exact Sa ZP B nO jE jF ee fV eW gk mi iO pU HK
theorem walk {l:W.OpenLaw}{q:aP}{loose:List Str}{XP:(Str->Option ag)->Heap->Prop}{YP:World->Heap->Prop}{d:DefRec}{K:Params->W.Frag}(hn:l.most=some 63)(M5:d.params.defaults=[])
  (hY:∀(w:World) (h:Heap),YP w h->(K w.params).In h)
  (F:∀(w:World) (mg:Str->Option ag) (fa:Addr) (h:Heap),(K w.params).In h->h.Ns aR mg->mg d.name=some (.ref fa) ->
   ∃fd:bG,(∀(s:aq) (u:ag),BindsTo s fd ⟨[u],[]⟩ [("_law_script",u)])/\∀base:Heap,(K w.params).In base->base.Ns aR mg->i5 l.prog w (K w.params) mg base rq 20 fa fd ["_law_script"] (yJ (K w.params))) :
  W.WalkO q loose XP YP l.row.toRowW d [] (λf vs=>PySem.call f vs) :=
 L2.I0 (n:=63) (k:=20) (x := "_law_script") (CX:=λ_=>rq) (sp:=λw=>yJ (K w.params)) hn (!2) M5 ⟨rfl,!2,!2,rfl⟩ hY F (λ_ _ a ns hl _ hS=>⟨a,ns,rfl,hS,hl,λ_=>rfl⟩) λ_ _ _ _ _ z=>z
end Odj
theorem PySem.W.Fast.tw2657069769935533284:True:=⟨⟩
theorem PySem.W.Fast.tw8692630033405714659:True:=⟨⟩
theorem PySem.W.Fast.tw15547602861684382622:True:=⟨⟩
theorem PySem.W.Fast.tw3181905933111939747:True:=⟨⟩
theorem PySem.W.Fast.tw2847048121126472750:True:=⟨⟩
theorem PySem.W.Fast.tw11087887806374049738:True:=⟨⟩
theorem PySem.W.Fast.tw15294705167406111579:True:=⟨⟩
theorem PySem.W.Fast.tw8477830773256239237:True:=⟨⟩
theorem PySem.W.Fast.tw9429488934347963536:True:=⟨⟩
theorem PySem.W.Fast.tw10273933968072647419:True:=⟨⟩
theorem PySem.W.Fast.tw10148235256521962732:True:=⟨⟩
theorem PySem.W.Fast.tw2403519291551834313:True:=⟨⟩
theorem PySem.W.Fast.tw13632606401022354818:True:=⟨⟩
theorem PySem.W.Fast.tw2585256811355257621:True:=⟨⟩
theorem PySem.W.Fast.tw16838685406392313921:True:=⟨⟩
theorem PySem.W.Fast.tw10760225349966985749:True:=⟨⟩
theorem PySem.W.Fast.tw10452084892150584205:True:=⟨⟩
theorem PySem.W.Fast.tw16658662412229168959:True:=⟨⟩
theorem PySem.W.Fast.tw3993383721558702626:True:=⟨⟩
theorem PySem.W.Fast.tw1492864714345420885:True:=⟨⟩
theorem PySem.W.Fast.tw9919238744895778094:True:=⟨⟩
theorem PySem.W.Fast.tw17058396727432486682:True:=⟨⟩
theorem PySem.W.Fast.tw6444807187298634757:True:=⟨⟩
theorem PySem.W.Fast.tw13712162887770289138:True:=⟨⟩
theorem PySem.W.Fast.tw16302625124018053598:True:=⟨⟩
theorem PySem.W.Fast.tw10081220895123509172:True:=⟨⟩
theorem PySem.W.Fast.tw7844337613532788448:True:=⟨⟩
theorem PySem.W.Fast.tw12186733236750461657:True:=⟨⟩
theorem PySem.W.Fast.tw1519890847853143571:True:=⟨⟩
theorem PySem.W.Fast.tw9267242506295289944:True:=⟨⟩
theorem PySem.W.Fast.tw2488815908913973854:True:=⟨⟩
theorem PySem.W.Fast.tw12066679807012823583:True:=⟨⟩
theorem PySem.W.Fast.tw13157474886100477108:True:=⟨⟩
theorem PySem.W.Fast.tw9632358158617447547:True:=⟨⟩
theorem PySem.W.Fast.tw8038073201015423045:True:=⟨⟩
theorem PySem.W.Fast.tw10526894258763355752:True:=⟨⟩
theorem PySem.W.Fast.tw9330906340191651658:True:=⟨⟩
theorem PySem.W.Fast.tw7860186419044122018:True:=⟨⟩
theorem PySem.W.Fast.tw16333221069545808033:True:=⟨⟩
theorem PySem.W.Fast.tw17584536053152072491:True:=⟨⟩
theorem PySem.W.Fast.tw8107836399187315711:True:=⟨⟩
theorem PySem.W.Fast.tw10504368970209462149:True:=⟨⟩
theorem PySem.W.Fast.tw16175674826795633051:True:=⟨⟩
theorem PySem.W.Fast.tw652588244373574821:True:=⟨⟩
theorem PySem.W.Fast.tw9630783218633482762:True:=⟨⟩
theorem PySem.W.Fast.tw735701452097556766:True:=⟨⟩
theorem PySem.W.Fast.tw5533707132798163154:True:=⟨⟩
theorem PySem.W.Fast.tw3860533193191102369:True:=⟨⟩
theorem PySem.W.Fast.tw7368491232960705875:True:=⟨⟩
theorem PySem.W.Fast.tw13680618865710659865:True:=⟨⟩
theorem PySem.W.Fast.tw14898558005967716064:True:=⟨⟩
theorem PySem.W.Fast.tw10332701734426976899:True:=⟨⟩
theorem PySem.W.Fast.tw6539246414945002929:True:=⟨⟩
theorem PySem.W.Fast.tw7132504033694515890:True:=⟨⟩
theorem PySem.W.Fast.tw359520483695756722:True:=⟨⟩
theorem PySem.W.Fast.tw7005195227500914997:True:=⟨⟩
theorem PySem.W.Fast.tw1010434083759264514:True:=⟨⟩
theorem PySem.W.Fast.tw4186756533870553907:True:=⟨⟩
theorem PySem.W.Fast.tw7508573929869180326:True:=⟨⟩
theorem PySem.W.Fast.tw9024933844330051231:True:=⟨⟩
theorem PySem.W.Fast.tw162547373590276147:True:=⟨⟩
theorem PySem.W.Fast.tw1102616668961866989:True:=⟨⟩
theorem PySem.W.Fast.tw14422957074884503718:True:=⟨⟩
theorem PySem.W.Fast.tw6348406300287101357:True:=⟨⟩
theorem PySem.W.Fast.tw12580219201293989451:True:=⟨⟩
theorem PySem.W.Fast.tw11028722110198432920:True:=⟨⟩
theorem PySem.W.Fast.tw9501760852119572500:True:=⟨⟩
theorem PySem.W.Fast.tw8162016373320511830:True:=⟨⟩
theorem PySem.W.Fast.tw15838425095736234318:True:=⟨⟩
theorem PySem.W.Fast.tw9635444456522834353:True:=⟨⟩
theorem PySem.W.Fast.tw18393285378005301043:True:=⟨⟩
theorem PySem.W.Fast.tw7858066384141989205:True:=⟨⟩
theorem PySem.W.Fast.tw14780045811084742670:True:=⟨⟩
theorem PySem.W.Fast.tw6730435058620285811:True:=⟨⟩
theorem PySem.W.Fast.tw11372397689413189162:True:=⟨⟩
theorem PySem.W.Fast.tw7473174100895604572:True:=⟨⟩
theorem PySem.W.Fast.tw5944115832712533424:True:=⟨⟩
theorem PySem.W.Fast.tw1895399558255111442:True:=⟨⟩
theorem PySem.W.Fast.tw6877087282584740755:True:=⟨⟩
theorem PySem.W.Fast.tw18417716851001741516:True:=⟨⟩
theorem PySem.W.Fast.tw18337028141046955212:True:=⟨⟩
theorem PySem.W.Fast.tw12318137300584420386:True:=⟨⟩
theorem PySem.W.Fast.tw4260133821964547802:True:=⟨⟩
theorem PySem.W.Fast.tw4793918216102051120:True:=⟨⟩
theorem PySem.W.Fast.tw10585715606857205427:True:=⟨⟩
theorem PySem.W.Fast.tw6254177322760767389:True:=⟨⟩
theorem PySem.W.Fast.tw8482012821837308609:True:=⟨⟩
theorem PySem.W.Fast.tw5918028398350921630:True:=⟨⟩
theorem PySem.W.Fast.tw15938566675184130587:True:=⟨⟩
theorem PySem.W.Fast.tw2338744902925812359:True:=⟨⟩
theorem PySem.W.Fast.tw14468970103538550553:True:=⟨⟩
theorem PySem.W.Fast.tw5194180234631841269:True:=⟨⟩
theorem PySem.W.Fast.tw9099531557644275041:True:=⟨⟩
theorem PySem.W.Fast.tw17948903047898787987:True:=⟨⟩
theorem PySem.W.Fast.tw3368062328795484734:True:=⟨⟩
theorem PySem.W.Fast.tw7844309580640921632:True:=⟨⟩
theorem PySem.W.Fast.tw12871678833128253568:True:=⟨⟩
theorem PySem.W.Fast.tw9174244805223611354:True:=⟨⟩
theorem PySem.W.Fast.tw8692866586073389025:True:=⟨⟩
theorem PySem.W.Fast.tw8298050227369016841:True:=⟨⟩
theorem PySem.W.Fast.tw926430854533781189:True:=⟨⟩
theorem PySem.W.Fast.tw6163571474573290956:True:=⟨⟩
theorem PySem.W.Fast.tw4940108938344014405:True:=⟨⟩
theorem PySem.W.Fast.tw14298466682940545067:True:=⟨⟩
theorem PySem.W.Fast.tw17932547062498347862:True:=⟨⟩
theorem PySem.W.Fast.tw1406285518459655520:True:=⟨⟩
theorem PySem.W.Fast.tw7134262196728232660:True:=⟨⟩
theorem PySem.W.Fast.tw2441976636710601683:True:=⟨⟩
theorem PySem.W.Fast.tw11492495527522287096:True:=⟨⟩
theorem PySem.W.Fast.tw16386917028520411474:True:=⟨⟩
theorem PySem.W.Fast.tw2752055320278442583:True:=⟨⟩
theorem PySem.W.Fast.tw11233388567083774239:True:=⟨⟩
theorem PySem.W.Fast.tw5307887101150363297:True:=⟨⟩
theorem PySem.W.Fast.tw17021093575948788256:True:=⟨⟩
theorem PySem.W.Fast.tw11129038289600559426:True:=⟨⟩
theorem PySem.W.Fast.tw8552989754236652759:True:=⟨⟩
theorem PySem.W.Fast.tw10475913696144555450:True:=⟨⟩
theorem PySem.W.Fast.tw4387542225093950679:True:=⟨⟩
theorem PySem.W.Fast.tw4440423255437201007:True:=⟨⟩
theorem PySem.W.Fast.tw9075979536897209838:True:=⟨⟩
theorem PySem.W.Fast.tw10056546763581777848:True:=⟨⟩
theorem PySem.W.Fast.tw14105520967022706462:True:=⟨⟩
open PySem PySem.W PyProof.Rows
set_option maxRecDepth 100000 in
set_option maxHeartbeats 0 in
theorem PySem.Challenge.cw_oddjoins_k11_all_joins_holds : PySem.Challenge.rw_oddjoins_k11_all_joins.Holds := by
 w_on; o_law; k_head; (case hw=>w_witness2)
 k_fill
 refine Odj.walk (l:=PySem.Challenge.rw_oddjoins_k11_all_joins) rfl rfl (fun w h Y=>W.kIn_of Y) ?F
 case F =>
  intro w mg fa h KX G Qr
  refine' Odj.all_mk KX G Qr ?a35 ?l35 ?c35 ?k35 ?AF0 ?g_MOST_BASE_RINGS ?z_ValueError ?z_enumerate ?z_int ?z_isinstance ?z_len ?z_list ?z_max ?z_min ?z_range ?z_repr ?z_set ?z_sorted ?z_tuple ?na_JoinError ?ty_JoinError ?cl_JoinError ?na_NoPaper ?ty_NoPaper ?cl_NoPaper ?na_NoWalk ?ty_NoWalk ?cl_NoWalk ?na_NoText ?ty_NoText ?cl_NoText ?na_NoTurns ?ty_NoTurns ?cl_NoTurns ?na_NoTie ?ty_NoTie ?cl_NoTie ?na_TooMany ?ty_TooMany ?cl_TooMany ?na_NoLine ?ty_NoLine ?cl_NoLine ?lJ ?nJ ?lN ?sJ ?iJ ?xJ ?o_TooMany ?fiTooMany ?fnTooMany ?kpTooMany ?gaTooMany ?ghTooMany ?saTooMany ?hdTooMany ?bxTooMany ?obTooMany ?hcTooMany ?hgTooMany ?tkTooMany ?owTooMany ?veTooMany ?upTooMany ?no_TooMany_NoPaper ?no_TooMany_NoWalk ?no_TooMany_NoText ?no_TooMany_NoTurns ?no_TooMany_NoTie ?no_TooMany_NoLine ?lITooMany ?cITooMany ?kITooMany ?fd_TooMany_word
  (case a35=>k_is); (case l35=>k_is); (case c35=>k_is); (case k35=>k_is)
  (case AF0=>repeat' first | exact L2.GZ | (refine L2.Oy ?_ ?_) | (apply L2.Ox.of <;> k_is)); (case g_MOST_BASE_RINGS=>k_is); (case z_ValueError=>k_is); (case z_enumerate=>k_is)
  (case z_int=>k_is); (case z_isinstance=>k_is); (case z_len=>k_is); (case z_list=>k_is)
  (case z_max=>k_is); (case z_min=>k_is); (case z_range=>k_is); (case z_repr=>k_is)
  (case z_set=>k_is); (case z_sorted=>k_is); (case z_tuple=>k_is); (case na_JoinError=>k_is)
  (case ty_JoinError=>k_is); (case cl_JoinError=>k_is); (case na_NoPaper=>k_is); (case ty_NoPaper=>k_is)
  (case cl_NoPaper=>k_is); (case na_NoWalk=>k_is); (case ty_NoWalk=>k_is); (case cl_NoWalk=>k_is)
  (case na_NoText=>k_is); (case ty_NoText=>k_is); (case cl_NoText=>k_is); (case na_NoTurns=>k_is)
  (case ty_NoTurns=>k_is); (case cl_NoTurns=>k_is); (case na_NoTie=>k_is); (case ty_NoTie=>k_is)
  (case cl_NoTie=>k_is); (case na_TooMany=>k_is); (case ty_TooMany=>k_is); (case cl_TooMany=>k_is)
  (case na_NoLine=>k_is); (case ty_NoLine=>k_is); (case cl_NoLine=>k_is); (case lJ=>k_is)
  (case nJ=>rfl); (case lN=>k_is); (case sJ=>rfl); (case iJ=>rfl)
  (case xJ=>k_is); (case o_TooMany=>k_is); (case fiTooMany=>k_is); (case fnTooMany=>k_is)
  (case kpTooMany=>k_is); (case gaTooMany=>k_is); (case ghTooMany=>k_is); (case saTooMany=>k_is)
  (case hdTooMany=>k_is); (case bxTooMany=>k_is); (case obTooMany=>k_is); (case hcTooMany=>k_is)
  (case hgTooMany=>k_is); (case tkTooMany=>k_is); (case owTooMany=>k_is); (case veTooMany=>k_is)
  (case upTooMany=>k_is); (case no_TooMany_NoPaper=>k_is); (case no_TooMany_NoWalk=>k_is); (case no_TooMany_NoText=>k_is)
  (case no_TooMany_NoTurns=>k_is); (case no_TooMany_NoTie=>k_is); (case no_TooMany_NoLine=>k_is); (case lITooMany=>k_is)
  (case cITooMany=>k_is); (case kITooMany=>k_is); (case fd_TooMany_word=>k_is)
