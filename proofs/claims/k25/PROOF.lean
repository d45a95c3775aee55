import PyProof.Rows.All
import Wide.All
import OpenK.AllK
import Wide.FinOn
import Lean
import PyProof.EqAt
import PyProof.EqKinds
import PyProof.TupleCall
import KE.KTryMore
import KE.KRevIter
import PyProof.CollectIter
import PyProof.P3Eq
import PyProof.MinMaxWalk
import PyProof.StrCalls2
import PyProof.FactsAll.set_2
import KE.KSortTup
import PyProof.Rows.CallKwBuiltin
import KE.KDictOf
import PyProof.Rows.TupDisplay
import PyProof.P3Statements
import PySem.Challenge.RW_oddjoins_k25_least_joins_told
set_option compiler.extract_closed false
set_option Elab.async false
set_option linter.all false
set_option maxRecDepth 100000
set_option maxHeartbeats 8000000
open List renaming getElem?_cons_zero→aa, getElem?_cons_succ→ac, mem_cons_of_mem→ai, map_cons→ak, mem_singleton→am, length_cons→ap, mem_cons_self→aq, length_map→ar, mem_cons→au, set_cons_zero→av, set_cons_succ→ay, getD_eq_getElem?_getD→az, getElem?_map→aB, size_toArray→aC, getElem?_eq_some_iff→aD, replicate_succ→aG, nil_append→aI, getElem?_eq_getElem→aJ, length_append→aK, mem_map→aM, getElem?_set_ne→aN, mem_filter→aP, map_append→aQ, replicate_zero→aU, cons_append→aV, length_nil→aX, mem_append→aY, length_set→aZ, map_nil→ba, nodup_cons→bb, mem_append_right→bf, getElem?_eq_none→bg, count_append→bi, mem_append_left→bn, perm_ext_iff_of_nodup→bp, length_singleton→bq, drop_eq_getElem_cons→bv, append_assoc→bw, map_map→bx, drop_of_length_le→bC, find?_cons→bD, length_take→bF, append_nil→bI, getElem?_append_left→bK, length_filter_le→bM, getElem?_replicate→bP, any_cons→bR, getElem?_append_right→bT, take_of_length_le→bV, count_pos_iff→bX, mem_of_getElem?→bY, count_singleton→bZ, nodup_append→b4, map_congr_left→b8, nodup_nil→ca, pairwise_cons→cb, getElem?_toArray→cc, filterMap_cons→cf, getElem_mem→cg, any_eq_true→ci, flatten_cons→cm, mem_of_mem_take→cp, lookup_cons→cq, not_mem_nil→cu, filter_sublist→cw, set_eq_of_length_le→cx, getElem?_set_self→cA, take_add_one→cB, length_replicate→cD, filter_cons→cF, sum_cons→cG, eq_nil_of_length_eq_zero→cI, count_cons→cK, getElem_of_mem→cL, getElem?_range→cM, mem_range→cN, mem_filterMap→cO, mapM_cons→cQ, filter_append→cR, pairwise_iff_getElem→cS, length_erase_of_mem→cT, length_drop→cU, take_length→cW, filter_cons_of_pos→cY, filter_cons_of_neg→cZ, foldl→c6, length_pos_of_mem→c8, set_set→c9, foldl_cons→dc
open PySem renaming wpAny_bind→ae, PyData→af, Value→ag, wpAny_pure→aj, Shared→aw, sizeLine→aA, wpAny→aE, NameKind→aO, wpAny_newObj_type→aW, Program→a5, mainGlobals→be, FuncData→bH, wpAny_mono→bS
open PySem.Heap renaming get?_push_of_some→ah, get?_push_size→ax, lt_size→aF, get?_update_other→aH, get?_update_self→aR, size_push→bB
open Nat renaming le_refl→ao, lt_of_lt_of_le→aL, ne_of_lt→aT, le_trans→bj, lt_irrefl→bA, zero_le→bL, ne_of_gt→bN, lt_succ_of_lt→bU, lt_of_succ_lt_succ→bW, lt_or_ge→ce, lt_succ_self→cr, lt_of_le_of_lt→cz, add_zero→cC, succ_ne_self→cE, le_succ→cH, le_of_lt→c5, lt_trans→c7, not_lt_zero→de
open Bool renaming false_ne_true→bc, and_eq_true→bo, false_eq_true→bO, eq_iff_iff→cJ
open Int renaming toNat_natCast→bh, le_refl→bG, emod_lt_of_pos→ck, emod_nonneg→cy
open Array renaming getElem?_toList→br, length_toList→bu, getElem_toList→bQ, getElem?_eq_none→b9
open Option renaming isSome_iff_exists→bE, map_some→bJ, map_eq_some_iff→cj, getD_some→cv, isSome_some→cP, bind_some→cV
set_option hygiene false
local macro_rules |`(tactic|rw[$n:num])=>match n.getNat with
|3=>`(tactic|(intro _;rfl))
|999=>`(tactic|(intro _ _ _ _ _ _ us hl;first | (obtain⟨_,rfl⟩:=EX hl;rfl) | (obtain⟨_,_,rfl⟩:=CF hl;rfl) | (obtain⟨_,_,_,rfl⟩:=EY hl;rfl) | (obtain⟨_,_,_,_,rfl⟩:=Pp hl;rfl) | (obtain⟨_,_,_,_,_,rfl⟩:=len5 hl;rfl) | (obtain⟨_,_,_,_,_,_,rfl⟩:=len6 hl;rfl) | (cases us<;>first | rfl | cases hl)))
|_=>Lean.Macro.throwUnsupported
local macro_rules |`(!$n:num)=>match n.getNat with
|1=>`(by omega)
|2=>`(by decide)
|3=>`(by decide +kernel)
|4=>`(by simp)
|_=>Lean.Macro.throwUnsupported
noncomputable section
namespace L2
open PySem PySem.Spec PyProof.Rows
noncomputable abbrev Key:=Sum Int Str
noncomputable def qL:Key->ag->Bool
 | .inl k,v=>ag.isInt k v
 | .inr x,v=>ag.isStrOf x v
noncomputable def QB (w:World):Key->Int
 | .inl k=>hashInt k
 | .inr x=>hashStr w x
theorem eV:∀{k:Key} {v:ag},qL k v=true->(∃i t,k=Sum.inl i/\v=ag.int i t)\/(∃x t,k=Sum.inr x/\v=ag.str x t)
 | .inl i,v,h=>by
  obtain⟨t,e⟩:=ag.isInt_shape (k:=i) (v:=v) h;exact .inl ⟨i,t,rfl,e⟩
 | .inr x,v,h=>by
  obtain⟨t,e⟩:=ag.isStrOf_shape (x:=x) (v:=v) h;exact .inr ⟨x,t,rfl,e⟩
theorem BO (i:Int)(t:Tok):qL (.inl i) (.int i t)=true:=by simp[qL,ag.isInt]
theorem BP (x:Str)(t:Tok):qL (.inr x) (.str x t)=true:=by simp[qL,ag.isStrOf]
theorem Kd (a b:Int):decide ((Sum.inl a:Key)=Sum.inl b)=(a == b):=by
 by_cases e:a=b
 .subst e;simp
 .have h:¬ (Sum.inl a:Key)=Sum.inl b:=λq=>e (Sum.inl.inj q)
  rw[decide_eq_false h];exact (beq_eq_false_iff_ne.mpr e).symm
theorem Ke (a b:Str):decide ((Sum.inr a:Key)=Sum.inr b)=decide (a=b):=by
 by_cases e:a=b
 .subst e;simp
 .have h:¬ (Sum.inr a:Key)=Sum.inr b:=λq=>e (Sum.inr.inj q)
  rw[decide_eq_false h,decide_eq_false e]
theorem Kf (a:Int)(b:Str):decide ((Sum.inl a:Key)=Sum.inr b)=false:=decide_eq_false (λq=>nomatch q)
theorem Kg (a:Str)(b:Int):decide ((Sum.inr a:Key)=Sum.inl b)=false:=decide_eq_false (λq=>nomatch q)
noncomputable def dS (prog:a5)(w:World):PySem.KeyKind prog w Key where
 is:=qL
 hash:=QB w
 inj:=λv a b ha hb=>by
  rcases eV ha with⟨i,t,rfl,rfl⟩ | ⟨x,t,rfl,rfl⟩
  .rcases eV hb with⟨j,u,rfl,e⟩ | ⟨y,u,rfl,e⟩
   .injection e with e1 _;rw[e1]
   .exact nomatch e
  .rcases eV hb with⟨j,u,rfl,e⟩ | ⟨y,u,rfl,e⟩
   .exact nomatch e
   .injection e with e1 _;rw[e1]
 byValue:=λk v h=>by
  rcases eV h with⟨i,t,rfl,rfl⟩ | ⟨x,t,rfl,rfl⟩<;>rfl
 pyHash:=λhv h=>by
  rcases eV hv with⟨i,t,rfl,rfl⟩ | ⟨x,t,rfl,rfl⟩
  .exact wpAny_pyHash_int h
  .exact wpAny_pyHash_str h
 eqBool:=λhu hv h=>by
  rcases eV hu with⟨i,t,rfl,rfl⟩ | ⟨x,t,rfl,rfl⟩
  .rcases eV hv with⟨j,u,rfl,rfl⟩ | ⟨y,u,rfl,rfl⟩
   .rw[Kd] at h;exact wpAny_eqBool_int h
   .rw[Kf] at h;exact SeqAt.EqAt.int_str i t y u _ _ _ _ h
  .rcases eV hv with⟨j,u,rfl,rfl⟩ | ⟨y,u,rfl,rfl⟩
   .rw[Kg] at h;exact SeqAt.EqAt.str_int x t j u _ _ _ _ h
   .rw[Ke] at h;exact wpAny_eqBool_str h
 «strs»:=λk x t v h=>by
  rcases eV h with⟨i,u,rfl,e⟩ | ⟨y,u,rfl,e⟩
  .exact nomatch e
  .injection e with e1 _
   subst e1;cases v<;>rfl
theorem wF (prog:a5)(w:World)(i:Int)(t:Tok):(dS prog w).is (.inl i) (.int i t)=true:=BO i t
theorem wG (prog:a5)(w:World)(x:Str)(t:Tok):(dS prog w).is (.inr x) (.str x t)=true:=BP x t
inductive V where
 | gJ | bl (b:Bool) | int (i:Int) | str (x:Str) | Ge (b:Array UInt8) | MY (b:UInt64) | ref (a:Addr) | ty (n:String)
 deriving DecidableEq
noncomputable def RelV:V->ag->Prop
 | .gJ,u=>u=ag.none
 | .bl b,u=>u=ag.bool b
 | .int i,u=>∃t,u=ag.int i t
 | .str x,u=>∃t,u=ag.str x t
 | .Ge b,u=>∃t,u=ag.bytes b t
 | .MY b,u=>∃t,u=ag.float b t
 | .ref a,u=>u=ag.ref a
 | .ty n,u=>u=ag.type n
noncomputable abbrev dQ:List V->List ag->Prop:=Paired RelV
theorem dQ.length (r:dQ xs us):xs.length=us.length:=Paired.length r
theorem dQ.get:∀{xs:List V} {us:List ag} {i:Nat} {x:V},dQ xs us->xs[i]? = some x->∃u,us[i]? = some u/\RelV x u
 | _,_,_,_,.nil,e=>by simp at e
 | _,_,0,_,.cons r _,e=>by simp at e;subst e;exact⟨_,rfl,r⟩
 | _,_,i+1,x,.cons _ t,e=>by
  obtain⟨u,h1,h2⟩:=dQ.get (i:=i) (x:=x) t (by simpa using e);exact⟨u,by simpa using h1,h2⟩
theorem dQ.set (r:RelV x u):∀{xs:List V} {us:List ag} (i:Nat),dQ xs us->dQ (xs.set i x) (us.set i u)
 | _,_,_,.nil=>.nil
 | _,_,0,.cons _ t=>.cons r t
 | _,_,i+1,.cons q t=>.cons q (dQ.set r i t)
theorem dQ.append:∀{xs ys:List V} {us ws:List ag},dQ xs us->dQ ys ws->dQ (xs++ys) (us++ws)
 | _,_,_,_,.nil,s=>s
 | _,_,_,_,.cons r t,s=>.cons r (dQ.append t s)
theorem dQ.take:∀{xs:List V} {us:List ag} (n:Nat),dQ xs us->dQ (xs.take n) (us.take n)
 | _,_,0,_=>.nil
 | _,_,_+1,.nil=>.nil
 | _,_,n+1,.cons r t=>.cons r (dQ.take n t)
theorem dQ.drop:∀{xs:List V} {us:List ag} (n:Nat),dQ xs us->dQ (xs.drop n) (us.drop n)
 | _,_,0,r=>r
 | _,_,_+1,.nil=>.nil
 | _,_,n+1,.cons _ t=>dQ.drop n t
noncomputable def nU:Option V->Option ag->Prop
 | some v,some u=>RelV v u
 | none,none=>True
 | _,_=>False
noncomputable def KV {κ:Type}:List (κ × V)->List (κ × ag)->Prop:=Paired λ(p:κ × V) (q:κ × ag)=>p.1=q.1/\RelV p.2 q.2
noncomputable def kV:Key->V
 | .inl i=>.int i
 | .inr x=>.str x
inductive HO where
 | lst (xs:List V)
 | tup (xs:List V)
 | dK (kvs:List (Key × V)) | dT (kvs:List (List Key × V))
 | set (S:Int->Bool) (n:Nat)
 | ins (C dx:Addr) (fs:List (Str × V))
 | own (x:Addr)
 | xd (fs:List (Str × V))
 | met (f x:Addr)
 | IS (lo hi:Int)
 | nj (o:Obj) (u:HO)
 | Kh (ps:Array ag)
 | ext (φ:Heap->Prop)
noncomputable abbrev Hp:=Addr->Option HO
noncomputable def d3 (H:Hp)(a:Addr)(o:HO):Hp:=λb=>if b=a then some o else H b
theorem dq:d3 H a o a=some o:=by unfold d3;rw[if_pos rfl]
theorem dC (h:b≠a):d3 H a o b=H b:=by unfold d3;rw[if_neg h]
theorem Ng {H:Hp}{a b:Addr}{o u:HO}(h:H a=some o)(h':H b=some u)(d:o≠u):a≠b:=by
 intro e;subst e;rw[h] at h';exact d (Option.some.inj h')
theorem eW {H:Hp}{a b:Addr}{o:HO}(h:H a=some o)(h':H b=none):a≠b:=by
 intro e;subst e;rw[h] at h';cases h'
section
variable (P:a5)(w:World)
noncomputable def s9 (h:Heap)(a:Addr)(items:Array ag):Prop:=∃o,h.get? a=some o/\o.cls=.type "tuple" /\ ∃n,o.data=.seq items n/\o.dict=none
omit P w in
theorem s9.tup (p:s9 h a items):IsTup h a items:=let ⟨o,e,c,n,d,_⟩:=p;⟨o,e,c,n,d⟩
omit P w in
theorem s9.new (h:Heap)(items:Array ag):s9 (h.push { cls:=.type "tuple",data:=.seq items }) h.objs.size items:=⟨_,ax _ rfl,rfl,_,rfl,rfl⟩
noncomputable def eX (H:Hp)(h:Heap)(a:Addr):HO->Prop
 | .lst xs=>xs.length<=aA/\∃(its:List ag) (n:Nat),dQ xs its/\h.get? a=some { cls:=.type "list",data:=.seq its.toArray n }
 | .tup xs=>xs.length<=aA/\∃its:List ag,dQ xs its/\s9 h a its.toArray
 | .dK kvs=>kvs.length<=aA/\(a == sysModules)=false/\∃vs,KV kvs vs/\h.DictOf (dS P w) a vs
 | .dT kvs=>kvs.length<=aA/\(a == sysModules)=false/\∃xs:List (List Key × Addr × ag),
   Paired (λ(p:List Key × V) (q:List Key × Addr × ag)=>p.1=q.1/\H q.2.1=some (.tup (p.1.map kV))/\RelV p.2 q.2.2) kvs xs /\
   ∃o es ep,h.get? a=some o/\o.ExactDict/\o.data=.dict es ep/\es.toList=xs.map (entryOfKey (tupleKind (dS P w)))/\(xs.map (·.1)).Nodup
 | .set S n=>h.SetOf (intKind P w) a S n
 | .ins C dx fs=>H dx=some (.own a)/\fs.length<=1000/\dx≠a/\h.get? a=some (W.instObj C dx) /\
   ∃mA,h.Ns1 dx mA/\(∀f,nU (fs.lookup f) (mA f))/\PySem.Within mA (fs.map (·.1))
 | .own _=>∃o,h.get? a=some o
 | .xd fs=>∃mA,h.Ns1 a mA/\∀f,nU (fs.lookup f) (mA f)
 | .IS lo hi=>∃t u v,h.get? a=some { cls:=.type "range",data:=.fields #[.int lo t,.int hi u,.int 1 v] }
 | .nj o u=>h.get? a=some o/\eX H h a u
 | .Kh ps=>h.get? a=some { cls:=.none,data:=.fields ps }
 | .met f x=>h.get? a=some (W.methodObj (.ref f) (.ref x))
 | .ext φ=>φ h/\(∃o,h.get? a=some o)/\∀h1 h2:Heap,φ h1->(∀o,h1.get? a=some o->h2.get? a=some o)->φ h2
noncomputable def lC (H:Hp)(h:Heap):Prop:=∀a o,H a=some o->eX P w H h a o
end
section
variable {P:a5}{w:World}{H H':Hp}{h h':Heap}{a:Addr}{o:HO}
theorem eX.lt (x:eX P w H h a o):a<h.objs.size:=by
 cases o with
 | lst xs=>obtain⟨_,_,_,_,e⟩:=x;exact aF e
 | tup xs=>obtain⟨_,_,_,p⟩:=x;exact p.tup.lt
 | dK kvs=>obtain⟨_,_,_,_,o,_,_,e,_⟩:=x;exact aF e
 | dT kvs=>obtain⟨_,_,_,_,o,_,_,e,_⟩:=x;exact aF e
 | set S n=>obtain⟨o,_,_,_,e,_⟩:=x;exact aF e
 | ins C dx fs=>obtain⟨_,_,_,e,_⟩:=x;exact aF e
 | own y=>obtain⟨_,e⟩:=x;exact aF e
 | xd fs=>obtain⟨_,⟨_,_,_,e,_⟩,_⟩:=x;exact aF e
 | IS lo hi=>obtain⟨_,_,_,e⟩:=x;exact aF e
 | nj ob u=>obtain⟨e,_⟩:=x;exact aF e
 | Kh ps=>exact aF (show h.get? a=some _ from x)
 | met f y=>exact aF (show h.get? a=some _ from x)
 | ext φ=>obtain⟨_,⟨_,e⟩,_⟩:=x;exact aF e
theorem Paired.Ki {α β:Type}{F G:α->β->Prop}:∀{l₁:List α} {l₂:List β},Paired F l₁ l₂->(∀a b,F a b->G a b)->Paired G l₁ l₂
 | _,_,.nil,_=>.nil
 | _,_,.cons r t,f=>.cons (f _ _ r) (Paired.Ki t f)
theorem eX.y' (x:eX P w H h a o)(k:∀b u,(b=a\/H b=some (.own a))->h.get? b=some u->h'.get? b=some u)
  (ho:∀b,H b=some (.own a)->H' b=some (.own a)) (ht:∀b xs,H b=some (.tup xs)->H' b=some (.tup xs)):eX P w H' h' a o:=by
 induction o with
 | lst xs=>obtain⟨z,its,n,r,e⟩:=x;exact⟨z,its,n,r,k _ _ (.inl rfl) e⟩
 | tup xs=>obtain⟨z,its,r,ob,e,c⟩:=x;exact⟨z,its,r,ob,k _ _ (.inl rfl) e,c⟩
 | dK kvs=>obtain⟨z,y,vs,r,ob,es,ep,e,c⟩:=x;exact⟨z,y,vs,r,ob,es,ep,k _ _ (.inl rfl) e,c⟩
 | dT kvs =>
  obtain⟨z,y,xs,r,ob,es,ep,e,c⟩:=x;exact⟨z,y,xs,Paired.Ki r λp q z=>⟨z.1,ht _ _ z.2.1,z.2.2⟩,ob,es,ep,k _ _ (.inl rfl) e,c⟩
 | set S n=>obtain⟨ob,es,ep,t,e,c⟩:=x;exact⟨ob,es,ep,t,k _ _ (.inl rfl) e,c⟩
 | ins C dx fs =>
  obtain⟨d,z,ne,e,mA,⟨od,es,ep,e2,c⟩,r⟩:=x;exact⟨ho _ d,z,ne,k _ _ (.inl rfl) e,mA,⟨od,es,ep,k _ _ (.inr d) e2,c⟩,r⟩
 | own y=>obtain⟨ob,e⟩:=x;exact⟨ob,k _ _ (.inl rfl) e⟩
 | xd fs=>obtain⟨mA,⟨od,es,ep,e,c⟩,r⟩:=x;exact⟨mA,⟨od,es,ep,k _ _ (.inl rfl) e,c⟩,r⟩
 | IS lo hi=>obtain⟨t,u,v,e⟩:=x;exact⟨t,u,v,k _ _ (.inl rfl) e⟩
 | nj ob u ih=>obtain⟨e,q⟩:=x;exact⟨k _ _ (.inl rfl) e,ih q⟩
 | Kh ps =>
  have e:h.get? a=some { cls:=.none,data:=.fields ps }:=x;show h'.get? a=some { cls:=.none,data:=.fields ps };exact k a _ (.inl rfl) e
 | met f y =>
  have e:h.get? a=some (W.methodObj (.ref f) (.ref y)):=x;show h'.get? a=some (W.methodObj (.ref f) (.ref y));exact k a _ (.inl rfl) e
 | ext φ=>obtain⟨p,⟨o,e⟩,st⟩:=x;exact⟨st _ _ p λo q=>k _ _ (.inl rfl) q,⟨o,k _ _ (.inl rfl) e⟩,st⟩
theorem lC.lt (x:lC P w H h)(e:H a=some o):a<h.objs.size:=(x a o e).lt
theorem lC.fresh (x:lC P w H h)(e:h.objs.size<=a):H a=none:=by
 cases q:H a with
 | none=>rfl
 | some u=>exact absurd (aL (x.lt q) e) (bA _)
theorem lC.kept (x:lC P w H h)(k:∀b u,h.get? b=some u->h'.get? b=some u):lC P w H h':=λa o e =>
 (x a o e).y' (λb u _ q=>k b u q) (λ_ q=>q) λ_ _ q=>q
theorem lC.laid (x:lC P w H h)(k:∀b u,h.get? b=some u->h'.get? b=some u)(hp:h.objs.size<=a)(new:eX P w (d3 H a o) h' a o):lC P w (d3 H a o) h':=λb u e=>by
 have hn:=x.fresh hp;by_cases hb:b=a
 .subst hb;rw[dq] at e;cases e;exact new
 .rw[dC hb] at e
  exact (x b u e).y' (λc v _ q=>k c v q) (λc q=>by rw[dC (eW q hn)];exact q) λc xs q=>by rw[dC (eW q hn)];exact q
end
noncomputable def Rd (H:Hp)(a:Addr)(u:HO):Prop:=H a=some u\/∃o,H a=some (.nj o u)
theorem Rd.ok (r:Rd H a u)(x:lC P w H h):eX P w H h a u:=by
 rcases r with r | ⟨o,r⟩
 .exact x a u r
 .obtain⟨_,q⟩:=x a _ r
  exact q
noncomputable def Nh:Option HO->Prop
 | some (.lst _)=>True
 | some (.dK _)=>True
 | some (.dT _)=>True
 | some (.set _ _)=>True
 | some (.ins _ _ _)=>True
 | some (.ext _)=>True
 | _=>False
section
theorem lC.write (ok:lC P w H h)(mu:Nh (H x))(he:e=x\/H e=some (.own x))(k:∀b u,b≠e->h.get? b=some u->h'.get? b=some u)(MZ:∃u,h'.get? e=some u)
  (new:eX P w (d3 H x o') h' x o'):lC P w (d3 H x o') h':=λb u q=>by
 have Ni:∀c y,H c=some (.own y)->c≠x:=λc y r z=>by subst z;rw[r] at mu;exact mu
 have QC:∀c xs,H c=some (.tup xs)->c≠x:=λc xs r z=>by subst z;rw[r] at mu;exact mu
 by_cases hb:b=x
 .subst hb;rw[dq] at q;cases q;exact new
 .rw[dC hb] at q
  by_cases Kj:b=e
  .have q':H b=some (.own x):=by
    rcases he with z | z
    .exact absurd (Kj.trans z) hb
    .rw[Kj];exact z
   rw[q] at q';cases q';obtain⟨v,hv⟩:=MZ;exact⟨v,by rw[Kj];exact hv⟩
  .refine (ok b u q).y' (λc v hc r=>k c v ?_ r) (λc r=>by rw[dC (Ni c b r)];exact r) λc xs r=>by rw[dC (QC c xs r)];exact r
   rcases hc with rfl | hc
   .exact Kj
   .rintro rfl
    rcases he with z | z
    .exact Ni c b hc z
    .rw[hc] at z;cases z;exact hb rfl
end
structure Un (fs ex:List Addr) (H H':Hp) (h h':Heap):Prop where
 keep:∀b o,h.get? b=some o->H b=none->b ∉ fs->b ∉ ex->h'.get? b=some o
 slot:∀b o,h.get? b=some o->H b=none->b∈fs->b ∉ ex->∃sl,h'.get? b=some { o with slots:=sl }
 free:∀b o,h.get? b=some o->H b=none->b ∉ ex->H' b=none
 there:∀b o,h.get? b=some o->b ∉ ex->∃o',h'.get? b=some o'
 wH:∀b xs,H b=some (.tup xs)->H' b=some (.tup xs)
 vn:∀b o u,H b=some (.nj o u)->H' b=some (.nj o u)
 wI:∀b ps,H b=some (.Kh ps)->∃more,H' b=some (.Kh (ps++more))
section
variable {fs Xn ex Xo:List Addr}{H H1 H2:Hp}{h h1 h2 h':Heap}{a x e:Addr}{o:HO}
theorem Un.any (u:Un fs ex H H1 h h1)(q:h.get? b=some ob)(n:H b=none)(hx:b ∉ ex):∃sl,h1.get? b=some { ob with slots:=sl }:=by
 by_cases hb:b∈fs
 .exact u.slot b ob q n hb hx
 .exact⟨ob.slots,u.keep b ob q n hb hx⟩
theorem Un.kept (k:∀b u,h.get? b=some u->h'.get? b=some u):Un fs ex H H h h' :=
 ⟨λb ob q _ _ _=>k b ob q,λb ob q _ _ _=>⟨ob.slots,k b ob q⟩,λ_ _ _ n _=>n,λb ob q _=>⟨ob,k b ob q⟩,λ_ _ q=>q,λ_ _ _ q=>q,λ_ ps q=>⟨#[],by rw[q];simp⟩⟩
theorem Un.refl:Un fs ex H H h h:=Un.kept λ_ _ q=>q
theorem Un.laid (k:∀b u,h.get? b=some u->h'.get? b=some u)(hp:h.objs.size<=a)(hn:H a=none):Un fs ex H (d3 H a o) h h' where
 keep:=λb u q _ _ _=>k b u q
 slot:=λb u q _ _ _=>⟨u.slots,k b u q⟩
 free:=λb u q n _=>by rw[dC (aT (aL (aF q) hp))];exact n
 there:=λb u q _=>⟨u,k b u q⟩
 wH:=λb xs q=>by rw[dC (eW q hn)];exact q
 vn:=λb u xs q=>by rw[dC (eW q hn)];exact q
 wI:=λb ps q=>⟨#[],by rw[dC (eW q hn),q];simp⟩
theorem Un.write (mu:Nh (H x))(he:e=x\/H e=some (.own x))(k:∀b u,b≠e->h.get? b=some u->h'.get? b=some u)(MZ:∃u,h'.get? e=some u):Un fs ex H (d3 H x o) h h':=by
 have hx:∀b,H b=none->b≠x:=λb n z=>by subst z;rw[n] at mu;exact mu
 have hb:∀b,H b=none->b≠e:=λb n z=>by
  subst z;rcases he with r | r
  .exact hx b n r
  .rw[n] at r;cases r
 have hm:∀b u,H b=some u->¬ Nh (some u)->b≠x:=λb u q nm z=>by subst z;rw[q] at mu;exact nm mu
 refine⟨λb u q n _ _=>k b u (hb b n) q,λb u q n _ _=>⟨u.slots,k b u (hb b n) q⟩,λb u q n _=>by rw[dC (hx b n)];exact n,λb u q _=>?_,
  λb xs q=>by rw[dC (hm b _ q λz=>z)];exact q,λb u xs q=>by rw[dC (hm b _ q λz=>z)];exact q,λb ps q=>⟨#[],by rw[dC (hm b _ q λz=>z),q];simp⟩⟩
 by_cases Kj:b=e
 .subst Kj;exact MZ
 .exact⟨u,k b u Kj q⟩
end
noncomputable def P7 (h:Heap)(H:Hp):List Addr:=(List.range h.objs.size).filter λa=>(H a).isSome
noncomputable def vo (h:Heap)(H:Hp):Heap:=W.hideAll h (P7 h H)
theorem BQ (h:Heap)(H:Hp):(vo h H).objs.size=h.objs.size:=W.hideAll_size _ _
theorem Dj (e:h.get? b=some o)(n:H b=none):(vo h H).get? b=some o :=
 W.hideAll_get _ e λhm=>by
  have q:(H b).isSome=true:=(aP.mp hm).2;rw[n] at q;simp at q
theorem Gf (e:(vo h H).get? b=some o):h.get? b=some o/\H b=none:=by
 have e':h.get? b=some o:=W.of_hideAll (P7 h H) e;refine⟨e',?_⟩
 cases q:H b with
 | none=>rfl
 | some x =>
  have hm:b∈P7 h H:=aP.mpr ⟨cN.mpr (aF e'),by simp[q]⟩;have z:(vo h H).get? b=none:=W.hideAll_none (P7 h H) hm;rw[z] at e;cases e
noncomputable def Gg (g h:Heap)(L:Addr):List (Addr × Obj):=(List.range h.objs.size).filterMap λa=>if a=L\/(g.get? a).isSome=true then none else (h.get? a).map λo=>(a,o)
noncomputable def rest (g h:Heap)(L d:Addr):List (Addr × Obj):=(Gg g h L).filter λp=>decide (p.1≠d)
structure Mod (K:W.Frag) (mg:Str->Option ag) (base:Heap):Prop where
 QD:K.In base
 glob:base.Ns be mg
 blt:∃mb,base.Ns builtinsNs mb/\∀x:Str,x ≠ "__name__" -> mb x=bootBuiltins x
 nolimit:base.NoLimit
structure Cx where
 prog:a5
 w:World
 K:W.Frag
 mg:Str->Option ag
 base:Heap
 A:Around
 N:List Str
 s₀:aw
 H₀:Hp
 env:Env
 outer:List Env
 stack:List Env
 ex:List Addr
 fn:Str->Bool
 calm:Bool
 pn:List (Addr × Obj)
 xe:ag->aw->Prop
noncomputable def za (l:List Env):List Addr:=l.filterMap (·.frame)
noncomputable abbrev Cx.fs (X:Cx):List Addr:=za X.outer
noncomputable def tf (sc:Scope)(x:Str):Prop:=sc.names.lookup x=some .local\/sc.names.lookup x=some .cell\/sc.names.lookup x=some .free
noncomputable def Loc (sc:Scope)(x:Str):Prop:=sc.names.lookup x=some .local\/sc.names.lookup x=some .cell
noncomputable def Look (env:Env)(h:Heap)(m:Str->Option ag)(x:Str)(u:ag):Prop :=
 (env.kindOf x=some .local/\m x=some u)\/((env.kindOf x=some .cell\/env.kindOf x=some .free)/\∃c,env.cells.lookup x=some c/\h.IsCell c (some u))
structure Cx.Ok (X:Cx):Prop where
 mod:Mod X.K X.mg X.base
 kind:X.env.scope.kind=.function
 glob:X.env.globals=be
 blt:X.env.builtins=builtinsNs
 above:X.s₀.heap.objs.size<=X.env.locals
 inj:∀x y c,X.env.cells.lookup x=some c->X.env.cells.lookup y=some c->x=y
 has:∀x,(X.env.kindOf x=some .cell\/X.env.kindOf x=some .free)->∃c,X.env.cells.lookup x=some c
 Nj:∀x c,X.fn x=true->X.env.cells.lookup x=some c->X.s₀.heap.objs.size<=c
 hd:X.calm=true->X.A.handled=none
 frames:X.A.frames=some X.stack
 P8:X.stack=X.outer\/(X.stack=X.env::X.outer/\X.env.frame=some X.env.locals)
 Tc:∀b∈X.ex,b≠X.env.locals/\∀x c,X.env.cells.lookup x=some c->c≠b
 bs:∀b o,X.base.get? b=some o->X.s₀.heap.get? b=some o/\X.H₀ b=none
 Kk:X.base.objs.size<=X.s₀.heap.objs.size
 Dk:∀b o,X.base.get? b=some o->b ∉ X.ex
 Gh:∀b∈X.ex,b ∉ X.fs
 qM:X.s₀.heap.FunFrames X.base X.outer
 M0:∀b∈X.fs,X.H₀ b=none
structure Inv (X:Cx) (pins:List (Addr × Obj)) (σ:List (Option V)) (H:Hp) (s:aw):Prop where
 ok:X.Ok
 os:s.os=X.s₀.os
 bare:AllBare s.gens
 base:Un X.fs X.ex X.H₀ H X.s₀.heap s.heap
 loc:∃m,s.heap.Ns X.env.locals m/\∀(i:Nat) (x:Str) (v:V),X.N[i]? = some x->σ[i]? = some (some v)->tf X.env.scope x->∃u,RelV v u/\Look X.env s.heap m x u
 cell:∀x c,X.env.cells.lookup x=some c->∃v,s.heap.IsCell c v
 free:H X.env.locals=none
 freeC:∀x c,X.env.cells.lookup x=some c->H c=none
 pin:∀p∈X.pn++pins,s.heap.get? p.1=some p.2/\H p.1=none/\p.1≠X.env.locals/\p.1 ∉ X.fs/\∀v,p.2.data≠.cell v
 hok:lC X.prog X.w H s.heap
 len:σ.length=X.N.length
section
variable {X:Cx}{pins:List (Addr × Obj)}{σ:List (Option V)}{H H':Hp}{s:aw}{h':Heap}
theorem Cx.Ok.QF (ok:X.Ok){b:Addr}{o:Obj}(e:X.base.get? b=some o):b ∉ X.fs:=λhb=>by
 have:=(ok.qM.mem hb).1;rw[e] at this;cases this
theorem Inv.bs (I:Inv X pins σ H s):∀b o,X.base.get? b=some o->s.heap.get? b=some o/\H b=none:=λb o e =>
 ⟨I.base.keep b o (I.ok.bs b o e).1 (I.ok.bs b o e).2 (I.ok.QF e) (I.ok.Dk b o e),I.base.free b o (I.ok.bs b o e).1 (I.ok.bs b o e).2 (I.ok.Dk b o e)⟩
theorem Inv.bk (I:Inv X pins σ H s):∀b o,X.base.get? b=some o->s.heap.get? b=some o:=λb o e=>(I.bs b o e).1
theorem Inv.mod (I:Inv X pins σ H s):Mod X.K X.mg X.base:=I.ok.mod
theorem Inv.wJ (I:Inv X pins σ H s):X.K.In s.heap:=I.ok.mod.QD.keeps I.bk
theorem Inv.lt (I:Inv X pins σ H s):X.env.locals<s.heap.objs.size:=let ⟨_,hn,_⟩:=I.loc;hn.lt
theorem Inv.sz (I:Inv X pins σ H s):X.s₀.heap.objs.size<=s.heap.objs.size:=bj I.ok.above (c5 I.lt)
theorem Inv.Nk (I:Inv X pins σ H s)(h:s.heap.objs.size<=a):a ∉ X.fs:=λhb=>by
 obtain⟨_,o,ho,_⟩:=I.ok.qM.mem hb;exact absurd (aL (aF ho) (bj I.sz h)) (bA _)
theorem Inv.Kl (I:Inv X pins σ H s):∀x c,X.env.cells.lookup x=some c->c≠X.env.locals:=λx c e z=>by
 obtain⟨v,o,ho,hd⟩:=I.cell x c e;obtain⟨m,⟨o',es,ep,Km,QH,_⟩,_⟩:=I.loc;rw[z,Km] at ho;cases ho;rw[QH] at hd;cases hd
theorem Inv.qM (I:Inv X pins σ H s):s.heap.FunFrames X.base X.outer:=by
 have all:∀(l:List Env),(∀b∈za l,b∈X.fs)->X.s₀.heap.FunFrames X.base l->s.heap.FunFrames X.base l:=by
  intro l
  induction l with
  | nil=>intro _ _;trivial
  | cons env r ih =>
   intro hs hl;obtain⟨hk,⟨L,o,hf,hn,ho,hd⟩,hr⟩:=hl;have hL:L∈X.fs:=hs L (by unfold za;rw[cf,hf];exact aq);obtain⟨sl,e⟩:=I.base.slot L o ho (I.ok.M0 L hL) hL λz=>I.ok.Gh L z hL;exact⟨hk,⟨L,_,hf,hn,e,hd⟩,ih (λb hb=>hs b (by unfold za;rw[cf,hf];exact ai _ hb)) hr⟩
 exact all X.outer (λ_ hb=>hb) I.ok.qM
theorem Inv.stack (I:Inv X pins σ H s):s.heap.FunFrames X.base X.stack:=by
 rcases I.ok.P8 with e | ⟨e,hf⟩
 .rw[e];exact I.qM
 .rw[e]
  obtain⟨m,hn,_⟩:=I.loc;refine .cons (by rw[I.ok.kind];decide) hf hn ?_ I.qM;exact Heap.get?_none_of_le (bj I.ok.Kk I.ok.above)
theorem Inv.qN (I:Inv X pins σ H s):∀b∈za X.stack,b∈X.env.locals::X.fs:=λb hb=>by
 rcases I.ok.P8 with e | ⟨e,hf⟩
 .rw[e] at hb;exact ai _ hb
 .rw[e] at hb
  unfold za at hb;rw[cf,hf] at hb;exact hb
theorem Inv.AH (I:Inv X pins σ H s):∀b∈za X.stack,H b=none:=λb hb=>by
 rcases au.mp (I.qN b hb) with e | hb
 .rw[e];exact I.free
 .obtain⟨_,o,ho,_⟩:=I.ok.qM.mem hb
  exact I.base.free b o ho (I.ok.M0 b hb) λz=>I.ok.Gh b z hb
theorem Inv.step {g':Array GenState}{t':Nat}{d':Drawn}{ch:List Addr}(I:Inv X pins σ H s)
  (FX:∀b∈ch,(b∈X.ex\/X.s₀.heap.objs.size<=b)/\b≠X.env.locals/\(∀x c,X.env.cells.lookup x=some c->c≠b)/\∀p∈X.pn++pins,p.1≠b)
  (keep:∀b o,b≠X.env.locals->b ∉ X.fs->b ∉ ch->s.heap.get? b=some o->H b=none->h'.get? b=some o)
  (slot:∀b o,b≠X.env.locals->b∈X.fs->b ∉ ch->s.heap.get? b=some o->H b=none->∃sl,h'.get? b=some { o with slots:=sl }) (free:∀b o,b ∉ ch->s.heap.get? b=some o->H b=none->H' b=none)
  (there:∀b o,b ∉ ch->s.heap.get? b=some o->∃o',h'.get? b=some o')
  (wH:∀b xs,H b=some (.tup xs)->H' b=some (.tup xs)) (vn:∀b o u,H b=some (.nj o u)->H' b=some (.nj o u)) (wI:∀b ps,H b=some (.Kh ps)->∃more,H' b=some (.Kh (ps++more)))
  (ns:∀m,s.heap.Ns X.env.locals m->h'.Ns X.env.locals m) (hok:lC X.prog X.w H' h') (hg:AllBare g') :
  Inv X pins σ H' { s with heap:=h',gens:=g',drawn:=d',toks:=t' }:=by
 have Td:∀b o,X.s₀.heap.get? b=some o->b≠X.env.locals:=λb o e=>aT (aL (aF e) I.ok.above)
 have P9:∀b o,X.s₀.heap.get? b=some o->b ∉ X.ex->b ∉ ch:=λb o e hx hb=>by
  rcases (FX b hb).1 with z | z
  .exact hx z
  .exact absurd (aL (aF e) z) (bA _)
 have IU:∀x c,X.env.cells.lookup x=some c->∀v,s.heap.IsCell c v->h'.IsCell c v:=λx c e v ⟨o,ho,hd⟩=>by
  have Nl:c ∉ ch:=λz=>(FX c z).2.2.1 x c e rfl;by_cases hc:c∈X.fs
  .obtain⟨sl,q⟩:=slot c o (I.Kl x c e) hc Nl ho (I.freeC x c e)
   exact⟨_,q,hd⟩
  .exact⟨o,keep c o (I.Kl x c e) hc Nl ho (I.freeC x c e),hd⟩
 refine⟨I.ok,I.os,hg,⟨λb o e n hb hx=>?_,λb o e n hb hx=>?_,λb o e n hx=>?_,λb o e hx=>?_,λb xs e=>wH b xs (I.base.wH b xs e),λb o xs e=>vn b o xs (I.base.vn b o xs e),λb ps e=>?_⟩,?_,λx c e=>?_,?_,λx c e=>?_,λp hp=>?_,hok,I.len⟩
 .exact keep b o (Td b o e) hb (P9 b o e hx) (I.base.keep b o e n hb hx) (I.base.free b o e n hx)
 .obtain⟨sl,e1⟩:=I.base.slot b o e n hb hx
  obtain⟨UM,e2⟩:=slot b _ (Td b o e) hb (P9 b o e hx) e1 (I.base.free b o e n hx);exact⟨UM,e2⟩
 .obtain⟨o',e1⟩:=I.base.there b o e hx
  exact free b o' (P9 b o e hx) e1 (I.base.free b o e n hx)
 .obtain⟨o',e1⟩:=I.base.there b o e hx
  exact there b o' (P9 b o e hx) e1
 .obtain⟨m1,e1⟩:=I.base.wI b ps e
  obtain⟨m2,e2⟩:=wI b _ e1;exact⟨m1++m2,by rw[e2,Array.append_assoc]⟩
 .obtain⟨m,hn,hl⟩:=I.loc
  refine⟨m,ns m hn,λi x v e1 e2 e3=>?_⟩;obtain⟨u,r,l⟩:=hl i x v e1 e2 e3;refine⟨u,r,?_⟩;rcases l with l | ⟨k,c,e,z⟩
  .exact .inl l
  .exact .inr ⟨k,c,e,IU x c e _ z⟩
 .obtain⟨v,z⟩:=I.cell x c e
  exact⟨v,IU x c e v z⟩
 .obtain⟨m,⟨o,_,_,ho,_⟩,_⟩:=I.loc
  exact free _ o (λz=>(FX _ z).2.1 rfl) ho I.free
 .obtain⟨v,o,ho,hd⟩:=I.cell x c e
  exact free c o (λz=>(FX c z).2.2.1 x c e rfl) ho (I.freeC x c e)
 .obtain⟨e,n,ne,nf,d⟩:=I.pin p hp
  have Nl:p.1 ∉ ch:=λz=>(FX p.1 z).2.2.2 p hp rfl;exact⟨keep p.1 p.2 ne nf Nl e n,free p.1 p.2 Nl e n,ne,nf,d⟩
theorem Inv.un {t':Nat}(I:Inv X pins σ H s)(u:Un X.fs [] H H' s.heap h')(hok:lC X.prog X.w H' h'):Inv X pins σ H' { s with heap:=h',toks:=t' }:=by
 obtain⟨m,⟨o,es,ep,ho,r⟩,_⟩:=id I.loc;obtain⟨sl,hL⟩:=u.any ho I.free (!4)
 exact I.step (g':=s.gens) (d':=s.drawn) (ch:=[]) (λ_ z=>nomatch z) (λb o _ hb _ e n=>u.keep b o e n hb (!4)) (λb o _ hb _ e n=>u.slot b o e n hb (!4)) (λb o _ e n=>u.free b o e n (!4)) (λb o _ e=>u.there b o e (!4)) u.wH u.vn u.wI (λm' hm=>by
  obtain⟨o',g8,Kn,Km,r'⟩:=hm;rw[ho] at Km;cases Km;exact⟨_,g8,Kn,hL,r'⟩) hok I.bare
theorem Inv.call {g':Array GenState}{t':Nat}{d':Drawn}{ch:List Addr}(I:Inv X pins σ H s)(u:Un (za X.stack) ch H H' s.heap h')(hok:lC X.prog X.w H' h')(hg:AllBare g')
  (FX:∀b∈ch,(b∈X.ex\/X.s₀.heap.objs.size<=b)/\b≠X.env.locals/\(∀x c,X.env.cells.lookup x=some c->c≠b)/\∀p∈X.pn++pins,p.1≠b) :
  Inv X pins σ H' { s with heap:=h',gens:=g',drawn:=d',toks:=t' }:=by
 obtain⟨m,⟨o,es,ep,ho,r⟩,_⟩:=id I.loc;obtain⟨sl,hL⟩:=u.any ho I.free λz=>(FX _ z).2.1 rfl
 exact I.step (ch:=ch) FX (λb o hL hb hc e n=>u.keep b o e n (λz=>(au.mp (I.qN b z)).elim hL hb) hc) (λb o _ _ hc e n=>u.any e n hc) (λb o hc e n=>u.free b o e n hc) (λb o hc e=>u.there b o e hc) u.wH u.vn u.wI (λm' hm=>by
  obtain⟨o',g8,Kn,Km,r'⟩:=hm;rw[ho] at Km;cases Km;exact⟨_,g8,Kn,hL,r'⟩) hok hg
theorem Inv.turned {t':Nat}{it:Addr}(I:Inv X pins σ H s)(k:∀b o,b≠it->s.heap.get? b=some o->h'.get? b=some o)(hn:H it=none)(hL:it≠X.env.locals)
  (h1:it∈X.ex\/X.s₀.heap.objs.size<=it) (h2:∀x c,X.env.cells.lookup x=some c->c≠it) (h3:∀p∈X.pn++pins,p.1≠it):Inv X pins σ H { s with heap:=h',toks:=t' }:=by
 have IV:∀b u,H b=some u->b≠it:=λb u e z=>by rw[z,hn] at e;cases e
 refine I.step (g':=s.gens) (d':=s.drawn) (ch:=[it]) (λb hb=>?_) (λb o _ _ hc e _=>k b o (λz=>hc (by simp[z])) e) (λb o _ _ hc e _=>⟨o.slots,k b o (λz=>hc (by simp[z])) e⟩) (λ_ _ _ _ n=>n)
  (λb o hc e=>⟨o,k b o (λz=>hc (by simp[z])) e⟩) (λ_ _ e=>e) (λ_ _ _ e=>e) (λb ps e=>⟨#[],by rw[e];simp⟩) (λm hm=>?_) (λb u e=>?_) I.bare
 .have e:b=it:=by simpa using hb
  subst e;exact⟨h1,hL,h2,h3⟩
 .obtain⟨o,es,ep,ho,r⟩:=hm
  exact⟨o,es,ep,k _ o (Ne.symm hL) ho,r⟩
 .refine (I.hok b u e).y' (λc v hc q=>k c v ?_ q) (λ_ q=>q) λ_ _ q=>q
  rcases hc with z | z
  .rw[z];exact IV b u e
  .exact IV c _ z
theorem Inv.tok (I:Inv X pins σ H s)(t:Nat):Inv X pins σ H { s with toks:=t }:=I.un (h':=s.heap) (t':=t) Un.refl I.hok
theorem Inv.kept {t':Nat}(I:Inv X pins σ H s)(k:∀b u,s.heap.get? b=some u->h'.get? b=some u):Inv X pins σ H { s with heap:=h',toks:=t' }:=I.un (Un.kept k) (I.hok.kept k)
theorem Inv.laid {a:Addr}{o:HO}{t':Nat}(I:Inv X pins σ H s)(k:∀b u,s.heap.get? b=some u->h'.get? b=some u)(hp:s.heap.objs.size<=a)(new:eX X.prog X.w (d3 H a o) h' a o) :
  Inv X pins σ (d3 H a o) { s with heap:=h',toks:=t' }:=I.un (Un.laid k hp (I.hok.fresh hp)) (I.hok.laid k hp new)
theorem Inv.write {x e:Addr}{o:HO}{t':Nat}(I:Inv X pins σ H s)(mu:Nh (H x))(he:e=x\/H e=some (.own x))(k:∀b u,b≠e->s.heap.get? b=some u->h'.get? b=some u)(MZ:∃u,h'.get? e=some u)
  (new:eX X.prog X.w (d3 H x o) h' x o):Inv X pins σ (d3 H x o) { s with heap:=h',toks:=t' }:=I.un (Un.write mu he k MZ) (I.hok.write mu he k MZ new)
theorem Inv.qp (I:Inv X pins σ H s)(h:∀p∈Nm,s.heap.get? p.1=some p.2/\H p.1=none/\p.1≠X.env.locals/\p.1 ∉ X.fs/\∀v,p.2.data≠.cell v):Inv X Nm σ H s :=
 ⟨I.ok,I.os,I.bare,I.base,I.loc,I.cell,I.free,I.freeC,λp hp=>(aY.mp hp).elim (λz=>I.pin p (bn _ z)) (h p),I.hok,I.len⟩
theorem wK {N:List Str}(hN:N.Nodup){i j:Nat}{x:Str}(a:N[i]? = some x)(b:N[j]? = some x):i=j:=by
 obtain⟨h1,e1⟩:=aD.mp a;obtain⟨h2,e2⟩:=aD.mp b;exact (List.getElem_inj hN).mp (e1.trans e2.symm)
theorem BR {M:Model}{A:Around}{E:ag->aw->Prop}{i:Nat}{x:Str}{v:V}{u:ag}{Q:Unit->aw->Prop}(I:Inv X pins σ H s)(hN:X.N.Nodup)(hi:X.N[i]? = some x)(hx:Loc X.env.scope x)(r:RelV v u)
  (h:∀s',Inv X pins (σ.set i (some v)) H s'->(∃a,Heap.SameBut a s.heap s'.heap/\(a=X.env.locals\/X.env.cells.lookup x=some a))->Q () s') (hf:X.fn x=true\/X.env.scope.names.lookup x=some .local:=by (first | exact .inl rfl | exact .inr rfl | assumption)):aE M A (storeName X.env x u) Q E s:=by
 obtain⟨m,hn,hl⟩:=id I.loc;have QJ:(X.env.scope.kind == .class || (X.env.scope.kind == .module && X.env.locals != X.env.globals))=false:=by rw[I.ok.kind];rfl
 have Nn:i<σ.length:=by rw[I.len];exact (aD.mp hi).1
 have Kl:=I.Kl
 have AI:∀{a:Addr} {h':Heap},(∃o,s.heap.get? a=some o/\H a=none)->Heap.SameBut a s.heap h'->lC X.prog X.w H h':=λ{a h'} ha hs b ob e=>by
  obtain⟨_,_,IW⟩:=ha;refine (I.hok b ob e).y' (λc w' hc q=>(hs.2 c ?_).trans q) (λ_ q=>q) λ_ _ q=>q;rintro rfl;rcases hc with rfl | hc
  .rw[IW] at e;cases e
  .rw[IW] at hc;cases hc
 rcases hx with hk | hk
 .refine wpAny_storeName_local hk hn (λh' UN hs=>?_) QJ
  obtain⟨oL,_,_,Gi,_⟩:=id hn;refine h _ ⟨I.ok,I.os,I.bare,⟨λb o e n hb hx=>?_,λb o e n hb hx=>?_,I.base.free,λb o e hx=>?_,I.base.wH,I.base.vn,I.base.wI⟩,⟨_,UN,λj y v' e1 e2 e3=>?_⟩,λy c e=>?_,I.free,I.freeC,λp hp=>?_,AI ⟨oL,Gi,I.free⟩ hs,by simpa using I.len⟩ ⟨_,hs,.inl rfl⟩
  .exact (hs.2 b (aT (aL (aF e) I.ok.above))).trans (I.base.keep b o e n hb hx)
  .obtain⟨sl,e1⟩:=I.base.slot b o e n hb hx
   exact⟨sl,(hs.2 b (aT (aL (aF e) I.ok.above))).trans e1⟩
  .obtain⟨o',e1⟩:=I.base.there b o e hx
   exact⟨o',(hs.2 b (aT (aL (aF e) I.ok.above))).trans e1⟩
  .by_cases hj:j=i
   .subst hj
    rw[hi] at e1;cases e1;rw[cA Nn] at e2;cases e2;exact⟨u,r,.inl ⟨hk,!4⟩⟩
   .rw[aN (Ne.symm hj)] at e2
    obtain⟨u',r',q⟩:=hl j y v' e1 e2 e3;refine⟨u',r',?_⟩;rcases q with⟨k,e⟩ | ⟨k,c,e,z⟩
    .refine .inl ⟨k,?_⟩
     have:y≠x:=λe=>hj (wK hN e1 (e ▸ hi));simp[this,e]
    .exact .inr ⟨k,c,e,z.sameBut hs (Kl y c e)⟩
  .obtain⟨w',z⟩:=I.cell y c e
   exact⟨w',z.sameBut hs (Kl y c e)⟩
  .obtain⟨e,n,ne,nf,d⟩:=I.pin p hp
   exact⟨(hs.2 p.1 ne).trans e,n,ne,nf,d⟩
 .have QL:X.fn x=true:=by
   rcases hf with z | z
   .exact z
   .rw[z] at hk;cases hk
  obtain⟨c,hc⟩:=I.ok.has x (.inl hk);obtain⟨w',z⟩:=I.cell x c hc;refine wpAny_storeName_cell I.ok.kind hk hc z (λh' wL hs=>?_);obtain⟨oc,Te,QM⟩:=id z;refine h { s with heap:=h' } ⟨I.ok,I.os,I.bare,⟨λb o e n hb hx=>?_,λb o e n hb hx=>?_,I.base.free,λb o e hx=>?_,I.base.wH,I.base.vn,I.base.wI⟩,⟨m,hn.sameBut hs (Ne.symm (Kl x c hc)),λj y v' e1 e2 e3=>?_⟩,λy c' e=>?_,I.free,I.freeC,λp hp=>?_,AI ⟨oc,Te,I.freeC x c hc⟩ hs,by simpa using I.len⟩ ⟨c,hs,.inr hc⟩
  .exact (hs.2 b (aT (aL (aF e) (I.ok.Nj x c QL hc)))).trans (I.base.keep b o e n hb hx)
  .obtain⟨sl,e1⟩:=I.base.slot b o e n hb hx
   exact⟨sl,(hs.2 b (aT (aL (aF e) (I.ok.Nj x c QL hc)))).trans e1⟩
  .obtain⟨o',e1⟩:=I.base.there b o e hx
   exact⟨o',(hs.2 b (aT (aL (aF e) (I.ok.Nj x c QL hc)))).trans e1⟩
  .by_cases hj:j=i
   .subst hj
    rw[hi] at e1;cases e1;rw[cA Nn] at e2;cases e2;exact⟨u,r,.inr ⟨.inl hk,c,hc,wL⟩⟩
   .rw[aN (Ne.symm hj)] at e2
    obtain⟨u',r',q⟩:=hl j y v' e1 e2 e3;refine⟨u',r',?_⟩;rcases q with q | ⟨k,c',e,z'⟩
    .exact .inl q
    .refine .inr ⟨k,c',e,z'.sameBut hs ?_⟩
     rintro rfl;exact hj (wK hN e1 (I.ok.inj _ _ _ e hc ▸ hi))
  .by_cases Np:c'=c
   .subst Np;exact⟨_,wL⟩
   .obtain⟨w2,z2⟩:=I.cell y c' e
    exact⟨w2,z2.sameBut hs Np⟩
  .obtain⟨e,n,ne,nf,d⟩:=I.pin p hp
   refine⟨(hs.2 p.1 ?_).trans e,n,ne,nf,d⟩;intro q;rw[q,Te] at e;have q':oc=p.2:=Option.some.inj e;exact d w' (by rw[<- q'];exact QM)
theorem wM (I:Inv X pins σ H s)(hN:X.N.Nodup)(hi:X.N[i]? = some x)(hx:Loc X.env.scope x)(r:RelV v u)
  (h:∀s',Inv X pins (σ.set i (some v)) H s'->Q () s') (hf:X.fn x=true\/X.env.scope.names.lookup x=some .local:=by (first | exact .inl rfl | exact .inr rfl | assumption)):aE M A (storeName X.env x u) Q E s :=
 BR I hN hi hx r (λs' I' _=>h s' I') hf
theorem Inv.Nq {s':aw}{ch:List Addr}(I:Inv X pins σ H s)(ho:s'.os=s.os)(u:Un (za X.stack) ch H H' s.heap s'.heap)(hok:lC X.prog X.w H' s'.heap)(hg:AllBare s'.gens)
  (FX:∀b∈ch,(b∈X.ex\/X.s₀.heap.objs.size<=b)/\b≠X.env.locals/\(∀x c,X.env.cells.lookup x=some c->c≠b)/\∀p∈X.pn++pins,p.1≠b):Inv X pins σ H' s':=by
 obtain⟨h',g',d',t',o'⟩:=s';have e:o'=s.os:=ho;subst e;exact I.call (g':=g') (t':=t') (d':=d') u hok hg FX
end
noncomputable abbrev XK:=ag->Option Addr->Hp->Prop
noncomputable abbrev St:=List (Option V)
noncomputable abbrev VK:=V->Hp->Prop
noncomputable abbrev TE:=St->Hp->VK->Prop
noncomputable abbrev TT:=St->Hp->(Bool->Hp->Prop)->Prop
noncomputable abbrev TA:=St->Hp->(List V->Hp->Prop)->Prop
structure Ends where
 nx:St->Hp->Prop
 rt:VK
 bk:St->Hp->Prop:=λ_ _=>False
 ct:St->Hp->Prop:=λ_ _=>False
noncomputable abbrev TS:=Ends->St->Hp->Prop
noncomputable def EP (X:Cx)(pins:List (Addr × Obj))(σ:St)(Q:VK)(u:ag)(s':aw):Prop:=∃v H',Inv X pins σ H' s'/\RelV v u/\Q v H'
noncomputable def TP (X:Cx)(pins:List (Addr × Obj))(σ:St)(Q:Bool->Hp->Prop)(b:Bool)(s':aw):Prop:=∃H',Inv X pins σ H' s'/\Q b H'
noncomputable def AP (X:Cx)(pins:List (Addr × Obj))(σ:St)(Q:List V->Hp->Prop)(us:List ag)(s':aw):Prop:=∃vs H',Inv X pins σ H' s'/\dQ vs us/\Q vs H'
noncomputable def SP (X:Cx)(pins:List (Addr × Obj))(D:Ends)(f:Flow)(s':aw):Prop :=
 match f with
 | .next=>∃σ' H',Inv X pins σ' H' s'/\D.nx σ' H'
 | .brk=>∃σ' H',Inv X pins σ' H' s'/\D.bk σ' H'
 | .cont=>∃σ' H',Inv X pins σ' H' s'/\D.ct σ' H'
 | .ret u=>∃v σ' H',Inv X pins σ' H' s'/\RelV v u/\D.rt v H'
noncomputable def PE (X:Cx)(e:Expr)(t:TE):Prop :=
 ∀(pins:List (Addr × Obj)) (s:aw) (σ:St) (H:Hp) (Q:VK),Inv X pins σ H s->t σ H Q->aE (model X.prog X.w) X.A (eval e X.env) (EP X pins σ Q) X.xe s
noncomputable def PT (X:Cx)(e:Expr)(t:TT):Prop :=
 ∀(pins:List (Addr × Obj)) (s:aw) (σ:St) (H:Hp) (Q:Bool->Hp->Prop),Inv X pins σ H s->t σ H Q->aE (model X.prog X.w) X.A (isTrue e X.env (eval e X.env)) (TP X pins σ Q) X.xe s
noncomputable def PW (X:Cx)(e:Expr)(t:TT):Prop :=
 ∀(m7:Sem ag) (pins:List (Addr × Obj)) (s:aw) (σ:St) (H:Hp) (Q:Bool->Hp->Prop),Inv X pins σ H s->t σ H Q->aE (model X.prog X.w) X.A (isTrue e X.env m7) (TP X pins σ Q) X.xe s
theorem PW.pt (h:PW X e t):PT X e t:=h _
noncomputable def PA (X:Cx)(es:List Expr)(t:TA):Prop :=
 ∀(pos:Pos) (pins:List (Addr × Obj)) (s:aw) (σ:St) (H:Hp) (Q:List V->Hp->Prop),Inv X pins σ H s->t σ H Q->aE (model X.prog X.w) X.A (spliced (backTo pos (starEach es X.env))) (AP X pins σ Q) X.xe s
noncomputable def PS (X:Cx)(st:Stmt)(t:TS):Prop :=
 ∀(pins:List (Addr × Obj)) (s:aw) (σ:St) (H:Hp) (D:Ends),Inv X pins σ H s->t D σ H->aE (model X.prog X.w) X.A (exec st X.env) (SP X pins D) X.xe s
noncomputable def yW (X:Cx)(st:List Stmt)(t:TS):Prop :=
 ∀(pins:List (Addr × Obj)) (s:aw) (σ:St) (H:Hp) (D:Ends),Inv X pins σ H s->t D σ H->aE (model X.prog X.w) X.A (execs st X.env) (SP X pins D) X.xe s
theorem fc {α:Type}{t:Sem α}{Q Q':α->aw->Prop}{M:Model}{A:Around}{E:ag->aw->Prop}{s:aw}(h:aE M A t Q E s)(hQ:∀a s,Q a s->Q' a s):aE M A t Q' E s:=bS h hQ λ_ _ x=>x
section
variable {X:Cx}
noncomputable def Gj (i:Nat):TE:=λσ H Q=>∃v,σ[i]? = some (some v)/\Q v H
noncomputable def tC (v:V):TE:=λ_ H Q=>Q v H
theorem Dl (hN:X.N[i]? = some x)(hv:tf X.env.scope x)(hd:(x == ("__debug__" : Str))=false:=by decide)(jz:(x == ("__classdict__" : Str))=false:=by decide):PE X (.Name x pos) (Gj i):=by
 intro pins s σ H Q I h;obtain⟨v,e,h⟩:=h;obtain⟨m,hn,hl⟩:=I.loc;obtain⟨u,r,l⟩:=hl i x v hN e hv;have fin:EP X pins σ Q u s:=⟨v,H,I,r,h⟩;rcases l with⟨hk,hm⟩ | ⟨hk,c,hc,IY⟩
 .exact wpAny_Name (wpAny_loadName_local I.ok.kind hk hn hm fin) hd
 .rcases hk with hk | hk
  .exact wpAny_Name (wpAny_loadName_cell I.ok.kind hk hc IY fin) hd
  .exact wpAny_Name (wpAny_loadName_free I.ok.kind hk hc IY fin jz) hd
theorem Ko {i j pos}:PE X (.Constant (.int i) j pos) (tC (.int i)):=λ_ _ _ H _ I h=>wpAny_Constant_int ⟨.int i,H,I.tok _,⟨_,rfl⟩,h⟩
theorem Nr {b j pos}:PE X (.Constant (.bool b) j pos) (tC (.bl b)):=λ_ _ _ H _ I h=>Constant_bool ⟨.bl b,H,I,rfl,h⟩
theorem Dm {j pos}:PE X (.Constant .none j pos) (tC .gJ):=λ_ _ _ H _ I h=>Constant_none ⟨.gJ,H,I,rfl,h⟩
noncomputable def Gl (X:Cx)(x:Str):Prop:=X.env.kindOf x=some .globalImplicit
theorem Gk (I:Inv X pins σ H s)(hg:Gl X x)(hm:X.mg x=some u)(h:Q u s)
  (hd:(x == ("__debug__" : Str))=false:=by decide):aE (model X.prog X.w) X.A (eval (.Name x pos) X.env) Q E s :=
 Calls.Name_function_global I.ok.kind hg (Calls.loadGlobal_global (by rw[I.ok.glob];exact I.mod.glob.keeps I.bk) hm h) hd
theorem oU (I:Inv X pins σ H s)(hg:Gl X x)(hm:X.mg x=none)(hv:bootBuiltins x=some u)(h:Q u s)
  (hn:x ≠ "__name__" := by decide) (hd:(x == ("__debug__" : Str))=false:=by decide):aE (model X.prog X.w) X.A (eval (.Name x pos) X.env) Q E s:=by
 obtain⟨mb,h1,h2⟩:=I.mod.blt;exact Calls.Name_function_global I.ok.kind hg (Calls.loadGlobal_builtin (by rw[I.ok.glob];exact I.mod.glob.keeps I.bk) hm (by rw[I.ok.blt];exact h1.keeps I.bk) ((h2 x hn).trans hv) h) hd
theorem Gm (hg:Gl X x)(hm:X.mg x=none)(hv:bootBuiltins x=some u)(r:RelV v u)(hn:x ≠ "__name__" := by decide)(hd:(x == ("__debug__" : Str))=false:=by decide):PE X (.Name x pos) (tC v) :=
 λ_ _ _ H _ I h=>oU I hg hm hv ⟨v,H,I,r,h⟩ hn hd
variable {a b:Expr}{ta tb:TE}{pos:Pos}
noncomputable def PC (X:Cx)(op:CmpOp)(a b:Expr)(t:TE):Prop :=
 ∀(pins:List (Addr × Obj)) (s:aw) (σ:St) (H:Hp) (Q:VK),Inv X pins σ H s->t σ H Q ->
  aE (model X.prog X.w) X.A (eval a X.env) (λv s₁=>aE (model X.prog X.w) X.A (eval b X.env) (λu s₂=>aE (model X.prog X.w) X.A (compareOp op v u) (EP X pins σ Q) X.xe s₂) X.xe s₁) X.xe s
noncomputable def tB (t:TE):TT:=λσ H Q=>t σ H λx H1=>∃c,x=.bl c/\Q c H1
theorem Dn (h:PC X op a b t)(h1:behindInMarks op b=false:=by first | exact Dp _ (!2) (!2) | rfl):PE X (.Compare a [op] [b] pos) t:=λpins s σ H Q I hw=>wpAny_Compare1 (h pins s σ H Q I hw) h1
theorem zc (h:PC X op a b t)(h1:behindInMarks op b=false:=by first | exact Dp _ (!2) (!2) | rfl):PT X (.Compare a [op] [b] pos) (tB t):=by
 intro pins s σ H Q I hw;refine wpAny_isTrue_Compare1 (fc (h pins s σ H _ I hw) λv s1 h1=>fc h1 λu s2 h2=>fc h2 λc s3 ⟨x,H1,I1,r1,q1⟩=>?_) h1;obtain⟨d,rfl,q⟩:=q1;cases r1;exact wpAny_truthy_bool ⟨H1,I1,q⟩
theorem Kp {e:Expr}{t:TE}(h:PE X e t)(he:∀m7,isTrue e X.env m7=(do let v <- m7;standAt e.pos;holding [v] (truthy v)):=by rw[3]):PT X e (tB t):=by
 intro pins s σ H Q I hw;refine isTrue_plain (fc (h pins s σ H _ I hw) λv s1 ⟨x,H1,I1,r1,q1⟩=>?_) (he _);obtain⟨d,rfl,q⟩:=q1;cases r1;exact wpAny_truthy_bool ⟨H1,I1,q⟩
variable {tA Gn:TT}{rest:List Expr}
noncomputable def Nt (t u:TT):TT:=λσ H Q=>t σ H λc H1=>if c=true then u σ H1 Q else Q false H1
noncomputable def Tf (t u:TT):TT:=λσ H Q=>t σ H λc H1=>if c=true then Q true H1 else u σ H1 Q
noncomputable def Nu (t:TT):TT:=λσ H Q=>t σ H λc H1=>Q (!c) H1
theorem pw_and1 (ha:PT X a tA):PW X (.BoolOp .And [a] pos) tA:=by
 intro wh pins s σ H Q I h;refine isTrue_and (fc (ha pins s σ H Q I h) λc s1 e=>?_)
 cases c with
 | true=>exact isTrue_and_nil e
 | false=>exact e
theorem pw_or1 (ha:PT X a tA):PW X (.BoolOp .Or [a] pos) tA:=by
 intro wh pins s σ H Q I h;refine isTrue_or (fc (ha pins s σ H Q I h) λc s1 e=>?_)
 cases c with
 | false=>exact isTrue_or_nil e
 | true=>exact e
theorem pw_and (ha:PT X a tA)(hb:PW X (.BoolOp .And (b::rest) pos) Gn):PW X (.BoolOp .And (a::b::rest) pos) (Nt tA Gn):=by
 intro wh pins s σ H Q I h;refine isTrue_and (fc (ha pins s σ H _ I h) λc s1 ⟨H1,I1,q1⟩=>?_)
 cases c with
 | true=>exact hb wh pins s1 σ H1 Q I1 q1
 | false=>exact⟨H1,I1,q1⟩
theorem pw_or (ha:PT X a tA)(hb:PW X (.BoolOp .Or (b::rest) pos) Gn):PW X (.BoolOp .Or (a::b::rest) pos) (Tf tA Gn):=by
 intro wh pins s σ H Q I h;refine isTrue_or (fc (ha pins s σ H _ I h) λc s1 ⟨H1,I1,q1⟩=>?_)
 cases c with
 | true=>exact⟨H1,I1,q1⟩
 | false=>exact hb wh pins s1 σ H1 Q I1 q1
theorem Kq (ha:PT X a tA):PT X (.UnaryOp .Not a pos) (Nu tA):=by
 intro pins s σ H Q I h;exact isTrue_not (ha pins s σ H (λc H1=>Q (!c) H1) I h)
noncomputable def IZ (ta tb:TE):TE:=λσ H Q=>ta σ H λx H1=>∃c,x=.bl c/\if c=true then tb σ H1 Q else Q (.bl false) H1
noncomputable def I0 (ta:TE):TE:=λσ H Q=>ta σ H λx H1=>∃c,x=.bl c/\Q (.bl (!c)) H1
theorem Kr {op}(h:PE X a t):PE X (.BoolOp op [a] pos) t:=λpins s σ H Q I hw=>BoolOp_one (h pins s σ H Q I hw)
theorem Ks (ha:PE X a ta)(hb:PE X (.BoolOp .And (b::rest) pos) tb):PE X (.BoolOp .And (a::b::rest) pos) (IZ ta tb):=by
 intro pins s σ H Q I h;refine BoolOp_and (fc (ha pins s σ H _ I h) λv s1 ⟨x,H1,I1,r1,q1⟩=>?_);obtain⟨c,rfl,q1⟩:=q1;cases r1;refine wpAny_truthy_bool ?_
 cases c with
 | true=>exact hb pins s1 σ H1 Q I1 q1
 | false=>exact⟨.bl false,H1,I1,rfl,q1⟩
theorem Kt (ha:PE X a ta):PE X (.UnaryOp .Not a pos) (I0 ta):=by
 intro pins s σ H Q I h;refine UnaryOp_ (fc (ha pins s σ H _ I h) λv s1 ⟨x,H1,I1,r1,q1⟩=>?_);obtain⟨c,rfl,q1⟩:=q1;cases r1;exact not_of (wpAny_truthy_bool ⟨.bl (!c),H1,I1,rfl,q1⟩)
noncomputable def Tg (t:TT)(ta tb:TE):TE:=λσ H Q=>t σ H λc H1=>if c=true then ta σ H1 Q else tb σ H1 Q
theorem Dq (hc:PT X c tA)(ha:PE X a ta)(hb:PE X b tb):PE X (.IfExp c a b pos) (Tg tA ta tb):=by
 intro pins s σ H Q I h;refine wpAny_IfExp (fc (hc pins s σ H _ I h) λd s1 ⟨H1,I1,q1⟩=>?_)
 cases d with
 | true=>exact ha pins s1 σ H1 Q I1 q1
 | false=>exact hb pins s1 σ H1 Q I1 q1
end
noncomputable def fU (K:W.Frag)(H:Hp)(a:Addr)(xs:List V):Prop :=
 Rd H a (.lst xs) \/
  ∃(o:Obj) (its:Array ag) (n:Nat),K.lookup a=some o/\o.cls=.type "list" /\ o.dict=none/\o.data=.seq its n/\its.size<=aA/\dQ xs its.toList
noncomputable def gZ (K:W.Frag)(H:Hp)(a:Addr)(xs:List V):Prop :=
 Rd H a (.tup xs) \/
  ∃(o:Obj) (its:Array ag) (n:Nat),K.lookup a=some o/\o.cls=.type "tuple" /\ o.data=.seq its n/\its.size<=aA/\dQ xs its.toList
noncomputable def QN:ag->Option V
 | .none=>some .gJ
 | .bool b=>some (.bl b)
 | .int i _=>some (.int i)
 | .str x _=>some (.str x)
 | .bytes b _=>some (.Ge b)
 | .float b _=>some (.MY b)
 | .ref a=>some (.ref a)
 | .type n=>some (.ty n)
 | _=>none
theorem RelV.abs (r:RelV x u):QN u=some x:=by
 cases x with
 | gJ=>cases r;rfl
 | bl _=>cases r;rfl
 | int _=>obtain⟨t,rfl⟩:=r;rfl
 | str _=>obtain⟨t,rfl⟩:=r;rfl
 | Ge _=>obtain⟨t,rfl⟩:=r;rfl
 | MY _=>obtain⟨t,rfl⟩:=r;rfl
 | ref _=>cases r;rfl
 | ty _=>cases r;rfl
theorem RelV.inj (r:RelV x u)(q:RelV y u):x=y:=Option.some.inj (r.abs.symm.trans q.abs)
theorem dQ.inj:∀{xs ys:List V} {us:List ag},dQ xs us->dQ ys us->xs=ys
 | _,_,_,.nil,.nil=>rfl
 | _,_,_,.cons r t,.cons r' t'=>by rw[r.inj r',dQ.inj t t']
section
theorem fU.of {K:W.Frag}(h:H a=some (.lst xs)):fU K H a xs:=.inl (.inl h)
theorem gZ.of {K:W.Frag}(h:H a=some (.tup xs)):gZ K H a xs:=.inl (.inl h)
theorem Inv.list (I:Inv X pins σ H s)(h:fU X.K H a xs):∃its:List ag,dQ xs its/\PlainL s.heap a its.toArray/\xs.length<=aA:=by
 rcases h with h | ⟨o,its,n,hk,hc,hd,hs,hz,r⟩
 .obtain⟨z,its,n,r,e⟩:=h.ok I.hok
  exact⟨its,r,⟨_,n,e,rfl,rfl,rfl⟩,z⟩
 .refine⟨its.toList,r,⟨o,n,I.wJ a o hk,hc,hd,by simpa using hs⟩,?_⟩
  have e:=r.length;simp only[bu] at e;omega
theorem Inv.tuple (I:Inv X pins σ H s)(h:gZ X.K H a xs):∃its:List ag,dQ xs its/\IsTup s.heap a its.toArray/\xs.length<=aA:=by
 rcases h with h | ⟨o,its,n,hk,hc,hs,hz,r⟩
 .obtain⟨z,its,r,p⟩:=h.ok I.hok
  exact⟨its,r,p.tup,z⟩
 .refine⟨its.toList,r,⟨o,I.wJ a o hk,hc,n,by simpa using hs⟩,?_⟩
  have e:=r.length;simp only[bu] at e;omega
theorem Inv.wN (I:Inv X pins σ H s)(h:fU X.K H a xs)(h':fU X.K H a ys):xs=ys:=by
 obtain⟨its,r,⟨o,n,e,_,_,d⟩,_⟩:=I.list h;obtain⟨its',r',⟨o',n',e',_,_,d'⟩,_⟩:=I.list h';rw[e] at e';cases e';rw[d] at d';injection d' with d1 _;have:its=its':=by simpa using congrArg Array.toList d1
 subst this;exact r.inj r'
theorem Inv.tX (I:Inv X pins σ H s)(h:gZ X.K H a xs)(h':gZ X.K H a ys):xs=ys:=by
 obtain⟨its,r,⟨o,e,_,n,d⟩,_⟩:=I.tuple h;obtain⟨its',r',⟨o',e',_,n',d'⟩,_⟩:=I.tuple h';rw[e] at e';cases e';rw[d] at d';injection d' with d1 _;have:its=its':=by simpa using congrArg Array.toList d1
 subst this;exact r.inj r'
end
noncomputable abbrev Cx.tj (X:Cx)(E:ag->aw->Prop):Cx:={ X with xe:=E }
noncomputable abbrev Cx.BS (X:Cx):Cx:=X.tj λ_ _=>False
theorem Cx.Ok.tj {X:Cx}(ok:X.Ok)(E:ag->aw->Prop):(X.tj E).Ok :=
 ⟨ok.mod,ok.kind,ok.glob,ok.blt,ok.above,ok.inj,ok.has,ok.Nj,ok.hd,ok.frames,ok.P8,ok.Tc,ok.bs,ok.Kk,ok.Dk,ok.Gh,ok.qM,ok.M0⟩
theorem Cx.Ok.lD {X:Cx}{E:ag->aw->Prop}(ok:(X.tj E).Ok):X.Ok :=
 ⟨ok.mod,ok.kind,ok.glob,ok.blt,ok.above,ok.inj,ok.has,ok.Nj,ok.hd,ok.frames,ok.P8,ok.Tc,ok.bs,ok.Kk,ok.Dk,ok.Gh,ok.qM,ok.M0⟩
section
variable {X:Cx}{pins:List (Addr × Obj)}{σ:St}{H:Hp}{s:aw}{E:ag->aw->Prop}
theorem Inv.tj (I:Inv X pins σ H s)(E:ag->aw->Prop):Inv (X.tj E) pins σ H s:=⟨I.ok.tj E,I.os,I.bare,I.base,I.loc,I.cell,I.free,I.freeC,I.pin,I.hok,I.len⟩
theorem Inv.lD (I:Inv (X.tj E) pins σ H s):Inv X pins σ H s:=⟨I.ok.lD,I.os,I.bare,I.base,I.loc,I.cell,I.free,I.freeC,I.pin,I.hok,I.len⟩
theorem SP.lD (h:SP (X.tj E) pins D f s'):SP X pins D f s':=by
 cases f with
 | next=>obtain⟨σ',H',I,q⟩:=h;exact⟨σ',H',I.lD,q⟩
 | brk=>obtain⟨σ',H',I,q⟩:=h;exact⟨σ',H',I.lD,q⟩
 | cont=>obtain⟨σ',H',I,q⟩:=h;exact⟨σ',H',I.lD,q⟩
 | ret u=>obtain⟨v,σ',H',I,r,q⟩:=h;exact⟨v,σ',H',I.lD,r,q⟩
theorem yW.BS {st:List Stmt}{t:TS}(h:yW X.BS st t):yW X st t:=λpins s σ H D I hw =>
 bS (h pins s σ H D (I.tj _) hw) (λ_ _ q=>q.lD) λ_ _ z=>False.elim z
end
section
variable {X:Cx}{st:Stmt}{rest:List Stmt}{t u:TS}{e:Expr}{te:TE}{pos:Pos}
noncomputable def I8:TS:=λD σ H=>D.nx σ H
noncomputable def Nv (t u:TS):TS:=λD σ H=>t { D with nx:=u D } σ H
theorem Gp:yW X [] I8:=λ_ _ σ H _ I h=>wpAny_execs_nil ⟨σ,H,I,h⟩
theorem Dr (h1:PS X st t)(h2:yW X rest u):yW X (st::rest) (Nv t u):=by
 intro pins s σ H D I h;refine wpAny_execs_cons (fc (h1 pins s σ H { D with nx:=u D } I h) λf s1 q=>?_)
 cases f with
 | next =>
  obtain⟨σ',H',I',q⟩:=q;exact h2 pins s1 σ' H' D I' q
 | ret v=>exact q
 | brk=>exact q
 | cont=>exact q
theorem Gr (h1:PS X st t):yW X [st] t:=by
 intro pins s σ H D I h;refine wpAny_execs_cons (fc (h1 pins s σ H D I h) λf s1 q=>?_)
 cases f with
 | next=>exact wpAny_execs_nil q
 | ret v=>exact q
 | brk=>exact q
 | cont=>exact q
theorem Inv.quiet {pins:List (Addr × Obj)}{σ:St}{H:Hp}{s:aw}(I:Inv X pins σ H s):interactive X.env=false:=by simp[interactive,I.ok.kind]
noncomputable def I9 (te:TE):TS:=λD σ H=>te σ H λ_ H1=>D.nx σ H1
theorem Gs (he:PE X e te)(hs:swapsWith e none pos.line X.env=pure false:=by rfl):PS X (.Expr e pos) (I9 te):=by
 intro pins s σ H D I h;exact wpAny_Expr_any (fc (he pins s σ H _ I h) λv s1 ⟨x,H1,I1,r1,q1⟩=>⟨σ,H1,I1,q1⟩) I.quiet hs
noncomputable def Nw (te:TE):TS:=λD σ H=>te σ H D.rt
theorem Ku (he:PE X e te):PS X (.Return (some e) pos) (Nw te):=by
 intro pins s σ H D I h;exact wpAny_Return_some (fc (he pins s σ H _ I h) λv s1 ⟨x,H1,I1,r1,q1⟩=>⟨x,σ,H1,I1,r1,q1⟩)
noncomputable def Nx (c:TT)(t u:TS):TS:=λD σ H=>c σ H λb H1=>if b=true then t D σ H1 else u D σ H1
theorem Ny (hc:PT X c tc)(ha:yW X a t)(hb:yW X b u):PS X (.If c a b pos) (Nx tc t u):=by
 intro pins s σ H D I h;refine wpAny_If (fc (hc pins s σ H _ I h) λd s1 ⟨H1,I1,q1⟩=>?_)
 cases d with
 | true=>exact ha pins s1 σ H1 D I1 q1
 | false=>exact hb pins s1 σ H1 D I1 q1
end
noncomputable abbrev TG:=V->St->Hp->(St->Hp->Prop)->Prop
noncomputable abbrev Kv:=List V->St->Hp->(St->Hp->Prop)->Prop
noncomputable def PG (X:Cx)(target:Expr)(t:TG):Prop :=
 ∀(pins:List (Addr × Obj)) (s:aw) (σ:St) (H:Hp) (v:V) (u:ag) (Q:St->Hp->Prop),Inv X pins σ H s->RelV v u->t v σ H Q ->
  aE (model X.prog X.w) X.A (assign target X.env u) (λ_ s'=>∃σ' H',Inv X pins σ' H' s'/\Q σ' H') X.xe s
noncomputable def Nz (X:Cx)(ts:List Expr)(t:Kv):Prop :=
 ∀(pins:List (Addr × Obj)) (s:aw) (σ:St) (H:Hp) (vs:List V) (us:List ag) (Q:St->Hp->Prop),Inv X pins σ H s->dQ vs us->t vs σ H Q ->
  aE (model X.prog X.w) X.A (assignInOrder ((assignEach ts X.env).map (·.2)) us) (λ_ s'=>∃σ' H',Inv X pins σ' H' s'/\Q σ' H') X.xe s
noncomputable abbrev NA:=V->V->V->Hp->(Hp->Prop)->Prop
noncomputable def Kw (X:Cx)(t:NA):Prop :=
 ∀(pins:List (Addr × Obj)) (s:aw) (σ:St) (H:Hp) (o i v:V) (ov iv u:ag) (Q:Hp->Prop),Inv X pins σ H s->RelV o ov->RelV i iv->RelV v u->t o i v H Q ->
  aE (model X.prog X.w) X.A (setItem ov iv u) (λ_ s'=>∃H',Inv X pins σ H' s'/\Q H') X.xe s
section
variable {X:Cx}{pos:Pos}
noncomputable def wO (i:Nat):TG:=λv σ H Q=>Q (σ.set i (some v)) H
theorem Gu (hN:X.N.Nodup)(hi:X.N[i]? = some x)(hx:Loc X.env.scope x)(hf:X.fn x=true\/X.env.scope.names.lookup x=some .local:=by (first | exact .inl rfl | exact .inr rfl | assumption)):PG X (.Name x pos) (wO i):=by
 intro pins s σ H v u Q I r h;exact wpAny_assign_Name (wM I hN hi hx r (λs' I'=>⟨_,H,I',h⟩) hf)
noncomputable def NB:Kv:=λvs σ H Q=>vs=[]/\Q σ H
noncomputable def Ja (t:TG)(u:Kv):Kv:=λvs σ H Q=>∃v r,vs=v::r/\t v σ H λσ' H'=>u r σ' H' Q
theorem Gv:Nz X [] NB:=by
 intro pins s σ H vs us Q I r h;obtain⟨e,h⟩:=h;subst e;cases r;exact assignInOrder_nil ⟨σ,H,I,h⟩
theorem Ds (h1:PG X e t)(h2:Nz X es u)
  (hs:(assignEach (e::es) X.env).map (·.2)=assign e X.env::(assignEach es X.env).map (·.2):=by rfl):Nz X (e::es) (Ja t u):=by
 intro pins s σ H vs us Q I r h;obtain⟨v,vr,e1,h⟩:=h;subst e1
 cases r with
 | cons r rr =>
  rw[hs];refine assignInOrder_cons (fc (h1 pins s σ H _ _ _ I r h) λ_ s1 ⟨σ1,H1,I1,q1⟩=>?_);exact h2 pins s1 σ1 H1 _ _ Q I1 rr q1
noncomputable def NC (K:W.Frag)(n:Nat)(t:Kv):TG:=λv σ H Q=>∃a xs,v=.ref a/\gZ K H a xs/\xs.length=n/\t xs σ H Q
theorem Kx (hc:X.calm=true)(h:Nz X es t)
  (hn:(assignEach es X.env).length=n:=by rfl) (BU:(assignEach es X.env).findIdx? (·.1)=none:=by rfl):PG X (.Tuple es k pos) (NC X.K n t):=by
 intro pins s σ H v u Q I r hw;obtain⟨a,xs,e1,hq,hl,hw⟩:=hw;subst e1;cases r;obtain⟨its,rv,ht,hz⟩:=I.tuple hq;refine assign_Tuple_tuple (I.ok.hd hc) ht (by simp[hn,<- hl,rv.length]) BU λh' hx=>?_;have I1:Inv X pins σ H { s with heap:=h' }:=I.kept (t':=s.toks) λb o e=>hx b o (aT (aF e)) e;exact h pins _ σ H xs _ Q I1 (by simpa using rv) hw
noncomputable def ND (to ti:TE)(t:NA):TG:=λv σ H Q=>to σ H λo H1=>ti σ H1 λi H2=>t o i v H2 λH3=>Q σ H3
theorem Ky (ho:PE X o to)(hi:PE X i ti)(hs:Kw X t)
  (ha:∀v,assign (.Subscript o i pos) X.env v=(do
   let ov <- holding [v] (eval o X.env);let iv <- holding [v,ov] (eval i X.env)
   standAt pos
   holding [v,ov,iv] (setItem ov iv v)
   release [v,ov,iv] []):=by rw[3]):PG X (.Subscript o i pos) (ND to ti t):=by
 intro pins s σ H v u Q I r h;rw[ha];refine ae (wpAny_holding (fc (ho pins s σ H _ I h) λov s1 ⟨x,H1,I1,r1,q1⟩=>?_));refine ae (wpAny_holding (fc (hi pins s1 σ H1 _ I1 q1) λiv s2 ⟨y,H2,I2,r2,q2⟩=>?_));refine ae (wpAny_standAt (ae (wpAny_holding (fc (hs pins s2 σ H2 x y v ov iv u _ I2 r1 r2 r q2) λ_ s3 ⟨H3,I3,q3⟩=>?_))));exact wpAny_release ⟨σ,H3,I3,q3⟩
noncomputable def Dt (te:TE)(g:TG):TS:=λD σ H=>te σ H λx H1=>g x σ H1 D.nx
theorem Kz (he:PE X e te)(hg:PG X tg g)(hs:swapsWithSole [tg] e pos.line X.env=pure false:=by rfl)(hw:swappedStores [tg] e X.env=pure none:=by rfl)
  (h1:(assignEach [tg] X.env).map (·.2)=[assign tg X.env]:=by rfl):PS X (.Assign [tg] e pos) (Dt te g):=by
 intro pins s σ H D I h;refine wpAny_Assign_stores (fc (he pins s σ H _ I h) λv s1 ⟨x,H1,I1,r1,q1⟩=>?_) hs hw;rw[h1];exact fc (hg pins s1 σ H1 x v _ I1 r1 q1) λ_ s2 q=>q
theorem KC {i:Nat}{x:Str}{e:Expr}{te:TE}{fZ:Pos}(hN:X.N.Nodup)(hi:X.N[i]? = some x)(hx:Loc X.env.scope x)(he:PE X e te)(hs:swapsWith e (some (.Name x fZ)) pos.line X.env=pure false:=by rfl)(hf:X.fn x=true\/X.env.scope.names.lookup x=some .local:=by (first | exact .inl rfl | exact .inr rfl | assumption)) :
  PS X (.Assign [.Name x fZ] e pos) (Dt te (wO i)):=by
 intro pins s σ H D I h;refine wpAny_Assign_Name (fc (he pins s σ H _ I h) λv s1 ⟨y,H1,I1,r1,q1⟩=>?_) hs;exact wM I1 hN hi hx r1 (λs2 I2=>⟨_,H1,I2,q1⟩) hf
end
section
noncomputable def Du (c:TT)(tb:TS):TS:=λD σ H=>∃W:Nat->St->Hp->Prop,(∃m,W m σ H)/\∀m σ H,W m σ H ->
 c σ H λb H1=>if b=true then ∃N:St->Hp->Prop,(∀σ' H',N σ' H'->∃m',m' < m/\W m' σ' H')/\tb { D with nx:=N,ct:=N,bk:=D.nx } σ H1 else D.nx σ H1
theorem Dv (hp:PassesOwn (model X.prog X.w) X.A X.env X.xe)(hc:PT X c tc)(hb:yW X body tb):PS X (.While c body [] pos) (Du tc tb):=by
 intro pins s σ H D I h;obtain⟨W,⟨m0,w0⟩,turn⟩:=h;refine wpAny_While (codeAny_whileLoop (λn s'=>∃σ' H',Inv X pins σ' H' s'/\W n σ' H') ?_ m0 ⟨σ,H,I,w0⟩);rintro n s1 ⟨σ1,H1,I1,w1⟩;refine wpAny_passesOwn hp (fc (hc pins s1 σ1 H1 _ I1 (turn n σ1 H1 w1)) λb s2 ⟨H2,I2,q2⟩=>?_)
 cases b with
 | true =>
  obtain⟨N,hN,q2⟩:=q2;rw[if_pos rfl];refine wpAny_passesOwn hp (fc (hb pins s2 σ1 H2 _ I2 q2) λf s3 q3=>?_)
  cases f with
  | next =>
   obtain⟨σ3,H3,I3,n3⟩:=q3;obtain⟨m',hm,w3⟩:=hN σ3 H3 n3;exact⟨m',hm,σ3,H3,I3,w3⟩
  | cont =>
   obtain⟨σ3,H3,I3,n3⟩:=q3;obtain⟨m',hm,w3⟩:=hN σ3 H3 n3;exact⟨m',hm,σ3,H3,I3,w3⟩
  | brk=>exact q3
  | ret v=>exact q3
 | false =>
  rw[if_neg bc];exact wpAny_execs_nil ⟨σ1,H2,I2,q2⟩
end
structure It where
 go:Nat->Hp->Prop
 FY:Nat->Hp->V->Hp->Prop
 stop:Nat->Hp->Prop
noncomputable def pW (X:Cx)(pins:List (Addr × Obj))(H:Hp)(b:Addr):Prop :=
 H b=none/\b≠X.env.locals/\b ∉ X.fs/\(b∈X.ex\/X.s₀.heap.objs.size<=b)/\(∀x c,X.env.cells.lookup x=some c->c≠b)/\∀p∈X.pn++pins,p.1≠b
theorem Inv.pX (I:Inv X pins σ H s)(hb:s.heap.objs.size<=b)(hn:H' b=none):pW X pins H' b:=by
 refine⟨hn,bN (aL I.lt hb),I.Nk hb,.inr (bj I.sz hb),λx c e z=>?_,λp hp z=>?_⟩
 .obtain⟨v,q⟩:=I.cell x c e
  exact absurd (aL q.lt (by rw[z];exact hb)) (bA _)
 .exact absurd (aL (aF (I.pin p hp).1) (by rw[z];exact hb)) (bA _)
structure wQ (P:a5) (w:World) (K:W.Frag) (tg:Expr) (J:It) (fp:List Addr) (it:Addr) (tn:Nat->Heap->Prop):Prop where
 mem:it∈fp
 obj:∀i h,tn i h->∀b∈fp,∃o,h.get? b=some o/\∀v,o.data≠.cell v
 keep:∀i h h',tn i h->(∀b∈fp,∀o,h.get? b=some o->h'.get? b=some o)->tn i h'
 item:∀(X:Cx),X.prog=P->X.w=w->X.K=K->X.calm=true->∀(i:Nat) (pins:List (Addr × Obj)) (s:aw) (σ:St) (H:Hp) (E:ag->aw->Prop),Inv X pins σ H s->(∀b∈fp,pW X pins H b)->tn i s.heap->J.go i H ->
  aE (model P w) X.A (pyNext (.ref it)) (λr s1=>∃u,r=some u /\
   aE (model P w) X.A (letOwnedTupleGo tg (.ref it) u) (λ_ s2=>∃x H',Inv X pins σ H' s2/\RelV x u/\J.FY i H x H'/\tn (i+1) s2.heap/\∀b∈fp,H' b=none) E s1) E s
 done:∀(X:Cx),X.prog=P->X.w=w->X.K=K->X.calm=true->∀(i:Nat) (pins:List (Addr × Obj)) (s:aw) (σ:St) (H:Hp) (E:ag->aw->Prop),Inv X pins σ H s->(∀b∈fp,pW X pins H b)->tn i s.heap->J.stop i H ->
  aE (model P w) X.A (pyNext (.ref it)) (λr s1=>r=none/\Inv X pins σ H s1) E s
 self:∀(A:Around) (i:Nat) (s:aw) (Q:ag->aw->Prop) (E:ag->aw->Prop),tn i s.heap->Q (.ref it) s->aE (model P w) A (pyIter (.ref it)) Q E s
noncomputable abbrev TI:=St->Hp->(It->Hp->Prop)->Prop
noncomputable def Th (X:Cx)(pins:List (Addr × Obj))(σ:St)(tg:Expr)(R:It->Hp->Prop)(QP:ag)(s2:aw):Prop :=
 ∃(it:Addr) (fp:List Addr) (tn:Nat->Heap->Prop) (J:It) (H':Hp),QP=.ref it/\Inv X pins σ H' s2/\wQ X.prog X.w X.K tg J fp it tn/\tn 0 s2.heap/\(∀b∈fp,pW X pins H' b)/\R J H'
noncomputable def PI (X:Cx)(tg iter:Expr)(wi:TI):Prop :=
 ∀(pins:List (Addr × Obj)) (s:aw) (σ:St) (H:Hp) (R:It->Hp->Prop),Inv X pins σ H s->wi σ H R ->
  aE (model X.prog X.w) X.A (eval iter X.env) (λv s1=>aE (model X.prog X.w) X.A (pyIter v) (Th X pins σ tg R) X.xe s1) X.xe s
theorem wR {M:Model}{A:Around}{E:ag->aw->Prop}{s:aw}{tg:Expr}{it:Addr}{u:ag}{o:Obj}{n:String}{vs:Array ag}{Q:Unit->aw->Prop}(ho:s.heap.get? it=some o)(hc:o.cls=.type n)(hd:o.data=.fields vs)
  (hn:["enumerate", "zip", "dict_itemiterator", "dict_reverseitemiterator", "odict_iterator", "itertools.zip_longest", "itertools.pairwise"].contains n=false) (hQ:Q () s):aE M A (letOwnedTupleGo tg (.ref it) u) Q E s:=by
 unfold letOwnedTupleGo
 cases tg<;>first
  | exact aj hQ
  | (cases u<;>first
    | exact aj hQ
    | (refine ae (wpAny_load ho ?_);rw[hc,hd];show aE M A (if (["enumerate", "zip", "dict_itemiterator", "dict_reverseitemiterator", "odict_iterator", "itertools.zip_longest", "itertools.pairwise"].contains n && vs[0]? == some (rawInt _))=true then _ else _) Q E s;rw[if_neg (by intro h;rw[hn,Bool.false_and] at h;cases h)];exact aj hQ))
noncomputable def Gw (K:W.Frag)(a:Addr):It :=
 ⟨λi H=>∃xs x,fU K H a xs/\xs[i]? = some x,λi H x H'=>H'=H/\∀xs,fU K H a xs->xs[i]? = some x,λi H=>∃xs,fU K H a xs/\xs.length<=i⟩
noncomputable def Gx (K:W.Frag)(a:Addr):It :=
 ⟨λi H=>∃xs x,gZ K H a xs/\xs[i]? = some x,λi H x H'=>H'=H/\∀xs,gZ K H a xs->xs[i]? = some x,λi H=>∃xs,gZ K H a xs/\xs.length<=i⟩
noncomputable def P' (lo:Int)(n:Nat):It:=⟨λi _=>i<n,λi H x H'=>H'=H/\x=.int (lo+i),λi _=>n<=i⟩
theorem tY {P:a5}{w:World}{K:W.Frag}{tg:Expr}(a it:Addr):wQ P w K tg (Gw K a) [it] it (λi h=>h.IsListIter it a i) where
 mem:=by simp
 obj:=λi h st b hb=>by
  have e:b=it:=by simpa using hb
  subst e;obtain⟨o,e,c,d⟩:=st;exact⟨o,e,λv z=>by rw[d] at z;cases z⟩
 keep:=λi h h' st k=>st.at λo e=>k it (!4) o e
 item:=by
  intro X hP hw hK hc i pins s σ H E I hf st hg;subst hP hw hK;obtain⟨xs,x,hq,hx⟩:=hg;obtain⟨its,rv,p,hz⟩:=I.list hq;obtain⟨u,hu,ru⟩:=rv.get hx;obtain⟨f0,f1,f2,f3,f4,f5⟩:=hf it (!4);refine wpAny_pyNext_list_item st p.isList (x:=u) (by simpa using hu) λh' tm sb=>?_;have I1:Inv X pins σ H { s with heap:=h' }:=I.turned (t':=s.toks) (λb o hb e=>(sb.2 b hb).trans e) f0 f1 f3 f4 f5;obtain⟨o,e,c,d⟩:=id tm;exact⟨u,rfl,wR (s:={ s with heap:=h' }) e c d (!2) ⟨x,H,I1,ru,⟨rfl,λys hy=>by rw[I.wN hy hq];exact hx⟩,tm,λb hb=>(hf b hb).1⟩⟩
 done:=by
  intro X hP hw hK hc i pins s σ H E I hf st hg;subst hP hw hK;obtain⟨xs,hq,hx⟩:=hg;obtain⟨its,rv,p,hz⟩:=I.list hq;obtain⟨f0,f1,f2,f3,f4,f5⟩:=hf it (!4);have hl:=rv.length;exact wpAny_pyNext_list_end (I.ok.hd hc) st p.isList (by simp;omega) λh' eb=>⟨rfl,I.turned (t':=s.toks) (λb o hb e=>eb b o hb e) f0 f1 f3 f4 f5⟩
 self:=λ_ _ _ _ _ st h=>wpAny_pyIter_listiter st h
theorem qO {P:a5}{w:World}{K:W.Frag}{tg:Expr}(a it:Addr):wQ P w K tg (Gx K a) [it] it (λi h=>h.IsTupleIter it a i) where
 mem:=by simp
 obj:=λi h st b hb=>by
  have e:b=it:=by simpa using hb
  subst e;obtain⟨o,e,c,d⟩:=st;exact⟨o,e,λv z=>by rw[d] at z;cases z⟩
 keep:=λi h h' st k=>st.at λo e=>k it (!4) o e
 item:=by
  intro X hP hw hK hc i pins s σ H E I hf st hg;subst hP hw hK;obtain⟨xs,x,hq,hx⟩:=hg;obtain⟨its,rv,p,hz⟩:=I.tuple hq;obtain⟨u,hu,ru⟩:=rv.get hx;obtain⟨f0,f1,f2,f3,f4,f5⟩:=hf it (!4);refine wpAny_pyNext_tuple_item st (show s.heap.IsTuple a its.toArray from p) (x:=u) (by simpa using hu) λh' tm sb=>?_;have I1:Inv X pins σ H { s with heap:=h' }:=I.turned (t':=s.toks) (λb o hb e=>(sb.2 b hb).trans e) f0 f1 f3 f4 f5;obtain⟨o,e,c,d⟩:=id tm;exact⟨u,rfl,wR (s:={ s with heap:=h' }) e c d (!2) ⟨x,H,I1,ru,⟨rfl,λys hy=>by rw[I.tX hy hq];exact hx⟩,tm,λb hb=>(hf b hb).1⟩⟩
 done:=by
  intro X hP hw hK hc i pins s σ H E I hf st hg;subst hP hw hK;obtain⟨xs,hq,hx⟩:=hg;obtain⟨its,rv,p,hz⟩:=I.tuple hq;obtain⟨f0,f1,f2,f3,f4,f5⟩:=hf it (!4);have hl:=rv.length;exact wpAny_pyNext_tuple_end (I.ok.hd hc) st (show s.heap.IsTuple a its.toArray from p) (by simp;omega) λh' eb=>⟨rfl,I.turned (t':=s.toks) (λb o hb e=>eb b o hb e) f0 f1 f3 f4 f5⟩
 self:=λ_ _ _ _ _ st h=>wpAny_pyIter_tupleiter st h
theorem zd {P:a5}{w:World}{K:PySem.W.Frag}{tg:Expr}(it:Addr)(lo:Int)(n:Nat):wQ P w K tg (P' lo n) [it] it (λi h=>IsRangeIter h it (lo+(i:Nat) * 1) ((n:Int) - (i:Nat)) 1) where
 mem:=by simp
 obj:=λi h st b hb=>by
  have e:b=it:=by simpa using hb
  subst e
  exact⟨_,st,λv z=>by
   have z':Data.fields _=Data.cell v:=z;cases z'⟩
 keep:=λi h h' st k=>k it (!4) _ st
 item:=by
  intro X hP hw hK hc i pins s σ H E I hf st hg;subst hP hw hK;obtain⟨f0,f1,f2,f3,f4,f5⟩:=hf it (!4);have W:=Walks.range (prog:=X.prog) (w:=X.w) (I.ok.hd hc) it lo 1 n;refine W.item i s _ _ hg st λv h' tk hv tm kk=>?_;obtain⟨t,rfl⟩:=hv;have I1:Inv X pins σ H { s with heap:=h',toks:=tk }:=I.turned (λb o hb e=>kk b o (by simpa using hb) e) f0 f1 f3 f4 f5;refine⟨_,rfl,wR (s:={ s with heap:=h',toks:=tk }) (n := "range_iterator") tm rfl rfl (!2) ⟨.int (lo+i),H,I1,⟨t,?_⟩,⟨rfl,rfl⟩,tm,λb hb=>(hf b hb).1⟩⟩;rw[Int.mul_one]
 done:=by
  intro X hP hw hK hc i pins s σ H E I hf st hg;subst hP hw hK;obtain⟨f0,f1,f2,f3,f4,f5⟩:=hf it (!4);exact wpAny_pyNext_range_end (I.ok.hd hc) st (by have:n<=i:=hg;omega) λh' eb=>⟨rfl,I.turned (t':=s.toks) (λb o hb e=>eb b o hb e) f0 f1 f3 f4 f5⟩
 self:=λ_ _ _ _ _ st h=>wpAny_pyIter_rangeiter st h
section
variable {X:Cx}{tg:Expr}
noncomputable def Dw (K:W.Frag)(tl:TE):TI:=λσ H R=>tl σ H λx H1=>∃a,x=.ref a/\(∃xs,fU K H1 a xs)/\R (Gw K a) H1
noncomputable def KD (K:W.Frag)(tl:TE):TI:=λσ H R=>tl σ H λx H1=>∃a,x=.ref a/\(∃xs,gZ K H1 a xs)/\R (Gx K a) H1
theorem Gy {l:Expr}{tl:TE}(hl:PE X l tl):PI X tg l (Dw X.K tl):=by
 intro pins s σ H R I h;refine fc (hl pins s σ H _ I h) λv s1 ⟨x,H1,I1,r1,q1⟩=>?_;obtain⟨a,e,⟨xs,hq⟩,q⟩:=q1;subst e;cases r1;obtain⟨its,rv,p,hz⟩:=I1.list hq;refine wpAny_pyIter_list p.isList ?_;refine⟨s1.heap.objs.size,[s1.heap.objs.size],_,_,H1,rfl,I1.kept (t':=s1.toks) λb o e=>ah _ e,tY a _,⟨_,ax _ rfl,rfl,rfl⟩,λb hb=>?_,q⟩;have e:b=s1.heap.objs.size:=by simpa using hb
 subst e;exact I1.pX (ao _) (I1.hok.fresh (ao _))
theorem KH {l:Expr}{tl:TE}(hl:PE X l tl):PI X tg l (KD X.K tl):=by
 intro pins s σ H R I h;refine fc (hl pins s σ H _ I h) λv s1 ⟨x,H1,I1,r1,q1⟩=>?_;obtain⟨a,e,⟨xs,hq⟩,q⟩:=q1;subst e;cases r1;obtain⟨its,rv,p,hz⟩:=I1.tuple hq;refine wpAny_pyIter_tuple (show s1.heap.IsTuple a its.toArray from p) ?_;refine⟨s1.heap.objs.size,[s1.heap.objs.size],_,_,H1,rfl,I1.kept (t':=s1.toks) λb o e=>ah _ e,qO a _,⟨_,ax _ rfl,rfl,rfl⟩,λb hb=>?_,q⟩;have e:b=s1.heap.objs.size:=by simpa using hb
 subst e;exact I1.pX (ao _) (I1.hok.fresh (ao _))
theorem Dx {pins:List (Addr × Obj)}{σ:St}{H:Hp}{s:aw}{R:It->Hp->Prop}{E:ag->aw->Prop}{lo hi:Int}{t u v:Tok}{tk:Nat}(I:Inv X pins σ H s)(h1:-(2 ^ 62)<=lo)(h2:lo<2 ^ 62)(h3:-(2 ^ 62)<=hi)(h4:hi<2 ^ 62)
  (q:R (P' lo (hi - lo).toNat) H):aE (model X.prog X.w) X.A (pyIter (.ref s.heap.objs.size)) (Th X pins σ tg R) E { s with heap:=s.heap.push { cls:=.type "range",data:=.fields #[.int lo t,.int hi u,.int 1 v] },toks:=tk }:=by
 refine wpAny_pyIter_range (IsRange.new ..) (small_one h1 h2 h3 h4) ?_;have I1:Inv X pins σ H { s with heap:=s.heap.push { cls:=.type "range",data:=.fields #[.int lo t,.int hi u,.int 1 v] },toks:=tk }:=I.kept λb o e=>ah _ e
 refine⟨(s.heap.push { cls:=.type "range",data:=.fields #[.int lo t,.int hi u,.int 1 v] }).objs.size,[(s.heap.push { cls:=.type "range",data:=.fields #[.int lo t,.int hi u,.int 1 v] }).objs.size],_,_,H,rfl,
  I1.kept (t':=tk) λb o e=>ah _ e,zd _ lo (hi - lo).toNat,?_,λb hb=>?_,q⟩
 .have e1:lo+((0:Nat):Int) * 1=lo:=by simp
  have e2:(((hi - lo).toNat:Nat):Int) - ((0:Nat):Int)=Builtin.Range.rangeSize lo hi 1:=by rw[rangeSize_one];split<;>omega
  show IsRangeIter _ _ (lo+((0:Nat):Int) * 1) ((((hi - lo).toNat:Nat):Int) - ((0:Nat):Int)) 1;rw[e1,e2];exact ax _ rfl
 .have e:b=(s.heap.push { cls:=.type "range",data:=.fields #[.int lo t,.int hi u,.int 1 v] }).objs.size:=by simpa using hb
  subst e;exact I1.pX (ao _) (I1.hok.fresh (ao _))
noncomputable def Jb (ta:TA):TI:=λσ H R=>ta σ H λvs H1=>∃j:Int,vs=[.int j]/\-(2 ^ 62)<=j/\j<2 ^ 62/\R (P' 0 j.toNat) H1
theorem BV (hg:Gl X "range")(hm:X.mg "range" = none)(ha:PA X [a] ta)(hs:starEach [a] X.env=[(false,eval a X.env)]:=by rfl):PI X tg (.Call (.Name "range" p) [a] [] pos) (Jb ta):=by
 intro pins s σ H R I h;refine Call_ (oU I hg hm boot_range (PyProof.Rows.callWith_type1 (fc (ha pos pins s σ H _ I h) λus s1 ⟨vs,H1,I1,r1,q1⟩=>?_) hs rfl));obtain⟨j,e,q1,q2,q⟩:=q1;subst e
 cases r1 with
 | cons r rr =>
  cases rr;obtain⟨t,rfl⟩:=r;exact call_range_1 (Dx I1 (!1) (!1) q1 q2 (by simpa using q))
noncomputable def NF (wi:TI)(g:TG)(tb:TS):TS:=λD σ H=>wi σ H λJ H1=>∃W:Nat->Nat->St->Hp->Prop,(∃m,W 0 m σ H1)/\∀i m σ H,W i m σ H ->
 (J.stop i H/\D.nx σ H)\/(J.go i H/\∃N:St->Hp->Prop,(∀σ' H',N σ' H'->∃m',m' < m/\W (i+1) m' σ' H')/\∀x H',J.FY i H x H'->g x σ H' λσ2 H2=>tb { D with nx:=N,ct:=N,bk:=D.nx } σ2 H2)
noncomputable def qP (fp:List Addr)(h:Heap):List (Addr × Obj):=fp.filterMap λb=>(h.get? b).map λo=>(b,o)
theorem kD (hb:b∈fp)(e:h.get? b=some o):(b,o)∈qP fp h:=cO.mpr ⟨b,hb,by rw[e];rfl⟩
theorem BW (hp:p∈qP fp h):p.1∈fp/\h.get? p.1=some p.2:=by
 obtain⟨b,hb,e⟩:=cO.mp hp
 cases q:h.get? b with
 | none=>rw[q] at e;cases e
 | some o =>
  rw[q] at e;have e':(b,o)=p:=Option.some.inj e;subst e';exact⟨hb,q⟩
theorem Inv.pinned (I:Inv X pins σ H s)(hf:∀b∈fp,pW X pins H b)(ho:∀b∈fp,∃o,s.heap.get? b=some o/\∀v,o.data≠.cell v):Inv X (pins++qP fp s.heap) σ H s :=
 I.qp λp hp=>(aY.mp hp).elim (λz=>I.pin p (bf _ z)) λz=>by
  obtain⟨hb,e⟩:=BW z;obtain⟨f0,f1,f2,_⟩:=hf p.1 hb;obtain⟨o,e',d⟩:=ho p.1 hb;rw[e] at e';cases e';exact⟨e,f0,f1,f2,d⟩
theorem Inv.lE (I:Inv X (pins++pl) σ H s):Inv X pins σ H s:=I.qp λp hp=>I.pin p (bf _ (bn _ hp))
theorem KP (hp:PassesOwn (model X.prog X.w) X.A X.env X.xe)(hc:X.calm=true)(hi:PI X tg iter wi)(hg:PG X tg g)(hb:yW X body tb)
  (hs:∀x,foldedSetIterable iter X.env x=pure x:=by rw[3]):PS X (.For tg iter body [] pos) (NF wi g tb):=by
 intro pins s σ H D I h;refine wpAny_For (fc (hi pins s σ H _ I h) λv s1 h1=>fc h1 λQP s2 h2=>?_) hs;obtain⟨it,fp,tn,J,H2,e,I2,T,NG,f2,W,⟨m0,w0⟩,turn⟩:=h2;subst e;have KQ:∀{H':Hp},(∀b∈fp,H' b=none)->∀b∈fp,pW X pins H' b:=λhn b hb=>⟨hn b hb,(f2 b hb).2⟩;refine codeAny_forLoop_any (λn s'=>∃i σ' H',Inv X pins σ' H' s'/\tn i s'.heap/\(∀b∈fp,H' b=none)/\W i n σ' H') ?_ m0 ⟨0,σ,H2,I2,NG,λb hb=>(f2 b hb).1,w0⟩;rintro n s3 ⟨i,σ3,H3,I3,Dy,NH,w3⟩;rcases turn i n σ3 H3 w3 with⟨stop,qn⟩ | ⟨go,N,hN,step⟩
 .refine wpAny_passesOwn hp (fc (T.done X rfl rfl rfl hc i pins s3 σ3 H3 X.xe I3 (KQ NH) Dy stop) λr s4 ⟨hr,I4⟩=>?_)
  subst hr;exact wpAny_execs_nil ⟨σ3,H3,I4,qn⟩
 .refine wpAny_passesOwn hp (fc (T.item X rfl rfl rfl hc i pins s3 σ3 H3 X.xe I3 (KQ NH) Dy go) λr s4 ⟨u,hr,h4⟩=>?_)
  subst hr;refine wpAny_passesOwn hp (fc h4 λ_ s5 ⟨x,H5,I5,r5,y5,KR,QQ⟩=>?_);have UP:=I5.pinned (KQ QQ) (T.obj _ _ KR);refine wpAny_passesOwn hp (fc (hg _ s5 σ3 H5 x u _ UP r5 (step x H5 y5)) λ_ s6 ⟨σ6,H6,I6,q6⟩=>?_);refine wpAny_passesOwn hp (fc (hb _ s6 σ6 H6 _ I6 q6) λf s7 q7=>?_)
  have again:∀{σ7:St} {H7:Hp},Inv X (pins++qP fp s5.heap) σ7 H7 s7->N σ7 H7->∃m,m<n/\∃i σ' H',Inv X pins σ' H' s7/\tn i s7.heap/\(∀b∈fp,H' b=none)/\W i m σ' H':=λ{σ7 H7} I7 n7=>by
   obtain⟨m',hm,w7⟩:=hN σ7 H7 n7;refine⟨m',hm,i+1,σ7,H7,I7.lE,T.keep _ _ _ KR λb hb o e=>(I7.pin (b,o) (bf _ (bf _ (kD hb e)))).1,λb hb=>?_,w7⟩;obtain⟨o,e,d⟩:=T.obj _ _ KR b hb;exact (I7.pin (b,o) (bf _ (bf _ (kD hb e)))).2.1
  cases f with
  | next=>obtain⟨σ7,H7,I7,n7⟩:=q7;exact again I7 n7
  | cont=>obtain⟨σ7,H7,I7,n7⟩:=q7;exact again I7 n7
  | brk=>obtain⟨σ7,H7,I7,q7⟩:=q7;exact⟨σ7,H7,I7.lE,q7⟩
  | ret v=>obtain⟨x7,σ7,H7,I7,r7,q7⟩:=q7;exact⟨x7,σ7,H7,I7.lE,r7,q7⟩
end
theorem Dz {K:PySem.W.Frag}{a:Addr}{xs:List V}{g:TG}{tb:TS}{D:Ends}{σ:St}{H:Hp}(Pv:Nat->St->Hp->Prop)(h0:Pv 0 σ H)(hl:∀i σ H,i<=xs.length->Pv i σ H->fU K H a xs)
  (hs:∀i x σ H,xs[i]? = some x->Pv i σ H->g x σ H λσ2 H2=>tb { D with nx:=Pv (i+1),ct:=Pv (i+1),bk:=D.nx } σ2 H2) (hd:∀σ H,Pv xs.length σ H->D.nx σ H) :
  ∃W:Nat->Nat->St->Hp->Prop,(∃m,W 0 m σ H)/\∀i m σ H,W i m σ H ->
   ((Gw K a).stop i H/\D.nx σ H)\/((Gw K a).go i H/\∃N:St->Hp->Prop,(∀σ' H',N σ' H'->∃m',m' < m/\W (i+1) m' σ' H')/\∀x H',(Gw K a).FY i H x H'->g x σ H' λσ2 H2=>tb { D with nx:=N,ct:=N,bk:=D.nx } σ2 H2):=by
 refine⟨λi m σ H=>m=xs.length - i/\i<=xs.length/\Pv i σ H,⟨xs.length,!4,bL _,h0⟩,?_⟩;rintro i m σ H ⟨rfl,hi,p⟩;have q:=hl i σ H hi p;by_cases jB:i<xs.length
 .refine .inr ⟨⟨xs,xs[i],q,by simp[jB]⟩,Pv (i+1),λσ' H' p'=>⟨xs.length - (i+1),!1,rfl,jB,p'⟩,λx H' y=>?_⟩
  obtain⟨e,y⟩:=y;subst e;exact hs i x σ _ (y xs q) p
 .have e:i=xs.length:=by omega
  subst e;exact .inl ⟨⟨xs,q,ao _⟩,hd σ H p⟩
theorem Gz {K:PySem.W.Frag}{a:Addr}{xs:List V}{g:TG}{tb:TS}{D:Ends}{σ:St}{H:Hp}(Pv:Nat->St->Hp->Prop)(h0:Pv 0 σ H)(hl:∀i σ H,i<=xs.length->Pv i σ H->gZ K H a xs)
  (hs:∀i x σ H,xs[i]? = some x->Pv i σ H->g x σ H λσ2 H2=>tb { D with nx:=Pv (i+1),ct:=Pv (i+1),bk:=D.nx } σ2 H2) (hd:∀σ H,Pv xs.length σ H->D.nx σ H) :
  ∃W:Nat->Nat->St->Hp->Prop,(∃m,W 0 m σ H)/\∀i m σ H,W i m σ H ->
   ((Gx K a).stop i H/\D.nx σ H)\/((Gx K a).go i H/\∃N:St->Hp->Prop,(∀σ' H',N σ' H'->∃m',m' < m/\W (i+1) m' σ' H')/\∀x H',(Gx K a).FY i H x H'->g x σ H' λσ2 H2=>tb { D with nx:=N,ct:=N,bk:=D.nx } σ2 H2):=by
 refine⟨λi m σ H=>m=xs.length - i/\i<=xs.length/\Pv i σ H,⟨xs.length,!4,bL _,h0⟩,?_⟩;rintro i m σ H ⟨rfl,hi,p⟩;have q:=hl i σ H hi p;by_cases jB:i<xs.length
 .refine .inr ⟨⟨xs,xs[i],q,by simp[jB]⟩,Pv (i+1),λσ' H' p'=>⟨xs.length - (i+1),!1,rfl,jB,p'⟩,λx H' y=>?_⟩
  obtain⟨e,y⟩:=y;subst e;exact hs i x σ _ (y xs q) p
 .have e:i=xs.length:=by omega
  subst e;exact .inl ⟨⟨xs,q,ao _⟩,hd σ H p⟩
noncomputable abbrev R2:=V->V->Hp->VK->Prop
noncomputable def kC (X:Cx)(f:ag->ag->Sem ag)(r:R2):Prop :=
 ∀(pins:List (Addr × Obj)) (s:aw) (σ:St) (H:Hp) (x y:V) (v u:ag) (Q:VK),Inv X pins σ H s->RelV x v->RelV y u->r x y H Q ->
  aE (model X.prog X.w) X.A (f v u) (EP X pins σ Q) X.xe s
noncomputable def Qa (X:Cx)(f:ag->Sem ag)(r:V->Hp->VK->Prop):Prop :=
 ∀(pins:List (Addr × Obj)) (s:aw) (σ:St) (H:Hp) (x:V) (v:ag) (Q:VK),Inv X pins σ H s->RelV x v->r x H Q ->
  aE (model X.prog X.w) X.A (f v) (EP X pins σ Q) X.xe s
noncomputable def ff (X:Cx)(f:ag)(r:List V->Hp->VK->Prop):Prop :=
 ∀(pins:List (Addr × Obj)) (s:aw) (σ:St) (H:Hp) (xs:List V) (us:List ag) (Q:VK),Inv X pins σ H s->dQ xs us->r xs H Q ->
  aE (model X.prog X.w) X.A (call f us) (EP X pins σ Q) X.xe s
noncomputable def GA (r:R2)(ta tb:TE):TE:=λσ H Q=>ta σ H λx H1=>tb σ H1 λy H2=>r x y H2 Q
noncomputable def Ti (r:V->Hp->VK->Prop)(ta:TE):TE:=λσ H Q=>ta σ H λx H1=>r x H1 Q
noncomputable def rI (C:Int->Int->Prop)(g:Int->Int->V):R2:=λx y H Q=>∃i j,x=.int i/\y=.int j/\C i j/\Q (g i j) H
noncomputable def Jc (g:Int->Int->V):R2:=λx y H Q=>∃i j,x=.int i/\y=.int j/\Q (g i j) H
noncomputable def rU (g:Int->V):V->Hp->VK->Prop:=λx H Q=>∃i,x=.int i/\Q (g i) H
section
variable {X:Cx}{a b c:Expr}{ta tb tc:TE}{pos:Pos}
theorem KU (ha:PE X a ta)(hb:PE X b tb){pins:List (Addr × Obj)}{s:aw}{σ:St}{H:Hp}{R:V->V->Hp->Prop}(I:Inv X pins σ H s)
  (h:ta σ H λx H1=>tb σ H1 λy H2=>R x y H2) {Q:ag->aw->Prop} {f:ag->ag->Sem ag}
  (hf:∀v u s2 x y H2,Inv X pins σ H2 s2->RelV x v->RelV y u->R x y H2->aE (model X.prog X.w) X.A (f v u) Q X.xe s2) :
  aE (model X.prog X.w) X.A (eval a X.env) (λv s₁=>aE (model X.prog X.w) X.A (eval b X.env) (λu s₂=>aE (model X.prog X.w) X.A (f v u) Q X.xe s₂) X.xe s₁) X.xe s:=by
 refine fc (ha pins s σ H _ I h) λv s1 ⟨x,H1,I1,r1,q1⟩=>?_;refine fc (hb pins s1 σ H1 _ I1 q1) λu s2 ⟨y,H2,I2,r2,q2⟩=>?_;exact hf v u s2 x y H2 I2 r1 r2 q2
theorem NI {op:Operator}{r:R2}(ho:kC X (binaryOp op) r)(ha:PE X a ta)(hb:PE X b tb):PE X (.BinOp a op b pos) (GA r ta tb):=by
 intro pins s σ H Q I h;exact wpAny_BinOp (KU ha hb I h λv u s2 x y H2 I2 rx ry q=>ho pins s2 σ H2 x y v u Q I2 rx ry q)
theorem NJ (ho:Qa X (unaryOp op) r)(ha:PE X a ta):PE X (.UnaryOp op a pos) (Ti r ta):=by
 intro pins s σ H Q I h;exact UnaryOp_ (fc (ha pins s σ H _ I h) λv s1 ⟨x,H1,I1,r1,q1⟩=>ho pins s1 σ H1 x v Q I1 r1 q1)
theorem Qb {f:ag->ag->Sem ag}{C:Int->Int->Prop}{g:Int->Int->Int}
  (rule:∀(i j:Int) (t u:Tok) (s:aw) (Q:ag->aw->Prop) (E:ag->aw->Prop),C i j->Q (.int (g i j) s.toks) { s with toks:=s.toks+1 }->aE (model X.prog X.w) X.A (f (.int i t) (.int j u)) Q E s) :
  kC X f (rI C λi j=>.int (g i j)):=by
 intro pins s σ H x y v u Q I rx ry h;obtain⟨i,j,rfl,rfl,hc,q⟩:=h;obtain⟨t,rfl⟩:=rx;obtain⟨t',rfl⟩:=ry;exact rule i j t t' s _ _ hc ⟨.int (g i j),H,I.tok _,⟨_,rfl⟩,q⟩
theorem NK {f:ag->ag->Sem ag}{g:Int->Int->Int}
  (rule:∀(i j:Int) (t u:Tok) (s:aw) (Q:ag->aw->Prop) (E:ag->aw->Prop),Q (.int (g i j) s.toks) { s with toks:=s.toks+1 }->aE (model X.prog X.w) X.A (f (.int i t) (.int j u)) Q E s) :
  kC X f (Jc λi j=>.int (g i j)):=by
 intro pins s σ H x y v u Q I rx ry h;obtain⟨i,j,rfl,rfl,q⟩:=h;obtain⟨t,rfl⟩:=rx;obtain⟨t',rfl⟩:=ry;exact rule i j t t' s _ _ ⟨.int (g i j),H,I.tok _,⟨_,rfl⟩,q⟩
theorem KY {f:ag->ag->Sem ag}{g:Int->Int->Bool}
  (rule:∀(i j:Int) (t u:Tok) (s:aw) (Q:ag->aw->Prop) (E:ag->aw->Prop),Q (.bool (g i j)) s->aE (model X.prog X.w) X.A (f (.int i t) (.int j u)) Q E s) :
  kC X f (Jc λi j=>.bl (g i j)):=by
 intro pins s σ H x y v u Q I rx ry h;obtain⟨i,j,rfl,rfl,q⟩:=h;obtain⟨t,rfl⟩:=rx;obtain⟨t',rfl⟩:=ry;exact rule i j t t' s _ _ ⟨.bl (g i j),H,I,rfl,q⟩
noncomputable def KZ (i j:Int):Prop:=0<j/\j<1073741824
noncomputable def K0 (i j:Int):Prop:=0<=j/\j<=1000000/\i.natAbs<2 ^ 64
noncomputable def ze (i j:Int):Prop:=(-(2 ^ 64)<i/\i<2 ^ 64)\/(-(2 ^ 64)<j/\j<2 ^ 64)
theorem ze.ok (h:ze i j):IntMulOk i j:=by
 rcases h with⟨h1,h2⟩ | ⟨h1,h2⟩
 .exact .of_left (intBits_le_64 h1 h2)
 .exact .of_right (intBits_le_64 h1 h2)
theorem lF:kC X (binaryOp .Add) (Jc λi j=>.int (i+j)):=NK λ_ _ _ _ _ _ _ q=>add_int q
theorem K1:kC X (binaryOp .Sub) (Jc λi j=>.int (i - j)):=NK λ_ _ _ _ _ _ _ q=>sub_int q
theorem lG:kC X (binaryOp .Mult) (rI ze λi j=>.int (i * j)):=Qb λ_ _ _ _ _ _ _ hc q=>mul_int q hc.ok
theorem AJ:kC X (binaryOp .FloorDiv) (rI KZ λi j=>.int (i / j)):=Qb λi j _ _ _ _ _ hc q=>by
 have h1:(0:Int)<j:=hc.1;have h2:j<1073741824:=hc.2;exact floordiv_int (!1) (by rw[Int.fdiv_eq_ediv_of_nonneg i (!1)];exact q) (.inl (PyProof.noPylong_small (!1)))
theorem kE:kC X (binaryOp .Mod) (rI (λ_ j=>0<j) λi j=>.int (i % j)):=Qb λi j _ _ _ _ _ hc q=>by
 have h1:(0:Int)<j:=hc;exact mod_int' (!1) (by rw[Int.fmod_eq_emod_of_nonneg i (!1)];exact q)
theorem K2:kC X (binaryOp .Pow) (rI K0 λi j=>.int (i ^ j.toNat)):=Qb λ_ _ _ _ _ _ _ hc q=>pow_int_small hc.1 hc.2.1 hc.2.2 q
theorem UQ {f:ag->Sem ag}{g:Int->Int}
  (rule:∀(i:Int) (t:Tok) (s:aw) (Q:ag->aw->Prop) (E:ag->aw->Prop),Q (.int (g i) s.toks) { s with toks:=s.toks+1 }->aE (model X.prog X.w) X.A (f (.int i t)) Q E s) :
  Qa X f (rU λi=>.int (g i)):=by
 intro pins s σ H x v Q I rx h;obtain⟨i,rfl,q⟩:=h;obtain⟨t,rfl⟩:=rx;exact rule i t s _ _ ⟨.int (g i),H,I.tok _,⟨_,rfl⟩,q⟩
theorem K3:Qa X (unaryOp .USub) (rU λi=>.int (-i)):=UQ λ_ _ _ _ _ q=>neg_int q
end
noncomputable def QR:V->V->Bool
 | .gJ,.gJ=>true | .gJ,.int _=>true | .int _,.gJ=>true | .gJ,.bl _=>true | .bl _,.gJ=>true | .gJ,.str _=>true | .str _,.gJ=>true
 | .int _,.int _=>true | .bl _,.bl _=>true | .str _,.str _=>true | .Ge _,.Ge _=>true
 | .int _,.str _=>true | .str _,.int _=>true | .bl _,.str _=>true | .str _,.bl _=>true
 | _,_=>false
noncomputable def UR:R2:=λx y H Q=>QR x y=true/\Q (.bl (!decide (x=y))) H
theorem GB:decide (V.int i=V.int j)=(i == j):=by
 rw[cJ];simp
theorem K4:decide (V.bl i=V.bl j)=(i == j):=by
 rw[cJ];simp
theorem GC:decide (V.str i=V.str j)=(i == j):=by
 rw[cJ];simp
theorem GD:decide (V.Ge i=V.Ge j)=(i.toList == j.toList):=by
 rw[cJ];cases i;cases j;simp
section
variable {X:Cx}{a b c:Expr}{ta tb tc:TE}{pos:Pos}
theorem f9 (I:Inv X pins σ H s)(q:Q (.bl k) H)(e:k=k'):EP X pins σ Q (.bool k') s:=by
 subst e;exact⟨.bl k,H,I,rfl,q⟩
theorem NL:kC X (compareOp .NotEq) UR:=by
 intro pins s σ H x y v u Q I rx ry h;obtain⟨hs,q⟩:=h
 cases x with
 | gJ =>
  cases rx
  cases y with
  | gJ=>cases ry;exact PySem.EqNone.ne_none_none (f9 I q (!4))
  | bl j=>cases ry;exact PySem.EqNone.ne_none_bool (f9 I q (!4))
  | int j=>obtain⟨t',rfl⟩:=ry;exact PySem.EqNone.ne_none_int (f9 I q (!4))
  | str j=>obtain⟨t',rfl⟩:=ry;exact PySem.EqNone.ne_none_str (f9 I q (!4))
  | _=>exact absurd (show false=true from hs) bc
 | bl i =>
  cases rx
  cases y with
  | gJ=>cases ry;exact PySem.EqNone.ne_bool_none (f9 I q (!4))
  | bl j=>cases ry;exact ne_bool (f9 I q (congrArg not K4))
  | str j=>obtain⟨t',rfl⟩:=ry;exact PySem.EqMixed.ne_bool_str (f9 I q (!4))
  | _=>exact absurd (show false=true from hs) bc
 | int i =>
  obtain⟨t,rfl⟩:=rx
  cases y with
  | gJ=>cases ry;exact PySem.EqNone.ne_int_none (f9 I q (!4))
  | int j=>obtain⟨t',rfl⟩:=ry;exact ne_int (f9 I q (congrArg not GB))
  | str j=>obtain⟨t',rfl⟩:=ry;exact PySem.EqMixed.ne_int_str (f9 I q (!4))
  | _=>exact absurd (show false=true from hs) bc
 | str i =>
  obtain⟨t,rfl⟩:=rx
  cases y with
  | gJ=>cases ry;exact PySem.EqNone.ne_str_none (f9 I q (!4))
  | bl j=>cases ry;exact PySem.EqMixed.ne_str_bool (f9 I q (!4))
  | int j=>obtain⟨t',rfl⟩:=ry;exact PySem.EqMixed.ne_str_int (f9 I q (!4))
  | str j=>obtain⟨t',rfl⟩:=ry;exact ne_str (f9 I q (congrArg not GC))
  | _=>exact absurd (show false=true from hs) bc
 | Ge i =>
  obtain⟨t,rfl⟩:=rx
  cases y with
  | Ge j=>obtain⟨t',rfl⟩:=ry;exact W.ne_bytes (f9 I q (congrArg not GD))
  | _=>exact absurd (show false=true from hs) bc
 | _=>cases y<;>exact absurd (show false=true from hs) bc
theorem Jd:kC X (compareOp .Lt) (Jc λi j=>.bl (decide (i<j))):=KY λ_ _ _ _ _ _ _ q=>lt_int q
theorem Je:kC X (compareOp .Gt) (Jc λi j=>.bl (decide (j<i))):=KY λ_ _ _ _ _ _ _ q=>gt_int q
theorem Jf:kC X (compareOp .GtE) (Jc λi j=>.bl (decide (j<=i))):=KY λ_ _ _ _ _ _ _ q=>ge_int q
theorem K5:kC X (compareOp .Is) (λx y H Q=>y=.gJ/\Q (.bl (decide (x=.gJ))) H):=by
 intro pins s σ H x y v u Q I rx ry h;obtain⟨rfl,q⟩:=h;cases ry;refine is_none_gen (f9 I q ?_)
 cases x<;>first
  | (cases rx;rfl)
  | (obtain⟨t,rfl⟩:=rx;rfl)
theorem GF:kC X (compareOp .IsNot) (λx y H Q=>y=.gJ/\Q (.bl (!decide (x=.gJ))) H):=by
 intro pins s σ H x y v u Q I rx ry h;obtain⟨rfl,q⟩:=h;cases ry;refine isnot_none_gen (f9 I q ?_)
 cases x<;>first
  | (cases rx;rfl)
  | (obtain⟨t,rfl⟩:=rx;rfl)
theorem kC.or {f:ag->ag->Sem ag}{r r':R2}(h:kC X f r)(h':kC X f r'):kC X f (λx y H Q=>r x y H Q\/r' x y H Q):=by
 intro pins s σ H x y v u Q I rx ry q;rcases q with q | q
 .exact h pins s σ H x y v u Q I rx ry q
 .exact h' pins s σ H x y v u Q I rx ry q
theorem ji (b:Expr)(h:op≠.In:=by decide)(h2:op≠.NotIn:=by decide):behindInMarks op b=false:=by
 have e1:(op == CmpOp.In)=false:=by cases op<;>first | rfl | exact absurd rfl h
 have e2:(op == CmpOp.NotIn)=false:=by cases op<;>first | rfl | exact absurd rfl h2
 cases b<;>simp[behindInMarks,e1,e2]
theorem GG {op:CmpOp}{r:R2}(ho:kC X (compareOp op) r)(ha:PE X a ta)(hb:PE X b tb)(hm:behindInMarks op b=false):PE X (.Compare a [op] [b] pos) (GA r ta tb):=by
 intro pins s σ H Q I h;exact wpAny_Compare1 (KU ha hb I h λv u s2 x y H2 I2 rx ry q=>ho pins s2 σ H2 x y v u Q I2 rx ry q) hm
noncomputable def Jg (t:TE):TT:=λσ H Q=>t σ H λx H'=>∃k,x=.bl k/\Q k H'
theorem GH (ho:kC X (compareOp op) r)(ha:PE X a ta)(hb:PE X b tb)(hm:behindInMarks op b=false):PT X (.Compare a [op] [b] pos) (Jg (GA r ta tb)):=by
 intro pins s σ H Q I h
 refine wpAny_isTrue_Compare1 (fc (ha pins s σ H _ I h) λv s1 ⟨x,H1,I1,r1,q1⟩=>fc (hb pins s1 σ H1 _ I1 q1) λu s2 ⟨y,H2,I2,r2,q2⟩ =>
  fc (ho pins s2 σ H2 x y v u _ I2 r1 r2 q2) λc s3 ⟨z,H3,I3,r3,k,e,q3⟩=>?_) hm
 subst e;cases r3;exact wpAny_truthy_bool ⟨H3,I3,q3⟩
theorem vp:(aA:Nat)<2 ^ 63:=by rw[sizeLine_eq];decide
theorem zg:kC X (binaryOp .Add) (λx y H Q=>∃i j,x=.str i/\y=.str j/\i.length+j.length<=aA/\Q (.str (i++j)) H):=by
 intro pins s σ H x y v u Q I rx ry h;obtain⟨i,j,rfl,rfl,hz,q⟩:=h;obtain⟨t,rfl⟩:=rx;obtain⟨t',rfl⟩:=ry;exact add_str (λt' tk=>⟨.str (i++j),H,I.tok _,⟨_,rfl⟩,q⟩) hz
theorem vals1 (r:dQ [x] us):∃u,us=[u]/\RelV x u:=by
 cases r with
 | cons r1 r2=>cases r2;exact⟨_,rfl,r1⟩
theorem vals2 (r:dQ [x,y] us):∃u w',us=[u,w']/\RelV x u/\RelV y w':=by
 cases r with
 | cons r1 r2 =>
  cases r2 with
  | cons r3 r4=>cases r4;exact⟨_,_,rfl,r1,r3⟩
theorem DA:ff X (.builtin "abs") (λxs H Q=>∃i,xs=[.int i]/\Q (.int (if i<0 then -i else i)) H):=by
 intro pins s σ H xs us Q I r h;obtain⟨i,rfl,q⟩:=h;obtain⟨u,rfl,t,rfl⟩:=vals1 r;exact call_abs_int λu tk=>⟨.int (if i<0 then -i else i),H,I.tok _,⟨_,rfl⟩,q⟩
theorem BX (hc:X.calm=true):ff X (.builtin "max") (λxs H Q=>∃i j,xs=[.int i,.int j]/\Q (.int (if j > i then j else i)) H):=by
 intro pins s σ H xs us Q I r h;obtain⟨i,j,rfl,q⟩:=h;obtain⟨u,w',rfl,⟨t,rfl⟩,⟨t',rfl⟩⟩:=vals2 r;refine max_two_ints (I.ok.hd hc) λh' tk k=>⟨_,H,I.kept k,?_,q⟩;by_cases hj:j > i
 .rw[if_pos hj,if_pos hj];exact⟨_,rfl⟩
 .rw[if_neg hj,if_neg hj];exact⟨_,rfl⟩
theorem BY (hc:X.calm=true):ff X (.builtin "min") (λxs H Q=>∃i j,xs=[.int i,.int j]/\Q (.int (if j<i then j else i)) H):=by
 intro pins s σ H xs us Q I r h;obtain⟨i,j,rfl,q⟩:=h;obtain⟨u,w',rfl,⟨t,rfl⟩,⟨t',rfl⟩⟩:=vals2 r;refine min_two_ints (I.ok.hd hc) λh' tk k=>⟨_,H,I.kept k,?_,q⟩;by_cases hj:j<i
 .rw[if_pos hj,if_pos hj];exact⟨_,rfl⟩
 .rw[if_neg hj,if_neg hj];exact⟨_,rfl⟩
theorem tZ:ff X (.type "int") (λxs H Q=>(∃i,xs=[.int i]/\Q (.int i) H)\/∃k,xs=[.bl k]/\Q (.int (if k then 1 else 0)) H):=by
 intro pins s σ H xs us Q I r h;rcases h with⟨i,rfl,q⟩ | ⟨k,rfl,q⟩
 .obtain⟨u,rfl,t,rfl⟩:=vals1 r
  exact call_int_int ⟨.int i,H,I,⟨_,rfl⟩,q⟩
 .obtain⟨u,rfl,r1⟩:=vals1 r
  cases r1;exact call_int_bool ⟨.int (if k then 1 else 0),H,I.tok _,⟨_,rfl⟩,q⟩
end
structure K6 (h:Heap) (x dx C:Addr) (mA:Str->Option ag):Prop where
 obj:h.get? x=some (W.instObj C dx)
 ns:h.Ns1 dx mA
 ne:dx≠x
theorem BZ {h:Heap}{dx:Addr}{mA:Str->Option ag}(n:h.Ns1 dx mA):∃od,h.get? dx=some od/\∀name,W.lookIn name od=some (mA name):=by
 obtain⟨o,es,ep,ho,hd,hk,_,hm⟩:=n;refine⟨o,ho,λname=>?_⟩;have e:=hm name;unfold nsFind findBy at e;rw[<- Array.find?_toList] at e;unfold W.lookIn;rw[hd];dsimp only;split
 .rename_i y q
  rw[q] at e;exact congrArg some e
 .rename_i q
  rw[q] at e
  have a:es.toList.any (·.refKey)=false:=by
   rw[List.any_eq_false];intro y hy;obtain⟨z,t,K7⟩:=hk y (Array.mem_toList_iff.mp hy);simp[DictEntry.refKey,K7]
  have a':¬ es.toList.any (·.refKey)=true:=by rw[a];exact bc
  rw[if_neg a'];exact congrArg some e
theorem K6.look (I:K6 h x dx C mA):∃od,W.InstAt h x (W.instObj C dx) C (some od)/\∀name,W.lookIn name od=some (mA name) :=
 let ⟨od,ho,hl⟩:=BZ I.ns
 ⟨od,⟨I.obj,rfl,rfl,ho⟩,hl⟩
theorem nU.some_of (r:nU (some v) o):∃u,o=some u/\RelV v u:=by
 cases o with
 | none=>exact (show False from r).elim
 | some u=>exact⟨u,rfl,r⟩
section
theorem GI (hok:lC P w H h)(e:H a=some (.ins C dx fs)):∃mA,K6 h a dx C mA/\(∀f,nU (fs.lookup f) (mA f))/\PySem.Within mA (fs.map (·.1))/\fs.length<=1000/\H dx=some (.own a):=by
 obtain⟨d,z,ne,ob,mA,n,r,q⟩:=(show eX P w H h a (.ins C dx fs) from hok a _ e);exact⟨mA,⟨ob,n,ne⟩,r,q,z,d⟩
end
structure QU (K:W.Frag) (C:Addr):Prop where
 pg:W.plainGet K C Str.empty=true
 hd:W.hasDictIn K C=true
 po:W.plainOver K C=true
 sa:W.findIn K (.ref C) "__setattr__" = some (some (.builtin "object.__setattr__"))
theorem QU.get {K:W.Frag}{C:Addr}(c:QU K C)(f:Str):W.plainGet K C f=true:=c.pg
section
inductive mU (K:W.Frag) (H:Hp):V->ag->Prop where
 | gJ:mU K H .gJ (.type "NoneType")
 | bl (x:Bool):mU K H (.bl x) (.type "bool")
 | int (i:Int):mU K H (.int i) (.type "int")
 | str (x:Str):mU K H (.str x) (.type "str")
 | MY (x:UInt64):mU K H (.MY x) (.type "float")
 | lst {a:Addr} {xs:List V} (e:H a=some (.lst xs)):mU K H (.ref a) (.type "list")
 | nj {a:Addr} {o:Obj} {xs:List V} (e:H a=some (.nj o (.lst xs))):mU K H (.ref a) (.type "list")
 | tup {a:Addr} {xs:List V} (e:H a=some (.tup xs)):mU K H (.ref a) (.type "tuple")
 | dK {a:Addr} {kvs:List (Key × V)} (e:H a=some (.dK kvs)):mU K H (.ref a) (.type "dict")
 | dT {a:Addr} {kvs:List (List Key × V)} (e:H a=some (.dT kvs)):mU K H (.ref a) (.type "dict")
 | ins {a C dx:Addr} {fs:List (Str × V)} (e:H a=some (.ins C dx fs)) (cl:QU K C) (ha:W.findIn K (.ref C) "__class__" = some (some (.builtin "object.__class__")))
   (hn:W.specialIn K (.builtin "object.__class__") "__get__" = some (some (.builtin "getset_descriptor.__get__"))) (Tj:W.takesIn K (.builtin "object.__class__")=some true)
   (hm:W.mroIn K C (.type "object")=some true):mU K H (.ref a) (.ref C)
theorem B0 {x:V}{u t:ag}(I:Inv X pins σ H s)(rx:RelV x u)(ty:mU X.K H x t)(e:W.kitOne X.K t c=some b)(h:∀tk,Q (.bool b) { s with toks:=tk }) :
  aE (model X.prog X.w) A (call (.builtin "isinstance") [u,c]) Q E s:=by
 cases ty with
 | gJ=>cases (show u=ag.none from rx);exact W.kia_one W.kitx_none I.wJ True.intro e (λz=>nomatch z) h
 | bl y=>cases (show u=ag.bool y from rx);exact W.kia_one W.kitx_bool I.wJ True.intro e (λz=>nomatch z) h
 | int i=>obtain⟨t,q⟩:=(show ∃t,u=ag.int i t from rx);cases q;exact W.kia_one W.kitx_int I.wJ True.intro e (λz=>nomatch z) h
 | str y=>obtain⟨t,q⟩:=(show ∃t,u=ag.str y t from rx);cases q;exact W.kia_one W.kitx_str I.wJ True.intro e (λz=>nomatch z) h
 | MY y=>obtain⟨t,q⟩:=(show ∃t,u=ag.float y t from rx);cases q;exact W.kia_one W.kitx_float I.wJ True.intro e (λz=>nomatch z) h
 | @lst a xs ea =>
  cases (show u=ag.ref a from rx);obtain⟨_,_,n,_,h1⟩:=(show eX X.prog X.w H s.heap a (.lst xs) from I.hok a _ ea);exact W.kia_one W.kitx_list I.wJ ⟨_,h1,rfl⟩ e (λz=>nomatch z) h
 | @nj a ob xs ea =>
  cases (show u=ag.ref a from rx);obtain⟨_,_,_,n,_,h1⟩:=(show eX X.prog X.w H s.heap a (.nj ob (.lst xs)) from I.hok a _ ea);exact W.kia_one W.kitx_list I.wJ ⟨_,h1,rfl⟩ e (λz=>nomatch z) h
 | @tup a xs ea =>
  cases (show u=ag.ref a from rx);obtain⟨_,_,_,p⟩:=(show eX X.prog X.w H s.heap a (.tup xs) from I.hok a _ ea);obtain⟨o,h1,h2,_⟩:=p;exact W.kia_one W.kitx_tuple I.wJ ⟨o,h1,h2⟩ e (λz=>nomatch z) h
 | @dK a kvs ea =>
  cases (show u=ag.ref a from rx);obtain⟨_,_,vs,_,p⟩:=(show eX X.prog X.w H s.heap a (.dK kvs) from I.hok a _ ea);obtain⟨o,es,ep,h1,h2,_⟩:=p;exact W.kia_one W.kitx_dict I.wJ ⟨o,h1,h2.1⟩ e (λz=>nomatch z) h
 | @dT a kvs ea =>
  cases (show u=ag.ref a from rx);obtain⟨_,_,xs,_,o,es,ep,h1,h2,_⟩:=(show eX X.prog X.w H s.heap a (.dT kvs) from I.hok a _ ea);exact W.kia_one W.kitx_dict I.wJ ⟨o,h1,h2.1⟩ e (λz=>nomatch z) h
 | @ins a C dx fs ea cl ha hn Tj hm =>
  cases (show u=ag.ref a from rx);obtain⟨mA,O,_⟩:=GI I.hok ea;obtain⟨od,J,_⟩:=O.look;exact W.kia_one (W.kitx_own (cl.get _) cl.hd ha hn Tj hm) I.wJ J e (λz=>nomatch z) h
end
structure f6 (k:Nat) (A:Around):Prop where
 hd:A.handled=none
 dp:A.depth+3 * k+5<recursionLimit
 un:A.units+16 * k+200<cLine
 gd:A.guards=some []
theorem f6.mono (r:f6 k A)(h:j<=k):f6 j A:=⟨r.hd,by have:=r.dp;omega,by have:=r.un;omega,r.gd⟩
theorem f6.deeper (r:f6 (k+1) A)(env:Env):f6 k (A.deeper env) :=
 ⟨r.hd,by have:=r.dp;show A.depth+1+3 * k+5<_;omega,by have:=r.un;show A.units+3+16 * k+200<_;omega,r.gd⟩
theorem f6.depth (r:f6 k A):A.depth<recursionLimit:=by have:=r.dp;omega
theorem f6.units (r:f6 k A):A.units+64<cLine:=by have:=r.un;omega
noncomputable def K8:TA:=λ_ H Q=>Q [] H
noncomputable def DB (ta:TE)(tr:TA):TA:=λσ H Q=>ta σ H λx H1=>tr σ H1 λxs H2=>Q (x::xs) H2
section
variable {X:Cx}{e:Expr}{es:List Expr}{te:TE}{t:TA}{pos:Pos}
theorem K9:PA X [] K8:=λ_ _ _ _ H Q I h=>Calls.spliced_nil ⟨[],H,I,.nil,h⟩
theorem GJ (ha:PE X e te)(hr:PA X es t)(hs:starEach (e::es) X.env=(false,eval e X.env)::starEach es X.env:=by rfl):PA X (e::es) (DB te t):=by
 intro pos pins s σ H Q I h;rw[hs];show aE _ _ (spliced ((false,eval e X.env)::backTo pos (starEach es X.env))) _ _ s;refine Calls.spliced_cons (fc (ha pins s σ H _ I h) λu s1 ⟨x,H1,I1,r1,q1⟩=>?_);exact fc (hr pos pins s1 σ H1 _ I1 q1) λus s2 ⟨xs,H2,I2,r2,q2⟩=>⟨x::xs,H2,I2,.cons r1 r2,q2⟩
noncomputable def NM (t:TA):TE:=λσ H Q=>t σ H λxs H1=>xs.length<=aA/\∀p,H1 p=none->Q (.ref p) (d3 H1 p (.tup xs))
noncomputable def NN (t:TA):TE:=λσ H Q=>t σ H λxs H1=>xs.length<=aA/\∀p,H1 p=none->Q (.ref p) (d3 H1 p (.lst xs))
theorem La {x1}(h:PA X es t):PE X (.Tuple es x1 pos) (NM t):=by
 intro pins s σ H Q I hq;refine wpAny_Tuple_spliced (fc (h pos pins s σ H _ I hq) λus s1 ⟨xs,H1,I1,r,z,q⟩=>⟨by rw[<- r.length];exact z,?_⟩);have hf:H1 s1.heap.objs.size=none:=I1.hok.fresh (ao _);refine⟨.ref s1.heap.objs.size,d3 H1 s1.heap.objs.size (.tup xs),I1.laid (t':=s1.toks) (λb u e=>ah _ e) (ao _) ?_,rfl,q _ hf⟩;exact⟨z,us,r,⟨_,ax _ rfl,rfl,_,rfl,rfl⟩⟩
theorem Lb (h:PA X es t):PE X (.List es pos) (NN t):=by
 intro pins s σ H Q I hq;refine wpAny_List_spliced (fc (h pos pins s σ H _ I hq) λus s1 ⟨xs,H1,I1,r,z,q⟩=>⟨by rw[<- r.length];exact z,?_⟩);have hf:H1 s1.heap.objs.size=none:=I1.hok.fresh (ao _);refine⟨.ref s1.heap.objs.size,d3 H1 s1.heap.objs.size (.lst xs),I1.laid (t':=s1.toks) (λb u e=>ah _ e) (ao _) ?_,rfl,q _ hf⟩;exact⟨z,us,0,r,ax _ rfl⟩
end
noncomputable abbrev Sp:=List V->Hp->VK->XK->Prop
noncomputable abbrev DC:=List Env->Hp->aw->XK->ag->aw->Prop
structure GK (P:a5) (w:World) (K:W.Frag) (mg:Str->Option ag) (base:Heap) (A:Around) (outer:List Env) (s:aw) (H:Hp):Prop where
 frames:A.frames=some outer
 mod:Mod K mg base
 bs:∀b o,base.get? b=some o->s.heap.get? b=some o/\H b=none
 Kk:base.objs.size<=s.heap.objs.size
 qM:s.heap.FunFrames base outer
 M0:∀b∈za outer,H b=none
 hok:lC P w H s.heap
 bare:AllBare s.gens
noncomputable def CE (outer:List Env)(P:a5)(w:World)(H:Hp)(s:aw)(Q:VK)(u:ag)(s':aw):Prop :=
 ∃v H',s'.os=s.os/\AllBare s'.gens/\Un (za outer) [] H H' s.heap s'.heap/\lC P w H' s'.heap/\RelV v u/\Q v H'
noncomputable def CR (CX:DC)(outer:List Env)(P:a5)(w:World)(H:Hp)(s:aw)(Q:VK)(E:XK)(r:Result)(s':aw):Prop :=
 match r with
 | .ok (.ret u)=>CE outer P w H s Q u s'
 | .ok _=>False
 | .error e=>CX outer H s E e s'
structure lB (P:a5) (w:World) (K:W.Frag) (mg:Str->Option ag) (base:Heap) (CX:DC) (k:Nat) (f:Addr) (fd:bH) (ps:List Str) (sp:Sp):Prop where
 len:∀vs H Q E,sp vs H Q E->vs.length=ps.length
 run:∀(A:Around) (outer:List Env) (s:aw) (H:Hp) (args:Args) (us:List ag) (vs:List V) (Q:VK) (E:XK),f6 k A->GK P w K mg base A outer s H->BindsTo s fd args (ps.zip us)->dQ vs us->sp vs H Q E ->
  codeAny (model P w) A (.call (.ref f) args) (CR CX outer P w H s Q E) s
theorem lB.mono {P:a5}{w:World}{K:W.Frag}{mg:Str->Option ag}{base:Heap}{CX:DC}{j k:Nat}{f:Addr}{fd:bH}{ps:List Str}{sp:Sp}(F:lB P w K mg base CX j f fd ps sp)(h:j<=k) :
  lB P w K mg base CX k f fd ps sp:=⟨F.len,λA outer s H args us vs Q E hr=>F.run A outer s H args us vs Q E (hr.mono h)⟩
theorem lB.imp {P:a5}{w:World}{K:W.Frag}{mg:Str->Option ag}{base:Heap}{CX:DC}{k:Nat}{f:Addr}{fd:bH}{ps:List Str}{sp NO:Sp}(F:lB P w K mg base CX k f fd ps sp)
  (h:∀vs H Q E,NO vs H Q E->sp vs H Q E):lB P w K mg base CX k f fd ps NO :=
 ⟨λvs H Q E q=>F.len vs H Q E (h _ _ _ _ q),λA outer s H args us vs Q E hr he hb hv hs=>F.run A outer s H args us vs Q E hr he hb hv (h _ _ _ _ hs)⟩
section
theorem Inv.QV (I:Inv X pins σ H s):GK X.prog X.w X.K X.mg X.base X.A X.stack s H :=
 ⟨I.ok.frames,I.ok.mod,I.bs,bj I.ok.Kk I.sz,I.stack,I.AH,I.hok,I.bare⟩
theorem Inv.after {Q:VK}{u:ag}(I:Inv X pins σ H s)(h:CE X.stack X.prog X.w H s Q u s'):EP X pins σ Q u s':=by
 obtain⟨v,H',os,bare,un,hok,r,q⟩:=h;obtain⟨hh,g,d,t,QX⟩:=s';obtain rfl:QX=s.os:=os;exact⟨v,H',I.call (h':=hh) (g':=g) (d':=d) (t':=t) (ch:=[]) un hok bare (λb z=>absurd z (!4)),r,q⟩
end
noncomputable def DD (sp:Sp)(Lc:List V)(E:XK)(t:TA):TE:=λσ H Q=>t σ H λvs H1=>sp (vs++Lc) H1 Q E
noncomputable def Binds (K:W.Frag)(fd:bH)(ps:List Str)(ds:List ag):Prop :=
 ∀(s:aw) (us:List ag),K.In s.heap->(us++ds).length=ps.length->BindsTo s fd ⟨us,[]⟩ (ps.zip (us++ds))
theorem Binds.all {K:W.Frag}{fd:bH}{ps:List Str}(h:∀us:List ag,us.length=ps.length->bindArgs fd ⟨us,[]⟩=pure (ps.zip us)):Binds K fd ps []:=λs us _ hl=>by
 rw[bI] at hl ⊢;exact .of_eq (h us hl)
noncomputable def zh (CX:DC)(X:Cx)(E:XK):Prop:=∀(pins:List (Addr × Obj)) (σ:St) (H:Hp) (s:aw) (e:ag) (s':aw),Inv X pins σ H s->CX X.stack H s E e s'->X.xe e s'
section
theorem Ld {pins:List (Addr × Obj)}{σ:St}{H:Hp}{s:aw}{Q:VK}{us:List ag}{vs:List V}(F:lB X.prog X.w X.K X.mg X.base CX k f fd ps sp)(hr:f6 k X.A)(hb:Binds X.K fd ps ds)(hd:dQ Lc ds)(hx:zh CX X E)
  (I:Inv X pins σ H s) (r:dQ vs us) (h:sp (vs++Lc) H Q E):aE (model X.prog X.w) X.A (call (.ref f) us) (EP X pins σ Q) X.xe s:=by
 have r2:dQ (vs++Lc) (us++ds):=r.append hd;have hl:(us++ds).length=ps.length:=by rw[<- r2.length];exact F.len _ _ _ _ h
 refine wpAny_call (codeAny_mono (F.run X.A X.stack s H ⟨us,[]⟩ (us++ds) (vs++Lc) Q E hr I.QV (hb s us I.wJ hl) r2 h) λr s' hq=>?_)
 cases r with
 | error e=>exact hx pins σ H s e s' I hq
 | ok fl =>
  cases fl with
  | ret u=>exact I.after hq
  | next=>exact False.elim hq
  | brk=>exact False.elim hq
  | cont=>exact False.elim hq
theorem GL (F:lB X.prog X.w X.K X.mg X.base CX k f fd ps sp)(hr:f6 k X.A)(hg:Gl X x)(hm:X.mg x=some (.ref f))(hk:W.keepIn X.K (.ref f)=true)(hb:Binds X.K fd ps ds)(hd:dQ Lc ds)(hx:zh CX X E)
  (ha:PA X (e::es) t) (oV:(x == ("__debug__" : Str))=false:=by decide) (he:starEach (e::es) X.env=(false,eval e X.env)::starEach es X.env:=by rfl) (lH:(backTo pos (starEach es X.env)).any (·.1)=false:=by rfl) :
  PE X (.Call (.Name x p) (e::es) [] pos) (DD sp Lc E t):=by
 intro pins s σ H Q I h;refine wpAny_Call_Name_kw (Gk I hg hm ?_ oV);refine W.callWith_K (h₀:=X.base) I.ok.mod.QD hk (fc (ha pos pins s σ H _ I h) λus s1 ⟨vs,H1,I1,r,q⟩=>⟨I1.wJ,?_⟩) he lH;exact Ld F hr hb hd hx I1 r q
end
structure e9 (N P:List Str) (sc:Scope):Prop where
 kind:sc.kind=.function
 co:sc.isCoroutine=false
 gen:sc.isGenerator=false
 nd:N.Nodup
 pre:N.take P.length=P
 par:∀x∈P,sc.names.lookup x=some .local\/sc.names.lookup x=some .cell
 Le:∀y∈sc.names,y.2≠.free
theorem t5 {kindOf:Str->Option aO}{x:Str}:∀{binds:List (Str × ag)} {m:Str->Option ag},(∀v,(x,v) ∉ binds)->bindL kindOf binds m x=m x
 | [],_,_=>rfl
 | (n,v)::r,m,h=>by
  unfold bindL;rw[t5 λw hw=>h w (ai _ hw)];split
  .have:x≠n:=by rintro rfl;exact h v aq
   simp[this]
  .rfl
theorem t6 {kindOf:Str->Option aO}{x:Str}:∀{binds:List (Str × ag)} {m:Str->Option ag},(∀v,(x,v) ∉ binds)->bindC kindOf binds m x=m x
 | [],_,_=>rfl
 | (n,v)::r,m,h=>by
  unfold bindC;rw[t6 λw hw=>h w (ai _ hw)];split
  .rfl
  .have:x≠n:=by rintro rfl;exact h v aq
   simp[this]
theorem t9 {kindOf:Str->Option aO}{x:Str}{v:ag}:∀{P:List Str} {vs:List ag} {i:Nat} {m:Str->Option ag},P.Nodup->P[i]? = some x->vs[i]? = some v->kindOf x=some .local ->
  bindL kindOf (P.zip vs) m x=some v
 | [],_,_,_,_,h,_,_=>by simp at h
 | _::_,[],_,_,_,_,h,_=>by simp at h
 | p::P,w::vs,0,m,nd,h1,h2,hk=>by
  simp at h1 h2;subst h1;subst h2;show bindL kindOf ((p,w)::P.zip vs) m p=_;unfold bindL;rw[t5 λv hv=>(bb.mp nd).1 (List.of_mem_zip hv).1,if_pos hk];simp
 | p::P,w::vs,i+1,m,nd,h1,h2,hk=>by
  show bindL kindOf ((p,w)::P.zip vs) m x=_;unfold bindL;exact t9 (i:=i) (bb.mp nd).2 (by simpa using h1) (by simpa using h2) hk
theorem uf {kindOf:Str->Option aO}{x:Str}{v:ag}:∀{P:List Str} {vs:List ag} {i:Nat} {m:Str->Option ag},P.Nodup->P[i]? = some x->vs[i]? = some v->kindOf x≠some .local ->
  bindC kindOf (P.zip vs) m x=some v
 | [],_,_,_,_,h,_,_=>by simp at h
 | _::_,[],_,_,_,_,h,_=>by simp at h
 | p::P,w::vs,0,m,nd,h1,h2,hk=>by
  simp at h1 h2;subst h1;subst h2;show bindC kindOf ((p,w)::P.zip vs) m p=_;unfold bindC;rw[t6 λv hv=>(bb.mp nd).1 (List.of_mem_zip hv).1,if_neg hk];simp
 | p::P,w::vs,i+1,m,nd,h1,h2,hk=>by
  show bindC kindOf ((p,w)::P.zip vs) m x=_;unfold bindC;exact uf (i:=i) (bb.mp nd).2 (by simpa using h1) (by simpa using h2) hk
noncomputable def start (N:List Str)(vs:List V):St:=vs.map some++List.replicate (N.length - vs.length) none
noncomputable def nq (CX:DC)(P:a5)(w:World)(K:W.Frag)(mg:Str->Option ag)(base:Heap)(N:List Str)(fb:Str)(scope:Scope)(f:Addr)(cd:ag)(A:Around)(outer:List Env)(s:aw)(H:Hp)(E:XK):Cx where
 prog:=P
 w:=w
 K:=K
 mg:=mg
 base:=base
 A:=A.deeper (envOfC fb scope s.heap.objs.size f cd)
 N:=N
 s₀:=s
 H₀:=H
 env:=envOfC fb scope s.heap.objs.size f cd
 outer:=outer
 stack:=envOfC fb scope s.heap.objs.size f cd::outer
 ex:=[]
 calm:=true
 fn:=λ_=>true
 pn:=[]
 xe:=λe s'=>aE (model P w) (A.deeper (envOfC fb scope s.heap.objs.size f cd)) (leaving (envOfC fb scope s.heap.objs.size f cd) e) (λ_ NP=>CX outer H s E e NP) (λe' NP=>CX outer H s E e' NP) s'
theorem wU {sc:Scope}{n:Nat}{x:Str}(h:sc.names.lookup x=some .cell):∃c,(cellsFrom n sc.names []).lookup x=some c:=by
 have q:=W.cellsFrom_some sc.names n [] (.inl h);exact bE.mp q
theorem B1 {CX:DC}{P:a5}{w:World}{K:W.Frag}{mg:Str->Option ag}{base:Heap}{N ps:List Str}{fb:Str}{scope:Scope}{f:Addr}{cd:ag}{A:Around}{outer:List Env}{s s1:aw}{H:Hp}{E:XK}{us:List ag}{vs:List V}
  (S:e9 N ps scope) (hd:A.handled=none) (e0:GK P w K mg base A outer s H) (hl:vs.length=ps.length) (r:dQ vs us)
  (x:InCallC s s.heap.objs.size (bindL (envOfC fb scope s.heap.objs.size f cd).kindOf (ps.zip us) λ_=>none) (cellsFrom (s.heap.objs.size+1) scope.names []) (bindC (envOfC fb scope s.heap.objs.size f cd).kindOf (ps.zip us) λ_=>none) s1) :
  Inv (nq CX P w K mg base N fb scope f cd A outer s H E) [] (start N vs) H s1:=by
 have lH:ps.length<=N.length:=by have:=congrArg List.length S.pre;rw[bF] at this;omega
 obtain⟨h1,tk,rfl,hk⟩:=x.done;have NQ:∀b:Addr,b ∉ (nq CX P w K mg base N fb scope f cd A outer s H E).ex:=λb z=>absurd (show b∈([]:List Addr) from z) (!4)
 refine⟨⟨e0.mod,S.kind,rfl,rfl,ao _,λy z c h1 h2=>?_,λy hy=>?_,λy c _ h=>?_,λ_=>hd,Around.frames_deeper e0.frames,.inr ⟨rfl,rfl⟩,λb z=>absurd z (NQ b),e0.bs,e0.Kk,λb _ _=>NQ b,λb z=>absurd z (NQ b),e0.qM,e0.M0⟩,
  rfl,e0.bare,Un.kept hk,⟨_,x.toInCall.ns,λi y v h1 h2 h3=>?_⟩,λy c h=>⟨_,x.cell y c h⟩,e0.hok.fresh (ao _),λy c h=>?_,λp hp=>absurd (show p∈([]:List (Addr × Obj)) from hp) (!4),e0.hok.kept hk,?_⟩
 .exact name_of_addr x.apart (PySem.mem_of_lookup h1) (PySem.mem_of_lookup h2)
 .have hy:scope.names.lookup y=some .cell\/scope.names.lookup y=some .free:=hy
  rcases hy with hy | hy
  .exact wU hy
  .exact absurd rfl (S.Le _ (PySem.mem_of_lookup hy))
 .exact c5 (x.above y c (PySem.mem_of_lookup h))
 .have hi:i<vs.length:=by
   unfold start at h2;by_cases hi:i<vs.length
   .exact hi
   .rw[bT (by simpa using hi)] at h2
    rw[bP] at h2;split at h2<;>cases h2
  have ha:vs[i]? = some v:=by
   unfold start at h2;rw[bK (by simpa using hi),aB] at h2
   cases e:vs[i]? with
   | none=>rw[e] at h2;cases h2
   | some a=>rw[e] at h2;cases h2;rfl
  obtain⟨u,hu,rv⟩:=r.get ha
  have hp:ps[i]? = some y:=by
   rw[<- S.pre,List.getElem?_take_of_lt (!1)];exact h1
  have Tn:ps.Nodup:=by rw[<- S.pre];exact S.nd.sublist (List.take_sublist _ _)
  refine⟨u,rv,?_⟩;rcases S.par y (bY hp) with k | k
  .exact .inl ⟨k,t9 Tn hp hu k⟩
  .obtain⟨c,e⟩:=wU (n:=s.heap.objs.size+1) k
   refine .inr ⟨.inl k,c,e,?_⟩;have q:=x.cell y c e;rw[uf Tn hp hu (by show scope.names.lookup y≠_;rw[k];decide)] at q;exact q
 .exact e0.hok.fresh (c5 (x.above y c (PySem.mem_of_lookup h)))
 .unfold start
  show _=N.length;rw[aK,ar,cD];omega
theorem NR {CX:DC}{P:a5}{w:World}{K:W.Frag}{mg:Str->Option ag}{base:Heap}{k:Nat}{f:Addr}{name fb:Str}{params:Arguments}{body:List Stmt}{scope:Scope}{dV kV sX pm eS ct oc:ag}{an od:Option Addr}
  {Dc:Array (Option ag)} {N ps:List Str} {sp:Sp} (lk:K.lookup f=some ⟨oc,od,.func (W.fnOf name fb params body scope dV kV sX pm an eS ct),Dc⟩) (jz:W.codeIn K eS fb=true) (S:e9 N ps scope)
  (len:∀vs H Q E,sp vs H Q E->vs.length=ps.length)
  (wV:∀(A:Around) (outer:List Env) (s:aw) (H:Hp) (vs:List V) (Q:VK) (E:XK),f6 k (A.deeper (envOfC fb scope s.heap.objs.size f eS))->sp vs H Q E ->
   ∃t,yW (nq CX P w K mg base N fb scope f eS A outer s H E) body t/\t { nx:=λ_ H'=>Q .gJ H',rt:=Q } (start N vs) H) :
  lB P w K mg base CX (k+1) f (W.fnOf name fb params body scope dV kV sX pm an eS ct) ps sp:=by
 refine⟨len,λA outer s H args us vs Q E hr e0 hb r Jh=>?_⟩;have hl:=len _ _ _ _ Jh;have KX:K.In s.heap:=e0.mod.QD.keeps λb o e=>(e0.bs b o e).1;have UU:s.heap.NoLimit:=e0.mod.nolimit.keeps λb o e=>(e0.bs b o e).1
 have NS:∀y∈ps.zip us,scope.names.lookup y.1=some .local\/(scope.names.lookup y.1=some .cell/\((cellsFrom (s.heap.objs.size+1) scope.names []).lookup y.1).isSome=true):=λ⟨n,v⟩ hy=>by
  rcases S.par n (List.of_mem_zip hy).1 with q | q
  .exact .inl q
  .exact .inr ⟨q,W.cellsFrom_some _ _ _ (.inl q)⟩
 refine codeAny_call_function hr.depth (KX _ _ lk) rfl S.co S.gen rfl (W.codeRec_of KX jz) (hb _ _ _ _ ?_);refine wpAny_newFunctionEnv_cells S.kind NS λenv he s1 x=>?_;subst he;refine⟨UU.keeps x.toInCall.keep,codeAny_func ?_⟩;obtain⟨t,ht,hq⟩:=wV A outer s H vs Q E (hr.deeper _) Jh;have I:Inv (nq CX P w K mg base N fb scope f eS A outer s H E) [] (start N vs) H s1:=B1 S hr.hd e0 hl r x;refine bS (ht [] s1 (start N vs) H _ I hq) (λfl s' hs=>?_) λe s' hs=>hs
 have fin:∀{σ':St} {H':Hp} {v:V} {u:ag},Inv (nq CX P w K mg base N fb scope f eS A outer s H E) [] σ' H' s'->RelV v u->Q v H'->CE outer P w H s Q u s' :=
  λ{σ' H' v u} J rv q=>⟨v,H',J.os,J.bare,J.base,J.hok,rv,q⟩
 cases fl with
 | ret u =>
  obtain⟨v,σ',H',J,rv,q⟩:=hs;exact fin J rv q
 | next =>
  obtain⟨σ',H',J,q⟩:=hs;exact fin (v:=V.gJ) (u:=ag.none) J rfl q
 | brk =>
  obtain⟨_,_,_,q⟩:=hs;exact False.elim q
 | cont =>
  obtain⟨_,_,_,q⟩:=hs;exact False.elim q
section
variable {X:Cx}{x:Str}{p pos:Pos}{e:Expr}{es:List Expr}{t:TA}{id T:String}{r:List V->Hp->VK->Prop}
noncomputable def NT (r:List V->Hp->VK->Prop)(t:TA):TE:=λσ H Q=>t σ H λvs H1=>r vs H1 Q
theorem DE (hc:ff X (.builtin id) r)(hg:Gl X x)(hm:X.mg x=none)(hv:bootBuiltins x=some (.builtin id))(ha:PA X (e::es) t)(hn:x ≠ "__name__" := by decide)(oV:(x == ("__debug__" : Str))=false:=by decide)
  (he:starEach (e::es) X.env=(false,eval e X.env)::starEach es X.env:=by rfl) (lH:(backTo pos (starEach es X.env)).any (·.1)=false:=by rfl):PE X (.Call (.Name x p) (e::es) [] pos) (NT r t):=by
 intro pins s σ H Q I h;refine wpAny_Call_Name_kw (oU I hg hm hv ?_ hn oV);exact PyProof.Rows.callWith_builtin1 (fc (ha pos pins s σ H _ I h) λus s1 ⟨vs,H1,I1,r1,q1⟩=>hc pins s1 σ H1 vs us Q I1 r1 q1) he lH
theorem B2 (hc:ff X (.type T) r)(hg:Gl X x)(hm:X.mg x=none)(hv:bootBuiltins x=some (.type T))(ha:PA X (e::es) t)(hn:x ≠ "__name__" := by decide)(oV:(x == ("__debug__" : Str))=false:=by decide)
  (he:starEach (e::es) X.env=(false,eval e X.env)::starEach es X.env:=by rfl) (lH:(backTo pos (starEach es X.env)).any (·.1)=false:=by rfl):PE X (.Call (.Name x p) (e::es) [] pos) (NT r t):=by
 intro pins s σ H Q I h;refine wpAny_Call_Name_kw (oU I hg hm hv ?_ hn oV);exact PyProof.Rows.callWith_type1 (fc (ha pos pins s σ H _ I h) λus s1 ⟨vs,H1,I1,r1,q1⟩=>hc pins s1 σ H1 vs us Q I1 r1 q1) he lH
end
end L2
namespace HT
open PySem PyProof.Rows
section
theorem GN {t b:Addr}{vs ws:List ag}{Q:ag->aw->Prop}(ht:IsTup s.heap t vs.toArray)(hb:IsTup s.heap b ws.toArray)(hv:vs≠[])
  (h1:ws=[]->Q (.ref t) s) (h2:ws≠[]->Q (.ref s.heap.objs.size) { s with heap:=s.heap.push { cls:=.type "tuple",data:=.seq (vs++ws).toArray } })
  (hsz:vs.length+ws.length<=aA):aE (model prog w) A (binaryOp .Add (.ref t) (.ref b)) Q E s:=by
 obtain⟨⟨cls,dd,data,sl⟩,ho,hc,n,hd⟩:=id ht;obtain⟨⟨QY,Qc,data2,GO⟩,B3,AK,n2,wW⟩:=id hb;simp only at hc hd AK wW;subst hc hd AK wW;have e:vs.toArray++ws.toArray=(vs++ws).toArray:=by simp
 by_cases hw:ws=[]
 .exact concat_meets ⟨_,ho,rfl⟩ ⟨_,B3,rfl⟩ noFill_tuple_add seq_tuple_add PySem.F.slot_tuple_add PySem.F.entry_tuple_add (PySem.F.args_tuple_add_2 _ _)
   (tuple_addW1 t b vs.toArray ws.toArray n n2 dd Qc sl GO (by simpa using hv) (by simp[hw])) ⟨ho,B3,h1 hw⟩
 .refine concat_meets ⟨_,ho,rfl⟩ ⟨_,B3,rfl⟩ noFill_tuple_add seq_tuple_add PySem.F.slot_tuple_add PySem.F.entry_tuple_add (PySem.F.args_tuple_add_2 _ _)
   (tuple_addW2 t b vs.toArray ws.toArray n n2 dd Qc sl GO (by simpa using hv) (by simpa using hw) (by rw[aC,aC];exact hsz)) ⟨ho,B3,?_⟩
  rw[e];exact h2 hw
noncomputable def gf (n d:Nat):Option Int->Nat
 | none=>d
 | some v=>if v<0 then (v+(n:Int)).toNat else min v.toNat n
theorem nV (n d:Nat):gf n d none=d:=rfl
theorem qt (n d k:Nat):gf n d (some (k:Int))=min k n:=by
 show (if (k:Int)<0 then ((k:Int)+(n:Int)).toNat else min (k:Int).toNat n)=min k n;rw[if_neg (!1),bh]
theorem Lf (n d:Nat)(hd:d<=n)(o:Option Int):gf n d o<=n:=by
 cases o with
 | none=>exact hd
 | some v =>
  show (if v<0 then (v+(n:Int)).toNat else min v.toNat n)<=n;by_cases hv:v<0
  .rw[if_pos hv];omega
  .rw[if_neg hv];exact Nat.min_le_right _ _
theorem AL (v:Int)(n d:Nat):(if v<0 then max (v+(n:Int)) 0 else min v (n:Int))=((gf n d (some v):Nat):Int):=by
 show (if v<0 then max (v+(n:Int)) 0 else min v (n:Int))=(((if v<0 then (v+(n:Int)).toNat else min v.toNat n):Nat):Int);by_cases hv:v<0
 .simp only[if_pos hv];omega
 .simp only[if_neg hv];omega
theorem zi (lo hi:Option Int)(n:Nat):Builtin.Slice.sliceAdjust lo hi 1 (n:Int)=(((gf n 0 lo:Nat):Int),((gf n n hi:Nat):Int)):=by
 have h1:¬ ((1:Int)<0):=by omega
 unfold Builtin.Slice.sliceAdjust;simp only[h1,if_false];refine Prod.ext ?_ ?_
 .cases lo with
  | none=>rfl
  | some v=>exact AL v n 0
 .cases hi with
  | none=>rfl
  | some v=>exact AL v n n
theorem zj (i j:Nat):Builtin.Slice.slicePlaces (i:Int) (j:Int) 1=j - i:=by
 unfold Builtin.Slice.slicePlaces;have h1:(1:Int) > 0:=by omega
 simp only[h1,if_true,Int.ediv_one];split<;>omega
theorem qQ (p:IsPart v o)(h:Q o s):aE (model prog w) A (Builtin.Slice.slicePartIndex v) Q E s:=by
 cases p with
 | none=>exact slicePart_none h
 | int i t=>exact slicePart_int h
theorem kg {sl:Addr}{vl vu:ag}{lo hi:Option Int}{n:Nat}{Q:Int × Int × Nat->aw->Prop}(hs:s.heap.IsSliceOf sl vl vu .none)(pl:IsPart vl lo)(pu:IsPart vu hi)
  (h:Q (((gf n 0 lo:Nat):Int),1,gf n n hi - gf n 0 lo) s):aE (model prog w) A (Builtin.Slice.sliceApplied (.ref sl) (pure (n:Int))) Q E s:=by
 obtain⟨os,Lg,DF,NU⟩:=id hs;unfold Builtin.Slice.sliceApplied Builtin.Slice.sliceFields;refine ae (ae (wpAny_field Lg NU (x:=vl) rfl (ae (wpAny_field Lg NU (x:=vu) rfl (ae (wpAny_field Lg NU (x:=.none) rfl (aj ?_)))))));refine ae (slicePart_none ?_);show aE _ _ (if ((1:Int) == 0)=true then _ else _) _ _ s;rw[if_neg (!2)];refine ae (qQ pl (ae (qQ pu (ae (aj ?_)))));show aE _ _ (match Builtin.Slice.sliceAdjust lo hi 1 (n:Int) with | (lo,hi)=>pure (lo,(1:Int),Builtin.Slice.slicePlaces lo hi 1)) _ _ s;rw[zi lo hi n];show aE _ _ (pure (((gf n 0 lo:Nat):Int),(1:Int),Builtin.Slice.slicePlaces ((gf n 0 lo:Nat):Int) ((gf n n hi:Nat):Int) 1)) _ _ s;rw[zj];exact aj h
theorem DG (xs:Array ag)(i k:Nat):((List.range k).filterMap λ(m:Nat)=>xs[((i:Int)+(m:Int) * 1).toNat]?).toArray=((xs.toList.drop i).take k).toArray:=by
 have e:(λ(m:Nat)=>xs[((i:Int)+(m:Int) * 1).toNat]?)=λm=>xs[i+m]? := by
  funext m;have:((i:Int)+(m:Int) * 1).toNat=i+m:=by omega
  rw[this]
 rw[e];have:=pick_run xs i k;rw[List.filterMap_map] at this;have e2:((λx=>xs[x]?) ∘ λx=>i+x)=λm=>xs[i+m]? := rfl;rw[e2] at this;rw[this]
theorem nW {t sl:Addr}{items:Array ag}{vl vu:ag}{lo hi:Option Int}{Q:ag->aw->Prop}(ht:IsTup s.heap t items)(hs:s.heap.IsSliceOf sl vl vu .none)(pl:IsPart vl lo)(pu:IsPart vu hi)
  (hw:¬ (gf items.size 0 lo=0/\gf items.size items.size hi=items.size))
  (h:Q (.ref s.heap.objs.size) { s with heap:=s.heap.push { cls:=.type "tuple",data:=.seq ((items.toList.drop (gf items.size 0 lo)).take (gf items.size items.size hi - gf items.size 0 lo)).toArray } })
  (hsz:items.size<=aA):aE (model prog w) A (getItem (.ref t) (.ref sl)) Q E s:=by
 have AM:sizeOk (.seq ((items.toList.drop (gf items.size 0 lo)).take (gf items.size items.size hi - gf items.size 0 lo)).toArray):=by
  show ((items.toList.drop (gf items.size 0 lo)).take (gf items.size items.size hi - gf items.size 0 lo)).toArray.size<=aA;rw[aC,bF,cU,bu];omega
 have hj:gf items.size items.size hi<=items.size:=Lf _ _ (ao _) hi;obtain⟨os,Lg,DF,NU⟩:=id hs;have QZ:s.TypeIs (.ref sl) "slice" := ⟨os,Lg,DF⟩;unfold getItem;try with_reducible refine wpAny_holding ?_
 first | refine ae (aj ?_) | skip
 refine ae (wpAny_sequenceKey ht.typeIs (!2) ?_)
 refine ae (wpAny_callSpecial?_slot (name:=Str.ofString "__getitem__") ht.typeIs PyProof.Rows.slot_tuple_getitem
  (wpAny_call_entry PyProof.Rows.slot_tuple_getitem ht.typeIs entry_tuple_getitem ?_ (args_tuple_getitem _ _)))
 show aE _ _ (Builtin.Tuple.tupleItemsOf (.ref t) >>= _) _ _ s;refine ae (tupleItemsOf_ ht ?_);refine ae (wpAny_typeOf QZ ?_);rw[if_pos (!2)];refine ae (kg hs pl pu ?_)
 have nT:¬ ((((gf items.size 0 lo:Nat):Int) == 0 && (1:Int) == 1 && (gf items.size items.size hi - gf items.size 0 lo) == items.size)=true):=by
  intro q;rw[bo,bo] at q;have q1:((gf items.size 0 lo:Nat):Int)=0:=eq_of_beq q.1.1;have q2:gf items.size items.size hi - gf items.size 0 lo=items.size:=eq_of_beq q.2;exact hw ⟨!1,!1⟩
 show aE _ _ (if (((gf items.size 0 lo:Nat):Int) == 0 && (1:Int) == 1 && (gf items.size items.size hi - gf items.size 0 lo) == items.size)=true then _ else _) _ _ s;rw[if_neg nT,DG]
 first
  | exact ae (m:=Builtin.Tuple.tupleExact _) (aW (aj ⟨_,rfl,aj h⟩) AM)
  | exact ae (m:=Builtin.Tuple.tupleExact _) (aW (ae (aj (aj ⟨_,rfl,aj h⟩))) AM)
  | exact ae (ae (m:=Builtin.Tuple.tupleExact _) (aW (aj (aj ⟨_,rfl,aj h⟩)) AM))
  | exact ae (ae (m:=Builtin.Tuple.tupleExact _) (aW (aj ⟨_,rfl,aj h⟩) AM))
end
end HT
namespace L2
open PySem PySem.Spec PyProof.Rows
noncomputable abbrev TO:=St->Hp->(Option Int->Hp->Prop)->Prop
noncomputable def PO (X:Cx)(e:Option Expr)(t:TO):Prop :=
 ∀(pins:List (Addr × Obj)) (s:aw) (σ:St) (H:Hp) (Q:Option Int->Hp->Prop),Inv X pins σ H s->t σ H Q ->
  aE (model X.prog X.w) X.A (evalPart e X.env) (λu s'=>∃o H',Inv X pins σ H' s'/\IsPart u o/\Q o H') X.xe s
noncomputable def AO:TO:=λ_ H Q=>Q none H
noncomputable def Ji (t:TE):TO:=λσ H Q=>t σ H λx H1=>∃i,x=.int i/\Q (some i) H1
section
variable {X:Cx}{e:Expr}{te:TE}{lo hi:Option Expr}{tl th:TO}{pos p2:Pos}
theorem GP:PO X none AO:=by
 intro pins s σ H Q I h;rw[evalPart_none];exact aj ⟨none,H,I,.none,h⟩
theorem GQ (h:PE X e te):PO X (some e) (Ji te):=by
 intro pins s σ H Q I hw;rw[evalPart_some];refine fc (h pins s σ H _ I hw) λu s1 ⟨x,H1,I1,r1,q1⟩=>?_;obtain⟨i,rfl,q⟩:=q1;obtain⟨t,rfl⟩:=r1;exact⟨some i,H1,I1,.int i t,q⟩
noncomputable def FZ (X:Cx)(r:V->Option Int->Option Int->Hp->VK->Prop):Prop :=
 ∀(pins:List (Addr × Obj)) (s:aw) (σ:St) (H:Hp) (x:V) (v vl vu:ag) (lo hi:Option Int) (sl:Addr) (Q:VK),Inv X pins σ H s->RelV x v->s.heap.IsSliceOf sl vl vu .none->IsPart vl lo->IsPart vu hi->r x lo hi H Q ->
  ∃T id,typeLookup (.type T) "__getitem__" = pure (some (.builtin id))/\s.TypeIs v T/\aE (model X.prog X.w) X.A (getItem v (.ref sl)) (EP X pins σ Q) X.xe s
theorem FZ.or (h:FZ X r)(h':FZ X r'):FZ X (λx lo hi H Q=>r x lo hi H Q\/r' x lo hi H Q):=by
 intro pins s σ H x v vl vu lo hi sl Q I rx hs pl pu q;rcases q with q | q
 .exact h pins s σ H x v vl vu lo hi sl Q I rx hs pl pu q
 .exact h' pins s σ H x v vl vu lo hi sl Q I rx hs pl pu q
noncomputable def To (r:V->Option Int->Option Int->Hp->VK->Prop)(te:TE)(tl th:TO):TE:=λσ H Q=>te σ H λx H1=>tl σ H1 λl H2=>th σ H2 λu H3=>r x l u H3 Q
theorem DH {r:V->Option Int->Option Int->Hp->VK->Prop}(hr:FZ X r)(he:PE X e te)(hl:PO X lo tl)(hu:PO X hi th):PE X (.Subscript e (.Slice lo hi none p2) pos) (To r te tl th):=by
 intro pins s σ H Q I h;refine Subscript_ (fc (he pins s σ H _ I h) λv s1 ⟨x,H1,I1,r1,q1⟩=>?_);refine wpAny_Slice (fc (hl pins s1 σ H1 _ I1 q1) λvl s2 ⟨l,H2,I2,pl,q2⟩=>fc (hu pins s2 σ H2 _ I2 q2) λvu s3 ⟨u,H3,I3,pu,q3⟩=>?_);rw[evalPart_none];refine aj ?_;have I4:Inv X pins σ H3 { s3 with heap:=s3.heap.push { cls:=.type "slice",data:=.fields #[vl,vu,.none] } }:=I3.kept (t':=s3.toks) λb ob q=>ah _ q;obtain⟨T,id,hT,ht,hg⟩:=hr pins { s3 with heap:=s3.heap.push { cls:=.type "slice",data:=.fields #[vl,vu,.none] } } σ H3 x v vl vu l u s3.heap.objs.size Q I4 r1 (Heap.IsSliceOf.new ..) pl pu q3;show aE (model X.prog X.w) X.A (subscriptTail e (.Slice lo hi none p2) v (.ref s3.heap.objs.size)) (EP X pins σ Q) X.xe { s3 with heap:=s3.heap.push { cls:=.type "slice",data:=.fields #[vl,vu,.none] } };exact tail_any (ops:=[.ref s3.heap.objs.size,v]) ht hT hg (by with_unfolding_all rfl)
noncomputable def nX (xs:List V)(lo hi:Option Int):List V:=(xs.drop (HT.gf xs.length 0 lo)).take (HT.gf xs.length xs.length hi - HT.gf xs.length 0 lo)
theorem pI (xs:List V)(lo hi:Option Int):(nX xs lo hi).length<=xs.length:=by
 unfold nX;rw[bF,cU];omega
noncomputable def Q0 (K:W.Frag):V->Option Int->Option Int->Hp->VK->Prop:=λx lo hi H Q=>∃a xs,x=.ref a/\gZ K H a xs /\
 ¬ (HT.gf xs.length 0 lo=0/\HT.gf xs.length xs.length hi=xs.length)/\∀p,H p=none->Q (.ref p) (d3 H p (.tup (nX xs lo hi)))
theorem Lh:FZ X (Q0 X.K):=by
 intro pins s σ H x v vl vu lo hi sl Q I rx hs pl pu h;obtain⟨a,xs,rfl,hx,hw,q⟩:=h;cases rx;obtain⟨its,r,ht,hz⟩:=I.tuple hx;have hlen:its.toArray.size=xs.length:=by rw[aC];exact r.length.symm
 refine⟨"tuple",_,PyProof.Rows.slot_tuple_getitem.lookup,ht.typeIs,?_⟩;refine HT.nW ht hs pl pu (by rw[hlen];exact hw) ?_ (by rw[hlen];exact hz);rw[hlen];refine⟨.ref s.heap.objs.size,_,I.laid (t':=s.toks) (o:=.tup (nX xs lo hi)) (λb ob q=>ah _ q) (ao _) ?_,rfl,q _ (I.hok.fresh (ao _))⟩;exact⟨bj (pI xs lo hi) hz,_,(r.drop (HT.gf xs.length 0 lo)).take (HT.gf xs.length xs.length hi - HT.gf xs.length 0 lo),s9.new _ _⟩
noncomputable def NV (K:W.Frag):R2:=λx y H Q=>∃a b xs ys,x=.ref a/\y=.ref b/\gZ K H a xs/\gZ K H b ys/\xs≠[]/\xs.length+ys.length<=aA /\
 (ys=[]->Q (.ref a) H)/\(ys≠[]->∀p,H p=none->Q (.ref p) (d3 H p (.tup (xs++ys))))
theorem dQ.nY (r:dQ xs us):us=[]↔xs=[]:=by
 cases r with
 | nil=>simp
 | cons _ _=>simp
theorem GR:kC X (binaryOp .Add) (NV X.K):=by
 intro pins s σ H x y v u Q I rx ry h;obtain⟨a,b,xs,ys,rfl,rfl,ha,hb,hx,hz,q1,q2⟩:=h;cases rx;cases ry;obtain⟨its,r1,p1,_⟩:=I.tuple ha;obtain⟨mV,r2,p2,_⟩:=I.tuple hb;refine HT.GN p1 p2 (λz=>hx (r1.nY.mp z)) (λz=>⟨.ref a,H,I,rfl,q1 (r2.nY.mp z)⟩) (λz=>?_) (by rw[<- r1.length,<- r2.length];exact hz);refine⟨.ref s.heap.objs.size,_,I.laid (t':=s.toks) (o:=.tup (xs++ys)) (λb ob q=>ah _ q) (ao _) ?_,rfl,q2 (λw=>z (r2.nY.mpr w)) _ (I.hok.fresh (ao _))⟩;exact⟨by rw[aK];exact hz,_,r1.append r2,s9.new _ _⟩
end
noncomputable def GS (n:Nat)(i:Int):Option Nat:=if 0<=i then (if i<n then some i.toNat else none) else if -(n:Int)<=i then some (i+n).toNat else none
noncomputable def oW {α:Type}(xs:List α)(i:Int):Option α:=(GS xs.length i).bind λj=>xs[j]?
theorem AQ (h:GS n i=some j):seqIndex? i n=some j/\j<n/\-(n:Int)<=i/\i<n:=by
 unfold GS at h;by_cases h0:0<=i
 .rw[if_pos h0] at h
  by_cases h1:i<n
  .rw[if_pos h1] at h
   have e:i.toNat=j:=Option.some.inj h;exact⟨by rw[seqIndex_of h0 h1,e],!1,!1,h1⟩
  .rw[if_neg h1] at h;cases h
 .rw[if_neg h0] at h
  by_cases h1:-(n:Int)<=i
  .rw[if_pos h1] at h
   have e:(i+n).toNat=j:=Option.some.inj h;exact⟨by rw[seqIndex_neg (!1) h1,e],!1,h1,!1⟩
  .rw[if_neg h1] at h;cases h
theorem AR {α:Type}{xs:List α}{i:Int}{v:α}(h:oW xs i=some v):∃j,seqIndex? i xs.length=some j/\xs[j]? = some v/\j<xs.length/\-(xs.length:Int)<=i/\i<xs.length:=by
 unfold oW at h
 cases e:GS xs.length i with
 | none=>rw[e] at h;cases h
 | some j =>
  rw[e] at h;obtain⟨h1,h2,h3,h4⟩:=AQ e;exact⟨j,h1,h,h2,h3,h4⟩
noncomputable def vq (b:Expr):Prop:=∀o i,subscripted b false o i=operate [o,i] (getItem o i)
noncomputable def F0 (X:Cx)(r:R2):Prop :=
 ∀(value slice:Expr) (pins:List (Addr × Obj)) (s:aw) (σ:St) (H:Hp) (x y:V) (v u:ag) (Q:VK),Inv X pins σ H s->RelV x v->RelV y u->r x y H Q ->
  subscripted slice false v u=operate [v,u] (getItem v u)->aE (model X.prog X.w) X.A (subscriptTail value slice v u) (EP X pins σ Q) X.xe s
noncomputable def GU (X:Cx)(id:String)(r:V->List V->Hp->VK->Prop):Prop :=
 ∀(pins:List (Addr × Obj)) (s:aw) (σ:St) (H:Hp) (x:V) (xs:List V) (v:ag) (us:List ag) (Q:VK),Inv X pins σ H s->RelV x v->dQ xs us->r x xs H Q ->
  aE (model X.prog X.w) X.A (call (.builtin id) (v::us)) (EP X pins σ Q) X.xe s
section
variable {X:Cx}{a b:Expr}{ta tb:TE}{pos:Pos}
theorem F0.or (h:F0 X r)(h':F0 X r'):F0 X (λx y H Q=>r x y H Q\/r' x y H Q):=by
 intro value slice pins s σ H x y v u Q I rx ry q hs;rcases q with q | q
 .exact h value slice pins s σ H x y v u Q I rx ry q hs
 .exact h' value slice pins s σ H x y v u Q I rx ry q hs
theorem GU.or {id:String}{r r':V->List V->Hp->VK->Prop}(h:GU X id r)(h':GU X id r'):GU X id (λx xs H Q=>r x xs H Q\/r' x xs H Q):=by
 intro pins s σ H x xs v us Q I rx rs q;rcases q with q | q
 .exact h pins s σ H x xs v us Q I rx rs q
 .exact h' pins s σ H x xs v us Q I rx rs q
theorem NW {r:R2}(hr:F0 X r)(ha:PE X a ta)(hb:PE X b tb)(hs:vq b):PE X (.Subscript a b pos) (GA r ta tb):=by
 intro pins s σ H Q I h;exact Subscript_ (KU ha hb I h λv u s2 x y H2 I2 rx ry q=>hr a b pins s2 σ H2 x y v u Q I2 rx ry q (hs _ _))
noncomputable def NY (K:W.Frag):R2:=λx y H Q=>∃p xs i v,x=.ref p/\y=.int i/\fU K H p xs/\oW xs i=some v/\Q v H
noncomputable def NZ (K:W.Frag):R2:=λx y H Q=>∃p xs i v,x=.ref p/\y=.int i/\gZ K H p xs/\oW xs i=some v/\Q v H
theorem GV:F0 X (NY X.K):=by
 intro value slice pins s σ H x y v u Q I rx ry h hs;obtain⟨p,xs,i,z,rfl,rfl,hq,he,q⟩:=h;cases rx;obtain⟨t,rfl⟩:=ry;obtain⟨its,r,pl,hz⟩:=I.list hq;obtain⟨j,h1,h2,h3,h4,h5⟩:=AR he;obtain⟨w,ew,kF⟩:=r.get h2;have hl:=r.length;have hn:=vp;have fin:EP X pins σ Q w s:=⟨z,H,I,kF,q⟩;by_cases h0:0<=i
 .have hj:i.toNat=j:=by
   rw[seqIndex_of h0 h5] at h1;exact Option.some.inj h1
  exact item_listR pl.isList h0 (!1) (by rw[hj];simpa using ew) fin hs
 .have hj:(i+(its.toArray.size:Int)).toNat=j:=by
   rw[seqIndex_neg (!1) h4] at h1;rw[aC,<- hl];exact Option.some.inj h1
  exact subscriptTail_builtinR (x:=w) pl.isList.typeIs slot_list_getitem.lookup
   (wpAny_getItem_list_neg (Q:=λr s'=>r=w/\EP X pins σ Q r s') pl.isList (!1) (by rw[aC]<;>omega) (!1) (by rw[hj];simpa using ew) ⟨rfl,fin⟩) hs
theorem Li:F0 X (NZ X.K):=by
 intro value slice pins s σ H x y v u Q I rx ry h hs;obtain⟨p,xs,i,z,rfl,rfl,hq,he,q⟩:=h;cases rx;obtain⟨t,rfl⟩:=ry;obtain⟨its,r,pl,hz⟩:=I.tuple hq;obtain⟨j,h1,h2,h3,h4,h5⟩:=AR he;obtain⟨w,ew,kF⟩:=r.get h2;have hl:=r.length;have hn:=vp;have fin:EP X pins σ Q w s:=⟨z,H,I,kF,q⟩
 exact subscriptTail_builtinR (x:=w) pl.typeIs slot_tuple_getitem.lookup
  (getItem_tuple (j:=j) (Q:=λr s'=>r=w/\EP X pins σ Q r s') pl (!1) (!1) (by rw[aC,<- hl];exact h1) (by simpa using ew) ⟨rfl,fin⟩) hs
theorem zk (its:List ag)(n j:Nat)(u:ag):Obj.mapSeq (·.setIfInBounds j u) { cls:=.type "list",data:=.seq its.toArray n }={ cls:=.type "list",data:=.seq (its.set j u).toArray n }:=by
 simp[Obj.mapSeq]
theorem Inv.lst (I:Inv X pins σ H s)(h:H p=some (.lst xs)) :
  ∃(its:List ag) (n:Nat),dQ xs its/\s.heap.get? p=some { cls:=.type "list",data:=.seq its.toArray n }/\xs.length<=aA:=by
 obtain⟨z,its,n,r,e⟩:=I.hok p _ h;exact⟨its,n,r,e,z⟩
theorem Inv.Lj {pins:List (Addr × Obj)}{σ:St}{H:Hp}{s:aw}{p:Addr}{xs ys:List V}{its its':List ag}{n n':Nat}{f:Obj->Obj}(I:Inv X pins σ H s)(h:H p=some (.lst xs))
  (ho:s.heap.get? p=some { cls:=.type "list",data:=.seq its.toArray n }) (hf:f { cls:=.type "list",data:=.seq its.toArray n }={ cls:=.type "list",data:=.seq its'.toArray n' }) (r:dQ ys its') (hz:ys.length<=aA) (t:Nat) :
  Inv X pins σ (d3 H p (.lst ys)) { s with heap:=s.heap.update p f,toks:=t }:=by
 have e:(s.heap.update p f).get? p=some { cls:=.type "list",data:=.seq its'.toArray n' }:=by
  rw[aR f ho (by rw[hf]<;>rfl),hf]
 refine I.write (x:=p) (e:=p) (by rw[h];trivial) (.inl rfl) (λb u hb q=>(aH _ _ (Ne.symm hb)).trans q) ⟨_,e⟩ ?_;exact⟨hz,its',n',r,e⟩
noncomputable def N0:V->V->V->Hp->(Hp->Prop)->Prop:=λo i v H Q=>∃p xs k j,o=.ref p/\i=.int k/\H p=some (.lst xs)/\GS xs.length k=some j/\Q (d3 H p (.lst (xs.set j v)))
theorem qR:Kw X N0:=by
 intro pins s σ H o i v ov iv u Q I ro ri rv h;obtain⟨p,xs,k,j,rfl,rfl,hp,hj,q⟩:=h;cases ro;obtain⟨t,rfl⟩:=ri;obtain⟨its,n,r,ho,hz⟩:=I.lst hp;obtain⟨h1,h2,h3,h4⟩:=AQ hj;have hl:=r.length;have hn:=vp
 have I':Inv X pins σ (d3 H p (.lst (xs.set j v))) { s with heap:=s.heap.update p (Obj.mapSeq (·.setIfInBounds j u)) } :=
  I.Lj hp ho (zk its n j u) (r.set rv j) (by rw[aZ];exact hz) s.toks
 by_cases h0:0<=k
 .have hk:k.toNat=j:=by
   rw[seqIndex_of h0 h4] at h1;exact Option.some.inj h1
  exact W.ki_setAt ho h0 (!1) (by rw[aC,<- hl];exact h4) (by rw[hk];exact⟨_,I',q⟩)
 .have hk:(k+(its.toArray.size:Int)).toNat=j:=by
   rw[seqIndex_neg (!1) h3] at h1;rw[aC,<- hl];exact Option.some.inj h1
  exact W.ki_setBack ho (!1) (by rw[aC,<- hl];exact h3) (!1) (by rw[hk];exact⟨_,I',q⟩)
theorem vt (lo hi:Option Int)(n:Nat):(sliceBounds lo hi none n).1=((HT.gf n 0 lo:Nat):Int)/\(sliceBounds lo hi none n).2.1=((HT.gf n n hi:Nat):Int)/\(sliceBounds lo hi none n).2.2=1:=by
 refine⟨?_,?_,rfl⟩
 .cases lo with
  | none=>simp[sliceBounds,HT.gf]
  | some i =>
   simp only[sliceBounds,HT.gf,Option.getD_none,show (1:Int) > 0 by decide,if_true];by_cases h:i<0
   .simp only[h,if_true]<;>omega
   .simp only[h,if_false]<;>omega
 .cases hi with
  | none=>simp[sliceBounds,HT.gf]
  | some i =>
   simp only[sliceBounds,HT.gf,Option.getD_none,show (1:Int) > 0 by decide,if_true];by_cases h:i<0
   .simp only[h,if_true]<;>omega
   .simp only[h,if_false]<;>omega
theorem tp (its:List ag)(lo hi:Option Int):slicePick its.toArray lo hi none=((its.drop (HT.gf its.length 0 lo)).take (HT.gf its.length its.length hi - HT.gf its.length 0 lo)).toArray:=by
 obtain⟨h1,h2,h3⟩:=vt lo hi its.toArray.size;unfold slicePick;rw[h1,h2,h3];simp only[sliceRange_one,pick_run,aC]<;>rfl
noncomputable def N1 (K:W.Frag):V->Option Int->Option Int->Hp->VK->Prop:=λx lo hi H Q=>∃a xs,x=.ref a/\fU K H a xs/\∀p,H p=none->Q (.ref p) (d3 H p (.lst (nX xs lo hi)))
theorem GW:FZ X (N1 X.K):=by
 intro pins s σ H x v vl vu lo hi sl Q I rx hs pl pu h;obtain⟨a,xs,rfl,hx,q⟩:=h;cases rx;obtain⟨its,r,ht,hz⟩:=I.list hx;have hlen:=r.length;refine⟨"list",_,slot_list_getitem.lookup,ht.isList.typeIs,?_⟩;refine wpAny_getItem_list_slice ht.isList hs pl pu .none (!4) ?_ (by rw[aC]<;>omega);rw[tp,<- hlen];refine⟨.ref s.heap.objs.size,_,I.laid (t':=s.toks) (o:=.lst (nX xs lo hi)) (λb ob q=>ah _ q) (ao _) ?_,rfl,q _ (I.hok.fresh (ao _))⟩;exact⟨bj (pI xs lo hi) hz,_,0,(r.drop (HT.gf xs.length 0 lo)).take (HT.gf xs.length xs.length hi - HT.gf xs.length 0 lo),ax _ rfl⟩
theorem vv:ff X (.builtin "len") (λxs H Q=>∃p ys,xs=[.ref p]/\(fU X.K H p ys\/gZ X.K H p ys)/\Q (.int ys.length) H):=by
 intro pins s σ H xs us Q I r h;obtain⟨p,ys,rfl,hq,q⟩:=h;obtain⟨u,rfl,rx⟩:=vals1 r;cases rx;have hn:=vp;rcases hq with hq | hq
 .obtain⟨its,r',pl,hz⟩:=I.list hq
  have hlen:=r'.length;exact Calls.call_len_list pl.isList (by simp only[aC]<;>omega) ⟨.int ys.length,H,I.tok _,⟨s.toks+1,by rw[aC,hlen]⟩,q⟩
 .obtain⟨its,r',pl,hz⟩:=I.tuple hq
  have hlen:=r'.length;exact len_tuple pl (by simp only[aC]<;>omega) ⟨.int ys.length,H,I.tok _,⟨s.toks+1,by rw[aC,hlen]⟩,q⟩
theorem vw:ff X (.type "list") (λxs H Q=>∃p ys,xs=[.ref p]/\(fU X.K H p ys\/gZ X.K H p ys)/\∀l,H l=none->Q (.ref l) (d3 H l (.lst ys))):=by
 intro pins s σ H xs us Q I r h;obtain⟨p,ys,rfl,hq,q⟩:=h;obtain⟨u,rfl,rx⟩:=vals1 r;cases rx
 have fin:∀(its:List ag),dQ ys its->ys.length<=aA->∀(h':Heap) (c':Nat),(∀b o',s.heap.get? b=some o'->h'.get? b=some o') ->
   h'.get? s.heap.objs.size=some { cls:=.type "list",dict:=none,data:=.seq its.toArray c',slots:=#[] }->EP X pins σ Q (.ref s.heap.objs.size) { s with heap:=h' }:=λits r' hz h' c' kp e =>
  ⟨.ref s.heap.objs.size,_,I.laid (t':=s.toks) kp (ao _) (show eX X.prog X.w _ h' _ (.lst ys) from ⟨hz,its,c',r',e⟩),rfl,q _ (I.hok.fresh (ao _))⟩
 rcases hq with hq | hq
 .obtain⟨its,r',pl,hz⟩:=I.list hq
  have hlen:=r'.length;obtain⟨o,ho,hc,n,hd⟩:=pl.isList;exact call_list_seq p (.inl rfl) ho hc hd (λh' c' kp e=>fin its r' hz h' c' kp e) (by simp only[aC]<;>omega)
 .obtain⟨its,r',pl,hz⟩:=I.tuple hq
  have hlen:=r'.length;obtain⟨o,ho,hc,n,hd⟩:=pl;exact call_list_seq p (.inr rfl) ho hc hd (λh' c' kp e=>fin its r' hz h' c' kp e) (by simp only[aC]<;>omega)
theorem tq:ff X (.type "tuple") (λxs H Q=>∃p ys,xs=[.ref p]/\((fU X.K H p ys/\∀l,H l=none->Q (.ref l) (d3 H l (.tup ys)))\/(gZ X.K H p ys/\Q (.ref p) H))):=by
 intro pins s σ H xs us Q I r h;obtain⟨p,ys,rfl,h⟩:=h;obtain⟨u,rfl,rx⟩:=vals1 r;cases rx;rcases h with⟨hq,q⟩ | ⟨hq,q⟩
 .obtain⟨its,r',pl,hz⟩:=I.list hq
  have hlen:=r'.length;refine call_tuple_list pl.isList (λh' kp=>?_) (by simp only[aC]<;>omega);have I1:Inv X pins σ H { s with heap:=h' }:=I.kept (t':=s.toks) kp
  have I2:Inv X pins σ (d3 H h'.objs.size (.tup ys)) { s with heap:=h'.push { cls:=.type "tuple",data:=.seq its.toArray } } :=
   I1.laid (t':=s.toks) (λb o e=>ah _ e) (ao _) (show eX X.prog X.w _ _ _ (.tup ys) from ⟨hz,its,r',s9.new _ _⟩)
  exact⟨.ref h'.objs.size,_,I2,rfl,q _ (I1.hok.fresh (ao _))⟩
 .obtain⟨its,r',pl,hz⟩:=I.tuple hq
  exact call_tuple_same pl ⟨.ref p,H,I,rfl,q⟩
noncomputable def Tp (K:W.Frag)(T:String)(x:V)(H:Hp):Prop:=match x with
 | .str _=>T = "str"
 | .int _=>T = "int"
 | .ref p=>(T = "list" /\ ∃xs,fU K H p xs)\/(T = "tuple" /\ ∃o,K.lookup p=some o/\o.cls=.type "tuple" /\ o.dict=none) \/
   (T = "dict" /\ ((∃kvs,H p=some (.dK kvs))\/∃kvs,H p=some (.dT kvs)))\/(T = "set" /\ ∃S n,H p=some (.set S n))
 | _=>False
theorem Lk (I:Inv X pins σ H s)(r:RelV x v)(ty:Tp X.K T x H) :
  s.TypeIs v T/\∀a,v=.ref a->∃ob,s.heap.get? a=some ob/\ob.dict=none:=by
 cases x with
 | str z =>
  obtain⟨t,rfl⟩:=r;cases (show T = "str" from ty);exact⟨typeIs_str s z t,λ_ e=>nomatch e⟩
 | int i =>
  obtain⟨t,rfl⟩:=r;cases (show T = "int" from ty);exact⟨typeIs_int s i t,λ_ e=>nomatch e⟩
 | ref p =>
  cases r;rcases ty with⟨rfl,xs,hq⟩ | ⟨rfl,o,hk,hc,hd⟩ | ⟨rfl,hk⟩ | ⟨rfl,S,n,hk⟩
  .obtain⟨its,_,pl,_⟩:=I.list hq
   refine⟨pl.isList.typeIs,λa e=>?_⟩;cases e;obtain⟨o,n,e,c,hd,_⟩:=pl;exact⟨o,e,hd⟩
  .refine⟨⟨o,I.wJ p o hk,hc⟩,λa e=>?_⟩
   cases e;exact⟨o,I.wJ _ o hk,hd⟩
  .have z:∃o,s.heap.get? p=some o/\o.ExactDict:=by
    rcases hk with⟨kvs,hk⟩ | ⟨kvs,hk⟩
    .obtain⟨_,_,_,_,o,_,_,e,ex,_⟩:=I.hok p _ hk
     exact⟨o,e,ex⟩
    .obtain⟨_,_,_,_,o,_,_,e,ex,_⟩:=I.hok p _ hk
     exact⟨o,e,ex⟩
   obtain⟨o,e,ex⟩:=z;refine⟨⟨o,e,ex.1⟩,λa e2=>?_⟩;cases e2;exact⟨o,e,ex.2.1⟩
  .obtain⟨o,_,_,_,e,ex,_⟩:=I.hok p _ hk
   refine⟨⟨o,e,ex.1⟩,λa e2=>?_⟩;cases e2;exact⟨o,e,ex.2.1⟩
 | _=>exact False.elim ty
noncomputable def Q1 (K:W.Frag)(T:String)(r:V->List V->Hp->VK->Prop)(to:TE)(t:TA):TE:=λσ H Q=>to σ H λx H1=>Tp K T x H1/\t σ H1 λxs H2=>r x xs H2 Q
variable {o e:Expr}{es:List Expr}{to:TE}{t:TA}{name:Str}{kG hZ:Pos}{T id:String}{r:V->List V->Hp->VK->Prop}
theorem Oa (pa:PlainAttrs T)(slot:Slot T name id)(Ll:typeOf (.builtin id)=pure (.type "method_descriptor"))(hm:GU X id r)(ho:PE X o to)(ha:PA X (e::es) t)
  (qS:attributeBase o name X.env (eval o X.env)=eval o X.env:=by rfl)
  (Lm:((backTo hZ (starEach (e::es) X.env)).all (λx=>!x.1) && (backToKw hZ (keywordEach [] X.env)).all (λx=>x.1.isSome)
   && decide ((e::es).length+([]:List Keyword).length+(if ([]:List Keyword).isEmpty then 0 else 1)<30))=true:=by rfl)
  (qT:(kG.endLine == hZ.line)=true:=by rfl) (hs:starEach (e::es) X.env=(false,eval e X.env)::starEach es X.env:=by rfl) (Ln:(backTo hZ (starEach es X.env)).any (·.1)=false:=by rfl) :
  PE X (.Call (.Attribute o name kG) (e::es) [] hZ) (Q1 X.K T r to t):=by
 intro pins s σ H Q I h;refine wpAny_Call_method_late qS Lm qT rfl (fc (ho pins s σ H _ I h) λv s1 ⟨x,H1,I1,r1,ty,q1⟩=>?_);obtain⟨h1,h2⟩:=Lk I1 r1 ty;refine⟨T,id,pa,slot,Ll,h1,h2,?_⟩;have hA:=ha hZ pins s1 σ H1 _ I1 q1;rw[hs] at hA ⊢;refine Calls.callWith_builtin (by show (false || (backTo hZ (starEach es X.env)).any (·.1))=false;rw[Ln]<;>rfl) (Calls.evalArgs_plain ?_);exact fc hA λus s2 ⟨vs,H2,I2,r2,q2⟩=>hm pins s2 σ H2 x vs v us Q I2 r1 r2 q2
end
noncomputable def Q2 (X:Cx)(id:String)(r:V->List V->Hp->VK->Prop):Prop :=
 ∀(pins:List (Addr × Obj)) (s:aw) (σ:St) (H:Hp) (x:V) (xs:List V) (v:ag) (us:List ag) (Q:VK),Inv X pins σ H s->RelV x v->dQ xs us->r x xs H Q ->
  aE (model X.prog X.w) X.A (call (.builtin id) (v::us)) (EP X pins σ Q) X.xe s
theorem dQ.one (h:dQ [x] us):∃u,us=[u]/\RelV x u:=by
 cases h with
 | cons r t =>
  cases t;exact⟨_,rfl,r⟩
theorem dQ.rep (h:dQ xs us):∀k:Nat,dQ (List.replicate k xs).flatten (List.replicate k us).flatten
 | 0=>.nil
 | k+1=>by
  rw[aG,aG,cm,cm];exact dQ.append h (dQ.rep h k)
theorem foldl_rep (its:List ag):∀(k:Nat) (acc:List ag),
  c6 (λx1 x2=>x1++x2) acc.toArray (List.replicate k its.toArray)=(acc++(List.replicate k its).flatten).toArray
 | 0,acc=>by simp
 | k+1,acc=>by
  have e:acc.toArray++its.toArray=(acc++its).toArray:=by simp
  have e2:(acc++its)++(List.replicate k its).flatten=acc++(List.replicate (k+1) its).flatten:=by
   rw[aG,cm,bw]
  rw[<- e2,<- foldl_rep its k (acc++its),<- e,aG,dc]
section
theorem Inv.Lo {its its':List ag}{n:Nat}{f:Array ag->Array ag}{t':Nat}(I:Inv X pins σ H s)(hH:H l=some (.lst xs))
  (e:s.heap.get? l=some { cls:=.type "list",data:=.seq its.toArray n }) (hf:f its.toArray=its'.toArray) (hv:dQ ys its') (hz:ys.length<=aA) :
  Inv X pins σ (d3 H l (.lst ys)) { s with heap:=s.heap.update l (Obj.mapSeq f),toks:=t' }:=by
 have q:=PySem.IsL.update e f;rw[hf] at q;refine I.write (x:=l) (e:=l) (by rw[hH];exact trivial) (.inl rfl) (λb' u hb hu=>(aH s.heap (Obj.mapSeq f) (Ne.symm hb)).trans hu) ⟨_,q⟩ ?_;exact⟨hz,its',_,hv,q⟩
theorem Inv.Ob (I:Inv X pins σ H s)(hv:dQ ys its)(hz:ys.length<=aA) :
  Inv X pins σ (d3 H s.heap.objs.size (.lst ys)) { s with heap:=s.heap.push { cls:=.type "list",data:=.seq its.toArray },toks:=t' } :=
 I.laid (λ_ _ q=>ah _ q) (ao _) ⟨hz,its,0,hv,ax _ rfl⟩
theorem Inv.fresh (I:Inv X pins σ H s):H s.heap.objs.size=none:=I.hok.fresh (ao _)
theorem Inv.zm (I:Inv X pins σ H s)(hH:H l=some (.lst xs)):xs.length<=aA/\∃(its:List ag) (n:Nat),dQ xs its/\xs.length=its.length/\s.heap.get? l=some { cls:=.type "list",data:=.seq its.toArray n }:=by
 obtain⟨z,its,n,r,e⟩:=I.hok l _ hH;exact⟨z,its,n,r,r.length,e⟩
theorem qU (h:n<=aA):Builtin.List.listTooLong n=false:=by
 unfold Builtin.List.listTooLong;exact decide_eq_false (!1)
end
section
variable {X:Cx}
noncomputable def GX:V->List V->Hp->VK->Prop:=λx vs H Q=>∃l xs y,x=.ref l/\vs=[y]/\H l=some (.lst xs)/\xs.length<aA/\Q .gJ (d3 H l (.lst (xs++[y])))
theorem B4:Q2 X "list.append" GX:=by
 intro pins s σ H x vs v us Q I rx rv h;obtain⟨l,xs,y,rfl,rfl,hH,hz,q⟩:=h;cases rx;obtain⟨u,rfl,ru⟩:=rv.one;obtain⟨z,its,n,r,hl,e⟩:=I.zm hH;refine call_meets F.slot_list_append ⟨_,e,rfl⟩ F.entry_list_append (F.args_list_append_2 _ _) (PySem.list_append l its.toArray n u (by rw[aC];omega)) ⟨e,?_⟩;refine⟨.gJ,_,I.Lo (its':=its++[u]) hH e (!4) (r.append (.cons ru .nil)) ?_,rfl,q⟩;rw[aK,bq];omega
noncomputable def GY:V->List V->Hp->VK->Prop:=λx vs H Q=>∃l b xs zs,x=.ref l/\vs=[.ref b]/\H l=some (.lst xs)/\H b=some (.lst zs)/\xs.length+zs.length<=aA/\Q .gJ (d3 H l (.lst (xs++zs)))
theorem B5:Q2 X "list.extend" GY:=by
 intro pins s σ H x vs v us Q I rx rv h;obtain⟨l,b,xs,zs,rfl,rfl,hH,hB,hz,q⟩:=h;cases rx;obtain⟨u,rfl,ru⟩:=rv.one;cases ru;obtain⟨z,its,n,r,hl,e⟩:=I.zm hH;obtain⟨z2,mV,n2,r2,wC,e2⟩:=I.zm hB;have hsz:its.toArray.size+mV.toArray.size<=aA:=by rw[aC,aC];omega
 have wX:¬ (!its.toArray.isEmpty && Builtin.List.listTooLong (its.toArray.size+mV.toArray.size))=true:=by
  rw[qU hsz,Bool.and_false];exact bc
 refine call_meets F.slot_list_extend ⟨_,e,rfl⟩ F.entry_list_extend (F.args_list_extend_2 _ _)
  (AutoSeq1.list_extend_list_list_0 l its.toArray n b mV.toArray n2 wX (by rw[aC];omega) (!1)) ⟨e,e2,?_⟩
 refine⟨.gJ,_,I.Lo (its':=its++mV) hH e (!4) (r.append r2) ?_,rfl,q⟩;rw[aK];omega
noncomputable def Q3:R2:=λx y H Q=>∃l b xs zs,x=.ref l/\y=.ref b/\H l=some (.lst xs)/\H b=some (.lst zs)/\xs.length+zs.length<=aA/\∀p,H p=none->Q (.ref p) (d3 H p (.lst (xs++zs)))
theorem DI:kC X (binaryOp .Add) Q3:=by
 intro pins s σ H x y v u Q I rx ry h;obtain⟨l,b,xs,zs,rfl,rfl,hH,hB,hz,q⟩:=h;cases rx;cases ry;obtain⟨z,its,n,r,hl,e⟩:=I.zm hH;obtain⟨z2,mV,n2,r2,wC,e2⟩:=I.zm hB;refine PySem.P.add_list e e2 ?_ (by rw[aC,aC];omega);have ea:its.toArray++mV.toArray=(its++mV).toArray:=by simp
 rw[ea];exact⟨.ref _,_,I.Ob (t':=s.toks) (r.append r2) (by rw[aK];omega),rfl,q _ I.fresh⟩
noncomputable def Q4:R2:=λx y H Q=>∃l k xs,x=.ref l/\y=.int k/\H l=some (.lst xs)/\-(2 ^ 63)<=k/\k<2 ^ 63/\xs.length * k.toNat<=aA /\
 ∀p,H p=none->Q (.ref p) (d3 H p (.lst (List.replicate k.toNat xs).flatten))
theorem vx {α:Type}(xs:List α)(k:Nat):(List.replicate k xs).flatten.length=k * xs.length:=by
 induction k with
 | zero=>simp
 | succ k ih=>rw[aG,cm,aK,ih,Nat.succ_mul,Nat.add_comm]
theorem DJ:kC X (binaryOp .Mult) Q4:=by
 intro pins s σ H x y v u Q I rx ry h;obtain⟨l,k,xs,rfl,rfl,hH,h1,h2,hz,q⟩:=h;cases rx;obtain⟨t,rfl⟩:=ry;obtain⟨z,its,n,r,hl,e⟩:=I.zm hH;have hlen:its.toArray.size * k.toNat<=aA:=by rw[aC,<- hl];exact hz
 have Q5:¬ its.toArray.size * k.toNat > (2 ^ 63 - 1) / 8:=by
  have:(aA:Nat)<=(2 ^ 63 - 1) / 8:=by decide
  omega
 have Q6:¬ (!Builtin.List.listFitsIndex k)=true:=by
  rw[fitsIndex_both h1 h2];exact bc
 have wX:¬ Builtin.List.listTooLong (its.toArray.size * k.toNat)=true:=by
  rw[qU hlen];exact bc
 have DK:c6 (λx1 x2=>x1++x2) #[] (List.replicate (if its.toArray.isEmpty=true then 0 else k.toNat) its.toArray)=(List.replicate k.toNat its).flatten.toArray:=by
  have f0:∀m:Nat,c6 (λx1 x2=>x1++x2) #[] (List.replicate m its.toArray)=(List.replicate m its).flatten.toArray:=λm=>by
   have:=foldl_rep its m [];rw[aI] at this;exact this
  rw[f0]
  cases its with
  | nil=>simp
  | cons a r'=>rw[if_neg (!4)]
 refine wpAny_binaryOp_repeat_ref (T := "list") (U := "int") (!2) ⟨_,e,rfl⟩ (λs'=>typeIs_int s' k t) noFill_list_mul F.fills_int_mul F.slot_int_rmul repeat_list F.slot_int_index.lookup
  (call_meets F.slot_int_rmul (typeIs_int s k t) F.entry_int_rmul (F.args_int_rmul_2 _ _) (int___rmul___int_list k t l its.toArray n)
   ⟨e,rfl,⟨_,e,rfl⟩,call_meets F.slot_list_mul ⟨_,e,rfl⟩ F.entry_list_mul (F.args_list_mul_2 _ _) (AutoListH.list___mul___list_int_3 l its.toArray n k t Q6 Q5 wX) ⟨e,?_⟩⟩)
 rw[DK];exact⟨.ref _,_,I.Ob (t':=s.toks) (r.rep k.toNat) (by rw[vx,Nat.mul_comm];exact hz),rfl,q _ I.fresh⟩
end
end L2
namespace Att
open PySem PySem.W PySem.Calls PyProof.Rows
theorem pY:∀(ns:List Int) (vs:List ag),WellAll P h vs (ns.map WData.int)->IntsAre vs ns:=by
 intro ns
 induction ns with
 | nil =>
  intro vs w;rw[ba] at w;cases w;exact .nil
 | cons n ns ih =>
  intro vs w;rw[ak] at w
  cases w with
  | cons a b =>
   cases a;exact .cons _ _ (ih _ b)
theorem B6 {l:OpenLaw}{n:Nat}(hn:l.most=some n){P:Params}{h:Heap}{args:List WData}{Lp:List ag}
  (GZ:l.row.toRowW.claim.pre args=true) (Q7:WellAll P h Lp args) :
  ∃a vs ns,Lp=[ag.ref a]/\args=[WData.list (ns.map WData.int)]/\h.get? a=some { cls:=.type "list",data:=.seq vs.toArray }/\IntsAre vs ns/\ns.length<=n:=by
 have UW:WShape.hasAll [] args [.list .int]=true:=(pre_splitW GZ).1;have hc:l.pre.holds [] { args:=args }=true:=(pre_splitW GZ).2;obtain⟨d,r,rfl,h1,h2⟩:=hasAllW_cons UW;obtain rfl:=hasAllW_nil h2;obtain⟨xs,rfl,h3⟩:=hasW_list h1;obtain⟨ns,rfl⟩:=items_int h3
 have hlen:ns.length<=n:=by
  unfold OpenLaw.pre at hc
  have h4:(WTm.not (.lt (.lit (.int (n:Int))) (.len (.arg 0)))).holds [] { args:=[.list (ns.map .int)] }=true:=by
   have h4:=(holds_andW hc).1;rw[hn] at h4;exact h4
  have h5:=condW_of h4 (w_not (w_lt w_lit (w_len_list (w_arg rfl))));rw[ar] at h5;refine Nat.le_of_not_lt λq=>?_;have q':(n:Int)<((ns.length:Nat):Int):=by omega
  first
   | (rw[decide_eq_true q'] at h5;exact absurd h5 (!2))
   | (simp at h5;omega)
 cases Q7 with
 | cons w1 w2 =>
  cases w2
  cases w1 with
  | list ho qV=>exact⟨_,_,ns,rfl,rfl,ho,pY ns _ qV,hlen⟩
theorem B7 (l:OpenLaw)(args:List WData):l.row.toRowW.claim.post args (.bool true) args=true :=
 postW_of (r:=l.row.toRowW) (X:=(true == true))
  (show WShape.has [] (.bool true) .bool=true by first | rfl | decide | simp[WShape.has,WShape.arms,WShape.armsAll])
  (show (WTm.eq .res (.lit (.bool true))).value [] { args:=args,res:=some (.bool true),after:=args }=some (.bool (true == true)) from w_eq_bool (w_res rfl) w_lit) rfl
theorem wY {l:OpenLaw}{n:Nat}{q:a5}{loose:List Str}{XP:(Str->Option ag)->Heap->Prop}{YP:World->Heap->Prop}{d:DefRec}
  (hn:l.most=some n) (Oc:d.params.defaults=[])
  (call:∀(w:World) (s₀ s₁:aw) (mg mb:Str->Option ag) (fa:Addr) (o:Obj) (pm cd sX:ag) (a:Addr) (vs:List ag) (ns:List Int),
   Ground q loose [] XP w s₀ mg mb s₁.heap->YP w s₁.heap ->
   s₁.heap.get? fa=some o->o.data=.func (docDef d.name d.params d.body d.scope pm cd sX)->s₁.heap.CodeRec cd d.name->mg d.name=some (.ref fa) ->
   s₁.heap.get? a=some { cls:=.type "list",data:=.seq vs.toArray }->IntsAre vs ns->ns.length<=n->s₁.gens=#[] ->
   codeAny (model l.prog w) callerA (.call (.ref fa) ⟨[.ref a],[]⟩) (λr s'=>r=.ok (.ret (.bool true))/\OldK s₁.heap s'.heap/\s'.os=s₁.os/\AllBare s'.gens) s₁) :
  WalkO q loose XP YP l.row.toRowW d [] (λf vs=>PySem.call f vs):=by
 intro w s₀ s₁ mg mb G Y fa o pm cd sX dV kV ho hd jz hD Od hg args Lp as GZ UY Xq Q7 Xr;obtain rfl:dV=.none:=Dflts.none hD Oc;obtain rfl:kV=.none:=Dflts.noKw hD;obtain⟨a,vs,ns,rfl,rfl,Lq,DL,hlen⟩:=B6 hn GZ Q7;refine enter_call (codeAny_mono (call w s₀ s₁ mg mb fa o pm cd sX a vs ns G Y ho (fd_plain hd) jz Od Lq DL hlen hg) λr s' hq=>?_);obtain⟨rfl,h2,h3,h4⟩:=hq;exact⟨.inl ⟨.bool true,.bool true,[],rfl,λ_=>rfl,.bool true,B7 l _,λ_=>⟨List.Pairwise.nil,λ_ hm=>(nomatch hm)⟩⟩,h2,h3,h4⟩
end Att
namespace L2
open PySem PySem.Spec PyProof.Rows
theorem uj:∀{vs:List ag} {ns:List Int},IntsAre vs ns->dQ (ns.map V.int) vs
 | _,_,.nil=>.nil
 | _,_,.cons n t h=>.cons ⟨t,rfl⟩ (uj h)
noncomputable def Lr (H:Hp):Prop:=∀b,H b=none\/∃o xs,H b=some (.nj o (.lst xs))
theorem DM {P:a5}{w:World}{K:W.Frag}{mg mb:Str->Option ag}{CX:DC}{k:Nat}{fa a:Addr}{fd:bH}{x:Str}{sp:Sp}{s₁:aw}{vs:List ag}{ns:List Int}
  (KX:K.In s₁.heap) (Tq:s₁.heap.Ns be mg) (hb:s₁.heap.Ns builtinsNs mb) (UZ:∀x:Str,x ≠ "__name__" -> mb x=bootBuiltins x) (Q8:s₁.heap.NoLimit) (hg:s₁.gens=#[])
  (ha:s₁.heap.get? a=some { cls:=.type "list",data:=.seq vs.toArray }) (hi:IntsAre vs ns) (hl:ns.length<=aA) (hr:f6 k callerA)
  (F:∀base:Heap,K.In base->base.Ns be mg->lB P w K mg base CX k fa fd [x] sp) (Oe:∀(s:aw) (u:ag),BindsTo s fd ⟨[u],[]⟩ [(x,u)])
  (Jh:∀H:Hp,Lr H->fU K H a (ns.map V.int)->sp [.ref a] H (λv _=>v=.bl true) λ_ _ _=>False)
  (Q9:∀H e s',CX [] H s₁ (λ_ _ _=>False) e s'->False) :
  codeAny (model P w) callerA (.call (.ref fa) ⟨[.ref a],[]⟩) (λr s'=>r=.ok (.ret (.bool true))/\OldK s₁.heap s'.heap/\s'.os=s₁.os/\AllBare s'.gens) s₁:=by
 have rv:=uj hi;have Ra:=hi.length
 have Of:∀H:Hp,Lr H->fU K H a (ns.map V.int)->lC P w H s₁.heap->(∀b,H b≠none->b=a)->(H a≠none->K.lookup a=none) ->
   codeAny (model P w) callerA (.call (.ref fa) ⟨[.ref a],[]⟩) (λr s'=>r=.ok (.ret (.bool true))/\OldK s₁.heap s'.heap/\s'.os=s₁.os/\AllBare s'.gens) s₁:=by
  intro H hO hS hok hA hK;have AS:∀{b:Addr} {o:Obj},s₁.heap.get? b=some o->H b=none->(vo s₁.heap H).get? b=some o:=λe n=>Dj e n
  have NQ:∀{b:Addr} {o:Obj} {es:Array DictEntry} {ep:Nat},s₁.heap.get? b=some o->o.data=.dict es ep->H b=none:=λ{b o es ep} e d=>by
   cases q:H b with
   | none=>rfl
   | some u =>
    have e':b=a:=hA b (by rw[q];simp);subst e';rw[ha] at e;cases e;have d':Data.seq vs.toArray _=Data.dict es ep:=d;cases d'
  have Qd:∀{b:Addr} {m:Str->Option ag},s₁.heap.Ns b m->(vo s₁.heap H).Ns b m:=λ{b m} ⟨o,es,ep,e,d,r⟩=>⟨o,es,ep,AS e (NQ e d),d,r⟩
  have Tr:K.In (vo s₁.heap H):=λb o e=>AS (KX b o e) (by
   cases q:H b with
   | none=>rfl
   | some u =>
    have e':b=a:=hA b (by rw[q];simp);subst e';rw[hK (by rw[q];simp)] at e;cases e)
  have hM:Mod K mg (vo s₁.heap H):=⟨Tr,Qd Tq,⟨mb,Qd hb,UZ⟩,let ⟨mc,h1,h2⟩:=Q8;⟨mc,Qd h1,h2⟩⟩;have e0:GK P w K mg (vo s₁.heap H) callerA [] s₁ H:=⟨rfl,hM,λb o e=>Gf e,Nat.le_of_eq (BQ _ _),trivial,λb hb=>absurd (show b∈([]:List Addr) from hb) (!4),hok,.of_eq hg⟩;refine codeAny_mono ((F _ Tr (Qd Tq)).run callerA [] s₁ H ⟨[.ref a],[]⟩ [.ref a] [.ref a] _ _ hr e0 (Oe s₁ (.ref a)) (.cons rfl .nil) (Jh H hO hS)) λr s' h=>?_
  cases r with
  | error e=>exact (Q9 H e s' h).elim
  | ok fl =>
   cases fl with
   | next=>exact False.elim h
   | brk=>exact False.elim h
   | cont=>exact False.elim h
   | ret u =>
    obtain⟨v,H',os,bare,un,Rb,r',q⟩:=h;have q':v=.bl true:=q;subst q';obtain rfl:u=ag.bool true:=r';refine⟨rfl,OldK.of_keep λb o e=>?_,os,bare⟩
    cases q:H b with
    | none=>exact un.keep b o e q (by intro z;exact absurd (show b∈([]:List Addr) from z) (!4)) (!4)
    | some u =>
     rcases hO b with z | ⟨ob,xs,z⟩
     .rw[q] at z;cases z
     .have z2:=un.vn b ob _ z
      obtain⟨e1,_⟩:=hok b _ z;obtain⟨e2,_⟩:=Rb b _ z2;rw[e] at e1;cases e1;exact e2
 cases hk:K.lookup a with
 | some o =>
  have e:=KX a o hk;rw[ha] at e;cases e;refine Of (λ_=>none) (λ_=>.inl rfl) (.inr ⟨_,vs.toArray,_,hk,rfl,rfl,rfl,by rw[aC,Ra];exact hl,by simpa using rv⟩) (λb u z=>by have z':(none:Option HO)=some u:=z;cases z') (λb z=>absurd rfl z) λz=>absurd rfl z
 | none =>
  refine Of (λb=>if b=a then some (.nj { cls:=.type "list",data:=.seq vs.toArray } (.lst (ns.map V.int))) else none) (λb=>?_) (.inl (.inr ⟨{ cls:=.type "list",data:=.seq vs.toArray },if_pos rfl⟩)) (λb u z=>?_) (λb z=>?_) λ_=>hk
  .by_cases hb:b=a
   .exact .inr ⟨_,_,if_pos hb⟩
   .exact .inl (if_neg hb)
  .by_cases hb:b=a
   .have z':=(if_pos hb).symm.trans z
    cases z';subst hb;exact⟨ha,by rw[ar];exact hl,vs,_,rv,ha⟩
   .have z':=(if_neg hb).symm.trans z
    cases z'
  .by_cases hb:b=a
   .exact hb
   .exact absurd (if_neg hb) z
noncomputable abbrev Xs {K:W.Frag}{h:Heap}(_:K.In h):W.Frag:=K
theorem G0 {l:W.OpenLaw}{n k:Nat}{q:a5}{loose:List Str}{XP:(Str->Option ag)->Heap->Prop}{YP:World->Heap->Prop}{d:DefRec}{K:Params->W.Frag}{CX:World->DC}{sp:World->Sp}{x:Str}
  (hn:l.most=some n) (Qe:n<=aA) (Oc:d.params.defaults=[]) (hr:f6 k callerA)
  (hY:∀(w:World) (h:Heap),YP w h->(K w.params).In h)
  (F:∀(w:World) (mg:Str->Option ag) (fa:Addr) (h:Heap),(K w.params).In h->h.Ns be mg->mg d.name=some (.ref fa) ->
   ∃fd:bH,(∀(s:aw) (u:ag),BindsTo s fd ⟨[u],[]⟩ [(x,u)]) /\
    ∀base:Heap,(K w.params).In base->base.Ns be mg->lB l.prog w (K w.params) mg base (CX w) k fa fd [x] (sp w))
  (Jh:∀(w:World) (H:Hp) (a:Addr) (ns:List Int),ns.length<=n->Lr H->fU (K w.params) H a (ns.map V.int)->sp w [.ref a] H (λv _=>v=.bl true) λ_ _ _=>False)
  (Q9:∀(w:World) (H:Hp) (s:aw) (e:ag) (s':aw),CX w [] H s (λ_ _ _=>False) e s'->False) :
  W.WalkO q loose XP YP l.row.toRowW d [] (λf vs=>PySem.call f vs):=by
 refine Att.wY hn Oc λw s₀ s₁ mg mb fa o pm cd sX a vs ns G Y ho hd jz Od Lq DL hlen hg=>?_;have KX:=hY w _ Y;obtain⟨fd,hb,hF⟩:=F w mg fa _ KX G.T.g Od;exact DM KX G.T.g G.T.b G.T.builtins G.T.nolimit hg Lq DL (bj hlen Qe) hr hF hb (λH hO hS=>Jh w H a ns hlen hO hS) λH e s'=>Q9 w H s₁ e s'
noncomputable def jC (s:Stmt):Arguments:=match s with
 | .FunctionDef _ a _ _ _ _ _ _ _ _=>a
 | _=>{ posonlyargs:=[],args:=[],vararg:=none,kwonlyargs:=[],kw_defaults:=[],kwarg:=none,defaults:=[] }
noncomputable def fC (s:Stmt):List Stmt:=match s with
 | .FunctionDef _ _ b _ _ _ _ _ _ _=>b
 | _=>[]
noncomputable def dn (s:Stmt):Scope:=match s with
 | .FunctionDef _ _ _ _ _ _ sc _ _ _=>sc
 | _=>{ kind:=.function,names:=[],isGenerator:=false,isCoroutine:=false }
noncomputable abbrev vy:DC:=λ_ _ _ _ _ _=>False
noncomputable abbrev E0:XK:=λ_ _ _=>False
theorem Og:zh vy X E0:=λ_ _ _ _ _ _ _ h=>h.elim
structure wZ (K:W.Frag) (x fb:Str) (st:Stmt) (f:Addr) (fd:bH):Prop where
 ex:∃(oc:ag) (od:Option Addr) (kV sX pm:ag) (an:Option Addr) (eS ct:ag) (Dc:Array (Option ag)),
  fd=W.fnOf x fb (jC st) (fC st) (dn st) .none kV sX pm an eS ct/\K.lookup f=some ⟨oc,od,.func fd,Dc⟩/\W.codeIn K eS fb=true
 kp:W.keepIn K (.ref f)=true
section
variable {P:a5}{w:World}{K:W.Frag}{mg:Str->Option ag}{base:Heap}
theorem wZ.ok {x fb:Str}{st:Stmt}{f:Addr}{fd:bH}{N ps:List Str}{k:Nat}{sp:Sp}(F:wZ K x fb st f fd)(S:e9 N ps (dn st))(len:∀vs H Q E,sp vs H Q E->vs.length=ps.length)
  (wV:∀(eS:ag) (A:Around) (outer:List Env) (s:aw) (H:Hp) (vs:List V) (Q:VK) (E:XK),f6 k (A.deeper (envOfC fb (dn st) s.heap.objs.size f eS))->sp vs H Q E ->
   ∃t,yW (nq vy P w K mg base N fb (dn st) f eS A outer s H E).BS (fC st) t/\t { nx:=λ_ H'=>Q .gJ H',rt:=Q } (start N vs) H):lB P w K mg base vy (k+1) f fd ps sp:=by
 obtain⟨oc,od,kV,sX,pm,an,eS,ct,Dc,rfl,lk,jz⟩:=F.ex;refine NR lk jz S len λA outer s H vs Q E hr Jh=>?_;obtain⟨t,h,q⟩:=wV eS A outer s H vs Q E hr Jh;exact⟨t,h.BS,q⟩
theorem wZ.binds {x fb:Str}{st:Stmt}{f:Addr}{fd:bH}{ps:List Str}(F:wZ K x fb st f fd)
  (h:∀(kV sX pm:ag) (an:Option Addr) (eS ct:ag) (us:List ag),us.length=ps.length->bindArgs (W.fnOf x fb (jC st) (fC st) (dn st) .none kV sX pm an eS ct) ⟨us,[]⟩=pure (ps.zip us)):Binds K fd ps []:=by
 obtain⟨oc,od,kV,sX,pm,an,eS,ct,Dc,rfl,lk,jz⟩:=F.ex;exact .all (h kV sX pm an eS ct)
theorem DN {x fb:Str}{st:Stmt}{f:Addr}{oc:ag}{od an:Option Addr}{Dc:Array (Option ag)}{kV sX pm eS ct:ag}(l:K.lookup f=some ⟨oc,od,.func (W.fnOf x fb (jC st) (fC st) (dn st) .none kV sX pm an eS ct),Dc⟩)
  (c:W.codeIn K eS fb=true) (k:W.keepIn K (.ref f)=true):wZ K x fb st f (W.fnOf x fb (jC st) (fC st) (dn st) .none kV sX pm an eS ct):=⟨⟨oc,od,kV,sX,pm,an,eS,ct,Dc,rfl,l,c⟩,k⟩
end
theorem Oh (hr:f6 k A):A.units+1<cLine:=cz (Nat.add_le_add_left (by decide:1<=64) _) hr.units
section
theorem pv (i:Nat)(hN:X.N[i]? = some x:=by rfl)(hv:tf X.env.scope x:=by (first | exact Or.inl rfl | exact Or.inr (Or.inl rfl) | exact Or.inr (Or.inr rfl)))(hd:(x == ("__debug__" : Str))=false:=by decide)
  (jz:(x == ("__classdict__" : Str))=false:=by decide):PE X (.Name x pos) (Gj i):=Dl hN hv hd jz
end
theorem Ls {A B:Prop}(h:B):if false=true then A else B:=by
 rw[if_neg bc];exact h
theorem Oi {A B:Prop}(h:A):if true=true then A else B:=by
 rw[if_pos rfl];exact h
theorem Lu {c A B:Prop}[Decidable c](h1:c->A)(h2:¬ c->B):if c then A else B:=by
 by_cases h:c
 .rw[if_pos h]
  exact h1 h
 .rw[if_neg h]
  exact h2 h
structure dJ (P:a5) (w:World) (K:W.Frag) (mg:Str->Option ag) (base:Heap) (k:Nat) (x:Str) (ps:List Str) (sp:Sp):Prop where
 ex:∃(f:Addr) (fd:bH),lB P w K mg base vy k f fd ps sp/\mg x=some (.ref f)/\W.keepIn K (.ref f)=true/\Binds K fd ps []
noncomputable def qW (sp:Sp)(t:TA):TE:=λσ H Q=>t σ H λvs H1=>sp vs H1 Q E0
theorem B8 (sp:Sp)(t:TA):DD sp [] E0 t=qW sp t:=by
 funext σ H Q;unfold DD qW;congr;funext vs H1;rw[bI]
section
theorem DO (D:dJ X.prog X.w X.K X.mg X.base k x ps sp)(hr:f6 k X.A)(ha:PA X (e::es) t)(hg:Gl X x:=by rfl)
  (oV:(x == ("__debug__" : Str))=false:=by decide) (he:starEach (e::es) X.env=(false,eval e X.env)::starEach es X.env:=by rfl) (lH:(backTo pos (starEach es X.env)).any (·.1)=false:=by rfl) :
  PE X (.Call (.Name x p) (e::es) [] pos) (qW sp t):=by
 obtain⟨f,fd,F,hm,hk,hb⟩:=D.ex;rw[<- B8];exact GL F hr hg hm hk hb .nil Og ha oV he lH
end
noncomputable def mW (cells:List (Str × Addr)):List (Str × aO)->List (Str × Addr)->List (Str × Addr)
 | [],acc=>acc
 | (n,k)::r,acc=>mW cells r (if (k == aO.free)=true then (n,(cells.lookup n).getD 0)::acc else acc)
theorem um (cells:List (Str × Addr))(n:Str)(k:aO)(r:List (Str × aO))(acc:List (Str × Addr)):mW cells ((n,k)::r) acc=mW cells r (if (k == aO.free)=true then (n,(cells.lookup n).getD 0)::acc else acc):=rfl
theorem w4:∀{l:List (Str × aO)} {acc:List (Str × Addr)},(x,c)∈mW cells l acc->(x,c)∈acc\/((x,aO.free)∈l/\c=(cells.lookup x).getD 0)
 | [],acc,h=>.inl h
 | (n,k)::r,acc,h=>by
  unfold mW at h;rcases w4 h with h | ⟨h1,h2⟩
  .by_cases hk:(k == aO.free)=true
   .rw[if_pos hk] at h
    rcases au.mp h with h | h
    .cases h
     have:k=aO.free:=by simpa using hk
     subst this;exact .inr ⟨aq,rfl⟩
    .exact .inl h
   .rw[if_neg hk] at h
    exact .inl h
  .exact .inr ⟨ai _ h1,h2⟩
theorem w5:∀{l:List (Str × aO)} {acc:List (Str × Addr)},q∈acc->q∈mW cells l acc
 | [],_,h=>h
 | (n,k)::r,acc,h=>by
  unfold mW;refine w5 ?_;split
  .exact ai _ h
  .exact h
theorem AU:∀{l:List (Str × aO)} {acc:List (Str × Addr)},(x,aO.free)∈l->(x,(cells.lookup x).getD 0)∈mW cells l acc
 | [],_,h=>by cases h
 | (n,k)::r,acc,h=>by
  unfold mW;rcases au.mp h with h | h
  .cases h
   refine w5 ?_;simp
  .exact AU h
theorem nu {β:Type}{x:Str}{b:β}:∀{l:List (Str × β)},(x,b)∈l->∃c,l.lookup x=some c
 | [],h=>by cases h
 | (n,k)::r,h=>by
  rw[cq]
  cases e:x == n with
  | true=>exact⟨k,rfl⟩
  | false =>
   rcases au.mp h with h | h
   .cases h
    simp at e
   .exact nu h
theorem lI:∀(l:List (Str × aO)) (acc:List (Str × Addr)),(∀x∈l,x.2=aO.free->∃c,env.cells.lookup x.1=some c) ->
  (forIn l acc λx r=>if (x.2 == aO.free)=true then (do let c <- cellOf env x.1;pure (ForInStep.yield ((x.1,c)::r))) else pure (ForInStep.yield r):Sem (List (Str × Addr)))=pure (mW env.cells l acc)
 | [],acc,_=>rfl
 | (n,k)::r,acc,h=>by
  rw[List.forIn_cons];by_cases hk:(k == aO.free)=true
  .obtain⟨c,hc⟩:=h (n,k) aq (by simpa using hk)
   have e:cellOf env n=pure c:=by unfold cellOf;rw[hc]
   show (if (k == aO.free)=true then _ else _) >>= _=_;rw[if_pos hk,e];show (forIn r ((n,c)::acc) _:Sem _)=_;rw[lI r _ λx hx=>h x (ai _ hx)];rw[um,if_pos hk,show env.cells.lookup n=some c from hc];rfl
  .show (if (k == aO.free)=true then _ else _) >>= _=_
   rw[if_neg hk];show (forIn r acc _:Sem _)=_;rw[lI r _ λx hx=>h x (ai _ hx)];rw[um,if_neg hk]
theorem tu (h:∀x∈scope.names,x.2=aO.free->∃c,env.cells.lookup x.1=some c):closureFor scope env=pure (mW env.cells scope.names []):=by
 have e:=lI scope.names [] h;unfold closureFor
 first
  | exact (congrArg (λm=>m >>= λr=>pure r) e).trans rfl
  | (simp only[bind_pure];exact e)
  | (rw[<- e];rfl)
noncomputable def gj (X:Cx)(sc:Scope)(N:List Str)(cl:List (Str × Addr))(C:Addr)(s₂:aw)(H₂:Hp)(fp:List Addr):Cx where
 prog:=X.prog
 w:=X.w
 K:=X.K
 mg:=X.mg
 base:=X.base
 A:=X.A
 N:=N
 s₀:=s₂
 H₀:=H₂
 env:=compEnvC sc cl C X.env
 outer:=X.stack
 stack:=X.stack
 ex:=fp
 fn:=λx=>sc.names.lookup x == some aO.cell
 calm:=true
 pn:=[]
 xe:=λ_ _=>False
noncomputable def kH (NX:List Str)(Lv sc:Scope)(N:List Str)(mp:List (Option Nat)):Bool :=
 sc.names.all (λp=>p.2 != aO.cell || sc.names.lookup p.1 == some aO.cell) && sc.names.all (λp=>p.2 != aO.local || sc.names.lookup p.1 == some aO.local) &&
 sc.names.all (λp=>p.2 != aO.free || (Lv.names.lookup p.1 == some aO.cell || Lv.names.lookup p.1 == some aO.free)) && sc.names.all (λp=>p.2 != aO.free || sc.names.lookup p.1 == some aO.free) &&
 mp.length == N.length && (N.zip mp).all (λq=>match q.2 with | none=>true | some i=>NX[i]? == some q.1 && sc.names.lookup q.1 == some aO.free)
noncomputable def lJ (mp:List (Option Nat))(σ:St):St:=mp.map λo=>match o with | none=>none | some i=>(σ[i]?).join
structure qX (NX:List Str) (Lv sc:Scope) (N:List Str) (mp:List (Option Nat)):Prop where
 cell:∀x∈sc.names,x.2=aO.cell->sc.names.lookup x.1=some aO.cell
 loc:∀x∈sc.names,x.2=aO.local->sc.names.lookup x.1=some aO.local
 free:∀x∈sc.names,x.2=aO.free->Lv.names.lookup x.1=some aO.cell\/Lv.names.lookup x.1=some aO.free
 fr:∀x∈sc.names,x.2=aO.free->sc.names.lookup x.1=some aO.free
 len:mp.length=N.length
 map:∀(j:Nat) (x:Str) (i:Nat),N[j]? = some x->mp[j]? = some (some i)->NX[i]? = some x/\sc.names.lookup x=some aO.free
theorem B9 (h:kH NX Lv sc N mp=true):qX NX Lv sc N mp:=by
 unfold kH at h;simp only[bo,List.all_eq_true] at h;obtain⟨⟨⟨⟨⟨h1,h2⟩,h3⟩,h6⟩,h4⟩,h5⟩:=h;have hl:mp.length=N.length:=by simpa using h4
 refine⟨λx hx e=>?_,λx hx e=>?_,λx hx e=>?_,λx hx e=>?_,hl,λj x i e1 e2=>?_⟩
 .have:=h1 x hx
  rw[e] at this;simpa using this
 .have:=h2 x hx
  rw[e] at this;simpa using this
 .have:=h3 x hx
  rw[e] at this;simpa using this
 .have:=h6 x hx
  rw[e] at this;simpa using this
 .have Rf:j<N.length:=(aD.mp e1).1
  have Ts:j<mp.length:=(aD.mp e2).1
  have hm:(x,some i)∈N.zip mp:=by
   refine bY (i:=j) ?_;rw[List.getElem?_zip_eq_some];exact⟨e1,e2⟩
  have:=h5 _ hm;simpa using this
theorem lK (h:(relabel sc env).names.lookup x=some k):∃k',(x,k')∈sc.names/\(k=k'\/(k'=aO.free/\k=aO.cell)):=by
 have hm:=PySem.mem_of_lookup h;obtain⟨⟨n,k'⟩,M1,e⟩:=aM.mp hm;refine⟨k',?_⟩;dsimp only at e;split at e
 .rename_i hc
  cases e;rw[bo,bo] at hc;have:k'=aO.free:=by simpa using hc.1.1
  exact⟨M1,.inr ⟨this,rfl⟩⟩
 .cases e
  exact⟨M1,.inl rfl⟩
theorem vz (h:sc.names.lookup x=some aO.free):(relabel sc env).names.lookup x=some aO.cell\/(relabel sc env).names.lookup x=some aO.free:=by
 show (sc.names.map _).lookup x=_\/(sc.names.map _).lookup x=_;generalize sc.names=l at h
 induction l with
 | nil=>cases h
 | cons p r ih =>
  obtain⟨n,k⟩:=p;rw[ak];dsimp only;by_cases hc:(k == aO.free && env.scope.kind == .function && env.kindOf n == some .cell)=true
  .rw[if_pos hc,cq]
   cases e:x == n with
   | true=>exact .inl rfl
   | false =>
    rw[cq,e] at h;exact ih h
  .rw[if_neg hc,cq]
   cases e:x == n with
   | true =>
    rw[cq,e] at h;exact .inr h
   | false =>
    rw[cq,e] at h;exact ih h
theorem vA:∀{l:List (Str × aO)} {n:Nat} {acc:List (Str × Addr)},q∈acc->q∈cellsFrom n l acc
 | [],_,_,h=>h
 | (m,k)::r,n,acc,h=>by
  unfold cellsFrom;split
  .exact vA (ai _ h)
  .exact vA h
theorem DP:∀{l:List (Str × aO)} {n:Nat} {acc:List (Str × Addr)},(x,aO.cell)∈l->∃c,(x,c)∈cellsFrom n l acc
 | (m,k)::r,n,acc,h=>by
  unfold cellsFrom;rcases au.mp h with h | h
  .cases h
   exact⟨n,vA (n:=n+1) (l:=r) (acc:=(x,n)::acc) aq⟩
  .split
   .exact DP h
   .exact DP h
theorem zo:∀{l:List (Str × aO)} {h:Heap} {n:Nat} {acc:List (Str × Addr)},h.objs.size=n->q∈cellsFrom n l acc->q∈acc\/(n<=q.2/\(q.1,aO.cell)∈l/\(pushCells h l).IsCell q.2 none)
 | [],_,_,_,_,h=>.inl h
 | (m,k)::r,hp,n,acc,hn,h=>by
  unfold cellsFrom at h;unfold pushCells;by_cases hk:(k == aO.cell)=true
  .rw[if_pos hk] at h ⊢
   have e:k=aO.cell:=by simpa using hk
   subst e;rcases zo (h:=hp.push { cls:=.type "cell",data:=.cell none }) (by rw[bB,hn]) h with h | ⟨h1,h2,h3⟩
   .rcases au.mp h with h | h
    .subst h
     subst hn;exact .inr ⟨ao _,aq,⟨_,pushCells_keeps _ _ _ _ (ax _ rfl),rfl⟩⟩
    .exact .inl h
   .exact .inr ⟨!1,ai _ h2,h3⟩
  .rw[if_neg hk] at h ⊢
   rcases zo hn h with h | ⟨h1,h2,h3⟩
   .exact .inl h
   .exact .inr ⟨h1,ai _ h2,h3⟩
theorem zp:∀{l:List (Str × aO)} {n:Nat} {acc:List (Str × Addr)},(∀q∈acc,q.2<n)->(∀x y c,(x,c)∈acc->(y,c)∈acc->x=y)->∀x y c,(x,c)∈cellsFrom n l acc->(y,c)∈cellsFrom n l acc->x=y
 | [],_,_,_,h=>h
 | (m,k)::r,n,acc,hn,h=>by
  unfold cellsFrom;split
  .refine zp (λq hq=>?_) λx y c hx hy=>?_
   .rcases au.mp hq with e | e
    .subst e;exact cr _
    .exact bU (hn q e)
   .rcases au.mp hx with e | e<;>rcases au.mp hy with e' | e'
    .cases e;cases e';rfl
    .cases e;exact absurd (hn _ e') (bA _)
    .cases e';exact absurd (hn _ e) (bA _)
    .exact h x y c e e'
  .exact zp hn h
theorem zq
  (hQ:(pushCells (s.heap.push { cls:=.type "dict",data:=.dict #[] }) scope.names).Ns s.heap.objs.size (λ_=>none) ->
   Q (newEnv scope s.heap.objs.size globals (cellsFrom (s.heap.objs.size+1) scope.names closure) fb none .none (some env) 0) { s with heap:=pushCells (s.heap.push { cls:=.type "dict",data:=.dict #[] }) scope.names }) :
  aE M A (newFunctionEnv scope globals closure [] fb none .none (some env)) Q E s:=by
 simp only[newFunctionEnv,cP,if_true];refine ae (wpAny_alloc ?_);refine ae (wpAny_layCells _ (λname kind cells=>by cases U0:kind == aO.cell<;>simp[U0]) _ _ _ _ ?_);rw[show ({ s with heap:=s.heap.push { cls:=.type "dict",data:=.dict #[] } }:aw).heap.objs.size=s.heap.objs.size+1 from bB ..];rw[List.forIn_nil];exact ae (aj (aj (hQ ((Heap.Ns.new s.heap (.type "dict")).keeps (pushCells_keeps _ _)))))
structure Oj (X:Cx) (sc:Scope) (C:Addr) (h:Heap) (cl:List (Str × Addr)):Prop where
 has:∀x,(x,aO.cell)∈sc.names\/(x,aO.free)∈sc.names->∃c,cl.lookup x=some c
 sub:∀x c,cl.lookup x=some c->(X.env.cells.lookup x=some c/\(x,aO.free)∈sc.names)\/(C<c/\(x,aO.cell)∈sc.names/\h.IsCell c none)
 inj:∀x y c,cl.lookup x=some c->cl.lookup y=some c->x=y
section
variable {X:Cx}{sc:Scope}{N:List Str}{mp:List (Option Nat)}{pins:List (Addr × Obj)}{σ:St}{H:Hp}{s:aw}{fp:List Addr}{C:Addr}{h₁:Heap}{cl:List (Str × Addr)}
theorem w6 (O:qX X.N X.env.scope sc N mp)(ok:X.Ok):∀x∈sc.names,x.2=aO.free->∃c,X.env.cells.lookup x.1=some c:=λx hx e=>ok.has x.1 (O.free x hx e)
theorem G1 (O:qX X.N X.env.scope sc N mp)(I:Inv X pins σ H s){hp:Heap}(hs:s.heap.objs.size<=hp.objs.size)(e:hp.objs.size=C+1):Oj X sc C (pushCells hp sc.names) (cellsFrom (C+1) sc.names (mW X.env.cells sc.names [])):=by
 have ok:=I.ok
 have old:∀q∈mW X.env.cells sc.names [],X.env.cells.lookup q.1=some q.2/\(q.1,aO.free)∈sc.names:=λq hq=>by
  rcases w4 (x:=q.1) (c:=q.2) hq with h | ⟨h1,h2⟩
  .cases h
  .obtain⟨c',hc⟩:=w6 O ok _ h1 rfl
   have wL:X.env.cells.lookup q.1=some c':=hc;rw[wL] at h2;rw[wL,h2];exact⟨rfl,h1⟩
 have lt:∀q∈mW X.env.cells sc.names [],q.2<C+1:=λq hq=>by
  obtain⟨v,o,ho,_⟩:=I.cell _ _ (old q hq).1;exact e ▸ aL (aF ho) hs
 refine⟨λx hx=>?_,λx c h=>?_,λx y c h1 h2=>zp lt (λx y c h1 h2=>ok.inj x y c (old _ h1).1 (old _ h2).1) x y c (PySem.mem_of_lookup h1) (PySem.mem_of_lookup h2)⟩
 .rcases hx with h | h
  .obtain⟨c,hc⟩:=DP (n:=C+1) (acc:=mW X.env.cells sc.names []) h
   exact nu hc
  .exact nu (vA (AU h))
 .rcases zo (h:=hp) e (PySem.mem_of_lookup h) with h | ⟨h1,h2,h3⟩
  .exact .inl (old _ h)
  .exact .inr ⟨h1,h2,h3⟩
theorem DQ (hc:X.calm=true)(O:qX X.N X.env.scope sc N mp)(hk:sc.kind=.function)(I:Inv X pins σ H s)(hC:s.heap.objs.size<=C)(kp:∀b o,s.heap.get? b=some o->h₁.get? b=some o){m:Str->Option ag}
  (hn:h₁.Ns C m) (Jj:∀b∈fp,pW X pins H b) (Lw:∀b∈fp,b<s.heap.objs.size) {t':Nat} (L:Oj X sc C h₁ cl) :
  Inv (gj X sc N cl C s H fp) [] (lJ mp σ) H { s with heap:=h₁,toks:=t' }:=by
 have ok:=I.ok
 have Rh:∀b∈fp,b ∉ za X.stack:=λb hb z=>by
  rcases au.mp (I.qN b z) with e | e
  .exact (Jj b hb).2.1 e
  .exact (Jj b hb).2.2.1 e
 refine⟨⟨ok.mod,hk,ok.glob,ok.blt,hC,?_,?_,?_,λ_=>ok.hd hc,ok.frames,.inl rfl,?_,I.bs,bj ok.Kk I.sz,?_,Rh,I.stack,I.AH⟩,rfl,I.bare,Un.kept kp,?_,?_,I.hok.fresh hC,?_,?_,I.hok.kept kp,?_⟩
 .exact L.inj
 .intro x hx
  have M3:(relabel sc X.env).names.lookup x=some .cell\/(relabel sc X.env).names.lookup x=some .free:=hx;refine L.has x ?_;rcases M3 with h | h
  .obtain⟨k',hm,e⟩:=lK h
   rcases e with e | ⟨e,_⟩
   .subst e
    exact .inl hm
   .subst e
    exact .inr hm
  .obtain⟨k',hm,e⟩:=lK h
   rcases e with e | ⟨_,e⟩
   .subst e
    exact .inr hm
   .cases e
 .intro x c hf hc
  have U1:sc.names.lookup x=some aO.cell:=by simpa [gj] using hf
  rcases L.sub x c hc with h | h
  .have:=O.fr _ h.2 rfl
   rw[U1] at this;cases this
  .exact bj hC (c5 h.1)
 .intro b hb
  refine⟨aT (aL (Lw b hb) hC),λx c h=>?_⟩;rcases L.sub x c h with h | h
  .exact (Jj b hb).2.2.2.2.1 x c h.1
  .exact λz=>bA _ (c7 (aL (Lw b hb) hC) (z ▸ h.1))
 .intro b o e hb
  rcases (Jj b hb).2.2.2.1 with z | z
  .exact ok.Dk b o e z
  .exact absurd (aL (aF (ok.bs b o e).1) z) (bA _)
 .refine⟨m,hn,λj x v e1 e2 e3=>?_⟩
  have Tt:N[j]? = some x:=e1
  have hj:j<mp.length:=by
   rw[O.len];exact (aD.mp Tt).1
  obtain⟨i,hi,hv⟩:∃i,mp[j]? = some (some i)/\σ[i]? = some (some v):=by
   unfold lJ at e2;rw[aB] at e2
   cases e:mp[j]? with
   | none=>rw[e] at e2;cases e2
   | some o =>
    rw[e] at e2
    cases o with
    | none=>cases e2
    | some i =>
     refine⟨i,rfl,?_⟩;have Qf:(σ[i]?).join=some v:=Option.some.inj e2
     cases q:σ[i]? with
     | none=>rw[q] at Qf;cases Qf
     | some z =>
      rw[q] at Qf;have:z=some v:=Qf;rw[this]
  obtain⟨hx,hf⟩:=O.map j x i Tt hi;have Ri:=PySem.mem_of_lookup hf;obtain⟨mX,Xt,hl⟩:=I.loc
  have U2:tf X.env.scope x:=by
   rcases O.free _ Ri rfl with z | z
   .exact .inr (.inl z)
   .exact .inr (.inr z)
  obtain⟨u,r,q⟩:=hl i x v hx hv U2;refine⟨u,r,?_⟩;rcases q with⟨z,_⟩ | ⟨_,c,ec,Ol⟩
  .exfalso
   have z':X.env.scope.names.lookup x=some .local:=z;rcases O.free _ Ri rfl with y | y
   .rw[show X.env.scope.names.lookup x=some .cell from y] at z';cases z'
   .rw[show X.env.scope.names.lookup x=some .free from y] at z';cases z'
  .obtain⟨c',wL⟩:=L.has x (.inr Ri)
   have Np:X.env.cells.lookup x=some c':=by
    rcases L.sub x c' wL with h | h
    .exact h.1
    .have:=O.cell _ h.2.1 rfl
     rw[hf] at this;cases this
   rw[ec] at Np;cases Np;refine .inr ⟨vz hf,c,wL,?_⟩;obtain⟨o,ho,hd⟩:=Ol;exact⟨o,kp _ _ ho,hd⟩
 .intro x c h
  rcases L.sub x c h with h | h
  .obtain⟨v,o,ho,hd⟩:=I.cell x c h.1
   exact⟨v,o,kp _ _ ho,hd⟩
  .exact⟨none,h.2.2⟩
 .intro x c h
  rcases L.sub x c h with h | h
  .exact I.freeC x c h.1
  .exact I.hok.fresh (bj hC (c5 h.1))
 .intro p hp
  cases hp
 .show (lJ mp σ).length=N.length
  unfold lJ;rw[ar,O.len]
theorem Inv.DR {a:Addr}{o:HO}{ob:Obj}(I:Inv X pins σ H s)(ho:s.heap.get? a=some ob)(hn:H a=none)(hL:a≠X.env.locals)(h1:a∈X.ex\/X.s₀.heap.objs.size<=a)(h2:∀x c,X.env.cells.lookup x=some c->c≠a)
  (h3:∀p∈X.pn++pins,p.1≠a) (new:eX X.prog X.w (d3 H a o) s.heap a o):Inv X pins σ (d3 H a o) s:=by
 have IV:∀b u,H b=some u->b≠a:=λb u e z=>by rw[z,hn] at e;cases e
 have:=I.step (g':=s.gens) (d':=s.drawn) (t':=s.toks) (h':=s.heap) (H':=d3 H a o) (ch:=[a]) (λb hb=>?_) (λb o _ _ _ e _=>e) (λb o _ _ _ e _=>⟨o.slots,e⟩) (λb o hc _ n=>?_)
  (λb o _ e=>⟨o,e⟩) (λb xs e=>?_) (λb u xs e=>?_) (λb ps e=>⟨#[],?_⟩) (λm hm=>hm) (λb u e=>?_) I.bare
 .exact this
 .have e:b=a:=by simpa using hb
  subst e;exact⟨h1,hL,h2,h3⟩
 .rw[dC (λz=>hc (by simp[z]))];exact n
 .rw[dC (IV _ _ e)];exact e
 .rw[dC (IV _ _ e)];exact e
 .rw[dC (IV _ _ e),e];simp
 .by_cases hb:b=a
  .subst hb;rw[dq] at e;cases e;exact new
  .rw[dC hb] at e
   exact (I.hok b u e).y' (λc v _ q=>q) (λc q=>by rw[dC (IV _ _ q)];exact q) λc xs q=>by rw[dC (IV _ _ q)];exact q
end
theorem vB (I:Nat->aw->Prop)
  (turn:∀n s,I n s->aE (model prog w) A (pyNext it) (λr s₁=>match r with
   | none=>R (.ok .next) s₁
   | some v=>aE (model prog w) A (letOwnedTupleGo target it v) (λ_ s'=>aE (model prog w) A (assign target env v) (λ_ s₂ =>
     aE (model prog w) A (forIn vC true λc r=>if r=true then do let ok <- isTrue c env (eval c env);pure (ForInStep.yield ok) else pure (ForInStep.yield r)) (λok s₃ =>
      if ok=true then aE (model prog w) A (eval wD env) (λx s₄ =>
       aE (model prog w) A (call (.builtin "list.append") [acc,x]) (λ_ s₅=>∃m,m<n/\I m s₅) (λ_ _=>False) s₄) (λ_ _=>False) s₃
      else ∃m,m<n/\I m s₃) (λ_ _=>False) s₂) (λ_ _=>False) s') (λ_ _=>False) s₁) (λ_ _=>False) s)
  (n:Nat) (h:I n s) :
  codeAny (model prog w) A (.compLoop (.ListComp wD [⟨target,iter,vC,0⟩] scope pos) 0 it acc env) R s:=by
 refine codeAny_loop rfl I (λn s hI=>?_) n h;show aE _ A ((compTurn (.ListComp wD [⟨target,iter,vC,0⟩] scope pos) 0 it acc env).onRaise (λx=>do noteFrame x env;theTreesLotGoes x)) _ _ s;refine wpAny_noted ?_;rw[compTurn_list];refine ae (wpAny_standAt (ae (bS (turn n s hI) (λr s₁ h₁=>?_) λ_ _ h'=>h'.elim)))
 cases r with
 | none=>exact aj h₁
 | some v =>
  refine ae (bS h₁ (λ_ s' h'=>ae (bS h' (λ_ s₂ h₂=>ae (bS h₂ (λok s₃ h₃=>?_) λ_ _ h'=>h'.elim)) λ_ _ h'=>h'.elim)) λ_ _ h'=>h'.elim)
  cases ok with
  | false=>exact aj ⟨rfl,h₃⟩
  | true =>
   exact ae (ae (bS h₃ (λx s₄ h₄=>ae (bS h₄ (λ_ s₅ h₅=>aj (aj ⟨rfl,h₅⟩)) λ_ _ h'=>h'.elim)) λ_ _ h'=>h'.elim))
noncomputable def Om (X:Cx)(vC:List Expr)(t:TT):Prop :=
 ∀(pins:List (Addr × Obj)) (s:aw) (σ:St) (H:Hp) (Q:Bool->Hp->Prop),Inv X pins σ H s->t σ H Q ->
  aE (model X.prog X.w) X.A (forIn vC true λc r=>if r=true then do let ok <- isTrue c X.env (eval c X.env);pure (ForInStep.yield ok) else pure (ForInStep.yield r)) (TP X pins σ Q) X.xe s
noncomputable def Jk:TT:=λ_ H Q=>Q true H
theorem G2:Om X [] Jk:=λ_ _ _ H _ I h=>wpAny_tests_nil ⟨H,I,h⟩
theorem G3 (h:PT X c t):Om X [c] t:=λpins s σ H Q I hw=>wpAny_tests_one (h pins s σ H Q I hw)
noncomputable abbrev TC:=St->Hp->(List V->Hp->Prop)->Prop
noncomputable def AV (wi:TI)(mp:List (Option Nat))(g:TG)(tc:TT)(te:TE):TC:=λσ H R=>wi σ H λJ H1=>∃W:Nat->Nat->List V->St->Hp->Prop,(∃m,W 0 m [] (lJ mp σ) H1)/\∀i m ys σ' H',W i m ys σ' H' ->
 (J.stop i H'/\ys.length<=aA/\R ys H') \/
 (J.go i H'/\ys.length<aA/\∀x M4,J.FY i H' x M4->g x σ' M4 λσ2 H2=>tc σ2 H2 λb H3 =>
  if b=true then te σ2 H3 λy H4=>∃m',m' < m/\W (i+1) m' (ys++[y]) σ2 H4 else ∃m',m' < m/\W (i+1) m' ys σ2 H3)
section
theorem Ca {use:Option (ag->Sem Unit)}{Q:ag->aw->Prop}(hc:X.calm=true)(hi:PI X tg iter wi)(hk:sc.kind=.function)(O:qX X.N X.env.scope sc N mp)
  (hb:∀(cl:List (Str × Addr)) (C:Addr) (s₂:aw) (H₂:Hp) (fp:List Addr),PG (gj X sc N cl C s₂ H₂ fp) tg g/\Om (gj X sc N cl C s₂ H₂ fp) vC tc/\PE (gj X sc N cl C s₂ H₂ fp) wD te)
  {pins:List (Addr × Obj)} {s:aw} {σ:St} {H:Hp} {R:List V->Hp->Prop} (I:Inv X pins σ H s) (h:AV wi mp g tc te σ H R)
  (hs:∀x,foldedSetIterable iter X.env x=pure x)
  (G4:∀(D C:Addr) (ys:List V) (H':Hp) (s':aw) (m:Str->Option ag),Inv X pins σ (d3 H' D (.lst ys)) s'->s'.heap.Ns C m->pW X pins (d3 H' D (.lst ys)) C->H' D=none->R ys H' ->
   compPost (model X.prog X.w) X.A X.xe use Q (.ref D) C (.ok .next) s') :
  aE (model X.prog X.w) X.A (comprehension (.ListComp wD [⟨tg,iter,vC,0⟩] sc pos) sc X.env fZ (newList []) false (eval iter X.env) use) Q X.xe s:=by
 have ok:=I.ok;refine wpAny_comprehension_free (g:=⟨tg,iter,vC,0⟩) (gs:=[]) rfl hs (tu (w6 O ok)) hk O.loc (fc (hi pins s σ H _ I h) λv s1 h1=>fc h1 λQP s2 h2=>?_);obtain⟨it,fp,tn,J,H2,e,I2,T,NG,f2,W,⟨m0,w0⟩,turn⟩:=h2;subst e;refine aW (zq λvD=>?_);dsimp only at vD ⊢;generalize hP:s2.heap.push { cls:=.type "list",dict:=none,data:=.seq ([]:List ag).toArray }=P2 at vD ⊢;have Tu:P2.objs.size=s2.heap.objs.size+1:=by rw[<- hP,bB]
 have Rj:s2.heap.objs.size≠P2.objs.size:=by rw[Tu];exact aT (cr _)
 have DS:s2.heap.objs.size<=P2.objs.size:=by rw[Tu];exact cH _
 have L:=G1 (C:=P2.objs.size) O I2 (hp:=P2.push { cls:=.type "dict",data:=.dict #[] }) (by rw[bB];omega) (bB ..);generalize Jl:pushCells (P2.push { cls:=.type "dict",data:=.dict #[] }) sc.names=h₁ at vD L ⊢;generalize cellsFrom (P2.objs.size+1) sc.names (mW X.env.cells sc.names [])=cl at L ⊢
 have old:∀b o,s2.heap.get? b=some o->h₁.get? b=some o:=λb o e =>
  Jl ▸ pushCells_keeps _ _ b o (ah _ (hP ▸ ah _ e))
 have G5:h₁.get? s2.heap.objs.size=some { cls:=.type "list",dict:=none,data:=.seq ([]:List ag).toArray } :=
  Jl ▸ pushCells_keeps _ _ _ _ (ah _ (hP ▸ ax _ rfl))
 have Lw:∀b∈fp,b<s2.heap.objs.size:=λb hb=>by
  obtain⟨o,e,_⟩:=T.obj _ _ NG b hb;exact aF e
 have Tv:s2.heap.objs.size ∉ fp:=λz=>bA _ (Lw _ z)
 have I3:Inv (gj X sc N cl P2.objs.size s2 H2 fp) [] (lJ mp σ) H2 { s2 with heap:=h₁ } :=
  DQ hc O hk I2 DS old vD f2 Lw L
 obtain⟨hg,ht,he⟩:=hb cl P2.objs.size s2 H2 fp;generalize hX:gj X sc N cl P2.objs.size s2 H2 fp=Y at I3 hg ht he;have yP:Y.prog=X.prog:=by rw[<- hX];rfl
 have yw:Y.w=X.w:=by rw[<- hX];rfl
 have yK:Y.K=X.K:=by rw[<- hX];rfl
 have yA:Y.A=X.A:=by rw[<- hX];rfl
 have yc:Y.calm=true:=by rw[<- hX];rfl
 have yx:Y.xe=λ_ _=>False:=by rw[<- hX];rfl
 have yl:Y.env.locals=P2.objs.size:=by rw[<- hX];rfl
 have Tw:Y.ex=fp:=by rw[<- hX];rfl
 have Rk:Y.s₀=s2:=by rw[<- hX];rfl
 have U3:Y.H₀=H2:=by rw[<- hX];rfl
 have Tx:Y.pn=[]:=by rw[<- hX];rfl
 have Rl:Y.fs=za X.stack:=by rw[<- hX];rfl
 have Oo:Y.env=compEnvC sc cl P2.objs.size X.env:=by rw[<- hX];rfl
 have Tz:∀x c,Y.env.cells.lookup x=some c->X.env.cells.lookup x=some c\/P2.objs.size<c:=λx c e=>by
  rw[Oo] at e;rcases L.sub x c e with h | h
  .exact .inl h.1
  .exact .inr h.1
 have U4:∀x c,Y.env.cells.lookup x=some c->c≠s2.heap.objs.size:=λx c e z=>by
  rcases Tz x c e with h | h
  .obtain⟨v,o,ho,_⟩:=I2.cell x c h
   exact absurd (aF ho) (by rw[z];exact bA _)
  .exact absurd (cz DS h) (by rw[z];exact bA _)
 have Rh:∀b∈fp,b ∉ za X.stack:=λb hb z=>by
  rcases au.mp (I2.qN b z) with e | e
  .exact (f2 b hb).2.1 e
  .exact (f2 b hb).2.2.1 e
 have U5:s2.heap.objs.size ∉ za X.stack:=λz=>by
  rcases au.mp (I2.qN _ z) with e | e
  .exact absurd I2.lt (by rw[<- e];exact bA _)
  .exact I2.Nk (ao _) e
 have Jj:∀{H':Hp} {o:Obj},(∀b∈fp,H' b=none)->∀b∈fp,pW Y [(s2.heap.objs.size,o)] H' b:=λ{H' o} hn b hb=>by
  refine⟨hn b hb,?_,?_,?_,?_,?_⟩
  .rw[yl];exact aT (aL (Lw b hb) DS)
  .rw[Rl];exact Rh b hb
  .rw[Tw];exact .inl hb
  .intro x c e
   rcases Tz x c e with h | h
   .exact (f2 b hb).2.2.2.2.1 x c h
   .exact λz=>bA _ (c7 (aL (Lw b hb) DS) (z ▸ h))
  .intro p hp
   rw[Tx] at hp;have:p=(s2.heap.objs.size,o):=by simpa using hp
   subst this;exact λz=>Tv (by have z':s2.heap.objs.size=b:=z;rw[z'];exact hb)
 have Oq:∀{σ':St} {H':Hp} {s':aw} {o:Obj},Inv Y [] σ' H' s'->s'.heap.get? s2.heap.objs.size=some o->(∀v,o.data≠.cell v)->H' s2.heap.objs.size=none->Inv Y [(s2.heap.objs.size,o)] σ' H' s' :=
  λ{σ' H' s' o} J e d hn=>J.qp λp hp=>by
   have:p=(s2.heap.objs.size,o):=by simpa using hp
   subst this;exact⟨e,hn,by rw[yl];exact Rj,by rw[Rl];exact U5,d⟩
 have loop:∀s₃:aw,s₃={ s2 with heap:=h₁ } ->
   codeAny (model X.prog X.w) X.A (.compLoop (.ListComp wD [⟨tg,iter,vC,0⟩] sc pos) 0 (.ref it) (.ref s2.heap.objs.size) Y.env)
    (compPost (model X.prog X.w) X.A X.xe use Q (.ref s2.heap.objs.size) P2.objs.size) s₃:=by
  rintro s₃ rfl
  refine vB (λn s'=>∃i ys its c σ' H',Inv Y [(s2.heap.objs.size,({ cls:=.type "list",data:=.seq its.toArray c }:Obj))] σ' H' s'/\dQ ys its/\tn i s'.heap/\(∀b∈fp,H' b=none)/\ys.length<=aA/\W i n ys σ' H') ?_ m0
   ⟨0,[],[],0,lJ mp σ,H2,Oq I3 G5 (λv z=>by cases z) (I2.hok.fresh (ao _)),.nil,T.keep _ _ _ NG (λb _ o e=>old b o e),λb hb=>(f2 b hb).1,bL _,w0⟩
  rintro n s3 ⟨i,ys,its,c,σ3,H3,J3,rv,Dy,NH,hz,w3⟩;have U6:=J3.pin _ (bf _ (am.mpr rfl));rcases turn i n ys σ3 H3 w3 with⟨stop,hl,qn⟩ | ⟨go,hl,step⟩
  .have:=T.done Y yP yw yK yc i _ s3 σ3 H3 (λ_ _=>False) J3 (Jj NH) Dy stop
   rw[yA] at this;refine fc this λr s4 ⟨hr,J4⟩=>?_;subst hr;obtain⟨pe,pn,_,_,_⟩:=J4.pin _ (bf _ (am.mpr rfl));dsimp only at pe pn;have un:=J4.base;rw[Rl,Tw,Rk,U3] at un;have U7:s4.os=s2.os:=by have:=J4.os;rw[Rk] at this;exact this
   have Ot:=J4.hok;rw[yP,yw] at Ot;have IX:Inv X pins σ H3 s4:=I2.Nq U7 un Ot J4.bare λb hb=>⟨(f2 b hb).2.2.2.1,(f2 b hb).2.1,(f2 b hb).2.2.2.2.1,(f2 b hb).2.2.2.2.2⟩;obtain⟨mC,TB,_⟩:=J4.loc;rw[yl] at TB;have dX:pW X pins H3 s2.heap.objs.size:=I2.pX (ao _) pn;have IT:Inv X pins σ (d3 H3 s2.heap.objs.size (.lst ys)) s4:=IX.DR (o:=.lst ys) pe pn dX.2.1 dX.2.2.2.1 dX.2.2.2.2.1 dX.2.2.2.2.2 ⟨hl,its,c,rv,pe⟩;have cn:H3 P2.objs.size=none:=by have:=J4.free;rw[yl] at this;exact this
   have cX:pW X pins (d3 H3 s2.heap.objs.size (.lst ys)) P2.objs.size:=I2.pX DS (by rw[dC Rj.symm];exact cn);exact G4 _ _ ys H3 s4 mC IT TB cX pn qn
  .have:=T.item Y yP yw yK yc i _ s3 σ3 H3 (λ_ _=>False) J3 (Jj NH) Dy go
   rw[yA] at this;refine fc this λr s4 ⟨u,hr,h4⟩=>?_;subst hr;refine fc h4 λ_ s5 ⟨x,H5,J5,r5,y5,KR,QQ⟩=>?_;have U8:=J5.pinned (Jj QQ) (T.obj _ _ KR);have ga:=hg _ s5 σ3 H5 x u _ U8 r5 (step x H5 y5);rw[yP,yw,yA,yx] at ga;refine fc ga λ_ s6 ⟨σ6,H6,J6,q6⟩=>?_;have gt:=ht _ s6 σ6 H6 _ J6 q6;rw[yP,yw,yA,yx] at gt;refine fc gt λb s7 ⟨H7,J7,q7⟩=>?_
   have Jm:∀{σ':St} {H':Hp} {s':aw},Inv Y ([(s2.heap.objs.size,({ cls:=.type "list",data:=.seq its.toArray c }:Obj))]++qP fp s5.heap) σ' H' s'->tn (i+1) s'.heap/\(∀b∈fp,H' b=none):=λ{σ' H' s'} J=>by
    refine⟨T.keep _ _ _ KR λb hb o e=>(J.pin (b,o) (bf _ (bf _ (kD hb e)))).1,λb hb=>?_⟩;obtain⟨o,e,d⟩:=T.obj _ _ KR b hb;exact (J.pin (b,o) (bf _ (bf _ (kD hb e)))).2.1
   cases b with
   | false =>
    have Rm:∃m',m' < n/\W (i+1) m' ys σ6 H7:=by simpa using q7
    obtain⟨m',hm,w7⟩:=Rm;obtain⟨t7,f7⟩:=Jm J7;rw[if_neg bc];exact⟨m',hm,i+1,ys,its,c,σ6,H7,J7.lE,rv,t7,f7,hz,w7⟩
   | true =>
    rw[if_pos rfl];have Rm:te σ6 H7 λy H4=>∃m',m' < n/\W (i+1) m' (ys++[y]) σ6 H4:=by simpa using q7
    have ge:=he _ s7 σ6 H7 _ J7 Rm;rw[yP,yw,yA,yx] at ge;refine fc ge λu8 s8 ⟨y,H8,J8,r8,m',hm,w8⟩=>?_;obtain⟨t8,f8⟩:=Jm J8;have TF:=J8.lE;obtain⟨pe,pn,_,_,_⟩:=TF.pin _ (bf _ (am.mpr rfl));dsimp only at pe pn;have hlen:=rv.length;refine call_meets F.slot_list_append ⟨_,pe,rfl⟩ F.entry_list_append (F.args_list_append_2 _ _) (PySem.list_append s2.heap.objs.size its.toArray c u8 (by rw[aC];omega)) ⟨pe,?_⟩;have qe:=PySem.IsL.update pe (λa=>a.push u8)
    have U9:(s8.heap.update s2.heap.objs.size (Obj.mapSeq λa=>a.push u8)).get? s2.heap.objs.size=some { cls:=.type "list",data:=.seq (its++[u8]).toArray (c+1) }:=by
     simpa using qe
    have J9:Inv Y [] σ6 H8 { s8 with heap:=s8.heap.update s2.heap.objs.size (Obj.mapSeq λa=>a.push u8),toks:=s8.toks }:=by
     have J0:Inv Y [] σ6 H8 s8:=TF.qp λp hp=>by cases hp
     refine J0.turned (it:=s2.heap.objs.size) (λb o hb e=>(aH s8.heap _ (Ne.symm hb)).trans e) pn (by rw[yl];exact Rj) (.inr (by rw[Rk];exact ao _)) U4 (λp hp=>?_);rw[Tx] at hp;cases hp
    refine⟨m',hm,i+1,ys++[y],its++[u8],c+1,σ6,H8,Oq J9 U9 (λv z=>by cases z) pn,rv.append (.cons r8 .nil),?_,f8,by rw[aK,bq];omega,w8⟩;exact T.keep _ _ _ t8 λb hb o e=>(aH s8.heap _ (λ(z:s2.heap.objs.size=b)=>Tv (by rw[z];exact hb))).trans e
 have Ou:compEnvC sc cl P2.objs.size X.env=Y.env:=Oo.symm;show codeAny _ _ (.compStart _ 0 (.ref it) (.ref s2.heap.objs.size) (compEnvC sc cl P2.objs.size X.env)) _ _;rw[Ou];exact codeAny_compStart_list (loop _ rfl) (T.self _ 0 _ _ _ (T.keep _ _ _ NG λb _ o e=>old b o e) (loop _ rfl))
noncomputable def DT (t:TC):TE:=λσ H Q=>t σ H λys H'=>∀D,H' D=none->Q (.ref D) (d3 H' D (.lst ys))
theorem G6 (hc:X.calm=true)(hi:PI X tg iter wi)(hk:sc.kind=.function)(hm:kH X.N X.env.scope sc N mp=true)
  (hb:∀(cl:List (Str × Addr)) (C:Addr) (s₂:aw) (H₂:Hp) (fp:List Addr),PG (gj X sc N cl C s₂ H₂ fp) tg g/\Om (gj X sc N cl C s₂ H₂ fp) vC tc/\PE (gj X sc N cl C s₂ H₂ fp) wD te)
  (hs:∀x,foldedSetIterable iter X.env x=pure x:=by rw[3]):PE X (.ListComp wD [⟨tg,iter,vC,0⟩] sc pos) (DT (AV wi mp g tc te)):=by
 intro pins s σ H Q I h;rw[eval_ListComp];refine Ca (use:=none) hc hi hk (B9 hm) hb I h hs λD C ys H' s' m I' hn f hD q=>?_;refine⟨m,hn,λh' mG=>?_⟩;obtain⟨f0,f1,_,f3,f4,f5⟩:=f;exact⟨.ref D,_,I'.turned (t':=s'.toks) (it:=C) (λb o hb e=>(mG.2 b hb).trans e) f0 f1 f3 f4 f5,rfl,q D hD⟩
end
noncomputable def F3:List (List Int × af)->List V->List (Key × V)
 | p::kvs,x::xs=>(.inl (p.1.headD 0),x)::F3 kvs xs
 | _,_=>[]
noncomputable def sY:List (List Int × af)->List V->List (List Key × V)
 | p::kvs,x::xs=>(p.1.map .inl,x)::sY kvs xs
 | _,_=>[]
noncomputable def mY (t:Bool)(kvs:List (List Int × af))(xs:List V):HO:=match t with | true=>.dT (sY kvs xs) | false=>.dK (F3 kvs xs)
theorem mH (h:some (HO.lst ys)=some (mY t kvs xs)):False:=by cases t<;>cases h
theorem AW (h:some (HO.tup ys)=some (mY t kvs xs)):False:=by cases t<;>cases h
noncomputable def m8 (t:Bool)(kvs:List (List Int × af)):List (af × af):=(.bool t,.none)::kvs.map λp=>(.tuple (p.1.map .int),p.2)
noncomputable def eC (t:Bool)(kvs:List (List Int × af)):af:=.dict (m8 t kvs)
mutual
def dR (S:List Addr)(H:Hp):af->V->Prop
 | .none,v=>v=.gJ
 | .bool b,v=>v=.bl b
 | .int i,v=>v=.int i
 | .str x,v=>v=.str x
 | .tuple ds,v=>∃a xs,v=.ref a/\H a=some (.tup xs)/\dm S H ds xs
 | .list ds,v=>∃a xs,v=.ref a/\H a=some (.lst xs)/\a ∉ S/\dm S H ds xs
 | .dict l,v=>∃a t kvs xs,v=.ref a/\l=m8 t kvs/\H a=some (mY t kvs xs)/\a ∉ S/\(t=false->∀p∈kvs,p.1.length=1)/\fO S H l (.gJ::xs)
def dm (S:List Addr)(H:Hp):List af->List V->Prop
 | [],xs=>xs=[]
 | d::ds,xs=>∃x r,xs=x::r/\dR S H d x/\dm S H ds r
def fO (S:List Addr)(H:Hp):List (af × af)->List V->Prop
 | [],xs=>xs=[]
 | p::l,xs=>∃x r,xs=x::r/\zt S H p x/\fO S H l r
def zt (S:List Addr)(H:Hp):af × af->V->Prop
 | (_,d),x=>dR S H d x
end
structure Ext (S:List Addr) (H H':Hp):Prop where
 keep:∀b o,b ∉ S->H b=some o->H' b=some o
 tup:∀b xs,H b=some (.tup xs)->H' b=some (.tup xs)
theorem Ext.refl (S:List Addr)(H:Hp):Ext S H H:=⟨λ_ _ _ e=>e,λ_ _ e=>e⟩
theorem Ext.trans (a:Ext S H H1)(b:Ext S H1 H2):Ext S H H2:=⟨λc o hc e=>b.keep c o hc (a.keep c o hc e),λc xs e=>b.tup c xs (a.tup c xs e)⟩
theorem Ext.mono (a:Ext S H H')(h:∀b∈S,b∈S'):Ext S' H H':=⟨λb o hb e=>a.keep b o (λz=>hb (h b z)) e,a.tup⟩
theorem Ext.new (h:H p=none):Ext S H (d3 H p o):=⟨λb u _ e=>by rw[dC (eW e h)];exact e,λb xs e=>by rw[dC (eW e h)];exact e⟩
theorem Ext.set (hp:p∈S)(h:H p=some (.lst xs)):Ext S H (d3 H p o) :=
 ⟨λb u hb e=>by rw[dC (λ(z:b=p)=>hb (by rw[z];exact hp))];exact e,λb ys e=>by rw[dC (λz=>by rw[z,h] at e;cases e)];exact e⟩
theorem Ext.Rn {S:List Addr}{H0 H:Hp}{p:Addr}{o:HO}{xs:List V}(a:Ext S H0 H)(h0:H0 p=none)(h:H p=some (.lst xs)):Ext S H0 (d3 H p o) :=
 ⟨λb u hb e=>by rw[dC (λz=>by rw[z,h0] at e;cases e)];exact a.keep b u hb e,λb ys e=>by rw[dC (λz=>by rw[z,h0] at e;cases e)];exact a.tup b ys e⟩
theorem Ext.fresh (a:Ext S H0 H)(hp:p ∉ S)(h:H p=none):H0 p=none:=by
 cases e:H0 p with
 | none=>rfl
 | some o=>rw[a.keep p o hp e] at h;cases h
mutual
theorem dR.ext {S:List Addr}{H H':Hp}(x:Ext S H H'):∀{d:af} {v:V},dR S H d v->dR S H' d v
 | .none,_,h=>h
 | .bool _,_,h=>h
 | .int _,_,h=>h
 | .str _,_,h=>h
 | .tuple ds,_,h=>by
  unfold dR at h ⊢;obtain⟨a,xs,e,ha,hr⟩:=h;exact⟨a,xs,e,x.tup a xs ha,dm.ext x hr⟩
 | .list ds,_,h=>by
  unfold dR at h ⊢;obtain⟨a,xs,e,ha,hs,hr⟩:=h;exact⟨a,xs,e,x.keep a _ hs ha,hs,dm.ext x hr⟩
 | .dict l,_,h=>by
  unfold dR at h ⊢;obtain⟨a,t,kvs,xs,e,el,ha,hs,hk,hr⟩:=h;exact⟨a,t,kvs,xs,e,el,x.keep a _ hs ha,hs,hk,fO.ext x hr⟩
theorem dm.ext {S:List Addr}{H H':Hp}(x:Ext S H H'):∀{ds:List af} {vs:List V},dm S H ds vs->dm S H' ds vs
 | [],_,h=>h
 | d::ds,_,h=>by
  unfold dm at h ⊢;obtain⟨y,r,e,h1,h2⟩:=h;exact⟨y,r,e,dR.ext x h1,dm.ext x h2⟩
theorem fO.ext {S:List Addr}{H H':Hp}(x:Ext S H H'):∀{l:List (af × af)} {vs:List V},fO S H l vs->fO S H' l vs
 | [],_,h=>h
 | (_,d)::l,_,h=>by
  unfold fO zt at h ⊢;obtain⟨y,r,e,h1,h2⟩:=h;exact⟨y,r,e,dR.ext x h1,fO.ext x h2⟩
end
mutual
theorem dR.less {S S':List Addr}{H:Hp}(x:∀b∈S',b∈S):∀{d:af} {v:V},dR S H d v->dR S' H d v
 | .none,_,h=>h
 | .bool _,_,h=>h
 | .int _,_,h=>h
 | .str _,_,h=>h
 | .tuple ds,_,h=>by
  unfold dR at h ⊢;obtain⟨a,xs,e,ha,hr⟩:=h;exact⟨a,xs,e,ha,dm.less x hr⟩
 | .list ds,_,h=>by
  unfold dR at h ⊢;obtain⟨a,xs,e,ha,hs,hr⟩:=h;exact⟨a,xs,e,ha,λz=>hs (x a z),dm.less x hr⟩
 | .dict l,_,h=>by
  unfold dR at h ⊢;obtain⟨a,t,kvs,xs,e,el,ha,hs,hk,hr⟩:=h;exact⟨a,t,kvs,xs,e,el,ha,λz=>hs (x a z),hk,fO.less x hr⟩
theorem dm.less {S S':List Addr}{H:Hp}(x:∀b∈S',b∈S):∀{ds:List af} {vs:List V},dm S H ds vs->dm S' H ds vs
 | [],_,h=>h
 | d::ds,_,h=>by
  unfold dm at h ⊢;obtain⟨y,r,e,h1,h2⟩:=h;exact⟨y,r,e,dR.less x h1,dm.less x h2⟩
theorem fO.less {S S':List Addr}{H:Hp}(x:∀b∈S',b∈S):∀{l:List (af × af)} {vs:List V},fO S H l vs->fO S' H l vs
 | [],_,h=>h
 | (_,d)::l,_,h=>by
  unfold fO zt at h ⊢;obtain⟨y,r,e,h1,h2⟩:=h;exact⟨y,r,e,dR.less x h1,fO.less x h2⟩
end
section
theorem dm.nil:dm S H [] []:=by unfold dm;rfl
theorem dm.cons (h:dR S H d x)(t:dm S H ds xs):dm S H (d::ds) (x::xs):=by unfold dm;exact⟨x,xs,rfl,h,t⟩
theorem dm.of_cons (h:dm S H (d::ds) xs):∃x r,xs=x::r/\dR S H d x/\dm S H ds r:=by unfold dm at h;exact h
theorem dm.eN (h:dm S H [] xs):xs=[]:=by unfold dm at h;exact h
theorem dm.length:∀{ds:List af} {xs:List V},dm S H ds xs->xs.length=ds.length
 | [],_,h=>by rw[h.eN];rfl
 | _::_,_,h=>by
  obtain⟨x,r,e,_,h2⟩:=h.of_cons;subst e;simp[h2.length]
theorem dm.get:∀{ds:List af} {xs:List V} {i:Nat} {x:V},dm S H ds xs->xs[i]? = some x->∃d,ds[i]? = some d/\dR S H d x
 | [],_,i,x,h,e=>by rw[h.eN] at e;cases e
 | d::ds,_,0,x,h,e=>by
  obtain⟨y,r,e1,h1,h2⟩:=h.of_cons;subst e1;cases e;exact⟨d,rfl,h1⟩
 | d::ds,_,i+1,x,h,e=>by
  obtain⟨y,r,e1,h1,h2⟩:=h.of_cons;subst e1;obtain⟨d',q,h3⟩:=dm.get (i:=i) h2 (by simpa using e);exact⟨d',by simpa using q,h3⟩
theorem dm.at:∀{ds:List af} {xs:List V} {i:Nat} {d:af},dm S H ds xs->ds[i]? = some d->∃x,xs[i]? = some x/\dR S H d x
 | [],_,i,d,h,e=>by cases e
 | d::ds,_,0,d',h,e=>by
  obtain⟨y,r,e1,h1,h2⟩:=h.of_cons;subst e1;cases e;exact⟨y,rfl,h1⟩
 | d::ds,_,i+1,d',h,e=>by
  obtain⟨y,r,e1,h1,h2⟩:=h.of_cons;subst e1;obtain⟨x,q,h3⟩:=dm.at (i:=i) h2 (by simpa using e);exact⟨x,by simpa using q,h3⟩
theorem dm.append:∀{ds es:List af} {xs ys:List V},dm S H ds xs->dm S H es ys->dm S H (ds++es) (xs++ys)
 | [],_,_,_,h,k=>by rw[h.eN];exact k
 | d::ds,_,_,_,h,k=>by
  obtain⟨y,r,e1,h1,h2⟩:=h.of_cons;subst e1;exact .cons h1 (dm.append h2 k)
theorem dm.take:∀{ds:List af} {xs:List V} (n:Nat),dm S H ds xs->dm S H (ds.take n) (xs.take n)
 | _,_,0,_=>.nil
 | [],_,n+1,h=>by rw[h.eN];exact .nil
 | d::ds,_,n+1,h=>by
  obtain⟨y,r,e1,h1,h2⟩:=h.of_cons;subst e1;exact .cons h1 (dm.take n h2)
theorem dm.drop:∀{ds:List af} {xs:List V} (n:Nat),dm S H ds xs->dm S H (ds.drop n) (xs.drop n)
 | _,_,0,h=>h
 | [],_,n+1,h=>by rw[h.eN];exact .nil
 | d::ds,_,n+1,h=>by
  obtain⟨y,r,e1,h1,h2⟩:=h.of_cons;subst e1;exact dm.drop n h2
theorem dm.ints:∀(ns:List Int),dm S H (ns.map af.int) (ns.map V.int)
 | []=>.nil
 | n::ns=>.cons (by unfold dR;rfl) (dm.ints ns)
theorem dR.tup (h:H a=some (.tup xs))(r:dm S H ds xs):dR S H (.tuple ds) (.ref a):=by unfold dR;exact⟨a,xs,rfl,h,r⟩
theorem dR.lst (h:H a=some (.lst xs))(hs:a ∉ S)(r:dm S H ds xs):dR S H (.list ds) (.ref a):=by unfold dR;exact⟨a,xs,rfl,h,hs,r⟩
theorem dR.int (i:Int):dR S H (.int i) (.int i):=by unfold dR;rfl
theorem dR.bl (b:Bool):dR S H (.bool b) (.bl b):=by unfold dR;rfl
theorem dR.gJ:dR S H .none .gJ:=by unfold dR;rfl
theorem dR.str (x:Str):dR S H (.str x) (.str x):=by unfold dR;rfl
theorem dR.eQ (h:dR S H (.tuple ds) v):∃a xs,v=.ref a/\H a=some (.tup xs)/\dm S H ds xs:=by unfold dR at h;exact h
theorem dR.eO (h:dR S H (.list ds) v):∃a xs,v=.ref a/\H a=some (.lst xs)/\a ∉ S/\dm S H ds xs:=by unfold dR at h;exact h
theorem fO.Cb:∀{l:List (af × af)} {xs:List V},fO S H l xs↔dm S H (l.map (·.2)) xs
 | [],xs=>by unfold fO;simp[dm]
 | (_,d)::l,xs=>by
  unfold fO zt;rw[ak,dm];exact⟨λ⟨x,r,e,h1,h2⟩=>⟨x,r,e,h1,fO.Cb.mp h2⟩,λ⟨x,r,e,h1,h2⟩=>⟨x,r,e,h1,fO.Cb.mpr h2⟩⟩
theorem h8 (t:Bool)(kvs:List (List Int × af)):(m8 t kvs).map (·.2)=.none::kvs.map (·.2):=by unfold m8;rw[ak,bx];rfl
theorem dR.M5 (h:H a=some (mY t kvs xs))(hs:a ∉ S)(hk:t=false->∀p∈kvs,p.1.length=1)(r:dm S H (kvs.map (·.2)) xs):dR S H (eC t kvs) (.ref a):=by
 unfold eC dR;exact⟨a,t,kvs,xs,rfl,rfl,h,hs,hk,fO.Cb.mpr (by rw[h8];exact .cons .gJ r)⟩
theorem dR.nv (h:dR S H (.dict l) v):∃a t kvs xs,v=.ref a/\l=m8 t kvs/\H a=some (mY t kvs xs)/\a ∉ S/\(t=false->∀p∈kvs,p.1.length=1)/\dm S H (kvs.map (·.2)) xs:=by
 unfold dR at h;obtain⟨a,t,kvs,xs,e,rfl,ha,hs,hk,hr⟩:=h;have:=fO.Cb.mp hr;rw[h8] at this;obtain⟨x,r,e2,_,h2⟩:=this.of_cons;injection e2 with _ e3;subst e3;exact⟨a,t,kvs,xs,e,rfl,ha,hs,hk,h2⟩
theorem dR.d4 (h:dR S H (.int i) v):v=.int i:=by unfold dR at h;exact h
theorem dR.kh (h:dR S H (.bool b) v):v=.bl b:=by unfold dR at h;exact h
theorem dR.jS (h:dR S H (.str x) v):v=.str x:=by unfold dR at h;exact h
theorem dR.kI (h:dR S H .none v):v=.gJ:=by unfold dR at h;exact h
end
mutual
theorem dR.reads {P:a5}{w:World}{S:List Addr}{H:Hp}{h:Heap}(ok:lC P w H h):∀{d:af} {v:V} {u:ag},d.canLay0=true->dR S H d v->RelV v u->∃as,Reads h u d as
 | .none,v,u,_,r,q=>by cases r.kI;cases (show u=ag.none from q);exact⟨_,.none⟩
 | .bool b,v,u,_,r,q=>by cases r.kh;cases (show u=ag.bool b from q);exact⟨_,.bool b⟩
 | .int i,v,u,_,r,q=>by cases r.d4;obtain⟨t,e⟩:=(show ∃t,u=ag.int i t from q);cases e;exact⟨_,.int i t⟩
 | .str x,v,u,_,r,q=>by cases r.jS;obtain⟨t,e⟩:=(show ∃t,u=ag.str x t from q);cases e;exact⟨_,.str x t⟩
 | .tuple ds,v,u,c0,r,q=>by
  obtain⟨a,xs,rfl,ha,hr⟩:=r.eQ;cases (show u=ag.ref a from q);obtain⟨_,its,rv,o,e,c,n,d,_⟩:=ok a _ ha;obtain⟨as,ra⟩:=dm.reads ok (by simpa [af.canLay0] using c0) hr rv;exact⟨_,.tuple e c d (by simpa using ra)⟩
 | .list ds,v,u,c0,r,q=>by
  obtain⟨a,xs,rfl,ha,_,hr⟩:=r.eO;cases (show u=ag.ref a from q);obtain⟨_,its,n,rv,e⟩:=ok a _ ha;obtain⟨as,ra⟩:=dm.reads ok (by simpa [af.canLay0] using c0) hr rv;exact⟨_,.list e rfl rfl (by simpa using ra)⟩
 | .dict _,v,u,c0,r,q=>by simp[af.canLay0] at c0
theorem dm.reads {P:a5}{w:World}{S:List Addr}{H:Hp}{h:Heap}(ok:lC P w H h):∀{ds:List af} {xs:List V} {us:List ag},af.canLayAll0 ds=true->dm S H ds xs->dQ xs us->∃as,ReadsAll h us ds as
 | [],xs,us,_,r,q=>by
  cases r.eN;cases q;exact⟨_,.nil⟩
 | d::ds,xs,us,c0,r,q=>by
  simp only[af.canLayAll0,bo] at c0;obtain⟨x,t,rfl,h1,h2⟩:=r.of_cons
  cases q with
  | cons q1 q2 =>
   obtain⟨as,a1⟩:=dR.reads ok c0.1 h1 q1;obtain⟨bs,b1⟩:=dm.reads ok c0.2 h2 q2;exact⟨_,.cons a1 b1⟩
end
structure Good (d:af):Prop where
 lay:d.canLay0=true
 DU:d.showable=true
 short:d.leavesShort 60=true
 deep:d.depth<=60
 Ov:d.weight<=200000
theorem Good.nodict (g:Good d):d.hasDict=false:=af.hasDict_of_canLay d g.lay
theorem Good.fits (g:Good d):d.shown.length<=aA:=by
 have h:=af.shown_le 60 (!2) d g.short;have h2:=g.Ov;rw[sizeLine_eq];omega
section
theorem zu (hr:f6 k X.A):ff X (.builtin "repr") (λxs H Q=>∃S d v,xs=[v]/\dR S H d v/\Good d/\Q (.str d.shown) H):=by
 intro pins s σ H xs us Q I r h;obtain⟨S,d,v,rfl,rp,g,q⟩:=h;obtain⟨u,rfl,ru⟩:=vals1 r;have Cc:=hr.units;have fin:∀(h':Heap) (t:Tok) (tk:Nat),(∀b o,s.heap.get? b=some o->h'.get? b=some o)->EP X pins σ Q (.str d.shown t) { s with heap:=h',toks:=tk }:=λh' t tk kp=>⟨.str d.shown,H,I.kept kp,⟨t,rfl⟩,q⟩;have G7:∀(t:Tok) (tk:Nat),EP X pins σ Q (.str d.shown t) { s with toks:=tk }:=λt tk=>fin s.heap t tk λ_ _ e=>e
 cases d with
 | none=>cases rp.kI;cases (show u=ag.none from ru);exact P.repr_of_none (G7 _ _)
 | bool b=>cases rp.kh;cases (show u=ag.bool b from ru);exact P.repr_of_bool (G7 _ _)
 | int i=>cases rp.d4;obtain⟨t,e⟩:=(show ∃t,u=ag.int i t from ru);cases e;exact P.repr_of_int (by simpa [af.showable] using g.DU) (G7 _ _)
 | str x=>cases rp.jS;obtain⟨t,e⟩:=(show ∃t,u=ag.str x t from ru);cases e;exact P.repr_of_str (G7 _ _) g.fits
 | tuple ds =>
  obtain⟨as,ra⟩:=dR.reads I.hok g.lay rp ru;obtain⟨a,xs,rfl,_⟩:=rp.eQ;cases (show u=ag.ref a from ru);exact repr_of_reads' ra g.DU (af.noDict_hsm g.nodict) hr.gd (by have:=g.deep;omega) (λ_ _ e=>e) (λh' t tk kp=>fin h' t tk kp) g.fits
 | list ds =>
  obtain⟨as,ra⟩:=dR.reads I.hok g.lay rp ru;obtain⟨a,xs,rfl,_⟩:=rp.eO;cases (show u=ag.ref a from ru);exact repr_of_reads' ra g.DU (af.noDict_hsm g.nodict) hr.gd (by have:=g.deep;omega) (λ_ _ e=>e) (λh' t tk kp=>fin h' t tk kp) g.fits
 | dict _=>have z:=g.lay;simp[af.canLay0] at z
theorem DV:ff X (.builtin "isinstance") (λxs H Q=>∃x t c b,xs=[x,.ty c]/\mU X.K H x (.type t)/\W.kitOne X.K (.type t) (.type c)=some b/\Q (.bl b) H):=by
 intro pins s σ H xs us Q I r h;obtain⟨x,t,c,b,rfl,ty,e,q⟩:=h;obtain⟨u,u2,rfl,rx,rc⟩:=vals2 r;cases (show u2=ag.type c from rc);exact B0 I rx ty e λtk=>⟨.bl b,H,I.tok tk,rfl,q⟩
end
noncomputable def Ro:af->String
 | .none => "NoneType"
 | .bool _ => "bool"
 | .int _ => "int"
 | .str _ => "str"
 | .list _ => "list"
 | .tuple _ => "tuple"
 | .dict _ => "dict"
theorem dR.ty {K:W.Frag}{S:List Addr}{H:Hp}{d:af}{v:V}(h:dR S H d v):mU K H v (.type (Ro d)):=by
 cases d with
 | none=>cases h.kI;exact .gJ
 | bool b=>cases h.kh;exact .bl b
 | int i=>cases h.d4;exact .int i
 | str x=>cases h.jS;exact .str x
 | tuple ds=>obtain⟨a,xs,rfl,ha,_⟩:=h.eQ;exact .tup ha
 | list ds=>obtain⟨a,xs,rfl,ha,_⟩:=h.eO;exact .lst ha
 | dict _ =>
  obtain⟨a,t,kvs,xs,rfl,_,ha,_⟩:=h.nv
  cases t with
  | true=>exact .dT ha
  | false=>exact .dK ha
end L2
namespace PySem
open Sem (wp)
open AutoSeq1 (wpAny_loadPart')
section
theorem nZ {Q:List ag->aw->Prop}{r:Addr}{a b c:Int}{t u v:Tok}{n:Nat}(hh:A.handled=none)(hr:IsRange s.heap r a b c t u v)(Lx:Builtin.Range.small a b c=true)
  (hn:Builtin.Range.rangeSize a b c=n) (hlen:n<=2 ^ 24)
  (hQ:∀h' tk (acc:Array ag),(∀b o,s.heap.get? b=some o->h'.get? b=some o)->ItemsOf (λi v=>∃t,v=.int (a+i * c) t) acc n->Q acc.toList { s with heap:=h',toks:=tk }) :
  aE (model prog w) A (collect (.ref r)) Q E s:=by
 unfold collect;refine ae (wpAny_runValue (codeAny_builtin F.entry_proto_collect ?_));rw[Around.under_plainId F.plain_proto_collect _];show aE _ A.in1 (newList [] >>= λl=>again (.builtin "list.__iadd__" ⟨[l,.ref r],[]⟩)) _ _ s;refine ae (aW ?_);refine aj ⟨plainId_quiet F.plain_list_iadd _,codeAny_builtin F.entry_list_iadd ?_⟩;rw[Around.under_plainId F.plain_list_iadd _];show aE _ A.in1 (Builtin.List.listExtendWith (.ref s.heap.objs.size) (.ref r) (.ref s.heap.objs.size)) _ _ _;have hS:(s.heap.push { cls:=.type "list",data:=.seq ([]:List ag).toArray }).get? s.heap.objs.size=some { cls:=.type "list",data:=.seq #[] 0 }:=ax _ rfl
 have DW:∀(h':Heap) (tk:Nat) (acc:Array ag) (c':Nat),(∀b o,b≠s.heap.objs.size->(s.heap.push { cls:=.type "list",data:=.seq ([]:List ag).toArray }).get? b=some o->h'.get? b=some o) ->
   h'.get? s.heap.objs.size=some { cls:=.type "list",dict:=none,data:=.seq acc c',slots:=#[] }->ItemsOf (λi v=>∃t,v=.int (a+i * c) t) acc n ->
   aE (model prog w) A (match ag.ref s.heap.objs.size with
   | ag.ref a=>do
    match (<- load a).data with
     | Data.seq xs _=>pure xs.toList
     | _=>unsupported "internal:collect"
   | _=>unsupported "internal:collect") Q E { s with heap:=h',toks:=tk }:=λh' tk acc c' kp e hi=>by
  show aE _ A (load s.heap.objs.size >>= _) _ _ _;refine ae (wpAny_load e ?_);exact aj (hQ h' tk acc (λb o hb=>kp b o (aT (aF hb)) (ah _ hb)) hi)
 refine bS (wpAny_extend_range (A:=A) (R:=λr' s'=>r'=.ok (.ret (.ref s.heap.objs.size))/\∃h' tk acc c',s'={ s with heap:=h',toks:=tk }/\(∀b o,b≠s.heap.objs.size->(s.heap.push { cls:=.type "list",data:=.seq ([]:List ag).toArray }).get? b=some o->h'.get? b=some o) /\
   h'.get? s.heap.objs.size=some { cls:=.type "list",dict:=none,data:=.seq acc c',slots:=#[] }/\ItemsOf (λi v=>∃t,v=.int (a+i * c) t) acc n)
  (s:={ s with heap:=s.heap.push { cls:=.type "list",data:=.seq ([]:List ag).toArray } }) hh (ah _ hr) Lx hn hlen s.heap.objs.size (.ref s.heap.objs.size) 0 hS
  λh' tk acc c' kp e hi=>⟨rfl,h',tk,acc,c',rfl,kp,e,hi⟩) (λfin s' h=>?_) (λe s' h=>?_)
 .cases fin with
  | done f =>
   obtain⟨e,h',tk,acc,c',rfl,kp,q,hi⟩:=h;cases e;exact DW h' tk acc c' kp q hi
  | again c'=>exact⟨h.1,codeAny_mono h.2 λr NP hr=>by obtain⟨rfl,h',tk,acc,c',rfl,kp,q,hi⟩:=hr;exact DW h' tk acc c' kp q hi⟩
 .exact absurd h.1 (!4)
end
end PySem
namespace L2
open PySem PySem.Spec PyProof.Rows
noncomputable def tw (lo hi:Int):List V:=(List.range (hi - lo).toNat).map λ(k:Nat)=>V.int (lo+k)
section
variable {X:Cx}
theorem DX:ff X (.type "range") (λxs H Q=>∃j:Int,xs=[.int j]/\∀p,H p=none->Q (.ref p) (d3 H p (.IS 0 j))):=by
 intro pins s σ H xs us Q I r h;obtain⟨j,rfl,q⟩:=h;obtain⟨u,rfl,ru⟩:=vals1 r;obtain⟨t,rfl⟩:=ru;refine call_range_1 ?_;refine⟨.ref s.heap.objs.size,_,I.laid (o:=.IS 0 j) (λb o e=>ah _ e) (ao _) ⟨_,_,_,ax _ rfl⟩,rfl,q _ (I.hok.fresh (ao _))⟩
theorem uo {lo hi:Int}{acc:Array ag}(h:ItemsOf (λi v=>∃t,v=ag.int (lo+i * 1) t) acc (hi - lo).toNat):dQ (tw lo hi) acc.toList:=by
 obtain⟨hs,w9⟩:=h;unfold tw
 have:∀(l:List ag) (k:Nat),(∀j v,l[j]? = some v->∃t,v=ag.int (lo+((k+j:Nat):Int)) t)->dQ ((List.range' k l.length).map λ(k:Nat)=>V.int (lo+k)) l:=by
  intro l
  induction l with
  | nil=>intro k _;exact .nil
  | cons v l ih =>
   intro k hv;rw[ap,List.range'_succ,ak];refine .cons (hv 0 v rfl) (ih (k+1) λj w hw=>?_);obtain⟨t,e⟩:=hv (j+1) w (by simpa using hw);exact⟨t,by rw[e];congr 2;omega⟩
 have q:=this acc.toList 0 λj v hv=>by
  obtain⟨t,e⟩:=w9 j v (by simpa using hv);exact⟨t,by rw[e,Int.mul_one,Nat.zero_add]⟩
 rw[List.range_eq_range',<- hs];simpa using q
theorem DY (lo hi:Int):Builtin.Range.rangeSize lo hi 1=((hi - lo).toNat:Int):=by rw[rangeSize_one];split<;>omega
theorem qY (hc:X.calm=true):ff X (.type "tuple") (λxs H Q=>∃p lo hi,xs=[.ref p]/\H p=some (.IS lo hi)/\(-(2 ^ 62)<=lo/\lo<2 ^ 62/\-(2 ^ 62)<=hi/\hi<2 ^ 62)/\(hi - lo).toNat<=2 ^ 24/\∀l,H l=none->Q (.ref l) (d3 H l (.tup (tw lo hi)))):=by
 intro pins s σ H xs us Q I r h;obtain⟨p,lo,hi,rfl,hp,⟨h1,h2,h3,h4⟩,hl,q⟩:=h;obtain⟨u,rfl,ru⟩:=vals1 r;cases ru;obtain⟨t,u,v,e⟩:=I.hok p _ hp;have hd:=I.ok.hd hc
 have hr:(tw lo hi).length<=aA:=by
  unfold tw;rw[ar,List.length_range,sizeLine_eq];omega
 refine callType_new F.called_tuple (!2) (F.typeCall_tuple_1 _) (F.newCall_tuple_1 _) (λobj=>F.args_object_init_2 obj _) F.entry_tuple_new
  (S:=λA' R s'=>A'.handled=none/\s'.heap.get? p=some { cls:=.type "range",data:=.fields #[.int lo t,.int hi u,.int 1 v] }/\∀(h':Heap) (tk:Nat) (acc:Array ag),(∀b o',s'.heap.get? b=some o'->h'.get? b=some o')->ItemsOf (λi v=>∃t,v=.int (lo+i * 1) t) acc (hi - lo).toNat->R (.ok (.ret (.ref h'.objs.size))) { s' with heap:=h'.push { cls:=.type "tuple",data:=.seq acc },toks:=tk })
  (.of_wp λprog w A R s h=>?_) ⟨hd,e,λh' tk acc kp w9=>?_⟩
 .obtain⟨hp,g,d,tk,os⟩:=s
  obtain⟨QH,ht,h⟩:=h;have G8:=sub_tuple_self;have TH:=init_tuple_lookup;have Xu:=madeHere_tuple;have hT:aw.TypeIs ⟨hp,g,d,tk,os⟩ (.ref p) "range" := ⟨_,ht,rfl⟩
  wp_walk using AutoSeq1.wpAny_loadPart' ht,wpAny_typeOf hT,nZ (A:=A.in1) (show A.in1.handled=none from QH) ht (small_one h1 h2 h3 h4) (DY lo hi) hl
  intro h' Rp acc kp w9;show aE _ _ (Builtin.Tuple.tupleExact acc.toList.toArray >>= λv=>ret v) _ _ _;unfold Builtin.Tuple.tupleExact
  have hsz:acc.toList.toArray.size<=aA:=by
   have:=(uo w9).length;simp at this ⊢;omega
  refine ae (aW ?_ hsz);refine aj ⟨_,rfl,?_⟩;have ea:acc.toList.toArray=acc:=by simp
  rw[ea];exact h h' Rp acc kp w9
 .have hv:=uo w9
  have I1:Inv X pins σ H { s with heap:=h',toks:=tk }:=I.kept kp
  have I2:Inv X pins σ (d3 H h'.objs.size (.tup (tw lo hi))) { s with heap:=h'.push { cls:=.type "tuple",data:=.seq acc },toks:=tk } :=
   I1.laid (λb o e=>ah _ e) (ao _) (show eX X.prog X.w _ _ _ (.tup (tw lo hi)) from ⟨hr,acc.toList,hv,by simpa using s9.new _ _⟩)
  exact⟨⟨_,ax _ rfl,rfl⟩,⟨.ref h'.objs.size,_,I2,rfl,q _ (I1.hok.fresh (ao _))⟩⟩
end
section
theorem Ow (T:String)(hg:Gl X x)(hm:X.mg x=none)(hv:bootBuiltins x=some (.type T))(hn:x ≠ "__name__" := by decide)(hd:(x == ("__debug__" : Str))=false:=by decide):PE X (.Name x pos) (tC (.ty T)):=Gm hg hm hv rfl hn hd
noncomputable def Ox (t u:TS):TS:=λD σ H=>∃M:St->Hp->Prop,t { D with nx:=M } σ H/\∀σ' H',M σ' H'->u D σ' H'
theorem G9 {st:Stmt}{rest:List Stmt}{t u:TS}(h1:PS X st t)(h2:yW X rest u):yW X (st::rest) (Ox t u):=by
 intro pins s σ H D I h;obtain⟨M,q,k⟩:=h;refine wpAny_execs_cons (fc (h1 pins s σ H { D with nx:=M } I q) λf s1 e=>?_)
 cases f with
 | next=>obtain⟨σ1,H1,I1,m1⟩:=e;exact h2 pins s1 σ1 H1 D I1 (k σ1 H1 m1)
 | brk=>exact e
 | cont=>exact e
 | ret u=>exact e
theorem Ly {α:Type}{xs:List α}{i:Int}(h0:0<=i)(h1:i<xs.length):∃v,oW xs i=some v/\xs[i.toNat]? = some v:=by
 have jB:i.toNat<xs.length:=by omega
 refine⟨xs[i.toNat],?_,by simp[jB]⟩;unfold oW GS;rw[if_pos h0,if_pos h1];simp[jB]
end
noncomputable def d8:Expr->Bool
 | .Starred ..=>false
 | _=>true
theorem fm (h:d8 e=true):starEach (e::es) env=(false,eval e env)::starEach es env:=by
 cases e<;>first | rfl | cases h
theorem ki:∀{es:List Expr},es.all d8=true->(backTo pos (starEach es env)).any (·.1)=false
 | [],_=>rfl
 | e::es,h=>by
  rw[List.all_cons,bo] at h;rw[fm h.1];show (backTo pos ((false,eval e env)::starEach es env)).any (·.1)=false;have ih:=ki (pos:=pos) (env:=env) h.2;show (false || (backTo pos (starEach es env)).any (·.1))=false;rw[ih];rfl
theorem qZ:∀{es:List Expr},es.all d8=true->(backTo pos (starEach es env)).all (λx=>!x.1)=true
 | [],_=>rfl
 | e::es,h=>by
  rw[List.all_cons,bo] at h;rw[fm h.1];have ih:=qZ (pos:=pos) (env:=env) h.2;show (true && (backTo pos (starEach es env)).all (λx=>!x.1))=true;rw[ih];rfl
theorem m9 (h:(e::es).all d8=true):d8 e=true/\es.all d8=true:=by
 rw[List.all_cons,bo] at h;exact h
structure QE (X:Cx) (e:Expr) (t:TE):Prop where run:PE X e t
structure QT (X:Cx) (e:Expr) (t:TT):Prop where run:PT X e t
structure QW (X:Cx) (e:Expr) (t:TT):Prop where run:PW X e t
structure QA (X:Cx) (es:List Expr) (t:TA):Prop where
 run:PA X es t
 ns:es.all d8=true
structure QS (X:Cx) (st:Stmt) (t:TS):Prop where run:PS X st t
structure xa (X:Cx) (st:List Stmt) (t:TS):Prop where run:yW X st t
structure QG (X:Cx) (e:Expr) (t:TG):Prop where run:PG X e t
structure Jn (X:Cx) (es:List Expr) (t:Kv):Prop where run:Nz X es t
structure QI (X:Cx) (tg iter:Expr) (t:TI):Prop where run:PI X tg iter t
structure QO (X:Cx) (e:Option Expr) (t:TO):Prop where run:PO X e t
structure QK (X:Cx) (vC:List Expr) (t:TT):Prop where run:Om X vC t
section
variable {X:Cx}{a b c e o i' tg iter wD:Expr}{es:List Expr}{ta tb tc te to ti:TE}{tA Gn:TT}{t:TA}{pos p kG hZ p2:Pos}{k:Nat}{x name:Str}{ps:List Str}{sp:Sp}{id T:String}{rest:List Expr}
theorem qv (i:Nat)(hN:X.N[i]? = some x:=by rfl)(hv:tf X.env.scope x:=by (first | exact Or.inl rfl | exact Or.inr (Or.inl rfl) | exact Or.inr (Or.inr rfl)))(hd:(x == ("__debug__" : Str))=false:=by decide)
  (jz:(x == ("__classdict__" : Str))=false:=by decide):QE X (.Name x pos) (Gj i):=⟨Dl hN hv hd jz⟩
theorem eu {i j pos}:QE X (.Constant (.int i) j pos) (tC (.int i)):=⟨Ko⟩
theorem DZ {b j pos}:QE X (.Constant (.bool b) j pos) (tC (.bl b)):=⟨Nr⟩
theorem Lz {j pos}:QE X (.Constant .none j pos) (tC .gJ):=⟨Dm⟩
theorem Oy (T:String)(hg:Gl X x)(hm:X.mg x=none)(hv:bootBuiltins x=some (.type T))(hn:x ≠ "__name__" := by decide)(hd:(x == ("__debug__" : Str))=false:=by decide):QE X (.Name x pos) (tC (.ty T)):=⟨Ow T hg hm hv hn hd⟩
theorem fA (ho:kC X (binaryOp op) r)(ha:QE X a ta)(hb:QE X b tb):QE X (.BinOp a op b pos) (GA r ta tb):=⟨NI ho ha.run hb.run⟩
theorem Oz (ho:Qa X (unaryOp op) r)(ha:QE X a ta):QE X (.UnaryOp op a pos) (Ti r ta):=⟨NJ ho ha.run⟩
theorem AX (ho:kC X (compareOp op) r)(ha:QE X a ta)(hb:QE X b tb)(hm:behindInMarks op b=false):QE X (.Compare a [op] [b] pos) (GA r ta tb):=⟨GG ho ha.run hb.run hm⟩
theorem qu (ho:kC X (compareOp op) r)(ha:QE X a ta)(hb:QE X b tb)(hm:behindInMarks op b=false):QT X (.Compare a [op] [b] pos) (Jg (GA r ta tb)):=⟨GH ho ha.run hb.run hm⟩
theorem zv (h:QE X e te)(he:∀m7,isTrue e X.env m7=(do let v <- m7;standAt e.pos;holding [v] (truthy v)):=by rw[3]):QT X e (tB te):=⟨Kp h.run he⟩
theorem AY (ha:QT X a tA):QW X (.BoolOp .And [a] pos) tA:=⟨pw_and1 ha.run⟩
theorem LA (ha:QT X a tA):QW X (.BoolOp .Or [a] pos) tA:=⟨pw_or1 ha.run⟩
theorem D0 (ha:QT X a tA)(hb:QW X (.BoolOp .And (b::rest) pos) Gn):QW X (.BoolOp .And (a::b::rest) pos) (Nt tA Gn):=⟨pw_and ha.run hb.run⟩
theorem OA (ha:QT X a tA)(hb:QW X (.BoolOp .Or (b::rest) pos) Gn):QW X (.BoolOp .Or (a::b::rest) pos) (Tf tA Gn):=⟨pw_or ha.run hb.run⟩
theorem QW.pt (h:QW X e tA):QT X e tA:=⟨h.run.pt⟩
theorem LB (ha:QT X a tA):QT X (.UnaryOp .Not a pos) (Nu tA):=⟨Kq ha.run⟩
theorem LC {op}(h:QE X a ta):QE X (.BoolOp op [a] pos) ta:=⟨Kr h.run⟩
theorem LD (ha:QE X a ta)(hb:QE X (.BoolOp .And (b::rest) pos) tb):QE X (.BoolOp .And (a::b::rest) pos) (IZ ta tb):=⟨Ks ha.run hb.run⟩
theorem zx (ha:QE X a ta):QE X (.UnaryOp .Not a pos) (I0 ta):=⟨Kt ha.run⟩
theorem D1 (hc:QT X c tA)(ha:QE X a ta)(hb:QE X b tb):QE X (.IfExp c a b pos) (Tg tA ta tb):=⟨Dq hc.run ha.run hb.run⟩
theorem eG:QA X [] K8:=⟨K9,rfl⟩
theorem gk (ha:QE X e te)(hr:QA X es t)(hs:d8 e=true:=by rfl):QA X (e::es) (DB te t):=⟨GJ ha.run hr.run (fm hs),by rw[List.all_cons,hs,hr.ns];rfl⟩
theorem vE (h:QA X es t):QE X (.List es pos) (NN t):=⟨Lb h.run⟩
theorem LF {x1}(h:QA X es t):QE X (.Tuple es x1 pos) (NM t):=⟨La h.run⟩
theorem n6 (hr:F0 X r)(ha:QE X a ta)(hb:QE X b tb)(hs:vq b):QE X (.Subscript a b pos) (GA r ta tb):=⟨NW hr ha.run hb.run hs⟩
theorem AZ:QO X none AO:=⟨GP⟩
theorem A0 (h:QE X e te):QO X (some e) (Ji te):=⟨GQ h.run⟩
theorem xb {r:V->Option Int->Option Int->Hp->VK->Prop}{lo hi:Option Expr}{tl th:TO}(hr:FZ X r)(he:QE X e te)(hl:QO X lo tl)(hu:QO X hi th):QE X (.Subscript e (.Slice lo hi none p2) pos) (To r te tl th):=⟨DH hr he.run hl.run hu.run⟩
theorem lL (D:dJ X.prog X.w X.K X.mg X.base k x ps sp)(hr:f6 k X.A)(ha:QA X (e::es) t)(hg:Gl X x:=by rfl)(oV:(x == ("__debug__" : Str))=false:=by decide) :
  QE X (.Call (.Name x p) (e::es) [] pos) (qW sp t):=⟨DO D hr ha.run hg oV (fm (m9 ha.ns).1) (ki (m9 ha.ns).2)⟩
theorem gK {r:List V->Hp->VK->Prop}(hc:ff X (.builtin id) r)(hg:Gl X x)(hm:X.mg x=none)(hv:bootBuiltins x=some (.builtin id))(ha:QA X (e::es) t)(hn:x ≠ "__name__" := by decide)(oV:(x == ("__debug__" : Str))=false:=by decide) :
  QE X (.Call (.Name x p) (e::es) [] pos) (NT r t):=⟨DE hc hg hm hv ha.run hn oV (fm (m9 ha.ns).1) (ki (m9 ha.ns).2)⟩
theorem gg (hc:ff X (.type T) r)(hg:Gl X x)(hm:X.mg x=none)(hv:bootBuiltins x=some (.type T))(ha:QA X (e::es) t)(hn:x ≠ "__name__" := by decide)(oV:(x == ("__debug__" : Str))=false:=by decide) :
  QE X (.Call (.Name x p) (e::es) [] pos) (NT r t):=⟨B2 hc hg hm hv ha.run hn oV (fm (m9 ha.ns).1) (ki (m9 ha.ns).2)⟩
theorem OB {r:V->List V->Hp->VK->Prop}(pa:PlainAttrs T)(slot:Slot T name id)(Ll:typeOf (.builtin id)=pure (.type "method_descriptor"))(hm:GU X id r)(ho:QE X o to)(ha:QA X (e::es) t)
  (qS:attributeBase o name X.env (eval o X.env)=eval o X.env:=by rfl) (hl:decide ((e::es).length+0+0<30)=true:=by rfl)
  (qT:(kG.endLine == hZ.line)=true:=by rfl):QE X (.Call (.Attribute o name kG) (e::es) [] hZ) (Q1 X.K T r to t):=by
 refine⟨Oa pa slot Ll hm ho.run ha.run qS ?_ qT (fm (m9 ha.ns).1) (ki (m9 ha.ns).2)⟩;rw[qZ ha.ns];exact hl
theorem n8 (hN:X.N.Nodup)(hi:X.N[i]? = some x)(hx:Loc X.env.scope x)(hf:X.fn x=true\/X.env.scope.names.lookup x=some .local:=by (first | exact .inl rfl | exact .inr rfl | assumption)):QG X (.Name x pos) (wO i):=⟨Gu hN hi hx hf⟩
theorem G':Jn X [] NB:=⟨Gv⟩
theorem D2 (h1:QG X e tt)(h2:Jn X es u)(hs:(assignEach (e::es) X.env).map (·.2)=assign e X.env::(assignEach es X.env).map (·.2):=by rfl):Jn X (e::es) (Ja tt u):=⟨Ds h1.run h2.run hs⟩
theorem LG (hc:X.calm=true)(h:Jn X es tt)(hn:(assignEach es X.env).length=n:=by rfl)(BU:(assignEach es X.env).findIdx? (·.1)=none:=by rfl):QG X (.Tuple es k pos) (NC X.K n tt):=⟨Kx hc h.run hn BU⟩
theorem zy (ho:QE X o to)(hi:QE X i' ti)(hs:Kw X tt)
  (ha:∀v,assign (.Subscript o i' pos) X.env v=(do
   let ov <- holding [v] (eval o X.env);let iv <- holding [v,ov] (eval i' X.env)
   standAt pos
   holding [v,ov,iv] (setItem ov iv v)
   release [v,ov,iv] []):=by rw[3]):QG X (.Subscript o i' pos) (ND to ti tt):=⟨Ky ho.run hi.run hs ha⟩
theorem Ha (hl:QE X a ta):QI X tg a (Dw X.K ta):=⟨Gy hl.run⟩
theorem LH (hl:QE X a ta):QI X tg a (KD X.K ta):=⟨KH hl.run⟩
theorem uq (hg:Gl X "range")(hm:X.mg "range" = none)(ha:QA X [a] t):QI X tg (.Call (.Name "range" p) [a] [] pos) (Jb t):=⟨BV hg hm ha.run (fm (m9 ha.ns).1)⟩
theorem LI:QK X [] Jk:=⟨G2⟩
theorem zz (h:QT X c tA):QK X [c] tA:=⟨G3 h.run⟩
variable {st:Stmt}{Hb body OC:List Stmt}{ts us:TS}{vC:List Expr}{sc:Scope}{N:List Str}{mp:List (Option Nat)}{wi:TI}{g:TG}
theorem qw:xa X [] I8:=⟨Gp⟩
theorem eD (h1:QS X st ts)(h2:xa X Hb us):xa X (st::Hb) (Nv ts us):=⟨Dr h1.run h2.run⟩
theorem Hc (h1:QS X st ts)(h2:xa X Hb us):xa X (st::Hb) (Ox ts us):=⟨G9 h1.run h2.run⟩
theorem gL (h1:QS X st ts):xa X [st] ts:=⟨Gr h1.run⟩
theorem Hd (he:QE X e te)(hs:swapsWith e none pos.line X.env=pure false:=by rfl):QS X (.Expr e pos) (I9 te):=⟨Gs he.run hs⟩
theorem kJ (he:QE X e te):QS X (.Return (some e) pos) (Nw te):=⟨Ku he.run⟩
theorem A1 (hc:QT X c tA)(ha:xa X body ts)(hb:xa X OC us):QS X (.If c body OC pos) (Nx tA ts us):=⟨Ny hc.run ha.run hb.run⟩
theorem gC (hN:X.N.Nodup)(hi:X.N[i]? = some x)(hx:Loc X.env.scope x)(he:QE X e te)(hs:swapsWith e (some (.Name x fZ)) pos.line X.env=pure false:=by rfl)
  (hf:X.fn x=true\/X.env.scope.names.lookup x=some .local:=by (first | exact .inl rfl | exact .inr rfl | assumption)):QS X (.Assign [.Name x fZ] e pos) (Dt te (wO i)):=⟨KC hN hi hx he.run hs hf⟩
theorem vF (he:QE X e te)(hg:QG X tg g)(hs:swapsWithSole [tg] e pos.line X.env=pure false:=by rfl)(hw:swappedStores [tg] e X.env=pure none:=by rfl)
  (h1:(assignEach [tg] X.env).map (·.2)=[assign tg X.env]:=by rfl):QS X (.Assign [tg] e pos) (Dt te g):=⟨Kz he.run hg.run hs hw h1⟩
theorem vG (hp:PassesOwn (model X.prog X.w) X.A X.env X.xe)(hc:X.calm=true)(hi:QI X tg iter wi)(hg:QG X tg g)(hb:xa X body ts)(hs:∀x,foldedSetIterable iter X.env x=pure x:=by rw[3]) :
  QS X (.For tg iter body [] pos) (NF wi g ts):=⟨KP hp hc hi.run hg.run hb.run hs⟩
theorem D3 (hp:PassesOwn (model X.prog X.w) X.A X.env X.xe)(hc:QT X c tA)(hb:xa X body ts):QS X (.While c body [] pos) (Du tA ts):=⟨Dv hp hc.run hb.run⟩
theorem vH (hc:X.calm=true)(hi:QI X tg iter wi)(hk:sc.kind=.function)(hm:kH X.N X.env.scope sc N mp=true)
  (hb:∀(cl:List (Str × Addr)) (C:Addr) (s₂:aw) (H₂:Hp) (fp:List Addr),QG (gj X sc N cl C s₂ H₂ fp) tg g/\QK (gj X sc N cl C s₂ H₂ fp) vC tA/\QE (gj X sc N cl C s₂ H₂ fp) wD te)
  (hs:∀x,foldedSetIterable iter X.env x=pure x:=by rw[3]):QE X (.ListComp wD [⟨tg,iter,vC,0⟩] sc pos) (DT (AV wi mp g tA te)) :=
 ⟨G6 hc hi.run hk hm (λcl C s₂ H₂ fp=>⟨(hb cl C s₂ H₂ fp).1.run,(hb cl C s₂ H₂ fp).2.1.run,(hb cl C s₂ H₂ fp).2.2.run⟩) hs⟩
end
theorem wZ.LJ {P:a5}{w:World}{K:W.Frag}{mg:Str->Option ag}{base:Heap}{x fb:Str}{st:Stmt}{f:Addr}{fd:bH}{N ps:List Str}{k:Nat}{sp:Sp}(F:wZ K x fb st f fd)(S:e9 N ps (dn st))(len:∀vs H Q E,sp vs H Q E->vs.length=ps.length)
  (wV:∀(eS:ag) (A:Around) (outer:List Env) (s:aw) (H:Hp) (vs:List V) (Q:VK) (E:XK),f6 k (A.deeper (envOfC fb (dn st) s.heap.objs.size f eS))->sp vs H Q E ->
   ∃t,xa (nq vy P w K mg base N fb (dn st) f eS A outer s H E).BS (fC st) t/\t { nx:=λ_ H'=>Q .gJ H',rt:=Q } (start N vs) H):lB P w K mg base vy (k+1) f fd ps sp :=
 F.ok S len λeS A outer s H vs Q E hr h=>let ⟨t,q,r⟩:=wV eS A outer s H vs Q E hr h;⟨t,q.run,r⟩
section
variable {X:Cx}(K:W.Frag)
theorem U' (h:X.K=K:=by rfl):F0 X (NZ K):=by subst h;exact Li
theorem He (h:X.K=K:=by rfl):F0 X (NY K):=by subst h;exact GV
theorem TJ (h:X.K=K:=by rfl):FZ X (N1 K):=by subst h;exact GW
theorem LK (h:X.K=K:=by rfl):ff X (.builtin "len") (λxs H Q=>∃p ys,xs=[.ref p]/\(fU K H p ys\/gZ K H p ys)/\Q (.int ys.length) H):=by subst h;exact vv
theorem Rq (h:X.K=K:=by rfl):ff X (.builtin "isinstance") (λxs H Q=>∃x t c b,xs=[x,.ty c]/\mU K H x (.type t)/\W.kitOne K (.type t) (.type c)=some b/\Q (.bl b) H):=by subst h;exact DV
theorem OD (h:X.K=K:=by rfl):ff X (.type "list") (λxs H Q=>∃p ys,xs=[.ref p]/\(fU K H p ys\/gZ K H p ys)/\∀l,H l=none->Q (.ref l) (d3 H l (.lst ys))):=by subst h;exact vw
theorem zA (h:X.K=K:=by rfl):ff X (.type "tuple") (λxs H Q=>∃p ys,xs=[.ref p]/\((fU K H p ys/\∀l,H l=none->Q (.ref l) (d3 H l (.tup ys)))\/(gZ K H p ys/\Q (.ref p) H))):=by subst h;exact tq
variable {a o e tg:Expr}{es:List Expr}{ta to:TE}{t:TA}{kG hZ:Pos}{name:Str}{id T:String}
theorem D4 (hl:QE X a ta)(h:X.K=K:=by rfl):QI X tg a (Dw K ta):=by subst h;exact Ha hl
theorem Hf (hl:QE X a ta)(h:X.K=K:=by rfl):QI X tg a (KD K ta):=by subst h;exact LH hl
theorem LL {r:V->List V->Hp->VK->Prop}(pa:PlainAttrs T)(slot:Slot T name id)(Ll:typeOf (.builtin id)=pure (.type "method_descriptor"))(hm:GU X id r)(ho:QE X o to)(ha:QA X (e::es) t)(h:X.K=K:=by rfl)
  (qS:attributeBase o name X.env (eval o X.env)=eval o X.env:=by rfl) (hl:decide ((e::es).length+0+0<30)=true:=by rfl)
  (qT:(kG.endLine == hZ.line)=true:=by rfl):QE X (.Call (.Attribute o name kG) (e::es) [] hZ) (Q1 K T r to t):=by subst h;exact OB pa slot Ll hm ho ha qS hl qT
end
end L2
namespace HT
open PySem PyProof.Rows
section
theorem mZ {t sl:Addr}{items:Array ag}{vl vu:ag}{lo hi:Option Int}{Q:ag->aw->Prop}(ht:IsTup s.heap t items)(hs:s.heap.IsSliceOf sl vl vu .none)(pl:IsPart vl lo)(pu:IsPart vu hi)
  (hw:gf items.size 0 lo=0/\gf items.size items.size hi=items.size) (h:Q (.ref t) s):aE (model prog w) A (getItem (.ref t) (.ref sl)) Q E s:=by
 obtain⟨os,Lg,DF,NU⟩:=id hs;have QZ:s.TypeIs (.ref sl) "slice" := ⟨os,Lg,DF⟩;unfold getItem;try with_reducible refine wpAny_holding ?_
 first | refine ae (aj ?_) | skip
 refine ae (wpAny_sequenceKey ht.typeIs (!2) ?_)
 refine ae (wpAny_callSpecial?_slot (name:=Str.ofString "__getitem__") ht.typeIs PyProof.Rows.slot_tuple_getitem
  (wpAny_call_entry PyProof.Rows.slot_tuple_getitem ht.typeIs entry_tuple_getitem ?_ (args_tuple_getitem _ _)))
 show aE _ _ (Builtin.Tuple.tupleItemsOf (.ref t) >>= _) _ _ s;refine ae (tupleItemsOf_ ht ?_);refine ae (wpAny_typeOf QZ ?_);rw[if_pos (!2)];refine ae (kg hs pl pu ?_)
 have Rr:((((gf items.size 0 lo:Nat):Int) == 0 && (1:Int) == 1 && (gf items.size items.size hi - gf items.size 0 lo) == items.size)=true):=by
  rw[hw.1,hw.2];simp
 show aE _ _ (if (((gf items.size 0 lo:Nat):Int) == 0 && (1:Int) == 1 && (gf items.size items.size hi - gf items.size 0 lo) == items.size)=true then _ else _) _ _ s;rw[if_pos Rr];refine ae ?_;unfold Builtin.Tuple.tupleIsExact;refine ae (wpAny_typeOf ht.typeIs (aj ?_));show aE _ _ (if (ag.type "tuple" == ag.type "tuple")=true then _ else _) _ _ s;rw[if_pos (!2)];exact ae (wpAny_rule (aj ⟨_,rfl,aj h⟩))
end
end HT
namespace L2
open PySem PySem.Spec PyProof.Rows
noncomputable def OE (K:W.Frag):V->Option Int->Option Int->Hp->VK->Prop:=λx lo hi H Q=>∃a xs,x=.ref a/\gZ K H a xs/\(nX xs lo hi=xs->Q (.ref a) H)/\∀p,H p=none->Q (.ref p) (d3 H p (.tup (nX xs lo hi)))
section
variable (K:W.Frag)
theorem Va (h:X.K=K:=by rfl):FZ X (OE K):=by
 subst h;intro pins s σ H x v vl vu lo hi sl Q I rx hs pl pu h;obtain⟨a,xs,rfl,hx,hw,q⟩:=h;by_cases hc:HT.gf xs.length 0 lo=0/\HT.gf xs.length xs.length hi=xs.length
 .cases rx
  obtain⟨its,r,ht,hz⟩:=I.tuple hx;have hlen:its.toArray.size=xs.length:=by rw[aC];exact r.length.symm
  refine⟨"tuple",_,PyProof.Rows.slot_tuple_getitem.lookup,ht.typeIs,?_⟩;refine HT.mZ ht hs pl pu (by rw[hlen];exact hc) ⟨.ref a,H,I,rfl,hw ?_⟩;unfold nX;rw[hc.1,hc.2];simp
 .exact Lh pins s σ H (.ref a) v vl vu lo hi sl Q I rx hs pl pu ⟨a,xs,rfl,hx,hc,q⟩
end
noncomputable def OG (K:W.Frag):R2:=λx y H Q=>∃a b xs ys,x=.ref a/\y=.ref b/\gZ K H a xs/\gZ K H b ys/\xs.length+ys.length<=aA/\(xs=[]->Q (.ref b) H)/\(ys=[]->Q (.ref a) H)/\∀p,H p=none->Q (.ref p) (d3 H p (.tup (xs++ys)))
theorem Rt (K:W.Frag)(h:X.K=K:=by rfl):kC X (binaryOp .Add) (OG K):=by
 subst h;intro pins s σ H x y v u Q I rx ry h;obtain⟨a,b,xs,ys,rfl,rfl,ha,hb,hz,q0,q1,q2⟩:=h;by_cases hx:xs=[]
 .cases rx
  cases ry;obtain⟨its,r1,p1,_⟩:=I.tuple ha;obtain⟨mV,r2,p2,_⟩:=I.tuple hb;have hi:its=[]:=r1.nY.mpr hx;obtain⟨⟨cls,dd,data,sl⟩,ho,hc,n,hd⟩:=id p1;obtain⟨⟨QY,Qc,data2,GO⟩,B3,AK,n2,wW⟩:=id p2;simp only at hc hd AK wW;subst hc hd AK wW
  exact concat_meets ⟨_,ho,rfl⟩ ⟨_,B3,rfl⟩ noFill_tuple_add seq_tuple_add PySem.F.slot_tuple_add PySem.F.entry_tuple_add (PySem.F.args_tuple_add_2 _ _)
   (tuple_addW0 a b its.toArray mV.toArray n n2 dd Qc sl GO (by simp[hi])) ⟨ho,B3,⟨.ref b,H,I,rfl,q0 hx⟩⟩
 .exact GR pins s σ H _ _ v u Q I rx ry ⟨a,b,xs,ys,rfl,rfl,ha,hb,hx,hz,q1,λ_=>q2⟩
end L2
namespace PySem
open Sem (wp)
theorem kj:fillsNumberSlot (.type "tuple") "mul" = pure false :=
 fillsNumberSlot_seq (id := "tuple.__mul__") (r:=some (.builtin "tuple.__rmul__")) F.slot_tuple_mul.lookup (!3) F.slot_tuple_rmul.lookup (!3)
theorem n9:seqRepeat? (.type "tuple")=pure (some (.builtin "tuple.__mul__")):=by
 unfold seqRepeat?;rw[seqSlot_of (T := "tuple") (name := "__mul__") (id := "tuple.__mul__") F.slot_tuple_mul.lookup (!3),seqSlot_of (T := "tuple") (name := "__rmul__") (id := "tuple.__rmul__") F.slot_tuple_rmul.lookup (!3)];rfl
theorem lM (a:Int)(t:Tok)(l:Addr)(items:Array ag)(n:Nat)(dd:Option Addr)(sl:Array (Option ag)) :
  Meets (Builtin.«int.__rmul__» ⟨[.int a t,.ref l],[]⟩) (λ_ R s=>s.heap.get? l=some { cls:=.type "tuple",dict:=dd,data:=.seq items n,slots:=sl }/\R (.ok (.ret ag.notImplemented)) s) :=
 .of_wp λprog w A R s h=>by obtain⟨hp,g,d,tk,os⟩:=s;obtain⟨hl,h⟩:=h;wp_walk;exact⟨_,rfl,h⟩
theorem tD (l:Addr)(items:Array ag)(n:Nat)(dd:Option Addr)(sl:Array (Option ag))(k:Int)(t:Tok)(iy:items.isEmpty=false)(h2:2<=k)(hk:k<2 ^ 40)(hz:items.size * k.toNat<=16000000) :
  Meets (Builtin.«tuple.__mul__» ⟨[.ref l,.int k t],[]⟩) (λ_ R s=>s.heap.get? l=some { cls:=.type "tuple",dict:=dd,data:=.seq items n,slots:=sl }/\R (.ok (.ret (ag.ref s.heap.objs.size))) { s with heap:=s.heap.push { cls:=ag.type "tuple",data:=Data.seq (c6 (λx1 x2=>x1++x2) #[] (List.replicate k.toNat items)) },toks:=s.toks }) :=
 .of_wp λprog w A R s h=>by
  obtain⟨hp,g,d,tk,os⟩:=s;obtain⟨hl,h⟩:=h;have f1:=AutoSeq1.idx_int;have c0:¬ (decide (k < -(2 ^ 63)) || decide (k ≥ 2 ^ 63))=true:=by simp;omega
  have c1:¬ (items.isEmpty || k == 1)=true:=by rw[iy];simp;omega
  have c2:¬ (decide (k<=0) || items.isEmpty)=true:=by rw[iy];simp;omega
  wp_walk
  have D5:k=((k.toNat:Nat):Int):=by omega
  have hm:(items.size:Int) * k=((items.size * k.toNat:Nat):Int):=by rw[Int.natCast_mul,<- D5]
  have c3:¬ (items.size:Int) * k > (2 ^ 63 - 1) / 8:=by rw[hm];omega
  have c4:¬ Builtin.Tuple.tupleTooMany ((items.size:Int) * k)=true:=by
   rw[hm];unfold Builtin.Tuple.tupleTooMany;rw[decide_eq_true_eq,show aA=16777216 by decide];omega
  have OH:PyProof.Rows.IsTup hp l items:=⟨_,hl,rfl,n,rfl⟩
  have hsz:(c6 (λx1 x2=>x1++x2) #[] (List.replicate k.toNat items)).size<=aA:=by
   have e:=AutoListH.size_joined items k.toNat #[];have e0:(#[]:Array ag).size=0:=rfl;rw[e0,Nat.zero_add,Nat.mul_comm] at e;rw[e];exact bj hz (!2)
  rw[if_neg c0];show aE _ _ (Builtin.Tuple.tupleItemsOf (.ref l) >>= _) _ _ _;refine ae (PyProof.Rows.tupleItemsOf_ OH ?_);dsimp only;rw[if_neg c1,if_neg c2,if_neg c3,if_neg c4]
  first
   | exact ae (m:=Builtin.Tuple.tupleExact _) (aW (aj ⟨_,rfl,h⟩) hsz)
   | exact ae (m:=Builtin.Tuple.tupleExact _) (aW (ae (aj (aj ⟨_,rfl,h⟩))) hsz)
   | exact ae (ae (m:=Builtin.Tuple.tupleExact _) (aW (aj (aj ⟨_,rfl,h⟩)) hsz))
   | exact ae (ae (m:=Builtin.Tuple.tupleExact _) (aW (aj ⟨_,rfl,h⟩) hsz))
end PySem
namespace L2
open PySem PySem.Spec PyProof.Rows
section
theorem QE.weaken (h:QE X e t)(w:∀σ H Q,t' σ H Q->t σ H Q):QE X e t':=⟨λpins s σ H Q I q=>h.run pins s σ H Q I (w σ H Q q)⟩
theorem QA.weaken (h:QA X es t)(w:∀σ H Q,t' σ H Q->t σ H Q):QA X es t':=⟨λpos pins s σ H Q I q=>h.run pos pins s σ H Q I (w σ H Q q),h.ns⟩
end
section
variable {X:Cx}{us ui:List Nat}{a b e:Expr}{es:List Expr}{pos:Pos}
noncomputable def Jo (K:W.Frag):R2:=λx y H Q=>∃a k xs,x=.ref a/\y=.int k/\gZ K H a xs/\xs≠[]/\2<=k/\k<2 ^ 40/\xs.length * k.toNat<=16000000/\∀p,H p=none->Q (.ref p) (d3 H p (.tup (List.replicate k.toNat xs).flatten))
theorem Hg (K:W.Frag)(h:X.K=K:=by rfl):kC X (binaryOp .Mult) (Jo K):=by
 subst h;intro pins s σ H x y v u Q I rx ry h;obtain⟨a,k,xs,rfl,rfl,hx,iy,h2,hk,hz,q⟩:=h;cases rx;obtain⟨t,rfl⟩:=ry;obtain⟨its,r,ht,hl⟩:=I.tuple hx;obtain⟨⟨cls,dd,data,sl⟩,ho,hc,n,hd⟩:=id ht;simp only at hc hd;subst hc hd
 have Ru:its.toArray.isEmpty=false:=by
  cases its with
  | nil=>exact absurd (r.nY.mp rfl) iy
  | cons _ _=>rfl
 have hsz:its.toArray.size * k.toNat<=16000000:=by rw[aC,<- r.length];exact hz
 refine wpAny_binaryOp_repeat_ref (T := "tuple") (U := "int") (!2) ⟨_,ho,rfl⟩ (λs'=>typeIs_int s' k t) kj F.fills_int_mul F.slot_int_rmul n9 F.slot_int_index.lookup
  (call_meets F.slot_int_rmul (typeIs_int s k t) F.entry_int_rmul (F.args_int_rmul_2 _ _) (lM k t a its.toArray n dd sl)
   ⟨ho,rfl,⟨_,ho,rfl⟩,call_meets F.slot_tuple_mul ⟨_,ho,rfl⟩ F.entry_tuple_mul (F.args_tuple_mul_2 _ _) (tD a its.toArray n dd sl k t Ru h2 hk hsz) ⟨ho,?_⟩⟩)
 have DK:c6 (λx1 x2=>x1++x2) #[] (List.replicate k.toNat its.toArray)=(List.replicate k.toNat its).flatten.toArray:=by
  have:=foldl_rep its k.toNat [];rw[aI] at this;exact this
 rw[DK]
 have hlen:(List.replicate k.toNat xs).flatten.length<=aA:=by
  rw[vx,Nat.mul_comm,show aA=16777216 by decide];omega
 exact⟨.ref _,_,I.laid (t':=s.toks) (o:=.tup (List.replicate k.toNat xs).flatten) (λb o e=>ah _ e) (ao _) ⟨hlen,_,r.rep k.toNat,s9.new _ _⟩,rfl,q _ (I.hok.fresh (ao _))⟩
theorem dQ.at' {xs:List V}{us:List ag}{i:Nat}{u:ag}(r:dQ xs us)(h:us[i]? = some u):∃x,xs[i]? = some x/\RelV x u:=by
 have hi:i<us.length:=(aD.mp h).1;have w9:i<xs.length:=by rw[r.length];exact hi
 have e:xs[i]? = some xs[i]:=by simp[w9]
 obtain⟨w,hw,kF⟩:=r.get e;rw[h] at hw;cases hw;exact⟨_,e,kF⟩
end
section
variable {κ:Type}[DecidableEq κ]
noncomputable def gM (kvs:List (κ × V))(k:κ):Option V:=(kvs.find? λkv=>decide (kv.1=k)).map (·.2)
noncomputable def jj (kvs:List (κ × V))(k:κ)(v:V):List (κ × V) :=
 if (kvs.any λkv=>decide (kv.1=k))=true then kvs.map (λkv=>if kv.1=k then (kv.1,v) else kv) else kvs++[(k,v)]
theorem fE {p:κ × V}{r:List (κ × V)}{k:κ}(e:p.1=k):gM (p::r) k=some p.2:=by simp[gM,bD,e]
theorem fF {p:κ × V}{r:List (κ × V)}{k:κ}(e:¬ p.1=k):gM (p::r) k=gM r k:=by simp[gM,bD,e]
theorem oa (k:κ):∀kvs:List (κ × V),(kvs.any λkv=>decide (kv.1=k))=(gM kvs k).isSome
 | []=>rfl
 | p::r=>by
  rw[bR];by_cases e:p.1=k
  .simp only[fE e,decide_eq_true e,Bool.true_or,cP]
  .rw[fF e,decide_eq_false e,Bool.false_or];exact oa k r
theorem xh (k j:κ)(y:V):∀kvs:List (κ × V),gM (kvs.map λkv=>if kv.1=k then (kv.1,y) else kv) j=(gM kvs j).map λx=>if j=k then y else x
 | []=>rfl
 | p::r=>by
  have ih:=xh k j y r;rw[ak];by_cases h:p.1=k
  .rw[if_pos h]
   by_cases e:p.1=j
   .rw[fE (p:=(p.1,y)) e,fE e,bJ,if_pos (e.symm.trans h)]
   .rw[fF (p:=(p.1,y)) e,fF e,ih]
  .rw[if_neg h]
   by_cases e:p.1=j
   .rw[fE (p:=p) e,fE e,bJ,if_neg (λz=>h (e.trans z))]
   .rw[fF (p:=p) e,fF e,ih]
theorem uu (k j:κ)(y:V):∀kvs:List (κ × V),gM kvs k=none->gM (kvs++[(k,y)]) j=if j=k then some y else gM kvs j
 | [],_=>by
  by_cases e:k=j
  .rw[if_pos e.symm];exact fE (p:=(k,y)) e
  .rw[if_neg (λz=>e z.symm)];exact fF (p:=(k,y)) e
 | p::r,hn=>by
  rw[aV];have hk:¬ p.1=k:=λz=>by rw[fE z] at hn;cases hn
  rw[fF hk] at hn;have ih:=uu k j y r hn;by_cases e:p.1=j
  .rw[fE e,fE e,if_neg (λz=>hk (e.trans z))]
  .rw[fF e,fF e,ih]
theorem D6 (kvs:List (κ × V))(k j:κ)(y:V):gM (jj kvs k y) j=if j=k then some y else gM kvs j:=by
 unfold jj;by_cases a:(kvs.any λkv=>decide (kv.1=k))=true
 .rw[if_pos a,xh]
  rw[oa] at a;by_cases e:j=k
  .obtain⟨x,hx⟩:=bE.mp a
   rw[if_pos e,e,hx,bJ,if_pos rfl]
  .rw[if_neg e]
   cases gM kvs j with
   | none=>rfl
   | some x=>rw[bJ,if_neg e]
 .rw[if_neg a]
  refine uu k j y kvs ?_;rw[oa] at a
  cases q:gM kvs k with
  | none=>rfl
  | some x=>rw[q] at a;exact (a rfl).elim
theorem lN (kvs:List (κ × V))(k:κ)(v:V):(jj kvs k v).length<=kvs.length+1:=by
 unfold jj;split
 .rw[ar];omega
 .rw[aK,ap,aX];omega
theorem nU.kl (r:nU o u):o.isSome=u.isSome:=by
 cases o with
 | none=>cases u with
  | none=>rfl
  | some _=>exact (show False from r).elim
 | some _=>cases u with
  | none=>exact (show False from r).elim
  | some _=>rfl
theorem nU.getD (r:nU o u)(rd:RelV d d'):RelV (o.getD d) (u.getD d'):=by
 cases o with
 | none=>cases u with
  | none=>exact rd
  | some _=>exact (show False from r).elim
 | some _=>cases u with
  | none=>exact (show False from r).elim
  | some _=>exact r
theorem KV.val {kvs:List (κ × V)}{vs:List (κ × ag)}(r:KV kvs vs)(k:κ):nU (gM kvs k) (valueAt vs k):=by
 unfold KV at r
 induction r with
 | nil=>exact True.intro
 | @cons p q ps qs h t ih =>
  obtain⟨h1,h2⟩:=h;by_cases e:p.1=k
  .have e':q.1=k:=h1.symm.trans e
   have b:valueAt (q::qs) k=some q.2:=by simp[valueAt,bD,e']
   rw[fE e,b];exact h2
  .have e':¬ q.1=k:=λz=>e (h1.trans z)
   have b:valueAt (q::qs) k=valueAt qs k:=by simp[valueAt,bD,e']
   rw[fF e,b];exact ih
theorem KV.any (r:KV kvs vs)(k:κ):(kvs.any λkv=>decide (kv.1=k))=vs.any λkv=>decide (kv.1=k):=by
 unfold KV at r
 induction r with
 | nil=>rfl
 | cons h t ih=>rw[bR,bR,ih,h.1]
theorem KV.LM (r:KV kvs vs)(k:κ)(ry:RelV y u) :
  KV (kvs.map λkv=>if kv.1=k then (kv.1,y) else kv) (vs.map λkv=>if kv.1=k then (kv.1,u) else kv):=by
 unfold KV at r ⊢
 induction r with
 | nil=>exact .nil
 | @cons p q ps qs h t ih =>
  rw[ak,ak];refine .cons ?_ ih;obtain⟨h1,h2⟩:=h;by_cases e:p.1=k
  .rw[if_pos e,if_pos (h1.symm.trans e)];exact⟨h1,ry⟩
  .rw[if_neg e,if_neg (λz=>e (h1.trans z))];exact⟨h1,h2⟩
theorem KV.put (r:KV kvs vs)(k:κ)(ry:RelV y u):KV (jj kvs k y) (stored vs k u):=by
 unfold jj stored;rw[r.any k];by_cases e:(vs.any λkv=>decide (kv.1=k))=true
 .rw[if_pos e,if_pos e];exact r.LM k ry
 .rw[if_neg e,if_neg e];exact Paired.snoc r ⟨rfl,ry⟩
theorem KV.keys {kvs:List (κ × V)}{vs:List (κ × ag)}(r:KV kvs vs):kvs.map (·.1)=vs.map (·.1):=by
 unfold KV at r
 induction r with
 | nil=>rfl
 | cons h t ih=>rw[ak,ak,ih,h.1]
theorem KV.length (r:KV kvs vs):kvs.length=vs.length:=Paired.length r
end
theorem q8 (r:RelV (kV k) u):(dS P w).is k u=true:=by
 cases k with
 | inl i=>obtain⟨t,e⟩:=(show ∃t,u=ag.int i t from r);subst e;exact wF P w i t
 | inr x=>obtain⟨t,e⟩:=(show ∃t,u=ag.str x t from r);subst e;exact wG P w x t
theorem uw:∀{ks:List Key} {us:List ag},dQ (ks.map kV) us->ItemsAre (dS P w) ks us
 | [],_,r=>by rw[ba] at r;cases r;exact .nil
 | k::ks,_,r=>by
  rw[ak] at r
  cases r with
  | cons h t=>exact .cons (q8 h) (uw t)
noncomputable abbrev KT (H:Hp):List (List Key × V)->List (List Key × Addr × ag)->Prop:=Paired λp q=>p.1=q.1/\H q.2.1=some (.tup (p.1.map kV))/\RelV p.2 q.2.2
theorem KT.val {H:Hp}{kvs:List (List Key × V)}{xs:List (List Key × Addr × ag)}(r:KT H kvs xs)(k:List Key):nU (gM kvs k) ((atKey xs k).map (·.2)):=by
 induction r with
 | nil=>exact True.intro
 | @cons p q ps qs h t ih =>
  obtain⟨h1,_,h2⟩:=h;by_cases e:p.1=k
  .have e':q.1=k:=h1.symm.trans e
   have b:atKey (q::qs) k=some q.2:=by simp[atKey,bD,e']
   rw[fE e,b];exact h2
  .have e':¬ q.1=k:=λz=>e (h1.trans z)
   have b:atKey (q::qs) k=atKey qs k:=by simp[atKey,bD,e']
   rw[fF e,b];exact ih
theorem KT.LM (r:KT H kvs xs)(k:List Key)(ry:RelV y u) :
  KT H (kvs.map λkv=>if kv.1=k then (kv.1,y) else kv) (xs.map (putAt k u)):=by
 induction r with
 | nil=>exact .nil
 | @cons p q ps qs h t ih =>
  rw[ak,ak];refine .cons ?_ ih;obtain⟨h1,h2,h3⟩:=h;unfold putAt;by_cases e:p.1=k
  .rw[if_pos e,if_pos (h1.symm.trans e)];exact⟨h1,h2,ry⟩
  .rw[if_neg e,if_neg (λz=>e (h1.trans z))];exact⟨h1,h2,h3⟩
theorem KT.put (r:KT H kvs xs)(k:List Key)(hb:H b=some (.tup (k.map kV)))(ry:RelV y u) :
  KT H (jj kvs k y) (storedH xs k b u):=by
 have e:(kvs.any λkv=>decide (kv.1=k))=(atKey xs k).isSome:=by
  rw[oa,(r.val k).kl,Option.isSome_map]
 unfold jj storedH;rw[e];by_cases q:(atKey xs k).isSome=true
 .rw[if_pos q,if_pos q];exact r.LM k ry
 .rw[if_neg q,if_neg q];exact Paired.snoc r ⟨rfl,hb,ry⟩
theorem KT.keeps (r:KT H kvs xs)(ht:∀b ys,H b=some (.tup ys)->H' b=some (.tup ys)):KT H' kvs xs :=
 Paired.Ki r λ_ _ z=>⟨z.1,ht _ _ z.2.1,z.2.2⟩
section
theorem D7 (ok:lC P w H h)(e:Rd H a u):eX P w H h a u:=e.ok ok
theorem q9 (ok:lC P w H h)(e:Rd H a (.dK kvs)):kvs.length<=aA/\(a == sysModules)=false/\∃vs,KV kvs vs/\h.DictOf (dS P w) a vs :=
 show eX P w H h a (.dK kvs) from D7 ok e
theorem Jp (ok:lC P w H h)(e:H a=some (.dK kvs)):kvs.length<=aA/\(a == sysModules)=false/\∃vs,KV kvs vs/\h.DictOf (dS P w) a vs:=q9 ok (.inl e)
theorem ny {ks:List Key}(ok:lC P w H h)(e:H a=some (.tup (ks.map kV))):(tupleKind (dS P w)).is h ks a:=by
 obtain⟨_,its,r,o,h1,h2,n,h3,_⟩:=(show eX P w H h a (.tup (ks.map kV)) from ok a _ e);exact⟨o,its.toArray,n,h1,h2,h3,by simpa using uw r⟩
theorem rf (ok:lC P w H h)(e:Rd H a (.dT kvs)):kvs.length<=aA/\(a == sysModules)=false /\
  ∃xs,KT H kvs xs/\h.DictOfH (tupleKind (dS P w)) a xs:=by
 obtain⟨z,y,xs,r,o,es,ep,h1,h2,h3,h4,h5⟩:=(show eX P w H h a (.dT kvs) from D7 ok e);refine⟨z,y,xs,r,o,es,ep,h1,h2,h3,h4,λx hx=>?_,h5⟩
 have all:∀{l:List (List Key × V)} {m:List (List Key × Addr × ag)},KT H l m->∀x∈m,(tupleKind (dS P w)).is h x.1 x.2.1:=by
  intro l m q
  induction q with
  | nil=>intro x hx;exact nomatch hx
  | @cons p q ps qs hq t ih =>
   intro x hx;rcases au.mp hx with e | hx
   .subst e
    exact ny ok (by rw[<- hq.1];exact hq.2.1)
   .exact ih x hx
 exact all r x hx
theorem Jq (ok:lC P w H h)(e:H a=some (.dT kvs)):kvs.length<=aA/\(a == sysModules)=false /\
  ∃xs,KT H kvs xs/\h.DictOfH (tupleKind (dS P w)) a xs:=rf ok (.inl e)
end
noncomputable def iO (H:Hp)(a:Addr)(y:V)(r:Option V):Prop :=
 (∃kvs k,Rd H a (.dK kvs)/\y=kV k/\r=gM kvs k)\/∃kvs k b,Rd H a (.dT kvs)/\y=.ref b/\H b=some (.tup (k.map kV))/\r=gM kvs k
noncomputable def pZ (H:Hp)(a:Addr)(y v:V)(H':Hp):Prop :=
 (∃kvs k,H a=some (.dK kvs)/\y=kV k/\kvs.length<aA/\H'=d3 H a (.dK (jj kvs k v))) \/
 ∃kvs k b,H a=some (.dT kvs)/\y=.ref b/\H b=some (.tup (k.map kV))/\kvs.length<aA/\H'=d3 H a (.dT (jj kvs k v))
theorem iO.k {H:Hp}{a:Addr}{kvs:List (Key × V)}{k:Key}(e:H a=some (.dK kvs)):iO H a (kV k) (gM kvs k):=.inl ⟨kvs,k,.inl e,rfl,rfl⟩
theorem iO.t {H:Hp}{a b:Addr}{kvs:List (List Key × V)}{k:List Key}(e:H a=some (.dT kvs))(eb:H b=some (.tup (k.map kV))):iO H a (.ref b) (gM kvs k):=.inr ⟨kvs,k,b,.inl e,rfl,eb,rfl⟩
theorem pZ.k {H:Hp}{a:Addr}{kvs:List (Key × V)}{k:Key}{v:V}(e:H a=some (.dK kvs))(hl:kvs.length<aA):pZ H a (kV k) v (d3 H a (.dK (jj kvs k v))):=.inl ⟨kvs,k,e,rfl,hl,rfl⟩
theorem pZ.t {H:Hp}{a b:Addr}{kvs:List (List Key × V)}{k:List Key}{v:V}(e:H a=some (.dT kvs))(eb:H b=some (.tup (k.map kV)))(hl:kvs.length<aA) :
  pZ H a (.ref b) v (d3 H a (.dT (jj kvs k v))):=.inr ⟨kvs,k,b,e,rfl,eb,hl,rfl⟩
section
theorem Inv.big (I:Inv X pins σ H s):sysModules<s.heap.objs.size:=by
 have h:be<s.heap.objs.size:=(I.mod.glob.keeps I.bk).lt;exact c7 (!2) h
theorem Cd {Q:ag->aw->Prop}(hu:A.units+1<cLine)(I:Inv X pins σ H s)(g:iO H a y (some v))(ry:RelV y u)(h:∀w' s',Inv X pins σ H s'->RelV v w'->Q w' s') :
  aE (model X.prog X.w) A (getItem (.ref a) u) Q E s:=by
 rcases g with⟨kvs,k,e,ey,l⟩ | ⟨kvs,k,b,e,ey,eb,l⟩
 .subst ey
  obtain⟨z,hd,vs,lj,dd⟩:=q9 I.hok e;obtain⟨w',hw,kF⟩:=nU.some_of (v:=v) (o:=valueAt vs k) (by rw[l];exact lj.val k);exact wpAny_getItem_of (q8 ry) dd.mapOf hw (h w' _ (I.tok _) kF)
 .subst ey
  cases (show u=ag.ref b from ry);obtain⟨z,hd,xs,lj,dd⟩:=rf I.hok e;obtain⟨w',hw,kF⟩:=nU.some_of (v:=v) (o:=(atKey xs k).map (·.2)) (by rw[l];exact lj.val k);obtain⟨p,hp,F4⟩:=cj.mp hw;refine wpAny_getItem_heap (tupleKind_room_in1 hu) (ny I.hok eb) dd hp ?_;rw[F4];exact h w' _ (I.tok _) kF
theorem Rv {Q:ag->aw->Prop}(hu:A.units+1<cLine)(I:Inv X pins σ H s)(g:iO H a y o)(ry:RelV y u)(h:∀s',Inv X pins σ H s'->Q (.bool o.isSome) s') :
  aE (model X.prog X.w) A (compareOp .In u (.ref a)) Q E s:=by
 rcases g with⟨kvs,k,e,ey,l⟩ | ⟨kvs,k,b,e,ey,eb,l⟩
 .subst ey
  obtain⟨z,hd,vs,lj,dd⟩:=q9 I.hok e;refine wpAny_in_of (q8 ry) hd dd.mapOf ?_;rw[<- (lj.val k).kl,<- l];exact h _ (I.tok _)
 .subst ey
  cases (show u=ag.ref b from ry);obtain⟨z,hd,xs,lj,dd⟩:=rf I.hok e;refine wpAny_in_heap (tupleKind_room_in1 hu) (ny I.hok eb) hd dd ?_;have q:=(lj.val k).kl;rw[Option.isSome_map] at q;rw[<- q,<- l];exact h _ (I.tok _)
theorem Hh (hu:A.units+1<cLine)(I:Inv X pins σ H s)(g:iO H a y o)(ry:RelV y u)(h:∀s',Inv X pins σ H s'->Q (.bool (!o.isSome)) s') :
  aE (model X.prog X.w) A (compareOp .NotIn u (.ref a)) Q E s:=by
 rcases g with⟨kvs,k,e,ey,l⟩ | ⟨kvs,k,b,e,ey,eb,l⟩
 .subst ey
  obtain⟨z,hd,vs,lj,dd⟩:=q9 I.hok e;refine wpAny_notIn_of (q8 ry) hd dd.mapOf ?_;rw[<- (lj.val k).kl,<- l];exact h _ (I.tok _)
 .subst ey
  cases (show u=ag.ref b from ry);obtain⟨z,hd,xs,lj,dd⟩:=rf I.hok e;refine wpAny_notIn_heap (tupleKind_room_in1 hu) (ny I.hok eb) hd dd ?_;have q:=(lj.val k).kl;rw[Option.isSome_map] at q;rw[<- q,<- l];exact h _ (I.tok _)
theorem qx {h':Heap}{t':Nat}{ob:HO}(I:Inv X pins σ H s)(mu:Nh (H a))(hs:Heap.SameBut a s.heap h')(he:∃q,h'.get? a=some q)(new:eX X.prog X.w (d3 H a ob) h' a ob) :
  Inv X pins σ (d3 H a ob) { s with heap:=h',toks:=t' } :=
 I.write (x:=a) (e:=a) mu (.inl rfl) (λb q hb z=>(hs.2 b hb).trans z) he new
theorem D8 (z:kvs.length<=aA)(hd:(a == sysModules)=false)(lj:KV kvs vs)(dd:h'.DictOf (dS P w) a vs) :
  eX P w H' h' a (.dK kvs):=⟨z,hd,vs,lj,dd⟩
theorem Ce {H':Hp}{Q:Unit->aw->Prop}(hu:A.units+1<cLine)(I:Inv X pins σ H s)(g:pZ H a y v H')(ry:RelV y u)(rv:RelV v r)(h:∀s',Inv X pins σ H' s'->Q () s') :
  aE (model X.prog X.w) A (setItem (.ref a) u r) Q E s:=by
 rcases g with⟨kvs,k,e,ey,l,eH⟩ | ⟨kvs,k,b,e,ey,eb,l,eH⟩
 .subst ey eH
  obtain⟨z,hd,vs,lj,dd⟩:=Jp I.hok e;have hz:vs.length<=aA:=by rw[<- lj.length];exact z
  have hl:(jj kvs k v).length<=aA:=by have:=lN kvs k v;omega
  refine wpAny_setItem_pairs (hsz:=hz) (q8 ry) dd λh' Hi hs=>h _ ?_;have he:∃q,h'.get? a=some q:=let ⟨q,_,_,hq,_⟩:=Hi;⟨q,hq⟩;exact qx I (by rw[e];exact True.intro) hs he (D8 hl hd (lj.put k rv) Hi)
 .subst ey eH
  cases (show u=ag.ref b from ry);obtain⟨z,hd,xs,lj,dd⟩:=Jq I.hok e;have hz:xs.length<=aA:=by rw[<- Paired.length lj];exact z
  have hl:(jj kvs k v).length<=aA:=by have:=lN kvs k v;omega
  refine wpAny_setItem_heap (hsz:=hz) (tupleKind_room_in1 hu) (ny I.hok eb) dd λh' Hi hs=>h _ ?_;obtain⟨q,es,ep,hq,h2,h3,h4,_,h5⟩:=Hi;refine qx I (by rw[e];exact True.intro) hs ⟨q,hq⟩ ⟨hl,hd,_,(lj.put k eb rv).keeps λc ys ec=>?_,q,es,ep,hq,h2,h3,h4,h5⟩;rw[dC (Ng ec e (λz=>nomatch z))];exact ec
end
noncomputable def Cf (i:Expr):Prop:=∀ov iv,subscripted i false ov iv=operate [ov,iv] (getItem ov iv)
theorem Hj {prog:a5}{w:World}{A:Around}{E:ag->aw->Prop}{s:aw}{env:Env}{value slice:Expr}{pos:Pos}{T id:String}{Q:ag->aw->Prop}
  (hl:typeLookup (.type T) "__getitem__" = pure (some (.builtin id))) (hs:Cf slice)
  (h:aE (model prog w) A (eval value env) (λo s₁=>aE (model prog w) A (eval slice env) (λi s₂=>s₂.TypeIs o T/\aE (model prog w) A (getItem o i) Q E s₂) E s₁) E s) :
  aE (model prog w) A (eval (.Subscript value slice pos) env) Q E s:=by
 refine Subscript_ (bS h (λo s₁ h₁=>bS h₁ (λi s₂ h₂=>?_) λ_ _ x=>x) λ_ _ x=>x);obtain⟨hT,h₂⟩:=h₂;unfold subscriptTail;refine ae ?_;rw[getitemInPython_of_ne hT.not_modules];refine ae (wpAny_specialOf hT hl ?_)
 have fin:aE (model prog w) A (subscripted slice false o i) (λr s₃=>aE (model prog w) A (letTemporaryGo value o r >>= λ_=>pure r) Q E s₃) E s₂:=by
  rw[hs o i];exact wpAny_operating (bS h₂ (λr s₃ h₃=>ae (wpAny_letTemporaryGo (aj h₃))) λ_ _ x=>x)
 first
  | exact aj (ae fin)
  | exact ae (aj (ae fin))
  | exact ae fin
theorem xj (I:Inv X pins σ H s)(g:iO H a y o):s.TypeIs (.ref a) "dict" := by
 rcases g with⟨kvs,k,e,_,_⟩ | ⟨kvs,k,b,e,_,_,_⟩
 .obtain⟨_,_,vs,_,dd⟩:=q9 I.hok e
  exact dd.typeIs
 .obtain⟨_,_,xs,_,dd⟩:=rf I.hok e
  exact dd.typeIs
noncomputable def Jr (td ty:TE):TE:=λσ H Q=>td σ H λx H1=>ty σ H1 λy H2=>∃a v,x=.ref a/\iO H2 a y (some v)/\Q v H2
noncomputable def Rw (ty td:TE):TE:=λσ H Q=>ty σ H λy H1=>td σ H1 λx H2=>∃a o,x=.ref a/\iO H2 a y o/\Q (.bl o.isSome) H2
noncomputable def Hk (ty td:TE):TE:=λσ H Q=>ty σ H λy H1=>td σ H1 λx H2=>∃a o,x=.ref a/\iO H2 a y o/\Q (.bl (!o.isSome)) H2
noncomputable def Js (td ty tv:TE):TS:=λD σ H=>tv σ H λv H1=>td σ H1 λx H2=>ty σ H2 λy H3=>∃a H4,x=.ref a/\pZ H3 a y v H4/\D.nx σ H4
section
theorem Hl (hu:X.A.units+1<cLine)(ho:PE X o td)(hi:PE X i ty)(hs:Cf i):PE X (.Subscript o i pos) (Jr td ty):=by
 intro pins s σ H Q I h;refine Hj PySem.F.slot_dict_getitem.lookup hs (fc (ho pins s σ H _ I h) λu s1 ⟨x,H1,I1,rx,q1⟩=>fc (hi pins s1 σ H1 _ I1 q1) λiv s2 ⟨y,H2,I2,ry,a,v,ex,g,q2⟩=>?_);subst ex;obtain rfl:u=ag.ref a:=rx;exact⟨xj I2 g,Cd hu I2 g ry λw' s3 I3 kF=>⟨v,H2,I3,kF,q2⟩⟩
theorem D9 (hu:X.A.units+1<cLine)(hi:PE X i ty)(ho:PE X o td):PC X .In i o (Rw ty td):=by
 intro pins s σ H Q I h;refine fc (hi pins s σ H _ I h) λiv s1 ⟨y,H1,I1,ry,q1⟩=>fc (ho pins s1 σ H1 _ I1 q1) λu s2 ⟨x,H2,I2,rx,a,ov,ex,g,q2⟩=>?_;subst ex;obtain rfl:u=ag.ref a:=rx;exact Rv hu I2 g ry λs3 I3=>⟨.bl ov.isSome,H2,I3,rfl,q2⟩
theorem oX (hu:X.A.units+1<cLine)(hi:PE X i ty)(ho:PE X o td):PC X .NotIn i o (Hk ty td):=by
 intro pins s σ H Q I h;refine fc (hi pins s σ H _ I h) λiv s1 ⟨y,H1,I1,ry,q1⟩=>fc (ho pins s1 σ H1 _ I1 q1) λu s2 ⟨x,H2,I2,rx,a,ov,ex,g,q2⟩=>?_;subst ex;obtain rfl:u=ag.ref a:=rx;exact Hh hu I2 g ry λs3 I3=>⟨.bl (!ov.isSome),H2,I3,rfl,q2⟩
theorem Hm (hu:X.A.units+1<cLine)(ho:PE X o td)(hi:PE X i ty)(hv:PE X value tv)(hs:swapsWith value (some (.Subscript o i fZ)) pos.line X.env=pure false) :
  PS X (.Assign [.Subscript o i fZ] value pos) (Js td ty tv):=by
 intro pins s σ H D I h;refine wpAny_Assign_Subscript (fc (hv pins s σ H _ I h) λr s1 ⟨v,H1,I1,rv,q1⟩=>fc (ho pins s1 σ H1 _ I1 q1) λu s2 ⟨x,H2,I2,rx,q2⟩=>fc (hi pins s2 σ H2 _ I2 q2) λiv s3 ⟨y,H3,I3,ry,a,H4,ex,g,q3⟩=>?_) hs;subst ex;obtain rfl:u=ag.ref a:=rx;exact Ce hu I3 g ry rv λs4 I4=>⟨σ,H4,I4,q3⟩
end
theorem xk (h:Heap)(hb:sysModules<h.objs.size):eX P w H (h.push { cls:=.type "dict",data:=.dict #[] }) h.objs.size (.dK []) :=
 ⟨bL _,beq_eq_false_iff_ne.mpr (Ne.symm (aT hb)),[],.nil,Heap.DictOf.new h⟩
theorem D' (h:Heap)(hb:sysModules<h.objs.size):eX P w H (h.push { cls:=.type "dict",data:=.dict #[] }) h.objs.size (.dT []) :=
 ⟨bL _,beq_eq_false_iff_ne.mpr (Ne.symm (aT hb)),[],.nil,_,#[],0,ax _ rfl,⟨rfl,rfl,rfl⟩,rfl,rfl,ca⟩
noncomputable def Ea:TE:=λ_ H Q=>∀p,H p=none->Q (.ref p) (d3 H p (.dK []))
section
theorem Eb:PE X (.Dict [] [] pos) Ea:=λpins s σ H Q I h =>
 wpAny_Dict_empty ⟨.ref s.heap.objs.size,_,I.laid (a:=s.heap.objs.size) (o:=.dK []) (t':=s.toks) (λ_ _ q=>ah _ q) (ao _) (xk s.heap I.big),rfl,h _ (I.hok.fresh (ao _))⟩
end
noncomputable def zB:List (TE × TE)->St->Hp->(List (V × V)->Hp->Prop)->Prop
 | [],_,H,Q=>Q [] H
 | (tk,tv)::r,σ,H,Q=>tk σ H λx H1=>tv σ H1 λy H2=>zB r σ H2 λps H3=>Q ((x,y)::ps) H3
noncomputable abbrev VV:List (V × V)->List (ag × ag)->Prop:=Paired λp q=>RelV p.1 q.1/\RelV p.2 q.2
noncomputable def Qg (X:Cx)(pos:Pos)(keys:List (Option Expr))(values:List Expr)(LN:List (TE × TE)):Prop :=
 ∀(pins:List (Addr × Obj)) (s:aw) (σ:St) (H:Hp) (Q:List (V × V)->Hp->Prop),Inv X pins σ H s->zB LN σ H Q ->
  aE (model X.prog X.w) X.A (evalPairs (pairTrees keys values X.env pos)) (λvs s'=>∃ps H',Inv X pins σ H' s'/\VV ps vs/\Q ps H') X.xe s
theorem Hn:Qg X pos [] [] []:=λpins s σ H Q I h=>pairTrees_nil_walk ⟨[],H,I,.nil,h⟩
theorem Ec (hk:PE X k tk)(hv:PE X v tv)(hr:Qg X pos ks vs LN) :
  Qg X pos (some k::ks) (v::vs) ((tk,tv)::LN):=λpins s σ H Q I h =>
 pairTrees_cons_walk (fc (hk pins s σ H _ I h) λu s1 ⟨x,H1,I1,rx,q1⟩=>fc (hv pins s1 σ H1 _ I1 q1) λw2 s2 ⟨y,H2,I2,ry,q2⟩ =>
  fc (hr pins s2 σ H2 _ I2 q2) λws s3 ⟨ps,H3,I3,lj,q3⟩=>⟨(x,y)::ps,H3,I3,.cons ⟨rx,ry⟩ lj,q3⟩)
noncomputable def rh (kvs more:List (Key × V)):List (Key × V):=more.foldl (λacc kv=>jj acc kv.1 kv.2) kvs
theorem KV.merge:∀{more:List (Key × V)} {rs:List (Key × ag)} {kvs:List (Key × V)} {vs:List (Key × ag)},KV more rs->KV kvs vs->KV (rh kvs more) (merged vs rs):=by
 intro more rs kvs vs r;unfold KV at r
 induction r generalizing kvs vs with
 | nil=>intro q;exact q
 | @cons p q ps qs h t ih =>
  intro r0
  have e:KV (jj kvs p.1 p.2) (stored vs q.1 q.2):=by
   have:=r0.put p.1 h.2;rw[<- h.1];exact this
  exact ih e
theorem nc:∀(more kvs:List (Key × V)),(rh kvs more).length<=kvs.length+more.length
 | [],kvs=>by show kvs.length<=kvs.length+0;omega
 | p::r,kvs=>by
  have h1:=nc r (jj kvs p.1 p.2);have h2:=lN kvs p.1 p.2;show (rh (jj kvs p.1 p.2) r).length<=_;rw[ap];omega
theorem rj:∀{kvs:List (Key × V)} {ws:List (ag × ag)},VV (kvs.map λkv=>(kV kv.1,kv.2)) ws->∃rs,Carries (dS P w) ws rs/\KV kvs rs
 | [],_,r=>by rw[ba] at r;cases r;exact⟨[],True.intro,.nil⟩
 | p::kvs,_,r=>by
  rw[ak] at r
  cases r with
  | @cons a b as bs h t =>
   obtain⟨rs,c,q⟩:=rj (P:=P) (w:=w) t;obtain⟨b1,b2⟩:=b;exact⟨(p.1,b2)::rs,⟨q8 h.1,rfl,c⟩,.cons ⟨rfl,h.2⟩ q⟩
noncomputable def OI (LN:List (TE × TE)):TE:=λσ H Q=>∀p,H p=none->zB LN σ (d3 H p (.dK [])) λps H2=>H2 p=some (.dK [])/\∃kvs:List (Key × V),ps=kvs.map (λkv=>(kV kv.1,kv.2))/\kvs.length<=15/\Q (.ref p) (d3 H2 p (.dK (rh [] kvs)))
theorem Ho (h:Qg X pos keys values LN)(qV:keys.all (·.isSome)=true)(hl:keys.length=values.length)(h0:keys≠[])
  (Vb:keys.length<=15):PE X (.Dict keys values pos) (OI LN):=by
 intro pins s σ H Q I q;have hn:=I.hok.fresh (ao s.heap.objs.size);have I1:=I.laid (a:=s.heap.objs.size) (o:=.dK []) (h':=s.heap.push { cls:=.type "dict",data:=.dict #[] }) (t':=s.toks) (λ_ _ q=>ah _ q) (ao _) (xk s.heap I.big);refine wpAny_Dict_walk (knd:=dS X.prog X.w) qV hl h0 Vb (fc (h pins _ σ _ _ I1 (q _ hn)) λws s2 ⟨ps,H2,I2,lj,e,kvs,ep,lk,q2⟩=>?_);subst ep;obtain⟨rs,c,rk⟩:=rj (P:=X.prog) (w:=X.w) lj;obtain⟨z,hd,OJ,r0,dd⟩:=Jp I2.hok e;cases r0;refine⟨rs,c,dd,λh' Hi hs=>⟨.ref s.heap.objs.size,_,?_,rfl,q2⟩⟩
 have hz:(rh [] kvs).length<=aA:=by
  have h1:=nc kvs [];rw[aX] at h1;rw[sizeLine_eq];omega
 have he:∃q,h'.get? s.heap.objs.size=some q:=let ⟨q,_,_,hq,_⟩:=Hi;⟨q,hq⟩;exact qx I2 (by rw[e];exact True.intro) hs he (D8 hz hd (rk.merge .nil) Hi)
structure M2 (X:Cx) (o:Expr) (m:Str) (kG:Pos) (e f:Expr) (hZ:Pos):Prop where
 base:attributeBase o m X.env (eval o X.env)=eval o X.env
 Rx:((backTo hZ (starEach [e,f] X.env)).all (λx=>!x.1) && (backToKw hZ (keywordEach [] X.env)).all (λx=>x.1.isSome)
  && decide (([e,f]:List Expr).length+([]:List Keyword).length+(if ([]:List Keyword).isEmpty then 0 else 1)<30))=true
 line:(kG.endLine == hZ.line)=true
 trees:backTo hZ (starEach [e,f] X.env)=[(false,eval e X.env),(false,eval f X.env)]
noncomputable def TK (H:Hp)(a:Addr):Prop:=(∃kvs,Rd H a (.dK kvs))\/∃kvs,Rd H a (.dT kvs)
theorem LO (I:Inv X pins σ H s)(d:TK H a) :
  s.TypeIs (.ref a) "dict" /\ (∀b,ag.ref a=.ref b->∃ob,s.heap.get? b=some ob/\ob.dict=none)/\(a == sysModules)=false:=by
 rcases d with⟨kvs,e⟩ | ⟨kvs,e⟩
 .obtain⟨_,hd,vs,_,dd⟩:=q9 I.hok e
  refine⟨dd.typeIs,λb q=>?_,hd⟩;cases q;obtain⟨ob,_,_,h1,h2,_⟩:=dd;exact⟨ob,h1,h2.2.1⟩
 .obtain⟨_,hd,xs,_,dd⟩:=rf I.hok e
  refine⟨dd.typeIs,λb q=>?_,hd⟩;cases q;obtain⟨ob,_,_,h1,h2,_⟩:=dd;exact⟨ob,h1,h2.2.1⟩
section
theorem LP {Q:ag->aw->Prop}(hu:A.units+1<cLine)(I:Inv X pins σ H s)(g:iO H a y o)(ry:RelV y u)(rd:RelV d r)(h:∀w' s',Inv X pins σ H s'->RelV (o.getD d) w'->Q w' s') :
  aE (model X.prog X.w) A (call (.builtin "dict.get") [.ref a,u,r]) Q E s:=by
 rcases g with⟨kvs,k,e,ey,l⟩ | ⟨kvs,k,b,e,ey,eb,l⟩
 .subst ey
  obtain⟨z,hd,vs,lj,dd⟩:=q9 I.hok e;refine call_meetsIn PySem.F.slot_dict_get dd.typeIs PySem.F.entry_dict_get (PySem.F.args_dict_get_3 _ _ _) (meets_dict_get_default (dS X.prog X.w) a (q8 ry) hd r) ⟨_,dd.mapOf,h _ _ (I.tok _) ?_⟩;rw[l];exact (lj.val k).getD rd
 .subst ey
  cases (show u=ag.ref b from ry);obtain⟨z,hd,xs,lj,dd⟩:=rf I.hok e;refine call_meetsIn PySem.F.slot_dict_get dd.typeIs PySem.F.entry_dict_get (PySem.F.args_dict_get_3 _ _ _) (meetsH_dict_get_default (tupleKind (dS X.prog X.w)) a b hd r) ⟨tupleKind_room_in1 hu,k,xs,ny I.hok eb,dd,h _ _ (I.tok _) ?_⟩;rw[l];exact (lj.val k).getD rd
end
noncomputable def Ed (td ty tx:TE):TE:=λσ H Q=>td σ H λx H1=>∃a,x=.ref a/\TK H1 a/\ty σ H1 λy H2=>tx σ H2 λz H3=>∃o,iO H3 a y o/\Q (o.getD z) H3
section
theorem Ee (hu:X.A.units+1<cLine)(ho:PE X o td)(he:PE X e ty)(hf:PE X f tx)(m:M2 X o "get" kG e f hZ):PE X (.Call (.Attribute o "get" kG) [e,f] [] hZ) (Ed td ty tx):=by
 intro pins s σ H Q I h;refine wpAny_Call_method m.base m.Rx m.line PySem.F.plainAttrs_dict PySem.F.slot_dict_get PySem.F.type_dict_get (fc (ho pins s σ H _ I h) λu s1 ⟨x,H1,I1,rx,a,ex,d,q1⟩=>?_);subst ex;obtain rfl:u=ag.ref a:=rx;obtain⟨t1,t2,_⟩:=LO I1 d;refine⟨t1,t2,?_⟩;rw[m.trees]
 refine Calls.callWith_builtin rfl (Calls.evalArgs_plain (Calls.spliced_cons (fc (he pins s1 σ H1 _ I1 q1) λiv s2 ⟨y,H2,I2,ry,q2⟩ =>
  Calls.spliced_cons (fc (hf pins s2 σ H2 _ I2 q2) λfv s3 ⟨z,H3,I3,rz,ov,g,q3⟩=>Calls.spliced_nil ?_))))
 exact LP hu I3 g ry rz λw' s4 I4 kF=>⟨_,H3,I4,kF,q3⟩
end
end L2
namespace PySem
open Sem (wp)
open AutoSeq1 (wpAny_loadPart')
theorem p6 (l b:Addr)(xs ys:Array ag)(n n2:Nat)(dd:Option Addr)(sl:Array (Option ag))(h0:¬ (!xs.isEmpty && Builtin.List.listTooLong (xs.size+ys.size))=true)(h1:xs.size<=aA)(h2:(xs++ys).size<=aA+1) :
  Meets (Builtin.«list.extend» ⟨[.ref l,.ref b],[]⟩) (λ_ R s=>s.heap.get? l=some { cls:=.type "list",dict:=none,data:=.seq xs n,slots:=#[] }/\s.heap.get? b=some { cls:=.type "tuple",dict:=dd,data:=.seq ys n2,slots:=sl } /\
   R (.ok (.ret ag.none)) { s with heap:=s.heap.update l (Obj.mapSeq λx=>x++ys),toks:=s.toks }) :=
 .of_wp λprog w A R s h=>by
  obtain⟨hp,g,d,tk,os⟩:=s;obtain⟨hl,hb,h⟩:=h;have f1:=AutoSeq1.idx_int
  wp_walk using (wpAny_updateSeq hl rfl (hz:=h1) (_hz':=h2)),wpAny_loadPart' hl,wpAny_loadPart' hb
  exact⟨_,rfl,h⟩
end PySem
namespace L2
open PySem PySem.Spec PyProof.Rows
section
variable {X:Cx}{o i e f value:Expr}{td ty tv tx to ti te:TE}{pos fZ kG hZ:Pos}
theorem xl:QE X (.Dict [] [] pos) Ea:=⟨Eb⟩
theorem mI (hu:X.A.units+1<cLine)(ho:QE X o td)(hi:QE X i ty)(hs:Cf i):QE X (.Subscript o i pos) (Jr td ty):=⟨Hl hu ho.run hi.run hs⟩
theorem xm (hu:X.A.units+1<cLine)(ho:QE X o td)(he:QE X e ty)(hf:QE X f tx)(m:M2 X o "get" kG e f hZ):QE X (.Call (.Attribute o "get" kG) [e,f] [] hZ) (Ed td ty tx):=⟨Ee hu ho.run he.run hf.run m⟩
theorem qy (hu:X.A.units+1<cLine)(ho:QE X o td)(hi:QE X i ty)(hv:QE X value tv)(hs:swapsWith value (some (.Subscript o i fZ)) pos.line X.env=pure false:=by rfl):QS X (.Assign [.Subscript o i fZ] value pos) (Js td ty tv):=⟨Hm hu ho.run hi.run hv.run hs⟩
noncomputable def Ef (K:W.Frag):V->List V->Hp->VK->Prop:=λx vs H Q=>∃l b xs zs,x=.ref l/\vs=[.ref b]/\H l=some (.lst xs)/\gZ K H b zs/\xs.length+zs.length<=aA/\Q .gJ (d3 H l (.lst (xs++zs)))
theorem zC (K:W.Frag)(h:X.K=K:=by rfl):Q2 X "list.extend" (Ef K):=by
 subst h;intro pins s σ H x vs v us Q I rx rv h;obtain⟨l,b,xs,zs,rfl,rfl,hH,hB,hz,q⟩:=h;cases rx;obtain⟨u,rfl,ru⟩:=rv.one;cases ru;obtain⟨z,its,n,r,hl,e⟩:=I.zm hH;obtain⟨mV,r2,ht,wC⟩:=I.tuple hB;obtain⟨⟨cls,dd,data,sl⟩,ho,hc,n2,hd⟩:=id ht;simp only at hc hd;subst hc hd;have e1:=r2.length;have hsz:its.toArray.size+mV.toArray.size<=aA:=by rw[aC,aC];omega
 have wX:¬ (!its.toArray.isEmpty && Builtin.List.listTooLong (its.toArray.size+mV.toArray.size))=true:=λz=>by
  rw[qU hsz,Bool.and_false] at z;cases z
 have ng:(its.toArray++mV.toArray).size<=aA+1:=by rw[Array.size_append];omega
 refine call_meets F.slot_list_extend ⟨_,e,rfl⟩ F.entry_list_extend (F.args_list_extend_2 _ _) (p6 l b its.toArray mV.toArray n n2 dd sl wX (!1) ng) ⟨e,ho,?_⟩;exact⟨.gJ,_,I.Lo (its':=its++mV) hH e (!4) (r.append r2) (by rw[aK];exact hz),rfl,q⟩
theorem IntsAre.og:∀{ns:List Int} {us:List ag},dQ (ns.map V.int) us->IntsAre us ns
 | [],us,h=>by cases h;exact .nil
 | n::ns,us,h=>by
  cases h with
  | cons r t =>
   obtain⟨tk,rfl⟩:=r;exact .cons n tk (IntsAre.og t)
theorem dQ.qz:∀{ns:List Int} {us:List ag},IntsAre us ns->dQ (ns.map V.int) us
 | _,_,.nil=>.nil
 | _,_,.cons n t r=>.cons ⟨t,rfl⟩ (dQ.qz r)
theorem iF (ns:List Int):∀j,j<=ns.length->preSum (λa=>ns.getD a 0) j=(ns.take j).sum
 | 0,_=>by simp[preSum]
 | j+1,h=>by
  rw[preSum,iF ns j (!1),cB,List.sum_append];have:ns[j]? = some ns[j]:=by simp
  rw[az,this];simp
theorem kK (K:W.Frag)(hk:X.K=K:=by rfl):ff X (.builtin "sorted") (λxs H Q=>∃(p:Addr) (ns:List Int),xs=[.ref p]/\fU K H p (ns.map V.int)/\ns.length<64/\∀(l:Addr) (ms:List Int),ms.Perm ns->ms.Pairwise (·<=·)->H l=none->Q (.ref l) (d3 H l (.lst (ms.map V.int)))):=by
 subst hk;intro pins s σ H xs us Q I r h;obtain⟨p,ns,rfl,hp,M6,q⟩:=h;obtain⟨u,rfl,ru⟩:=vals1 r;cases ru;obtain⟨its,rv,ht,hz⟩:=I.list hp;have hl:=rv.length;rw[ar] at hl;refine sorted_ints ht.isList (IntsAre.og rv) (!1) λout ms h1 h2 h3=>?_;have hm:=h2.length_eq;have hv:dQ (ms.map V.int) out.toList:=dQ.qz h1;have hsz:(ms.map V.int).length<=aA:=by rw[ar,show aA=16777216 by decide];omega
 have kp:∀b o,s.heap.get? b=some o->(sortedAll s.heap its out).get? b=some o:=λb o e=>sortedAll_old e;have nw:=sortedAll_at s.heap its out;obtain⟨n,nw⟩:=nw;refine⟨.ref (s.heap.objs.size+1),_,I.laid (t':=s.toks) (o:=.lst (ms.map V.int)) kp (cH _) ⟨hsz,out.toList,n,hv,by simpa using nw⟩,rfl,q _ ms h2 h3 (I.hok.fresh (cH _))⟩
end
noncomputable def OK (o:Obj)(a:Addr)(kvs:List (Key × V)):It :=
 ⟨λi H=>H a=some (.nj o (.dK kvs))/\i<kvs.length,λi H x H'=>H'=H/\∃k v,kvs[i]? = some (k,v)/\x=kV k,λi H=>H a=some (.nj o (.dK kvs))/\kvs.length<=i⟩
theorem Hq (h:(dS P w).is k u=true):RelV (kV k) u:=by
 rcases eV (show qL k u=true from h) with⟨i,t,rfl,rfl⟩ | ⟨x,t,rfl,rfl⟩
 .exact⟨t,rfl⟩
 .exact⟨t,rfl⟩
theorem Eg (I:Inv X pins σ H s)(h:H a=some (.nj o (.dK kvs)))(hd:o.data=.dict es ep) :
  (a == sysModules)=false/\∃vs,KV kvs vs/\s.heap.DictAt (dS X.prog X.w) a vs ep:=by
 obtain⟨e,z,y,vs,r,ob,g8,Kn,e',c,d,k,p,n⟩:=I.hok a _ h;rw[e] at e';cases e';rw[hd] at d;cases d;exact⟨y,vs,r,o,es,e,c,hd,k,p,n⟩
theorem OL {kvs:List (Key × V)}{vs:List (Key × ag)}(r:KV kvs vs){i:Nat}{k:Key}{v:V}(h:kvs[i]? = some (k,v)):∃u,vs[i]? = some (k,u):=by
 have hk:=r.keys;have hl:=r.length;have hi:i<kvs.length:=(aD.mp h).1;have w9:i<vs.length:=by omega
 have e1:(kvs.map (·.1))[i]? = some k:=by rw[aB,h];rfl
 have e2:vs[i]? = some vs[i]:=by simp[w9]
 rw[hk,aB,e2] at e1;have e3:vs[i].1=k:=Option.some.inj e1;refine⟨vs[i].2,?_⟩;rw[e2,<- e3]
theorem Cg {P:a5}{w:World}{K:W.Frag}{tg:Expr}(a it:Addr){o:Obj}{kvs:List (Key × V)}{es:Array DictEntry}{ep:Nat}(hd:o.data=.dict es ep):wQ P w K tg (OK o a kvs) [it] it (λi h=>h.IsKeyIter it a i kvs.length ep) where
 mem:=by simp
 obj:=λi h st b hb=>by
  have e:b=it:=by simpa using hb
  subst e;obtain⟨o,e,c,d⟩:=st;exact⟨o,e,λv z=>by rw[d] at z;cases z⟩
 keep:=λi h h' st k=>st.at λo e=>k it (!4) o e
 item:=by
  intro X hP hw hK hc i pins s σ H E I hf st hg;subst hP hw hK;obtain⟨hg,hi⟩:=hg;obtain⟨_,vs,r,da⟩:=Eg I hg hd;have hx:kvs[i]? = some kvs[i]:=by simp[hi]
  obtain⟨u,hu⟩:=OL r (k:=kvs[i].1) (v:=kvs[i].2) hx;obtain⟨f0,f1,f2,f3,f4,f5⟩:=hf it (!4);have hl:=r.length;rw[hl] at st;refine wpAny_pyNext_dict_item st da hu λkey h' K7 tm sb=>?_;have I1:Inv X pins σ H { s with heap:=h' }:=I.turned (t':=s.toks) (λb o hb e=>(sb.2 b hb).trans e) f0 f1 f3 f4 f5;obtain⟨o',e,c,d⟩:=id tm;exact⟨key,rfl,wR (s:={ s with heap:=h' }) e c d (!2) ⟨kV kvs[i].1,H,I1,Hq K7,⟨rfl,_,_,hx,rfl⟩,by rw[hl];exact tm,λb hb=>(hf b hb).1⟩⟩
 done:=by
  intro X hP hw hK hc i pins s σ H E I hf st hg;subst hP hw hK;obtain⟨hg,hi⟩:=hg;obtain⟨_,vs,r,da⟩:=Eg I hg hd;obtain⟨f0,f1,f2,f3,f4,f5⟩:=hf it (!4);have hl:=r.length;rw[hl] at st;exact wpAny_pyNext_dict_end (I.ok.hd hc) st da (by simp;omega) λh' eb=>⟨rfl,I.turned (t':=s.toks) (λb o hb e=>eb b o hb e) f0 f1 f3 f4 f5⟩
 self:=λ_ _ _ _ _ st h=>wpAny_pyIter_keyiter st h
section
variable {X:Cx}{tg:Expr}
theorem Inv.freeze {pins:List (Addr × Obj)}{s:aw}{σ:St}{H:Hp}{a:Addr}{kvs:List (Key × V)}(I:Inv X pins σ H s)(h:H a=some (.dK kvs)) :
  ∃o es ep,o.data=.dict es ep/\Inv X pins σ (d3 H a (.nj o (.dK kvs))) s/\(a == sysModules)=false/\∃vs,KV kvs vs/\s.heap.DictAt (dS X.prog X.w) a vs ep:=by
 obtain⟨z,y,vs,r,o,es,ep,e,c,d,k,p,n⟩:=I.hok a _ h;refine⟨o,es,ep,d,?_,y,vs,r,o,es,e,c,d,k,p,n⟩;have:=I.write (x:=a) (e:=a) (h':=s.heap) (t':=s.toks) (o:=.nj o (.dK kvs)) (by rw[h];exact trivial) (.inl rfl) (λb u _ q=>q) ⟨o,e⟩ ⟨e,z,y,vs,r,o,es,ep,e,c,d,k,p,n⟩;exact this
noncomputable def OM (tl:TE):TI:=λσ H R=>tl σ H λx H1=>∃a kvs,x=.ref a/\H1 a=some (.dK kvs)/\∀o,R (OK o a kvs) (d3 H1 a (.nj o (.dK kvs)))
theorem A2 {l:Expr}{tl:TE}(hl:QE X l tl):QI X tg l (OM tl):=by
 refine⟨λpins s σ H R I h=>?_⟩;refine fc (hl.run pins s σ H _ I h) λv s1 ⟨x,H1,I1,r1,q1⟩=>?_;obtain⟨a,kvs,e,ha,q⟩:=q1;subst e;cases r1;obtain⟨o,es,ep,hd,I2,hy,vs,lj,da⟩:=I1.freeze ha;refine wpAny_pyIter_dict hy da ?_;have hlen:=lj.length;refine⟨s1.heap.objs.size,[s1.heap.objs.size],_,_,_,rfl,I2.kept (t':=s1.toks) λb o e=>ah _ e,Cg a _ hd,⟨_,ax _ rfl,rfl,by rw[hlen];rfl⟩,λb hb=>?_,q o⟩;have e:b=s1.heap.objs.size:=by simpa using hb
 subst e;exact I2.pX (ao _) (I2.hok.fresh (ao _))
theorem ux {mp:List (Option Nat)}{g:TG}{tc:TT}{te:TE}{σ:St}{H:Hp}{R:List V->Hp->Prop}{o:Obj}{a:Addr}{kvs:List (Key × V)}(Pv:Nat->List V->St->Hp->Prop)(h0:Pv 0 [] (lJ mp σ) H)
  (hl:∀i ys σ' H',Pv i ys σ' H'->H' a=some (.nj o (.dK kvs)))
  (hs:∀i k v ys σ' H',kvs[i]? = some (k,v)->Pv i ys σ' H'->ys.length<aA/\g (kV k) σ' H' λσ2 H2=>tc σ2 H2 λb H3=>if b=true then te σ2 H3 λy H4=>Pv (i+1) (ys++[y]) σ2 H4 else Pv (i+1) ys σ2 H3)
  (hd:∀ys σ' H',Pv kvs.length ys σ' H'->ys.length<=aA/\R ys H') :
  ∃W:Nat->Nat->List V->St->Hp->Prop,(∃m,W 0 m [] (lJ mp σ) H)/\∀i m ys σ' H',W i m ys σ' H' ->
   ((OK o a kvs).stop i H'/\ys.length<=aA/\R ys H') \/
   ((OK o a kvs).go i H'/\ys.length<aA/\∀x M4,(OK o a kvs).FY i H' x M4->g x σ' M4 λσ2 H2=>tc σ2 H2 λb H3 =>
    if b=true then te σ2 H3 λy H4=>∃m',m' < m/\W (i+1) m' (ys++[y]) σ2 H4 else ∃m',m' < m/\W (i+1) m' ys σ2 H3):=by
 refine⟨λi m ys σ H=>m=kvs.length - i/\i<=kvs.length/\Pv i ys σ H,⟨kvs.length,!4,bL _,h0⟩,?_⟩;rintro i m ys σ' H' ⟨rfl,hi,p⟩;have q0:=hl i ys σ' H' p;by_cases jB:i<kvs.length
 .have e:∀ys σ H,(∃m',m' < kvs.length - i/\m'=kvs.length - (i+1)/\i+1<=kvs.length/\Pv (i+1) ys σ H)=Pv (i+1) ys σ H:=λys σ H=>propext ⟨λ⟨_,_,_,_,z⟩=>z,λz=>⟨_,!1,rfl,jB,z⟩⟩
  have hx:kvs[i]? = some kvs[i]:=by simp[jB]
  refine .inr ⟨⟨q0,jB⟩,(hs i kvs[i].1 kvs[i].2 ys σ' H' hx p).1,λx M4 y=>?_⟩;obtain⟨e1,k,v,hk,ex⟩:=y;subst e1 ex;simp only[e];exact (hs i k v ys σ' _ hk p).2
 .have e:i=kvs.length:=by omega
  subst e;obtain⟨F5,q⟩:=hd ys σ' H' p;exact .inl ⟨⟨q0,ao _⟩,F5,q⟩
end
end L2
namespace PySem
open Sem (wp)
end PySem
namespace L2
open PySem PySem.Spec PyProof.Rows
end L2
namespace PySem
open Sem (wp)
open AutoSeq1 (wpAny_loadPart')
section
theorem zD {it t:Addr}{i:Nat}{xs:Array ag}{x:ag}{Q:ag->aw->Prop}(hi:s.heap.IsTupleIter it t i)(ht:s.heap.IsTuple t xs)(hx:xs[i]? = some x)
  (q:∀h',h'.IsTupleIter it t (i+1)->Heap.SameBut it s.heap h'->Q x { s with heap:=h' }):aE (model prog w) A (Builtin.SmallTypes.nextOf (.ref it)) Q E s:=by
 obtain⟨ob,e1,c1,d1⟩:=id hi;obtain⟨ot,e2,_,n2,d2⟩:=ht;have nn:¬ ((ag.ref t == ag.none)=true):=bc;unfold Builtin.SmallTypes.nextOf;refine ae (wpAny_callSpecial?_slot (name:=Str.ofString "__next__") hi.typeIs F.slot_tuple_iterator_next (wpAny_call_entry F.slot_tuple_iterator_next hi.typeIs F.entry_tuple_iterator_next ?_ (F.args_tuple_iterator_next_1 _)));show aE _ _ (field (.ref it) 0 >>= _) _ _ _;refine ae (wpAny_field e1 d1 (x:=.ref t) rfl ?_);show aE _ _ (if (ag.ref t == ag.none)=true then _ else _) _ _ _;rw[if_neg nn];show aE _ _ (field (.ref it) 1 >>= _) _ _ _;refine ae (wpAny_field e1 d1 (x:=.int i 0) rfl (ae (wpAny_seqItems e2 d2 ?_)));simp only[bh,hx];refine ae (wpAny_setField e1 d1 (!4) (aj ⟨x,rfl,aj (q _ ?_ (Heap.SameBut.update ..))⟩));refine⟨_,aR _ e1 (Obj.isFreed_of_fields (Obj.data_mapFields d1 _)),(Obj.cls_mapFields ..).trans c1,?_⟩;rw[Obj.data_mapFields d1];simp[rawInt]
theorem Ci (hh:A.handled=none)(hi:s.heap.IsTupleIter it t i)(ht:s.heap.IsTuple t xs)(hx:xs[i]? = none)
  (q:∀h' e,Heap.ExtBut it s.heap h'->(∃o,h'.get? e=some o/\o.cls=.type "StopIteration")->E (.ref e) { s with heap:=h' }):aE (model prog w) A (Builtin.SmallTypes.nextOf (.ref it)) Q E s:=by
 obtain⟨ob,e1,c1,d1⟩:=id hi;obtain⟨ot,e2,_,n2,d2⟩:=ht;have nn:¬ ((ag.ref t == ag.none)=true):=bc;unfold Builtin.SmallTypes.nextOf;refine ae (wpAny_callSpecial?_slot (name:=Str.ofString "__next__") hi.typeIs F.slot_tuple_iterator_next (wpAny_call_entry F.slot_tuple_iterator_next hi.typeIs F.entry_tuple_iterator_next ?_ (F.args_tuple_iterator_next_1 _)));show aE _ _ (field (.ref it) 0 >>= _) _ _ _;refine ae (wpAny_field e1 d1 (x:=.ref t) rfl ?_);show aE _ _ (if (ag.ref t == ag.none)=true then _ else _) _ _ _;rw[if_neg nn];show aE _ _ (field (.ref it) 1 >>= _) _ _ _;refine ae (wpAny_field e1 d1 (x:=.int i 0) rfl (ae (wpAny_seqItems e2 d2 ?_)));simp only[bh,hx];refine ae (wpAny_rule (ae (wpAny_setField e1 d1 (!4) (ae ?_))));simp only[newExc,newTuple];refine ae (aW (ae (m:=firstArgMember _ _) (wpAny_of_eq (a:=ag.none) (by first | rfl | (simp only[firstArgMember];rfl)) (aW ?_ (by size_fits)))) (by size_fits));simp only[raiseNew];refine ae (wpAny_handled ?_);first | rw[show A.in1.handled=none from hh] | rw[hh]
 exact ae (aj (wpAny_throw (q _ _ (((Heap.SameBut.update ..).extBut.push _).push _) ⟨_,ax _ rfl,rfl⟩)))
theorem zE {e it t:Addr}{i:Nat}{xs:Array ag}{x old:ag}{Q:ag->aw->Prop}(he:IsEnum s.heap e it i old)(hi:s.heap.IsTupleIter it t i)(ht:s.heap.IsTuple t xs)(hx:xs[i]? = some x)(iy:e≠it)
  (q:∀h',IsEnumOut h' e it ((i:Int)+1) x s.heap.objs.size->h'.IsTupleIter it t (i+1)->h'.get? s.heap.objs.size=some { cls:=.type "tuple",data:=.seq #[.int i s.toks,x] } ->
   (∀b o,b≠e->b≠it->s.heap.get? b=some o->h'.get? b=some o)->Q (.ref s.heap.objs.size) { s with heap:=h',toks:=s.toks+1 }) :
  aE (model prog w) A (Builtin.«enumerate.__next__» ⟨[.ref e],[]⟩) (λfin s'=>∃v,fin=.done (.ret v)/\Q v s') E s:=by
 obtain⟨hp,g,d,tk,os⟩:=s;show aE _ _ (field (.ref e) 2 >>= _) _ _ _;refine ae (wpAny_field he rfl (x:=.ref it) rfl (ae (zD hi ht hx λk1 i1 (b1:Heap.SameBut it hp k1)=>?_)));have e1:IsEnum k1 e it i old:=(b1.2 e iy).trans he;refine ae (wpAny_field e1 rfl (x:=rawInt i) rfl (ae (wpAny_field e1 rfl (x:=.none) rfl ?_)));show aE _ _ (mkInt i >>= _) _ _ ⟨k1,g,d,tk,os⟩;refine ae (wpAny_mkInt (ae (wpAny_setField_rec (x:=rawInt ((i:Int)+1)) e1 (!4) λk2 e2 b2=>?_)));replace b2:Heap.SameBut e k1 k2:=b2;replace e2:IsEnum k2 e it ((i:Int)+1) old:=e2;refine ae (wpAny_setField_rec (x:=.none) e2 (!4) λk3 e3 b3=>?_);replace b3:Heap.SameBut e k2 k3:=b3;replace e3:IsEnum k3 e it ((i:Int)+1) old:=e3;show aE _ _ (newTuple [.int i tk,x] >>= _) _ _ ⟨k3,g,d,tk+1,os⟩;refine ae (wpAny_newTuple ?_);have sz:k3.objs.size=hp.objs.size:=by rw[b3.1,b2.1,b1.1]
 have el:hp.objs.size≠e:=bN (aF he);have e4:IsEnum (k3.push { cls:=.type "tuple",data:=.seq #[.int i tk,x] }) e it ((i:Int)+1) old:=ah _ e3;have t4:(k3.push { cls:=.type "tuple",data:=.seq #[.int i tk,x] }).get? hp.objs.size=some { cls:=.type "tuple",data:=.seq #[.int i tk,x] }:=by rw[<- sz];exact ax _ rfl
 have ON:∀b o,b≠e->b≠it->hp.get? b=some o->(k3.push { cls:=.type "tuple",data:=.seq #[.int i tk,x] }).get? b=some o:=λb o h1 h2 h3=>ah _ (b3.extBut b o h1 (b2.extBut b o h1 (b1.extBut b o h2 h3)))
 have i4:(k3.push { cls:=.type "tuple",data:=.seq #[.int i tk,x] }).IsTupleIter it t (i+1):=by
  obtain⟨o,ho,r⟩:=i1;exact⟨o,ah _ (b3.extBut it o (Ne.symm iy) (b2.extBut it o (Ne.symm iy) ho)),r⟩
 rw[sz];generalize k3.push { cls:=.type "tuple",data:=.seq #[.int i tk,x] }=k4 at e4 t4 ON i4 ⊢;show aE _ _ (Builtin.SmallTypes.ownedTupleIsFree (.ref e) >>= _) _ _ ⟨k4,g,d,tk+1,os⟩;refine ae ?_;unfold Builtin.SmallTypes.ownedTupleIsFree;refine ae (wpAny_field e4 rfl (x:=.none) rfl (aj ?_));simp only[if_true];refine ae (wpAny_rule (ae (wpAny_field e4 rfl (x:=old) rfl (ae (wpAny_setField_rec (x:=x) e4 (!4) λk5 e5 b5=>?_)))));replace b5:Heap.SameBut e k4 k5:=b5;replace e5:IsEnum k5 e it ((i:Int)+1) x:=e5;show aE _ _ (Builtin.SmallTypes.ownedTupleHandOut (.ref e) (.ref hp.objs.size) >>= _) _ _ ⟨k5,g,d,tk+1,os⟩;refine ae ?_;unfold Builtin.SmallTypes.ownedTupleHandOut;refine ae (wpAny_setField_rec (x:=rawInt (hp.objs.size:Nat)) e5 (!4) λk6 e6 b6=>?_);replace b6:Heap.SameBut e k5 k6:=b6;replace e6:IsEnumOut k6 e it ((i:Int)+1) x hp.objs.size:=e6;refine wpAny_setField_rec e6 (!4) λk7 e7 b7=>?_;replace b7:Heap.SameBut e k6 k7:=b7;have LQ:∀b o,b≠e->k4.get? b=some o->k7.get? b=some o:=λb o h1 h2=>b7.extBut b o h1 (b6.extBut b o h1 (b5.extBut b o h1 h2));refine ae (wpAny_letGo (aj ⟨_,rfl,q k7 e7 ?_ (LQ _ _ el t4) λb o h1 h2 h3=>LQ b o h1 (ON b o h1 h2 h3)⟩));obtain⟨o,ho,r⟩:=i4;exact⟨o,LQ it o (Ne.symm iy) ho,r⟩
theorem vI {e it t:Addr}{i:Nat}{xs:Array ag}{x old:ag}{Q:Option ag->aw->Prop}(he:IsEnum s.heap e it i old)(hi:s.heap.IsTupleIter it t i)(ht:s.heap.IsTuple t xs)(hx:xs[i]? = some x)(iy:e≠it)
  (q:∀h',IsEnumOut h' e it ((i:Int)+1) x s.heap.objs.size->h'.IsTupleIter it t (i+1)->h'.get? s.heap.objs.size=some { cls:=.type "tuple",data:=.seq #[.int i s.toks,x] } ->
   (∀b o,b≠e->b≠it->s.heap.get? b=some o->h'.get? b=some o)->Q (some (.ref s.heap.objs.size)) { s with heap:=h',toks:=s.toks+1 }) :
  aE (model prog w) A (pyNext (.ref e)) Q E s:=by
 have ty:s.TypeIs (.ref e) "enumerate" := ⟨_,he,rfl⟩;unfold pyNext;refine ae (wpAny_attempt (wpAny_callSpecial?_slot (name:=Str.ofString "__next__") ty F.slot_enumerate_next (wpAny_call_entry F.slot_enumerate_next ty F.entry_enumerate_next ?_ (F.args_enumerate_next_1 _))));exact zE he hi ht hx iy λh' a b c k=>aj (q h' a b c k)
theorem oY {e it t:Addr}{i:Nat}{xs:Array ag}{old:ag}{Q:Option ag->aw->Prop}(hh:A.handled=none)(he:IsEnum s.heap e it i old)(hi:s.heap.IsTupleIter it t i)(ht:s.heap.IsTuple t xs)(hx:xs[i]? = none)
  (q:∀h',Heap.ExtBut it s.heap h'->Q none { s with heap:=h' }):aE (model prog w) A (pyNext (.ref e)) Q E s:=by
 have ty:s.TypeIs (.ref e) "enumerate" := ⟨_,he,rfl⟩;unfold pyNext;refine ae (wpAny_attempt (wpAny_callSpecial?_slot (name:=Str.ofString "__next__") ty F.slot_enumerate_next (wpAny_call_entry F.slot_enumerate_next ty F.entry_enumerate_next ?_ (F.args_enumerate_next_1 _))));show aE _ _ (field (.ref e) 2 >>= _) _ _ _;refine ae (wpAny_field he rfl (x:=.ref it) rfl (ae (Ci hh hi ht hx λh' x ex ⟨o,ho,hc⟩=>?_)));exact ae (wpAny_isInstance (T := "StopIteration") (b:=true) ⟨o,ho,hc⟩ isSubtype_stop (aj (q _ ex)))
theorem Cj (l:Addr)(items:Array ag)(n:Nat)(M5:Option Addr)(sl:Array (Option ag)) :
  Meets (Builtin.«enumerate.__new__» ⟨[.type "enumerate",.ref l],[]⟩) (λ_ R s=>s.heap.get? l=some { cls:=.type "tuple",dict:=M5,data:=.seq items n,slots:=sl } /\
   R (.ok (.ret (.ref (s.heap.push { cls:=.type "tuple_iterator",data:=.fields #[.ref l,.int 0 0] }).objs.size)))
    { s with heap:=(s.heap.push { cls:=.type "tuple_iterator",data:=.fields #[.ref l,.int 0 0] }).push { cls:=.type "enumerate",data:=.fields #[.none,.bool false,.ref s.heap.objs.size,rawInt 0,.none,.none] } }) :=
 .of_wp λprog w A R s h=>by
  obtain⟨hp,g,d,tk,os⟩:=s;obtain⟨hl,h⟩:=h;have G8:=sub_enumerate;have M7:Heap.IsTuple (aw.heap ⟨hp,g,d,tk,os⟩) l items:=⟨_,hl,rfl,n,rfl⟩
  wp_walk using wpAny_loadPart' hl
  refine wpAny_stack_any λ_=>aj ?_;split
  .rename_i c _ _ _ _ _
   cases (c == ag.type "enumerate")<;>(wp_walk using wpAny_loadPart' hl,wpAny_pyIter_tuple M7;exact⟨_,rfl,h⟩)
  .wp_walk using wpAny_loadPart' hl,wpAny_pyIter_tuple M7
   exact⟨_,rfl,h⟩
theorem zF (ht:s.heap.IsTuple l items)
  (q:∀h',IsEnum h' (s.heap.objs.size+1) s.heap.objs.size 0 .none->h'.IsTupleIter s.heap.objs.size l 0->h'.objs.size=s.heap.objs.size+2->(∀b o,s.heap.get? b=some o->h'.get? b=some o)->Q (.ref (s.heap.objs.size+1)) { s with heap:=h' }) :
  aE (model prog w) A (call (.type "enumerate") [.ref l]) Q E s:=by
 obtain⟨⟨c,M5,dt,sl⟩,hl,hc,n,hd⟩:=ht;replace hc:c=.type "tuple" := hc;replace hd:dt=.seq items n:=hd;subst hc hd;refine callType_new F.called_enumerate (!2) (F.typeCall_enumerate_1 _) (F.newCall_enumerate_1 _) (λobj=>F.args_object_init_2 obj _) F.entry_enumerate_new (Cj l items n M5 sl) ⟨hl,?_⟩;have z1:(s.heap.push { cls:=.type "tuple_iterator",data:=.fields #[.ref l,.int 0 0] }).objs.size=s.heap.objs.size+1:=bB ..;have g1:=ax (s.heap.push { cls:=.type "tuple_iterator",data:=.fields #[.ref l,.int 0 0] }) (o:={ cls:=.type "enumerate",data:=.fields #[.none,.bool false,.ref s.heap.objs.size,rawInt 0,.none,.none] }) rfl;rw[z1] at g1;show _/\_;rw[z1];exact⟨⟨_,g1,rfl⟩,q _ g1 ⟨_,ah _ (ax _ rfl),rfl,rfl⟩ (by rw[bB,z1]) λb o x=>ah _ (ah _ x)⟩
end
end PySem
namespace L2
open PySem PySem.Spec PyProof.Rows
noncomputable def OO (K:W.Frag)(a:Addr):It :=
 ⟨λi H=>∃xs x,gZ K H a xs/\xs[i]? = some x,λi H x H'=>∃T xi,x=.ref T/\H T=none/\H'=d3 H T (.tup [.int (i:Nat),xi])/\∀xs,gZ K H a xs->xs[i]? = some xi,λi H=>∃xs,gZ K H a xs/\xs.length<=i⟩
theorem zG {P:a5}{w:World}{K:W.Frag}{xo:List Expr}{k:Nat}{pos:Pos}(a e it:Addr)(iy:e≠it):wQ P w K (.Tuple xo k pos) (OO K a) [e,it] e (λi h=>(∃old,IsEnum h e it (i:Nat) old)/\h.IsTupleIter it a i) where
 mem:=by simp
 obj:=λi h st b hb=>by
  obtain⟨⟨old,he⟩,o,ho,hc,hd⟩:=st;rcases au.mp hb with z | z
  .subst z
   exact⟨_,he,λv z=>by cases z⟩
  .have z':b=it:=by simpa using z
   subst z';exact⟨o,ho,λv z=>by rw[hd] at z;cases z⟩
 keep:=λi h h' st kp=>by
  obtain⟨⟨old,he⟩,hi⟩:=st;exact⟨⟨old,kp e (!4) _ he⟩,hi.at λo q=>kp it (!4) o q⟩
 item:=by
  intro X hP hw hK hc i pins s σ H E I hf st hg;subst hP hw hK;obtain⟨⟨old,he⟩,hi⟩:=st;obtain⟨xs,x,hq,hx⟩:=hg;obtain⟨its,rv,p,hz⟩:=I.tuple hq;obtain⟨u,hu,ru⟩:=rv.get hx;refine vI he hi (show s.heap.IsTuple a its.toArray from p) (x:=u) (by simpa using hu) iy λh1 eo i1 t1 kp=>⟨_,rfl,wpAny_letOwnedTupleGo_enum eo λh2 en sb=>?_⟩;have wD:e<s.heap.objs.size:=aF he;have Ry:it<s.heap.objs.size:=by obtain⟨_,q,_⟩:=hi;exact aF q
  have LR:∀b o,b≠e->b≠it->s.heap.get? b=some o->h2.get? b=some o:=λb o n1 n2 q=>(sb.2 b n1).trans (kp b o n1 n2 q);have i2:h2.IsTupleIter it a (i+1):=i1.at λo q=>(sb.2 it (Ne.symm iy)).trans q;have t2:h2.get? s.heap.objs.size=some { cls:=.type "tuple",data:=.seq #[.int i s.toks,u] }:=(sb.2 _ (bN wD)).trans t1;obtain⟨f0,f1,f2,f3,f4,f5⟩:=hf it (!4);obtain⟨g0,g1,g2,g3,g4,g5⟩:=hf e (!4);obtain⟨oi,RA,Vc,RB⟩:=id i2;obtain⟨o0,RC,_⟩:=id hi;have m1:(s.heap.update it λ_=>oi).get? it=some oi:=aR (λ_=>oi) RC (Obj.isFreed_of_fields RB);have I1:Inv X pins σ H { s with heap:=s.heap.update it λ_=>oi,toks:=s.toks+1 }:=I.turned (λb o hb q=>(aH _ _ (Ne.symm hb)).trans q) f0 f1 f3 f4 f5
  have RD:∀b o,b≠e->(s.heap.update it λ_=>oi).get? b=some o->h2.get? b=some o:=λb o hb q=>by
   by_cases Jt:b=it
   .subst Jt
    rw[m1] at q;cases q;exact RA
   .exact LR b o hb Jt ((aH _ _ (Ne.symm Jt)).symm.trans q)
  have I2:Inv X pins σ H { s with heap:=h2,toks:=s.toks+1 }:=Inv.turned (s:={ s with heap:=s.heap.update it λ_=>oi,toks:=s.toks+1 }) (h':=h2) (t':=s.toks+1) I1 RD g0 g1 g3 g4 g5;obtain⟨p0,p1,p2,p3,p4,p5⟩:=I.pX (ao s.heap.objs.size) (I.hok.fresh (ao _))
  have I3:Inv X pins σ (d3 H s.heap.objs.size (.tup [.int (i:Nat),x])) { s with heap:=h2,toks:=s.toks+1 } :=
   I2.DR (o:=.tup [.int (i:Nat),x]) t2 p0 p1 p3 p4 p5 ⟨by show 2<=aA;decide,[.int i s.toks,u],.cons ⟨_,rfl⟩ (.cons ru .nil),⟨_,t2,rfl,_,rfl,rfl⟩⟩
  refine⟨.ref s.heap.objs.size,_,I3,rfl,⟨_,x,rfl,p0,rfl,λys hy=>by rw[I.tX hy hq];exact hx⟩,⟨⟨u,by simpa using en⟩,i2⟩,λb hb=>?_⟩
  have OP:b≠s.heap.objs.size:=by
   rcases au.mp hb with z | z
   .rw[z];exact aT wD
   .have z':b=it:=by simpa using z
    rw[z'];exact aT Ry
  rw[dC OP];exact (hf b hb).1
 done:=by
  intro X hP hw hK hc i pins s σ H E I hf st hg;subst hP hw hK;obtain⟨⟨old,he⟩,hi⟩:=st;obtain⟨xs,hq,hx⟩:=hg;obtain⟨its,rv,p,hz⟩:=I.tuple hq;obtain⟨f0,f1,f2,f3,f4,f5⟩:=hf it (!4);have hl:=rv.length;exact oY (I.ok.hd hc) he hi (show s.heap.IsTuple a its.toArray from p) (by simp;omega) λh' eb=>⟨rfl,I.turned (t':=s.toks) (λb o hb q=>eb b o hb q) f0 f1 f3 f4 f5⟩
 self:=λ_ _ _ _ _ st h=>by
  obtain⟨⟨old,he⟩,_⟩:=st;exact wpAny_pyIter_enum he h
end L2
namespace PySem
namespace SetTable
theorem rm (xs:Array Nat)(j:Nat):∀(f lo hi:Nat),hi - lo<=f->lo<=hi->hi<=xs.size->xs.toList.Pairwise (· < ·)->(∀(k:Nat) (v:Nat),k<lo->xs[k]? = some v->v<j) ->
  (∀(k:Nat) (v:Nat),hi<=k->xs[k]? = some v->j<=v)->below.go xs j f lo hi<=xs.size/\(∀(k:Nat) (v:Nat),k<below.go xs j f lo hi->xs[k]? = some v->v<j)/\(∀(k:Nat) (v:Nat),below.go xs j f lo hi<=k->xs[k]? = some v->j<=v)
 | 0,lo,hi,hf,h1,h2,_,hl,hh=>by
  unfold below.go;have e:lo=hi:=by omega
  subst e;exact⟨h2,hl,hh⟩
 | f+1,lo,hi,hf,h1,h2,hs,hl,hh=>by
  unfold below.go;by_cases c:lo<hi
  .rw[if_pos c]
   dsimp only;have hm:(lo+hi) / 2<xs.size:=by omega
   have eg:xs.getD ((lo+hi) / 2) j=xs[(lo+hi) / 2]:=by simp[Array.getD,hm]
   rw[eg]
   have hr:∀(a b:Nat) (va vb:Nat),a<b->xs[a]? = some va->xs[b]? = some vb->va<vb:=by
    intro a b va vb p7 ea eb
    have la:a<xs.toList.length:=by
     rcases ce a xs.toList.length with q | q
     .exact q
     .rw[bu] at q;rw[b9 q] at ea;cases ea
    have lb:b<xs.toList.length:=by
     rcases ce b xs.toList.length with q | q
     .exact q
     .rw[bu] at q;rw[b9 q] at eb;cases eb
    have:=cS.mp hs a b la lb p7;rw[<- br,aJ la] at ea;rw[<- br,aJ lb] at eb;cases ea;cases eb;exact this
   have em:xs[(lo+hi) / 2]? = some xs[(lo+hi) / 2]:=by simp[hm]
   by_cases d:xs[(lo+hi) / 2] < j
   .rw[if_pos d]
    refine rm xs j f _ hi (!1) (!1) h2 hs (λk v hk e=>?_) hh;by_cases q:k=(lo+hi) / 2
    .subst q;rw[em] at e;cases e;exact d
    .exact c7 (hr k _ v _ (!1) e em) d
   .rw[if_neg d]
    refine rm xs j f lo _ (!1) (!1) (!1) hs hl λk v hk e=>?_;by_cases q:k=(lo+hi) / 2
    .subst q;rw[em] at e;cases e;omega
    .have:=hr _ k _ v (!1) em e
     omega
  .rw[if_neg c]
   have e:lo=hi:=by omega
   subst e;exact⟨h2,hl,hh⟩
theorem nz (j:Nat)(hs:xs.toList.Pairwise (· < ·)):below xs j<=xs.size/\(∀(k:Nat) (v:Nat),k<below xs j->xs[k]? = some v->v<j)/\(∀(k:Nat) (v:Nat),below xs j<=k->xs[k]? = some v->j<=v) :=
 rm xs j xs.size 0 xs.size (!1) (!1) (ao _) hs (λk v h=>absurd h (!1)) (λk v h e=>by rw[b9 h] at e;cases e)
theorem zH (hs:xs.toList.Pairwise (· < ·)):below xs 0=0:=by
 obtain⟨a,b,c⟩:=nz 0 hs;rcases Nat.eq_zero_or_pos (below xs 0) with h | h
 .exact h
 .have:0<xs.size:=by omega
  exact absurd (b 0 xs[0] h (by simp[this])) (!1)
theorem zI (hs:xs.toList.Pairwise (· < ·))(e:xs[i]? = some j):below xs (j+1)=i+1:=by
 obtain⟨a,b,c⟩:=nz (j+1) hs
 have hi:i<xs.size:=by
  rcases ce i xs.size with q | q
  .exact q
  .rw[b9 q] at e;cases e
 have h1:i<below xs (j+1):=by
  rcases ce i (below xs (j+1)) with q | q
  .exact q
  .exact absurd (c i j q e) (!1)
 rcases ce (i+1) (below xs (j+1)) with q | q
 .exfalso
  have l2:i+1<xs.size:=by omega
  have e2:xs[i+1]? = some xs[i+1]:=by simp[l2]
  have:=b (i+1) _ q e2;have la:i<xs.toList.length:=by simpa using hi
  have lb:i+1<xs.toList.length:=by simpa using l2
  have hr:=cS.mp hs i (i+1) la lb (!1);rw[<- br,aJ la] at e;cases e;have:xs.toList[i+1]=xs[i+1]:=by simp
  omega
 .omega
theorem tE (hs:xs.toList.Pairwise (· < ·))(hn:xs[below xs j]? ≠ some j):(insertAt xs (below xs j) j).toList.Pairwise (· < ·):=by
 obtain⟨a,b,c⟩:=nz j hs;rw[toList_insertAt]
 have ht:∀v∈xs.toList.take (below xs j),v<j:=by
  intro v hv;obtain⟨k,hk,e⟩:=cL hv;rw[bF] at hk;rw[List.getElem_take] at e;exact b k v (!1) (by rw[<- br,aJ (!1)];rw[e])
 have hd:∀v∈xs.toList.drop (below xs j),j<v:=by
  intro v hv;obtain⟨k,hk,e⟩:=cL hv;rw[cU] at hk;rw[List.getElem_drop] at e;have e':xs[below xs j+k]? = some v:=by rw[<- br,aJ (!1)];rw[e]
  have h1:=c (below xs j+k) v (!1) e';rcases Nat.lt_or_eq_of_le h1 with q | q
  .exact q
  .subst q
   exfalso;rcases Nat.eq_zero_or_pos k with z | z
   .subst z;exact hn e'
   .have l0:below xs j<xs.toList.length:=by omega
    have:=cS.mp hs (below xs j) (below xs j+k) l0 (!1) (!1);rw[e] at this;have h2:=c (below xs j) _ (ao _) (by rw[<- br,aJ l0]);omega
 rw[List.pairwise_append];refine⟨hs.sublist (List.take_sublist _ _),cb.mpr ⟨hd,hs.sublist (List.drop_sublist _ _)⟩,λx hx y hy=>?_⟩;rcases au.mp hy with rfl | hy
 .exact ht x hx
 .exact c7 (ht x hx) (hd y hy)
theorem nA (t:SetTable)(f:Nat->Int)(h:Int):∀(n:Nat) (p:Probe) (j:Nat) (d:Option Nat),(∀k,p.dummy=some k->t.place[below t.place k]? ≠ some k) ->
  probe.go t f h n p=some (.empty j d)->t.place[below t.place (d.getD j)]? ≠ some (d.getD j)
 | 0,p,j,d,_,e=>by unfold probe.go at e;cases e
 | n+1,p,j,d,hp,e=>by
  unfold probe.go at e;have TL:∀p:Probe,(t.advance p).dummy=p.dummy:=λp=>by unfold advance;split<;>rfl
  have nl:∀k,(∀i,t.slot k≠.live i)->t.place[below t.place k]? ≠ some k:=λk q z=>q (below t.place k) (by unfold slot;dsimp only;rw[z];simp)
  cases hs:t.slot p.j with
  | empty =>
   rw[hs] at e;cases e
   cases hd:p.dummy with
   | none=>exact nl p.j λi z=>by rw[hs] at z;cases z
   | some k=>exact hp k hd
  | dummy =>
   rw[hs] at e;refine nA t f h n _ j d (λk hk=>?_) e;rw[TL] at hk;cases hk;exact nl _ λi z=>by rw[hs] at z;cases z
  | live i =>
   rw[hs] at e;dsimp only at e;split at e
   .cases e
   .exact nA t f h n _ j d (λk hk=>hp k (by rw[TL] at hk;exact hk)) e
noncomputable def Good (b:Bool)(t:SetTable):Prop:=t.led=b/\(t.plain=true->t.place.toList.Pairwise (· < ·))
theorem Good.A3 (g:Good b t)(n:Nat):Good b (t.standIn n):=⟨g.1,λz=>by cases z⟩
theorem Good.or (g:Good b t)(n:Nat):Good b (t.orStandIn n):=by
 unfold orStandIn;split
 .exact g
 .exact g.A3 n
theorem Good.off (g:Good b t):Good b { t with plain:=false }:=⟨g.1,λz=>by cases z⟩
end SetTable
open SetTable in
theorem xp {b:Bool}{t:SetTable}(g:Good b t)(es:Array (Int × ag))(h:Int)(x:ag):Good b (layNew t es h x).2.1:=by
 unfold layNew
 cases e:t.freeSlot h with
 | none=>exact g.A3 _
 | some q =>
  obtain⟨slot,RE⟩:=q;dsimp only;refine Good.or (t:=(t.put slot).1) ⟨g.1,λz=>?_⟩ _;have hs:=g.2 z;refine tE hs ?_;unfold freeSlot at e;unfold probe at e;split at e
  .rename_i j d hp
   cases e;exact nA t _ h _ _ j d (λk hk=>by cases hk) hp
  .cases e
open SetTable in
theorem tF {b:Bool}{t:SetTable}(g:Good b t)(es:Array (Int × ag))(n:Nat):Good b (relayAll t es n).2.1:=by
 unfold relayAll
 cases e:t.relaid (es.map (·.1)) n with
 | none=>exact g.A3 _
 | some q =>
  obtain⟨t',o⟩:=q;dsimp only;split
  .unfold relaid laid at e
   cases hl:layClean (sizeAbove n - 1) (es.map (·.1)) with
   | none=>rw[hl] at e;cases e
   | some ow =>
    rw[hl] at e;simp only[Option.bind_eq_bind,cV,Option.pure_def,Option.some.injEq,Prod.mk.injEq] at e;obtain⟨rfl,_⟩:=e;refine⟨g.1,λ_=>?_⟩;simp only[List.pairwise_map];refine List.Pairwise.filterMap (R:=(· < ·)) _ (λa a' h c hc c' wL=>?_) List.pairwise_lt_range
    cases h1:ow.getD a none with
    | none=>rw[h1] at hc;cases hc
    | some u =>
     rw[h1] at hc
     cases h2:ow.getD a' none with
     | none=>rw[h2] at wL;cases wL
     | some u'=>rw[h2] at wL;cases hc;cases wL;exact h
  .exact g.A3 _
theorem pJ {α:Type}{l:List α}{i:Nat}(h:i<l.length):([l[i]]++l.eraseIdx i).Perm l:=by
 rw[List.eraseIdx_eq_take_drop_succ];have e:l=l.take i++l[i]::l.drop (i+1):=by simp
 conv=>rhs;rw[e]
 rw[List.singleton_append];exact List.perm_middle.symm
theorem jD {α:Type}(next:Nat->Nat):∀(f k:Nat) (l:List α) (out:Array α),f=l.length->(pickOrder.go next f k l out).toList.Perm (out.toList++l)
 | 0,k,l,out,e=>by
  have:l=[]:=List.length_eq_zero_iff.mp e.symm;subst this;unfold pickOrder.go;simp
 | f+1,k,l,out,e=>by
  unfold pickOrder.go;have hl:next k % l.length<l.length:=Nat.mod_lt _ (!1)
  rw[aJ hl];dsimp only;refine (jD next f (k+1) _ _ (by rw[List.length_eraseIdx_of_lt hl];omega)).trans ?_;rw[Array.toList_push,bw];refine List.Perm.append_left _ ?_;exact pJ hl
theorem rq {α:Type}(next:Nat->Nat)(xs:Array α):(pickOrder next xs).toList.Perm xs.toList:=by
 unfold pickOrder;have:=jD next xs.size 0 xs.toList #[] (!4)
 simpa using this
end PySem
namespace PySem
open Sem (wp)
open PyProof.Rows
noncomputable def km (w:World):Bool:=w.params.followText "set-order"
noncomputable def Ck (e:Int × ag):Option Int:=match e.2 with | .int k _=>some k | _=>none
noncomputable def vJ (es:List (Int × ag)):Prop:=∀e∈es,∃k t,e=(hashInt k,ag.int k t)
noncomputable def iP (w:World)(a:Addr)(ns:List Int)(h:Heap):Prop :=
 ∃o es ep t,h.get? a=some o/\o.ExactSet/\o.data=.set es ep t/\vJ es.toList/\(es.toList.filterMap Ck).Perm ns/\es.size<scanBound/\t.fits es.size=true/\SetTable.Good (!km w) t
section
variable {prog:a5}{w:World}{A:Around}{E:ag->aw->Prop}{s:aw}
theorem vJ.elems (h:vJ es):ElemsOf (intKind prog w) es:=λe he=>by
 obtain⟨k,t,rfl⟩:=h e he;exact⟨⟨k,intKind_is _ _ _ _,rfl⟩,rfl⟩
theorem vJ.perm (h:vJ l)(p:l'.Perm l):vJ l':=λe he=>h e (p.mem_iff.mp he)
theorem vJ.len:vJ l->(l.filterMap Ck).length=l.length:=by
 induction l with
 | nil=>intro _;rfl
 | cons e l ih =>
  intro h;obtain⟨k,t,rfl⟩:=h e (!4);have:=ih λe he=>h e (by simp[he]);simp[Ck] at this ⊢;exact this
theorem vJ.has (h:vJ l):k∈l.filterMap Ck↔∃e∈l,(intKind prog w).is k e.2=true:=by
 rw[cO];constructor
 .rintro⟨e,he,q⟩
  obtain⟨j,t,rfl⟩:=h e he;cases q;exact⟨_,he,intKind_is _ _ _ _⟩
 .rintro⟨e,he,q⟩
  obtain⟨j,t,rfl⟩:=h e he;have:k=j:=(intKind prog w).inj _ _ _ q (intKind_is _ _ j t);subst this;exact⟨_,he,rfl⟩
theorem iP.keep (x:iP w a ns h)(k:∀o,h.get? a=some o->h'.get? a=some o):iP w a ns h':=by
 obtain⟨o,es,ep,t,e,r⟩:=x;exact⟨o,es,ep,t,k o e,r⟩
theorem iP.type (x:iP w a ns s.heap):s.TypeIs (.ref a) "set" := by
 obtain⟨o,es,ep,t,e,c,_⟩:=x;exact⟨o,e,c.1⟩
theorem iP.put {h:Heap}{a:Addr}{o:Obj}{es g8:Array (Int × ag)}{ep:Nat}{t t':SetTable}{ns:List Int}(ho:h.get? a=some o)(x:o.ExactSet)(hd:o.data=.set es ep t)(h1:vJ g8.toList)
  (h2:(g8.toList.filterMap Ck).Perm ns) (h3:g8.size<scanBound) (h4:t'.fits g8.size=true) (h5:SetTable.Good (!km w) t') :
  (h.update a (Obj.putSet g8 t')).get? a=some { o with data:=.set g8 (ep+1) t' }/\iP w a ns (h.update a (Obj.putSet g8 t')):=by
 have g:=aR (Obj.putSet g8 t') ho (by rw[putSet_of g8 t' hd];rfl);rw[putSet_of g8 t' hd] at g;exact⟨g,_,g8,ep+1,t',g,x,rfl,h1,h2,h3,h4,h5⟩
theorem uy {g:Bool->Sem Unit}(hg:∀(b:Bool) (z:aw) (R:Unit->aw->Prop),R () z->aE (model prog w) A (g b) R E z){a:Addr}{o:Obj}{es:Array (Int × ag)}{ep:Nat}{t:SetTable}(ho:s.heap.get? a=some o)
  (x:o.ExactSet) (hd:o.data=.set es ep t) {g8:Array (Int × ag)} {t':SetTable} {ns:List Int} (h1:vJ g8.toList) (h2:(g8.toList.filterMap Ck).Perm ns) (h3:g8.size<scanBound) (h4:t'.fits g8.size=true) (h5:SetTable.Good (!km w) t')
  {RE:Bool} {R:Option Bool->aw->Prop} (h:∀h',Heap.SameBut a s.heap h'->iP w a ns h'->R (some true) { s with heap:=h' }) :
  aE (model prog w) A (storeSet a g8 t' >>= λ_=>if (!RE && t'.tooFull)=true then (g (relayAll t' g8 (SetTable.grown g8.size)).2.2 >>= λ_=>storeSet a (relayAll t' g8 (SetTable.grown g8.size)).1 (relayAll t' g8 (SetTable.grown g8.size)).2.1 >>= λ_=>pure (some true)) else pure (some true)) R E s:=by
 refine ae (wpAny_storeSet_of ho hd ?_ (fits_of_scanBound h3));obtain⟨p1,p2⟩:=iP.put (w:=w) ho x hd h1 h2 h3 h4 h5;have b1:=Heap.SameBut.update s.heap a (Obj.putSet g8 t');split
 .have q1:=relayAll_perm t' g8 (SetTable.grown g8.size)
  have q2:=relayAll_fits t' g8 (SetTable.grown g8.size);have q3:=tF h5 g8 (SetTable.grown g8.size);generalize relayAll t' g8 (SetTable.grown g8.size)=z at q1 q2 q3 ⊢;obtain⟨ez,tz,bz⟩:=z;dsimp only at q1 q2 q3 ⊢;have q4:ez.size=g8.size:=by have:=q1.length_eq;simpa using this
  refine ae (hg _ _ _ ?_);refine ae (wpAny_storeSet_of p1 rfl ?_ (fits_of_scanBound (by rw[q4];exact h3)));obtain⟨_,p4⟩:=iP.put (w:=w) p1 x rfl (h1.perm q1) ((q1.filterMap Ck).trans h2) (by rw[q4];exact h3) q2 q3;exact aj (h _ (b1.trans (Heap.SameBut.update _ a _)) p4)
 .exact aj (h _ b1 p2)
noncomputable def tG (ns:List Int)(k:Int):List Int:=if k∈ns then ns else ns++[k]
theorem Eh {a:Addr}{ns:List Int}{k:Int}{tk:Tok}{Q:Bool->aw->Prop}(hS:iP w a ns s.heap)(hr:ns.length+1<scanBound)
  (h:∀r h',Heap.SameBut a s.heap h'->iP w a (tG ns k) h'->Q r { s with heap:=h' }):aE (model prog w) A (setAddHashed a (.int k tk) (hashInt k)) Q E s:=by
 obtain⟨o,es,ep,t,ho,x,hd,h1,h2,h3,h4,h5⟩:=hS;have e1:ElemsOf (intKind prog w) es.toList:=h1.elems;have Vd:(intKind prog w).is k (.int k tk)=true:=intKind_is _ _ _ _;unfold setAddHashed setAddHashedIn;refine wpAny_holding (ae (wpAny_setState_of ho hd h4 ?_));dsimp only;rw[byScan_of (knd:=intKind prog w) (x:=.int k tk) rfl h3 e1];simp only[↓reduceIte];unfold setAddByScan;refine ae (ae (wpAny_rule (ae (wpAny_setScan_of (knd:=intKind prog w) Vd ho hd h4 e1 ?_))))
 have hlen:es.size=ns.length:=by
  have a1:=h2.length_eq;rw[h1.len,bu] at a1;exact a1
 cases hf:List.findIdx? (λe=>(intKind prog w).is k e.2) es.toList with
 | some j =>
  dsimp only;obtain⟨hj,Ve,_⟩:=List.findIdx?_eq_some_iff_getElem.mp hf;have hk:k∈ns:=h2.mem_iff.mp (h1.has.mpr ⟨_,cg hj,Ve⟩);refine aj (aj ?_);have:=h false s.heap (Heap.SameBut.refl a s.heap) (by unfold tG;rw[if_pos hk];exact⟨o,es,ep,t,ho,x,hd,h1,h2,h3,h4,h5⟩);exact this
 | none =>
  dsimp only
  have hk:¬ k∈ns:=λz=>by
   obtain⟨e,he,q⟩:=(h1.has (prog:=prog) (w:=w)).mp (h2.mem_iff.mpr z);have:=List.findIdx?_eq_none_iff.mp hf e he;rw[q] at this;cases this
  have q1:=layNew_perm t es (hashInt k) (.int k tk);have q2:=layNew_fits t es (hashInt k) (.int k tk);have q3:=xp h5 es (hashInt k) (.int k tk)
  have RF:∀(b:Bool) (z:aw) (R:Unit->aw->Prop),R () z->aE (model prog w) A (match b with | true=>rule "set.scan.the-table-gave-way" | false=>pure ()) R E z :=
   λb z R hq=>by cases b<;>first | exact aj hq | exact wpAny_rule hq
  show aE _ _ ((match (layNew t es (hashInt k) (.int k tk)).2.2.2 with | true=>rule "set.scan.the-table-gave-way" | false=>pure ()) >>= _) _ _ _;generalize hz:layNew t es (hashInt k) (.int k tk)=z at q1 q2 q3 ⊢;obtain⟨ez,tz,RE,Vf⟩:=z;dsimp only at q1 q2 q3 ⊢;have p0:ez.toList.Perm (es.toList++[(hashInt k,ag.int k tk)]):=by rw[Array.toList_push] at q1;exact q1
  have p1:vJ ez.toList:=vJ.perm (λe he=>by
   rcases aY.mp he with he | he
   .exact h1 e he
   .have:e=(hashInt k,ag.int k tk):=by simpa using he
    exact⟨k,tk,this⟩) p0
  have p2:(ez.toList.filterMap Ck).Perm (tG ns k):=by
   refine (p0.filterMap Ck).trans ?_;unfold tG;rw[if_neg hk,List.filterMap_append];exact List.Perm.append_right _ h2
  have p3:ez.size<scanBound:=by
   have:=p0.length_eq;rw[bu,aK,bu] at this;simp at this;omega
  refine ae (RF _ _ _ ?_);have fin:∀h',Heap.SameBut a s.heap h'->iP w a (tG ns k) h'->Q true { s with heap:=h' }:=λh'=>h true h';split
  .refine ae ?_
   rw[hashByValue_scannable 8 (x:=.int k tk) rfl];refine aj ?_;refine uy (g:=λb=>match b with | true=>rule "set.scan.the-table-gave-way" | false=>pure ()) RF ho x hd p1 p2 p3 ?_ ?_ ?_
   .split
    .exact q2
    .exact SetTable.fits_plain_off q2
   .split
    .exact q3
    .exact q3.off
   .intro h' a1 a2;dsimp only;exact aj (fin h' a1 a2)
  .refine ae (aj ?_)
   simp only[↓reduceIte];refine uy (g:=λb=>match b with | true=>rule "set.scan.the-table-gave-way" | false=>pure ()) RF ho x hd p1 p2 p3 q2 q3 ?_;intro h' a1 a2;dsimp only;exact aj (fin h' a1 a2)
end
open PyProof.Rows
section
noncomputable def g9 (val:Nat->Int):Nat->List Int
 | 0=>[]
 | i+1=>tG (g9 val i) (val i)
theorem oZ (val:Nat->Int):∀i,(g9 val i).length<=i
 | 0=>ao _
 | i+1=>by
  have:=oZ val i;unfold g9 tG;split
  .omega
  .simp;omega
theorem xq (val:Nat->Int):∀i,(g9 val i).Nodup
 | 0=>ca
 | i+1=>by
  have ih:=xq val i;unfold g9 tG;split
  .exact ih
  .rename_i h
   rw[b4];refine⟨ih,!4,λa ha b hb=>?_⟩;have e:b=val i:=by simpa using hb
   subst e;exact λz=>h (z ▸ ha)
theorem uz (val:Nat->Int)(k:Int):∀i,k∈g9 val i↔∃j,j<i/\val j=k
 | 0=>⟨λh=>absurd h (by simp[g9]),λ⟨j,h,_⟩=>absurd h (!1)⟩
 | i+1=>by
  have ih:=uz val k i
  have key:k∈g9 val (i+1)↔k∈g9 val i\/k=val i:=by
   show k∈tG (g9 val i) (val i)↔_;unfold tG;split
   .rename_i h
    exact⟨.inl,λz=>z.elim id λe=>e ▸ h⟩
   .simp
  rw[key,ih];constructor
  .rintro (⟨j,h,e⟩ | rfl)
   .exact⟨j,!1,e⟩
   .exact⟨i,!1,rfl⟩
  .rintro⟨j,h,e⟩
   by_cases q:j=i
   .subst q;exact .inr e.symm
   .exact .inl ⟨j,!1,e⟩
theorem Cm {I:Addr}{fp wr:List Addr}{G:Array GenState->Array GenState->Prop}{n:Nat}{P:Nat->ag->Prop}{St:Nat->aw->Prop}(W:WalksS prog w A.in1 I fp wr G n P St)(S:Addr)(OQ:S ∉ fp)
  (val:Nat->Int) (xr:∀i v,P i v->∃t,v=.int (val i) t) (hb:n+1<scanBound):∀(m i:Nat) (z:aw),n - i=m->i<=n->St i z->iP w S (g9 val i) z.heap ->
   (∀z',Moved (S::wr) G z z'->iP w S (g9 val n) z'.heap->R (.ok (.ret .none)) z')->codeAny (model prog w) A (.builtin "set.update.loop" ⟨[.ref S,.ref I],[]⟩) R z:=by
 have sw:S ∉ wr:=λq=>OQ (W.sub _ q);have sb:∀b∈wr,b∈S::wr:=λb q=>ai _ q;intro m
 induction m with
 | zero =>
  intro i z e1 e2 st x q;have:i=n:=by omega
  subst this;refine codeAny_builtin PyProof.Rows.F.entry_set_update_loop ?_;rw[Around.under_plainId PyProof.Rows.F.plain_set_update_loop _];show aE _ A.in1 (pyNext (.ref I) >>= _) _ _ z;refine ae (W.done z _ _ st λz' mv=>?_);exact aj (q z' (mv.mono sb) (x.keep λo e=>mv.heap S _ sw e))
 | succ m ih =>
  intro i z e1 e2 st x q;refine codeAny_builtin PyProof.Rows.F.entry_set_update_loop ?_;rw[Around.under_plainId PyProof.Rows.F.plain_set_update_loop _];show aE _ A.in1 (pyNext (.ref I) >>= _) _ _ z;refine ae (W.item i z _ _ (!1) st λv z' hv tm mv=>?_);obtain⟨t,rfl⟩:=xr i v hv;have x':=x.keep (h':=z'.heap) λo e=>mv.heap S _ sw e;show aE _ A.in1 (holding [ag.int (val i) t] (setAdd S (.int (val i) t)) >>= _) _ _ z';refine ae (wpAny_holding ?_);unfold setAdd;refine wpAny_holding (ae ((intKind prog w).pyHash (k:=val i) (intKind_is _ _ _ _) ?_));refine Eh (s:={ z' with toks:=z'.toks+1 }) x' (by have:=oZ val i;omega) λr h' a1 a2=>?_;refine aj ⟨plainId_quiet PyProof.Rows.F.plain_set_update_loop _,ih (i+1) _ (!1) (!1) (W.frame _ z' _ _ tm (cH _) λb hb o e=>?_) a2 λVg M8 Vh=>?_⟩
  .rw[a1.2 b λh:b=S=>OQ (h ▸ hb)];exact e
  .refine q Vg (Moved.trans W.gtrans ((mv.mono sb).then_heap (cH _) λb o hb e=>?_) M8) Vh
   rw[a1.2 b λh:b=S=>hb (by rw[h];exact aq)];exact e
theorem Cn (a:ag)(h:Q (.ref s.heap.objs.size) { s with heap:=s.heap.push { cls:=.type "set",dict:=none,data:=.set #[] 0 (.fresh 0 0 (!km w)) } }) :
  codeAny (model prog w) A (.call (.builtin "set.__new__") ⟨[.type "set",a],[]⟩) (wants Q E) s:=by
 refine codeAny_of_tree ?_;show aE _ A.in1 (checkBuiltinCall "set.__new__" ⟨[.type "set",a],[]⟩ >>= λ_=>again (.builtin "set.__new__" ⟨[.type "set",a],[]⟩)) _ _ s;refine ae (wpAny_of_eq (F.newCall_set_1 a) (aj ⟨plainId_quiet F.plain_set_new _,codeAny_builtin F.entry_set_new ?_⟩));rw[Around.under_plainId F.plain_set_new _];unfold Builtin.«set.__new__» Builtin.Frozenset.newClass;have q:=sub_set_self;obtain⟨hp,g,d,tk,os⟩:=s;dsimp only
 wp_walk
 refine wpAny_askSetting (aj ?_);dsimp only;simp only[newObj];exact ae (wpAny_alloc (aj (aj h)))
set_option maxHeartbeats 3200000 in
theorem uB {l:Addr}{T:String}{items:Array ag}{od:Option Addr}{nl:Nat}{os:Array (Option ag)}{ns:List Int}{ob:Obj}{Q:ag->aw->Prop}(TM:s.heap.get? l=some { cls:=.type T,dict:=od,data:=.seq items nl,slots:=os })
  (Vi:isSubtype (.type T) (.type "set")=pure false) (Vj:isSubtype (.type T) (.type "frozenset")=pure false) (iy:(ag.type T == ag.type "dict")=false) (hi:IntsAre items.toList ns) (hb:items.size+1<scanBound) {St:Nat->Heap->Prop}
  (iter:∀{A':Around} {E':ag->aw->Prop} {Q':ag->aw->Prop} {z:aw},z.heap.get? l=some { cls:=.type T,dict:=od,data:=.seq items nl,slots:=os }->Q' (.ref z.heap.objs.size) { z with heap:=z.heap.push ob }->aE (model prog w) A' (pyIter (.ref l)) Q' E' z)
  (W:Walks prog w A.in1.in1.in1 (s.heap.objs.size+1) [s.heap.objs.size+1,l] [s.heap.objs.size+1] items.size (λi v=>items[i]? = some v) St)
  (BU:∀z:Heap,z.objs.size=s.heap.objs.size+1->z.get? l=some { cls:=.type T,dict:=od,data:=.seq items nl,slots:=os }->St 0 (z.push ob))
  (h:∀(h':Heap) (tk:Nat),iP w s.heap.objs.size (g9 (λi=>ns.getD i 0) items.size) h'->(∀b o,s.heap.get? b=some o->h'.get? b=some o)->Q (.ref s.heap.objs.size) { s with heap:=h',toks:=tk }) :
  aE (model prog w) A (call (.type "set") [.ref l]) Q E s:=by
 obtain⟨c,tl,Vk⟩:=F.called_set.mro;have TN:=F.called_set.made;have G8:=F.called_set.sub;refine wpAny_call (codeAny_of_tree ?_);show aE _ _ (callAny (.type "set") _) _ _ _;refine aj ⟨Code.quiet_builtin _ (!3),codeAny_builtin F.entry_type_call ?_⟩;rw[Around.under_plain (weight_type_call_type "set" [.ref l] []) rfl];have g1:=F.called_set.notType;have g2:=F.called_set.canCreate;have g3:=F.typeCall_set_1 (.ref l);repeat (any_goals (first | assumption | wp_step))
 refine codeAny_mono (Cn (.ref l) (E:=E) (Q:=λx z=>x=.ref s.heap.objs.size/\z={ s with heap:=s.heap.push { cls:=.type "set",dict:=none,data:=.set #[] 0 (.fresh 0 0 (!km w)) } }) ⟨rfl,rfl⟩) λr z hr=>?_
 cases r with
 | error e=>exact hr
 | ok fl =>
  cases fl with
  | ret x =>
   obtain⟨rfl,rfl⟩:=hr;have kp:∀b o,s.heap.get? b=some o->(s.heap.push { cls:=.type "set",dict:=none,data:=.set #[] 0 (.fresh 0 0 (!km w)) }).get? b=some o:=λb o e=>ah _ e;have hS:(s.heap.push { cls:=.type "set",dict:=none,data:=.set #[] 0 (.fresh 0 0 (!km w)) }).get? s.heap.objs.size=some { cls:=.type "set",dict:=none,data:=.set #[] 0 (.fresh 0 0 (!km w)) }:=ax _ rfl;have hz:(s.heap.push { cls:=.type "set",dict:=none,data:=.set #[] 0 (.fresh 0 0 (!km w)) }).objs.size=s.heap.objs.size+1:=by rw[bB]
   have LS:=kp l _ TM;have Vl:l<s.heap.objs.size:=aF TM;generalize s.heap.push { cls:=.type "set",dict:=none,data:=.set #[] 0 (.fresh 0 0 (!km w)) }=h1 at hS kp hz LS ⊢;have hT:aw.TypeIs { s with heap:=h1 } (.ref s.heap.objs.size) "set" := ⟨_,hS,rfl⟩;have Xv:=F.called_set.init.lookup;have Jt:=F.called_set.init.bind (.ref s.heap.objs.size);repeat (any_goals (first | assumption | wp_step))
   refine codeAny_mono (codeAny_call_builtin (R:=wants (λr z=>r=.none/\∃h' tk,z={ s with heap:=h',toks:=tk }/\iP w s.heap.objs.size (g9 (λi=>ns.getD i 0) items.size) h'/\(∀b o,s.heap.get? b=some o->h'.get? b=some o)) E)
    F.called_set.init.plain F.entry_set_init (check_set_init_1 hT ?_)) λr₂ s₂ Ei=>?_
   .unfold Builtin.«set.__init__» noKeywords Builtin.Frozenset.updateFrom
    generalize Vm:pyIter=PI
    wp_walk
    subst Vm;refine iter LS ?_;refine ae (wpAny_runValue ?_);have xr:∀(i:Nat) (v:ag),items[i]? = some v->∃t,v=.int ((λi=>ns.getD i 0) i) t:=λi v hv=>IntsAre.int_at hi i v (by rw[br];exact hv)
    have TQ:s.heap.objs.size ∉ [s.heap.objs.size+1,l]:=λq=>by
     rcases au.mp q with q | q
     .exact absurd q (aT (cr _))
     .exact absurd (am.mp q) (bN Vl)
    show codeAny _ _ (.builtin "set.update.loop" ⟨[.ref s.heap.objs.size,.ref h1.objs.size],[]⟩) _ _;rw[hz];refine Cm (A:=A.in1.in1) W.toS s.heap.objs.size TQ (λi=>ns.getD i 0) xr hb (items.size - 0) 0 _ (!1) (bL _) (BU h1 hz LS) ?hS0 ?hR
    case hS0=>exact⟨_,#[],0,_,ah _ hS,⟨rfl,rfl,rfl⟩,rfl,λe he=>by simp at he,by simp[g9],!2,by rfl,rfl,λ_=>by simp[SetTable.fresh]⟩
    case hR =>
     intro z' mv x;obtain⟨h',g',d',Rp,QX⟩:=z';have eg:g'=s.gens:=mv.gens;have ed:d'=s.drawn:=mv.drawn;have eo:QX=s.os:=mv.os;subst eg ed eo;show aE _ _ _ _ _ _;refine aj ?_;show aE _ _ (ret ag.none) _ _ _;refine aj ⟨rfl,h',Rp,rfl,x,λb o e=>?_⟩;have TR:=aF e
     have Vn:b ∉ s.heap.objs.size::[s.heap.objs.size+1]:=λq=>by
      rcases au.mp q with q | q
      .exact absurd q (aT TR)
      .exact absurd (am.mp q) (aT (bU TR))
     exact mv.heap b o Vn (ah _ (kp b o e))
   .cases r₂ with
    | error e=>exact Ei
    | ok OR =>
     cases OR with
     | ret r =>
      obtain⟨rfl,h',tk,rfl,x,kq⟩:=Ei;repeat (any_goals (first | assumption | wp_step))
      exact h _ _ x kq
     | _=>exact Ei.elim
  | _=>exact hr.elim
end
open PyProof.Rows
theorem kn:Slot "set_iterator" "__next__" "set_iterator.__next__" :=
 Slot.of (owner := "set_iterator") (n := "__next__") (by rw[typeLookup_type,builtinLookup_eq_fast];kernel_rfl) (!3) (!3)
  (!3) (by first | exact .inl (!3) | exact .inr (!3)) (by rw[isSubtype_type];kernel_rfl)
theorem uD:entryFor table "set_iterator.__next__" = some Builtin.«set_iterator.__next__»:=entryFor_of_tree (by kernel_rfl)
theorem xt (a:ag):argsOk "set_iterator.__next__" ⟨[a],[]⟩:=by unfold argsOk;kernel_rfl
theorem xu:entryFor table "set.__iter__" = some Builtin.«frozenset.__iter__»:=entryFor_alias (id' := "frozenset.__iter__") (by kernel_rfl) rfl (!3) (by kernel_rfl)
section
variable {prog:a5}{w:World}{A:Around}{E:ag->aw->Prop}{s:aw}
theorem tH (hn:0<n)(h:∀i d,i<n->Q i { s with drawn:=d }):aE M A (choose src n) Q E s:=λΓ p hΓ=>by
 unfold choose;rw[Sem.wp_choose];refine⟨bN hn,?_⟩;rw[Sem.wp_pure];exact h _ _ (Nat.mod_lt _ hn)
theorem lp {M:Model}{α:Type}:∀(n:Nat) (xs:List α) {s:aw} {Q:List α->aw->Prop},n=xs.length->(∀ys d,ys.Perm xs->Q ys { s with drawn:=d })->aE M A (drawOrder n xs) Q E s
 | 0,[],s,Q,_,h=>by unfold drawOrder;exact aj (h [] s.drawn .nil)
 | 0,_::_,s,Q,e,_=>by cases e
 | n+1,[],s,Q,e,_=>by cases e
 | n+1,x::xs,s,Q,e,h=>by
  unfold drawOrder;refine ae (tH (!4) λi d hi=>?_);rw[aJ hi];dsimp only;refine ae (lp n ((x::xs).eraseIdx i) (by rw[List.length_eraseIdx_of_lt hi];omega) λys d' p=>aj ?_);exact h _ _ ((List.Perm.cons _ p).trans (by have:=pJ hi;rwa [List.singleton_append] at this))
noncomputable def tI (t:SetTable):Nat->Nat
 | 0=>0
 | i+1=>t.place.getD i 0+1
noncomputable def Ej (w:World)(a it pl:Addr)(es:Array (Int × ag))(ep:Nat)(t:SetTable)(out:List ag)(i:Nat)(first:ag)(h:Heap):Prop :=
 (km w=true/\first=.int 0 0/\out=(pickOrder (w.params.setOrder a ep) es).toList.map (·.2)) \/
 (km w=false/\(!t.plain && decide (es.size > 1))=false/\t.place.toList.Pairwise (· < ·)/\first=.int (tI t i:Nat) 0/\out=es.toList.map (·.2)) \/
 (km w=false/\first=.ref pl/\pl≠it/\∃ord:List Nat,h.IsTuple pl (ord.map λi:Nat=>rawInt i).toArray/\ord.Perm (List.range es.size)/\out=ord.map λi=>((es[i]?).map (·.2)).getD .none)
noncomputable def Dd (w:World)(a it pl:Addr)(o:Obj)(es:Array (Int × ag))(ep:Nat)(t:SetTable)(out:List ag)(i:Nat)(h:Heap):Prop :=
 h.get? a=some o/\out.length=es.size/\∃first,h.get? it=some { cls:=.type "set_iterator",data:=.fields #[first,.int i 0,.ref a,.int es.size 0,.int ep 0] }/\Ej w a it pl es ep t out i first h
structure zJ (w:World) (o:Obj) (es:Array (Int × ag)) (ep:Nat) (t:SetTable):Prop where
 ex:o.ExactSet
 dat:o.data=.set es ep t
 fit:t.fits es.size=true
 led:t.led=!km w
theorem Dd.frame (x:Dd w a it pl o es ep t out i h)(k:∀b∈[it,a,pl],∀o,h.get? b=some o->h'.get? b=some o):Dd w a it pl o es ep t out i h':=by
 obtain⟨x1,x2,f,x3,m⟩:=x;refine⟨k a (!4) _ x1,x2,f,k it (!4) _ x3,?_⟩;rcases m with m | m | ⟨m1,m2,m3,ord,m4,m5⟩
 .exact .inl m
 .exact .inr (.inl m)
 .exact .inr (.inr ⟨m1,m2,m3,ord,m4.at λo e=>k pl (!4) o e,m5⟩)
theorem Dd.type (x:Dd w a it pl o es ep t out i s.heap):s.TypeIs (.ref it) "set_iterator" := by
 obtain⟨_,_,f,e,_⟩:=x;exact⟨_,e,rfl⟩
theorem uE {t:SetTable}{n:Nat}(h:t.fits n=true):t.place.size=n:=by
 simp only[SetTable.fits,bo,beq_iff_eq] at h;exact h.1
theorem rA (F:zJ w o es ep t)(x:s.heap.get? a=some o)(m:km w=true)
  (q:Q ((((pickOrder (w.params.setOrder a ep) es).toList.map (·.2))[i]?).map λv=>(v,sl)) s):aE (model prog w) A (setNext a sl i ep) Q E s:=by
 unfold setNext;refine ae (wpAny_setState_of x F.dat F.fit ?_);dsimp only;unfold setsByText;refine ae (ae (wpAny_askSetting (aj ?_)));refine wpAny_ite_split (λ_=>?_) (λz=>absurd m z);rw[if_neg (!4)];unfold setWalk;refine ae (ae (wpAny_setState_of x F.dat F.fit ?_));dsimp only;unfold setsByText;refine ae (ae (wpAny_askSetting (aj ?_)));refine wpAny_ite_split (λ_=>?_) (λz=>absurd m z);refine ae (wpAny_askSetting (aj ?_));refine aj ?_
 have e:((pickOrder (w.params.setOrder a ep) es)[i]?).map (λe:Int × ag=>(e.2,sl))=(((pickOrder (w.params.setOrder a ep) es).toList.map (·.2))[i]?).map λv=>(v,sl):=by
  rw[aB,br,Option.map_map];rfl
 rw[<- e] at q;exact q
theorem rB {a:Addr}{o:Obj}{es:Array (Int × ag)}{ep i:Nat}{t:SetTable}{Q:Option (ag × Nat)->aw->Prop}(F:zJ w o es ep t)(x:s.heap.get? a=some o)(m:km w=false)(m2:(!t.plain && decide (es.size > 1))=false)
  (m3:t.place.toList.Pairwise (· < ·)) (hi:i<=es.size) (q:Q (((es.toList.map (·.2))[i]?).map λv=>(v,tI t (i+1))) s):aE (model prog w) A (setNext a (tI t i) i ep) Q E s:=by
 have hz:=uE F.fit;unfold setNext;refine ae (wpAny_setState_of x F.dat F.fit ?_);dsimp only;unfold setsByText;refine ae (ae (wpAny_askSetting (aj ?_)));refine wpAny_ite_split (λz=>absurd ((show km w=true from z).symm.trans m) (!2)) (λ_=>?_);refine wpAny_ite_split (λz=>absurd ((show (!t.plain && decide (es.size > 1))=true from z).symm.trans m2) (!2)) (λ_=>?_);show aE _ _ ((if (!t.led && !es.isEmpty)=true then unsupported "set:maker-not-led" else pure ()) >>= _) _ _ _;rw[F.led,m];rw[if_neg (!4)];refine ae (aj (aj ?_))
 have e:SetTable.below t.place (tI t i)=i:=by
  cases i with
  | zero=>exact SetTable.zH m3
  | succ j =>
   have hj:j<t.place.size:=by omega
   have:tI t (j+1)=t.place[j] + 1:=by unfold tI;simp[hj]
   rw[this];exact SetTable.zI m3 (by simp[hj])
 rw[e];rcases ce i es.size with hl | hl
 .have e1:es[i]? = some (es[i].1,es[i].2):=by simp[hl]
  have e2:t.place[i]? = some t.place[i]:=by simp[hz,hl]
  rw[e1,e2];have e3:(es.toList.map (·.2))[i]? = some es[i].2:=by rw[aB,br,e1];rfl
  rw[e3] at q;have e4:tI t (i+1)=t.place[i] + 1:=by unfold tI;simp[hz,hl]
  rw[e4] at q;exact q
 .have e1:es[i]? = none:=by simp[hl]
  have e3:(es.toList.map (·.2))[i]? = none:=by rw[aB,br,e1];rfl
  rw[e3] at q;rw[e1];exact q
theorem vK {h:Heap}{it:Addr}{vs:Array ag}(f:Array ag->Array ag)(ho:h.get? it=some { cls:=.type "set_iterator",data:=.fields vs }):(h.update it (Obj.mapFields f)).get? it=some { cls:=.type "set_iterator",data:=.fields (f vs) }:=by
 have:=aR (Obj.mapFields f) ho (Obj.isFreed_of_fields (Obj.data_mapFields rfl _));exact this
theorem zK {a it pl:Addr}{o:Obj}{es:Array (Int × ag)}{ep:Nat}{t:SetTable}{out:List ag}{i:Nat}{v:ag}{Q:Option ag->aw->Prop}(F:zJ w o es ep t)(x:Dd w a it pl o es ep t out i s.heap)(iy:a≠it)
  (hv:out[i]? = some v) (q:∀h',Dd w a it pl o es ep t out (i+1) h'->Heap.SameBut it s.heap h'->Q (some v) { s with heap:=h' }):aE (model prog w) A (pyNext (.ref it)) Q E s:=by
 have ty:=x.type;obtain⟨x1,x2,first,x3,m⟩:=x
 have hi:i<out.length:=by
  rcases ce i out.length with z | z
  .exact z
  .rw[bg z] at hv;cases hv
 unfold pyNext;refine ae (wpAny_attempt (wpAny_callSpecial?_slot (name:=Str.ofString "__next__") ty kn (wpAny_call_entry kn ty uD ?_ (xt _))));show aE _ _ (fieldsOf (.ref it) >>= _) _ _ s;refine ae (wpAny_fieldsOf x3 rfl ?_);show aE _ _ (setEntries a >>= _) _ _ s;refine ae (wpAny_setEntries_of x1 F.dat F.fit ?_);rw[if_neg (!4)];have ot:∀(f:Obj->Obj) (h:Heap) (b:Addr) (ob:Obj),b≠it->h.get? b=some ob->(h.update it f).get? b=some ob:=λf h b ob hb e=>(aH _ _ (Ne.symm hb)).trans e
 have go:∀(sl nx:Nat),s.heap.get? it=some { cls:=.type "set_iterator",data:=.fields #[.int sl 0,.int i 0,.ref a,.int es.size 0,.int ep 0] }->(∀h',Ej w a it pl es ep t out (i+1) (.int nx 0) h') ->
   (∀Q':Option (ag × Nat)->aw->Prop,∀E',Q' ((out[i]?).map λv=>(v,nx)) s->aE (model prog w) A.in1 (setNext a sl i ep) Q' E' s) ->
   ∀{E':ag->aw->Prop},aE (model prog w) A.in1 (setNext a ((sl:Int).toNat) ((i:Int).toNat) ((ep:Int).toNat) >>= λr=>match r with
    | some (y,next)=>setField (.ref it) 0 (rawInt next) >>= λ_=>setField (.ref it) 1 (rawInt ((i:Int)+1)) >>= λ_=>ret y
    | none=>setField (.ref it) 2 ag.none >>= λ_=>newExc (ag.type "StopIteration") [] >>= λe=>raiseNew e) (λfin s'=>∃v,fin=.done (.ret v)/\Q (some v) s') E' s:=by
  intro sl nx x3 md Vo E';simp only[bh];refine ae (Vo _ _ ?_);rw[hv];dsimp only [Option.map];refine ae (wpAny_setField x3 rfl (!4) (ae ?_));have y1:=vK (·.setIfInBounds 0 (rawInt nx)) x3;refine wpAny_setField (s:={ s with heap:=s.heap.update it (Obj.mapFields (·.setIfInBounds 0 (rawInt nx))) }) y1 rfl (!4) (aj ⟨v,rfl,?_⟩);have y2:=vK (·.setIfInBounds 1 (rawInt ((i:Int)+1))) y1;exact q _ ⟨ot _ _ a o iy (ot _ _ a o iy x1),x2,.int nx 0,by rw[y2];simp[rawInt],md _⟩ ((Heap.SameBut.update ..).trans (Heap.SameBut.update ..))
 rcases m with⟨m1,rfl,m2⟩ | ⟨m1,m2,m3,rfl,m4⟩ | ⟨m1,rfl,m2,ord,⟨RG,t1,t2,nt,t3⟩,m4,m5⟩
 .exact bS (go 0 0 x3 (λh'=>.inl ⟨m1,rfl,m2⟩) λQ' E' q'=>rA F x1 m1 (by rw[<- m2];exact q')) (λfin s' ⟨v,e,h⟩=>⟨v,e,aj h⟩) λe s' h=>h
 .exact bS (go (tI t i) (tI t (i+1)) x3 (λh'=>.inr (.inl ⟨m1,m2,m3,rfl,m4⟩)) λQ' E' q'=>rB F x1 m1 m2 m3 (!1) (by rw[<- m4];exact q')) (λfin s' ⟨v,e,h⟩=>⟨v,e,aj h⟩) λe s' h=>h
 .show aE _ _ (seqItems? (.ref pl) >>= _) _ _ s
  refine ae (wpAny_seqItems t1 t3 ?_);rw[m5,aB] at hv
  cases ho:ord[i]? with
  | none=>rw[ho] at hv;cases hv
  | some j =>
   rw[ho] at hv
   have hj:j<es.size:=by
    have:j∈List.range es.size:=m4.mem_iff.mp (bY ho);exact cN.mp this
   have ej:es[j]? = some (es[j].1,es[j].2):=by simp[hj]
   have ev:v=es[j].2:=by simp only[bJ,ej] at hv;cases hv;rfl
   have M9:((ord.map λi:Nat=>rawInt i).toArray)[(i:Int).toNat]? = some (.int j 0):=by
    rw[cc,bh,aB,ho];rfl
   dsimp only;rw[M9];dsimp only;refine ae ?_;unfold setNextDrawn;refine ae (wpAny_setState_of x1 F.dat F.fit ?_);dsimp only;rw[if_neg (!4),bh,ej];dsimp only;refine aj ?_;refine ae (wpAny_setField x3 rfl (!4) (aj ⟨_,rfl,aj ?_⟩));have y2:=vK (·.setIfInBounds 1 (rawInt ((i:Int)+1))) x3;rw[<- ev];exact q _ ⟨ot _ _ a o iy x1,x2,.ref pl,by rw[y2];simp[rawInt],.inr (.inr ⟨m1,rfl,m2,ord,⟨RG,ot _ _ pl RG m2 t1,t2,nt,t3⟩,m4,m5⟩)⟩ (Heap.SameBut.update ..)
theorem rC {a it pl:Addr}{o:Obj}{es:Array (Int × ag)}{ep:Nat}{t:SetTable}{out:List ag}{Q:Option ag->aw->Prop}(hh:A.handled=none)(F:zJ w o es ep t)(x:Dd w a it pl o es ep t out out.length s.heap)
  (q:∀h',Heap.ExtBut it s.heap h'->Q none { s with heap:=h' }):aE (model prog w) A (pyNext (.ref it)) Q E s:=by
 have ty:=x.type;obtain⟨x1,x2,first,x3,m⟩:=x;unfold pyNext;refine ae (wpAny_attempt (wpAny_callSpecial?_slot (name:=Str.ofString "__next__") ty kn (wpAny_call_entry kn ty uD ?_ (xt _))));show aE _ _ (fieldsOf (.ref it) >>= _) _ _ s;refine ae (wpAny_fieldsOf x3 rfl ?_);show aE _ _ (setEntries a >>= _) _ _ s;refine ae (wpAny_setEntries_of x1 F.dat F.fit ?_);rw[if_neg (!4)]
 have fin:∀{α:Type} (h1:Heap) (B:Around) (Q':α->aw->Prop),B.handled=none->Heap.ExtBut it s.heap h1->aE (model prog w) B (newExc (ag.type "StopIteration") [] >>= λe=>raiseNew e)
   Q' (λe s'=>aE (model prog w) A (isInstance e (ag.type "StopIteration") >>= λb=>if b=true then pure none else throw e) Q E s') { s with heap:=h1 }:=by
  intro α h1 B Q' hB k1;refine ae ?_;simp only[newExc,newTuple];refine ae (aW (ae (m:=firstArgMember _ _) (wpAny_of_eq (a:=ag.none) (by first | rfl | (simp only[firstArgMember];rfl)) (aW ?_ (by size_fits)))) (by size_fits));simp only[raiseNew];refine ae (wpAny_handled ?_);rw[hB];refine ae (aj (wpAny_throw ?_));refine ae (wpAny_isInstance (T := "StopIteration") (b:=true) ⟨_,ax _ rfl,rfl⟩ isSubtype_stop (aj ?_));exact q _ ((k1.push _).push _)
 have no:out[out.length]? = none:=by simp
 rcases m with⟨m1,rfl,m2⟩ | ⟨m1,m2,m3,rfl,m4⟩ | ⟨m1,rfl,m2,ord,⟨RG,t1,t2,nt,t3⟩,m4,m5⟩
 .show aE _ _ (setNext a _ _ _ >>= _) _ _ s
  simp only[bh];refine ae (rA F x1 m1 ?_);rw[<- m2,no];dsimp only [Option.map];exact ae (wpAny_setField x3 rfl (!4) (fin _ _ _ hh (Heap.SameBut.update ..).extBut))
 .show aE _ _ (setNext a _ _ _ >>= _) _ _ s
  simp only[bh];refine ae (rB F x1 m1 m2 m3 (!1) ?_);rw[<- m4,no];dsimp only [Option.map];exact ae (wpAny_setField x3 rfl (!4) (fin _ _ _ hh (Heap.SameBut.update ..).extBut))
 .show aE _ _ (seqItems? (.ref pl) >>= _) _ _ s
  refine ae (wpAny_seqItems t1 t3 ?_);have ol:ord.length=out.length:=by rw[m5,ar]
  have M9:((ord.map λi:Nat=>rawInt i).toArray)[((out.length:Nat):Int).toNat]? = none:=by
   rw[cc,bh,aB,bg (!1)];rfl
  dsimp only;rw[M9];dsimp only;refine ae (wpAny_setField x3 rfl (!4) (ae ?_));have y1:=vK (·.setIfInBounds 0 (rawInt 0)) x3;exact wpAny_setField (s:={ s with heap:=s.heap.update it (Obj.mapFields (·.setIfInBounds 0 (rawInt 0))) }) y1 rfl (!4) (fin _ _ _ hh ((Heap.SameBut.update ..).trans (Heap.SameBut.update ..)).extBut)
end
open PyProof.Rows
theorem uF:Slot "set_iterator" "__iter__" "set_iterator.__iter__" :=
 Slot.of (owner := "set_iterator") (n := "__iter__") (by rw[typeLookup_type,builtinLookup_eq_fast];kernel_rfl) (!3) (!3)
  (!3) (by first | exact .inl (!3) | exact .inr (!3)) (by rw[isSubtype_type];kernel_rfl)
theorem zL:entryFor table "set_iterator.__iter__" = some Builtin.«dict_keyiterator.__iter__»:=entryFor_alias (id' := "dict_keyiterator.__iter__") (by kernel_rfl) rfl (!3) (by kernel_rfl)
theorem Co (a:ag):argsOk "set_iterator.__iter__" ⟨[a],[]⟩:=by unfold argsOk;kernel_rfl
section
theorem vJ.ints:vJ l->IntsAre (l.map (·.2)) (l.filterMap Ck):=by
 induction l with
 | nil=>intro _;exact .nil
 | cons e l ih =>
  intro h;obtain⟨k,t,rfl⟩:=h e (!4);exact .cons k t (ih λe he=>h e (by simp[he]))
theorem xv (es:Array (Int × ag)):∀(l:List Nat),(∀j∈l,j<es.size)->(l.map λi=>((es[i]?).map (·.2)).getD ag.none)=(l.filterMap λi=>es[i]?).map (·.2)
 | [],_=>rfl
 | j::l,h=>by
  have hj:=h j (!4);have e:es[j]? = some es[j]:=by simp[hj]
  rw[ak,cf,e,xv es l λi hi=>h i (by simp[hi])];rfl
theorem xw (x:iP w a ns s.heap) (q:∀h' d' it pl o es ep t out ms,zJ w o es ep t->Dd w a it pl o es ep t out 0 h'->(∀b ob,s.heap.get? b=some ob->h'.get? b=some ob) ->
   s.heap.objs.size<=it->s.heap.objs.size<=pl->IntsAre out ms->ms.Perm ns->Q (.ref it) { s with heap:=h',drawn:=d' }):aE (model prog w) A (pyIter (.ref a)) Q E s:=by
 have ty:=x.type;obtain⟨o,es,ep,t,ho,ex,hd,h1,h2,h3,h4,h5,h6⟩:=x;have F:zJ w o es ep t:=⟨ex,hd,h4,h5⟩;have hz:=uE h4;refine wpAny_pyIter_slot ty PySem.F.slot_set_iter (wpAny_call_entry PySem.F.slot_set_iter ty xu ?_ (PySem.F.args_set_iter_1 _));unfold Builtin.«frozenset.__iter__» Builtin.Frozenset.slot0 slotArgs;simp only[List.isEmpty_nil,Bool.not_true,bO,↓reduceIte,bind_assoc,aX,bne_self_eq_false];unfold Builtin.Frozenset.addrOf Builtin.Frozenset.sizeOf;refine ae (aj ?_);try dsimp only
 refine ae (aj ?_);refine ae (ae (wpAny_setEntries_of ho hd h4 (aj ?_)));unfold setDrawn;refine ae (ae (wpAny_setState_of ho hd h4 ?_));dsimp only;unfold setsByText;refine ae (ae (wpAny_askSetting (aj (aj ?_))))
 have fin:∀(h':Heap) (d':_) (pl:Addr) (first:ag) (out:List ag) (ms:List Int),(∀b ob,s.heap.get? b=some ob->h'.get? b=some ob)->s.heap.objs.size<=h'.objs.size->s.heap.objs.size<=pl ->
   Ej w a h'.objs.size pl es ep t out 0 first (h'.push { cls:=.type "set_iterator",data:=.fields #[first,.int 0 0,.ref a,.int es.size 0,.int ep 0] })->out.length=es.size->IntsAre out ms->ms.Perm ns ->
   aE (model prog w) A.in1 (setEpoch a >>= λe=>newFields "set_iterator" [first,rawInt 0,.ref a,rawInt es.size,rawInt e] >>= λv=>ret v)
    (λfin s'=>∃v,fin=.done (.ret v)/\∃T' r,s'.TypeIs v T'/\typeLookup (.type T') "__next__" = pure (some r)/\Q v s') E { s with heap:=h',drawn:=d' }:=by
  intro h' d' pl first out ms kp z1 z2 md ol ia pm
  refine ae (wpAny_setEpoch_of (s:={ s with heap:=h',drawn:=d' }) (kp a o ho) hd h4 ?_);unfold newFields;refine ae (aW (aj ⟨_,rfl, "set_iterator",_,⟨_,ax _ rfl,rfl⟩,kn.lookup,?_⟩));have g:(h'.push { cls:=.type "set_iterator",data:=.fields #[first,.int 0 0,.ref a,.int es.size 0,.int ep 0] }).get? h'.objs.size=some { cls:=.type "set_iterator",data:=.fields #[first,.int 0 0,.ref a,.int es.size 0,.int ep 0] }:=ax _ rfl;exact q _ d' h'.objs.size pl o es ep t out ms F ⟨ah _ (kp a o ho),ol,first,g,md⟩ (λb ob e=>ah _ (kp b ob e)) z1 z2 ia pm
 cases hb:km w with
 | true =>
  refine wpAny_ite_split (λz=>?_) (λ_=>?_)
  .exfalso
   have:(!km w && (!t.plain && decide (es.size > 1)))=true:=z;rw[hb] at this;cases this
  .refine ae (aj ?_)
   have p1:=rq (w.params.setOrder a ep) es;refine fin s.heap s.drawn s.heap.objs.size (.int 0 0) _ _ (λ_ _ e=>e) (ao _) (ao _) (.inl ⟨hb,rfl,rfl⟩) ?_ (vJ.ints (h1.perm p1)) ((p1.filterMap Ck).trans h2);rw[ar,p1.length_eq,bu]
 | false =>
  refine wpAny_ite_split (λz=>?_) (λz=>?_)
  .refine ae (lp es.size (List.range es.size) (!4) λord d' p=>?_)
   refine ae (wpAny_newTuple ?_ ?_)
   .have lt:∀j∈ord,j<es.size:=λj hj=>cN.mp (p.mem_iff.mp hj)
    have p1:(ord.filterMap λi=>es[i]?).Perm es.toList:=(p.filterMap _).trans (by rw[filterMap_getElem?_range]);have g:(s.heap.push { cls:=.type "tuple",data:=.seq (ord.map λi:Nat=>rawInt i).toArray }).get? s.heap.objs.size=some { cls:=.type "tuple",data:=.seq (ord.map λi:Nat=>rawInt i).toArray }:=ax _ rfl;refine fin _ d' s.heap.objs.size (.ref s.heap.objs.size) (ord.map λi=>((es[i]?).map (·.2)).getD .none) ((ord.filterMap λi=>es[i]?).filterMap Ck) (λb ob e=>ah _ e) (by rw[bB];exact cH _) (ao _) ?_ ?_ ?_ ((p1.filterMap Ck).trans h2)
    .refine .inr (.inr ⟨hb,rfl,by rw[bB];exact aT (cr _),ord,⟨_,ah _ g,rfl,0,rfl⟩,p,rfl⟩)
    .rw[ar,p.length_eq,List.length_range]
    .rw[xv es ord lt]
     exact vJ.ints (h1.perm p1)
   .have:ord.length=es.size:=by rw[p.length_eq,List.length_range]
    have hb:scanBound=4096:=rfl;simp only[ar,this];rw[sizeLine_eq];omega
  .refine ae (aj ?_)
   have z':(!t.plain && decide (es.size > 1))=false:=by
    have:¬ (!km w && (!t.plain && decide (es.size > 1)))=true:=z;rw[hb] at this;simpa using this
   refine fin s.heap s.drawn s.heap.objs.size (.int 0 0) _ _ (λ_ _ e=>e) (ao _) (ao _) (.inr (.inl ⟨hb,z',?_,rfl,rfl⟩)) ?_ (vJ.ints h1) h2
   .cases hp:t.plain with
    | true=>exact h6 hp
    | false =>
     rw[hp] at z';have:t.place.toList.length<=1:=by rw[bu,hz];simpa using z'
     match t.place.toList,this with
     | [],_=>exact .nil
     | [a],_=>exact List.pairwise_singleton _ _
     | _::_::_,h=>exact absurd h (!4)
   .rw[ar,bu]
theorem zM (x:Dd w a it pl o es ep t out i s.heap)(q:Q (.ref it) s):aE (model prog w) A (pyIter (.ref it)) Q E s:=by
 have ty:=x.type;refine wpAny_pyIter_slot ty uF (wpAny_call_entry uF ty zL ?_ (Co _));show aE _ _ (ret (.ref it)) _ _ s;exact aj ⟨_,rfl, "set_iterator",_,ty,kn.lookup,q⟩
theorem Cp (out:List ag)(hh:A.handled=none)(F:zJ w o es ep t)(iy:a≠it) :
  Walks prog w A it [it,a,pl] [it] out.length (λi v=>out[i]? = some v) (Dd w a it pl o es ep t out) where
 sub:=λb hb=>by simp at hb;simp[hb]
 frame:=λ_ _ _ st k=>st.frame k
 item:=λi s Q E hi st hQ=>by
  have e:out[i]? = some out[i]:=by simp[hi]
  exact zK F st iy e λh' tm sb=>hQ _ h' s.toks e tm λb ob hb e=>sb.extBut b ob (λh=>hb (by simp[h])) e
 done:=λs Q E st hQ=>rC hh F st λh' ex=>hQ h' s.toks λb ob hb e=>ex b ob (λh=>hb (by simp[h])) e
 self:=λ_ _ _ _ st hQ=>zM st hQ
end
open PyProof.Rows
section
theorem Ek (x:iP w d ns s.heap)(h:∀b,Q b s):aE (model prog w) A (Builtin.List.listLengthHint (.ref d)) Q E s:=by
 have ty:=x.type;unfold Builtin.List.listLengthHint;refine ae (wpAny_specialOf ty F.slot_set_len.lookup ?_);generalize hj:("set.__len__" : String)=j0
 wp_delta
 rw[show splitId j0=some ("set", "__len__") from by subst hj;decide +kernel];subst hj;refine ae (wpAny_isInstance (T := "set") (b:=true) ty (by rw[isSubtype_type];kernel_rfl) ?_);refine wpAny_ite_split (λz=>absurd z (!2)) (λ_=>?_);refine wpAny_ite_split (λ_=>?_) (λz=>absurd (!3) z);exact ae (wpAny_typeOf ty (aj (h _)))
theorem zN (hh:A.handled=none)(x:iP w d ns s.heap)(hlen:ns.length<=aA)(S:Addr)(res:ag)(c₀:Nat)(hS:s.heap.get? S=some { cls:=.type "list",data:=.seq #[] c₀ })
  (hR:∀h' tk d' xy c' ms,(∀b o,b≠S->s.heap.get? b=some o->h'.get? b=some o)->h'.get? S=some { cls:=.type "list",dict:=none,data:=.seq xy c',slots:=#[] }->IntsAre xy.toList ms->ms.Perm ns ->
   R (.ok (.ret res)) { s with heap:=h',toks:=tk,drawn:=d' }) :
  aE (model prog w) A.in1 (Builtin.List.listExtendWith (.ref S) (.ref d) res)
   (λfin s'=>match fin with | .done f=>R (.ok f) s' | .again c'=>c'.quiet=true/\codeAny (model prog w) A c' R s') (λe s'=>R (.error e) s') s:=by
 have ty:=x.type;have Vp:d<s.heap.objs.size:=by obtain⟨o,es,ep,t,e,_⟩:=id x;exact aF e
 have TU:S<s.heap.objs.size:=aF hS
 have TV:S≠d:=λz=>by
  obtain⟨o,e,c⟩:=ty;rw[<- z,hS] at e;cases e;exact absurd (show ag.type "list" = ag.type "set" from c) (!2)
 unfold Builtin.List.listExtendWith;refine ae (wpAny_typeOf ty ?_);have n1:Builtin.List.listSameRef (.ref S) (.ref d)=false:=by simp[Builtin.List.listSameRef,TV]
 have n2:(ag.type "set" == ag.type "list")=false:=by decide
 have n3:(ag.type "set" == ag.type "tuple")=false:=by decide
 simp only[n1,n2,n3,Bool.or_false,bO,if_false];refine ae (xw x λh1 d1 it pl o es ep t out ms Fx st A4 OH lH ia pm=>?_);have iy:d≠it:=aT (aL Vp OH);have Vq:S≠it:=aT (aL TU OH);have Vr:S≠pl:=aT (aL TU lH)
 have OQ:S ∉ [it,d,pl]:=λz=>by
  rcases au.mp z with z | z
  .exact Vq z
  .rcases au.mp z with z | z
   .exact TV z
   .exact Vr (am.mp z)
 have W:=(Cp (prog:=prog) (w:=w) (A:=A.in1) (a:=d) (it:=it) (pl:=pl) out hh Fx iy).toS;have ol:out.length=ns.length:=by rw[<- pm.length_eq];exact IntsAre.length ia
 have run:∀(h:Heap) (c₁ tk:Nat),Dd w d it pl o es ep t out 0 h->(∀b o,b≠S->s.heap.get? b=some o->h.get? b=some o) ->
   h.get? S=some { cls:=.type "list",data:=.seq #[] c₁ }->codeAny (model prog w) A (.builtin "list.extend.loop" ⟨[.ref S,.ref it,res],[]⟩) R { s with heap:=h,toks:=tk,drawn:=d1 }:=by
  intro h c₁ tk LU hk xA;refine codeAny_extend_loopS W (!1) S OQ res out.length 0 _ #[] c₁ rfl (bL _) LU xA (ItemsOf.nil _) λs' xy c' mv Vs G5=>?_;have g8:=Moved.eq_with mv
  have OS:xy.toList=out:=by
   refine List.ext_getElem? λj=>?_;rw[br];rcases ce j xy.size with hj | hj
   .have e:xy[j]? = some xy[j]:=by simp[hj]
    rw[e,G5.2 j _ e]
   .rw[b9 hj,bg (by have:=G5.1;omega)]
  rw[g8];refine hR s'.heap s'.toks d1 xy c' ms (λb o hb e=>mv.heap b o (λz=>?_) (hk b o hb e)) Vs (by rw[OS];exact ia) pm;rcases au.mp z with z | z
  .exact hb z
  .have:b=it:=by simpa using z
   exact absurd (aL (aF e) OH) (by rw[this];exact bA _)
 have xA:=A4 S _ hS;refine ae (wpAny_holding (Ek (s:={ s with heap:=h1,drawn:=d1 }) (x.keep λo e=>A4 _ o e) λb=>?_));refine wpAny_ite_split (λ_=>?_) (λ_=>aj ⟨plainId_quiet F.plain_extend_loop _,run h1 c₀ s.toks st (λb o _ e=>A4 b o e) xA⟩);refine ae (wpAny_rule (ae ?_));show aE _ _ (updateSeq S (·.push .none) >>= λ_=>updateSeq S (·.pop)) _ _ { s with heap:=h1,drawn:=d1 };refine ae (wpAny_updateSeq xA rfl ?_);have Ju:=aR (Obj.mapSeq (·.push ag.none)) xA rfl;refine wpAny_updateSeq (hz:=by seq_fits) Ju rfl ?_;have OT:=aR (Obj.mapSeq (·.pop)) Ju rfl
 have Jv:∀b o,b≠S->h1.get? b=some o->((h1.update S (Obj.mapSeq (·.push ag.none))).update S (Obj.mapSeq (·.pop))).get? b=some o:=λb o hb e =>
  (aH _ _ (Ne.symm hb)).trans ((aH _ _ (Ne.symm hb)).trans e)
 refine aj ⟨plainId_quiet F.plain_extend_loop _,run _ _ s.toks (st.frame λb hb o e=>Jv _ o (λz=>OQ (z ▸ hb)) e) (λb o hb e=>Jv b o hb (A4 b o e)) OT⟩
theorem xB (hh:A.handled=none)(x:iP w d ns s.heap)(hlen:ns.length<=aA)
  (hQ:∀h' tk d' acc ms,(∀b o,s.heap.get? b=some o->h'.get? b=some o)->IntsAre acc ms->ms.Perm ns->Q acc { s with heap:=h',toks:=tk,drawn:=d' }):aE (model prog w) A (collect (.ref d)) Q E s:=by
 unfold collect;refine ae (wpAny_runValue (codeAny_builtin F.entry_proto_collect ?_));rw[Around.under_plainId F.plain_proto_collect _];show aE _ A.in1 (newList [] >>= λl=>again (.builtin "list.__iadd__" ⟨[l,.ref d],[]⟩)) _ _ s;refine ae (aW (aj ⟨plainId_quiet F.plain_list_iadd _,codeAny_builtin F.entry_list_iadd ?_⟩));rw[Around.under_plainId F.plain_list_iadd _];show aE _ A.in1 (Builtin.List.listExtendWith (.ref s.heap.objs.size) (.ref d) (.ref s.heap.objs.size)) _ _ _;have hS:(s.heap.push { cls:=.type "list",data:=.seq ([]:List ag).toArray }).get? s.heap.objs.size=some { cls:=.type "list",data:=.seq #[] 0 }:=ax _ rfl;have k0:∀b o,s.heap.get? b=some o->(s.heap.push { cls:=.type "list",data:=.seq ([]:List ag).toArray }).get? b=some o:=λb o e=>ah _ e;generalize s.heap.push { cls:=.type "list",data:=.seq ([]:List ag).toArray }=h0 at hS k0 ⊢
 have DW:∀(h':Heap) (tk:Nat) (d':Drawn) (acc:Array ag) (c':Nat) (ms:List Int),(∀b o,b≠s.heap.objs.size->h0.get? b=some o->h'.get? b=some o) ->
   h'.get? s.heap.objs.size=some { cls:=.type "list",dict:=none,data:=.seq acc c',slots:=#[] }->IntsAre acc.toList ms->ms.Perm ns ->
   aE (model prog w) A (match ag.ref s.heap.objs.size with
   | ag.ref a=>do
    match (<- load a).data with
     | Data.seq xs _=>pure xs.toList
     | _=>unsupported "internal:collect"
   | _=>unsupported "internal:collect") Q E { s with heap:=h',toks:=tk,drawn:=d' }:=λh' tk d' acc c' ms kp e hi pm=>by
  show aE _ A (load s.heap.objs.size >>= _) _ _ _;refine ae (wpAny_load e ?_);exact aj (hQ h' tk d' acc.toList ms (λb o hb=>kp b o (aT (aF hb)) (k0 b o hb)) hi pm)
 refine bS (zN (A:=A) (R:=λr' s'=>r'=.ok (.ret (.ref s.heap.objs.size))/\∃h' tk d' acc c' ms,s'={ s with heap:=h',toks:=tk,drawn:=d' }/\(∀b o,b≠s.heap.objs.size->h0.get? b=some o->h'.get? b=some o) /\
   h'.get? s.heap.objs.size=some { cls:=.type "list",dict:=none,data:=.seq acc c',slots:=#[] }/\IntsAre acc.toList ms/\ms.Perm ns)
  (s:={ s with heap:=h0 }) hh (x.keep λo e=>k0 _ o e) hlen s.heap.objs.size (.ref s.heap.objs.size) 0 hS λh' tk d' acc c' ms kp e hi pm=>⟨rfl,h',tk,d',acc,c',ms,rfl,kp,e,hi,pm⟩) (λfin s' h=>?_) (λe s' h=>?_)
 .cases fin with
  | done f =>
   obtain⟨e,h',tk,d',acc,c',ms,rfl,kp,q,hi,pm⟩:=h;cases e;exact DW h' tk d' acc c' ms kp q hi pm
  | again c'=>exact⟨h.1,codeAny_mono h.2 λr NP hr=>by obtain⟨rfl,h',tk,d',acc,c',ms,rfl,kp,q,hi,pm⟩:=hr;exact DW h' tk d' acc c' ms kp q hi pm⟩
 .exact absurd h.1 (!4)
end
end PySem
namespace L2
open PySem PySem.Spec PyProof.Rows
section
variable {X:Cx}
theorem A5 {z:Heap}{n:Nat}{ob:Obj}(h:z.objs.size=n)(hf:ob.isFreed=false):(z.push ob).get? n=some ob:=h ▸ ax _ hf
theorem Inv.drawn (I:Inv X pins σ H s)(d:Drawn):Inv X pins σ H { s with drawn:=d } :=
 { ok:=I.ok,os:=I.os,bare:=I.bare,base:=I.base,loc:=I.loc,cell:=I.cell,free:=I.free,freeC:=I.freeC,pin:=I.pin,hok:=I.hok,len:=I.len }
theorem vL (w:World)(hc:X.calm=true)(hw:X.w=w:=by rfl):ff X (.builtin "sorted") (λxs H Q=>∃(p:Addr) (ns:List Int),xs=[.ref p]/\H p=some (.ext (iP w p ns))/\ns.length<64 /\
  ∀(l:Addr) (ms:List Int),ms.Perm ns->ms.Pairwise (·<=·)->H l=none->Q (.ref l) (d3 H l (.lst (ms.map V.int)))):=by
 subst hw;intro pins s σ H xs us Q I r h;obtain⟨p,ns,rfl,hp,M6,q⟩:=h;obtain⟨u,rfl,ru⟩:=vals1 r;cases ru;obtain⟨x,_,_⟩:=I.hok p _ hp;refine Calls.call_function_entry kind_sorted plain_sorted entry_sorted (args_sorted1 _) ?_;unfold Builtin.«sorted»;refine ae (m:=checkCount "sorted" 1 1 _) (aj ?_);refine ae (xB (A:=X.A.in1) (I.ok.hd hc) x (by rw[show aA=16777216 by decide];omega) λh1 tk d1 acc ms RH hI Qh=>?_)
 have OS:acc.length<64:=by
  rw[IntsAre.length hI,Qh.length_eq];exact M6
 refine ae (wpAny_newList ?_);have Gi:(h1.push (seqObj "list" acc.toArray 0)).get? h1.objs.size=some (seqObj "list" acc.toArray 0):=ax _ rfl;show aE _ _ _ _ _ { s with heap:=h1.push (seqObj "list" acc.toArray 0),toks:=tk,drawn:=d1 };refine ae (wpAny_holding (wpAny_call_entry slot_list_sort ⟨_,Gi,rfl⟩ entry_list_sort (list_sort_tree Gi hI OS λout Hr a1 a2 a3=>⟨_,rfl,?_⟩) (args_list_sort _)));refine aj ⟨_,rfl,?_⟩;have hm:=a2.length_eq;have F6:=Qh.length_eq;have hv:dQ (Hr.map V.int) out.toList:=dQ.qz a1;have hsz:(Hr.map V.int).length<=aA:=by rw[ar,show aA=16777216 by decide];omega
 have I1:Inv X pins σ H { s with heap:=h1,toks:=tk,drawn:=d1 }:=(I.kept (t':=tk) RH).drawn d1
 have LR:∀b ob,h1.get? b=some ob->(sortedHeap (h1.push (seqObj "list" acc.toArray 0)) h1.objs.size acc out).get? b=some ob:=by
  intro b ob e;have hb:h1.objs.size≠b:=bN (aF e);unfold sortedHeap;rw[aH _ _ hb];refine ah _ (ah _ ?_);rw[aH _ _ hb];exact ah _ e
 have nw:∃n,(sortedHeap (h1.push (seqObj "list" acc.toArray 0)) h1.objs.size acc out).get? h1.objs.size=some { cls:=.type "list",data:=.seq out n }:=by
  have g2:=aR (Obj.mapSeq λ_=>(#[]:Array ag)) Gi rfl;have g3:=ah (seqObj "list" #[] 0) (ah (seqObj "tuple" acc.toArray 0) g2);have g4:=aR (Obj.mapSeq λ_=>out) g3 rfl;exact⟨_,g4⟩
 obtain⟨n,nw⟩:=nw;exact⟨.ref h1.objs.size,_,I1.laid (t':=tk) (o:=.lst (Hr.map V.int)) LR (ao _) ⟨hsz,out.toList,n,hv,by simpa using nw⟩,rfl,q _ Hr (a2.trans Qh) a3 (I1.hok.fresh (ao _))⟩
theorem Cq (K:W.Frag)(w:World)(hc:X.calm=true)(hk:X.K=K:=by rfl)(hw:X.w=w:=by rfl):ff X (.type "set") (λxs H Q=>∃(p:Addr) (ns:List Int),xs=[.ref p]/\(fU K H p (ns.map V.int)\/gZ K H p (ns.map V.int))/\ns.length<4000 /\
  ∀(l:Addr) (ms:List Int),ms.Nodup->(∀k,k∈ms↔k∈ns)->ms.length<=ns.length->H l=none->Q (.ref l) (d3 H l (.ext (iP w l ms)))):=by
 subst hk hw;intro pins s σ H xs us Q I r h;obtain⟨p,ns,rfl,hp,jB,q⟩:=h;obtain⟨u,rfl,ru⟩:=vals1 r;cases ru
 have mem:∀(n:Nat) (k:Int),n=ns.length->(k∈g9 (λi=>ns.getD i 0) n↔k∈ns):=by
  intro n k e;subst e;rw[uz,List.mem_iff_getElem];constructor
  .rintro⟨j,hj,e⟩
   exact⟨j,hj,by rw[<- e];simp[hj]⟩
  .rintro⟨j,hj,e⟩
   exact⟨j,hj,by rw[<- e];simp[hj]⟩
 have fin:∀(n:Nat) (h':Heap) (tk:Nat),n=ns.length->iP X.w s.heap.objs.size (g9 (λi=>ns.getD i 0) n) h'->(∀b o,s.heap.get? b=some o->h'.get? b=some o)->EP X pins σ Q (.ref s.heap.objs.size) { s with heap:=h',toks:=tk }:=by
  intro n h' tk e x kp;have ol:=oZ (λi=>ns.getD i 0) n;refine⟨.ref s.heap.objs.size,_,I.laid (t':=tk) (o:=.ext (iP X.w s.heap.objs.size (g9 (λi=>ns.getD i 0) n))) kp (ao _) ⟨x,?_,λh1 h2 x k=>x.keep k⟩,rfl,q _ _ (xq _ _) (λk=>mem n k e) (!1) (I.hok.fresh (ao _))⟩;obtain⟨o,_,_,_,e,_⟩:=x;exact⟨o,e⟩
 have TX:∀B:Around,B.handled=none->B.in1.in1.in1.handled=none:=λB h=>by simp[h]
 rcases hp with hp | hp
 .obtain⟨its,rv,pl,hz⟩:=I.list hp
  obtain⟨o,ho,yX,n,hd⟩:=pl.isList;obtain⟨oc,Vt,Vu,Dc⟩:=o;simp only at yX hd;subst yX hd;have hl:=rv.length;rw[ar] at hl;have lH:p<s.heap.objs.size:=aF ho
  exact uB (s:=s) (ns:=ns) ho PySem.F.sub_list_set PySem.F.sub_list_frozenset (!2) (by simpa using IntsAre.og rv) (by rw[show scanBound=4096 from rfl,aC];omega)
   (λ{A' E' Q' z} e h=>wpAny_pyIter_list ⟨_,e,rfl,_,rfl⟩ h) (Walks.list (TX _ (I.ok.hd hc)) _ p (aT (bU lH)) its.toArray)
   (λz hz e=>⟨⟨_,A5 hz rfl,rfl,rfl⟩,⟨_,ah _ e,rfl,_,rfl⟩⟩) λh' tk x kp=>fin _ h' tk (by rw[aC];omega) x kp
 .obtain⟨its,rv,pl,hz⟩:=I.tuple hp
  obtain⟨o,ho,yX,n,hd⟩:=pl;obtain⟨oc,Vt,Vu,Dc⟩:=o;simp only at yX hd;subst yX hd;have hl:=rv.length;rw[ar] at hl;have lH:p<s.heap.objs.size:=aF ho
  exact uB (s:=s) (ns:=ns) ho PySem.F.sub_tuple_set PySem.F.sub_tuple_frozenset (!2) (by simpa using IntsAre.og rv) (by rw[show scanBound=4096 from rfl,aC];omega)
   (λ{A' E' Q' z} e h=>wpAny_pyIter_tuple ⟨_,e,rfl,_,rfl⟩ h) (Walks.tuple (TX _ (I.ok.hd hc)) _ p (aT (bU lH)) its.toArray)
   (λz hz e=>⟨⟨_,A5 hz rfl,rfl,rfl⟩,⟨_,ah _ e,rfl,_,rfl⟩⟩) λh' tk x kp=>fin _ h' tk (by rw[aC];omega) x kp
end
noncomputable def OU (K:W.Frag)(a:Addr):It :=
 ⟨λi H=>∃xs x,fU K H a xs/\xs[i]? = some x,λi H x H'=>∃T xi,x=.ref T/\H T=none/\H'=d3 H T (.tup [.int (i:Nat),xi])/\∀xs,fU K H a xs->xs[i]? = some xi,λi H=>∃xs,fU K H a xs/\xs.length<=i⟩
theorem zO {P:a5}{w:World}{K:W.Frag}{xo:List Expr}{k:Nat}{pos:Pos}(a e it:Addr)(iy:e≠it):wQ P w K (.Tuple xo k pos) (OU K a) [e,it] e (λi h=>(∃old,IsEnum h e it (i:Nat) old)/\h.IsListIter it a i) where
 mem:=by simp
 obj:=λi h st b hb=>by
  obtain⟨⟨old,he⟩,o,ho,hc,hd⟩:=st;rcases au.mp hb with z | z
  .subst z
   exact⟨_,he,λv z=>by cases z⟩
  .have z':b=it:=by simpa using z
   subst z';exact⟨o,ho,λv z=>by rw[hd] at z;cases z⟩
 keep:=λi h h' st kp=>by
  obtain⟨⟨old,he⟩,hi⟩:=st;exact⟨⟨old,kp e (!4) _ he⟩,hi.at λo q=>kp it (!4) o q⟩
 item:=by
  intro X hP hw hK hc i pins s σ H E I hf st hg;subst hP hw hK;obtain⟨⟨old,he⟩,hi⟩:=st;obtain⟨xs,x,hq,hx⟩:=hg;obtain⟨its,rv,p,hz⟩:=I.list hq;obtain⟨u,hu,ru⟩:=rv.get hx;refine wpAny_pyNext_enum_item he hi p.isList (x:=u) (by simpa using hu) iy λh1 eo i1 t1 _ kp=>⟨_,rfl,wpAny_letOwnedTupleGo_enum eo λh2 en sb=>?_⟩;have wD:e<s.heap.objs.size:=aF he;have Ry:it<s.heap.objs.size:=by obtain⟨_,q,_⟩:=hi;exact aF q
  have LR:∀b o,b≠e->b≠it->s.heap.get? b=some o->h2.get? b=some o:=λb o n1 n2 q=>(sb.2 b n1).trans (kp b o n1 n2 q);have i2:h2.IsListIter it a (i+1):=i1.at λo q=>(sb.2 it (Ne.symm iy)).trans q;have t2:h2.get? s.heap.objs.size=some { cls:=.type "tuple",data:=.seq #[.int i s.toks,u] }:=(sb.2 _ (bN wD)).trans t1;obtain⟨f0,f1,f2,f3,f4,f5⟩:=hf it (!4);obtain⟨g0,g1,g2,g3,g4,g5⟩:=hf e (!4);obtain⟨oi,RA,Vc,RB⟩:=id i2;obtain⟨o0,RC,_⟩:=id hi;have m1:(s.heap.update it λ_=>oi).get? it=some oi:=aR (λ_=>oi) RC (Obj.isFreed_of_fields RB);have I1:Inv X pins σ H { s with heap:=s.heap.update it λ_=>oi,toks:=s.toks+1 }:=I.turned (λb o hb q=>(aH _ _ (Ne.symm hb)).trans q) f0 f1 f3 f4 f5
  have RD:∀b o,b≠e->(s.heap.update it λ_=>oi).get? b=some o->h2.get? b=some o:=λb o hb q=>by
   by_cases Jt:b=it
   .subst Jt
    rw[m1] at q;cases q;exact RA
   .exact LR b o hb Jt ((aH _ _ (Ne.symm Jt)).symm.trans q)
  have I2:Inv X pins σ H { s with heap:=h2,toks:=s.toks+1 }:=Inv.turned (s:={ s with heap:=s.heap.update it λ_=>oi,toks:=s.toks+1 }) (h':=h2) (t':=s.toks+1) I1 RD g0 g1 g3 g4 g5;obtain⟨p0,p1,p2,p3,p4,p5⟩:=I.pX (ao s.heap.objs.size) (I.hok.fresh (ao _))
  have I3:Inv X pins σ (d3 H s.heap.objs.size (.tup [.int (i:Nat),x])) { s with heap:=h2,toks:=s.toks+1 } :=
   I2.DR (o:=.tup [.int (i:Nat),x]) t2 p0 p1 p3 p4 p5 ⟨by show 2<=aA;decide,[.int i s.toks,u],.cons ⟨_,rfl⟩ (.cons ru .nil),⟨_,t2,rfl,_,rfl,rfl⟩⟩
  refine⟨.ref s.heap.objs.size,_,I3,rfl,⟨_,x,rfl,p0,rfl,λys hy=>by rw[I.wN hy hq];exact hx⟩,⟨⟨u,by simpa using en⟩,i2⟩,λb hb=>?_⟩
  have OP:b≠s.heap.objs.size:=by
   rcases au.mp hb with z | z
   .rw[z];exact aT wD
   .have z':b=it:=by simpa using z
    rw[z'];exact aT Ry
  rw[dC OP];exact (hf b hb).1
 done:=by
  intro X hP hw hK hc i pins s σ H E I hf st hg;subst hP hw hK;obtain⟨⟨old,he⟩,hi⟩:=st;obtain⟨xs,hq,hx⟩:=hg;obtain⟨its,rv,p,hz⟩:=I.list hq;obtain⟨f0,f1,f2,f3,f4,f5⟩:=hf it (!4);have hl:=rv.length;exact wpAny_pyNext_enum_end (I.ok.hd hc) he hi p.isList (by simp;omega) λh' eb=>⟨rfl,I.turned (t':=s.toks) (λb o hb q=>eb b o hb q) f0 f1 f3 f4 f5⟩
 self:=λ_ _ _ _ _ st h=>by
  obtain⟨⟨old,he⟩,_⟩:=st;exact wpAny_pyIter_enum he h
section
variable {X:Cx}{xo:List Expr}{k:Nat}{Ht:Pos}
noncomputable def El (K:W.Frag)(te:TE):TE:=λσ H Q=>te σ H λx H1=>∃(p:Addr) (ns:List Int),x=.ref p/\(fU K H1 p (ns.map V.int)\/gZ K H1 p (ns.map V.int))/\ns.length<64 /\
 ∀(l:Addr) (ms:List Int) (H2:Hp),Ext [] H1 H2->H1 l=none->H2 l=some (.lst (ms.map V.int))->ms.Pairwise (· < ·)->(∀k,k∈ms↔k∈ns)->ms.length<=ns.length->Q (.ref l) H2
noncomputable def OV (te:TE):TE:=λσ H Q=>∃D:VK,te σ H D/\∀x H1,D x H1->Q x H1
theorem QE.mono (he:QE X e te):QE X e (OV te):=⟨λpins s σ H Q I ⟨D,h,k⟩=>fc (he.run pins s σ H D I h) λv s1 ⟨x,H1,I1,r1,q1⟩=>⟨x,H1,I1,r1,k x H1 q1⟩⟩
theorem iG {l:List Int}(h:l.Pairwise (·<=·))(d:l.Nodup):l.Pairwise (· < ·):=by
 have:=h.and d;exact this.imp λ{a b} ⟨h1,h2⟩=>by omega
theorem vM (K:W.Frag){e:Expr}{te:TE}{p1 p2 q1 q2:Pos}(hc:X.calm=true)(g1:Gl X "sorted")(m1:X.mg "sorted" = none)(g2:Gl X "set")(m2:X.mg "set" = none)(he:QE X e te)(hk:X.K=K:=by rfl)(hs:d8 e=true:=by rfl) :
  QE X (.Call (.Name "sorted" p1) [.Call (.Name "set" p2) [e] [] q2] [] q1) (El K te):=by
 have OW:=gg (p:=p2) (pos:=q2) (Cq K X.w hc hk rfl) g2 m2 (!3) (gk he.mono eG hs);have outer:=gK (p:=p1) (pos:=q1) (vL X.w hc rfl) g1 m1 (!3) (gk OW eG);refine outer.weaken λσ H Q h=>?_;refine⟨_,h,λx H1 ⟨p,ns,e1,e2,e3,q⟩=>⟨p,ns,by rw[e1],e2,!1,λl ms nd mm ml hl=>⟨l,ms,rfl,dq,!1,λl2 Vv pm ps h2=>?_⟩⟩⟩;refine q l2 Vv _ (Ext.trans (.new hl) (.new h2)) ?_ dq (iG ps (pm.nodup_iff.mpr nd)) (λk=>(pm.mem_iff).trans (mm k)) (by rw[pm.length_eq];exact ml)
 cases z:H1 l2 with
 | none=>rfl
 | some o=>exact absurd h2 (by rw[(Ext.new (S:=[]) hl).keep l2 o (!4) z];simp)
end
theorem fP:∀{ms ns:List Int},ms.Nodup->(∀k∈ms,k∈ns)->ms.length<=ns.length
 | [],_,_,_=>bL _
 | m::ms,ns,nd,h=>by
  have hm:=h m (aq ..);obtain⟨n1,n2⟩:=bb.mp nd;have ih:=fP (ms:=ms) (ns:=ns.erase m) n2 λk hk=>(List.mem_erase_of_ne (λ(z:k=m)=>n1 (z ▸ hk))).mpr (h k (ai _ hk));rw[cT hm] at ih;have:=c8 hm;simp only[ap];omega
end L2
namespace L2
open PySem
mutual
theorem dR.more {S:List Addr}{H:Hp}{p:Addr}(hp:H p=none):∀{d:af} {v:V},dR S H d v->dR (p::S) H d v
 | .none,_,h=>h
 | .bool _,_,h=>h
 | .int _,_,h=>h
 | .str _,_,h=>h
 | .tuple ds,_,h=>by
  unfold dR at h ⊢;obtain⟨a,xs,e,ha,hr⟩:=h;exact⟨a,xs,e,ha,dm.more hp hr⟩
 | .list ds,_,h=>by
  unfold dR at h ⊢;obtain⟨a,xs,e,ha,hs,hr⟩:=h;refine⟨a,xs,e,ha,λz=>?_,dm.more hp hr⟩;rcases au.mp z with z | z
  .rw[z,hp] at ha;cases ha
  .exact hs z
 | .dict l,_,h=>by
  unfold dR at h ⊢;obtain⟨a,t,kvs,xs,e,el,ha,hs,hk,hr⟩:=h;refine⟨a,t,kvs,xs,e,el,ha,λz=>?_,hk,fO.more hp hr⟩;rcases au.mp z with z | z
  .rw[z,hp] at ha;cases ha
  .exact hs z
theorem dm.more {S:List Addr}{H:Hp}{p:Addr}(hp:H p=none):∀{ds:List af} {vs:List V},dm S H ds vs->dm (p::S) H ds vs
 | [],_,h=>h
 | d::ds,_,h=>by
  unfold dm at h ⊢;obtain⟨y,r,e,h1,h2⟩:=h;exact⟨y,r,e,dR.more hp h1,dm.more hp h2⟩
theorem fO.more {S:List Addr}{H:Hp}{p:Addr}(hp:H p=none):∀{l:List (af × af)} {vs:List V},fO S H l vs->fO (p::S) H l vs
 | [],_,h=>h
 | (_,d)::l,_,h=>by
  unfold fO zt at h ⊢;obtain⟨y,r,e,h1,h2⟩:=h;exact⟨y,r,e,dR.more hp h1,fO.more hp h2⟩
end
end L2
namespace L2
open PySem PySem.Spec PyProof.Rows
noncomputable def RI (x:Addr)(cls:ag)(od:Option Addr):Heap->Prop:=λh=>∃oe vs,h.get? x=some oe/\oe.cls=cls/\oe.dict=od/\oe.data=.fields vs
noncomputable def Jw (d:Addr)(fs:List (Str × V)):Heap->Prop:=λh=>∃mA,h.Ns1 d mA/\∀g,nU (fs.lookup g) (mA g)
end L2
namespace PySem
theorem tJ (l:Addr)(items:Array ag)(n:Nat)(dd:Option Addr)(sl:Array (Option ag))(t:Tok) :
  Meets (Builtin.«tuple.__mul__» ⟨[.ref l,.int 1 t],[]⟩) (λ_ R s=>s.heap.get? l=some { cls:=.type "tuple",dict:=dd,data:=.seq items n,slots:=sl }/\R (.ok (.ret (ag.ref l))) s) :=
 .of_wp λprog w A R s h=>by
  obtain⟨hp,g,d,tk,os⟩:=s;obtain⟨hl,h⟩:=h;have f1:=AutoSeq1.idx_int
  wp_walk
  exact⟨_,rfl,h⟩
end PySem
namespace L2
open PySem PySem.Spec PyProof.Rows
variable {X:Cx}
noncomputable def LV (K:W.Frag):R2:=λx y H Q=>(∃a xs,x=.ref a/\y=.int 1/\gZ K H a xs/\Q (.ref a) H)\/Jo K x y H Q
theorem Em (K:W.Frag)(h:X.K=K:=by rfl):kC X (binaryOp .Mult) (LV K):=by
 subst h;intro pins s σ H x y v u Q I rx ry h;rcases h with h | h
 .obtain⟨a,xs,rfl,rfl,hx,q⟩:=h
  cases rx;obtain⟨t,rfl⟩:=ry;obtain⟨its,r,ht,hl⟩:=I.tuple hx;obtain⟨⟨cls,dd,data,sl⟩,ho,hc,n,hd⟩:=id ht;simp only at hc hd;subst hc hd
  exact wpAny_binaryOp_repeat_ref (T := "tuple") (U := "int") (!2) ⟨_,ho,rfl⟩ (λs'=>typeIs_int s' 1 t) kj F.fills_int_mul F.slot_int_rmul n9 F.slot_int_index.lookup
   (call_meets F.slot_int_rmul (typeIs_int s 1 t) F.entry_int_rmul (F.args_int_rmul_2 _ _) (lM 1 t a its.toArray n dd sl)
    ⟨ho,rfl,⟨_,ho,rfl⟩,call_meets F.slot_tuple_mul ⟨_,ho,rfl⟩ F.entry_tuple_mul (F.args_tuple_mul_2 _ _) (tJ a its.toArray n dd sl t) ⟨ho,⟨.ref a,H,I,rfl,q⟩⟩⟩)
 .exact Hg X.K rfl pins s σ H x y v u Q I rx ry h
inductive Ent where
 | s (d:af)
 | o (ds:List af)
 | x (c:Str) (as:List af)
 | d (a:Addr) (t:Bool) (kvs:List (List Int × af))
 | f (a:Addr) (o:Obj) (kvs:List (List Int × af)) (xs:List V)
structure Xc where
 cl:Str->Addr
 fl:Str->List Str
noncomputable abbrev d9:=List (Option Ent)
structure Fr where
 G:Hp->Int->Prop
 gs:List Addr
 S0:List Addr
 H0:Hp
 fa:V
 fd:List Nat
 xc:Xc
 i9:∀{S:List Addr} {H H':Hp} {n:Int},G H n->Ext S H H'->(∀a∈S,H0 a=none)->G H' n
 vN:∀{H:Hp} {n:Int},G H n->∀a∈gs,H a≠none
 RJ:∀{H:Hp} {n:Int},G H n->∀a∈gs,∀φ,H a≠some (.ext φ)
 OX:∀a∈gs,a∈S0
 tK:∀a∈S0,H0 a≠none
noncomputable def pK (M:Fr)(S:List Addr)(H:Hp):Ent->V->Prop
 | .s d,v=>dR S H d v
 | .o ds,v=>∃a xs,v=.ref a/\H a=some (.lst xs)/\dm S H ds xs/\a∈S/\M.H0 a=none
 | .x c as,v=>∃a dx vs,v=.ref a/\H a=some (.ext (RI a (.ref (M.xc.cl c)) (some dx)))/\H dx=some (.ext (Jw dx ((M.xc.fl c).zip vs)))/\dm S H as vs/\a ∉ M.gs/\dx ∉ M.gs
 | .d a t kvs,v=>v=.ref a/\∃xs,H a=some (mY t kvs xs)/\dm S H (kvs.map (·.2)) xs/\(t=false->∀p∈kvs,p.1.length=1)/\a∈S/\M.H0 a=none
 | .f a o kvs xs,v=>v=.ref a/\H a=some (.nj o (mY true kvs xs))/\dm S H (kvs.map (·.2)) xs/\a∈S/\M.H0 a=none
structure dA (M:Fr) (env:d9) (pn:List (af × V)) (σ:St) (S:List Addr) (H:Hp) (n:Int):Prop where
 val:∀(i:Nat) (e:Ent),env[i]? = some (some e)->∃v,σ[i]? = some (some v)/\pK M S H e v
 ne:∀(i j:Nat) (ds es:List af) (a:Addr),env[i]? = some (some (.o ds))->env[j]? = some (some (.o es))->σ[i]? = some (some (.ref a))->σ[j]? = some (some (.ref a))->i=j
 len:env.length=σ.length
 xC:∀i∈M.fd,σ[i]? = some (some M.fa)
 gd:M.G H n
 ext:Ext M.gs M.H0 H
 s0:∀a∈M.S0,a∈S
 sn:∀a∈S,a∈M.S0\/M.H0 a=none
 has:∀a∈S,H a≠none
 pin:∀p∈pn,dR S H p.1 p.2
section
theorem Fr.out (M:Fr)(h:M.H0 a=none):a ∉ M.gs:=λz=>M.tK a (M.OX a z) h
theorem dA.qA (ok:dA M env pn σ S H n):∀a∈M.gs,a∈S:=λa h=>ok.s0 a (M.OX a h)
theorem Ext.some (x:Ext S H H')(ha:a ∉ S)(h:H a≠none):H' a≠none:=by
 cases e:H a with
 | none=>exact absurd e h
 | some o=>rw[x.keep a o ha e];simp
theorem pK.step (hg:∀a∈M.gs,a∈S)(h:pK M S H e v)(x:Ext M.gs H H'):pK M S H' e v:=by
 cases e with
 | s d=>exact dR.ext (x.mono hg) h
 | o ds =>
  obtain⟨a,xs,e,ha,r,hs,h0⟩:=h;exact⟨a,xs,e,x.keep _ _ (M.out h0) ha,r.ext (x.mono hg),hs,h0⟩
 | x c as =>
  obtain⟨a,dx,vs,e,ha,hd,r,g1,g2⟩:=h;exact⟨a,dx,vs,e,x.keep _ _ g1 ha,x.keep _ _ g2 hd,r.ext (x.mono hg),g1,g2⟩
 | d a t kvs =>
  obtain⟨e,xs,ha,r,hk,hs,h0⟩:=h;exact⟨e,xs,x.keep _ _ (M.out h0) ha,r.ext (x.mono hg),hk,hs,h0⟩
 | f a o kvs xs =>
  obtain⟨e,ha,r,hs,h0⟩:=h;exact⟨e,x.keep _ _ (M.out h0) ha,r.ext (x.mono hg),hs,h0⟩
theorem dA.step (ok:dA M env pn σ S H n)(x:Ext M.gs H H')(g:M.G H' n'):dA M env pn σ S H' n':=by
 refine⟨λi e he=>?_,ok.ne,ok.len,ok.xC,g,ok.ext.trans x,ok.s0,ok.sn,λa ha=>?_,λp hp=>(ok.pin p hp).ext (x.mono ok.qA)⟩
 .obtain⟨v,hv,r⟩:=ok.val i e he
  exact⟨v,hv,r.step ok.qA x⟩
 .by_cases z:a∈M.gs
  .exact M.vN g a z
  .exact x.some z (ok.has a ha)
theorem dA.fresh (ok:dA M env pn σ S H n)(h:H a=none):a ∉ S:=λz=>ok.has a z h
theorem dA.grow (ok:dA M env pn σ S H n)(x:Ext [] H H'):M.G H' n:=M.i9 ok.gd x (!4)
end
theorem dR.fresh (ha:H a=none)(h:dR S H d v):dR (a::S) H d v:=dR.more ha h
theorem dm.fresh (ha:H a=none)(h:dm S H ds vs):dm (a::S) H ds vs:=dm.more ha h
noncomputable def ko (H:Hp):Prop:=∀a xs,H a=some (.lst xs)\/H a=some (.tup xs)->xs.length<=aA
theorem lC.kr (ok:lC P w H h):ko H:=λa xs e=>by
 rcases e with e | e
 .exact (ok a _ e).1
 .exact (ok a _ e).1
noncomputable def eL (gs S:List Addr)(H:Hp)(d:af)(v:V):Prop:=dR S H d v\/(∃ds a xs,d=.list ds/\v=.ref a/\H a=some (.lst xs)/\dm S H ds xs/\a ∉ gs)\/∃t kvs a xs,d=eC t kvs/\v=.ref a/\H a=some (mY t kvs xs)/\dm S H (kvs.map (·.2)) xs/\(t=false->∀p∈kvs,p.1.length=1)/\a ∉ gs
section
theorem eL.ext (h:eL gs S H d v)(hg:∀a∈gs,a∈S)(x:Ext gs H H'):eL gs S H' d v:=by
 rcases h with h | ⟨ds,a,xs,e1,e2,e3,r,ha⟩ | ⟨t,kvs,a,xs,e1,e2,e3,r,hk,ha⟩
 .exact .inl (h.ext (x.mono hg))
 .exact .inr (.inl ⟨ds,a,xs,e1,e2,x.keep _ _ ha e3,r.ext (x.mono hg),ha⟩)
 .exact .inr (.inr ⟨t,kvs,a,xs,e1,e2,x.keep _ _ ha e3,r.ext (x.mono hg),hk,ha⟩)
theorem eL.eO (h:eL gs S H (.list ds) v):∃a xs,v=.ref a/\H a=some (.lst xs)/\dm S H ds xs:=by
 rcases h with h | ⟨p8,a,xs,e1,e2,e3,r,_⟩ | ⟨t,kvs,a,xs,e1,_⟩
 .obtain⟨a,xs,e,ha,_,r⟩:=h.eO
  exact⟨a,xs,e,ha,r⟩
 .cases e1
  exact⟨a,xs,e2,e3,r⟩
 .cases e1
theorem eL.nv (h:eL gs S H (.dict l) v):∃a t kvs xs,v=.ref a/\l=m8 t kvs/\H a=some (mY t kvs xs)/\(t=false->∀p∈kvs,p.1.length=1)/\dm S H (kvs.map (·.2)) xs:=by
 rcases h with h | ⟨p8,a,xs,e1,_⟩ | ⟨t,kvs,a,xs,e1,e2,e3,r,hk,_⟩
 .obtain⟨a,t,kvs,xs,e,el,ha,_,hk,r⟩:=h.nv
  exact⟨a,t,kvs,xs,e,el,ha,hk,r⟩
 .cases e1
 .cases e1
  exact⟨a,t,kvs,xs,e2,rfl,e3,hk,r⟩
theorem eL.rep (h:eL gs S H d v)(hd:∀ds,d≠.list ds)(wW:∀l,d≠.dict l:=by intro _ z;cases z):dR S H d v:=by
 rcases h with h | ⟨ds,a,xs,e1,_⟩ | ⟨t,kvs,a,xs,e1,_⟩
 .exact h
 .exact absurd e1 (hd ds)
 .exact absurd e1 (wW _)
theorem eL.less (h:eL gs S H d v)(hg:∀a∈gs,a∈S):dR gs H d v:=by
 rcases h with h | ⟨ds,a,xs,rfl,rfl,e3,r,ha⟩ | ⟨t,kvs,a,xs,rfl,rfl,e3,r,hk,ha⟩
 .exact h.less hg
 .exact .lst e3 ha (r.less hg)
 .exact .M5 e3 ha hk (r.less hg)
theorem eL.eQ (h:eL gs S H (.tuple ds) v):∃a xs,v=.ref a/\H a=some (.tup xs)/\dm S H ds xs:=(h.rep (by intro _ z;cases z)).eQ
theorem eL.d4 (h:eL gs S H (.int i) v):v=.int i:=(h.rep (by intro _ z;cases z)).d4
theorem eL.kh (h:eL gs S H (.bool i) v):v=.bl i:=(h.rep (by intro _ z;cases z)).kh
theorem eL.jS (h:eL gs S H (.str i) v):v=.str i:=(h.rep (by intro _ z;cases z)).jS
theorem eL.kI (h:eL gs S H .none v):v=.gJ:=(h.rep (by intro _ z;cases z)).kI
end
noncomputable abbrev UX:=d9->Int->(af->Int->Prop)->Prop
noncomputable abbrev UT:=d9->Int->(Bool->Int->Prop)->Prop
noncomputable abbrev UA:=d9->Int->(List af->Int->Prop)->Prop
structure lO where
 nx:d9->Int->Prop
 rt:af->Int->Prop
noncomputable abbrev US:=lO->d9->Int->Prop
noncomputable def OY (M:Fr)(u:UX):TE:=λσ H R=>∃env pn S n Q,dA M env pn σ S H n/\u env n Q/\∀v H' d n',dR S H' d v->Ext M.gs H H'->M.G H' n'->ko H'->Q d n'->R v H'
noncomputable def xD (M:Fr)(u:UX):TE:=λσ H R=>∃env pn S n Q,dA M env pn σ S H n/\u env n Q/\∀v H' d n',eL M.gs S H' d v->Ext M.gs H H'->M.G H' n'->ko H'->Q d n'->R v H'
noncomputable def OZ (M:Fr)(u:d9->Int->(List af->Int->Prop)->Prop):TE:=λσ H R=>∃env pn S n Q,dA M env pn σ S H n/\u env n Q /\
 ∀a xs H' ds n',H a=none->H' a=some (.lst xs)->dm (a::S) H' ds xs->Ext M.gs H H'->M.G H' n'->ko H'->Q ds n'->R (.ref a) H'
noncomputable def liftT (M:Fr)(u:UT):TT:=λσ H R=>∃env pn S n Q,dA M env pn σ S H n/\u env n Q/\∀b H' n',Ext M.gs H H'->M.G H' n'->Q b n'->R b H'
noncomputable def O0 (M:Fr)(k:Nat)(u:UA):TA:=λσ H R=>∃env pn S n Q,dA M env pn σ S H n/\u env n Q/\∀vs H' ds n',vs.length=k->dm S H' ds vs->Ext M.gs H H'->M.G H' n'->ko H'->Q ds n'->R vs H'
noncomputable def jE (gs S:List Addr)(H:Hp):List af->List V->Prop
 | [],vs=>vs=[]
 | d::ds,vs=>∃v r,vs=v::r/\eL gs S H d v/\jE gs S H ds r
theorem jE.less:∀{ds:List af} {vs:List V},jE gs S H ds vs->(∀a∈gs,a∈S)->dm gs H ds vs
 | [],_,h,_=>by cases h;exact .nil
 | _::_,_,⟨v,r,e,h1,h2⟩,hg=>by subst e;exact .cons (h1.less hg) (jE.less h2 hg)
noncomputable def En (M:Fr)(u:UA):TA:=λσ H R=>∃env pn S n Q,dA M env pn σ S H n/\u env n Q/\∀vs H' ds n',jE M.gs S H' ds vs->Ext M.gs H H'->M.G H' n'->ko H'->Q ds n'->R vs H'
noncomputable def A6 (M:Fr)(u:US):TS:=λD σ H=>∃env pn S n E,dA M env pn σ S H n/\u E env n/\(∀dH σ' S' H' n',dA M dH pn σ' S' H' n'->E.nx dH n'->D.nx σ' H') /\
 (∀v H' d n',dR M.S0 H' d v->Ext M.gs M.H0 H'->M.G H' n'->E.rt d n'->D.rt v H')
structure KE (X:Cx) (M:Fr) (e:Expr) (u:UX):Prop where run:QE X e (OY M u)
structure KL (X:Cx) (M:Fr) (e:Expr) (u:UX):Prop where run:QE X e (xD M u)
structure KN (X:Cx) (M:Fr) (e:Expr) (u:d9->Int->(List af->Int->Prop)->Prop):Prop where run:QE X e (OZ M u)
structure KB (X:Cx) (M:Fr) (e:Expr) (u:UT):Prop where run:QT X e (liftT M u)
structure KW (X:Cx) (M:Fr) (e:Expr) (u:UT):Prop where run:QW X e (liftT M u)
structure KA (X:Cx) (M:Fr) (es:List Expr) (u:UA):Prop where run:QA X es (O0 M es.length u)
structure Jx (X:Cx) (M:Fr) (es:List Expr) (u:UA):Prop where run:QA X es (En M u)
structure KS (X:Cx) (M:Fr) (st:Stmt) (u:US):Prop where run:QS X st (A6 M u)
structure uG (X:Cx) (M:Fr) (st:List Stmt) (u:US):Prop where run:xa X st (A6 M u)
section
variable {X:Cx}{M:Fr}{e:Expr}{es:List Expr}{t:TE}{tT:TT}{ta:TA}{u:UX}
theorem A7 {A B C D E:Type}{P:A->B->C->D->E->Prop}{r:Prop}(h:∃a b c d e,P a b c d e)(k:∀a b c d e,P a b c d e->r):r:=by
 obtain⟨a,b,c,d,e,p⟩:=h;exact k a b c d e p
theorem Qi {A B C D E F:Type}{P:A->B->C->D->E->F->Prop}{r:Prop}(h:∃a b c d e f,P a b c d e f)(k:∀a b c d e f,P a b c d e f->r):r:=by
 obtain⟨a,b,c,d,e,f,p⟩:=h;exact k a b c d e f p
theorem QE.kr (h:QE X e t):QE X e (λσ H R=>t σ H λv H1=>ko H1->R v H1) :=
 ⟨λpins s σ H Q I q=>fc (h.run pins s σ H _ I q) λv s1 ⟨x,H1,I1,r1,q1⟩=>⟨x,H1,I1,r1,q1 I1.hok.kr⟩⟩
theorem QA.kr (h:QA X es ta):QA X es (λσ H R=>ta σ H λv H1=>ko H1->R v H1) :=
 ⟨λpos pins s σ H Q I q=>fc (h.run pos pins s σ H _ I q) λv s1 ⟨x,H1,I1,r1,q1⟩=>⟨x,H1,I1,r1,q1 I1.hok.kr⟩,h.ns⟩
theorem KE.of (h:QE X e t)(k:∀σ H R env pn S n Q,dA M env pn σ S H n->u env n Q->(∀v H' d n',dR S H' d v->Ext M.gs H H'->M.G H' n'->Q d n'->R v H')->t σ H R):KE X M e u :=
 ⟨h.kr.weaken λσ H R h=>A7 h λenv pn S n Q h=>k σ H _ env pn S n Q h.1 h.2.1 λv H' d n' r x g qq sz=>h.2.2 v H' d n' r x g sz qq⟩
theorem KL.of (h:QE X e t)(k:∀σ H R env pn S n Q,dA M env pn σ S H n->u env n Q->(∀v H' d n',eL M.gs S H' d v->Ext M.gs H H'->M.G H' n'->Q d n'->R v H')->t σ H R):KL X M e u :=
 ⟨h.kr.weaken λσ H R h=>A7 h λenv pn S n Q h=>k σ H _ env pn S n Q h.1 h.2.1 λv H' d n' r x g qq sz=>h.2.2 v H' d n' r x g sz qq⟩
theorem KN.of {u:d9->Int->(List af->Int->Prop)->Prop}(h:QE X e t)(k:∀σ H R env pn S n Q,dA M env pn σ S H n->u env n Q->(∀a xs H' ds n',H a=none->H' a=some (.lst xs)->dm (a::S) H' ds xs->Ext M.gs H H'->M.G H' n'->Q ds n'->R (.ref a) H')->t σ H R):KN X M e u :=
 ⟨h.kr.weaken λσ H R h=>A7 h λenv pn S n Q h=>k σ H _ env pn S n Q h.1 h.2.1 λa xs H' ds n' h0 h1 r x g qq sz=>h.2.2 a xs H' ds n' h0 h1 r x g sz qq⟩
theorem KA.of {u:UA}(h:QA X es ta)(k:∀σ H R env pn S n Q,dA M env pn σ S H n->u env n Q->(∀v H' d n',v.length=es.length->dm S H' d v->Ext M.gs H H'->M.G H' n'->Q d n'->R v H')->ta σ H R):KA X M es u :=
 ⟨h.kr.weaken λσ H R h=>A7 h λenv pn S n Q h=>k σ H _ env pn S n Q h.1 h.2.1 λv H' d n' hl r x g qq sz=>h.2.2 v H' d n' hl r x g sz qq⟩
theorem Jx.of {u:UA}(h:QA X es ta)(k:∀σ H R env pn S n Q,dA M env pn σ S H n->u env n Q->(∀v H' d n',jE M.gs S H' d v->Ext M.gs H H'->M.G H' n'->Q d n'->R v H')->ta σ H R):Jx X M es u :=
 ⟨h.kr.weaken λσ H R h=>A7 h λenv pn S n Q h=>k σ H _ env pn S n Q h.1 h.2.1 λv H' d n' r x g qq sz=>h.2.2 v H' d n' r x g sz qq⟩
theorem QT.weaken {t t':TT}(h:QT X e t)(w:∀σ H Q,t' σ H Q->t σ H Q):QT X e t':=⟨λpins s σ H Q I q=>h.run pins s σ H Q I (w σ H Q q)⟩
theorem QW.weaken {t t':TT}(h:QW X e t)(w:∀σ H Q,t' σ H Q->t σ H Q):QW X e t':=⟨λwh pins s σ H Q I q=>h.run wh pins s σ H Q I (w σ H Q q)⟩
theorem QS.weaken {st:Stmt}{t t':TS}(h:QS X st t)(w:∀D σ H,t' D σ H->t D σ H):QS X st t':=⟨λpins s σ H D I q=>h.run pins s σ H D I (w D σ H q)⟩
theorem xa.weaken {st:List Stmt}{t t':TS}(h:xa X st t)(w:∀D σ H,t' D σ H->t D σ H):xa X st t':=⟨λpins s σ H D I q=>h.run pins s σ H D I (w D σ H q)⟩
theorem KB.of {u:UT}(h:QT X e tT)(k:∀σ H R env pn S n Q,dA M env pn σ S H n->u env n Q->(∀b H' n',Ext M.gs H H'->M.G H' n'->Q b n'->R b H')->tT σ H R):KB X M e u :=
 ⟨h.weaken λσ H R h=>A7 h λenv pn S n Q h=>k σ H _ env pn S n Q h.1 h.2.1 h.2.2⟩
theorem KW.of {u:UT}(h:QW X e tT)(k:∀σ H R env pn S n Q,dA M env pn σ S H n->u env n Q->(∀b H' n',Ext M.gs H H'->M.G H' n'->Q b n'->R b H')->tT σ H R):KW X M e u :=
 ⟨h.weaken λσ H R h=>A7 h λenv pn S n Q h=>k σ H _ env pn S n Q h.1 h.2.1 h.2.2⟩
theorem KE.loose (h:KE X M e u):KL X M e u:=.of h.run λσ H R env pn S n Q ok hu k=>⟨env,pn,S,n,Q,ok,hu,λv H' d n' r x g _ q=>k v H' d n' (.inl r) x g q⟩
noncomputable def uL (u:d9->Int->(List af->Int->Prop)->Prop):UX:=λenv n Q=>u env n λds n'=>Q (.list ds) n'
theorem KN.data {u:d9->Int->(List af->Int->Prop)->Prop}(h:KN X M e u):KE X M e (uL u):=.of h.run λσ H R env pn S n Q ok hu k =>
 ⟨env,pn,S,n,_,ok,hu,λa xs H' ds n' h0 h1 r x g _ q=>k _ H' _ n' (.lst h1 (ok.fresh h0) (r.less λ_ h=>ai _ h)) x g q⟩
end
noncomputable def lq {α:Type}(o:Option α)(Q:α->Prop):Prop:=∃d,o=some d/\Q d
@[simp] theorem dh {α:Type} (d:α) (Q:α->Prop):lq (some d) Q=Q d:=by simp[lq]
@[simp] theorem O1 {α:Type} (Q:α->Prop):lq (none:Option α) Q=False:=by simp[lq]
noncomputable def dr (i:Nat):UX:=λenv n Q=>match env[i]? with | some (some (.s d))=>Q d n | _=>False
noncomputable def df (i:Nat):UX:=λenv n Q=>match env[i]? with | some (some (.s d))=>Q d n | some (some (.o ds))=>Q (.list ds) n | some (some (.d _ t kvs))=>Q (eC t kvs) n | _=>False
noncomputable def uC (d:af):UX:=λ_ n Q=>Q d n
section
theorem fx (i:Nat)(hN:X.N[i]? = some x:=by rfl)(hv:tf X.env.scope x:=by (first | exact Or.inl rfl | exact Or.inr (Or.inl rfl) | exact Or.inr (Or.inr rfl)))(hd:(x == ("__debug__" : Str))=false:=by decide)
  (jz:(x == ("__classdict__" : Str))=false:=by decide):KE X M (.Name x pos) (dr i):=.of (qv i hN hv hd jz) λσ H R env pn S n Q ok hu k=>by
 unfold dr at hu
 cases e:env[i]? with
 | none=>rw[e] at hu;exact hu.elim
 | some o =>
  cases o with
  | none=>rw[e] at hu;exact hu.elim
  | some en =>
   cases en with
   | o ds=>rw[e] at hu;exact hu.elim
   | x c as=>rw[e] at hu;exact hu.elim
   | d a t kvs=>rw[e] at hu;exact hu.elim
   | f a o kvs xs=>rw[e] at hu;exact hu.elim
   | s d =>
    rw[e] at hu;obtain⟨v,hv,r⟩:=ok.val i _ e;exact⟨v,hv,k v H d n r (.refl _ _) ok.gd hu⟩
theorem d5 (i:Nat)(hN:X.N[i]? = some x:=by rfl)(hv:tf X.env.scope x:=by (first | exact Or.inl rfl | exact Or.inr (Or.inl rfl) | exact Or.inr (Or.inr rfl)))(hd:(x == ("__debug__" : Str))=false:=by decide)
  (jz:(x == ("__classdict__" : Str))=false:=by decide):KL X M (.Name x pos) (df i):=.of (qv i hN hv hd jz) λσ H R env pn S n Q ok hu k=>by
 unfold df at hu
 cases e:env[i]? with
 | none=>rw[e] at hu;exact hu.elim
 | some o =>
  cases o with
  | none=>rw[e] at hu;exact hu.elim
  | some en =>
   rw[e] at hu;obtain⟨v,hv,r⟩:=ok.val i _ e
   cases en with
   | o ds =>
    obtain⟨a,xs,rfl,ha,r,hs,h0⟩:=r;exact⟨_,hv,k _ H _ n (.inr (.inl ⟨ds,a,xs,rfl,rfl,ha,r,M.out h0⟩)) (.refl _ _) ok.gd hu⟩
   | s d=>exact⟨v,hv,k v H d n (.inl r) (.refl _ _) ok.gd hu⟩
   | x c as=>exact hu.elim
   | f a o kvs xs=>exact hu.elim
   | d a t kvs =>
    obtain⟨rfl,xs,ha,r,hk,hs,h0⟩:=r;exact⟨_,hv,k _ H _ n (.inr (.inr ⟨t,kvs,a,xs,rfl,rfl,ha,r,hk,M.out h0⟩)) (.refl _ _) ok.gd hu⟩
theorem RK (h:QE X e (tC v))(r:∀S H,dR S H d v):KE X M e (uC d):=.of h λσ H R env pn S n Q ok hu k=>k v H d n (r S H) (.refl _ _) ok.gd hu
theorem dv {i j pos}:KE X M (.Constant (.int i) j pos) (uC (.int i)):=RK eu λ_ _=>.int i
theorem zP {i j pos}:KE X M (.Constant (.bool i) j pos) (uC (.bool i)):=RK DZ λ_ _=>.bl i
theorem lr {j pos}:KE X M (.Constant .none j pos) (uC .none):=RK Lz λ_ _=>.gJ
end
noncomputable def di:UA:=λ_ n Q=>Q [] n
noncomputable def dg (u:UX)(r:UA):UA:=λenv n Q=>u env n λd n1=>r env n1 λds n2=>Q (d::ds) n2
section
variable {X:Cx}{M:Fr}{e a b:Expr}{es:List Expr}{u ua ub:UX}{ur:UA}{pos:Pos}
theorem dj:KA X M [] di:=.of eG λσ H R env pn S n Q ok hu k=>k [] H [] n rfl .nil (.refl _ _) ok.gd hu
theorem dz (h:KE X M e u)(hr:KA X M es ur)(hs:d8 e=true:=by rfl):KA X M (e::es) (dg u ur):=.of (gk h.run hr.run hs) λσ H R env pn S n Q ok hu k =>
 ⟨env,pn,S,n,_,ok,hu,λv H1 d n1 r1 x1 g1 _ q1=>⟨env,pn,S,n1,_,ok.step x1 g1,q1,λvs H2 ds n2 hl r2 x2 g2 _ q2=>k _ H2 _ n2 (by simp[hl]) (.cons (r1.ext (x2.mono ok.qA)) r2) (x1.trans x2) g2 q2⟩⟩
theorem d6:Jx X M [] di:=.of eG λσ H R env pn S n Q ok hu k=>k [] H [] n rfl (.refl _ _) ok.gd hu
theorem fg (h:KL X M e u)(hr:Jx X M es ur)(hs:d8 e=true:=by rfl):Jx X M (e::es) (dg u ur):=.of (gk h.run hr.run hs) λσ H R env pn S n Q ok hu k =>
 ⟨env,pn,S,n,_,ok,hu,λv H1 d n1 r1 x1 g1 _ q1=>⟨env,pn,S,n1,_,ok.step x1 g1,q1,λvs H2 ds n2 r2 x2 g2 _ q2=>k _ H2 (d::ds) n2 ⟨_,_,rfl,r1.ext ok.qA x2,r2⟩ (x1.trans x2) g2 q2⟩⟩
noncomputable def eM (ur:UA):UX:=λenv n Q=>ur env n λds n1=>Q (.tuple ds) n1
theorem fo {x1}(h:KA X M es ur)(hl:es.length<=aA:=by decide):KE X M (.Tuple es x1 pos) (eM ur) :=
 .of (LF h.run) λσ H R env pn S n Q ok hu k=>⟨env,pn,S,n,_,ok,hu,λvs H1 ds n1 el r1 x1 g1 sz q1=>⟨by rw[el];exact hl,λp hp =>
  have x2:=Ext.new (S:=[]) (o:=.tup vs) hp
  k _ _ _ n1 (.tup dq (r1.ext (x2.mono (!4)))) (x1.trans (x2.mono (!4))) (M.i9 g1 x2 (!4)) q1⟩⟩
theorem lP (h:KA X M es ur)(hl:es.length<=aA:=by decide):KN X M (.List es pos) ur :=
 .of (vE h.run) λσ H R env pn S n Q ok hu k=>⟨env,pn,S,n,_,ok,hu,λvs H1 ds n1 el r1 x1 g1 sz q1=>⟨by rw[el];exact hl,λp hp =>
  have x2:=Ext.new (S:=[]) (o:=.lst vs) hp
  have Vw:H p=none:=by
   by_cases z:p∈M.gs
   .exact absurd hp (M.vN g1 p z)
   .exact x1.fresh z hp
  k p vs _ _ n1 Vw dq ((r1.fresh hp).ext (x2.mono (!4))) (x1.trans (x2.mono (!4))) (M.i9 g1 x2 (!4)) q1⟩⟩
end
theorem RelV.one (h:RelV v u)(k:RelV w u):v=w:=by
 cases v<;>cases w<;>simp only[RelV] at h k<;>first | rfl | (obtain⟨t,rfl⟩:=h;obtain⟨t',e⟩:=k;cases e;rfl) | (subst h;cases k;rfl) | (subst h;obtain⟨t',e⟩:=k;cases e) | (obtain⟨t,rfl⟩:=h;obtain⟨t',e⟩:=k;cases e;done) | (obtain⟨t,rfl⟩:=h;cases k;done) | (subst h;cases k;done)
theorem A8:∀{kvs kvs':List (List Int × af)} {xs pL:List V},xs.length=kvs.length->pL.length=kvs'.length->F3 kvs xs=F3 kvs' pL->xs=pL/\kvs.map (λp=>p.1.headD 0)=kvs'.map (λp=>p.1.headD 0)
 | [],[],[],[],_,_,_=>⟨rfl,rfl⟩
 | [],[],_::_,_,h,_,_=>by simp at h
 | [],[],[],_::_,_,h,_=>by simp at h
 | [],p::_,_,[],_,h,_=>by simp at h
 | [],p::_,[],_::_,_,_,h=>by simp[F3] at h
 | [],p::_,_::_,_::_,h,_,_=>by simp at h
 | p::_,[],[],_,h,_,_=>by simp at h
 | p::_,[],_::_,[],_,_,h=>by simp[F3] at h
 | p::_,[],_::_,_::_,_,h,_=>by simp at h
 | p::_,q::_,[],_,h,_,_=>by simp at h
 | p::_,q::_,_::_,[],_,h,_=>by simp at h
 | p::kvs,q::kvs',x::xs,y::ys,h1,h2,h=>by
  rw[F3,F3] at h;injection h with e1 e2;injection e1 with e3 e4;injection e3 with e3;obtain⟨a,b⟩:=A8 (by simpa using h1) (by simpa using h2) e2;rw[e4,a,ak,ak,b];exact⟨rfl,by rw[e3]⟩
theorem A9:∀{a b:List Int},(a.map Sum.inl:List Key)=b.map Sum.inl->a=b
 | [],[],_=>rfl
 | [],_::_,h=>by cases h
 | _::_,[],h=>by cases h
 | x::a,y::b,h=>by
  rw[ak,ak] at h;injection h with h1 h2;injection h1 with h1;rw[h1,A9 h2]
theorem Ba:∀{kvs kvs':List (List Int × af)} {xs pL:List V},xs.length=kvs.length->pL.length=kvs'.length->sY kvs xs=sY kvs' pL->xs=pL/\kvs.map (λp=>p.1)=kvs'.map (λp=>p.1)
 | [],[],[],[],_,_,_=>⟨rfl,rfl⟩
 | [],[],_::_,_,h,_,_=>by simp at h
 | [],[],[],_::_,_,h,_=>by simp at h
 | [],p::_,_,[],_,h,_=>by simp at h
 | [],p::_,[],_::_,_,_,h=>by simp[sY] at h
 | [],p::_,_::_,_::_,h,_,_=>by simp at h
 | p::_,[],[],_,h,_,_=>by simp at h
 | p::_,[],_::_,[],_,_,h=>by simp[sY] at h
 | p::_,[],_::_,_::_,_,h,_=>by simp at h
 | p::_,q::_,[],_,h,_,_=>by simp at h
 | p::_,q::_,_::_,[],_,h,_=>by simp at h
 | p::kvs,q::kvs',x::xs,y::ys,h1,h2,h=>by
  rw[sY,sY] at h;injection h with e1 e2;injection e1 with e3 e4;obtain⟨a,b⟩:=Ba (by simpa using h1) (by simpa using h2) e2;rw[e4,a,ak,ak,b];exact⟨rfl,by rw[A9 e3]⟩
theorem Bb:∀{l l':List (List Int × af)},l.map (λp=>p.1)=l'.map (λp=>p.1)->l.map (·.2)=l'.map (·.2)->l=l'
 | [],[],_,_=>rfl
 | [],_::_,h,_=>by cases h
 | _::_,[],h,_=>by cases h
 | (a,b)::l,(c,d)::l',h,k=>by
  rw[ak,ak] at h k;injection h with h1 h2;injection k with k1 k2;have h1:a=c:=h1;have k1:b=d:=k1;rw[Bb h2 k2,h1,k1]
theorem uH {l:List (List Int × af)}(h:∀p∈l,p.1.length=1):l.map (λp=>p.1)=(l.map λp=>p.1.headD 0).map λi=>[i]:=by
 rw[bx];refine b8 λp hp=>?_
 match p,h p hp with
 | ([i],_),_=>rfl
theorem Hu {t t':Bool}{kvs kvs':List (List Int × af)}{xs pL:List V}(h1:xs.length=kvs.length)(h2:pL.length=kvs'.length)(k1:t=false->∀p∈kvs,p.1.length=1)(k2:t'=false->∀p∈kvs',p.1.length=1)(h:mY t kvs xs=mY t' kvs' pL):t=t'/\xs=pL/\kvs.map (λp=>p.1)=kvs'.map (λp=>p.1):=by
 cases t with
 | true=>cases t' with
  | true =>
   injection h with h;exact⟨rfl,Ba h1 h2 h⟩
  | false=>cases h
 | false=>cases t' with
  | true=>cases h
  | false =>
   injection h with h;obtain⟨a,b⟩:=A8 h1 h2 h;exact⟨rfl,a,by rw[uH (k1 rfl),uH (k2 rfl),b]⟩
mutual
theorem dR.one {S:List Addr}{H:Hp}:∀{d d':af} {v:V},dR S H d v->dR S H d' v->d=d'
 | .none,d',v,h,k=>by cases h.kI;cases d'<;>simp[dR] at k;rfl
 | .bool b,d',v,h,k=>by cases h.kh;cases d'<;>simp[dR] at k;rw[k]
 | .int b,d',v,h,k=>by cases h.d4;cases d'<;>simp[dR] at k;rw[k]
 | .str b,d',v,h,k=>by cases h.jS;cases d'<;>simp[dR] at k;rw[k]
 | .tuple ds,d',v,h,k=>by
  obtain⟨a,xs,rfl,ha,r⟩:=h.eQ
  cases d' with
  | tuple es =>
   obtain⟨b,ys,e,hb,r'⟩:=k.eQ;cases e;rw[ha] at hb;cases hb;rw[dm.one r r']
  | list es=>obtain⟨b,ys,e,hb,_⟩:=k.eO;cases e;rw[ha] at hb;cases hb
  | dict es=>obtain⟨b,t,kvs,ys,e,_,hb,_⟩:=k.nv;cases e;rw[ha] at hb;exact (AW hb).elim
  | _=>simp[dR] at k
 | .list ds,d',v,h,k=>by
  obtain⟨a,xs,rfl,ha,_,r⟩:=h.eO
  cases d' with
  | list es =>
   obtain⟨b,ys,e,hb,_,r'⟩:=k.eO;cases e;rw[ha] at hb;cases hb;rw[dm.one r r']
  | tuple es=>obtain⟨b,ys,e,hb,_⟩:=k.eQ;cases e;rw[ha] at hb;cases hb
  | dict es=>obtain⟨b,t,kvs,ys,e,_,hb,_⟩:=k.nv;cases e;rw[ha] at hb;exact (mH hb).elim
  | _=>simp[dR] at k
 | .dict l,d',v,h,k=>by
  have h':=h;unfold dR at h';obtain⟨a,t,kvs,xs,rfl,rfl,ha,hs,hk,hr⟩:=h';have hl:xs.length=kvs.length:=by have:=(fO.Cb.mp hr).length;rw[h8,ap,ap,ar] at this;omega
  cases d' with
  | tuple es=>obtain⟨b,ys,e,hb,_⟩:=k.eQ;cases e;rw[ha] at hb;exact (AW hb.symm).elim
  | list es=>obtain⟨b,ys,e,hb,_⟩:=k.eO;cases e;rw[ha] at hb;exact (mH hb.symm).elim
  | dict l' =>
   unfold dR at k;obtain⟨b,t',kvs',ys,e,rfl,hb,_,O2,Jy⟩:=k;cases e;rw[ha] at hb;have F5:ys.length=kvs'.length:=by have:=(fO.Cb.mp Jy).length;rw[h8,ap,ap,ar] at this;omega
   obtain⟨rfl,rfl,Hv⟩:=Hu hl F5 hk O2 (Option.some.inj hb);have:=fO.one hr Jy;rw[h8,h8] at this;injection this with _ this;rw[Bb Hv this]
  | _=>simp[dR] at k
theorem dm.one {S:List Addr}{H:Hp}:∀{ds p8:List af} {vs:List V},dm S H ds vs->dm S H p8 vs->ds=p8
 | [],p8,vs,h,k=>by
  cases h.eN
  cases p8 with
  | nil=>rfl
  | cons d ds=>obtain⟨x,r,e,_⟩:=k.of_cons;cases e
 | d::ds,p8,vs,h,k=>by
  obtain⟨x,r,rfl,h1,h2⟩:=h.of_cons
  cases p8 with
  | nil=>cases k.eN
  | cons d' p8 =>
   obtain⟨x',r',e,k1,k2⟩:=k.of_cons;cases e;rw[dR.one h1 k1,dm.one h2 k2]
theorem fO.one {S:List Addr}{H:Hp}:∀{l l':List (af × af)} {vs:List V},fO S H l vs->fO S H l' vs->l.map (·.2)=l'.map (·.2)
 | [],l',vs,h,k=>by
  unfold fO at h;subst h
  cases l' with
  | nil=>rfl
  | cons p l=>unfold fO at k;obtain⟨x,r,e,_⟩:=k;cases e
 | (_,d)::l,l',vs,h,k=>by
  unfold fO zt at h;obtain⟨x,r,rfl,h1,h2⟩:=h
  cases l' with
  | nil=>unfold fO at k;cases k
  | cons p l' =>
   unfold fO at k;obtain⟨x',r',e,k1,k2⟩:=k;cases e;have Vx:dR S H p.2 x:=by cases p;unfold zt at k1;exact k1
   rw[ak,ak,fO.one h2 k2];show d::_=p.2::_;rw[dR.one h1 Vx]
end
structure vO (X:Cx) (f:ag->ag->Sem ag) (op:af->af->Option af):Prop where
 ex:∃r,kC X f r/\∀gs S H dx dy x y d (R:VK),(∀a∈S,H a≠none)->ko H->eL gs S H dx x->eL gs S H dy y->op dx dy=some d->(∀v H',dR S H' d v->Ext [] H H'->R v H')->r x y H R
noncomputable def dI (f:af->af->Option af)(ua ub:UX):UX:=λenv n Q=>ua env n λx n1=>ub env n1 λy n2=>lq (f x y) λd=>Q d n2
noncomputable def O3 (d:af)(Q:Bool->Prop):Prop:=match d with | .bool b=>Q b | _=>False
@[simp] theorem dP (b:Bool) (Q:Bool->Prop):O3 (.bool b) Q=Q b:=rfl
noncomputable def dY (u:UX):UT:=λenv n Q=>u env n λd n'=>O3 d λb=>Q b n'
section
variable {X:Cx}{M:Fr}{a b c e:Expr}{ua ub uc:UX}{pos:Pos}{f:af->af->Option af}
theorem Bc
  (hr:∀gs S H dx dy x y d (R:VK),(∀a∈S,H a≠none)->ko H->eL gs S H dx x->eL gs S H dy y->f dx dy=some d->(∀v H',dR S H' d v->Ext [] H H'->R v H')->r x y H R)
  (ok:dA M env pn σ S H n) (hu:dI f ua ub env n Q) (k:∀v H' d n',dR S H' d v->Ext M.gs H H'->M.G H' n'->Q d n'->R v H'):GA r (xD M ua) (xD M ub) σ H R :=
 ⟨env,pn,S,n,_,ok,hu,λx H1 dx n1 r1 x1 g1 _ q1=>⟨env,pn,S,n1,_,ok.step x1 g1,q1,λy H2 dy n2 r2 x2 g2 sz q2=>by
  obtain⟨d,e,q⟩:=q2;exact hr M.gs S H2 dx dy x y d R ((ok.step x1 g1).step x2 g2).has sz (r1.ext ok.qA x2) r2 e λv H3 r3 x3=>k v H3 d n2 r3 ((x1.trans x2).trans (x3.mono (!4))) (M.i9 g2 x3 (!4)) q⟩⟩
theorem lQ (ho:vO X (binaryOp op) f)(ha:KL X M a ua)(hb:KL X M b ub):KE X M (.BinOp a op b pos) (dI f ua ub):=by
 obtain⟨r,h1,h2⟩:=ho.ex;exact .of (fA h1 ha.run hb.run) λσ H R env pn S n Q ok hu k=>Bc h2 ok hu k
theorem oh (ho:vO X (compareOp op) f)(ha:KL X M a ua)(hb:KL X M b ub)(hm:behindInMarks op b=false:=by first | exact ji _ | rfl):KE X M (.Compare a [op] [b] pos) (dI f ua ub):=by
 obtain⟨r,h1,h2⟩:=ho.ex;exact .of (AX h1 ha.run hb.run hm) λσ H R env pn S n Q ok hu k=>Bc h2 ok hu k
theorem fB (ho:vO X (compareOp op) f)(ha:KL X M a ua)(hb:KL X M b ub)(hm:behindInMarks op b=false:=by first | exact ji _ | rfl):KB X M (.Compare a [op] [b] pos) (dY (dI f ua ub)):=by
 obtain⟨r,h1,h2⟩:=ho.ex;refine .of (qu h1 ha.run hb.run hm) λσ H R env pn S n Q ok hu k=>Bc (R:=λx H'=>∃k,x=.bl k/\R k H') h2 ok hu λv H' d n' r x g q=>?_
 cases d with
 | bool b=>exact⟨b,r.kh,k b H' n' x g q⟩
 | _=>exact False.elim q
theorem Bd (h:KE X M e ua)(he:∀m7,isTrue e X.env m7=(do let v <- m7;standAt e.pos;holding [v] (truthy v)):=by rw[3]):KB X M e (dY ua) :=
 .of (zv h.run he) λσ H R env pn S n Q ok hu k=>⟨env,pn,S,n,_,ok,hu,λv H' d n' r x g _ q=>by
  cases d with
  | bool b=>exact⟨b,r.kh,k b H' n' x g q⟩
  | _=>exact False.elim q⟩
noncomputable def Cr (u w:UT):UT:=λenv n Q=>u env n λb n1=>if b=true then w env n1 Q else Q false n1
noncomputable def Eo (u w:UT):UT:=λenv n Q=>u env n λb n1=>if b=true then Q true n1 else w env n1 Q
noncomputable def zQ (u:UT):UT:=λenv n Q=>u env n λb n1=>Q (!b) n1
variable {u w:UT}{rest:List Expr}
theorem zR (h:KB X M a u):KW X M (.BoolOp .And [a] pos) u:=⟨AY h.run⟩
theorem Be (h:KB X M a u):KW X M (.BoolOp .Or [a] pos) u:=⟨LA h.run⟩
theorem w_and (ha:KB X M a u)(hb:KW X M (.BoolOp .And (b::rest) pos) w):KW X M (.BoolOp .And (a::b::rest) pos) (Cr u w) :=
 .of (D0 ha.run hb.run) λσ H R env pn S n Q ok hu k=>⟨env,pn,S,n,_,ok,hu,λc H1 n1 x1 g1 q=>by
  cases c with
  | true=>exact⟨env,pn,S,n1,Q,ok.step x1 g1,q,λb H2 n2 x2 g2 q2=>k b H2 n2 (x1.trans x2) g2 q2⟩
  | false=>exact k false H1 n1 x1 g1 q⟩
theorem w_or (ha:KB X M a u)(hb:KW X M (.BoolOp .Or (b::rest) pos) w):KW X M (.BoolOp .Or (a::b::rest) pos) (Eo u w) :=
 .of (OA ha.run hb.run) λσ H R env pn S n Q ok hu k=>⟨env,pn,S,n,_,ok,hu,λc H1 n1 x1 g1 q=>by
  cases c with
  | false=>exact⟨env,pn,S,n1,Q,ok.step x1 g1,q,λb H2 n2 x2 g2 q2=>k b H2 n2 (x1.trans x2) g2 q2⟩
  | true=>exact k true H1 n1 x1 g1 q⟩
theorem KW.kb (h:KW X M e u):KB X M e u:=⟨h.run.pt⟩
theorem Ep (h:KB X M a u):KB X M (.UnaryOp .Not a pos) (zQ u):=.of (LB h.run) λσ H R env pn S n Q ok hu k=>⟨env,pn,S,n,_,ok,hu,λc H1 n1 x1 g1 q=>k _ H1 n1 x1 g1 q⟩
noncomputable def pM (ua ub:UX):UX:=λenv n Q=>ua env n λx n1=>O3 x λb=>if b=true then ub env n1 Q else Q (.bool false) n1
noncomputable def Jz (ua:UX):UX:=λenv n Q=>ua env n λx n1=>O3 x λb=>Q (.bool (!b)) n1
theorem k_one {op}(h:KE X M a ua):KE X M (.BoolOp op [a] pos) ua:=⟨LC h.run⟩
theorem Bf (ha:KE X M a ua)(hb:KE X M (.BoolOp .And (b::rest) pos) ub):KE X M (.BoolOp .And (a::b::rest) pos) (pM ua ub) :=
 .of (LD ha.run hb.run) λσ H R env pn S n Q ok hu k=>⟨env,pn,S,n,_,ok,hu,λv H1 d n1 r1 x1 g1 _ q=>by
  cases d with
  | bool c =>
   refine⟨c,r1.kh,?_⟩
   cases c with
   | true=>exact⟨env,pn,S,n1,Q,ok.step x1 g1,q,λv H2 d n2 r2 x2 g2 _ q2=>k v H2 d n2 r2 (x1.trans x2) g2 q2⟩
   | false=>exact k _ H1 _ n1 (.bl false) x1 g1 q
  | _=>exact False.elim q⟩
theorem k_not (ha:KE X M a ua):KE X M (.UnaryOp .Not a pos) (Jz ua) :=
 .of (zx ha.run) λσ H R env pn S n Q ok hu k=>⟨env,pn,S,n,_,ok,hu,λv H1 d n1 r1 x1 g1 _ q=>by
  cases d with
  | bool c=>exact⟨c,r1.kh,k _ H1 _ n1 (.bl _) x1 g1 q⟩
  | _=>exact False.elim q⟩
noncomputable def Cs (t:UT)(ua ub:UX):UX:=λenv n Q=>t env n λc n1=>if c=true then ua env n1 Q else ub env n1 Q
theorem zS (hc:KB X M c u)(ha:KE X M a ua)(hb:KE X M b ub):KE X M (.IfExp c a b pos) (Cs u ua ub) :=
 .of (D1 hc.run ha.run hb.run) λσ H R env pn S n Q ok hu k=>⟨env,pn,S,n,_,ok,hu,λc H1 n1 x1 g1 q=>by
  cases c with
  | true=>exact⟨env,pn,S,n1,Q,ok.step x1 g1,q,λv H2 d n2 r2 x2 g2 _ q2=>k v H2 d n2 r2 (x1.trans x2) g2 q2⟩
  | false=>exact⟨env,pn,S,n1,Q,ok.step x1 g1,q,λv H2 d n2 r2 x2 g2 _ q2=>k v H2 d n2 r2 (x1.trans x2) g2 q2⟩⟩
noncomputable def xE:af->Option af | .int i=>some (.int (-i)) | _=>none
noncomputable def M' (f:af->Option af)(ua:UX):UX:=λenv n Q=>ua env n λx n1=>lq (f x) λd=>Q d n1
theorem xF (ha:KE X M a ua):KE X M (.UnaryOp .USub a pos) (M' xE ua) :=
 .of (Oz K3 ha.run) λσ H R env pn S n Q ok hu k=>⟨env,pn,S,n,_,ok,hu,λv H1 d n1 r1 x1 g1 _ q=>by
  obtain⟨d',e,q⟩:=q
  cases d with
  | int i=>cases e;exact⟨i,r1.d4,k _ H1 _ n1 (.int _) x1 g1 q⟩
  | _=>cases e⟩
end
noncomputable def iQ:af->af->Option af
 | .int i,.int j=>some (.int (i+j))
 | .tuple xs,.tuple ys=>if xs.length+ys.length<=aA then some (.tuple (xs++ys)) else none
 | .list xs,.list ys=>if xs.length+ys.length<=aA then some (.list (xs++ys)) else none
 | .str x,.str y=>if x.length+y.length<=aA then some (.str (x++y)) else none
 | _,_=>none
noncomputable def zT:af->af->Option af | .int i,.int j=>some (.int (i - j)) | _,_=>none
instance (i j:Int):Decidable (ze i j):=by unfold ze;infer_instance
instance (i j:Int):Decidable (K0 i j):=by unfold K0;infer_instance
instance (i j:Int):Decidable (KZ i j):=by unfold KZ;infer_instance
noncomputable def vP:af->af->Option af
 | .int i,.int j=>if ze i j then some (.int (i * j)) else none
 | .list xs,.int k=>if -(2 ^ 63)<=k/\k<2 ^ 63/\xs.length * k.toNat<=aA then some (.list (List.replicate k.toNat xs).flatten) else none
 | .tuple xs,.int k=>if 1<=k/\k<2 ^ 40/\xs≠[]/\xs.length * k.toNat<=16000000 then some (.tuple (List.replicate k.toNat xs).flatten) else none
 | _,_=>none
noncomputable def Hw:af->af->Option af | .int i,.int j=>if 0<j then some (.int (i % j)) else none | _,_=>none
noncomputable def Er:af->af->Option af | .int i,.int j=>some (.bool (decide (i<j))) | _,_=>none
noncomputable def F7:af->af->Option af | .int i,.int j=>some (.bool (decide (j<i))) | _,_=>none
noncomputable def Na:af->af->Option af | .int i,.int j=>some (.bool (decide (j<=i))) | _,_=>none
noncomputable def vQ (x y:af):Option af:=if x.canLay0=true/\y.canLay0=true/\x.depth<=60 then some (.bool (af.eqv x y)) else none
noncomputable def Bg (x y:af):Option af:=if x.canLay0=true/\y.canLay0=true/\x.depth<=60 then some (.bool (!PyData.eqv x y)) else none
noncomputable def mJ (x:af):Bool:=match x with | .none=>true | _=>false
noncomputable def Ct (x y:af):Option af:=match y with | .none=>some (.bool (mJ x)) | _=>none
noncomputable def p9 (x y:af):Option af:=match y with | .none=>some (.bool (!mJ x)) | _=>none
noncomputable def Cu (x:af)(ds:List af):Option Bool:=if x.canLay0=true/\af.canLayAll0 ds=true/\x.depth<=60 then some (ds.any λd=>af.eqv d x) else none
noncomputable def inD (x y:af):Option af:=match y with | .tuple ds=>(Cu x ds).map .bool | .list ds=>(Cu x ds).map .bool | _=>none
noncomputable def Es (x y:af):Option af:=match y with | .tuple ds=>(Cu x ds).map λb=>.bool (!b) | .list ds=>(Cu x ds).map λb=>.bool (!b) | _=>none
section
variable {X:Cx}
theorem Bh {f:ag->ag->Sem ag}{g:Int->Int->af}{gv:Int->Int->V}{op:af->af->Option af}(h:kC X f (Jc gv))(hg:∀i j S H,dR S H (g i j) (gv i j))(ho:∀x y d,op x y=some d->∃i j,x=.int i/\y=.int j/\d=g i j):vO X f op :=
 ⟨_,h,λgs S H dx dy x y d R _ _ r1 r2 e k=>by
  obtain⟨i,j,rfl,rfl,rfl⟩:=ho _ _ _ e;exact⟨i,j,r1.d4,r2.d4,k _ H (hg i j S H) (.refl _ _)⟩⟩
theorem RL {f:ag->ag->Sem ag}{C:Int->Int->Prop}{g:Int->Int->af}{gv:Int->Int->V}{op:af->af->Option af}(h:kC X f (rI C gv))(hg:∀i j S H,dR S H (g i j) (gv i j))(ho:∀x y d,op x y=some d->∃i j,x=.int i/\y=.int j/\C i j/\d=g i j):vO X f op :=
 ⟨_,h,λgs S H dx dy x y d R _ _ r1 r2 e k=>by
  obtain⟨i,j,rfl,rfl,hc,rfl⟩:=ho _ _ _ e;exact⟨i,j,r1.d4,r2.d4,hc,k _ H (hg i j S H) (.refl _ _)⟩⟩
theorem Et:vO X (binaryOp .Sub) zT:=Bh (g:=λi j=>.int (i - j)) K1 (λ_ _ _ _=>.int _) λx y d e=>by
 cases x<;>cases y<;>simp[zT] at e;exact⟨_,_,rfl,rfl,e.symm⟩
theorem Hx:vO X (compareOp .Lt) Er:=Bh (g:=λi j=>.bool (decide (i<j))) Jd (λ_ _ _ _=>.bl _) λx y d e=>by
 cases x<;>cases y<;>simp[Er] at e;exact⟨_,_,rfl,rfl,e.symm⟩
theorem Hy:vO X (compareOp .Gt) F7:=Bh (g:=λi j=>.bool (decide (j<i))) Je (λ_ _ _ _=>.bl _) λx y d e=>by
 cases x<;>cases y<;>simp[F7] at e;exact⟨_,_,rfl,rfl,e.symm⟩
theorem O4:vO X (compareOp .GtE) Na:=Bh (g:=λi j=>.bool (decide (j<=i))) Jf (λ_ _ _ _=>.bl _) λx y d e=>by
 cases x<;>cases y<;>simp[Na] at e;exact⟨_,_,rfl,rfl,e.symm⟩
theorem O5:vO X (binaryOp .Mod) Hw:=RL (g:=λi j=>.int (i % j)) kE (λ_ _ _ _=>.int _) λx y d e=>by
 cases x<;>cases y<;>simp[Hw] at e;exact⟨_,_,rfl,rfl,e.1,e.2.symm⟩
theorem Hz (r:dR S H d v):mJ d=decide (v=.gJ):=by
 cases d with
 | none=>cases r.kI;rfl
 | bool b=>cases r.kh;rfl
 | int b=>cases r.d4;rfl
 | str b=>cases r.jS;rfl
 | tuple b=>obtain⟨a,xs,rfl,_⟩:=r.eQ;rfl
 | list b=>obtain⟨a,xs,rfl,_⟩:=r.eO;rfl
 | dict b=>obtain⟨a,t,kvs,xs,rfl,_⟩:=r.nv;rfl
theorem eL.TY (r:eL gs S H d v):mJ d=decide (v=.gJ):=by
 rcases r with r | ⟨ds,a,xs,rfl,rfl,_⟩ | ⟨t,kvs,a,xs,rfl,rfl,_⟩
 .exact Hz r
 .rfl
 .rfl
theorem HA:vO X (compareOp .Is) Ct:=⟨_,K5,λgs S H dx dy x y d R _ _ r1 r2 e k=>by
 cases dy with
 | none=>cases e;exact⟨r2.kI,r1.TY ▸ k _ H (.bl _) (.refl _ _)⟩
 | _=>cases e⟩
theorem Eu:vO X (compareOp .IsNot) p9:=⟨_,GF,λgs S H dx dy x y d R _ _ r1 r2 e k=>by
 cases dy with
 | none=>cases e;exact⟨r2.kI,r1.TY ▸ k _ H (.bl _) (.refl _ _)⟩
 | _=>cases e⟩
theorem eL.reads (r:eL gs S H d v)(c0:d.canLay0=true)(ok:lC P w H h)(rv:RelV v u):∃as,Reads h u d as:=by
 rcases r with r | ⟨ds,a,xs,rfl,rfl,ha,rs,_⟩ | ⟨t,kvs,a,xs,rfl,_⟩
 .exact dR.reads ok c0 r rv
 .cases (show u=ag.ref a from rv)
  obtain⟨_,its,n,rv,e⟩:=ok a _ ha;obtain⟨as,ra⟩:=dm.reads ok (by simpa [af.canLay0] using c0) rs rv;exact⟨_,.list e rfl rfl (by simpa using ra)⟩
 .simp[eC,af.canLay0] at c0
noncomputable def O6 (neg:Bool):R2:=λx y H Q=>∃gs S dx dy,eL gs S H dx x/\eL gs S H dy y/\dx.canLay0=true/\dy.canLay0=true/\dx.depth<=60/\Q (.bl (if neg then !PyData.eqv dx dy else af.eqv dx dy)) H
theorem LW (Cc:X.A.units+64<cLine):kC X (compareOp .Eq) (O6 false):=by
 intro pins s σ H x y v u Q I rx ry h;obtain⟨gs,S,dx,dy,h1,h2,c1,c2,d1,q⟩:=h;obtain⟨as,ra⟩:=h1.reads c1 I.hok rx;obtain⟨bs,rb⟩:=h2.reads c2 I.hok ry;exact SeqAt.compareEq_reads ra rb c1 c2 (!1) ⟨.bl _,H,I,rfl,q⟩
theorem LX (Cc:X.A.units+64<cLine):kC X (compareOp .NotEq) (O6 true):=by
 intro pins s σ H x y v u Q I rx ry h;obtain⟨gs,S,dx,dy,h1,h2,c1,c2,d1,q⟩:=h;obtain⟨as,ra⟩:=h1.reads c1 I.hok rx;obtain⟨bs,rb⟩:=h2.reads c2 I.hok ry;exact SeqAt.compareNe_reads ra rb c1 c2 (!1) ⟨.bl _,H,I,rfl,q⟩
theorem qa (Cc:X.A.units+64<cLine):vO X (compareOp .Eq) vQ:=⟨_,LW Cc,λgs S H dx dy x y d R _ _ r1 r2 e k=>by
 unfold vQ at e;split at e
 .rename_i hc
  cases e;exact⟨gs,S,dx,dy,r1,r2,hc.1,hc.2.1,hc.2.2,k _ H (.bl _) (.refl _ _)⟩
 .cases e⟩
theorem HB (Cc:X.A.units+64<cLine):vO X (compareOp .NotEq) Bg:=⟨_,LX Cc,λgs S H dx dy x y d R _ _ r1 r2 e k=>by
 unfold Bg at e;split at e
 .rename_i hc
  cases e;exact⟨gs,S,dx,dy,r1,r2,hc.1,hc.2.1,hc.2.2,k _ H (.bl _) (.refl _ _)⟩
 .cases e⟩
end
section
variable {X:Cx}
theorem eL.F8 {K:W.Frag}{gs S:List Addr}{H:Hp}{ds:List af}{v:V}(h:eL gs S H (.tuple ds) v):∃a xs,v=.ref a/\gZ K H a xs/\H a=some (.tup xs)/\dm S H ds xs:=let ⟨a,xs,e,ha,r⟩:=h.eQ;⟨a,xs,e,gZ.of ha,ha,r⟩
theorem eL.F9 {K:W.Frag}{gs S:List Addr}{H:Hp}{ds:List af}{v:V}(h:eL gs S H (.list ds) v):∃a xs,v=.ref a/\fU K H a xs/\H a=some (.lst xs)/\dm S H ds xs:=let ⟨a,xs,e,ha,r⟩:=h.eO;⟨a,xs,e,fU.of ha,ha,r⟩
theorem qB {S:List Addr}{H:Hp}{ds:List af}{xs:List V}{p:Addr}(hp:H p=none)(r:dm S H ds xs):dR S (d3 H p (.tup xs)) (.tuple ds) (.ref p):=.tup dq (r.ext (.new hp))
theorem vR (has:∀a∈S,H a≠none)(hp:H p=none)(r:dm S H ds xs):dR S (d3 H p (.lst xs)) (.list ds) (.ref p):=.lst dq (λz=>has p z hp) (r.ext (.new hp))
theorem dm.flat (r:dm S H ds xs)(k:Nat):dm S H (List.replicate k ds).flatten (List.replicate k xs).flatten:=by
 induction k with
 | zero=>exact .nil
 | succ k ih=>rw[aG,aG,cm,cm];exact r.append ih
theorem lR:vO X (binaryOp .Add) iQ:=⟨_,((lF.or (Rt X.K)).or DI).or zg,λgs S H dx dy x y d R has sz r1 r2 e k=>by
 cases dx with
 | int i=>cases dy with
  | int j=>cases e;exact .inl (.inl (.inl ⟨i,j,r1.d4,r2.d4,k _ H (.int _) (.refl _ _)⟩))
  | _=>cases e
 | str i=>cases dy with
  | str j =>
   simp only[iQ] at e;split at e
   .rename_i hz
    cases e;exact .inr ⟨i,j,r1.jS,r2.jS,hz,k _ H (.str _) (.refl _ _)⟩
   .cases e
  | _=>cases e
 | tuple ds=>cases dy with
  | tuple es =>
   simp only[iQ] at e;split at e
   .rename_i hz
    cases e;obtain⟨a,xs,rfl,s1,h1,q1⟩:=r1.F8 (K:=X.K);obtain⟨b,ys,rfl,s2,h2,q2⟩:=r2.F8 (K:=X.K);refine .inl (.inl (.inr ⟨a,b,xs,ys,rfl,rfl,s1,s2,by rw[q1.length,q2.length];exact hz,λe=>?_,λe=>?_,λp hp=>k _ _ (qB hp (q1.append q2)) (.new hp)⟩))
    .subst e
     cases ds with
     | nil=>exact k _ H (.tup h2 q2) (.refl _ _)
     | cons d ds=>have:=q1.length;simp at this
    .subst e
     cases es with
     | nil=>rw[bI] at k;exact k _ H (.tup h1 q1) (.refl _ _)
     | cons d ds=>have:=q2.length;simp at this
   .cases e
  | _=>cases e
 | list ds=>cases dy with
  | list es =>
   simp only[iQ] at e;split at e
   .rename_i hz
    cases e;obtain⟨a,xs,rfl,h1,q1⟩:=r1.eO;obtain⟨b,ys,rfl,h2,q2⟩:=r2.eO;exact .inl (.inr ⟨a,b,xs,ys,rfl,rfl,h1,h2,by rw[q1.length,q2.length];exact hz,λp hp=>k _ _ (vR has hp (q1.append q2)) (.new hp)⟩)
   .cases e
  | _=>cases e
 | _=>cases dy<;>cases e⟩
theorem JA:vO X (binaryOp .Mult) vP:=⟨_,(lG.or DJ).or (Em X.K),λgs S H dx dy x y d R has sz r1 r2 e k=>by
 cases dx with
 | int i=>cases dy with
  | int j =>
   simp only[vP] at e;split at e
   .rename_i hz
    cases e;exact .inl (.inl ⟨i,j,r1.d4,r2.d4,hz,k _ H (.int _) (.refl _ _)⟩)
   .cases e
  | _=>cases e
 | list ds=>cases dy with
  | int j =>
   simp only[vP] at e;split at e
   .rename_i hz
    cases e;obtain⟨a,xs,rfl,h1,q1⟩:=r1.eO;exact .inl (.inr ⟨a,j,xs,rfl,r2.d4,h1,hz.1,hz.2.1,by rw[q1.length];exact hz.2.2,λp hp=>k _ _ (vR has hp (q1.flat _)) (.new hp)⟩)
   .cases e
  | _=>cases e
 | tuple ds=>cases dy with
  | int j =>
   simp only[vP] at e;split at e
   .rename_i hz
    cases e;obtain⟨a,xs,rfl,s1,h1,q1⟩:=r1.F8 (K:=X.K);by_cases h:j=1
    .subst h
     refine .inr (.inl ⟨a,xs,rfl,r2.d4,s1,k _ H ?_ (.refl _ _)⟩);simpa using dR.tup h1 q1
    .refine .inr (.inr ⟨a,j,xs,rfl,r2.d4,s1,λz=>?_,!1,hz.2.1,by rw[q1.length];exact hz.2.2.2,λp hp=>k _ _ (qB hp (q1.flat _)) (.new hp)⟩)
     subst z;have:=q1.length;exact hz.2.2.1 (by simpa using this.symm)
   .cases e
  | _=>cases e
 | _=>cases dy<;>cases e⟩
noncomputable def O7 (neg:Bool):R2:=λx y H Q=>∃gs S dx ds p xs,eL gs S H dx x/\y=.ref p/\(H p=some (.lst xs)\/H p=some (.tup xs))/\dm S H ds xs/\dx.canLay0=true/\af.canLayAll0 ds=true/\dx.depth<=60/\Q (.bl (if neg then !(ds.any λd=>af.eqv d dx) else ds.any λd=>af.eqv d dx)) H
open Classical in
noncomputable def yY (S:List Addr)(H:Hp)(xs:List V)(dx:af)(y:ag):Bool:=decide (∃v d,RelV v y/\dR S H d v/\af.eqv d dx=true)
open Classical in
theorem Ew {S:List Addr}{H:Hp}{xs:List V}{dx d:af}{v:V}{y:ag}(h1:RelV v y)(h2:dR S H d v):yY S H xs dx y=af.eqv d dx:=by
 unfold yY
 cases e:af.eqv d dx with
 | true=>exact decide_eq_true ⟨v,d,h1,h2,e⟩
 | false =>
  refine decide_eq_false λ⟨v',d',k1,k2,k3⟩=>?_;cases RelV.one h1 k1;cases dR.one h2 k2;rw[e] at k3;cases k3
theorem oj:∀{ds:List af} {xs:List V} {us:List ag},dm S H ds xs->dQ xs us->us.any (yY S H zs dx)=ds.any λd=>af.eqv d dx
 | [],_,_,h,r=>by cases h.eN;cases r;rfl
 | d::ds,_,_,h,r=>by
  obtain⟨x,t,rfl,h1,h2⟩:=h.of_cons
  cases r with
  | cons q1 q2=>rw[bR,bR,oj h2 q2,Ew q1 h1]
theorem rD (ok:lC P w H s.heap)(rx:eL gs S H dx x)(rv:RelV x v)(c1:dx.canLay0=true)(hu:A.units+60<cLine)(hd:dx.depth<=60) :
  ∀{ds:List af} {xs:List V} {us:List ag},af.canLayAll0 ds=true->dm S H ds xs->dQ xs us->∀u∈us,SeqAt.EqAt A s u v (yY S H zs dx u)
 | [],_,_,_,h,r=>by cases h.eN;cases r;intro u hu;cases hu
 | d::ds,_,_,hc,h,r=>by
  obtain⟨y,t,rfl,h1,h2⟩:=h.of_cons;simp only[af.canLayAll0,bo] at hc
  cases r with
  | cons q1 q2 =>
   intro u LY;rcases au.mp LY with rfl | LY
   .rw[Ew q1 h1]
    obtain⟨as,ra⟩:=dR.reads ok hc.1 h1 q1;obtain⟨bs,rb⟩:=rx.reads c1 ok rv;exact SeqAt.eqAt_reads d dx A s _ v as bs ra rb hc.1 c1 (by have:min d.depth dx.depth<=60:=(!1);omega)
   .exact rD ok rx rv c1 hu hd hc.2 h2 q2 u LY
theorem LZ (Cc:X.A.units+64<cLine):kC X (compareOp .In) (O7 false):=by
 intro pins s σ H x y v u Q I rx ry h;obtain⟨gs,S,dx,ds,p,xs,r1,rfl,hq,rs,c1,c2,hd,q⟩:=h;cases ry;have pN:X.A.in1.units+60<cLine:=by show X.A.units+1+60<cLine;omega
 rcases hq with hq | hq
 .obtain⟨its,r,pl,hz⟩:=I.list (fU.of (K:=X.K) hq)
  refine SeqAt.in_listAt (yY S H xs dx) pl.isList (λw hw=>rD I.hok r1 rx c1 pN hd c2 rs r w (by simpa using hw)) ⟨.bl _,H,I,rfl,?_⟩;rw[show its.toArray.any (yY S H xs dx)=its.any (yY S H xs dx) by simp,oj rs r];exact q
 .obtain⟨its,r,pl,hz⟩:=I.tuple (gZ.of (K:=X.K) hq)
  refine SeqAt.in_tupleAt (yY S H xs dx) pl (λw hw=>rD I.hok r1 rx c1 pN hd c2 rs r w (by simpa using hw)) ⟨.bl _,H,I,rfl,?_⟩;rw[show its.toArray.any (yY S H xs dx)=its.any (yY S H xs dx) by simp,oj rs r];exact q
theorem HC (Cc:X.A.units+64<cLine):kC X (compareOp .NotIn) (O7 true):=by
 intro pins s σ H x y v u Q I rx ry h;obtain⟨gs,S,dx,ds,p,xs,r1,rfl,hq,rs,c1,c2,hd,q⟩:=h;cases ry;have pN:X.A.in1.units+60<cLine:=by show X.A.units+1+60<cLine;omega
 rcases hq with hq | hq
 .obtain⟨its,r,pl,hz⟩:=I.list (fU.of (K:=X.K) hq)
  refine SeqAt.notIn_listAt (yY S H xs dx) pl.isList (λw hw=>rD I.hok r1 rx c1 pN hd c2 rs r w (by simpa using hw)) ⟨.bl _,H,I,rfl,?_⟩;rw[show its.toArray.any (yY S H xs dx)=its.any (yY S H xs dx) by simp,oj rs r];exact q
 .obtain⟨its,r,pl,hz⟩:=I.tuple (gZ.of (K:=X.K) hq)
  refine SeqAt.notIn_tupleAt (yY S H xs dx) pl (λw hw=>rD I.hok r1 rx c1 pN hd c2 rs r w (by simpa using hw)) ⟨.bl _,H,I,rfl,?_⟩;rw[show its.toArray.any (yY S H xs dx)=its.any (yY S H xs dx) by simp,oj rs r];exact q
theorem vS (h:Cu x ds=some b):x.canLay0=true/\af.canLayAll0 ds=true/\x.depth<=60/\(ds.any λd=>af.eqv d x)=b:=by
 unfold Cu at h;split at h
 .rename_i hc
  cases h;exact⟨hc.1,hc.2.1,hc.2.2,rfl⟩
 .cases h
theorem RN (Cc:X.A.units+64<cLine):vO X (compareOp .In) inD:=⟨_,LZ Cc,λgs S H dx dy x y d R _ _ r1 r2 e k=>by
 cases dy with
 | tuple ds =>
  obtain⟨b,hb,rfl⟩:=cj.mp (show (Cu dx ds).map af.bool=some d from e);obtain⟨c1,c2,c3,rfl⟩:=vS hb;obtain⟨a,xs,rfl,ha,rs⟩:=r2.eQ;exact⟨gs,S,dx,ds,a,xs,r1,rfl,.inr ha,rs,c1,c2,c3,k _ H (.bl _) (.refl _ _)⟩
 | list ds =>
  obtain⟨b,hb,rfl⟩:=cj.mp (show (Cu dx ds).map af.bool=some d from e);obtain⟨c1,c2,c3,rfl⟩:=vS hb;obtain⟨a,xs,rfl,ha,rs⟩:=r2.eO;exact⟨gs,S,dx,ds,a,xs,r1,rfl,.inl ha,rs,c1,c2,c3,k _ H (.bl _) (.refl _ _)⟩
 | _=>cases e⟩
theorem JB (Cc:X.A.units+64<cLine):vO X (compareOp .NotIn) Es:=⟨_,HC Cc,λgs S H dx dy x y d R _ _ r1 r2 e k=>by
 cases dy with
 | tuple ds =>
  obtain⟨b,hb,rfl⟩:=cj.mp (show (Cu dx ds).map (λb=>af.bool (!b))=some d from e);obtain⟨c1,c2,c3,rfl⟩:=vS hb;obtain⟨a,xs,rfl,ha,rs⟩:=r2.eQ;exact⟨gs,S,dx,ds,a,xs,r1,rfl,.inr ha,rs,c1,c2,c3,k _ H (.bl _) (.refl _ _)⟩
 | list ds =>
  obtain⟨b,hb,rfl⟩:=cj.mp (show (Cu dx ds).map (λb=>af.bool (!b))=some d from e);obtain⟨c1,c2,c3,rfl⟩:=vS hb;obtain⟨a,xs,rfl,ha,rs⟩:=r2.eO;exact⟨gs,S,dx,ds,a,xs,r1,rfl,.inl ha,rs,c1,c2,c3,k _ H (.bl _) (.refl _ _)⟩
 | _=>cases e⟩
end
noncomputable def fj (x y:af):Option af:=match x,y with | .tuple ds,.int i=>oW ds i | .list ds,.int i=>oW ds i | _,_=>none
theorem xG (r:dm S H ds xs)(h:oW ds i=some d):∃v,oW xs i=some v/\dR S H d v:=by
 unfold oW at h ⊢;rw[r.length]
 cases e:GS ds.length i with
 | none=>rw[e] at h;cases h
 | some j =>
  rw[e] at h;obtain⟨x,hx,rx⟩:=r.at (show ds[j]? = some d from h);exact⟨x,hx,rx⟩
section
variable {X:Cx}{M:Fr}{a b e:Expr}{ua ub:UX}{pos p2:Pos}
theorem eI (ha:KL X M a ua)(hb:KL X M b ub)(hs:vq b:=by exact λ_ _=>rfl):KE X M (.Subscript a b pos) (dI fj ua ub) :=
 .of (n6 ((U' X.K).or (He X.K)) ha.run hb.run hs) λσ H R env pn S n Q ok hu k=>Bc (λgs S H dx dy x y d R _ _ r1 r2 e k=>by
  cases dx with
  | tuple ds=>cases dy with
   | int i =>
    obtain⟨a,xs,rfl,sq,_,rs⟩:=r1.F8 (K:=X.K);obtain⟨v,hv,rv⟩:=xG rs (show oW ds i=some d from e);exact .inl ⟨a,xs,i,v,rfl,r2.d4,sq,hv,k v H rv (.refl _ _)⟩
   | _=>cases e
  | list ds=>cases dy with
   | int i =>
    obtain⟨a,xs,rfl,sq,_,rs⟩:=r1.F9 (K:=X.K);obtain⟨v,hv,rv⟩:=xG rs (show oW ds i=some d from e);exact .inr ⟨a,xs,i,v,rfl,r2.d4,sq,hv,k v H rv (.refl _ _)⟩
   | _=>cases e
  | _=>cases dy<;>cases e) ok hu k
noncomputable abbrev UO:=d9->Int->(Option Int->Int->Prop)->Prop
structure KO (X:Cx) (M:Fr) (e:Option Expr) (u:UO):Prop where run:∃t,QO X e t/\∀σ H R env pn S n Q,dA M env pn σ S H n->u env n Q->(∀o H' n',Ext M.gs H H'->M.G H' n'->Q o n'->R o H')->t σ H R
noncomputable def Bi:UO:=λ_ n Q=>Q none n
noncomputable def Bj (u:UX):UO:=λenv n Q=>u env n λd n1=>match d with | .int i=>Q (some i) n1 | _=>False
theorem kL:KO X M none Bi:=⟨_,AZ,λσ H R env pn S n Q ok hu k=>k none H n (.refl _ _) ok.gd hu⟩
theorem kM (h:KE X M e ua):KO X M (some e) (Bj ua):=⟨_,A0 h.run,λσ H R env pn S n Q ok hu k=>⟨env,pn,S,n,_,ok,hu,λv H1 d n1 r1 x1 g1 _ q=>by
 cases d with
 | int i=>exact⟨i,r1.d4,k _ H1 n1 x1 g1 q⟩
 | _=>exact False.elim q⟩⟩
noncomputable def o3 {α:Type}(xs:List α)(lo hi:Option Int):List α:=(xs.drop (HT.gf xs.length 0 lo)).take (HT.gf xs.length xs.length hi - HT.gf xs.length 0 lo)
noncomputable def Nb (d:af)(lo hi:Option Int):Option af:=match d with | .tuple ds=>some (.tuple (o3 ds lo hi)) | .list ds=>some (.list (o3 ds lo hi)) | _=>none
noncomputable def zU (u:UX)(ul uh:UO):UX:=λenv n Q=>u env n λd n1=>ul env n1 λlo n2=>uh env n2 λhi n3=>lq (Nb d lo hi) λd=>Q d n3
theorem rE (r:dm S H ds xs)(lo hi:Option Int):dm S H (o3 ds lo hi) (nX xs lo hi):=by
 unfold o3 nX;rw[r.length];exact (r.drop _).take _
theorem Cv {S:List Addr}{H:Hp}{ds:List af}{xs:List V}(r:dm S H ds xs){lo hi:Option Int}(h:nX xs lo hi=xs):o3 ds lo hi=ds:=by
 have:=rE r lo hi;rw[h] at this;exact dm.one this r
theorem zV {lo hi:Option Expr}{ul uh:UO}(he:KL X M e ua)(hl:KO X M lo ul)(hu:KO X M hi uh):KE X M (.Subscript e (.Slice lo hi none p2) pos) (zU ua ul uh):=by
 obtain⟨tl,q1,l1⟩:=hl.run;obtain⟨th,q2,l2⟩:=hu.run;refine .of (xb ((Va X.K).or (TJ X.K)) he.run q1 q2) λσ H R env pn S n Q ok hu k=>⟨env,pn,S,n,_,ok,hu,λv H1 d n1 r1 x1 g1 _ q=>?_⟩;refine l1 σ H1 _ env pn S n1 _ (ok.step x1 g1) q λlo H2 n2 x2 g2 q=>?_;refine l2 σ H2 _ env pn S n2 _ ((ok.step x1 g1).step x2 g2) q λhi H3 n3 x3 g3 q=>?_;obtain⟨d',e,q⟩:=q;have F':=((ok.step x1 g1).step x2 g2).step x3 g3;have r3:=(r1.ext ok.qA x2).ext ok.qA x3;have L0:=(x1.trans x2).trans x3
 cases d with
 | tuple ds =>
  cases e;obtain⟨a,xs,rfl,sq,ha,rs⟩:=r3.F8 (K:=X.K);refine .inl ⟨a,xs,rfl,sq,λh=>?_,λp hp=>k _ _ _ n3 (qB hp (rE rs lo hi)) (L0.trans (.new hp)) (M.i9 g3 (.new (S:=[]) hp) (!4)) q⟩;have:=Cv rs h;exact k _ H3 _ n3 (.tup ha (by rw[this];exact rs)) L0 g3 q
 | list ds =>
  cases e;obtain⟨a,xs,rfl,sq,ha,rs⟩:=r3.F9 (K:=X.K);exact .inr ⟨a,xs,rfl,sq,λp hp=>k _ _ _ n3 (vR F'.has hp (rE rs lo hi)) (L0.trans (.new hp)) (M.i9 g3 (.new (S:=[]) hp) (!4)) q⟩
 | _=>cases e
end
structure lu (X:Cx) (fv:ag) (f:List af->Option af):Prop where
 ex:∃r,ff X fv r/\∀gs S H ds vs d (R:VK),(∀a∈S,H a≠none)->ko H->jE gs S H ds vs->f ds=some d->(∀v H',dR S H' d v->Ext [] H H'->R v H')->r vs H R
noncomputable def m6 (f:List af->Option af)(ua:UA):UX:=λenv n Q=>ua env n λds n1=>lq (f ds) λd=>Q d n1
section
variable {X:Cx}{M:Fr}{e:Expr}{es:List Expr}{ua:UA}{p pos:Pos}{f:List af->Option af}{id T:String}{x:Str}
theorem JC (hr:∀gs S H ds vs d (R:VK),(∀a∈S,H a≠none)->ko H->jE gs S H ds vs->f ds=some d->(∀v H',dR S H' d v->Ext [] H H'->R v H')->r vs H R)(ok:dA M env pn σ S H n)(hu:m6 f ua env n Q)(k:∀v H' d n',dR S H' d v->Ext M.gs H H'->M.G H' n'->Q d n'->R v H'):NT r (En M ua) σ H R :=
 ⟨env,pn,S,n,_,ok,hu,λvs H1 ds n1 r1 x1 g1 sz q=>by
  obtain⟨d,e,q⟩:=q;exact hr M.gs S H1 ds vs d R (ok.step x1 g1).has sz r1 e λv H2 r2 x2=>k v H2 d n1 r2 (x1.trans (x2.mono (!4))) (M.i9 g1 x2 (!4)) q⟩
theorem qb (hc:lu X (.builtin id) f)(hm:X.mg x=none)(ha:Jx X M (e::es) ua)(hg:Gl X x:=by rfl)(hv:bootBuiltins x=some (.builtin id):=by decide +kernel)(hn:x ≠ "__name__" := by decide)(oV:(x == ("__debug__" : Str))=false:=by decide) :
  KE X M (.Call (.Name x p) (e::es) [] pos) (m6 f ua):=by
 obtain⟨r,h1,h2⟩:=hc.ex;exact .of (gK h1 hg hm hv ha.run hn oV) λσ H R env pn S n Q ok hu k=>JC h2 ok hu k
theorem rF (hc:lu X (.type T) f)(hm:X.mg x=none)(ha:Jx X M (e::es) ua)(hg:Gl X x:=by rfl)(hv:bootBuiltins x=some (.type T):=by decide +kernel)(hn:x ≠ "__name__" := by decide)(oV:(x == ("__debug__" : Str))=false:=by decide) :
  KE X M (.Call (.Name x p) (e::es) [] pos) (m6 f ua):=by
 obtain⟨r,h1,h2⟩:=hc.ex;exact .of (gg h1 hg hm hv ha.run hn oV) λσ H R env pn S n Q ok hu k=>JC h2 ok hu k
end
theorem jE.one (h:jE gs S H [d] vs):∃v,vs=[v]/\eL gs S H d v:=let ⟨v,r,e,h1,h2⟩:=h;⟨v,by rw[e,show r=[] from h2],h1⟩
theorem jE.two (h:jE gs S H [d,e] vs):∃v w,vs=[v,w]/\eL gs S H d v/\eL gs S H e w:=let ⟨v,r,e,h1,h2⟩:=h;let ⟨w,e2,h3⟩:=jE.one h2;⟨v,w,by rw[e,e2],h1,h3⟩
noncomputable def om:List af->Option af | [.tuple ds]=>some (.int ds.length) | [.list ds]=>some (.int ds.length) | _=>none
noncomputable def zW:List af->Option af | [.int i]=>some (.int (if i<0 then -i else i)) | _=>none
noncomputable def xH:List af->Option af | [.int i,.int j]=>some (.int (if j<i then j else i)) | _=>none
noncomputable def xI:List af->Option af | [.int i,.int j]=>some (.int (if j > i then j else i)) | _=>none
noncomputable def intD:List af->Option af | [.int i]=>some (.int i) | [.bool b]=>some (.int (if b then 1 else 0)) | _=>none
noncomputable def fQ:List af->Option af | [.tuple ds]=>some (.tuple ds) | [.list ds]=>some (.tuple ds) | _=>none
section
variable {X:Cx}
theorem Bk:lu X (.builtin "len") om:=⟨_,LK X.K,λgs S H ds vs d R _ _ rs e k=>by
 rcases ds with _ | ⟨d1,_ | ⟨d2,l⟩⟩
 .cases e
 .obtain⟨v,rfl,r⟩:=rs.one
  cases d1 with
  | tuple ds =>
   cases e;obtain⟨a,xs,rfl,sq,_,rr⟩:=r.F8 (K:=X.K);refine⟨a,xs,rfl,.inr sq,?_⟩;rw[rr.length];exact k _ H (.int _) (.refl _ _)
  | list ds =>
   cases e;obtain⟨a,xs,rfl,sq,_,rr⟩:=r.F9 (K:=X.K);refine⟨a,xs,rfl,.inl sq,?_⟩;rw[rr.length];exact k _ H (.int _) (.refl _ _)
  | _=>cases e
 .cases d1<;>cases e⟩
theorem Ey:lu X (.builtin "abs") zW:=⟨_,DA,λgs S H ds vs d R _ _ rs e k=>by
 rcases ds with _ | ⟨d1,_ | ⟨d2,l⟩⟩
 .cases e
 .obtain⟨v,rfl,r⟩:=rs.one
  cases d1 with
  | int i=>cases e;exact⟨i,by rw[r.d4],k _ H (.int _) (.refl _ _)⟩
  | _=>cases e
 .cases d1<;>cases e⟩
theorem xJ {f:List af->Option af}(hf:∀ds d,f ds=some d->∃i j,ds=[.int i,.int j]){gs S:List Addr}{H:Hp}{ds:List af}{vs:List V}{d:af}(rs:jE gs S H ds vs)(e:f ds=some d):∃i j,ds=[.int i,.int j]/\vs=[.int i,.int j]:=by
 obtain⟨i,j,rfl⟩:=hf _ _ e;obtain⟨v,w,rfl,r,r2⟩:=rs.two;exact⟨i,j,rfl,by rw[r.d4,r2.d4]⟩
theorem HD (ds:List af)(d:af)(e:xH ds=some d):∃i j,ds=[.int i,.int j]:=by
 unfold xH at e;split at e
 .exact⟨_,_,rfl⟩
 .cases e
theorem HE (ds:List af)(d:af)(e:xI ds=some d):∃i j,ds=[.int i,.int j]:=by
 unfold xI at e;split at e
 .exact⟨_,_,rfl⟩
 .cases e
theorem L1 (hc:X.calm=true):lu X (.builtin "min") xH:=⟨_,BY hc,λgs S H ds vs d R _ _ rs e k=>by
 obtain⟨i,j,rfl,rfl⟩:=xJ HD rs e;cases e;exact⟨i,j,rfl,k _ H (.int _) (.refl _ _)⟩⟩
theorem L3 (hc:X.calm=true):lu X (.builtin "max") xI:=⟨_,BX hc,λgs S H ds vs d R _ _ rs e k=>by
 obtain⟨i,j,rfl,rfl⟩:=xJ HE rs e;cases e;exact⟨i,j,rfl,k _ H (.int _) (.refl _ _)⟩⟩
theorem JD:lu X (.type "int") intD:=⟨_,tZ,λgs S H ds vs d R _ _ rs e k=>by
 rcases ds with _ | ⟨d1,_ | ⟨d2,l⟩⟩
 .cases e
 .obtain⟨v,rfl,r⟩:=rs.one
  cases d1 with
  | int i=>cases e;exact .inl ⟨i,by rw[r.d4],k _ H (.int _) (.refl _ _)⟩
  | bool i=>cases e;exact .inr ⟨i,by rw[r.kh],k _ H (.int _) (.refl _ _)⟩
  | _=>cases e
 .cases d1<;>cases e⟩
theorem ja:lu X (.type "tuple") fQ:=⟨_,zA X.K,λgs S H ds vs d R _ _ rs e k=>by
 rcases ds with _ | ⟨d1,_ | ⟨d2,l⟩⟩
 .cases e
 .obtain⟨v,rfl,r⟩:=rs.one
  cases d1 with
  | tuple ds =>
   cases e;obtain⟨a,xs,rfl,sq,ha,rr⟩:=r.F8 (K:=X.K);exact⟨a,xs,rfl,.inr ⟨sq,k _ H (.tup ha rr) (.refl _ _)⟩⟩
  | list ds =>
   cases e;obtain⟨a,xs,rfl,sq,_,rr⟩:=r.F9 (K:=X.K);exact⟨a,xs,rfl,.inl ⟨sq,λl hl=>k _ _ (qB hl rr) (.new hl)⟩⟩
  | _=>cases e
 .cases d1<;>cases e⟩
end
section
theorem dU {α:Type}{l:List (Option α)}{i j:Nat}{x:α}{y:Option α}(h:(l.set i y)[j]? = some (some x)):(i=j/\y=some x)\/(i≠j/\l[j]? = some (some x)):=by
 by_cases e:i=j
 .subst e
  by_cases hl:i<l.length
  .rw[cA hl] at h;exact .inl ⟨rfl,Option.some.inj h⟩
  .rw[bg (by rw[aZ];omega)] at h;cases h
 .rw[aN e] at h;exact .inr ⟨e,h⟩
theorem iz {α:Type}{l:List (Option α)}{i:Nat}{y:Option α}(h:i<l.length):(l.set i y)[i]? = some y:=cA h
theorem dA.set (ok:dA M env pn σ S H n)(r:dR S H d v)(hi:i ∉ M.fd):dA M (env.set i (some (.s d))) pn (σ.set i (some v)) S H n:=by
 refine⟨λj e he=>?_,λj k ds es a h1 h2 h3 h4=>?_,by rw[aZ,aZ,ok.len],λj hj=>?_,ok.gd,ok.ext,ok.s0,ok.sn,ok.has,ok.pin⟩
 .have hl:i<env.length->i<σ.length:=λz=>by rw[<- ok.len];exact z
  rcases dU he with⟨rfl,e1⟩ | ⟨ne,e1⟩
  .cases e1
   have:i<env.length:=by
    by_cases z:i<env.length
    .exact z
    .rw[bg (by rw[aZ];omega)] at he;cases he
   exact⟨v,iz (hl this),r⟩
  .obtain⟨v',hv,rv⟩:=ok.val j e e1
   exact⟨v',by rw[aN ne];exact hv,rv⟩
 .rcases dU h1 with⟨_,e1⟩ | ⟨n1,e1⟩
  .cases e1
  .rcases dU h2 with⟨_,e2⟩ | ⟨n2,e2⟩
   .cases e2
   .rw[aN n1] at h3
    rw[aN n2] at h4;exact ok.ne j k ds es a e1 e2 h3 h4
 .have:i≠j:=λz=>hi (z ▸ hj)
  rw[aN this];exact ok.xC j hj
theorem dA.anew (ok:dA M env pn σ S H n)(h0:H a=none):M.H0 a=none:=by
 by_cases z:a∈M.gs
 .exact absurd h0 (M.vN ok.gd a z)
 .exact ok.ext.fresh z h0
theorem pK.fresh (h:pK M S H e v)(h0:H a=none):pK M (a::S) H e v:=by
 cases e with
 | s d=>exact dR.fresh h0 h
 | o ds =>
  obtain⟨b,xs,e,hb,r,hs,h1⟩:=h;exact⟨b,xs,e,hb,r.fresh h0,ai _ hs,h1⟩
 | x c as =>
  obtain⟨b,dx,vs,e,ha,hd,r,g1,g2⟩:=h;exact⟨b,dx,vs,e,ha,hd,r.fresh h0,g1,g2⟩
 | d b t kvs =>
  obtain⟨e,xs,hb,r,hk,hs,h1⟩:=h;exact⟨e,xs,hb,r.fresh h0,hk,ai _ hs,h1⟩
 | f b o kvs xs =>
  obtain⟨e,hb,r,hs,h1⟩:=h;exact⟨e,hb,r.fresh h0,ai _ hs,h1⟩
theorem dA.RO (ok:dA M env pn σ S H n)(h0:H a=none)(h1:H' a=some (.lst xs))(r:dm (a::S) H' ds xs)(x:Ext M.gs H H')(g:M.G H' n')(hi:i ∉ M.fd) :
  dA M (env.set i (some (.o ds))) pn (σ.set i (some (.ref a))) (a::S) H' n':=by
 have hg:∀b∈M.gs,b∈a::S:=λb hb=>ai _ (ok.qA b hb)
 have TZ:∀(j:Nat) (es:List af) (b:Addr),env[j]? = some (some (.o es))->σ[j]? = some (some (.ref b))->b≠a:=λj es b e1 e2 z=>by
  obtain⟨v',hv,rv⟩:=ok.val j _ e1;obtain⟨c,xs,e,hc,_,hs,_⟩:=rv;subst e;rw[e2] at hv;cases hv;rw[z] at hs;exact ok.has _ hs h0
 have jT:=ok.step x g;refine⟨λj e he=>?_,λj k p8 es b h2 h3 h4 h5=>?_,by rw[aZ,aZ,ok.len],λj hj=>?_,g,jT.ext,λb hb=>ai _ (ok.s0 b hb),λb hb=>?_,λb hb=>?_,λp hp=>?_⟩
 .rcases dU he with⟨rfl,e1⟩ | ⟨ne,e1⟩
  .cases e1
   have:i<env.length:=by
    by_cases z:i<env.length
    .exact z
    .rw[bg (by rw[aZ];omega)] at he;cases he
   exact⟨.ref a,iz (by rw[<- ok.len];exact this),a,xs,rfl,h1,r,aq ..,ok.anew h0⟩
  .obtain⟨v',hv,rv⟩:=ok.val j e e1
   exact⟨v',by rw[aN ne];exact hv,(rv.fresh h0).step hg x⟩
 .rcases dU h2 with⟨rfl,e1⟩ | ⟨n1,e1⟩
  .have RP:i<σ.length:=by
    by_cases z:i<σ.length
    .exact z
    .rw[bg (by rw[aZ];omega)] at h4;cases h4
   rw[iz RP] at h4;cases h4;rcases dU h3 with⟨e3,_⟩ | ⟨n2,e2⟩
   .exact e3
   .rw[aN n2] at h5
    exact absurd rfl (TZ k _ _ e2 h5)
  .rw[aN n1] at h4
   rcases dU h3 with⟨rfl,e2⟩ | ⟨n2,e2⟩
   .have RP:i<σ.length:=by
     by_cases z:i<σ.length
     .exact z
     .rw[bg (by rw[aZ];omega)] at h5;cases h5
    rw[iz RP] at h5;cases h5;exact absurd rfl (TZ j _ _ e1 h4)
   .rw[aN n2] at h5
    exact ok.ne j k _ _ b e1 e2 h4 h5
 .have:i≠j:=λz=>hi (z ▸ hj)
  rw[aN this];exact ok.xC j hj
 .rcases au.mp hb with z | z
  .rw[z];exact .inr (ok.anew h0)
  .exact ok.sn b z
 .rcases au.mp hb with z | z
  .rw[z,h1];simp
  .exact jT.has b z
 .exact ((ok.pin p hp).fresh h0).ext (x.mono hg)
theorem dA.put (ok:dA M env pn σ S H n){ds es:List af}{a:Addr}{xs ys:List V}(he:env[i]? = some (some (.o ds)))(hv:σ[i]? = some (some (.ref a)))(ha:H a=some (.lst xs))(r:dm S H es ys):dA M (env.set i (some (.o es))) pn σ S (d3 H a (.lst ys)) n:=by
 obtain⟨v',yZ,a',pL,e',lx,_,hs,h0⟩:=ok.val i _ he;subst e';rw[hv] at yZ;cases yZ;have x:Ext [a] H (d3 H a (.lst ys)):=.set (!4) ha;have xS:Ext S H (d3 H a (.lst ys)):=x.mono (by simpa using hs);refine⟨λj e hj=>?_,λj k p8 g8 b h2 h3 h4 h5=>?_,by rw[aZ,ok.len],ok.xC,M.i9 ok.gd x (by simpa using h0),ok.ext.Rn h0 ha,ok.s0,ok.sn,λb hb=>?_,λp hp=>(ok.pin p hp).ext xS⟩
 .rcases dU hj with⟨rfl,e1⟩ | ⟨ne,e1⟩
  .cases e1
   exact⟨_,hv,a,ys,rfl,dq,r.ext xS,hs,h0⟩
  .obtain⟨w,hw,kF⟩:=ok.val j e e1
   refine⟨w,hw,?_⟩
   cases e with
   | s d=>exact dR.ext xS kF
   | o g8 =>
    obtain⟨b,zs,e2,hb,r2,ng,rG⟩:=kF;subst e2;have:b≠a:=λz=>ne (ok.ne i j _ _ a he e1 hv (z ▸ hw));exact⟨b,zs,rfl,by rw[dC this];exact hb,r2.ext xS,ng,rG⟩
   | x c as =>
    obtain⟨b,dx,vs,e2,hb,hd,r2,g1,g2⟩:=kF;exact⟨b,dx,vs,e2,by rw[dC (λz=>by rw[z,ha] at hb;cases hb)];exact hb,by rw[dC (λz=>by rw[z,ha] at hd;cases hd)];exact hd,r2.ext xS,g1,g2⟩
   | d b t kvs =>
    obtain⟨e2,zs,hb,r2,D5,ng,rG⟩:=kF;exact⟨e2,zs,by rw[dC (λz=>by rw[z,ha] at hb;exact mH hb)];exact hb,r2.ext xS,D5,ng,rG⟩
   | f b o kvs zs =>
    obtain⟨e2,hb,r2,ng,rG⟩:=kF;exact⟨e2,by rw[dC (λz=>by rw[z,ha] at hb;cases hb)];exact hb,r2.ext xS,ng,rG⟩
 .have g1:∃l,env[j]? = some (some (.o l)):=by
   rcases dU h2 with⟨rfl,_⟩ | ⟨_,e1⟩
   .exact⟨_,he⟩
   .exact⟨_,e1⟩
  have g2:∃l,env[k]? = some (some (.o l)):=by
   rcases dU h3 with⟨rfl,_⟩ | ⟨_,e1⟩
   .exact⟨_,he⟩
   .exact⟨_,e1⟩
  obtain⟨l1,g1⟩:=g1;obtain⟨l2,g2⟩:=g2;exact ok.ne j k _ _ b g1 g2 h4 h5
 .by_cases z:b=a
  .rw[z,dq];simp
  .rw[dC z];exact ok.has b hb
theorem dA.freeze (ok:dA M env pn σ S H n){ds:List af}(he:env[i]? = some (some (.o ds))):∃a xs S',σ[i]? = some (some (.ref a))/\H a=some (.lst xs)/\dR S' H (.list ds) (.ref a)/\dA M (env.set i (some (.s (.list ds)))) pn σ S' H n:=by
 obtain⟨v',hv,a,xs,rfl,ha,r,hs,h0⟩:=ok.val i _ he;have less:∀b∈S.filter (·≠a),b∈S:=λb hb=>(aP.mp hb).1;have hr:dR (S.filter (·≠a)) H (.list ds) (.ref a):=.lst ha (!4) (r.less less);refine⟨a,xs,S.filter (·≠a),hv,ha,hr,λj e hj=>?_,λj k p8 g8 b h2 h3 h4 h5=>?_,by rw[aZ,ok.len],ok.xC,ok.gd,ok.ext,λb hb=>?_,λb hb=>ok.sn b (less b hb),λb hb=>ok.has b (less b hb),λp hp=>(ok.pin p hp).less less⟩
 .rcases dU hj with⟨rfl,e1⟩ | ⟨ne,e1⟩
  .cases e1
   exact⟨_,hv,hr⟩
  .obtain⟨w,hw,kF⟩:=ok.val j e e1
   refine⟨w,hw,?_⟩
   cases e with
   | s d=>exact dR.less less kF
   | o g8 =>
    obtain⟨b,zs,e2,hb,r2,ng,rG⟩:=kF;subst e2;have:b≠a:=λz=>ne (ok.ne i j _ _ a he e1 hv (z ▸ hw));exact⟨b,zs,rfl,hb,r2.less less,aP.mpr ⟨ng,by simpa using this⟩,rG⟩
   | x c as =>
    obtain⟨b,dx,vs,e2,hb,hd,r2,g1,g2⟩:=kF;exact⟨b,dx,vs,e2,hb,hd,r2.less less,g1,g2⟩
   | d b t kvs =>
    obtain⟨e2,zs,hb,r2,D5,ng,rG⟩:=kF;have:b≠a:=λz=>by rw[z,ha] at hb;exact mH hb
    exact⟨e2,zs,hb,r2.less less,D5,aP.mpr ⟨ng,by simpa using this⟩,rG⟩
   | f b o kvs zs =>
    obtain⟨e2,hb,r2,ng,rG⟩:=kF;have:b≠a:=λz=>by rw[z,ha] at hb;cases hb
    exact⟨e2,hb,r2.less less,aP.mpr ⟨ng,by simpa using this⟩,rG⟩
 .rcases dU h2 with⟨_,e1⟩ | ⟨_,e1⟩
  .cases e1
  .rcases dU h3 with⟨_,e2⟩ | ⟨_,e2⟩
   .cases e2
   .exact ok.ne j k _ _ b e1 e2 h4 h5
 .refine aP.mpr ⟨ok.s0 b hb,?_⟩
  have:b≠a:=λz=>M.tK b hb (z ▸ h0);simpa using this
theorem dA.pins (ok:dA M env pn σ S H n)(h:∀p∈qn,p∈pn):dA M env qn σ S H n:=⟨ok.val,ok.ne,ok.len,ok.xC,ok.gd,ok.ext,ok.s0,ok.sn,ok.has,λp hp=>ok.pin p (h p hp)⟩
theorem dA.Ez (ok:dA M env pn σ S H n)(h:dR S H d v):dA M env ((d,v)::pn) σ S H n:=⟨ok.val,ok.ne,ok.len,ok.xC,ok.gd,ok.ext,ok.s0,ok.sn,ok.has,λp hp=>by
 rcases au.mp hp with rfl | hp
 .exact h
 .exact ok.pin p hp⟩
end
noncomputable abbrev UG:=af->d9->(d9->Prop)->Prop
noncomputable def g6 (i:Nat):UG:=λd env Q=>Q (env.set i (some (.s d)))
noncomputable def Cw:List UG->List af->d9->(d9->Prop)->Prop
 | [],[],env,Q=>Q env
 | u::us,d::ds,env,Q=>u d env λdH=>Cw us ds dH Q
 | _,_,_,_=>False
noncomputable def HF (us:List UG):UG:=λd env Q=>match d with | .tuple ds=>Cw us ds env Q | _=>False
noncomputable def JE (M:Fr)(u:UG):TG:=λv σ H R=>∃env pn S n d N,dA M env pn σ S H n/\dR S H d v/\u d env N/\∀dH σ',dA M dH pn σ' S H n->N dH->R σ' H
noncomputable def L4 (M:Fr)(us:List UG):Kv:=λvs σ H R=>∃env pn S n ds N,dA M env pn σ S H n/\dm S H ds vs/\Cw us ds env N/\∀dH σ',dA M dH pn σ' S H n->N dH->R σ' H
structure KG (X:Cx) (M:Fr) (e:Expr) (u:UG):Prop where run:QG X e (JE M u)
structure Qj (X:Cx) (M:Fr) (es:List Expr) (us:List UG):Prop where run:Jn X es (L4 M us)
theorem QG.weaken (h:QG X e t)(w:∀v σ H Q,t' v σ H Q->t v σ H Q):QG X e t':=⟨λpins s σ H v u D I r q=>h.run pins s σ H v u D I r (w _ σ H _ q)⟩
theorem Jn.weaken (h:Jn X es t)(w:∀v σ H Q,t' v σ H Q->t v σ H Q):Jn X es t':=⟨λpins s σ H v u D I r q=>h.run pins s σ H v u D I r (w _ σ H _ q)⟩
section
theorem Vy (hN:X.N.Nodup)(hx:Loc X.env.scope x)(hi:X.N[i]? = some x:=by rfl)(hf:X.fn x=true\/X.env.scope.names.lookup x=some .local:=by (first | exact .inl rfl | exact .inr rfl | assumption))(hfd:i ∉ M.fd:=by decide):KG X M (.Name x pos) (g6 i) :=
 ⟨(n8 hN hi hx hf).weaken λv σ H R h=>Qi h λenv pn S n d N h=>h.2.2.2 _ _ (h.1.set h.2.1 hfd) h.2.2.1⟩
theorem rH:Qj X M [] []:=⟨G'.weaken λvs σ H R h=>Qi h λenv pn S n ds N h=>by
 obtain⟨ok,r,hu,k⟩:=h
 cases ds with
 | nil=>exact⟨r.eN,k _ _ ok hu⟩
 | cons d ds=>exact False.elim hu⟩
theorem rJ (h:KG X M e u)(hr:Qj X M es us)(hs:(assignEach (e::es) X.env).map (·.2)=assign e X.env::(assignEach es X.env).map (·.2):=by rfl):Qj X M (e::es) (u::us) :=
 ⟨(D2 h.run hr.run hs).weaken λvs σ H R h=>Qi h λenv pn S n ds N h=>by
  obtain⟨ok,r,hu,k⟩:=h
  cases ds with
  | nil=>exact False.elim hu
  | cons d ds =>
   obtain⟨x,t,rfl,r1,r2⟩:=r.of_cons;exact⟨x,t,rfl,env,pn,S,n,d,_,ok,r1,hu,λdH σ' jT q=>⟨dH,pn,S,n,ds,N,jT,r2,q,k⟩⟩⟩
theorem xK:∀{us:List UG} {ds:List af} {env:d9} {Q:d9->Prop},Cw us ds env Q->(∀u∈us,∀d env (Q:d9->Prop),u d env Q->∃dH,Q dH)->ds.length=us.length
 | [],[],_,_,_,_=>rfl
 | [],_::_,_,_,h,_=>False.elim h
 | _::_,[],_,_,h,_=>False.elim h
 | u::us,d::ds,env,Q,h,k=>by
  obtain⟨dH,h'⟩:=k u (aq ..) d env _ h;simp only[ap];rw[xK h' λw hw=>k w (ai _ hw)]
theorem O8:∀d env (Q:d9->Prop),g6 i d env Q->∃dH,Q dH:=λ_ _ _ h=>⟨_,h⟩
theorem O9 (hc:X.calm=true)(h:Qj X M es us)(hu:∀u∈us,∀d env (Q:d9->Prop),u d env Q->∃dH,Q dH)(hl:us.length=n')(hn:(assignEach es X.env).length=n':=by rfl)(BU:(assignEach es X.env).findIdx? (·.1)=none:=by rfl):KG X M (.Tuple es k pos) (HF us) :=
 ⟨(LG hc h.run hn BU).weaken λv σ H R h=>Qi h λenv pn S n d N h=>by
  obtain⟨ok,r,hh,k⟩:=h
  cases d with
  | tuple ds =>
   obtain⟨a,xs,rfl,ha,rs⟩:=r.eQ;exact⟨a,xs,rfl,gZ.of ha,by rw[rs.length,xK hh hu,hl],env,pn,S,n,ds,N,ok,rs,hh,k⟩
  | _=>exact False.elim hh⟩
end
structure y0 (S:List Addr) (J:It) (its:List af) (H:Hp):Prop where
 go:∀i,i<its.length->J.go i H
 FY:∀i x H',i<its.length->J.FY i H x H'->∃d,its[i]? = some d/\Ext [] H H'/\dR S H' d x
 stop:∀i,its.length<=i->J.stop i H
noncomputable abbrev UI:=d9->Int->(List af->d9->Int->Prop)->Prop
noncomputable abbrev UJ:=d9->Int->(List af->Int->Prop)->Prop
theorem QI.kr (h:QI X tg iter wi):QI X tg iter (λσ H R=>wi σ H λJ H1=>ko H1->R J H1) :=
 ⟨λpins s σ H R I q=>fc (h.run pins s σ H _ I q) λv s1 q1=>fc q1 λit s2 ⟨a,fp,tn,J,H',e,I2,t,t0,f,r⟩=>⟨a,fp,tn,J,H',e,I2,t,t0,f,r I2.hok.kr⟩⟩
structure KI (X:Cx) (M:Fr) (tg iter:Expr) (u:UI):Prop where
 ex:∃wi,QI X tg iter wi/\∀σ H R env pn S n Q,dA M env pn σ S H n->u env n Q ->
  (∀J H' its dH S' n' p,dA M dH (p++pn) σ S' H' n'->(∀S2 H2,(∀q∈p,dR S2 H2 q.1 q.2)->y0 S2 J its H2)->Q its dH n'->R J H')->wi σ H R
structure KJ (X:Cx) (M:Fr) (tg iter:Expr) (u:UJ):Prop where
 ex:∃wi,QI X tg iter wi/\∀σ H R env pn S n Q,dA M env pn σ S H n->u env n Q ->
  (∀J H' its n',Ext M.gs H H'->M.G H' n'->(∀H2,Ext M.gs H' H2->y0 S J its H2)->its.length<=aA->Q its n'->R J H')->wi σ H R
theorem zX {K:W.Frag}{S:List Addr}{H:Hp}{a:Addr}{xs:List V}{ds:List af}(ha:H a=some (.tup xs))(r:dm S H ds xs):y0 S (Gx K a) ds H :=
 ⟨λi hi=>⟨xs,xs[i]'(by rw[r.length];exact hi),gZ.of ha,!4⟩,λi x H' _ ⟨e,y⟩=>by
  subst e;obtain⟨d,hd,rd⟩:=r.get (y xs (gZ.of ha));exact⟨d,hd,.refl _ _,rd⟩,λi hi=>⟨xs,gZ.of ha,by rw[r.length];exact hi⟩⟩
theorem vT {K:W.Frag}{S:List Addr}{H:Hp}{a:Addr}{xs:List V}{ds:List af}(ha:H a=some (.lst xs))(r:dm S H ds xs):y0 S (Gw K a) ds H :=
 ⟨λi hi=>⟨xs,xs[i]'(by rw[r.length];exact hi),fU.of ha,!4⟩,λi x H' _ ⟨e,y⟩=>by
  subst e;obtain⟨d,hd,rd⟩:=r.get (y xs (fU.of ha));exact⟨d,hd,.refl _ _,rd⟩,λi hi=>⟨xs,fU.of ha,by rw[r.length];exact hi⟩⟩
noncomputable def i5 (ds:List af):List af:=ds.zipIdx.map λp=>.tuple [.int (p.2:Nat),p.1]
theorem jd (ds:List af):(i5 ds).length=ds.length:=by simp[i5]
theorem xM {ds:List af}{i:Nat}{d:af}(h:ds[i]? = some d):(i5 ds)[i]? = some (.tuple [.int (i:Nat),d]):=by
 unfold i5;rw[aB,List.getElem?_zipIdx,h];simp
theorem xN {K:W.Frag}{S:List Addr}{H:Hp}{a:Addr}{xs:List V}{ds:List af}(ha:H a=some (.tup xs))(r:dm S H ds xs):y0 S (OO K a) (i5 ds) H :=
 ⟨λi hi=>⟨xs,xs[i]'(by rw[r.length,<- jd];exact hi),gZ.of ha,!4⟩,λi x H' _ ⟨T,xi,e1,hT,e2,RQ⟩=>by
  subst e1 e2;obtain⟨d,hd,rd⟩:=r.get (RQ xs (gZ.of ha));exact⟨_,xM hd,.new hT,.tup dq (.cons (.int _) (.cons (rd.ext (.new hT)) .nil))⟩,λi hi=>⟨xs,gZ.of ha,by rw[r.length,<- jd];exact hi⟩⟩
theorem xO {K:W.Frag}{S:List Addr}{H:Hp}{a:Addr}{xs:List V}{ds:List af}(ha:H a=some (.lst xs))(r:dm S H ds xs):y0 S (OU K a) (i5 ds) H :=
 ⟨λi hi=>⟨xs,xs[i]'(by rw[r.length,<- jd];exact hi),fU.of ha,!4⟩,λi x H' _ ⟨T,xi,e1,hT,e2,RQ⟩=>by
  subst e1 e2;obtain⟨d,hd,rd⟩:=r.get (RQ xs (fU.of ha));exact⟨_,xM hd,.new hT,.tup dq (.cons (.int _) (.cons (rd.ext (.new hT)) .nil))⟩,λi hi=>⟨xs,fU.of ha,by rw[r.length,<- jd];exact hi⟩⟩
noncomputable def oo (lo:Int)(n:Nat):List af:=(List.range n).map λ(k:Nat)=>.int (lo+k)
theorem EA {S:List Addr}{H:Hp}{lo:Int}{n:Nat}:y0 S (P' lo n) (oo lo n) H :=
 have hl:(oo lo n).length=n:=by simp[oo]
 ⟨λi hi=>by rw[hl] at hi;exact hi,λi x H' hi ⟨e1,e2⟩=>by
  subst e1 e2;rw[hl] at hi;exact⟨.int (lo+(i:Nat)),by simp[oo,cM hi],.refl _ _,.int _⟩,λi hi=>by rw[hl] at hi;exact hi⟩
noncomputable def Cy (i:Nat):UI:=λenv n Q=>match env[i]? with | some (some (.s (.tuple ds)))=>Q ds env n | some (some (.s (.list ds)))=>Q ds env n | some (some (.o ds))=>Q ds (env.set i (some (.s (.list ds)))) n | _=>False
noncomputable def oq (d:af):Option (List af):=match d with | .tuple ds=>some ds | .list ds=>some ds | _=>none
noncomputable def Pa (u:UX):UI:=λenv n Q=>u env n λd n1=>lq (oq d) λds=>Q ds env n1
noncomputable def HG (u:UX):UJ:=λenv n Q=>u env n λd n1=>lq (oq d) λds=>Q ds n1
noncomputable def RR (u:UX):UJ:=λenv n Q=>u env n λd n1=>lq (oq d) λds=>Q (i5 ds) n1
noncomputable def Pb (u:UX):UI:=λenv n Q=>u env n λd n1=>lq (oq d) λds=>Q (i5 ds) env n1
noncomputable def L5 (u:UX):UJ:=λenv n Q=>u env n λd n1=>match d with | .int j=>(-(2 ^ 62)<=j/\j<=16777216)/\Q (oo 0 j.toNat) n1 | _=>False
noncomputable def RS (u:UX):UI:=λenv n Q=>u env n λd n1=>match d with | .int j=>-(2 ^ 62)<=j/\j<2 ^ 62/\Q (oo 0 j.toNat) env n1 | _=>False
noncomputable def RT (K:W.Frag)(te:TE):TI:=λσ H R=>te σ H λx H1=>∃a,x=.ref a/\(((∃xs,fU K H1 a xs)/\R (Gw K a) H1)\/((∃xs,gZ K H1 a xs)/\R (Gx K a) H1))
noncomputable def RU (K:W.Frag)(ta:TA):TI:=λσ H R=>ta σ H λvs H1=>∃a,vs=[.ref a]/\(((∃xs,fU K H1 a xs)/\R (OU K a) H1)\/((∃xs,gZ K H1 a xs)/\R (OO K a) H1))
section
variable {X:Cx}{M:Fr}{tg e a b:Expr}{u w:UX}{p pos Ht:Pos}{xo:List Expr}{k:Nat}
theorem zY (h:QE X e te):QI X tg e (RT X.K te):=by
 refine⟨λpins s σ H R I q=>fc (h.run pins s σ H _ I q) λv s1 ⟨x,H1,I1,r1,q1⟩=>?_⟩;obtain⟨a,e,q1⟩:=q1;subst e;cases r1;rcases q1 with⟨⟨xs,hq⟩,q⟩ | ⟨⟨xs,hq⟩,q⟩
 .obtain⟨its,rv,p,hz⟩:=I1.list hq
  refine wpAny_pyIter_list p.isList ?_;refine⟨s1.heap.objs.size,[s1.heap.objs.size],_,_,H1,rfl,I1.kept (t':=s1.toks) λb o e=>ah _ e,tY a _,⟨_,ax _ rfl,rfl,rfl⟩,λb hb=>?_,q⟩;have e:b=s1.heap.objs.size:=by simpa using hb
  subst e;exact I1.pX (ao _) (I1.hok.fresh (ao _))
 .obtain⟨its,rv,p,hz⟩:=I1.tuple hq
  refine wpAny_pyIter_tuple (show s1.heap.IsTuple a its.toArray from p) ?_;refine⟨s1.heap.objs.size,[s1.heap.objs.size],_,_,H1,rfl,I1.kept (t':=s1.toks) λb o e=>ah _ e,qO a _,⟨_,ax _ rfl,rfl,rfl⟩,λb hb=>?_,q⟩;have e:b=s1.heap.objs.size:=by simpa using hb
  subst e;exact I1.pX (ao _) (I1.hok.fresh (ao _))
theorem EB (hg:Gl X "enumerate")(hm:X.mg "enumerate" = none)(ha:QA X [a] ta):QI X (.Tuple xo k Ht) (.Call (.Name "enumerate" p) [a] [] pos) (RU X.K ta):=by
 refine⟨λpins s σ H R I h=>?_⟩;have hs:=fm (env:=X.env) (es:=[]) (m9 ha.ns).1;refine Call_ (oU I hg hm (by decide +kernel:bootBuiltins "enumerate" = some (.type "enumerate")) (PyProof.Rows.callWith_type1 (fc (ha.run pos pins s σ H _ I h) λus s1 ⟨vs,H1,I1,r1,q1⟩=>?_) hs rfl));obtain⟨t,e,q1⟩:=q1;subst e
 have T1:∀b∈[s1.heap.objs.size+1,s1.heap.objs.size],pW X pins H1 b:=λb hb=>by
  have y9:s1.heap.objs.size<=b:=by
   rcases au.mp hb with z | z
   .rw[z];exact cH _
   .have z':b=s1.heap.objs.size:=by simpa using z
    rw[z'];exact ao _
  obtain⟨p0,p1,p2,p3,p4,p5⟩:=I1.pX y9 (I1.hok.fresh y9);exact⟨p0,p1,p2,p3,p4,p5⟩
 cases r1 with
 | cons r rr =>
  cases rr;cases (show _=ag.ref t from r);rcases q1 with⟨⟨xs,hq⟩,q⟩ | ⟨⟨xs,hq⟩,q⟩
  .obtain⟨its,rv,pp,hz⟩:=I1.list hq
   refine call_enumerate_list pp.isList λh' en RV sz kp=>?_;refine wpAny_pyIter_enum en ?_;have I2:Inv X pins σ H1 { s1 with heap:=h' }:=I1.kept (t':=s1.toks) kp;exact⟨s1.heap.objs.size+1,[s1.heap.objs.size+1,s1.heap.objs.size],_,_,H1,rfl,I2,zO t _ _ (cE _),⟨⟨_,en⟩,RV⟩,T1,q⟩
  .obtain⟨its,rv,pp,hz⟩:=I1.tuple hq
   refine zF (show s1.heap.IsTuple t its.toArray from pp) λh' en RV sz kp=>?_;refine wpAny_pyIter_enum en ?_;have I2:Inv X pins σ H1 { s1 with heap:=h' }:=I1.kept (t':=s1.toks) kp;exact⟨s1.heap.objs.size+1,[s1.heap.objs.size+1,s1.heap.objs.size],_,_,H1,rfl,I2,zG t _ _ (cE _),⟨⟨_,en⟩,RV⟩,T1,q⟩
theorem eL.its {K:W.Frag}{gs S:List Addr}{H:Hp}{d:af}{v:V}{ds:List af}(r:eL gs S H d v)(e:oq d=some ds)(hg:∀a∈gs,a∈S):∃a,v=.ref a /\
  (((∃xs,H a=some (.lst xs)/\xs.length=ds.length)/\∀H2,Ext gs H H2->y0 S (Gw K a) ds H2/\y0 S (OU K a) (i5 ds) H2)\/((∃xs,H a=some (.tup xs)/\xs.length=ds.length)/\∀H2,Ext gs H H2->y0 S (Gx K a) ds H2/\y0 S (OO K a) (i5 ds) H2)):=by
 cases d with
 | tuple es =>
  cases e;obtain⟨a,xs,rfl,ha,rs⟩:=r.eQ;exact⟨a,rfl,.inr ⟨⟨xs,ha,rs.length⟩,λH2 x=>⟨zX (x.tup _ _ ha) (rs.ext (x.mono hg)),xN (x.tup _ _ ha) (rs.ext (x.mono hg))⟩⟩⟩
 | list es =>
  cases e;have r0:=r;obtain⟨a,xs,rfl,ha,rs⟩:=r.eO;refine⟨a,rfl,.inl ⟨⟨xs,ha,rs.length⟩,λH2 x=>?_⟩⟩;obtain⟨a',pL,e',lx,Bl⟩:=(r0.ext hg x).eO;cases e';exact⟨vT lx Bl,xO lx Bl⟩
 | _=>cases e
theorem rK (h:KL X M e u):KJ X M tg e (HG u):=⟨_,(zY h.run).kr,λσ H R env pn S n Q ok hu k=>⟨env,pn,S,n,_,ok,hu,λv H1 d n1 r1 x1 g1 sz q=>by
 obtain⟨ds,e,q⟩:=q;obtain⟨a,rfl,h⟩:=r1.its (K:=X.K) e ok.qA;rcases h with⟨⟨xs,ha,hl⟩,h⟩ | ⟨⟨xs,ha,hl⟩,h⟩
 .exact⟨a,rfl,.inl ⟨⟨xs,fU.of ha⟩,λsz=>k _ H1 ds n1 x1 g1 (λH2 x2=>(h H2 x2).1) (by rw[<- hl];exact sz a xs (.inl ha)) q⟩⟩
 .exact⟨a,rfl,.inr ⟨⟨xs,gZ.of ha⟩,λsz=>k _ H1 ds n1 x1 g1 (λH2 x2=>(h H2 x2).1) (by rw[<- hl];exact sz a xs (.inr ha)) q⟩⟩⟩⟩
theorem L6 (hm:X.mg "enumerate" = none)(h:KL X M a u)(hs:d8 a=true:=by rfl)(hg:Gl X "enumerate" := by rfl):KJ X M (.Tuple xo k Ht) (.Call (.Name "enumerate" p) [a] [] pos) (RR u) :=
 ⟨_,(EB hg hm (gk h.run eG hs)).kr,λσ H R env pn S n Q ok hu k=>⟨env,pn,S,n,_,ok,hu,λv H1 d n1 r1 x1 g1 sz q=>by
  obtain⟨ds,e,q⟩:=q;obtain⟨a,rfl,h⟩:=r1.its (K:=X.K) e ok.qA;rcases h with⟨⟨xs,ha,hl⟩,h⟩ | ⟨⟨xs,ha,hl⟩,h⟩
  .exact⟨a,rfl,.inl ⟨⟨xs,fU.of ha⟩,λsz=>k _ H1 _ n1 x1 g1 (λH2 x2=>(h H2 x2).2) (by rw[jd,<- hl];exact sz a xs (.inl ha)) q⟩⟩
  .exact⟨a,rfl,.inr ⟨⟨xs,gZ.of ha⟩,λsz=>k _ H1 _ n1 x1 g1 (λH2 x2=>(h H2 x2).2) (by rw[jd,<- hl];exact sz a xs (.inr ha)) q⟩⟩⟩⟩
theorem EC (lo:Int)(n:Nat):(oo lo n).length=n:=by simp[oo]
theorem qC (hm:X.mg "range" = none)(h:KE X M a u)(hs:d8 a=true:=by rfl)(hg:Gl X "range" := by rfl):KJ X M tg (.Call (.Name "range" p) [a] [] pos) (L5 u) :=
 ⟨_,uq hg hm (gk h.run eG hs),λσ H R env pn S n Q ok hu k=>⟨env,pn,S,n,_,ok,hu,λv H1 d n1 r1 x1 g1 sz q=>by
  cases d with
  | int j =>
   have hsz:aA=16777216:=by decide
   exact⟨j,by rw[r1.d4],q.1.1,by have:=q.1.2;omega,k _ H1 _ n1 x1 g1 (λH2 _=>EA) (by rw[EC,hsz];have:=q.1.2;omega) q.2⟩
  | _=>exact False.elim q⟩⟩
theorem Bm {K:W.Frag}{d:af}{v:V}{ds:List af}(e:oq d=some ds){S:List Addr}{H:Hp}(r:dR S H d v):∃a,v=.ref a /\
  (((∃xs,H a=some (.lst xs))/\∀S2 H2,(∀q∈[(d,v)],dR S2 H2 q.1 q.2)->y0 S2 (Gw K a) ds H2/\y0 S2 (OU K a) (i5 ds) H2)\/((∃xs,H a=some (.tup xs))/\∀S2 H2,(∀q∈[(d,v)],dR S2 H2 q.1 q.2)->y0 S2 (Gx K a) ds H2/\y0 S2 (OO K a) (i5 ds) H2)):=by
 cases d with
 | tuple es =>
  cases e;obtain⟨a,xs,rfl,ha,rs⟩:=r.eQ;refine⟨a,rfl,.inr ⟨⟨xs,ha⟩,λS2 H2 h=>?_⟩⟩;obtain⟨a',pL,e',lx,Bl⟩:=(h _ (am.mpr rfl)).eQ;cases e';exact⟨zX lx Bl,xN lx Bl⟩
 | list es =>
  cases e;obtain⟨a,xs,rfl,ha,_,rs⟩:=r.eO;refine⟨a,rfl,.inl ⟨⟨xs,ha⟩,λS2 H2 h=>?_⟩⟩;obtain⟨a',pL,e',lx,_,Bl⟩:=(h _ (am.mpr rfl)).eO;cases e';exact⟨vT lx Bl,xO lx Bl⟩
 | _=>cases e
theorem JF (h:KE X M e u):KI X M tg e (Pa u):=⟨_,zY h.run,λσ H R env pn S n Q ok hu k=>⟨env,pn,S,n,_,ok,hu,λv H1 d n1 r1 x1 g1 sz q=>by
 obtain⟨ds,e,q⟩:=q;have iR:=(ok.step x1 g1).Ez r1;obtain⟨a,rfl,h⟩:=Bm (K:=X.K) e r1;rcases h with⟨⟨xs,ha⟩,h⟩ | ⟨⟨xs,ha⟩,h⟩
 .exact⟨a,rfl,.inl ⟨⟨xs,fU.of ha⟩,k _ H1 ds env S n1 [_] iR (λS2 H2 hh=>(h S2 H2 hh).1) q⟩⟩
 .exact⟨a,rfl,.inr ⟨⟨xs,gZ.of ha⟩,k _ H1 ds env S n1 [_] iR (λS2 H2 hh=>(h S2 H2 hh).1) q⟩⟩⟩⟩
theorem ED (hm:X.mg "enumerate" = none)(h:KE X M a u)(hs:d8 a=true:=by rfl)(hg:Gl X "enumerate" := by rfl):KI X M (.Tuple xo k Ht) (.Call (.Name "enumerate" p) [a] [] pos) (Pb u) :=
 ⟨_,EB hg hm (gk h.run eG hs),λσ H R env pn S n Q ok hu k=>⟨env,pn,S,n,_,ok,hu,λv H1 d n1 r1 x1 g1 sz q=>by
  obtain⟨ds,e,q⟩:=q;have iR:=(ok.step x1 g1).Ez r1;obtain⟨a,rfl,h⟩:=Bm (K:=X.K) e r1;rcases h with⟨⟨xs,ha⟩,h⟩ | ⟨⟨xs,ha⟩,h⟩
  .exact⟨a,rfl,.inl ⟨⟨xs,fU.of ha⟩,k _ H1 _ env S n1 [_] iR (λS2 H2 hh=>(h S2 H2 hh).2) q⟩⟩
  .exact⟨a,rfl,.inr ⟨⟨xs,gZ.of ha⟩,k _ H1 _ env S n1 [_] iR (λS2 H2 hh=>(h S2 H2 hh).2) q⟩⟩⟩⟩
theorem Bn (hm:X.mg "range" = none)(h:KE X M a u)(hs:d8 a=true:=by rfl)(hg:Gl X "range" := by rfl):KI X M tg (.Call (.Name "range" p) [a] [] pos) (RS u) :=
 ⟨_,uq hg hm (gk h.run eG hs),λσ H R env pn S n Q ok hu k=>⟨env,pn,S,n,_,ok,hu,λv H1 d n1 r1 x1 g1 sz q=>by
  cases d with
  | int j=>exact⟨j,by rw[r1.d4],q.1,q.2.1,k _ H1 _ env S n1 [] (ok.step x1 g1) (λS2 H2 _=>EA) q.2.2⟩
  | _=>exact False.elim q⟩⟩
theorem EE (i:Nat)(hN:X.N[i]? = some x:=by rfl)(hv:tf X.env.scope x:=by (first | exact Or.inl rfl | exact Or.inr (Or.inl rfl) | exact Or.inr (Or.inr rfl)))(hd:(x == ("__debug__" : Str))=false:=by decide)
  (jz:(x == ("__classdict__" : Str))=false:=by decide):KI X M tg (.Name x pos) (Cy i):=⟨_,zY (qv i hN hv hd jz),λσ H R env pn S n Q ok hu k=>by
 unfold Cy at hu;split at hu
 .rename_i ds he
  obtain⟨v,hv,r⟩:=ok.val i _ he;obtain⟨a,xs,rfl,ha,rs⟩:=dR.eQ r;refine⟨_,hv,a,rfl,.inr ⟨⟨xs,gZ.of ha⟩,k _ H ds env S n [(.tuple ds,.ref a)] (ok.Ez r) (λS2 H2 hh=>?_) hu⟩⟩;obtain⟨a',pL,e',lx,Bl⟩:=(hh _ (am.mpr rfl)).eQ;cases e';exact zX lx Bl
 .rename_i ds he
  obtain⟨v,hv,r⟩:=ok.val i _ he;obtain⟨a,xs,rfl,ha,_,rs⟩:=dR.eO r;refine⟨_,hv,a,rfl,.inl ⟨⟨xs,fU.of ha⟩,k _ H ds env S n [(.list ds,.ref a)] (ok.Ez r) (λS2 H2 hh=>?_) hu⟩⟩;obtain⟨a',pL,e',lx,_,Bl⟩:=(hh _ (am.mpr rfl)).eO;cases e';exact vT lx Bl
 .rename_i ds he
  obtain⟨a,xs,S',hv,ha,r,jT⟩:=ok.freeze he;refine⟨_,hv,a,rfl,.inl ⟨⟨xs,fU.of ha⟩,k _ H ds _ S' n [(.list ds,.ref a)] (jT.Ez r) (λS2 H2 hh=>?_) hu⟩⟩;obtain⟨a',pL,e',lx,_,Bl⟩:=(hh _ (am.mpr rfl)).eO;cases e';exact vT lx Bl
 .exact hu.elim⟩
end
noncomputable def du (u w:US):US:=λE env n=>u { E with nx:=w E } env n
noncomputable def L7 (u w:US):US:=λE env n=>∃C:d9->Int->Prop,u { E with nx:=C } env n/\∀dH n',C dH n'->w E dH n'
noncomputable def fh:US:=λE env n=>E.nx env n
noncomputable def fR (c:UT)(u w:US):US:=λE env n=>c env n λb n1=>if b=true then u E env n1 else w E env n1
noncomputable def eA (u:UX):US:=λE env n=>u env n E.rt
noncomputable def lS (i:Nat):US:=λE env n=>match env[i]? with | some (some (.s d))=>E.rt d n | some (some (.o ds))=>E.rt (.list ds) n | some (some (.d _ t kvs))=>E.rt (eC t kvs) n | _=>False
noncomputable def dW (i:Nat)(u:UX):US:=λE env n=>u env n λd n1=>E.nx (env.set i (some (.s d))) n1
noncomputable def rL (i:Nat)(u:d9->Int->(List af->Int->Prop)->Prop):US:=λE env n=>u env n λds n1=>E.nx (env.set i (some (.o ds))) n1
noncomputable def HH (u:UX)(g:UG):US:=λE env n=>u env n λd n1=>g d env λdH=>E.nx dH n1
section
variable {X:Cx}{M:Fr}{st:Stmt}{Hb body OC:List Stmt}{u w:US}{e c tg iter a b:Expr}{ue ua ub:UX}{uc:UT}{pos:Pos}
theorem KS.of (h:QS X st t)(k:∀D σ H env pn S n E,dA M env pn σ S H n->u E env n->(∀dH σ' S' H' n',dA M dH pn σ' S' H' n'->E.nx dH n'->D.nx σ' H')->(∀v H' d n',dR M.S0 H' d v->Ext M.gs M.H0 H'->M.G H' n'->E.rt d n'->D.rt v H')->t D σ H):KS X M st u :=
 ⟨h.weaken λD σ H h=>A7 h λenv pn S n E h=>k D σ H env pn S n E h.1 h.2.1 h.2.2.1 h.2.2.2⟩
theorem fX:uG X M [] fh:=⟨qw.weaken λD σ H h=>A7 h λenv pn S n E h=>h.2.2.1 _ _ _ _ _ h.1 h.2.1⟩
theorem dB (h:KS X M st u):uG X M [st] u:=⟨gL h.run⟩
theorem dM (h:KS X M st u)(hr:uG X M Hb w):uG X M (st::Hb) (du u w):=⟨(eD h.run hr.run).weaken λD σ H h=>A7 h λenv pn S n E h =>
 ⟨env,pn,S,n,_,h.1,h.2.1,λdH σ' S' H' n' jT q=>⟨dH,pn,S',n',E,jT,q,h.2.2.1,h.2.2.2⟩,h.2.2.2⟩⟩
theorem Pc (h:KS X M st u)(hr:uG X M Hb w):uG X M (st::Hb) (L7 u w):=⟨(eD h.run hr.run).weaken λD σ H h=>A7 h λenv pn S n E h=>Exists.elim h.2.1 λC hC =>
 ⟨env,pn,S,n,_,h.1,hC.1,λdH σ' S' H' n' jT q=>⟨dH,pn,S',n',E,jT,hC.2 _ _ q,h.2.2.1,h.2.2.2⟩,h.2.2.2⟩⟩
theorem ou (hc:KB X M c uc)(ha:uG X M body u)(hb:uG X M OC w):KS X M (.If c body OC pos) (fR uc u w):=.of (A1 hc.run ha.run hb.run) λD σ H env pn S n E ok hu k1 k2 =>
 ⟨env,pn,S,n,_,ok,hu,λb H1 n1 x1 g1 q=>by
  cases b with
  | true=>exact⟨env,pn,S,n1,E,ok.step x1 g1,q,k1,k2⟩
  | false=>exact⟨env,pn,S,n1,E,ok.step x1 g1,q,k1,k2⟩⟩
theorem eP (h:KE X M e ue):KS X M (.Return (some e) pos) (eA ue):=.of (kJ h.run) λD σ H env pn S n E ok hu k1 k2 =>
 ⟨env,pn,S,n,_,ok,hu,λv H1 d n1 r1 x1 g1 _ q=>k2 v H1 d n1 (r1.less ok.s0) (ok.step x1 g1).ext g1 q⟩
theorem zZ (i:Nat)(hN:X.N[i]? = some x:=by rfl)(hv:tf X.env.scope x:=by (first | exact Or.inl rfl | exact Or.inr (Or.inl rfl) | exact Or.inr (Or.inr rfl)))(hd:(x == ("__debug__" : Str))=false:=by decide)
  (jz:(x == ("__classdict__" : Str))=false:=by decide):KS X M (.Return (some (.Name x fZ)) pos) (lS i):=.of (kJ (qv i hN hv hd jz)) λD σ H env pn S n E ok hu k1 k2=>by
 unfold lS at hu;split at hu
 .rename_i d he
  obtain⟨v,hv,r⟩:=ok.val i _ he;exact⟨v,hv,k2 v H d n (dR.less ok.s0 r) ok.ext ok.gd hu⟩
 .rename_i ds he
  obtain⟨v,hv,a,xs,rfl,ha,r,hs,h0⟩:=ok.val i _ he;exact⟨_,hv,k2 _ H _ n (.lst ha (λz=>M.tK a z h0) (r.less ok.s0)) ok.ext ok.gd hu⟩
 .rename_i a t kvs he
  obtain⟨v,hv,rfl,xs,ha,r,hk,hs,h0⟩:=ok.val i _ he;exact⟨_,hv,k2 _ H _ n (.M5 ha (λz=>M.tK a z h0) hk (r.less ok.s0)) ok.ext ok.gd hu⟩
 .exact hu.elim
theorem Pd (hN:X.N.Nodup)(hx:Loc X.env.scope x)(h:KE X M e ue)(hi:X.N[i]? = some x:=by rfl)(hs:swapsWith e (some (.Name x fZ)) pos.line X.env=pure false:=by rfl)
  (hf:X.fn x=true\/X.env.scope.names.lookup x=some .local:=by (first | exact .inl rfl | exact .inr rfl | assumption)) (hfd:i ∉ M.fd:=by decide):KS X M (.Assign [.Name x fZ] e pos) (dW i ue):=.of (gC hN hi hx h.run hs hf) λD σ H env pn S n E ok hu k1 k2 =>
 ⟨env,pn,S,n,_,ok,hu,λv H1 d n1 r1 x1 g1 _ q=>k1 _ _ _ _ _ ((ok.step x1 g1).set r1 hfd) q⟩
theorem Pe (hN:X.N.Nodup)(hx:Loc X.env.scope x)(h:KN X M e un)(hi:X.N[i]? = some x:=by rfl)(hs:swapsWith e (some (.Name x fZ)) pos.line X.env=pure false:=by rfl)
  (hf:X.fn x=true\/X.env.scope.names.lookup x=some .local:=by (first | exact .inl rfl | exact .inr rfl | assumption)) (hfd:i ∉ M.fd:=by decide):KS X M (.Assign [.Name x fZ] e pos) (rL i un):=.of (gC hN hi hx h.run hs hf) λD σ H env pn S n E ok hu k1 k2 =>
 ⟨env,pn,S,n,_,ok,hu,λa xs H1 ds n1 h0 h1 r1 x1 g1 _ q=>k1 _ _ _ _ _ (ok.RO h0 h1 r1 x1 g1 hfd) q⟩
theorem Pf (he:KE X M e ue)(hg:KG X M tg g)(hs:swapsWithSole [tg] e pos.line X.env=pure false:=by rfl)(hw:swappedStores [tg] e X.env=pure none:=by rfl)
  (h1:(assignEach [tg] X.env).map (·.2)=[assign tg X.env]:=by rfl):KS X M (.Assign [tg] e pos) (HH ue g):=.of (vF he.run hg.run hs hw h1) λD σ H env pn S n E ok hu k1 k2 =>
 ⟨env,pn,S,n,_,ok,hu,λv H1 d n1 r1 x1 g1 _ q=>⟨env,pn,S,n1,d,_,ok.step x1 g1,r1,q,λdH σ' jT q'=>k1 _ _ _ _ _ jT q'⟩⟩
noncomputable def i6 (ug:UG)(ub:US)(E:lO):List af->d9->Int->Prop
 | [],env,n=>E.nx env n
 | d::ds,env,n=>ug d env λdH=>ub { nx:=i6 ug ub E ds,rt:=E.rt } dH n
noncomputable def nB (ui:UI)(ug:UG)(ub:US):US:=λE env n=>ui env n λits EF n1=>i6 ug ub E its EF n1
noncomputable def o4 (c:UT)(ub:US):US:=λE env n=>∃W:Nat->d9->Int->Prop,(∃m,W m env n)/\∀m env n,W m env n->c env n λb n1=>if b=true then ub { nx:=λdH n'=>∃m',m' < m/\W m' dH n',rt:=E.rt } env n1 else E.nx env n1
theorem ox (hp:PassesOwn (model X.prog X.w) X.A X.env X.xe)(hc:X.calm=true)(hi:KI X M tg iter ui)(hg:KG X M tg ug)(hb:uG X M body u)(hs:∀x,foldedSetIterable iter X.env x=pure x:=by rw[3]):KS X M (.For tg iter body [] pos) (nB ui ug u):=by
 obtain⟨wi,qi,Pg⟩:=hi.ex;refine .of (vG hp hc qi hg.run hb.run hs) λD σ H env pn S n E ok hu k1 k2=>Pg σ H _ env pn S n _ ok hu λJ H1 its EF S1 n1 p iR hJ q=>?_;refine⟨λi m σ' H'=>m=its.length - i/\i<=its.length/\∃dH S' n',dA M dH (p++pn) σ' S' H' n'/\i6 ug u E (its.drop i) dH n',⟨its.length,!4,bL _,EF,S1,n1,iR,q⟩,?_⟩;rintro i m σ' H' ⟨rfl,HI,dH,S',n',jT,q'⟩;have it:=hJ S' H' λr hr=>jT.pin r (bn _ hr);by_cases jB:i<its.length
 .refine .inr ⟨it.go i jB,λσ2 H2=>∃tL S2 n2,dA M tL (p++pn) σ2 S2 H2 n2/\i6 ug u E (its.drop (i+1)) tL n2,λσ2 H2 h=>⟨its.length - (i+1),!1,rfl,jB,h⟩,λx H2 hy=>?_⟩
  obtain⟨d,hd,x2,rd⟩:=it.FY i x H2 jB hy
  have e:its.drop i=d::its.drop (i+1):=by
   rw[bv jB];congr;exact (aD.mp hd).2
  rw[e] at q';have uI:=jT.step (x2.mono (!4)) (M.i9 jT.gd x2 (!4));exact⟨dH,p++pn,S',n',d,_,uI,rd,q',λxP σ3 F' q3=>⟨xP,p++pn,S',n',_,F',q3,λL8 σ4 S4 H4 n4 RW q4=>⟨L8,S4,n4,RW,q4⟩,k2⟩⟩
 .refine .inl ⟨it.stop i (!1),?_⟩
  rw[bC (!1)] at q';exact k1 _ _ _ _ _ (jT.pins λr hr=>bf _ hr) q'
theorem Bo (hp:PassesOwn (model X.prog X.w) X.A X.env X.xe)(hc:KB X M c uc)(hb:uG X M body u):KS X M (.While c body [] pos) (o4 uc u) :=
 .of (D3 hp hc.run hb.run) λD σ H env pn S n E ok ⟨W,⟨m,hm⟩,hW⟩ k1 k2=>by
  refine⟨λm σ' H'=>∃dH S' n',dA M dH pn σ' S' H' n'/\W m dH n',⟨m,env,S,n,ok,hm⟩,?_⟩;rintro m σ' H' ⟨dH,S',n',jT,hw⟩;refine⟨dH,pn,S',n',_,jT,hW m dH n' hw,λb H1 n1 x1 g1 q=>?_⟩
  cases b with
  | true=>exact⟨λσ2 H2=>∃m',m' < m/\∃tL S2 n2,dA M tL pn σ2 S2 H2 n2/\W m' tL n2,λσ2 H2 h=>h,dH,pn,S',n1,_,jT.step x1 g1,q,λtL σ2 S2 H2 n2 uI ⟨m',M1,Ph⟩=>⟨m',M1,tL,S2,n2,uI,Ph⟩,k2⟩
  | false=>exact k1 _ _ _ _ _ (jT.step x1 g1) q
end
noncomputable def pO (mp:List (Option Nat))(env:d9):d9:=mp.map λo=>match o with | none=>none | some i=>(env[i]?).join
noncomputable def Fr.sub (M:Fr)(fd:List Nat):Fr:={ M with fd:=fd }
noncomputable def fq (ug:UG)(uc:UT)(ue:UX)(Q:List af->Int->Prop):List af->List af->d9->Int->Prop
 | [],acc,_,n=>Q acc n
 | d::ds,acc,env,n=>ug d env λdH=>uc dH n λb n1=>if b=true then ue dH n1 λy n2=>fq ug uc ue Q ds (acc++[y]) dH n2 else fq ug uc ue Q ds acc dH n1
noncomputable def iH (ui:UJ)(mp:List (Option Nat))(ug:UG)(uc:UT)(ue:UX):d9->Int->(List af->Int->Prop)->Prop:=λenv n Q=>ui env n λits n1=>fq ug uc ue Q its [] (pO mp env) n1
noncomputable def vU:UT:=λ_ n Q=>Q true n
structure KK (X:Cx) (M:Fr) (vC:List Expr) (u:UT):Prop where run:QK X vC (liftT M u)
section
theorem dA.lJ (ok:dA M env pn σ S H n)(hfd:∀j∈fd,∃i∈M.fd,mp[j]? = some (some i))(HJ:(mp.filterMap id).Nodup):dA (M.sub fd) (pO mp env) pn (lJ mp σ) S H n:=by
 have at':∀(j:Nat) (e:Ent),(pO mp env)[j]? = some (some e)->∃i,mp[j]? = some (some i)/\env[i]? = some (some e):=λj e he=>by
  unfold pO at he;rw[aB] at he
  cases hm:mp[j]? with
  | none=>rw[hm] at he;cases he
  | some o =>
   rw[hm] at he
   cases o with
   | none=>cases he
   | some i =>
    refine⟨i,rfl,?_⟩;have Cz:(env[i]?).join=some e:=Option.some.inj he
    cases hv:env[i]? with
    | none=>rw[hv] at Cz;cases Cz
    | some z=>rw[hv] at Cz;exact congrArg some (show z=some e from Cz)
 have RX:∀(j i:Nat) (v:V),mp[j]? = some (some i)->σ[i]? = some (some v)->(L2.lJ mp σ)[j]? = some (some v):=λj i v h1 h2=>by
  unfold L2.lJ;rw[aB,h1];simp[h2]
 have RY:∀(j i:Nat) (v:V),mp[j]? = some (some i)->(L2.lJ mp σ)[j]? = some (some v)->σ[i]? = some (some v):=λj i v h1 h2=>by
  unfold L2.lJ at h2;rw[aB,h1] at h2;have Cz:(σ[i]?).join=some v:=Option.some.inj h2
  cases hv:σ[i]? with
  | none=>rw[hv] at Cz;cases Cz
  | some z=>rw[hv] at Cz;exact congrArg some (show z=some v from Cz)
 refine⟨λj e he=>?_,λj k ds es a h1 h2 h3 h4=>?_,by simp[pO,L2.lJ],λj hj=>?_,ok.gd,ok.ext,ok.s0,ok.sn,ok.has,ok.pin⟩
 .obtain⟨i,hm,hv⟩:=at' j e he
  obtain⟨v,yZ,r⟩:=ok.val i e hv;exact⟨v,RX j i v hm yZ,r⟩
 .obtain⟨i,hm,hv⟩:=at' j _ h1
  obtain⟨i2,F6,EG⟩:=at' k _ h2;have e:=ok.ne i i2 _ _ a hv EG (RY _ _ _ hm h3) (RY _ _ _ F6 h4);subst e;have hj:j<mp.length:=(aD.mp hm).1;have hk:k<mp.length:=(aD.mp F6).1;clear h1 h2 h3 h4 at' RX RY hfd
  induction mp generalizing j k with
  | nil=>cases hm
  | cons o mp ih =>
   have nd:∀{i:Nat},i∈mp.filterMap id->o≠some i:=λ{i} hi z=>by
    subst z;simp only[cf,id] at HJ;exact (bb.mp HJ).1 hi
   have RZ:(mp.filterMap id).Nodup:=by
    cases o with
    | none=>simpa using HJ
    | some z=>simp only[cf,id] at HJ;exact (bb.mp HJ).2
   have mem:∀{k:Nat},mp[k]? = some (some i)->i∈mp.filterMap id:=λ{k} hk=>cO.mpr ⟨some i,bY hk,rfl⟩
   cases j with
   | zero=>cases k with
    | zero=>rfl
    | succ k =>
     have h1:o=some i:=by simpa using hm
     have h2:mp[k]? = some (some i):=by simpa using F6
     exact absurd h1 (nd (mem h2))
   | succ j=>cases k with
    | zero =>
     have h1:o=some i:=by simpa using F6
     have h2:mp[j]? = some (some i):=by simpa using hm
     exact absurd h1 (nd (mem h2))
    | succ k=>rw[ih RZ j k (by simpa using hm) (by simpa using F6) (by simpa using hj) (by simpa using hk)]
 .obtain⟨i,hi,hm⟩:=hfd j hj
  exact RX j i _ hm (ok.xC i hi)
theorem o5:KK X M [] vU:=⟨⟨λpins s σ H Q I h=>A7 h λenv pn S n R h=>LI.run pins s σ H Q I (h.2.2 true H n (.refl _ _) h.1.gd h.2.1)⟩⟩
theorem o6 (h:KB X M c uc):KK X M [c] uc:=⟨zz h.run⟩
theorem HK (Pg:∀σ H R env pn S n Q,dA M env pn σ S H n->ui env n Q ->
  (∀J H' its n',Ext M.gs H H'->M.G H' n'->(∀H2,Ext M.gs H' H2->y0 S J its H2)->its.length<=aA->Q its n'->R J H')->wi σ H R)
  (hfd:∀j∈fd,∃i∈M.fd,mp[j]? = some (some i)) (HJ:(mp.filterMap id).Nodup) (ok:dA M env pn σ S H n) (hu:iH ui mp ug uc ue env n Q)
  (k:∀ys H' ds n',dm S H' ds ys->Ext M.gs H H'->M.G H' n'->Q ds n'->R ys H'):AV wi mp (JE (M.sub fd) ug) (liftT (M.sub fd) uc) (OY (M.sub fd) ue) σ H R:=by
 refine Pg σ H _ env pn S n _ ok hu λJ H1 its n1 x1 g1 hJ hl q=>?_;have iR:=ok.step x1 g1
 refine⟨λi m ys σ' H'=>m=its.length - i/\i<=its.length/\∃dH n' acc,dA (M.sub fd) dH pn σ' S H' n'/\dm S H' acc ys/\acc.length<=i/\Ext M.gs H1 H'/\fq ug uc ue Q (its.drop i) acc dH n',
  ⟨its.length,!4,bL _,_,n1,[],iR.lJ hfd HJ,.nil,ao _,.refl _ _,q⟩,?_⟩
 rintro i m ys σ' H' ⟨rfl,HI,dH,n',acc,jT,ra,ha,x',q'⟩;have it:=hJ H' x';by_cases jB:i<its.length
 .refine .inr ⟨it.go i jB,by rw[ra.length];omega,λx H2 hy=>?_⟩
  obtain⟨d,hd,x2,rd⟩:=it.FY i x H2 jB hy
  have e:its.drop i=d::its.drop (i+1):=by
   rw[bv jB];congr;exact (aD.mp hd).2
  rw[e] at q';have uI:dA (M.sub fd) dH pn σ' S H2 n':=jT.step (x2.mono (!4)) (M.i9 jT.gd x2 (!4));refine⟨dH,pn,S,n',d,_,uI,rd,q',λxP σ3 F' q3=>⟨xP,pn,S,n',_,F',q3,λb H4 n4 x4 g4 q4=>?_⟩⟩;have Qk:Ext M.gs H' H4:=(x2.mono (!4)).trans x4
  cases b with
  | true=>exact⟨xP,pn,S,n4,_,F'.step x4 g4,q4,λy H5 dy n5 r5 x5 g5 _ q5=>⟨its.length - (i+1),!1,rfl,jB,xP,n5,acc++[dy],(F'.step x4 g4).step x5 g5,(ra.ext ((Qk.trans x5).mono ok.qA)).append (.cons r5 .nil),by simp;omega,x'.trans (Qk.trans x5),q5⟩⟩
  | false=>exact⟨its.length - (i+1),!1,rfl,jB,xP,n4,acc,F'.step x4 g4,ra.ext (Qk.mono ok.qA),!1,x'.trans Qk,q4⟩
 .refine .inl ⟨it.stop i (!1),by rw[ra.length];omega,?_⟩
  rw[bC (!1)] at q';exact k ys H' acc n' ra (x1.trans x') jT.gd q'
theorem iS (fd:List Nat)(hc:X.calm=true)(hi:KJ X M tg iter ui)(hk:sc.kind=.function)(hm:kH X.N X.env.scope sc N mp=true)
  (hb:∀(cl:List (Str × Addr)) (C:Addr) (s₂:aw) (H₂:Hp) (fp:List Addr),KG (gj X sc N cl C s₂ H₂ fp) (M.sub fd) tg ug/\KK (gj X sc N cl C s₂ H₂ fp) (M.sub fd) vC uc/\KE (gj X sc N cl C s₂ H₂ fp) (M.sub fd) wD ue)
  (hfd:∀j∈fd,∃i∈M.fd,mp[j]? = some (some i):=by decide) (HJ:(mp.filterMap id).Nodup:=by decide) (hs:∀x,foldedSetIterable iter X.env x=pure x:=by rw[3]):KN X M (.ListComp wD [⟨tg,iter,vC,0⟩] sc pos) (iH ui mp ug uc ue):=by
 obtain⟨wi,qi,Pg⟩:=hi.ex;refine .of (vH hc qi hk hm (λcl C s₂ H₂ fp=>⟨(hb cl C s₂ H₂ fp).1.run,(hb cl C s₂ H₂ fp).2.1.run,(hb cl C s₂ H₂ fp).2.2.run⟩) hs) λσ H R env pn S n Q ok hu k=>?_;refine HK Pg hfd HJ ok hu λys H' ds n' r x g q D hD=>?_;have jT:=ok.step x g
 have Vz:H D=none:=by
  by_cases z:D∈M.gs
  .exact absurd hD (M.vN g D z)
  .exact x.fresh z hD
 exact k D ys _ ds n' Vz dq ((r.fresh hD).ext (.new hD)) (x.trans (.new hD)) (M.i9 g (.new (S:=[]) hD) (!4)) q
end
noncomputable def jF (i:Nat)(f:List af->List af->Option (List af))(ua:UA):US:=λE env n=>match env[i]? with | some (some (.o ds))=>ua env n λas n1=>lq (f ds as) λp8=>E.nx (env.set i (some (.o p8))) n1 | _=>False
noncomputable def iA (ds as:List af):Option (List af):=match as with | [d]=>if ds.length<aA then some (ds++[d]) else none | _=>none
noncomputable def jG (ds as:List af):Option (List af):=match as with | [.tuple es]=>if ds.length+es.length<=aA then some (ds++es) else none | [.list es]=>if ds.length+es.length<=aA then some (ds++es) else none | _=>none
structure R0 (X:Cx) (id:String) (f:List af->List af->Option (List af)):Prop where
 ex:∃r,GU X id r/\∀S H a xs ds as vs p8 (R:VK),H a=some (.lst xs)->dm S H ds xs->dm S H as vs->f ds as=some p8->(∀ys v,dm S H p8 ys->R v (d3 H a (.lst ys)))->r (.ref a) vs H R
section
variable {X:Cx}{M:Fr}{e o:Expr}{es:List Expr}{ua:UA}{pos kG hZ:Pos}{name:Str}{id:String}{f:List af->List af->Option (List af)}
theorem lT:R0 X "list.append" iA:=⟨_,B4,λS H a xs ds as vs p8 R ha r ra e k=>by
 obtain⟨d,rfl⟩:∃d,as=[d]:=by
  unfold iA at e;split at e
  .exact⟨_,rfl⟩
  .cases e
 simp only[iA] at e;split at e
 .rename_i hl
  cases e;obtain⟨v,t,rfl,r1,r2⟩:=ra.of_cons;cases r2.eN;exact⟨a,xs,v,rfl,rfl,ha,by rw[r.length];exact hl,k _ _ (r.append (.cons r1 .nil))⟩
 .cases e⟩
theorem EH:R0 X "list.extend" jG:=⟨_,GU.or (B5 (X:=X)) (zC X.K),λS H a xs ds as vs p8 R ha r ra e k=>by
 obtain⟨es,h⟩:∃es,as=[.tuple es]\/as=[.list es]:=by
  unfold jG at e;split at e
  .exact⟨_,.inl rfl⟩
  .exact⟨_,.inr rfl⟩
  .cases e
 rcases h with rfl | rfl
 .simp only[jG] at e
  split at e
  .rename_i hl
   cases e;obtain⟨v,t,rfl,r1,r2⟩:=ra.of_cons;cases r2.eN;obtain⟨b,ys,rfl,hb,rb⟩:=r1.eQ;exact .inr ⟨a,b,xs,ys,rfl,rfl,ha,gZ.of hb,by rw[r.length,rb.length];exact hl,k _ _ (r.append rb)⟩
  .cases e
 .simp only[jG] at e
  split at e
  .rename_i hl
   cases e;obtain⟨v,t,rfl,r1,r2⟩:=ra.of_cons;cases r2.eN;obtain⟨b,ys,rfl,hb,_,rb⟩:=r1.eO;exact .inl ⟨a,b,xs,ys,rfl,rfl,ha,hb,by rw[r.length,rb.length];exact hl,k _ _ (r.append rb)⟩
  .cases e⟩
theorem o7 (i:Nat)(pa:PlainAttrs "list")(slot:Slot "list" name id)(Ll:typeOf (.builtin id)=pure (.type "method_descriptor"))(hm:R0 X id f)(ha:KA X M (e::es) ua)
  (hN:X.N[i]? = some x:=by rfl) (hv:tf X.env.scope x:=by (first | exact Or.inl rfl | exact Or.inr (Or.inl rfl) | exact Or.inr (Or.inr rfl))) (hd:(x == ("__debug__" : Str))=false:=by decide) (jz:(x == ("__classdict__" : Str))=false:=by decide)
  (qS:attributeBase (.Name x p) name X.env (eval (.Name x p) X.env)=eval (.Name x p) X.env:=by rfl) (hl:decide ((e::es).length+0+0<30)=true:=by rfl) (qT:(kG.endLine == hZ.line)=true:=by rfl)
  (hs:swapsWith (.Call (.Attribute (.Name x p) name kG) (e::es) [] hZ) none pos.line X.env=pure false:=by rfl):KS X M (.Expr (.Call (.Attribute (.Name x p) name kG) (e::es) [] hZ) pos) (jF i f ua):=by
 obtain⟨r,h1,h2⟩:=hm.ex;refine .of (Hd (LL X.K pa slot Ll h1 (qv i hN hv hd jz) ha.run rfl qS hl qT) hs) λD σ H env pn S n E ok hu k1 k2=>?_;unfold jF at hu;split at hu
 .rename_i ds he
  obtain⟨v,hv,a,xs,rfl,ha,ra,hs,h0⟩:=ok.val i _ he;refine⟨_,hv,.inl ⟨rfl,xs,fU.of ha⟩,env,pn,S,n,_,ok,hu,λvs H1 as n1 el r1 x1 g1 _ q=>?_⟩;obtain⟨p8,e',q⟩:=q;have iR:=ok.step x1 g1;obtain⟨v',yZ,a',pL,VA,lx,VB,_,_⟩:=iR.val i _ he;subst VA;rw[hv] at yZ;cases yZ;exact h2 S H1 a pL ds as vs p8 _ lx VB r1 e' λys w ry=>k1 _ _ _ _ _ (iR.put he hv lx ry) q
 .exact hu.elim
end
noncomputable abbrev XQ:=Str->List af->Prop
noncomputable abbrev UF:=List af->Int->(af->Int->Prop)->XQ->Prop
noncomputable def De:XQ:=λ_ _=>False
noncomputable def Rz (C:Xc)(S gs:List Addr)(H:Hp)(E:XK)(c:Str)(as:List af):Prop:=∀(dx:Addr) (H':Hp) (vs:List V),dm S H' as vs->H' dx=some (.ext (Jw dx ((C.fl c).zip vs)))->Ext gs H H'->E (.ref (C.cl c)) (some dx) H'
noncomputable def o8 (C:Xc)(F:UF):Sp:=λvs H Q E=>∃S ds n Qp Xp,dm S H ds vs/\(∀a∈S,H a≠none)/\F ds n Qp Xp/\(∀d v H',dR S H' d v->Ext [] H H'->Qp d n->Q v H')/\∀c as,Xp c as->Rz C S [] H E c as
structure xQ where
 iT:Hp->Addr->Addr->Int->Prop
 ext:∀{S:List Addr} {H H':Hp} {fa sa:Addr} {n:Int},iT H fa sa n->Ext S H H'->fa ∉ S->sa ∉ S->iT H' fa sa n
 fa:∀{H:Hp} {fa sa:Addr} {n:Int},iT H fa sa n->H fa≠none
 sa:∀{H:Hp} {fa sa:Addr} {n:Int},iT H fa sa n->H sa≠none
 nx:∀{H:Hp} {fa sa:Addr} {n:Int},iT H fa sa n->∀φ,H fa≠some (.ext φ)
noncomputable def rM (Y:xQ)(F:UF):Sp:=λvs H Q E=>∃fa sa us S ds n Qp,vs=.ref fa::us/\Y.iT H fa sa n/\fa∈S/\dm S H ds us/\(∀a∈S,H a≠none)/\F ds n Qp De/\(∀d n' v H',dR S H' d v->Y.iT H' fa sa n'->Ext [fa] H H'->Qp d n'->Q v H')
noncomputable def Fr.pure (C:Xc)(n0:Int)(S:List Addr)(H:Hp)(has:∀a∈S,H a≠none):Fr where
 G:=λ_ n=>n=n0
 gs:=[]
 S0:=S
 H0:=H
 fa:=.gJ
 fd:=[]
 xc:=C
 i9:=λh _ _=>h
 vN:=λ_ a h=>by cases h
 RJ:=λ_ a h=>by cases h
 OX:=λa h=>by cases h
 tK:=has
noncomputable def Fr.feed (C:Xc)(Y:xQ)(i:Nat)(fa sa:Addr)(n0:Int)(S:List Addr)(H:Hp)(hf:Y.iT H fa sa n0)(hS:fa∈S)(has:∀a∈S,H a≠none):Fr where
 G:=λH n=>Y.iT H fa sa n
 gs:=[fa]
 S0:=S
 H0:=H
 fa:=.ref fa
 fd:=[i]
 xc:=C
 i9:=λh x k=>Y.ext h x (λz=>Y.fa hf (k _ z)) (λz=>Y.sa hf (k _ z))
 vN:=λh a ha=>by have e:=am.mp ha;subst e;exact Y.fa h
 RJ:=λh a ha=>by have e:=am.mp ha;subst e;exact Y.nx h
 OX:=λa ha=>by have e:=am.mp ha;subst e;exact hS
 tK:=has
noncomputable def envOf (N:Nat)(ds:List af):d9:=ds.map (λd=>some (.s d))++List.replicate (N - ds.length) none
noncomputable def jH (N np:Nat)(u:XQ->US):UF:=λds n Q Ex=>ds.length=np/\u Ex { nx:=λ_ n'=>Q .none n',rt:=Q } (envOf N ds) n
noncomputable def gN (N np:Nat)(u:XQ->US):UF:=λds n Q Ex=>ds.length+1=np/\u Ex { nx:=λ_ n'=>Q .none n',rt:=Q } (none::envOf (N - 1) ds) n
theorem CA (h0:M.H0=H)(hS:M.S0=S)(r:dm S H ds vs)(hfd:M.fd=[])(g:M.G H n):dA M (envOf N.length ds) [] (start N vs) S H n:=by
 subst h0 hS;have hl:=r.length
 have key:∀(i:Nat) (e:Ent),(envOf N.length ds)[i]? = some (some e)->∃d,ds[i]? = some d/\e=.s d:=λi e h=>by
  unfold envOf at h;by_cases hi:i<ds.length
  .rw[bK (by simpa using hi),aB] at h
   cases hd:ds[i]? with
   | none=>rw[hd] at h;cases h
   | some d=>rw[hd] at h;exact⟨d,rfl,(Option.some.inj (Option.some.inj h)).symm⟩
  .rw[bT (by simp;omega),bP] at h
   split at h<;>cases h
 refine⟨λi e h=>?_,λi j a b c h1=>?_,?_,(by rw[hfd];intro i hi;cases hi),g,.refl _ _,λa h=>h,λa h=>.inl h,M.tK,λp hp=>by cases hp⟩
 .obtain⟨d,hd,rfl⟩:=key i e h
  obtain⟨v,hv,rv⟩:=r.at hd;refine⟨v,?_,rv⟩;unfold start;rw[bK (by rw[ar];exact (aD.mp hv).1),aB,hv];rfl
 .obtain⟨d,_,e⟩:=key _ _ h1
  cases e
 .unfold envOf start
  simp[hl]
theorem z5 (h0:M.H0=H)(hS:M.S0=S)(r:dm S H ds vs)(hfd:M.fd=[0])(xR:M.fa=.ref fa)(hN:1<=N.length)(g:M.G H n):dA M (none::envOf (N.length - 1) ds) [] (start N (.ref fa::vs)) S H n:=by
 subst h0 hS;have hl:=r.length
 have key:∀(i:Nat) (e:Ent),(none::envOf (N.length - 1) ds)[i]? = some (some e)->∃j d,i=j+1/\ds[j]? = some d/\e=.s d:=λi e h=>by
  cases i with
  | zero=>cases h
  | succ i =>
   rw[ac] at h;unfold envOf at h;by_cases hi:i<ds.length
   .rw[bK (by simpa using hi),aB] at h
    cases hd:ds[i]? with
    | none=>rw[hd] at h;cases h
    | some d=>rw[hd] at h;exact⟨i,d,rfl,hd,(Option.some.inj (Option.some.inj h)).symm⟩
   .rw[bT (by simp;omega),bP] at h
    split at h<;>cases h
 refine⟨λi e h=>?_,λi j a b c h1=>?_,?_,?_,g,.refl _ _,λa h=>h,λa h=>.inl h,M.tK,λp hp=>by cases hp⟩
 .obtain⟨j,d,rfl,hd,rfl⟩:=key i e h
  obtain⟨v,hv,rv⟩:=r.at hd;refine⟨v,?_,rv⟩;unfold start;have Xw:j<vs.length:=(aD.mp hv).1;rw[bK (by rw[ar,ap];omega),ak,ac,aB,hv];rfl
 .obtain⟨j,d,_,_,e⟩:=key _ _ h1
  cases e
 .unfold envOf start
  simp[hl];omega
 .rw[hfd,xR]
  intro i hi;have e:=am.mp hi;subst e;unfold start;simp
section
variable {P:a5}{w:World}{K:W.Frag}{mg:Str->Option ag}{base:Heap}{f:Addr}{fd:bH}{x:Str}{fb:Str}{st:Stmt}{N ps:List Str}{k:Nat}{C:Xc}{u:XQ->US}{Y:xQ}
theorem R1 (F:wZ K x fb st f fd)(hm:mg x=some (.ref f))(sc:e9 N ps (dn st))(hb:Binds K fd ps [])
  (body:∀(eS:ag) (A:Around) (outer:List Env) (s:aw) (H:Hp) (E:XK) (n0:Int) (S:List Addr) (has:∀a∈S,H a≠none),f6 k (A.deeper (envOfC fb (dn st) s.heap.objs.size f eS))->uG (nq vy P w K mg base N fb (dn st) f eS A outer s H E).BS (Fr.pure C n0 S H has) (fC st) (u De)) :
  dJ P w K mg base (k+1) x ps (o8 C (jH N.length ps.length λ_=>u De)):=by
 refine⟨f,fd,F.LJ sc (λvs H Q E h=>?_) (λeS A outer s H vs Q E hr h=>?_),hm,F.kp,hb⟩
 .obtain⟨S,ds,n,Qp,Xp,r,_,hF,_⟩:=h
  rw[r.length];exact hF.1
 .obtain⟨S,ds,n,Qp,Xp,r,has,hF,hq,hx⟩:=h
  refine⟨_,(body eS A outer s H E n S has hr).run,envOf N.length ds,[],S,n,_,CA rfl rfl r rfl rfl,hF.2,λdH σ' S' H' n' ok q=>?_,λv H' d n' rv x g q=>?_⟩
  .have e:n'=n:=ok.gd
   subst e;exact hq _ _ H' .gJ ok.ext q
  .have e:n'=n:=g
   subst e;exact hq d v H' rv x q
theorem R3 (F:wZ K x fb st f fd)(hm:mg x=some (.ref f))(sc:e9 N ps (dn st))(hb:Binds K fd ps [])(hN:1<=N.length)
  (body:∀(eS:ag) (A:Around) (outer:List Env) (s:aw) (H:Hp) (E:XK) (fa sa:Addr) (n0:Int) (S:List Addr) (hf:Y.iT H fa sa n0) (hS:fa∈S) (has:∀a∈S,H a≠none),f6 k (A.deeper (envOfC fb (dn st) s.heap.objs.size f eS)) ->
   uG (nq vy P w K mg base N fb (dn st) f eS A outer s H E).BS (Fr.feed C Y 0 fa sa n0 S H hf hS has) (fC st) (u De)) :
  dJ P w K mg base (k+1) x ps (rM Y (gN N.length ps.length λ_=>u De)):=by
 refine⟨f,fd,F.LJ sc (λvs H Q E h=>?_) (λeS A outer s H vs Q E hr h=>?_),hm,F.kp,hb⟩
 .obtain⟨fa,sa,us,S,ds,n,Qp,rfl,_,_,r,_,hF,_⟩:=h
  rw[ap,r.length];exact hF.1
 .obtain⟨fa,sa,us,S,ds,n,Qp,rfl,fe,hS,r,has,hF,hq⟩:=h
  refine⟨_,(body eS A outer s H E fa sa n S fe hS has hr).run,none::envOf (N.length - 1) ds,[],S,n,_,z5 rfl rfl r rfl rfl hN fe,hF.2,λdH σ' S' H' n' ok q=>?_,λv H' d n' rv x g q=>?_⟩
  .exact hq _ n' _ H' .gJ ok.gd ok.ext q
  .exact hq d n' v H' rv g x q
end
noncomputable def dw (F:UF)(ua:UA):UX:=λenv n Q=>ua env n λds n1=>F ds n1 Q De
mutual
def i7:af->Bool
 | .list _=>false
 | .tuple ds=>jk ds
 | .dict _=>false
 | _=>true
def jk:List af->Bool
 | []=>true
 | d::ds=>i7 d && jk ds
end
mutual
theorem dR.any {S S':List Addr}{H:Hp}:∀{d:af} {v:V},i7 d=true->dR S H d v->dR S' H d v
 | .none,_,_,h=>h
 | .bool _,_,_,h=>h
 | .int _,_,_,h=>h
 | .str _,_,_,h=>h
 | .tuple ds,_,hn,h=>by
  obtain⟨a,xs,rfl,ha,r⟩:=h.eQ;exact .tup ha (dm.any (by simpa [i7] using hn) r)
 | .list ds,_,hn,h=>by simp[i7] at hn
 | .dict _,_,hn,h=>by simp[i7] at hn
theorem dm.any {S S':List Addr}{H:Hp}:∀{ds:List af} {vs:List V},jk ds=true->dm S H ds vs->dm S' H ds vs
 | [],_,_,h=>h
 | d::ds,_,hn,h=>by
  obtain⟨x,t,rfl,h1,h2⟩:=h.of_cons;simp only[jk,bo] at hn;exact .cons (dR.any hn.1 h1) (dm.any hn.2 h2)
end
noncomputable def nC (F:UF)(ua:UA):UX:=λenv n Q=>ua env n λds n1=>F ds n1 (λd n'=>i7 d=true/\Q d n') De
section
theorem d7 (D:dJ X.prog X.w X.K X.mg X.base k x ps (o8 C F))(hr:f6 k X.A)(ha:KA X M (e::es) ua)(hg:Gl X x:=by rfl)(oV:(x == ("__debug__" : Str))=false:=by decide):KE X M (.Call (.Name x p) (e::es) [] pos) (dw F ua) :=
 .of (lL D hr ha.run hg oV) λσ H R env pn S n Q ok hu k=>⟨env,pn,S,n,_,ok,hu,λvs H1 ds n1 el r1 x1 g1 _ q=>⟨S,ds,n1,Q,De,r1,(ok.step x1 g1).has,q,λd v H2 r2 x2 q2=>k v H2 d n1 r2 (x1.trans (x2.mono (!4))) (M.i9 g1 x2 (!4)) q2,λc as z=>z.elim⟩⟩
theorem vV (D:dJ X.prog X.w X.K X.mg X.base k x ps (o8 C F))(hr:f6 k X.A)(ha:Jx X M (e::es) ua)(hg:Gl X x:=by rfl)(oV:(x == ("__debug__" : Str))=false:=by decide):KE X M (.Call (.Name x p) (e::es) [] pos) (nC F ua) :=
 .of (lL D hr ha.run hg oV) λσ H R env pn S n Q ok hu k=>⟨env,pn,S,n,_,ok,hu,λvs H1 ds n1 r1 x1 g1 _ q=>⟨M.gs,ds,n1,_,De,r1.less ok.qA,M.vN g1,q,λd v H2 r2 x2 q2=>k v H2 d n1 (r2.any q2.1) (x1.trans (x2.mono (!4))) (M.i9 g1 x2 (!4)) q2.2,λc as z=>z.elim⟩⟩
theorem eU (i:Nat){y:Str}{p2:Pos}{fa sa:Addr}(D:dJ X.prog X.w X.K X.mg X.base k x ps (rM Y F))(hr:f6 k X.A)(ha:KA X M es ua)
  (hG:M.G=λH n=>Y.iT H fa sa n:=by rfl) (xR:M.fa=.ref fa:=by rfl) (L9:M.gs=[fa]:=by rfl) (hfd:i∈M.fd:=by decide)
  (hN:X.N[i]? = some y:=by rfl) (hv:tf X.env.scope y:=by (first | exact Or.inl rfl | exact Or.inr (Or.inl rfl) | exact Or.inr (Or.inr rfl))) (hd:(y == ("__debug__" : Str))=false:=by decide) (jz:(y == ("__classdict__" : Str))=false:=by decide)
  (hg:Gl X x:=by rfl) (oV:(x == ("__debug__" : Str))=false:=by decide):KE X M (.Call (.Name x p) (.Name y p2::es) [] pos) (dw F ua) :=
 .of (lL D hr (gk (qv i hN hv hd jz) ha.run rfl) hg oV) λσ H R env pn S n Q ok hu k=>⟨_,ok.xC i hfd,env,pn,S,n,_,ok,hu,λvs H1 ds n1 el r1 x1 g1 _ q=>by
  have iR:=ok.step x1 g1;refine⟨fa,sa,vs,S,ds,n1,Q,by rw[xR],by rw[hG] at g1;exact g1,ok.qA fa (by rw[L9];simp),r1,iR.has,q,λd n2 v H2 r2 f2 x2 q2=>k v H2 d n2 r2 (x1.trans (by rw[L9];exact x2)) (by rw[hG];exact f2) q2⟩⟩
end
section
theorem CB (K:W.Frag)(hc:X.calm=true)(hk:X.K=K:=by rfl):ff X (.builtin "sum") (λxs H Q=>∃(p:Addr) (ns:List Int),xs=[.ref p]/\fU K H p (ns.map V.int)/\(∀n∈ns,-500000000000<=n/\n<=500000000000)/\Q (.int ns.sum) H):=by
 subst hk;intro pins s σ H xs us Q I r h;obtain⟨p,ns,rfl,hp,hb,q⟩:=h;obtain⟨u,rfl,ru⟩:=vals1 r;cases ru;obtain⟨its,rv,ht,hz⟩:=I.list hp;have hh:=I.ok.hd hc;have lH:p<s.heap.objs.size:=ht.lt;have hlen:its.toArray.size=ns.length:=by rw[aC,<- rv.length,ar]
 rw[ar] at hz;have hsz:aA=16777216:=by decide
 have R4:∀l:List Int,(∀n∈l,-500000000000<=n/\n<=500000000000)->-(500000000000 * (l.length:Int))<=l.sum/\l.sum<=500000000000 * l.length:=by
  intro l
  induction l with
  | nil=>intro _;simp
  | cons a l ih =>
   intro hl;have h1:=ih λn hn=>hl n (ai _ hn);have h2:=hl a (aq ..);rw[cG,ap];omega
 refine call_sum_walk (wpAny_pyIter_list ht.isList ⟨s.heap.objs.size,_,_,its.toArray.size,_,_,λa=>ns.getD a 0,rfl,Walks.list (A:=X.A.in1) hh _ p (aT lH) its.toArray,⟨⟨_,ax _ rfl,rfl,rfl⟩,ht.isList.at λo e=>ah _ e⟩,?_,?_,?_,?_⟩)
 .intro b y9
  rw[bB];rcases au.mp y9 with e | y9
  .rw[e];exact cr _
  .have e:b=p:=by simpa using y9
   rw[e];exact bU lH
 .intro a v e
  have e':its[a]? = some v:=by simpa using e
  obtain⟨x,hx,rx⟩:=rv.at' e';rw[aB] at hx
  cases hn:ns[a]? with
  | none=>rw[hn] at hx;cases hx
  | some b =>
   rw[hn] at hx;cases hx;obtain⟨t,rfl⟩:=rx;refine⟨t,?_⟩;show ag.int b t=ag.int (ns.getD a 0) t;rw[az,hn];rfl
 .intro j hj
  rw[hlen] at hj
  have hm:ns.getD j 0∈ns:=by
   have:ns[j]? = some ns[j]:=by simp[hj]
   rw[az,this];exact cg hj
  have h1:=hb _ hm;have h2:=R4 (ns.take (j+1)) λn hn=>hb n (cp hn);rw[bF] at h2;show InLong (ns.getD j 0)/\InLong (preSum (λa=>ns.getD a 0) (j+1));unfold InLong;rw[iF ns (j+1) (!1)];have h3:(min (j+1) ns.length:Nat)<=16777216:=by omega
  constructor<;>constructor<;>omega
 .intro h' tk t' kp
  have I1:Inv X pins σ H { s with heap:=h',toks:=tk }:=I.kept λb o e=>kp b o (λz=>by
   have e2:b=s.heap.objs.size:=by simpa using z
   rw[e2] at e;exact absurd (aF e) (bA _)) (ah _ e)
  have e:preSum (λa=>ns.getD a 0) its.toArray.size=ns.sum:=by rw[hlen,iF ns _ (ao _),cW]
  rw[e];exact⟨.int _,H,I1,⟨_,rfl⟩,q⟩
end
noncomputable def HL (c:String)(d:af):Bool:=match c,d with
 | "int",.int _=>true | "int",.bool _=>true | "bool",.bool _=>true | "tuple",.tuple _=>true | "list",.list _=>true | "str",.str _=>true | _,_=>false
noncomputable def HM (c:String)(u:UX):UX:=λenv n Q=>u env n λd n1=>Q (.bool (HL c d)) n1
theorem R5 {K:W.Frag}{c:String}(hc:c = "int" \/ c = "bool" \/ c = "tuple" \/ c = "list" \/ c = "str")(d:af):W.kitOne K (.type (Ro d)) (.type c)=some (HL c d):=by
 rcases hc with rfl | rfl | rfl | rfl | rfl<;>cases d<;>rfl
theorem eL.ty {K:W.Frag}{gs S:List Addr}{H:Hp}{d:af}{v:V}(h:eL gs S H d v):mU K H v (.type (Ro d)):=by
 rcases h with h | ⟨ds,a,xs,rfl,rfl,ha,_⟩ | ⟨t,kvs,a,xs,rfl,rfl,ha,_⟩
 .exact h.ty
 .exact .lst ha
 .cases t with
  | true=>exact .dT ha
  | false=>exact .dK ha
section
variable {X:Cx}{M:Fr}{e a b:Expr}{u w:UX}{p p2 q2 pos:Pos}{c:String}{x:Str}
theorem EI (hm:X.mg "isinstance" = none)(hx:X.mg x=none)(h:KL X M e u)(hc:c = "int" \/ c = "bool" \/ c = "tuple" \/ c = "list" \/ c = "str" := by decide)(hv:bootBuiltins x=some (.type c):=by decide +kernel)(hg:Gl X "isinstance" := by rfl)(VC:Gl X x:=by rfl)(hs:d8 e=true:=by rfl)(hn:x ≠ "__name__" := by decide)(oV:(x == ("__debug__" : Str))=false:=by decide) :
  KE X M (.Call (.Name "isinstance" p) [e,.Name x p2] [] pos) (HM c u) :=
 .of (gK (Rq X.K) hg hm (!3) (gk h.run (gk (Oy c VC hx hv hn oV) eG rfl) hs)) λσ H R env pn S n Q ok hu k=>⟨env,pn,S,n,_,ok,hu,λv H1 d n1 r1 x1 g1 _ q=>⟨v,_,c,_,rfl,r1.ty,R5 hc d,k _ H1 _ n1 (.bl _) x1 g1 q⟩⟩
noncomputable def JG (u:UX):d9->Int->(List af->Int->Prop)->Prop:=λenv n Q=>u env n λd n1=>lq (oq d) λds=>Q ds n1
theorem z6 (ok:dA M env pn σ S H n)(x:Ext M.gs H H')(g:M.G H' n')(h:H' l=none):H l=none:=by
 by_cases z:l∈M.gs
 .exact absurd h (M.vN g l z)
 .exact x.fresh z h
theorem Ma (hm:X.mg "list" = none)(h:KL X M e u)(hg:Gl X "list" := by rfl)(hs:d8 e=true:=by rfl):KN X M (.Call (.Name "list" p) [e] [] pos) (JG u) :=
 .of (gg (OD X.K) hg hm (!3) (gk h.run eG hs)) λσ H R env pn S n Q ok hu k=>⟨env,pn,S,n,_,ok,hu,λv H1 d n1 r1 x1 g1 _ q=>by
  obtain⟨ds,e,q⟩:=q;have fin:∀xs,dm S H1 ds xs->∀l,H1 l=none->R (.ref l) (d3 H1 l (.lst xs)):=λxs rs l hl=>k l xs _ ds n1 (z6 ok x1 g1 hl) dq ((rs.fresh hl).ext (.new hl)) (x1.trans (.new hl)) (M.i9 g1 (.new (S:=[]) hl) (!4)) q
  cases d with
  | tuple es =>
   cases e;obtain⟨a,xs,rfl,ha,rs⟩:=r1.eQ;exact⟨a,xs,rfl,.inr (gZ.of ha),fin xs rs⟩
  | list es =>
   cases e;obtain⟨a,xs,rfl,ha,rs⟩:=r1.eO;exact⟨a,xs,rfl,.inl (fU.of ha),fin xs rs⟩
  | _=>cases e⟩
noncomputable def JH (u:UX):d9->Int->(List af->Int->Prop)->Prop:=λenv n Q=>u env n λd n1=>match d with | .int j=>(-(2 ^ 62)<=j/\j<=16777216)/\Q (oo 0 j.toNat) n1 | _=>False
theorem EJ (j:Int):dm S H (oo 0 j.toNat) (tw 0 j):=by
 unfold oo tw;rw[Int.sub_zero];generalize j.toNat=m
 induction m with
 | zero=>exact .nil
 | succ m ih =>
  rw[List.range_succ,aQ,aQ];exact ih.append (.cons (.int _) .nil)
noncomputable def JI (u:d9->Int->(List af->Int->Prop)->Prop):UX:=λenv n Q=>u env n λds n'=>Q (.tuple ds) n'
theorem Mb (hm:X.mg "tuple" = none)(F6:X.mg "range" = none)(hc:X.calm=true)(h:KE X M e u)(hg:Gl X "tuple" := by rfl)(R6:Gl X "range" := by rfl)(hs:d8 e=true:=by rfl):KE X M (.Call (.Name "tuple" p) [.Call (.Name "range" p2) [e] [] q2] [] pos) (JI (JH u)) :=
 .of (gg (qY hc) hg hm (!3) (gk (gg DX R6 F6 (!3) (gk h.run eG hs)) eG)) λσ H R env pn S n Q ok hu k=>⟨env,pn,S,n,_,ok,hu,λv H1 d n1 r1 x1 g1 _ q=>by
  cases d with
  | int j =>
   refine⟨j,by rw[r1.d4],λr hr=>⟨r,0,j,rfl,dq,⟨!2,!2,q.1.1,by have:=q.1.2;omega⟩,by have:=q.1.2;omega,λl hl=>?_⟩⟩;have x2:Ext [] H1 (d3 H1 r (.IS 0 j)):=.new hr;have x3:Ext [] (d3 H1 r (.IS 0 j)) _:=.new (o:=.tup (tw 0 j)) hl;have T2:=x2.trans x3;exact k _ _ _ n1 (.tup dq (EJ j)) (x1.trans (T2.mono (!4))) (M.i9 g1 T2 (!4)) q.2
  | _=>exact False.elim q⟩
noncomputable def xT:af->Option Int | .int i=>some i | _=>none
noncomputable def gO (ds:List af):Option (List Int):=ds.mapM xT
@[simp] theorem gD (ns:List Int):gO (ns.map .int)=some ns:=by
 unfold gO
 induction ns with
 | nil=>rfl
 | cons n ns ih=>rw[ak,cQ,ih];rfl
theorem fV:∀{ds:List af} {ns:List Int},gO ds=some ns->ds=ns.map .int
 | [],ns,h=>by cases h;rfl
 | d::ds,ns,h=>by
  unfold gO at h;rw[cQ] at h
  cases d with
  | int i =>
   cases e:ds.mapM xT with
   | none=>simp[xT,e] at h
   | some ms =>
    simp[xT,e] at h;subst h;rw[fV (ds:=ds) e];rfl
  | _=>simp[xT] at h
theorem fG:∀{ns:List Int} {xs:List V},dm S H (ns.map .int) xs->xs=ns.map V.int
 | [],_,r=>r.eN
 | n::ns,_,r=>by
  obtain⟨x,t,rfl,r1,r2⟩:=r.of_cons;rw[r1.d4,fG r2];rfl
noncomputable def z7:List af->Option af | [.list ds]=>(gO ds).bind λns=>if ∀n∈ns,-500000000000<=n/\n<=500000000000 then some (.int ns.sum) else none | _=>none
theorem Pj (hc:X.calm=true):lu X (.builtin "sum") z7:=⟨_,CB X.K hc,λgs S H ds vs d R _ _ rs e k=>by
 obtain⟨ds,rfl⟩:∃l,ds=[.list l]:=by
  unfold z7 at e;split at e
  .exact⟨_,rfl⟩
  .cases e
 obtain⟨v,rfl,r⟩:=rs.one;obtain⟨a,xs,rfl,sq,_,rr⟩:=r.F9 (K:=X.K);simp only[z7] at e
 cases ei:gO ds with
 | none=>rw[ei] at e;cases e
 | some ns =>
  rw[ei] at e;simp only[cV] at e;split at e
  .rename_i hb
   cases e;rw[fV ei] at rr;rw[fG rr] at sq;exact⟨a,ns,rfl,sq,hb,k _ H (.int _) (.refl _ _)⟩
  .cases e⟩
noncomputable def insI (a:Int):List Int->List Int | []=>[a] | b::l=>if a<=b then a::b::l else b::insI a l
noncomputable def sortI:List Int->List Int | []=>[] | a::l=>insI a (sortI l)
theorem insI_perm (a:Int):∀l,(insI a l).Perm (a::l)
 | []=>.refl _
 | b::l=>by
  unfold insI;split
  .exact .refl _
  .exact ((insI_perm a l).cons b).trans (.swap a b l)
theorem sortI_perm:∀l,(sortI l).Perm l
 | []=>.refl _
 | a::l=>(insI_perm a (sortI l)).trans ((sortI_perm l).cons a)
theorem pP (a:Int):∀l:List Int,l.Pairwise (·<=·)->(insI a l).Pairwise (·<=·)
 | [],_=>by simp[insI]
 | b::l,h=>by
  unfold insI;obtain⟨h1,h2⟩:=cb.mp h;split
  .rename_i p7
   exact cb.mpr ⟨λc hc=>by rcases au.mp hc with rfl | hc;exact p7;exact Int.le_trans p7 (h1 c hc),h⟩
  .rename_i p7
   refine cb.mpr ⟨λc hc=>?_,pP a l h2⟩;rcases au.mp ((insI_perm a l).mem_iff.mp hc) with rfl | hc
   .omega
   .exact h1 c hc
theorem fS:∀l,(sortI l).Pairwise (·<=·)
 | []=>.nil
 | a::l=>pP a _ (fS l)
theorem nD {l m:List Int}(h:l.Perm m)(hl:l.Pairwise (·<=·))(hm:m.Pairwise (·<=·)):l=m:=h.eq_of_pairwise (λa b _ _ h1 h2=>Int.le_antisymm h1 h2) hl hm
noncomputable def jI:List Int->List Int | []=>[] | a::l=>if a∈l then jI l else a::jI l
theorem je:∀{l:List Int},k∈jI l↔k∈l
 | []=>Iff.rfl
 | a::l=>by
  unfold jI;split
  .rename_i h
   rw[je,au];exact⟨.inr,λz=>z.elim (λe=>e ▸ h) id⟩
  .rw[au,je,au]
theorem jJ:∀l:List Int,(jI l).Nodup
 | []=>ca
 | a::l=>by
  unfold jI;split
  .exact jJ l
  .rename_i h
   exact bb.mpr ⟨λz=>h (je.mp z),jJ l⟩
noncomputable def o9 (l:List Int):List Int:=sortI (jI l)
theorem ic:k∈o9 l↔k∈l:=((sortI_perm _).mem_iff).trans je
theorem ie (l:List Int):(o9 l).Pairwise (· < ·):=iG (fS _) ((sortI_perm _).nodup_iff.mpr (jJ l))
theorem lU:∀{l m:List Int},l.Pairwise (· < ·)->m.Pairwise (· < ·)->(∀k,k∈l↔k∈m)->l=m:=λ{l m} hl hm h=>by
 have nl:l.Nodup:=hl.imp λh=>by omega
 have nm:m.Nodup:=hm.imp λh=>by omega
 exact nD ((bp nl nm).mpr h) (hl.imp λh=>by omega) (hm.imp λh=>by omega)
noncomputable def EK (u:UX):d9->Int->(List af->Int->Prop)->Prop:=λenv n Q=>u env n λd n1=>lq (oq d) λds=>lq (gO ds) λns=>ns.length<64/\Q ((o9 ns).map .int) n1
theorem HN (hm:X.mg "sorted" = none)(F6:X.mg "set" = none)(hc:X.calm=true)(h:KL X M e u)(hg:Gl X "sorted" := by rfl)(R6:Gl X "set" := by rfl)(hs:d8 e=true:=by rfl):KN X M (.Call (.Name "sorted" p) [.Call (.Name "set" p2) [e] [] q2] [] pos) (EK u) :=
 .of (vM X.K hc hg hm R6 F6 h.run rfl hs) λσ H R env pn S n Q ok hu k=>⟨env,pn,S,n,_,ok,hu,λv H1 d n1 r1 x1 g1 _ q=>by
  obtain⟨ds,e,ns,ei,hl,q⟩:=q;have e2:=fV ei;subst e2
  have fin:∀(l:Addr) (ms:List Int) (H2:Hp),Ext [] H1 H2->H1 l=none->H2 l=some (.lst (ms.map V.int))->ms.Pairwise (· < ·)->(∀k,k∈ms↔k∈ns)->ms.length<=ns.length->R (.ref l) H2:=λl ms H2 x2 hl h2 hp hm _=>by
   have em:ms=o9 ns:=lU hp (ie ns) λk=>(hm k).trans ic.symm;subst em;exact k l _ H2 _ n1 (z6 ok x1 g1 hl) h2 (.ints _) (x1.trans (x2.mono (!4))) (M.i9 g1 x2 (!4)) q
  cases d with
  | tuple es =>
   cases e;obtain⟨a,xs,rfl,sq,_,rs⟩:=r1.F8 (K:=X.K);rw[fG rs] at sq;exact⟨a,ns,rfl,.inr sq,hl,fin⟩
  | list es =>
   cases e;obtain⟨a,xs,rfl,sq,_,rs⟩:=r1.F9 (K:=X.K);rw[fG rs] at sq;exact⟨a,ns,rfl,.inl sq,hl,fin⟩
  | _=>cases e⟩
noncomputable def uJ (u:UX):UX:=λenv n Q=>u env n λd n1=>Good d/\Q (.str d.shown) n1
theorem EL (hr:f6 kk X.A)(hm:X.mg "repr" = none)(h:KE X M e u)(hg:Gl X "repr" := by rfl)(hs:d8 e=true:=by rfl):KE X M (.Call (.Name "repr" p) [e] [] pos) (uJ u) :=
 .of (gK (zu hr) hg hm (!3) (gk h.run eG hs)) λσ H R env pn S n Q ok hu k=>⟨env,pn,S,n,_,ok,hu,λv H1 d n1 r1 x1 g1 _ q=>⟨S,d,v,rfl,r1,q.1,k _ H1 _ n1 (.str _) x1 g1 q.2⟩⟩
noncomputable def Mc:af->Option Bool | .bool i=>some i | _=>none
noncomputable def Bp (ds:List af):Option (List Bool):=ds.mapM Mc
@[simp] theorem JJ (ns:List Bool):Bp (ns.map .bool)=some ns:=by
 unfold Bp
 induction ns with
 | nil=>rfl
 | cons n ns ih=>rw[ak,cQ,ih];rfl
end
theorem nf (i:Nat)(l:List Nat)(h:l.contains i=false:=by rfl):i ∉ l:=λz=>by
 have:l.contains i=true:=List.contains_iff_mem.mpr z;rw[h] at this;cases this
theorem Ga {P:Nat->Prop}:∀j∈([]:List Nat),P j:=λj h=>by cases h
theorem T3 {i j:Nat}{mp:List (Option Nat)}(h:mp[j]? = some (some i)):∀j'∈[j],∃i'∈[i],mp[j']? = some (some i'):=λj' hj=>by
 have e:=am.mp hj;subst e;exact⟨i,am.mpr rfl,h⟩
noncomputable def iI:Int:=1099511627776
noncomputable def gm:UF:=λds n Q _=>match ds with | [.int m]=>(0<m/\m<1073741824/\n<iI)/\∀r:Int,0<=r->r<m->Q (.int r) (n+1) | _=>False
noncomputable def Bq (Y:xQ):Sp:=λvs H Q _=>∃(fa sa:Addr) (n many:Int),vs=[.ref fa,.int many]/\Y.iT H fa sa n/\0<many/\many<1073741824/\n<iI/\∀(r:Int) (H':Hp),0<=r->r<many->Y.iT H' fa sa (n+1)->Ext [fa] H H'->Q (.int r) H'
noncomputable def qD (Y:xQ)(K:W.Frag):Sp:=λvs H Q _=>∃(a:Addr) (ns:List Int),vs=[.ref a]/\fU K H a (ns.map V.int)/\∀(fa sa:Addr) (H':Hp),Y.iT H' fa sa 0->Ext [] H H'->H fa=none->H sa=none->Q (.ref fa) H'
noncomputable def xU (K:W.Frag):Sp:=λvs H Q _=>∃(a:Addr) (ns:List Int),vs=[.ref a]/\fU K H a (ns.map V.int)/\ns.length<=63/\∀H',Q (.bl true) H'
section
variable {P:a5}{w:World}{K:W.Frag}{mg:Str->Option ag}{base:Heap}{f:Addr}{fd:bH}{x:Str}{ps:List Str}{k:Nat}{C:Xc}{u:US}{Y:xQ}{st Df:Stmt}{rest:List Stmt}{N:List Str}{sn:Str}
theorem dJ.imp {sp NO:Sp}(D:dJ P w K mg base k x ps sp)(h:∀vs H Q E,NO vs H Q E->sp vs H Q E):dJ P w K mg base k x ps NO:=let ⟨f,fd,F,r⟩:=D.ex;⟨f,fd,F.imp h,r⟩
theorem dJ.up {sp:Sp}{k':Nat}(D:dJ P w K mg base k x ps sp)(h:k<=k'):dJ P w K mg base k' x ps sp:=let ⟨f,fd,F,r⟩:=D.ex;⟨f,fd,F.mono h,r⟩
theorem dJ.draw (D:dJ P w K mg base k x ps (Bq Y)):dJ P w K mg base k x ps (rM Y gm):=D.imp λvs H Q E h=>by
 obtain⟨fa,sa,us,S,ds,n,Qp,rfl,fe,hS,r,has,hF,hq⟩:=h;unfold gm at hF;split at hF
 .rename_i m
  obtain⟨⟨h1,h2,h3⟩,h4⟩:=hF;obtain⟨v,t,rfl,r1,r2⟩:=r.of_cons;cases r2.eN;cases r1.d4;exact⟨fa,sa,n,m,rfl,fe,h1,h2,h3,λr H' r0 r1 VD x=>hq _ _ _ H' (.int r) VD x (h4 r r0 r1)⟩
 .exact hF.elim
theorem R7 (F:wZ K "law" "law" st f fd)(sc:e9 N [sn] (dn st))(hN:2<=N.length)
  (body:∀(eS:ag) (A:Around) (outer:List Env) (s:aw) (H:Hp) (E:XK),f6 k (A.deeper (envOfC "law" (dn st) s.heap.objs.size f eS)) ->
   QS (nq vy P w K mg base N "law" (dn st) f eS A outer s H E).BS Df (Dt (qW (qD Y K) (DB (Gj 0) K8)) (wO 1)) /\
   ∀(fa sa:Addr) (n0:Int) (S:List Addr) (H1:Hp) (hf:Y.iT H1 fa sa n0) (hS:fa∈S) (has:∀a∈S,H1 a≠none),uG (nq vy P w K mg base N "law" (dn st) f eS A outer s H E).BS (Fr.feed C Y 1 fa sa n0 S H1 hf hS has) rest u)
  (hb:fC st=Df::rest) (hu:u { nx:=λ_ _=>False,rt:=λd _=>d=.bool true } (List.replicate N.length none) 0):lB P w K mg base vy (k+1) f fd [sn] (xU K):=by
 refine F.LJ sc (λvs H Q E h=>?_) (λeS A outer s H vs Q E hr h=>?_)
 .obtain⟨a,ns,rfl,_⟩:=h
  rfl
 .obtain⟨a,ns,rfl,hs,_,q⟩:=h
  obtain⟨q0,qr⟩:=body eS A outer s H E hr
  have Pk:xa (nq vy P w K mg base N "law" (dn st) f eS A outer s H E).BS rest (λD σ H'=>∃fa sa n0 S H1 hf hS has,A6 (Fr.feed C Y 1 fa sa n0 S H1 hf hS has) u D σ H') :=
   ⟨λpins s σ H D I ⟨fa,sa,n0,S,H1,hf,hS,has,h⟩=>(qr fa sa n0 S H1 hf hS has).run.run pins s σ H D I h⟩
  rw[hb];have BU:start N [V.ref a]=some (.ref a)::List.replicate (N.length - 1) none:=rfl;refine⟨_,eD q0 Pk,_,by rw[BU];rfl,a,ns,rfl,hs,λfa sa H1 fe x1 xR Xx=>?_⟩;have has:∀b∈[fa],H1 b≠none:=λb hb=>by have e:=am.mp hb;subst e;exact Y.fa fe
  refine⟨fa,sa,0,[fa],H1,fe,am.mpr rfl,has,List.replicate N.length none,[],[fa],0,_,⟨λi e he=>?_,λi j ds es b h1=>?_,?_,?_,fe,.refl _ _,λb hb=>hb,λb hb=>.inl hb,has,λp hp=>by cases hp⟩,hu,λ_ _ _ _ _ _ z=>z.elim,λv H' d n' r _ _ e=>?_⟩
  .rw[bP] at he
   split at he<;>cases he
  .rw[bP] at h1
   split at h1<;>cases h1
  .rw[aZ,BU,ap,cD,cD]
   omega
  .intro i hi
   have e:i=1:=am.mp hi;subst e;rw[BU];exact iz (by rw[ap,cD];omega)
  .subst e
   rw[r.kh];exact q H'
end
noncomputable def Pl:UF:=λ_ _ _ _=>False
end L2
namespace L2
open PySem
mutual
def Gd (B:Nat):af->Prop
 | .none=>True
 | .bool _=>True
 | .int i=>i.natAbs<=B
 | .str x=>(∀c∈x.cps.toList,c<1114112)/\x.cps.size<=60
 | .tuple ds=>JK B ds
 | .list ds=>JK B ds
 | .dict _=>False
def JK (B:Nat):List af->Prop
 | []=>True
 | d::ds=>Gd B d/\JK B ds
end
theorem Pm:(10:Nat) ^ 50<2 ^ 1920:=by decide +kernel
mutual
theorem vW:∀d:af,Gd (10 ^ 50) d->d.canLay0=true/\d.showable=true/\d.leavesShort 60=true
 | .none,_=>⟨rfl,rfl,rfl⟩
 | .bool _,_=>⟨rfl,rfl,rfl⟩
 | .int i,g=>by
  simp only[Gd] at g;refine⟨rfl,?_,?_⟩
  .simp only[af.showable,decide_eq_true_eq]
   by_cases h:i.natAbs=0
   .rw[h];decide
   .exact (Nat.log2_lt h).mpr (cz g Pm)
  .simp only[af.leavesShort,decide_eq_true_eq]
   have e:=int_text_length_le10 (k:=51) (!2) (cz g (by decide +kernel:(10:Nat) ^ 50<10 ^ 51));show (Str.ofString (toString i)).length<=60;rw[ofString_length];omega
 | .str x,g=>by
  simp only[Gd] at g;refine⟨?_,rfl,?_⟩
  .show af.strOk x=true
   unfold af.strOk;rw[Array.all_eq_true'];intro c hc;exact decide_eq_true (g.1 c (by simpa using hc))
  .simp only[af.leavesShort,List.all_eq_true,decide_eq_true_eq]
   intro c hc;exact aL (g.1 c hc) (!2)
 | .tuple ds,g=>by simp only[Gd] at g;simpa only [af.canLay0,af.showable,af.leavesShort] using vX ds g
 | .list ds,g=>by simp only[Gd] at g;simpa only [af.canLay0,af.showable,af.leavesShort] using vX ds g
 | .dict _,g=>by simp only[Gd] at g
theorem vX:∀ds:List af,JK (10 ^ 50) ds->af.canLayAll0 ds=true/\af.showableAll ds=true/\af.leavesShortAll 60 ds=true
 | [],_=>⟨rfl,rfl,rfl⟩
 | d::ds,g=>by
  simp only[JK] at g;obtain⟨a1,a2,a3⟩:=vW d g.1;obtain⟨b1,b2,b3⟩:=vX ds g.2;simp only[af.canLayAll0,af.showableAll,af.leavesShortAll,a1,a2,a3,b1,b2,b3];exact⟨rfl,rfl,rfl⟩
end
theorem HP (g:Gd (10 ^ 50) d)(hd:d.depth<=60)(hw:d.weight<=200000):Good d:=⟨(vW d g).1,(vW d g).2.1,(vW d g).2.2,hd,hw⟩
theorem Pn (h:i.natAbs<2 ^ k):af.weight (.int i)<=k:=by
 simp only[af.weight];split
 .omega
 .rename_i iy
  have:i.natAbs≠0:=λz=>iy (by simp;omega);have:=(Nat.log2_lt this).mpr h;omega
mutual
def Gq (B L:Nat):af->Prop
 | .none=>True
 | .bool _=>True
 | .int i=>i.natAbs<=B
 | .str x=>(∀c∈x.cps.toList,c<1114112)/\x.cps.size<=L
 | .tuple ds=>Dg B L ds
 | .list ds=>Dg B L ds
 | .dict _=>False
def Dg (B L:Nat):List af->Prop
 | []=>True
 | d::ds=>Gq B L d/\Dg B L ds
end
mutual
theorem vY {B L B' L':Nat}(h:B<=B')(k:L<=L'):∀d:af,Gq B L d->Gq B' L' d
 | .none,_=>by simp[Gq]
 | .bool _,_=>by simp[Gq]
 | .int i,g=>by simp only[Gq] at g ⊢;omega
 | .str x,g=>by simp only[Gq] at g ⊢;exact⟨g.1,!1⟩
 | .tuple ds,g=>by simp only[Gq] at g ⊢;exact oy h k ds g
 | .list ds,g=>by simp only[Gq] at g ⊢;exact oy h k ds g
 | .dict _,g=>by simp only[Gq] at g
theorem oy {B L B' L':Nat}(h:B<=B')(k:L<=L'):∀ds:List af,Dg B L ds->Dg B' L' ds
 | [],_=>by simp[Dg]
 | d::ds,g=>by simp only[Dg] at g ⊢;exact⟨vY h k d g.1,oy h k ds g.2⟩
end
mutual
theorem JL:∀d:af,Gq (10 ^ 50) 60 d->Gd (10 ^ 50) d
 | .none,_=>by simp[Gd]
 | .bool _,_=>by simp[Gd]
 | .int i,g=>by simp only[Gq] at g;simp only[Gd];exact g
 | .str x,g=>by simp only[Gq] at g;simp only[Gd];exact g
 | .tuple ds,g=>by simp only[Gq] at g;simp only[Gd];exact z8 ds g
 | .list ds,g=>by simp only[Gq] at g;simp only[Gd];exact z8 ds g
 | .dict _,g=>by simp only[Gq] at g
theorem z8:∀ds:List af,Dg (10 ^ 50) 60 ds->JK (10 ^ 50) ds
 | [],_=>by simp[JK]
 | d::ds,g=>by simp only[Dg] at g;simp only[JK];exact⟨JL d g.1,z8 ds g.2⟩
end
structure Sz (B L w p:Nat) (d:af):Prop where
 gq:Gq B L d
 wt:d.weight<=w
 dp:d.depth<=p
structure nE (B L w p:Nat) (ds:List af):Prop where
 gq:Dg B L ds
 wt:af.weightAll ds<=w
 dp:af.depthAll ds<=p
section
variable {B L B' L' w w' p p':Nat}{d:af}{ds es:List af}
theorem Sz.mono (h:Sz B L w p d)(hB:B<=B')(hL:L<=L')(hw:w<=w')(hp:p<=p'):Sz B' L' w' p' d:=⟨vY hB hL d h.gq,bj h.wt hw,bj h.dp hp⟩
theorem nE.mono (h:nE B L w p ds)(hB:B<=B')(hL:L<=L')(hw:w<=w')(hp:p<=p'):nE B' L' w' p' ds:=⟨oy hB hL ds h.gq,bj h.wt hw,bj h.dp hp⟩
theorem Sz.gd (h:Sz B L w p d)(hB:B<=10 ^ 50)(hL:L<=60):Gd (10 ^ 50) d:=JL d (vY hB hL d h.gq)
theorem Sz.good (h:Sz B L w p d)(hB:B<=10 ^ 50)(hL:L<=60)(hw:w<=200000)(hp:p<=60):Good d:=HP (h.gd hB hL) (bj h.dp hp) (bj h.wt hw)
theorem nE.nil:nE B L 0 0 []:=⟨by simp[Dg],by simp[af.weightAll],by simp[af.depthAll]⟩
theorem nE.cons (h:Sz B L w p d)(t:nE B L w' p' ds):nE B L (w+1+w') (max p p') (d::ds):=by
 refine⟨by simp only[Dg];exact⟨h.gq,t.gq⟩,?_,?_⟩
 .simp only[af.weightAll];have:=h.wt;have:=t.wt;omega
 .simp only[af.depthAll];have:=h.dp;have:=t.dp;omega
theorem Sz.tup (h:nE B L w p ds):Sz B L w (p+1) (.tuple ds):=⟨by simp only[Gq];exact h.gq,by simp only[af.weight];exact h.wt,by simp only[af.depth];have:=h.dp;omega⟩
theorem Sz.small (h:i.natAbs<1024)(hB:1023<=B):Sz B L 10 0 (.int i):=⟨by simp only[Gq];omega,Pn h,by simp[af.depth]⟩
theorem nE.ints (hB:1023<=B):∀{ns:List Int},(∀i∈ns,i.natAbs<1024)->nE B L (11 * ns.length) 0 (ns.map .int)
 | [],_=>nE.nil
 | n::ns,h=>by
  have t:=nE.ints (ns:=ns) hB λi hi=>h i (ai _ hi);have:=nE.cons (Sz.small (h n (aq ..)) hB) t;rw[ak,ap];exact this.mono (ao _) (ao _) (!1) (!4)
theorem nE.all:∀{ds:List af},(∀d∈ds,Sz B L w p d)->nE B L ((w+1) * ds.length) p ds
 | [],_=>nE.nil.mono (ao _) (ao _) (!4) (bL _)
 | d::ds,h=>by
  have t:=nE.all (ds:=ds) λi hi=>h i (ai _ hi);refine (nE.cons (h d (aq ..)) t).mono (ao _) (ao _) ?_ (!4);rw[ap,Nat.mul_succ];omega
end
section
variable {i j:Int}{ns ms:List Int}{x y:af}
theorem lV (ns:List Int):af.canLayAll0 (ns.map .int)=true:=by
 induction ns with
 | nil=>rfl
 | cons n ns ih=>simpa [af.canLayAll0,af.canLay0] using ih
theorem xV (ns:List Int):af.depthAll (ns.map .int)=0:=by
 induction ns with
 | nil=>rfl
 | cons n ns ih=>simpa [af.depthAll,af.depth] using ih
theorem rN:∀ns ms:List Int,af.eqvAll (ns.map .int) (ms.map .int)=decide (ns=ms)
 | [],[]=>rfl
 | [],m::ms=>rfl
 | n::ns,[]=>rfl
 | n::ns,m::ms=>by
  simp only[ak,af.eqvAll,af.eqv,rN ns ms,List.cons.injEq];by_cases h:n=m<;>simp[h]
theorem EM (hx:x.canLay0=true)(hy:y.canLay0=true)(hd:x.depth<=60):vQ x y=some (.bool (af.eqv x y)):=if_pos ⟨hx,hy,hd⟩
theorem EN (hx:x.canLay0=true)(hy:y.canLay0=true)(hd:x.depth<=60):Bg x y=some (.bool (!PyData.eqv x y)):=if_pos ⟨hx,hy,hd⟩
theorem jb:vQ (.int i) (.int j)=some (.bool (decide (i=j))):=by
 rw[EM rfl rfl (by simp[af.depth])];simp only[af.eqv];congr
theorem xW:Bg (.bool a) (.bool b)=some (.bool (!(a == b))):=by
 rw[EN rfl rfl (by simp[af.depth])];simp only[af.eqv]
theorem uK:Bg (.tuple (ns.map .int)) (.tuple (ms.map .int))=some (.bool (!decide (ns=ms))):=by
 rw[EN (show af.canLay0 (.tuple _)=true from lV ns) (show af.canLay0 (.tuple _)=true from lV ms) (by simp[af.depth,xV])];simp only[af.eqv,rN]
theorem uM:vQ (.list (ns.map .int)) (.list (ms.map .int))=some (.bool (decide (ns=ms))):=by
 rw[EM (show af.canLay0 (.list _)=true from lV ns) (show af.canLay0 (.list _)=true from lV ms) (by simp[af.depth,xV])];simp only[af.eqv,rN]
theorem any_ints (i:Int)(ns:List Int):((ns.map af.int).any λd=>af.eqv d (.int i))=decide (i∈ns):=by
 induction ns with
 | nil=>rfl
 | cons n ns ih =>
  rw[ak,bR,ih];simp only[af.eqv,au];by_cases h:n=i
  .simp[h]
  .have h':¬ i=n:=λz=>h z.symm
   simp[h,h']
theorem EO:Cu (.int i) (ns.map .int)=some (decide (i∈ns)):=by
 unfold Cu;rw[if_pos ⟨rfl,lV ns,by simp[af.depth]⟩,any_ints]
theorem rO:Es (.int i) (.tuple (ns.map .int))=some (.bool (!decide (i∈ns))):=by simp only[Es,EO,bJ]
end
section
variable {α:Type}
theorem nF (h0:0<=i)(h1:i<xs.length):oW xs i=xs[i.toNat]? := by
 unfold oW GS;rw[if_pos h0,if_pos h1];rfl
theorem gP (a:α)(l:List α):oW (a::l) 0=some a:=by rw[nF (!2) (by simp only[ap];omega)];rfl
theorem hU (a b:α)(l:List α):oW (a::b::l) 1=some b:=by rw[nF (!2) (by simp only[ap];omega)];rfl
theorem uN (a b c:α)(l:List α):oW (a::b::c::l) 2=some c:=by rw[nF (!2) (by simp only[ap];omega)];rfl
theorem HQ (h:xs.getLast? = some x):oW xs (-1)=some x:=by
 have hl:0<xs.length:=by
  cases xs with
  | nil=>cases h
  | cons a l=>simp
 unfold oW GS;rw[if_neg (!2),if_pos (!1)];show xs[(-1+(xs.length:Int)).toNat]? = some x;rw[show (-1+(xs.length:Int)).toNat=xs.length - 1 by omega,<- List.getLast?_eq_getElem?];exact h
theorem ER (xs:List α)(x:α):oW (xs++[x]) (-1)=some x:=HQ (!4)
theorem ES {xs:List α}{i:Int}(h0:0<=i)(h1:i<xs.length):∃x,oW xs i=some x/\x∈xs:=by
 have:i.toNat<xs.length:=by omega
 exact⟨xs[i.toNat],by rw[nF h0 h1];simp[this],cg _⟩
theorem Br (xs:List α)(k:Int)(h:0<=k):o3 xs none (some k)=xs.take k.toNat:=by
 unfold o3;rw[show k=((k.toNat:Nat):Int) by omega,HT.qt,HT.nV];simp only[List.drop_zero,Nat.sub_zero,bh];by_cases hc:k.toNat<=xs.length
 .rw[Nat.min_eq_left hc]
 .rw[Nat.min_eq_right (!1),bV (ao _),bV (!1)]
theorem CC (xs:List α)(k:Int)(h:0<=k):o3 xs (some k) none=xs.drop k.toNat:=by
 unfold o3;rw[show k=((k.toNat:Nat):Int) by omega,HT.qt,HT.nV];simp only[bh];by_cases hc:k.toNat<=xs.length
 .rw[Nat.min_eq_left hc,bV (by rw[cU];exact ao _)]
 .rw[Nat.min_eq_right (!1),bC (ao _),bC (!1)]
  simp
end
theorem fi:fj (.tuple ds) (.int i)=oW ds i:=rfl
theorem JM:fj (.list ds) (.int i)=oW ds i:=rfl
theorem gw (h0:0<m)(h1:m<1073741824)(h2:n<iI)(h:∀r:Int,0<=r->r<m->Q (.int r) (n+1)):gm [.int m] n Q X:=⟨⟨h0,h1,h2⟩,h⟩
section
variable {i j:Nat}{ue:UX}{uc:UT}{Q:List af->Int->Prop}{env:d9}
theorem pQ (f:af->af)(p:af->Bool):∀(its acc:List af) (n:Int) (env:d9),(∀d∈its,∀n Q,ue (env.set i (some (.s d))) n Q=Q (f d) n)->(∀d∈its,∀n Q,uc (env.set i (some (.s d))) n Q=Q (p d) n)->fq (g6 i) uc ue Q its acc env n=Q (acc++(its.filter p).map f) n
 | [],acc,n,env,_,_=>by simp[fq]
 | d::ds,acc,n,env,h,k=>by
  have ih:=λacc=>pQ f p ds acc n (env.set i (some (.s d))) (λe he n Q=>by rw[c9];exact h e (ai _ he) n Q) (λe he n Q=>by rw[c9];exact k e (ai _ he) n Q);simp only[fq,g6,k d (aq ..),h d (aq ..),ih]
  cases hp:p d with
  | true=>simp[hp]
  | false=>simp[hp]
end
theorem ku (Inv:List af->List af->d9->Int->Prop) :
  ∀(its pre:List af) (env:d9) (n:Int),(∀pre d post env n (E':lO),E'.rt=E.rt->Inv pre (d::post) env n->(∀dH n',Inv (pre++[d]) post dH n'->E'.nx dH n')->ug d env λEF=>ub E' EF n)->Inv pre its env n->(∀pre env n,Inv pre [] env n->E.nx env n)->i6 ug ub E its env n
 | [],pre,env,n,_,h0,hd=>hd pre env n h0
 | d::ds,pre,env,n,hb,h0,hd=>hb pre d ds env n { nx:=i6 ug ub E ds,rt:=E.rt } rfl h0 λdH n' h'=>ku Inv ds (pre++[d]) dH n' hb h' hd
theorem oz (h:ze i j):vP (.int i) (.int j)=some (.int (i * j)):=if_pos h
theorem ET:vP (.int c) (.int (if b=true then 1 else 0))=some (.int (if b=true then c else 0)):=by
 cases b with
 | true=>rw[if_pos rfl,if_pos rfl,oz (.inr ⟨!2,!2⟩),Int.mul_one]
 | false=>rw[if_neg (!2),if_neg (!2),oz (.inr ⟨!2,!2⟩),Int.mul_zero]
theorem z9 (h:xs.length+ys.length<=16777216):iQ (.tuple xs) (.tuple ys)=some (.tuple (xs++ys)):=if_pos (by rw[show aA=16777216 by decide];exact h)
theorem Md (h:xs.length+ys.length<=16777216):iQ (.list xs) (.list ys)=some (.list (xs++ys)):=if_pos (by rw[show aA=16777216 by decide];exact h)
theorem jl (h:ds.length<16777216):iA ds [d]=some (ds++[d]):=if_pos (by rw[show aA=16777216 by decide];exact h)
theorem HR (h:0<j):Hw (.int i) (.int j)=some (.int (i % j)):=if_pos h
noncomputable def eT (lo:Int)(n:Nat):List Int:=(List.range n).map λ(k:Nat)=>lo+(k:Int)
theorem mK (lo:Int)(n:Nat):oo lo n=(eT lo n).map .int:=by unfold oo eT;rw[bx];rfl
theorem ft:i∈eT lo n↔lo<=i/\i<lo+n:=by
 unfold eT;rw[aM];constructor
 .rintro⟨k,hk,rfl⟩
  have:=cN.mp hk;omega
 .intro h
  exact⟨(i - lo).toNat,cN.mpr (!1),!1⟩
theorem eY (lo:Int)(n:Nat):(eT lo n).length=n:=by simp[eT]
theorem xX (p:af->Bool)(ns:List Int):(ns.map af.int).filter p=(ns.filter λi=>p (.int i)).map .int:=by rw[List.filter_map];rfl
theorem EU (f:af->af)(ns:List Int):(ns.map af.int).map f=ns.map λi=>f (.int i):=by rw[bx];rfl
section
variable {ns:List Int}
theorem EV:vQ (.list (ns.map .int)) (.list [])=some (.bool (decide (ns=[]))):=uM (ms:=[])
theorem xY:Bg (.tuple (ns.map .int)) (.tuple [])=some (.bool (!decide (ns=[]))):=uK (ms:=[])
end
theorem jf (f:Int->af)(p:Int->Bool)(ns:List Int)(acc:List af)(n:Int)(env:d9)(h:∀k∈ns,∀n Q,ue (env.set i (some (.s (.int k)))) n Q=Q (f k) n)(hp:∀k∈ns,∀n Q,uc (env.set i (some (.s (.int k)))) n Q=Q (p k) n) :
  fq (g6 i) uc ue Q (ns.map .int) acc env n=Q (acc++(ns.filter p).map f) n:=by
 rw[pQ (λd=>match d with | .int k=>f k | _=>.none) (λd=>match d with | .int k=>p k | _=>false) _ _ _ _ (λd hd n Q=>?_) (λd hd n Q=>?_),xX,EU]
 .obtain⟨k,hk,rfl⟩:=aM.mp hd
  exact h k hk n Q
 .obtain⟨k,hk,rfl⟩:=aM.mp hd
  exact hp k hk n Q
noncomputable def Aa (x y:af):Option af:=match x,y with | .str a,.str b=>some (.bool (!decide (a=b))) | _,_=>none
theorem EW:decide (V.str a=V.str b)=decide (a=b):=by
 rw[decide_eq_decide];exact⟨λh=>by cases h;rfl,λh=>by rw[h]⟩
theorem eL.Bs (r:eL gs S H (.str x) v):v=.str x:=by
 rcases r with r | ⟨ds,a,xs,h,_⟩ | ⟨t,kvs,a,xs,h,_⟩
 .exact r.jS
 .cases h
 .cases h
section
theorem Po:vO X (compareOp .NotEq) Aa:=⟨_,NL,λgs S H dx dy x y d R _ _ r1 r2 e k=>by
 unfold Aa at e;split at e
 .rename_i a b
  cases e;have e1:=r1.Bs;have e2:=r2.Bs;subst e1 e2;refine⟨rfl,?_⟩;rw[EW];exact k _ H (.bl _) (.refl _ _)
 .cases e⟩
end
end L2
namespace L2
open PySem PySem.Spec PyProof.Rows
noncomputable def R8 (x:af):Prop:=match x with | .tuple _=>True | .list _=>True | _=>False
section
variable {X:Cx}
theorem uO:∀l:List Int,(∀n∈l,-500000000000<=n/\n<=500000000000)->-(500000000000 * (l.length:Int))<=l.sum/\l.sum<=500000000000 * l.length
 | [],_=>by simp
 | a::l,hl=>by
  have h1:=uO l λn hn=>hl n (ai _ hn);have h2:=hl a (aq ..);rw[cG,ap];omega
theorem CD (K:W.Frag)(hc:X.calm=true)(hk:X.K=K:=by rfl):ff X (.builtin "sum") (λxs H Q=>∃(p:Addr) (ns:List Int),xs=[.ref p]/\gZ K H p (ns.map V.int)/\(∀n∈ns,-500000000000<=n/\n<=500000000000)/\Q (.int ns.sum) H):=by
 subst hk;intro pins s σ H xs us Q I r h;obtain⟨p,ns,rfl,hp,hb,q⟩:=h;obtain⟨u,rfl,ru⟩:=vals1 r;cases ru;obtain⟨its,rv,ht,hz⟩:=I.tuple hp;have M7:s.heap.IsTuple p its.toArray:=ht;have lH:p<s.heap.objs.size:=let ⟨o,e,_⟩:=M7;aF e;have hlen:its.toArray.size=ns.length:=by rw[aC,<- rv.length,ar]
 rw[ar] at hz;have hsz:aA=16777216:=by decide
 refine call_sum_walk (wpAny_pyIter_tuple M7 ⟨s.heap.objs.size,_,_,its.toArray.size,_,_,λa=>ns.getD a 0,rfl,Walks.tuple (A:=X.A.in1) (I.ok.hd hc) _ p (aT lH) its.toArray,⟨⟨_,ax _ rfl,rfl,rfl⟩,M7.at λo e=>ah _ e⟩,?_,?_,?_,?_⟩)
 .intro b y9
  rw[bB];rcases au.mp y9 with e | y9
  .rw[e];exact cr _
  .rw[show b=p by simpa using y9];exact bU lH
 .intro a v e
  obtain⟨x,hx,rx⟩:=rv.at' (show its[a]? = some v by simpa using e);rw[aB] at hx
  cases hn:ns[a]? with
  | none=>rw[hn] at hx;cases hx
  | some b =>
   rw[hn] at hx;cases hx;obtain⟨t,rfl⟩:=rx;exact⟨t,by show ag.int b t=ag.int (ns.getD a 0) t;rw[show ns.getD a 0=b by rw[az,hn];rfl]⟩
 .intro j hj
  rw[hlen] at hj;have h1:=hb (ns.getD j 0) (by rw[az,show ns[j]? = some ns[j] by simp[hj]];exact cg hj);have h2:=uO (ns.take (j+1)) λn hn=>hb n (cp hn);rw[bF] at h2;show InLong (ns.getD j 0)/\InLong (preSum (λa=>ns.getD a 0) (j+1));unfold InLong;rw[iF ns (j+1) (!1)];have h3:(min (j+1) ns.length:Nat)<=16777216:=by omega
  constructor<;>constructor<;>omega
 .intro h' tk t' kp
  have I1:Inv X pins σ H { s with heap:=h',toks:=tk }:=I.kept λb o e=>kp b o (λz=>by
   rw[show b=s.heap.objs.size by simpa using z] at e;exact absurd (aF e) (bA _)) (ah _ e)
  rw[show preSum (λa=>ns.getD a 0) its.toArray.size=ns.sum by rw[hlen,iF ns _ (ao _),cW]];exact⟨.int _,H,I1,⟨_,rfl⟩,q⟩
noncomputable def xZ (ds:List af):Option af:=match ds with | [.tuple ds]=>z7 [.list ds] | ds=>z7 ds
theorem Me (hc:X.calm=true):lu X (.builtin "sum") xZ:=by
 obtain⟨r,hr,hd⟩:=(Pj (X:=X) hc).ex;refine⟨_,(show ff X (.builtin "sum") λxs H Q=>(∃(p:Addr) (ns:List Int),xs=[.ref p]/\gZ X.K H p (ns.map V.int)/\(∀n∈ns,-500000000000<=n/\n<=500000000000)/\Q (.int ns.sum) H)\/r xs H Q from λpins s σ H xs us Q I rv h=>h.elim (CD X.K hc rfl pins s σ H xs us Q I rv) (hr pins s σ H xs us Q I rv)),λgs S H ds vs d R hs hz rs e k=>?_⟩;unfold xZ at e;split at e
 .rename_i ds
  obtain⟨v,rfl,rl⟩:=rs.one;obtain⟨a,xs,rfl,sq,_,rr⟩:=rl.F8 (K:=X.K);simp only[z7] at e
  cases ei:gO ds with
  | none=>rw[ei] at e;cases e
  | some ns =>
   rw[ei] at e;simp only[cV] at e;split at e
   .rename_i hb
    cases e;rw[fV ei] at rr;rw[fG rr] at sq;exact .inl ⟨a,ns,rfl,sq,hb,k _ H (.int _) (.refl _ _)⟩
   .cases e
 .exact .inr (hd gs S H ds vs d R hs hz rs e k)
end
theorem HS {α:Type}{us:List α}{n:Nat}(h:us.length=n+1):∃a r,us=a::r/\r.length=n:=by
 cases us with
 | nil=>cases h
 | cons a r=>exact⟨a,r,rfl,Nat.succ.inj h⟩
theorem EX {α:Type}{us:List α}(h:us.length=1):∃a,us=[a]:=by
 obtain⟨a,r,rfl,k⟩:=HS (n:=0) h;rw[cI k];exact⟨_,rfl⟩
theorem CF {α:Type}{us:List α}(h:us.length=2):∃a b,us=[a,b]:=by
 obtain⟨a,r,rfl,k⟩:=HS (n:=1) h;obtain⟨b,rfl⟩:=EX k;exact⟨_,_,rfl⟩
theorem EY {α:Type}{us:List α}(h:us.length=3):∃a b c,us=[a,b,c]:=by
 obtain⟨a,r,rfl,k⟩:=HS (n:=2) h;obtain⟨b,c,rfl⟩:=CF k;exact⟨_,_,_,rfl⟩
theorem Pp {α:Type}{us:List α}(h:us.length=4):∃a b c d,us=[a,b,c,d]:=by
 obtain⟨a,r,rfl,k⟩:=HS (n:=3) h;obtain⟨b,c,d,rfl⟩:=EY k;exact⟨_,_,_,_,rfl⟩
section
theorem x9 (ht:s.heap.IsTuple t vs.toArray)(hsz:vs.length<=1000)
  (h:∀h1:Heap,(∀b o,s.heap.get? b=some o->h1.get? b=some o)->Q vs { s with heap:=h1 }):aE (model prog w) A (collect (.ref t)) Q E s:=by
 obtain⟨o,ho,hc,n,hd⟩:=id ht;have h6:aA=16777216:=by decide
 (unfold collect;refine ae (wpAny_runValue (codeAny_builtin entry_proto_collect' ?_)))
 show aE _ _ (newList [] >>= λz=>again (.builtin "list.__iadd__" ⟨[z,.ref t],[]⟩)) _ _ s;refine ae (wpAny_newList (aj ⟨Code.quiet_builtin _ (!3),codeAny_builtin entry_list_iadd' (?_:aE _ _ _ _ _ _)⟩));show aE _ _ (Builtin.List.listExtendWith (.ref s.heap.objs.size) (.ref t) (.ref s.heap.objs.size)) _ _ { s with heap:=s.heap.push (seqObj "list" #[] 0) };have g:(s.heap.push (seqObj "list" #[] 0)).get? t=some o:=ah _ ho
 (unfold Builtin.List.listExtendWith;refine ae (wpAny_typeOf (T := "tuple") ⟨o,g,hc⟩ ?_))
 rw[if_pos (!4)];refine ae (listItems_at g hd (ae (listItems_at (xs:=#[]) (n:=0) (ax _ rfl) rfl ?_)));rw[if_neg (!4)];refine ae (listUpdate_at (xs:=#[]) (n:=0) (ax _ rfl) rfl (aj ?_) (bL _) (by show (#[]++vs.toArray).size<=aA+1;simp only[Array.size_append,aC,aX];omega));show aE (model prog w) A (load s.heap.objs.size >>= _) Q E { s with heap:=(s.heap.push (seqObj "list" #[] 0)).update s.heap.objs.size (Obj.mapSeq (·++vs.toArray)) };refine ae (wpAny_load (get?_update_seq (ax _ rfl) _) ?_);show aE _ _ (pure ((#[]:Array ag)++vs.toArray).toList) Q E _;rw[show ((#[]:Array ag)++vs.toArray).toList=vs by simp];refine aj (h _ λb ob e=>?_);rw[aH _ _ (bN (aF e))];exact ah _ e
end
section
theorem vZ (K:W.Frag)(hk:X.K=K:=by rfl):ff X (.builtin "sorted") (λxs H Q=>∃(p:Addr) (ns:List Int),xs=[.ref p]/\gZ K H p (ns.map V.int)/\ns.length<64 /\
  ∀(l:Addr) (ms:List Int),ms.Perm ns->ms.Pairwise (·<=·)->H l=none->Q (.ref l) (d3 H l (.lst (ms.map V.int)))):=by
 subst hk;intro pins s σ H xs us Q I r h;obtain⟨p,ns,rfl,hp,M6,q⟩:=h;obtain⟨u,rfl,ru⟩:=vals1 r;cases ru;obtain⟨its,rv,ht,hz⟩:=I.tuple hp;have hI:IntsAre its ns:=IntsAre.og rv;have OS:its.length<64:=by rw[IntsAre.length hI];exact M6
 refine Calls.call_function_entry kind_sorted plain_sorted entry_sorted (args_sorted1 _) ?_
 (unfold Builtin.«sorted»;refine ae (m:=checkCount "sorted" 1 1 _) (aj ?_))
 refine ae (x9 (A:=X.A.in1) (show s.heap.IsTuple p its.toArray from ht) (!1) λh1 RH=>?_);refine ae (wpAny_newList ?_);have Gi:(h1.push (seqObj "list" its.toArray 0)).get? h1.objs.size=some (seqObj "list" its.toArray 0):=ax _ rfl;show aE _ _ _ _ _ { s with heap:=h1.push (seqObj "list" its.toArray 0) };refine ae (wpAny_holding (wpAny_call_entry slot_list_sort ⟨_,Gi,rfl⟩ entry_list_sort (list_sort_tree Gi hI OS λout Hr a1 a2 a3=>⟨_,rfl,?_⟩) (args_list_sort _)));refine aj ⟨_,rfl,?_⟩;have hm:=a2.length_eq;have hv:dQ (Hr.map V.int) out.toList:=dQ.qz a1;have hsz:(Hr.map V.int).length<=aA:=by rw[ar,show aA=16777216 by decide];omega
 have I1:Inv X pins σ H { s with heap:=h1 }:=I.kept (t':=s.toks) RH
 have LR:∀b ob,h1.get? b=some ob->(sortedHeap (h1.push (seqObj "list" its.toArray 0)) h1.objs.size its out).get? b=some ob:=by
  intro b ob e;have hb:h1.objs.size≠b:=bN (aF e);unfold sortedHeap;rw[aH _ _ hb];refine ah _ (ah _ ?_);rw[aH _ _ hb];exact ah _ e
 have nw:∃n,(sortedHeap (h1.push (seqObj "list" its.toArray 0)) h1.objs.size its out).get? h1.objs.size=some { cls:=.type "list",data:=.seq out n }:=by
  have g2:=aR (Obj.mapSeq λ_=>(#[]:Array ag)) Gi rfl;have g3:=ah (seqObj "list" #[] 0) (ah (seqObj "tuple" its.toArray 0) g2);exact⟨_,aR (Obj.mapSeq λ_=>out) g3 rfl⟩
 obtain⟨n,nw⟩:=nw;exact⟨.ref h1.objs.size,_,I1.laid (t':=s.toks) (o:=.lst (Hr.map V.int)) LR (ao _) ⟨hsz,out.toList,n,hv,by simpa using nw⟩,rfl,q _ Hr a2 a3 (I1.hok.fresh (ao _))⟩
end
noncomputable def JN (u:UX):d9->Int->(List af->Int->Prop)->Prop:=λenv n Q=>u env n λd n1=>lq (oq d) λds=>lq (gO ds) λns=>ns.length<64/\Q ((sortI ns).map .int) n1
section
theorem HU (hm:X.mg "sorted" = none)(h:KL X M e u)(hg:Gl X "sorted" := by rfl)(hs:d8 e=true:=by rfl):KN X M (.Call (.Name "sorted" p) [e] [] pos) (JN u) :=
 .of (gK (show ff X (.builtin "sorted") _ from λpins s σ H xs us Q I r (hh:(∃(p:Addr) (ns:List Int),xs=[.ref p]/\(fU X.K H p (ns.map V.int)\/gZ X.K H p (ns.map V.int))/\ns.length<64/\∀(l:Addr) (ms:List Int),ms.Perm ns->ms.Pairwise (·<=·)->H l=none->Q (.ref l) (d3 H l (.lst (ms.map V.int)))))=>by
  obtain⟨p,ns,e1,sq,rest⟩:=hh;rcases sq with sq | sq
  .exact kK X.K rfl pins s σ H xs us Q I r ⟨p,ns,e1,sq,rest⟩
  .exact vZ X.K rfl pins s σ H xs us Q I r ⟨p,ns,e1,sq,rest⟩) hg hm (!3) (gk h.run eG hs)) λσ H R env pn S n Q ok hu k=>⟨env,pn,S,n,_,ok,hu,λv H1 d n1 r1 x1 g1 _ q=>by
  obtain⟨ds,es,ns,ei,hl,q⟩:=q;have e2:=fV ei;subst e2
  have fin:∀(l:Addr) (ms:List Int),ms.Perm ns->ms.Pairwise (·<=·)->H1 l=none->R (.ref l) (d3 H1 l (.lst (ms.map V.int))):=λl ms pm ps hl=>by
   have em:ms=sortI ns:=nD (pm.trans (sortI_perm ns).symm) ps (fS ns);subst em;exact k l _ _ _ n1 (z6 ok x1 g1 hl) dq (.ints _) (x1.trans (.new hl)) (M.i9 g1 (.new (S:=[]) hl) (!4)) q
  cases d with
  | list xs =>
   cases es;obtain⟨a,xs,rfl,sq,_,rs⟩:=r1.F9 (K:=X.K);rw[fG rs] at sq;exact⟨a,ns,rfl,.inl sq,hl,fin⟩
  | tuple xs =>
   cases es;obtain⟨a,xs,rfl,sq,_,rs⟩:=r1.F8 (K:=X.K);rw[fG rs] at sq;exact⟨a,ns,rfl,.inr sq,hl,fin⟩
  | _=>cases es⟩
end
noncomputable abbrev Cx.low (X:Cx):Cx:={ X with calm:=false,xe:=λ_ _=>False }
noncomputable abbrev g7 (h0 h1:Heap):Prop:=∀b o,h0.get? b=some o->h1.get? b=some o
noncomputable def uP (prog:a5)(w:World)(A:Around)(h0:Heap)(op:CmpOp)(P:Nat->ag->Prop)(bt:Nat->Nat->Bool):Prop :=
 ∀i j u v (s:aw) (Q:ag->aw->Prop) (E:ag->aw->Prop),g7 h0 s.heap->P i u->P j v->Q (.bool (bt i j)) s->aE (model prog w) A (richCompare op u v) Q E s
section
variable {prog:a5}{w:World}{A:Around}{E:ag->aw->Prop}{s:aw}{R:Result->aw->Prop}{it:Addr}{fp wr:List Addr}{n:Nat}{P:Nat->ag->Prop}{St:Nat->Heap->Prop}
theorem EZ {h0:Heap}{kw:List (Str × ag)}(W:Walks prog w A.in1 it fp wr n P St)(nw:∀b∈wr,h0.get? b=none)(bt:Nat->Nat->Bool)(cmp:uP prog w A.in1 h0 .Lt P bt)(z:Addr)(zf:z ∉ fp)(z0:h0.get? z=none) :
  ∀(m j:Nat) (s:aw) (b:ag) (c:Nat),n=j+1+m->St (j+1) s.heap->P (argBest bt j) b->s.heap.get? z=some { cls:=.type "list",dict:=none,data:=.seq #[b,b] c,slots:=#[] }->g7 h0 s.heap ->
  (∀v hh tk,P (argBest bt (n - 1)) v->g7 h0 hh->R (.ok (.ret v)) { s with heap:=hh,toks:=tk })->codeAny (model prog w) A (.builtin "min.loop" ⟨[.ref it,.none,.ref z],kw⟩) R s:=by
 have zw:z ∉ wr:=λy=>zf (W.sub _ y);have nm:(toString "min" ++ toString ".loop" : String) = "min.loop" := by decide
 have E1:∀{hh:Heap} {f:Obj->Obj},g7 h0 hh->g7 h0 (hh.update z f):=λ{hh f} k x o e=>(aH _ _ (λq:z=x=>by rw[<- q,z0] at e;cases e)).trans (k x o e);intro m
 induction m with
 | zero =>
  intro j s b c en st pb gz kp fin;refine codeAny_builtin F.entry_min_loop ?_;rw[Around.under_plainId F.plain_min_loop _];refine ae (m:=seqItems? (.ref z)) (wpAny_seqItems gz rfl ?_);refine ae (m:=tryCatch (pyNext (.ref it)) _) (wpAny_tryCatch (W.done s _ _ (by rw[en];exact st) λh1 t1 k1=>?_));have k2:g7 h0 h1:=λx o e=>k1 x o (λy=>by rw[nw x y] at e;cases e) (kp x o e);refine ae (m:=updateSeq z λ_=>#[]) (wpAny_updateSeq (k1 z _ zw gz) rfl (ae (wpAny_letGo (aj (fin b _ t1 (by rw[en];exact pb) (E1 k2))))))
 | succ m ih =>
  intro j s b c en st pb gz kp fin;refine codeAny_builtin F.entry_min_loop ?_;rw[Around.under_plainId F.plain_min_loop _];refine ae (m:=seqItems? (.ref z)) (wpAny_seqItems gz rfl ?_);refine ae (m:=tryCatch (pyNext (.ref it)) _) (wpAny_tryCatch (W.item (j+1) s _ _ (!1) st λv h1 t1 pv LU k1=>?_));have k2:g7 h0 h1:=λx o e=>k1 x o (λy=>by rw[nw x y] at e;cases e) (kp x o e);have g1:=k1 z _ zw gz;refine ae (m:=tryCatch (holding [v,v] (richCompare .Lt v b >>= _)) _) (wpAny_tryCatch (wpAny_holding (ae (cmp (j+1) (argBest bt j) v b _ _ _ k2 pv pb (ae (wpAny_holding (wpAny_truthy_bool (ae (wpAny_letGo (aj ?_))))))))))
  cases eb:bt (j+1) (argBest bt j) with
  | true =>
   rw[if_pos rfl];refine ae (wpAny_updateSeq g1 rfl (ae (wpAny_letGo ?_)));rw[nm];exact aj ⟨plainId_quiet F.plain_min_loop _,ih (j+1) _ v _ (!1) (W.frame _ _ _ LU λx xf o e=>(aH _ _ (λq:z=x=>zf (by rw[q];exact xf))).trans e) (by simp only[argBest,eb,if_true];exact pv) (aR _ g1 rfl) (E1 k2) λv' h2 t2 p2 k3=>fin v' h2 t2 p2 k3⟩
  | false =>
   rw[if_neg (!2)];refine ae (wpAny_letGo ?_);rw[nm];exact aj ⟨plainId_quiet F.plain_min_loop _,ih (j+1) _ b c (!1) LU (by simp only[argBest,eb,bO,if_false];exact pb) g1 k2 λv' h2 t2 p2 k3=>fin v' h2 t2 p2 k3⟩
theorem Mf {l:Addr}{vs:Array ag}{bt:Nat->Nat->Bool}{Q:ag->aw->Prop}(hh:A.handled=none)(gl:s.heap.IsList l vs)(ne:0<vs.size)(cmp:uP prog w A.in1 s.heap .Lt (λi v=>vs[i]? = some v) bt)
  (fin:∀v h1 tk,vs[argBest bt (vs.size - 1)]? = some v->g7 s.heap h1->Q v { s with heap:=h1,toks:=tk }):aE (model prog w) A (call (.builtin "min") [.ref l]) Q E s:=by
 have nm:(toString "min" ++ toString ".loop" : String) = "min.loop" := by decide
 have ll:l<s.heap.objs.size:=let ⟨_,e,_⟩:=gl;aF e;refine call_function_tree F.kind_min F.plain_min F.entry_min (F.args_min1 _) ?_;refine ae (m:=Builtin.Builtins.bindParams "min" ["key", "default"] 0 ⟨[],[]⟩) (wpAny_of_eq (show _=pure [none,none] from rfl) (ae (aj (ae ?_))));refine wpAny_pyIter_list gl (ae (aW ?_));rw[nm];have W:=Walks.list (prog:=prog) (w:=w) (A:=A.in1) hh s.heap.objs.size l (aT ll) vs;have no:∀k,s.heap.get? (s.heap.objs.size+k)=none:=λk=>by simp[Heap.get?]
 have gi:(s.heap.push { cls:=.type "list_iterator",data:=.fields #[.ref l,.int 0 0] }).IsListIter s.heap.objs.size l 0:=⟨_,ax _ rfl,rfl,rfl⟩;have sz:(s.heap.push { cls:=.type "list_iterator",data:=.fields #[.ref l,.int 0 0] }).objs.size=s.heap.objs.size+1:=bB ..;have oA:g7 s.heap (s.heap.push { cls:=.type "list_iterator",data:=.fields #[.ref l,.int 0 0] }):=λb o e=>ah _ e;have Df:(s.heap.push { cls:=.type "list_iterator",data:=.fields #[.ref l,.int 0 0] }).IsList l vs:=gl.push _;show aE _ _ _ _ _ { s with heap:=(s.heap.push { cls:=.type "list_iterator",data:=.fields #[.ref l,.int 0 0] }).push { cls:=.type "list",data:=.seq #[] 0 } };generalize s.heap.push { cls:=.type "list_iterator",data:=.fields #[.ref l,.int 0 0] }=h1 at gi sz oA Df ⊢;have gz:(h1.push { cls:=.type "list",data:=.seq #[] 0 }).get? h1.objs.size=some { cls:=.type "list",data:=.seq #[] 0 }:=ax _ rfl;have nh:g7 h1 (h1.push { cls:=.type "list",data:=.seq #[] 0 }):=λb o e=>ah _ e
 have zf:h1.objs.size ∉ [s.heap.objs.size,l]:=by
  rw[sz];simp only[au,cu,or_false,not_or];exact⟨cE _,bN (bU ll)⟩
 have zw:h1.objs.size ∉ [s.heap.objs.size]:=λy=>zf (W.sub _ y);refine aj ⟨plainId_quiet F.plain_min_loop _,codeAny_builtin F.entry_min_loop ?_⟩;rw[Around.under_plainId F.plain_min_loop _];refine ae (m:=seqItems? (.ref h1.objs.size)) (wpAny_seqItems gz rfl ?_);refine ae (m:=tryCatch (pyNext (.ref s.heap.objs.size)) _) (wpAny_tryCatch (W.item 0 _ _ _ ne (W.frame _ _ _ ⟨gi,Df⟩ λb _ o e=>nh b o e) λv h3 t3 pv Dy k3=>?_));have g3:=k3 _ _ zw gz;have rP:g7 s.heap h3:=λb o e=>k3 b o (λy=>by rw[am.mp y,<- cC s.heap.objs.size,no] at e;cases e) (nh b o (oA b o e));refine ae (m:=updateSeq h1.objs.size λ_=>#[v,v]) (wpAny_updateSeq g3 rfl ?_);rw[nm];refine aj ⟨plainId_quiet F.plain_min_loop _,EZ W (λb hb=>by rw[am.mp hb,<- cC s.heap.objs.size];exact no 0) bt cmp h1.objs.size zf (by rw[sz];exact no 1) (vs.size - 1) 0 _ v _ (!1) (W.frame _ _ _ Dy λx xf o e=>(aH _ _ (λq:h1.objs.size=x=>zf (by rw[q];exact xf))).trans e) pv (aR _ g3 rfl) (λx o e=>(aH _ _ (λq:h1.objs.size=x=>by rw[<- q,sz,no] at e;cases e)).trans (rP x o e)) λv' h4 t4 p4 k4=>fin v' h4 t4 p4 k4⟩
theorem Mg {h0:Heap}(W:Walks prog w A.in1 it fp wr n P St)(nw:∀b∈wr,h0.get? b=none)(bt:Nat->Nat->Bool)(cmp:uP prog w A.in1 h0 .Gt P bt)(z:Addr)(zf:z ∉ fp)(z0:h0.get? z=none) :
  ∀(m j:Nat) (s:aw) (b:ag) (c:Nat),n=j+1+m->St (j+1) s.heap->P (argBest bt j) b->s.heap.get? z=some { cls:=.type "list",dict:=none,data:=.seq #[b,b] c,slots:=#[] }->g7 h0 s.heap ->
  (∀v hh tk,P (argBest bt (n - 1)) v->g7 h0 hh->R (.ok (.ret v)) { s with heap:=hh,toks:=tk })->codeAny (model prog w) A (.builtin "max.loop" ⟨[.ref it,.none,.ref z],[]⟩) R s:=by
 have zw:z ∉ wr:=λy=>zf (W.sub _ y);have nm:(toString "max" ++ toString ".loop" : String) = "max.loop" := by decide
 have E1:∀{hh:Heap} {f:Obj->Obj},g7 h0 hh->g7 h0 (hh.update z f):=λ{hh f} k x o e=>(aH _ _ (λq:z=x=>by rw[<- q,z0] at e;cases e)).trans (k x o e);intro m
 induction m with
 | zero =>
  intro j s b c en st pb gz kp fin;refine codeAny_builtin F.entry_max_loop ?_;rw[Around.under_plainId F.plain_max_loop _];refine ae (m:=seqItems? (.ref z)) (wpAny_seqItems gz rfl ?_);refine ae (m:=tryCatch (pyNext (.ref it)) _) (wpAny_tryCatch (W.done s _ _ (by rw[en];exact st) λh1 t1 k1=>?_));have k2:g7 h0 h1:=λx o e=>k1 x o (λy=>by rw[nw x y] at e;cases e) (kp x o e);refine ae (m:=updateSeq z λ_=>#[]) (wpAny_updateSeq (k1 z _ zw gz) rfl (ae (wpAny_letGo (aj (fin b _ t1 (by rw[en];exact pb) (E1 k2))))))
 | succ m ih =>
  intro j s b c en st pb gz kp fin;refine codeAny_builtin F.entry_max_loop ?_;rw[Around.under_plainId F.plain_max_loop _];refine ae (m:=seqItems? (.ref z)) (wpAny_seqItems gz rfl ?_);refine ae (m:=tryCatch (pyNext (.ref it)) _) (wpAny_tryCatch (W.item (j+1) s _ _ (!1) st λv h1 t1 pv LU k1=>?_));have k2:g7 h0 h1:=λx o e=>k1 x o (λy=>by rw[nw x y] at e;cases e) (kp x o e);have g1:=k1 z _ zw gz;refine ae (m:=tryCatch (holding [v,v] (richCompare .Gt v b >>= _)) _) (wpAny_tryCatch (wpAny_holding (ae (cmp (j+1) (argBest bt j) v b _ _ _ k2 pv pb (ae (wpAny_holding (wpAny_truthy_bool (ae (wpAny_letGo (aj ?_))))))))))
  cases eb:bt (j+1) (argBest bt j) with
  | true =>
   rw[if_pos rfl];refine ae (wpAny_updateSeq g1 rfl (ae (wpAny_letGo ?_)));rw[nm];exact aj ⟨plainId_quiet F.plain_max_loop _,ih (j+1) _ v _ (!1) (W.frame _ _ _ LU λx xf o e=>(aH _ _ (λq:z=x=>zf (by rw[q];exact xf))).trans e) (by simp only[argBest,eb,if_true];exact pv) (aR _ g1 rfl) (E1 k2) λv' h2 t2 p2 k3=>fin v' h2 t2 p2 k3⟩
  | false =>
   rw[if_neg (!2)];refine ae (wpAny_letGo ?_);rw[nm];exact aj ⟨plainId_quiet F.plain_max_loop _,ih (j+1) _ b c (!1) LU (by simp only[argBest,eb,bO,if_false];exact pb) g1 k2 λv' h2 t2 p2 k3=>fin v' h2 t2 p2 k3⟩
theorem Mh {l:Addr}{vs:Array ag}{bt:Nat->Nat->Bool}{Q:ag->aw->Prop}(hh:A.handled=none)(gl:s.heap.IsList l vs)(ne:0<vs.size)(cmp:uP prog w A.in1 s.heap .Gt (λi v=>vs[i]? = some v) bt)
  (fin:∀v h1 tk,vs[argBest bt (vs.size - 1)]? = some v->g7 s.heap h1->Q v { s with heap:=h1,toks:=tk }):aE (model prog w) A (call (.builtin "max") [.ref l]) Q E s:=by
 have nm:(toString "max" ++ toString ".loop" : String) = "max.loop" := by decide
 have ll:l<s.heap.objs.size:=let ⟨_,e,_⟩:=gl;aF e;refine call_function_tree F.kind_max F.plain_max F.entry_max (F.args_max1 _) ?_;refine ae (m:=Builtin.Builtins.bindParams "max" ["key", "default"] 0 ⟨[],[]⟩) (wpAny_of_eq (show _=pure [none,none] from rfl) (ae (aj (ae ?_))));refine wpAny_pyIter_list gl (ae (aW ?_));rw[nm];have W:=Walks.list (prog:=prog) (w:=w) (A:=A.in1) hh s.heap.objs.size l (aT ll) vs;have no:∀k,s.heap.get? (s.heap.objs.size+k)=none:=λk=>by simp[Heap.get?]
 have gi:(s.heap.push { cls:=.type "list_iterator",data:=.fields #[.ref l,.int 0 0] }).IsListIter s.heap.objs.size l 0:=⟨_,ax _ rfl,rfl,rfl⟩;have sz:(s.heap.push { cls:=.type "list_iterator",data:=.fields #[.ref l,.int 0 0] }).objs.size=s.heap.objs.size+1:=bB ..;have oA:g7 s.heap (s.heap.push { cls:=.type "list_iterator",data:=.fields #[.ref l,.int 0 0] }):=λb o e=>ah _ e;have Df:(s.heap.push { cls:=.type "list_iterator",data:=.fields #[.ref l,.int 0 0] }).IsList l vs:=gl.push _;show aE _ _ _ _ _ { s with heap:=(s.heap.push { cls:=.type "list_iterator",data:=.fields #[.ref l,.int 0 0] }).push { cls:=.type "list",data:=.seq #[] 0 } };generalize s.heap.push { cls:=.type "list_iterator",data:=.fields #[.ref l,.int 0 0] }=h1 at gi sz oA Df ⊢;have gz:(h1.push { cls:=.type "list",data:=.seq #[] 0 }).get? h1.objs.size=some { cls:=.type "list",data:=.seq #[] 0 }:=ax _ rfl;have nh:g7 h1 (h1.push { cls:=.type "list",data:=.seq #[] 0 }):=λb o e=>ah _ e
 have zf:h1.objs.size ∉ [s.heap.objs.size,l]:=by
  rw[sz];simp only[au,cu,or_false,not_or];exact⟨cE _,bN (bU ll)⟩
 have zw:h1.objs.size ∉ [s.heap.objs.size]:=λy=>zf (W.sub _ y);refine aj ⟨plainId_quiet F.plain_max_loop _,codeAny_builtin F.entry_max_loop ?_⟩;rw[Around.under_plainId F.plain_max_loop _];refine ae (m:=seqItems? (.ref h1.objs.size)) (wpAny_seqItems gz rfl ?_);refine ae (m:=tryCatch (pyNext (.ref s.heap.objs.size)) _) (wpAny_tryCatch (W.item 0 _ _ _ ne (W.frame _ _ _ ⟨gi,Df⟩ λb _ o e=>nh b o e) λv h3 t3 pv Dy k3=>?_));have g3:=k3 _ _ zw gz;have rP:g7 s.heap h3:=λb o e=>k3 b o (λy=>by rw[am.mp y,<- cC s.heap.objs.size,no] at e;cases e) (nh b o (oA b o e));refine ae (m:=updateSeq h1.objs.size λ_=>#[v,v]) (wpAny_updateSeq g3 rfl ?_);rw[nm];refine aj ⟨plainId_quiet F.plain_max_loop _,Mg W (λb hb=>by rw[am.mp hb,<- cC s.heap.objs.size];exact no 0) bt cmp h1.objs.size zf (by rw[sz];exact no 1) (vs.size - 1) 0 _ v _ (!1) (W.frame _ _ _ Dy λx xf o e=>(aH _ _ (λq:h1.objs.size=x=>zf (by rw[q];exact xf))).trans e) pv (aR _ g3 rfl) (λx o e=>(aH _ _ (λq:h1.objs.size=x=>by rw[<- q,sz,no] at e;cases e)).trans (rP x o e)) λv' h4 t4 p4 k4=>fin v' h4 t4 p4 k4⟩
end
noncomputable def nG (op:CmpOp)(A:Around)(s:aw)(y x:ag)(b:Bool):Prop :=
 ∀(prog:a5) (w:World) (E:ag->aw->Prop) (Q:ag->aw->Prop),Q (.bool b) s->aE (model prog w) A (richCompare op y x) Q E s
noncomputable def jm (e f:Nat->Bool)(fin:Bool):List Nat->Bool
 | []=>fin
 | i::r=>if e i then jm e f fin r else f i
mutual
def gn (g:Bool):af->af->Option Bool
 | .int i,.int j=>some (if g then decide (j<i) else decide (i<j))
 | .tuple xs,.tuple ys=>hV g xs ys
 | _,_=>none
def hV (g:Bool):List af->List af->Option Bool
 | [],[]=>some false
 | [],_::_=>some (!g)
 | _::_,[]=>some g
 | x::xs,y::ys=>if af.eqv x y then hV g xs ys else gn g x y
end
theorem pd:∀(xs ys:List af) (j:Nat) (r:Bool),hV g xs ys=some r->j<xs.length->j<ys.length->(∀i<j,SeqAt.pairEq xs ys i=true)->SeqAt.pairEq xs ys j=false->∃q,gn g (xs.getD j .none) (ys.getD j .none)=some q
 | [],_,_,_,_,h,_,_,_=>absurd h (de _)
 | _::_,[],_,_,_,_,h,_,_=>absurd h (de _)
 | x::xs,y::ys,j,r,e,h1,h2,al,hj=>by
  rw[hV] at e
  cases j with
  | zero =>
   have:af.eqv x y=false:=hj;rw[this,if_neg (!2)] at e;exact⟨r,e⟩
  | succ j =>
   have:af.eqv x y=true:=al 0 (Nat.succ_pos _);rw[this,if_pos rfl] at e;exact pd xs ys j r e (bW h1) (bW h2) (λi hi=>al (i+1) (Nat.succ_lt_succ hi)) hj
theorem gQ:∀{vs:List ag} {xs:List af} {as:List Addr},ReadsAll h vs xs as->∀{j:Nat} (hj:j<vs.length),∃bs,Reads h vs[j] (xs.getD j .none) bs
 | _::_,_::_,_,.cons r rs,j,hj=>by
  cases j with
  | zero=>exact⟨_,r⟩
  | succ j=>exact gQ rs (bW hj)
theorem rQ:∀{xs:List af} {j:Nat},j<xs.length->(xs.getD j .none).depth<=af.depthAll xs
 | x::xs,0,_=>by simp only[af.depthAll,List.getD_cons_zero];omega
 | x::xs,j+1,h=>by
  have:=rQ (xs:=xs) (j:=j) (bW h);simp only[af.depthAll,List.getD_cons_succ];omega
theorem rR:∀{xs:List af} {j:Nat},af.canLayAll0 xs=true->j<xs.length->(xs.getD j .none).canLay0=true
 | x::xs,0,h,_=>by simp only[af.canLayAll0,bo] at h;exact h.1
 | x::xs,j+1,h,hj=>by simp only[af.canLayAll0,bo] at h;exact rR (xs:=xs) (j:=j) h.2 (bW hj)
theorem pf (e f:Nat->Bool)(fin:Bool):∀l:List Nat,jm e f fin (l.map (· + 1))=jm (λi=>e (i+1)) (λi=>f (i+1)) fin l
 | []=>rfl
 | i::l=>by rw[ak,jm,jm,pf e f fin l]
theorem Mi (l b:Addr)(xs ys:Array ag)(n m:Nat)(d1 d2:Option Addr)(s1 s2:Array (Option ag))(e f:Nat->Bool) :
  Meets (Builtin.«tuple.__lt__» ⟨[.ref l,.ref b],[]⟩) (λA R s=>s.heap.get? l=some { cls:=.type "tuple",dict:=d1,data:=.seq xs n,slots:=s1 }/\s.heap.get? b=some { cls:=.type "tuple",dict:=d2,data:=.seq ys m,slots:=s2 } /\
    (∀j (h1:j<xs.size) (h2:j<ys.size),SeqAt.EqAt A.in1 s xs[j] ys[j] (e j))/\(∀j (h1:j<xs.size) (h2:j<ys.size),(∀i<j,e i=true)->e j=false->nG .Lt A.in1 s xs[j] ys[j] (f j)) /\
    R (.ok (.ret (.bool (jm e f (decide (xs.size<ys.size)) (List.range (min xs.size ys.size)))))) s) :=
 .of_wp λprog w A R s h=>by
  obtain⟨hp,g,d,tk,os⟩:=s;obtain⟨gl,gb,he,hf,h⟩:=h;have sub:=AutoSeq1.sub_tuple_tuple;have zl:(xs.toList.zip ys.toList).length=min xs.size ys.size:=by simp
  wp_walk using AutoSeq1.wpAny_loadPart' gl,AutoSeq1.wpAny_loadPart' gb,wpAny_forIn_list _ (λleft b s'=>b.1=none/\s'=⟨hp,g,d,tk,os⟩/\∃i,left=(xs.toList.zip ys.toList).drop i/\(∀k<i,e k=true)/\R (.ok (.ret (.bool (jm e f (decide (xs.size<ys.size)) ((List.range (min xs.size ys.size)).drop i))))) ⟨hp,g,d,tk,os⟩) _
  case turn =>
   rintro⟨y,x⟩ left b s' ⟨nb,rfl,i,ez,al,rr⟩;have il:i<(xs.toList.zip ys.toList).length:=Nat.lt_of_not_le λq=>by rw[bC q] at ez;cases ez
   have im:i<min xs.size ys.size:=zl ▸ il;have i1:i<xs.size:=by omega
   have i2:i<ys.size:=by omega
   rw[bv il] at ez;injection ez with ep er;obtain rfl:y=xs[i]:=by simpa using congrArg Prod.fst ep
   obtain rfl:x=ys[i]:=by simpa using congrArg Prod.snd ep
   rw[show (List.range (min xs.size ys.size)).drop i=i::(List.range (min xs.size ys.size)).drop (i+1) by simp[bv,im],jm] at rr;refine ae (he i i1 i2 prog w _ _ ?_)
   cases ei:e i with
   | true =>
    rw[ei,if_pos rfl] at rr
    wp_walk
    exact⟨rfl,rfl,i+1,er,λk hk=>(ce k i).elim (al k) λq=>by rw[show k=i by omega];exact ei,rr⟩
   | false =>
    rw[ei,if_neg (!2)] at rr;have hc:=hf i i1 i2 al ei prog w
    wp_walk using hc _ _
    exact⟨_,rfl,by simpa using rr⟩
  case fin =>
   rintro⟨b1,b2⟩ s' ⟨nb,rfl,i,ez,_,rr⟩;simp only at nb;subst nb;have ge:min xs.size ys.size<=i:=Nat.le_of_not_lt λq=>by rw[bv (zl.symm ▸ q)] at ez;cases ez
   rw[bC (by simpa using ge),jm] at rr
   wp_walk
   exact⟨_,rfl,by simpa [Builtin.Tuple.tupleCompareSizes] using rr⟩
  case h=>exact⟨rfl,rfl,0,!4,!4,by simpa using h⟩
theorem nG.HV (hl:s.heap.IsTuple l xs)(hb:s.heap.IsTuple b ys)(hu:A.units<cLine)(he:∀j (h1:j<xs.size) (h2:j<ys.size),SeqAt.EqAt A.in1 s xs[j] ys[j] (e j))
  (hf:∀j (h1:j<xs.size) (h2:j<ys.size),(∀i<j,e i=true)->e j=false->nG .Lt A.in1 s xs[j] ys[j] (f j)):nG .Lt A s (.ref l) (.ref b) (jm e f (decide (xs.size<ys.size)) (List.range (min xs.size ys.size))):=λprog w E Q h=>by
 obtain⟨⟨c1,d1,data,s1⟩,ho,hc,n,hd⟩:=id hl;obtain⟨⟨c2,d2,data2,s2⟩,B3,AK,n2,wW⟩:=id hb;simp only at hc hd AK wW;subst hc hd AK wW;exact richCompare_meets_room (op:=.Lt) ⟨_,ho,rfl⟩ ⟨_,B3,rfl⟩ F.slot_tuple_lt F.entry_tuple_lt (F.args_tuple_lt_2 _ _) (Mi l b xs ys n n2 d1 d2 s1 s2 e f) ⟨ho,B3,he,hf,show ag.bool _≠ag.notImplemented/\Q (.bool _) s from ⟨(λx=>nomatch x),h⟩⟩ hu
theorem lex_lt:∀(xs ys:List af) (r:Bool),hV false xs ys=some r->jm (SeqAt.pairEq xs ys) (λj=>(gn false (xs.getD j .none) (ys.getD j .none)).getD false) (decide (xs.length<ys.length)) (List.range (min xs.length ys.length))=r
 | [],[],r,e=>by cases e;rfl
 | [],y::ys,r,e=>by cases e;simp[jm]
 | x::xs,[],r,e=>by cases e;simp[jm]
 | x::xs,y::ys,r,e=>by
  rw[hV] at e;rw[ap,ap,Nat.succ_min_succ,List.range_succ_eq_map,jm]
  cases q:af.eqv x y with
  | true =>
   rw[q,if_pos rfl] at e;rw[if_pos (show SeqAt.pairEq (x::xs) (y::ys) 0=true from q)];have:=lex_lt xs ys r e;rw[show List.map Nat.succ=List.map (· + 1) from rfl,pf,show decide (xs.length+1<ys.length+1)=decide (xs.length<ys.length) by simp];exact this
  | false =>
   rw[q,if_neg (!2)] at e;rw[if_neg (by rw[show SeqAt.pairEq (x::xs) (y::ys) 0=false from q];decide)];simp only[List.getD_cons_zero,e,cv]
theorem JO:∀(N:Nat) (da db:af) (r:Bool) (A:Around) (s:aw) (a b:ag) (as bs:List Addr),da.depth<=N->Reads s.heap a da as->Reads s.heap b db bs->da.canLay0=true->db.canLay0=true->A.units+N<cLine->gn false da db=some r->nG .Lt A s a b r:=by
 intro N
 induction N with
 | zero =>
  intro da db r A s a b as bs hN ra rb ha hb hu e
  cases ra with
  | int i t =>
   cases rb with
   | int j u =>
    cases e;exact λprog w E Q h=>richCompare_gives (op:=.Lt) (typeIs_int s _ t) (typeIs_int s _ u) F.slot_int_lt F.entry_int_lt (F.args_int_lt_2 _ _) (gives_int_lt _ _ t u) (λx=>nomatch x) h
   | _=>simp[gn] at e
  | tuple=>simp[af.depth] at hN
  | _=>simp[gn] at e
 | succ N ih =>
  intro da db r A s a b as bs hN ra rb ha hb hu e
  cases ra with
  | int i t =>
   cases rb with
   | int j u =>
    cases e;exact λprog w E Q h=>richCompare_gives (op:=.Lt) (typeIs_int s _ t) (typeIs_int s _ u) F.slot_int_lt F.entry_int_lt (F.args_int_lt_2 _ _) (gives_int_lt _ _ t u) (λx=>nomatch x) h
   | _=>simp[gn] at e
  | @tuple l o vs n xs Pq h1 h2 h3 h4 =>
   cases rb with
   | @tuple l' o' ws n' ys Pr k1 k2 k3 k4 =>
    have n1:vs.size=xs.length:=by simpa using SeqAt.ReadsAll.length _ _ _ h4
    have n2:ws.size=ys.length:=by simpa using SeqAt.ReadsAll.length _ _ _ k4
    simp only[af.depth] at hN;simp only[gn] at e
    have he:∀j (j1:j<vs.size) (j2:j<ws.size),SeqAt.EqAt A.in1 s vs[j] ws[j] (SeqAt.pairEq xs ys j):=λj j1 j2=>by
     have LY:A.in1.units+min (af.depthAll xs) (af.depthAll ys)<cLine:=by show A.units+1+_<_;omega
     have q:=SeqAt.eqAt_readsAll xs ys A.in1 s vs.toList ws.toList _ _ h4 k4 ha hb LY j (by simpa using j1) (by simpa using j2);rw[bQ,bQ] at q;exact q
    have hf:∀j (j1:j<vs.size) (j2:j<ws.size),(∀i<j,SeqAt.pairEq xs ys i=true)->SeqAt.pairEq xs ys j=false->nG .Lt A.in1 s vs[j] ws[j] ((gn false (xs.getD j .none) (ys.getD j .none)).getD false):=λj j1 j2 al hj=>by
     obtain⟨q,hq⟩:=pd xs ys j r e (!1) (!1) al hj;obtain⟨R9,r1⟩:=gQ h4 (j:=j) (by simpa using j1);obtain⟨R',r2⟩:=gQ k4 (j:=j) (by simpa using j2);rw[hq];have d1:=rQ (xs:=xs) (j:=j) (!1);have q2:=ih _ _ q A.in1 s _ _ R9 R' (!1) r1 r2 (rR ha (!1)) (rR hb (!1)) (by show A.units+1+_<_;omega) hq;rw[bQ,bQ] at q2;exact q2
    have:=nG.HV ⟨_,h1,h2,_,h3⟩ ⟨_,k1,k2,_,k3⟩ (show A.units<cLine by omega) he hf;rw[n1,n2,lex_lt xs ys r e] at this;exact this
   | _=>simp[gn] at e
  | _=>simp[gn] at e
theorem Mj (l b:Addr)(xs ys:Array ag)(n m:Nat)(d1 d2:Option Addr)(s1 s2:Array (Option ag))(e f:Nat->Bool) :
  Meets (Builtin.«tuple.__gt__» ⟨[.ref l,.ref b],[]⟩) (λA R s=>s.heap.get? l=some { cls:=.type "tuple",dict:=d1,data:=.seq xs n,slots:=s1 }/\s.heap.get? b=some { cls:=.type "tuple",dict:=d2,data:=.seq ys m,slots:=s2 } /\
    (∀j (h1:j<xs.size) (h2:j<ys.size),SeqAt.EqAt A.in1 s xs[j] ys[j] (e j))/\(∀j (h1:j<xs.size) (h2:j<ys.size),(∀i<j,e i=true)->e j=false->nG .Gt A.in1 s xs[j] ys[j] (f j)) /\
    R (.ok (.ret (.bool (jm e f (decide (xs.size > ys.size)) (List.range (min xs.size ys.size)))))) s) :=
 .of_wp λprog w A R s h=>by
  obtain⟨hp,g,d,tk,os⟩:=s;obtain⟨gl,gb,he,hf,h⟩:=h;have sub:=AutoSeq1.sub_tuple_tuple;have zl:(xs.toList.zip ys.toList).length=min xs.size ys.size:=by simp
  wp_walk using AutoSeq1.wpAny_loadPart' gl,AutoSeq1.wpAny_loadPart' gb,wpAny_forIn_list _ (λleft b s'=>b.1=none/\s'=⟨hp,g,d,tk,os⟩/\∃i,left=(xs.toList.zip ys.toList).drop i/\(∀k<i,e k=true)/\R (.ok (.ret (.bool (jm e f (decide (xs.size > ys.size)) ((List.range (min xs.size ys.size)).drop i))))) ⟨hp,g,d,tk,os⟩) _
  case turn =>
   rintro⟨y,x⟩ left b s' ⟨nb,rfl,i,ez,al,rr⟩;have il:i<(xs.toList.zip ys.toList).length:=Nat.lt_of_not_le λq=>by rw[bC q] at ez;cases ez
   have im:i<min xs.size ys.size:=zl ▸ il;have i1:i<xs.size:=by omega
   have i2:i<ys.size:=by omega
   rw[bv il] at ez;injection ez with ep er;obtain rfl:y=xs[i]:=by simpa using congrArg Prod.fst ep
   obtain rfl:x=ys[i]:=by simpa using congrArg Prod.snd ep
   rw[show (List.range (min xs.size ys.size)).drop i=i::(List.range (min xs.size ys.size)).drop (i+1) by simp[bv,im],jm] at rr;refine ae (he i i1 i2 prog w _ _ ?_)
   cases ei:e i with
   | true =>
    rw[ei,if_pos rfl] at rr
    wp_walk
    exact⟨rfl,rfl,i+1,er,λk hk=>(ce k i).elim (al k) λq=>by rw[show k=i by omega];exact ei,rr⟩
   | false =>
    rw[ei,if_neg (!2)] at rr;have hc:=hf i i1 i2 al ei prog w
    wp_walk using hc _ _
    exact⟨_,rfl,by simpa using rr⟩
  case fin =>
   rintro⟨b1,b2⟩ s' ⟨nb,rfl,i,ez,_,rr⟩;simp only at nb;subst nb;have ge:min xs.size ys.size<=i:=Nat.le_of_not_lt λq=>by rw[bv (zl.symm ▸ q)] at ez;cases ez
   rw[bC (by simpa using ge),jm] at rr
   wp_walk
   exact⟨_,rfl,by simpa [Builtin.Tuple.tupleCompareSizes] using rr⟩
  case h=>exact⟨rfl,rfl,0,!4,!4,by simpa using h⟩
theorem nG.HW (hl:s.heap.IsTuple l xs)(hb:s.heap.IsTuple b ys)(hu:A.units<cLine)(he:∀j (h1:j<xs.size) (h2:j<ys.size),SeqAt.EqAt A.in1 s xs[j] ys[j] (e j))
  (hf:∀j (h1:j<xs.size) (h2:j<ys.size),(∀i<j,e i=true)->e j=false->nG .Gt A.in1 s xs[j] ys[j] (f j)):nG .Gt A s (.ref l) (.ref b) (jm e f (decide (xs.size > ys.size)) (List.range (min xs.size ys.size))):=λprog w E Q h=>by
 obtain⟨⟨c1,d1,data,s1⟩,ho,hc,n,hd⟩:=id hl;obtain⟨⟨c2,d2,data2,s2⟩,B3,AK,n2,wW⟩:=id hb;simp only at hc hd AK wW;subst hc hd AK wW;exact richCompare_meets_room (op:=.Gt) ⟨_,ho,rfl⟩ ⟨_,B3,rfl⟩ F.slot_tuple_gt F.entry_tuple_gt (F.args_tuple_gt_2 _ _) (Mj l b xs ys n n2 d1 d2 s1 s2 e f) ⟨ho,B3,he,hf,show ag.bool _≠ag.notImplemented/\Q (.bool _) s from ⟨(λx=>nomatch x),h⟩⟩ hu
theorem E2:∀(xs ys:List af) (r:Bool),hV true xs ys=some r->jm (SeqAt.pairEq xs ys) (λj=>(gn true (xs.getD j .none) (ys.getD j .none)).getD false) (decide (xs.length > ys.length)) (List.range (min xs.length ys.length))=r
 | [],[],r,e=>by cases e;rfl
 | [],y::ys,r,e=>by cases e;simp[jm]
 | x::xs,[],r,e=>by cases e;simp[jm]
 | x::xs,y::ys,r,e=>by
  rw[hV] at e;rw[ap,ap,Nat.succ_min_succ,List.range_succ_eq_map,jm]
  cases q:af.eqv x y with
  | true =>
   rw[q,if_pos rfl] at e;rw[if_pos (show SeqAt.pairEq (x::xs) (y::ys) 0=true from q)];have:=E2 xs ys r e;rw[show List.map Nat.succ=List.map (· + 1) from rfl,pf,show decide (xs.length+1 > ys.length+1)=decide (xs.length > ys.length) by simp];exact this
  | false =>
   rw[q,if_neg (!2)] at e;rw[if_neg (by rw[show SeqAt.pairEq (x::xs) (y::ys) 0=false from q];decide)];simp only[List.getD_cons_zero,e,cv]
theorem Pt:∀(N:Nat) (da db:af) (r:Bool) (A:Around) (s:aw) (a b:ag) (as bs:List Addr),da.depth<=N->Reads s.heap a da as->Reads s.heap b db bs->da.canLay0=true->db.canLay0=true->A.units+N<cLine->gn true da db=some r->nG .Gt A s a b r:=by
 intro N
 induction N with
 | zero =>
  intro da db r A s a b as bs hN ra rb ha hb hu e
  cases ra with
  | int i t =>
   cases rb with
   | int j u =>
    cases e;exact λprog w E Q h=>richCompare_gives (op:=.Gt) (typeIs_int s _ t) (typeIs_int s _ u) F.slot_int_gt F.entry_int_gt (F.args_int_gt_2 _ _) (gives_int_gt _ _ t u) (λx=>nomatch x) h
   | _=>simp[gn] at e
  | tuple=>simp[af.depth] at hN
  | _=>simp[gn] at e
 | succ N ih =>
  intro da db r A s a b as bs hN ra rb ha hb hu e
  cases ra with
  | int i t =>
   cases rb with
   | int j u =>
    cases e;exact λprog w E Q h=>richCompare_gives (op:=.Gt) (typeIs_int s _ t) (typeIs_int s _ u) F.slot_int_gt F.entry_int_gt (F.args_int_gt_2 _ _) (gives_int_gt _ _ t u) (λx=>nomatch x) h
   | _=>simp[gn] at e
  | @tuple l o vs n xs Pq h1 h2 h3 h4 =>
   cases rb with
   | @tuple l' o' ws n' ys Pr k1 k2 k3 k4 =>
    have n1:vs.size=xs.length:=by simpa using SeqAt.ReadsAll.length _ _ _ h4
    have n2:ws.size=ys.length:=by simpa using SeqAt.ReadsAll.length _ _ _ k4
    simp only[af.depth] at hN;simp only[gn] at e
    have he:∀j (j1:j<vs.size) (j2:j<ws.size),SeqAt.EqAt A.in1 s vs[j] ws[j] (SeqAt.pairEq xs ys j):=λj j1 j2=>by
     have LY:A.in1.units+min (af.depthAll xs) (af.depthAll ys)<cLine:=by show A.units+1+_<_;omega
     have q:=SeqAt.eqAt_readsAll xs ys A.in1 s vs.toList ws.toList _ _ h4 k4 ha hb LY j (by simpa using j1) (by simpa using j2);rw[bQ,bQ] at q;exact q
    have hf:∀j (j1:j<vs.size) (j2:j<ws.size),(∀i<j,SeqAt.pairEq xs ys i=true)->SeqAt.pairEq xs ys j=false->nG .Gt A.in1 s vs[j] ws[j] ((gn true (xs.getD j .none) (ys.getD j .none)).getD false):=λj j1 j2 al hj=>by
     obtain⟨q,hq⟩:=pd xs ys j r e (!1) (!1) al hj;obtain⟨R9,r1⟩:=gQ h4 (j:=j) (by simpa using j1);obtain⟨R',r2⟩:=gQ k4 (j:=j) (by simpa using j2);rw[hq];have d1:=rQ (xs:=xs) (j:=j) (!1);have q2:=ih _ _ q A.in1 s _ _ R9 R' (!1) r1 r2 (rR ha (!1)) (rR hb (!1)) (by show A.units+1+_<_;omega) hq;rw[bQ,bQ] at q2;exact q2
    have:=nG.HW ⟨_,h1,h2,_,h3⟩ ⟨_,k1,k2,_,k3⟩ (show A.units<cLine by omega) he hf;rw[n1,n2,E2 xs ys r e] at this;exact this
   | _=>simp[gn] at e
  | _=>simp[gn] at e
noncomputable def iJ (g:Bool):af->List af->af
 | b,[]=>b
 | b,d::ds=>iJ g (if (gn g d b).getD false=true then d else b) ds
theorem rS (g:Bool)(x:af):∀(b:af) (l:List af),iJ g b (l++[x])=if (gn g x (iJ g b l)).getD false=true then x else iJ g b l
 | b,[]=>rfl
 | b,d::l=>by rw[aV,iJ,iJ,rS g x _ l]
noncomputable def v3 (g:Bool)(ds:List af):Prop:=∀x∈ds,(x.canLay0=true/\x.depth<=50)/\∀y∈ds,(gn g x y).isSome=true
open Classical in
noncomputable def rT (g:Bool)(as:List af):Option af:=match as with | [.list (d::ds)]=>if v3 g (d::ds) then some (iJ g d ds) else none | _=>none
noncomputable abbrev ya:=rT false
noncomputable def Dh (g:Bool)(L:List af)(i j:Nat):Bool:=(gn g (L.getD i .none) (L.getD j .none)).getD false
theorem v5 (g:Bool)(d:af)(ds:List af):∀k,k<=ds.length->(d::ds).getD (argBest (Dh g (d::ds)) k) .none=iJ g d (ds.take k)
 | 0,_=>rfl
 | k+1,h=>by
  have ih:=v5 g d ds k (!1);have hk:k<ds.length:=h;rw[argBest,List.take_succ_eq_append_getElem hk,rS,<- ih]
  have e:Dh g (d::ds) (k+1) (argBest (Dh g (d::ds)) k)=(gn g ds[k] ((d::ds).getD (argBest (Dh g (d::ds)) k) .none)).getD false:=by
   unfold Dh;simp[az,hk]
  rw[e];split
  .simp[az,hk]
  .rfl
theorem dm.Sa:∀{ds:List af} {xs:List V} {us:List ag},dm S H ds xs->dQ xs us->∀(j:Nat) (hj:j<us.length),∃v,dR S H (ds.getD j .none) v/\RelV v us[j]
 | [],_,us,r,q,j,hj=>by
  cases r.eN;cases q;exact absurd hj (de _)
 | d::ds,_,us,r,q,j,hj=>by
  obtain⟨x,t,rfl,h1,h2⟩:=r.of_cons
  cases q with
  | cons q1 q2 =>
   cases j with
   | zero=>exact⟨_,h1,q1⟩
   | succ j=>exact dm.Sa h2 q2 j (bW hj)
theorem nH:∀{ds:List af},(∀x∈ds,x.canLay0=true)->af.canLayAll0 ds=true
 | [],_=>rfl
 | d::ds,h=>by rw[af.canLayAll0,h d (aq ..),nH λx hx=>h x (ai _ hx)];rfl
section
theorem Ab (g:Bool)(hc:X.calm=true)(hu:X.A.units+64<cLine):ff X (.builtin (if g then "max" else "min")) (λxs H Q=>∃p ys S d ds,xs=[.ref p]/\fU X.K H p ys/\dm S H (d::ds) ys/\v3 g (d::ds)/\∀v,dR S H (iJ g d ds) v->Q v H):=by
 intro pins s σ H xs us Q I r h;obtain⟨p,ys,S,d,ds,rfl,hp,hr,CG,q⟩:=h;obtain⟨u,rfl,ru⟩:=vals1 r;cases ru;obtain⟨its,rv,ht,hz⟩:=I.list hp;have hlen:its.length=(d::ds).length:=by rw[<- rv.length,hr.length]
 have yX:af.canLayAll0 (d::ds)=true:=nH λx hx=>(CG x hx).1.1
 have qc:∀i,i<its.length->(d::ds).getD i .none∈d::ds:=λi hi=>by
  rw[az,aJ (!1),cv];exact cg _
 have Pu:∀op:CmpOp,(∀(a b:af) (r:Bool) (A:Around) (s:aw) (u v:ag) (as bs:List Addr),a.depth<=50->Reads s.heap u a as->Reads s.heap v b bs->a.canLay0=true->b.canLay0=true->A.units+50<cLine->gn g a b=some r->nG op A s u v r) ->
   uP X.prog X.w X.A.in1 s.heap op (λi v=>its.toArray[i]? = some v) (Dh g (d::ds)):=λop VE i j u v s' Q' E' held hi hj hq=>by
  have hi:its.toArray[i]? = some u:=hi;have hj:its.toArray[j]? = some v:=hj;rw[cc] at hi hj;obtain⟨as,ra⟩:=dm.reads (I.kept (h':=s'.heap) (t':=s.toks) held).hok yX hr rv;obtain⟨i1,rfl⟩:=aD.mp hi;obtain⟨j1,rfl⟩:=aD.mp hj;obtain⟨Sb,r1⟩:=gQ ra i1;obtain⟨Sd,r2⟩:=gQ ra j1;have mi:=qc i i1;have mj:=qc j j1;obtain⟨r,hr⟩:=bE.mp ((CG _ mi).2 _ mj);have e:Dh g (d::ds) i j=r:=by unfold Dh;rw[hr];rfl
  rw[e] at hq;exact VE _ _ r X.A.in1 s' _ _ Sb Sd (CG _ mi).1.2 r1 r2 (CG _ mi).1.1 (CG _ mj).1.1 (by show X.A.units+1+50<_;omega) hr X.prog X.w E' Q' hq
 have fin:∀(v:ag) (h1:Heap) (tk:Nat),its.toArray[argBest (Dh g (d::ds)) (its.toArray.size - 1)]? = some v->g7 s.heap h1->EP X pins σ Q v { s with heap:=h1,toks:=tk }:=λv h1 tk hv held=>by
  rw[cc] at hv;obtain⟨k1,rfl⟩:=aD.mp hv;obtain⟨x,rx,lj⟩:=hr.Sa rv _ k1;have hs:its.toArray.size - 1=ds.length:=by rw[aC,hlen,ap];omega
  rw[hs,v5 g d ds ds.length (ao _),cW] at rx;exact⟨x,H,I.kept held,lj,q x rx⟩
 have iy:0<its.toArray.size:=by rw[aC,hlen,ap];omega
 cases g with
 | true=>exact Mh (I.ok.hd hc) ht.isList iy (Pu .Gt λa b r A s u v as bs=>Pt 50 a b r A s u v as bs) fin
 | false=>exact Mf (I.ok.hd hc) ht.isList iy (Pu .Lt λa b r A s u v as bs=>JO 50 a b r A s u v as bs) fin
theorem HX (g:Bool)(hc:X.calm=true)(hu:X.A.units+64<cLine):lu X (.builtin (if g then "max" else "min")) (rT g):=⟨_,Ab g hc hu,λgs S H as vs d R _ _ rs e k=>by
 unfold rT at e;split at e
 .rename_i d0 ds
  split at e
  .rename_i CG
   cases e;obtain⟨v,rfl,rl⟩:=rs.one;obtain⟨a,xs,rfl,sq,_,rr⟩:=rl.F9 (K:=X.K);exact⟨a,xs,S,d0,ds,rfl,sq,rr,CG,λv rv=>k v H rv (.refl _ _)⟩
  .cases e
 .cases e⟩
theorem E3 (hc:X.calm=true)(hu:X.A.units+64<cLine):lu X (.builtin "min") ya:=HX false hc hu
end
theorem RM (hr:f6 k A)(h:d<=k:=by decide):f6 d A:=hr.mono h
theorem nd (N:List Str)(h:N.Nodup:=by decide +kernel):N.Nodup:=h
theorem co (N:List Str)(s:Scope)(h:kH N s sc N' mp=true:=by decide +kernel):kH N s sc N' mp=true:=h
theorem Ql (h1:s.kind=.function:=by rfl)(h2:s.isCoroutine=false:=by rfl)(h3:s.isGenerator=false:=by rfl)(h4:N.Nodup:=by decide +kernel)(h5:N.take ps.length=ps:=by rfl)
  (h6:∀x∈ps,s.names.lookup x=some .local\/s.names.lookup x=some .cell:=by decide +kernel) (h7:∀y∈s.names,y.2≠.free:=by decide +kernel):e9 N ps s:=⟨h1,h2,h3,h4,h5,h6,h7⟩
theorem Pw (is:List Nat)(h:us=is.map g6:=by rfl):∀u∈us,∀d env (Q:d9->Prop),u d env Q->∃dH,Q dH:=λu hu=>by
 subst h;obtain⟨i,_,rfl⟩:=aM.mp hu;exact O8
section
theorem oB (i:Nat)(hN:X.N.Nodup)(hx:Loc X.env.scope x:=by exact Or.inl rfl)(hi:X.N[i]? = some x:=by rfl)(hf:X.fn x=true\/X.env.scope.names.lookup x=some .local:=by (first | exact .inl rfl | exact .inr rfl | assumption))(hfd:i ∉ M.fd:=by exact nf _ _ rfl):KG X M (.Name x pos) (g6 i):=Vy hN hx hi hf hfd
theorem gh (i:Nat)(hN:X.N.Nodup)(h:KE X M e ue)(hx:Loc X.env.scope x:=by exact Or.inl rfl)(hi:X.N[i]? = some x:=by rfl)(hs:swapsWith e (some (.Name x fZ)) pos.line X.env=pure false:=by rfl)
  (hf:X.fn x=true\/X.env.scope.names.lookup x=some .local:=by (first | exact .inl rfl | exact .inr rfl | assumption)) (hfd:i ∉ M.fd:=by exact nf _ _ rfl):KS X M (.Assign [.Name x fZ] e pos) (dW i ue):=Pd hN hx h hi hs hf hfd
theorem E4 (i:Nat)(hN:X.N.Nodup)(h:KN X M e un)(hx:Loc X.env.scope x:=by exact Or.inl rfl)(hi:X.N[i]? = some x:=by rfl)(hs:swapsWith e (some (.Name x fZ)) pos.line X.env=pure false:=by rfl)
  (hf:X.fn x=true\/X.env.scope.names.lookup x=some .local:=by (first | exact .inl rfl | exact .inr rfl | assumption)) (hfd:i ∉ M.fd:=by exact nf _ _ rfl):KS X M (.Assign [.Name x fZ] e pos) (rL i un):=Pe hN hx h hi hs hf hfd
end
structure FM (K:W.Frag) (mg:Str->Option ag) (x:Str) (st:Stmt):Prop where
 ex:∃f fd,wZ K x x st f fd/\mg x=some (.ref f)
structure JP (K:W.Frag) (x:Str) (st:Stmt):Prop where
 ex:∃f fd,wZ K x x st f fd/\W.nsIn K be x=some (some (.ref f))
theorem JP.of {K:W.Frag}{x:Str}{st:Stmt}{f:Addr}{oc:ag}{od an:Option Addr}{Dc:Array (Option ag)}{kV sX pm eS ct:ag}(a:W.nsIn K be x=some (some (.ref f)))(l:K.lookup f=some ⟨oc,od,.func (W.fnOf x x (jC st) (fC st) (dn st) .none kV sX pm an eS ct),Dc⟩)
  (c:W.codeIn K eS x=true) (k:W.keepIn K (.ref f)=true):JP K x st:=⟨f,_,DN l c k,a⟩
theorem JP.m {K:W.Frag}{x:Str}{st:Stmt}{h:Heap}{mg:Str->Option ag}(a:JP K x st)(X:K.In h)(G:h.Ns be mg):FM K mg x st :=
 let ⟨f,fd,F,n⟩:=a.ex;⟨f,fd,F,W.mg_of X G n⟩
noncomputable def CH (K:W.Frag)(t:Nat->Stmt):List (Str × Nat)->Prop
 | []=>True
 | (x,i)::r=>JP K x (t i)/\CH K t r
theorem yb {K:W.Frag}{t:Nat->Stmt}:CH K t []:=trivial
theorem E5 {K:W.Frag}{t:Nat->Stmt}{x:Str}{i:Nat}{r:List (Str × Nat)}(h:JP K x (t i))(hr:CH K t r):CH K t ((x,i)::r):=⟨h,hr⟩
noncomputable def BD (x:Str)(st:Stmt)(ps:List Str):Prop:=∀(kV sX pm:ag) (an:Option Addr) (eS ct:ag) (us:List ag),us.length=ps.length->bindArgs (W.fnOf x x (jC st) (fC st) (dn st) .none kV sX pm an eS ct) ⟨us,[]⟩=pure (ps.zip us)
section
variable {P:a5}{w:World}{K:W.Frag}{mg:Str->Option ag}{base:Heap}{x:Str}{st:Stmt}{N ps:List Str}{k:Nat}{C:Xc}{Y:xQ}
theorem gp (u:US)(N:List Str)(F:FM K mg x st)
  (body:e9 N ps (dn st)->∀(f:Addr) (eS:ag) (A:Around) (outer:List Env) (s:aw) (H:Hp) (E:XK) (n0:Int) (S:List Addr) (has:∀a∈S,H a≠none),f6 k (A.deeper (envOfC x (dn st) s.heap.objs.size f eS))->(A.deeper (envOfC x (dn st) s.heap.objs.size f eS)).units+64<cLine->uG (nq vy P w K mg base N x (dn st) f eS A outer s H E).BS (Fr.pure C n0 S H has) (fC st) u)
  (sc:e9 N ps (dn st):=by exact Ql) (hb:BD x st ps:=by rw[999]) :
  dJ P w K mg base (k+1) x ps (o8 C (jH N.length ps.length λ_=>u)) :=
 let ⟨f,_,F,hm⟩:=F.ex;R1 (u:=λ_=>u) F hm sc (F.binds hb) λeS A outer s H E n0 S has hr=>body sc f eS A outer s H E n0 S has hr hr.units
theorem uQ (u:US)(N:List Str)(F:FM K mg x st)
  (body:e9 N ps (dn st)->∀(f:Addr) (eS:ag) (A:Around) (outer:List Env) (s:aw) (H:Hp) (E:XK) (fa sa:Addr) (n0:Int) (S:List Addr) (hf:Y.iT H fa sa n0) (hS:fa∈S) (has:∀a∈S,H a≠none),f6 k (A.deeper (envOfC x (dn st) s.heap.objs.size f eS))->(A.deeper (envOfC x (dn st) s.heap.objs.size f eS)).units+64<cLine ->
   uG (nq vy P w K mg base N x (dn st) f eS A outer s H E).BS (Fr.feed C Y 0 fa sa n0 S H hf hS has) (fC st) u)
  (sc:e9 N ps (dn st):=by exact Ql) (hN:1<=N.length:=by decide) (hb:BD x st ps:=by rw[999]) :
  dJ P w K mg base (k+1) x ps (rM Y (gN N.length ps.length λ_=>u)) :=
 let ⟨f,_,F,hm⟩:=F.ex;R3 (u:=λ_=>u) F hm sc (F.binds hb) hN λeS A outer s H E fa sa n0 S hf hS has hr=>body sc f eS A outer s H E fa sa n0 S hf hS has hr hr.units
end
end L2
namespace PySem
open Sem (wp)
open PyProof.Rows Builtin Builtin.Frozenset
end PySem
namespace L2
open PySem PySem.Spec PyProof.Rows
open PySem.W (KasT kas_asc kas_desc kas_tail3 kas_descPart kas_count kas_place kas_bin kas_sort kas_rev kas_ask kas_item kat_run kat_snds KatTups KatLex KatGo kat_cons kat_nil kat_go kat_yes kat_no kat_one kat_lt kas_mapM kas_first_eq)
theorem dQ.at:∀{xs:List V} {us:List ag},dQ xs us->∀j,j<us.length->RelV (xs.getD j .gJ) (us.getD j ag.none)
 | _,[],_,j,hj=>absurd hj (de _)
 | _,u::us,q,j,hj=>by
  cases q with
  | cons q1 q2 =>
   cases j with
   | zero=>exact q1
   | succ j=>exact dQ.at q2 j (bW hj)
noncomputable abbrev fW:=List (List Int × af)
noncomputable def kN (t:Bool)(d:af):Option (List Int):=match t,d with | false,.int i=>some [i] | true,.tuple ds=>gO ds | _,_=>none
noncomputable def eB (kvs:fW)(k:List Int):Option af:=(kvs.find? λp=>decide (p.1=k)).map (·.2)
noncomputable def gR (kvs:fW)(k:List Int)(d:af):fW:=if (kvs.any λp=>decide (p.1=k))=true then kvs.map (λp=>if p.1=k then (p.1,d) else p) else kvs++[(k,d)]
section
variable {κ:Type}[DecidableEq κ]{S:List Addr}{H:Hp}{f:List Int->κ}
noncomputable def nI (f:List Int->κ):fW->List V->List (κ × V)
 | p::kvs,x::xs=>(f p.1,x)::nI f kvs xs
 | _,_=>[]
theorem qE (f:List Int->κ):∀{kvs:fW} {xs:List V},dm S H (kvs.map (·.2)) xs->(nI f kvs xs).length=kvs.length
 | [],_,r=>by cases r.eN;rfl
 | p::kvs,_,r=>by
  obtain⟨x,t,rfl,r1,r2⟩:=r.of_cons;rw[nI,ap,qE f r2,ap]
theorem oC:∀{kvs:fW} {xs:List V},dm S H (kvs.map (·.2)) xs->(∀p∈kvs,f p.1=f k->p.1=k)->(eB kvs k=none/\gM (nI f kvs xs) (f k)=none)\/∃d v,eB kvs k=some d/\gM (nI f kvs xs) (f k)=some v/\dR S H d v
 | [],_,r,_=>by cases r.eN;exact .inl ⟨rfl,rfl⟩
 | p::kvs,_,r,inj=>by
  obtain⟨x,t,rfl,r1,r2⟩:=r.of_cons;by_cases e:p.1=k
  .refine .inr ⟨p.2,x,?_,?_,r1⟩
   .unfold eB;rw[bD,decide_eq_true e];rfl
   .rw[nI,fE (by rw[e])]
  .have e2:¬ f p.1=f k:=λz=>e (inj p (aq ..) z)
   have ih:=oC r2 λq hq=>inj q (ai _ hq);have h1:eB (p::kvs) k=eB kvs k:=by unfold eB;rw[bD,decide_eq_false e]
   rw[h1,nI,fF (p:=(f p.1,x)) e2];exact ih
theorem Bt:∀{kvs:fW} {xs:List V},dm S H (kvs.map (·.2)) xs->(∀p∈kvs,f p.1=f k->p.1=k)->((nI f kvs xs).any λkv=>decide (kv.1=f k))=kvs.any λp=>decide (p.1=k)
 | [],_,r,_=>by cases r.eN;rfl
 | p::kvs,_,r,inj=>by
  obtain⟨x,t,rfl,r1,r2⟩:=r.of_cons;rw[nI,bR,bR,Bt r2 λq hq=>inj q (ai _ hq)];congr 1;rw[decide_eq_decide];exact⟨inj p (aq ..),λz=>by rw[z]⟩
theorem Bu (rv:dR S H d v):∀{kvs:fW} {xs:List V},dm S H (kvs.map (·.2)) xs->(∀p∈kvs,f p.1=f k->p.1=k) ->
  ∃ys,(nI f kvs xs).map (λkv=>if kv.1=f k then (kv.1,v) else kv)=nI f (kvs.map λp=>if p.1=k then (p.1,d) else p) ys/\dm S H ((kvs.map λp=>if p.1=k then (p.1,d) else p).map (·.2)) ys
 | [],_,r,_=>⟨[],by cases r.eN;rfl,.nil⟩
 | p::kvs,_,r,inj=>by
  obtain⟨x,t,rfl,r1,r2⟩:=r.of_cons;obtain⟨ys,h1,h2⟩:=Bu rv r2 λq hq=>inj q (ai _ hq);by_cases e:p.1=k
  .refine⟨v::ys,?_,?_⟩
   .rw[nI,ak,ak,h1,if_pos e,nI,if_pos (by rw[e])]
   .rw[ak,ak,if_pos e]
    exact .cons rv h2
  .have e2:¬ f p.1=f k:=λz=>e (inj p (aq ..) z)
   refine⟨x::ys,?_,?_⟩
   .rw[nI,ak,ak,h1,if_neg e,nI,if_neg e2]
   .rw[ak,ak,if_neg e]
    exact .cons r1 h2
theorem yd:∀{kvs:fW} {xs:List V} (d:af),dm S H (kvs.map (·.2)) xs->nI f kvs xs++[(f k,v)]=nI f (kvs++[(k,d)]) (xs++[v])
 | [],_,d,r=>by cases r.eN;rfl
 | p::kvs,_,d,r=>by
  obtain⟨x,t,rfl,r1,r2⟩:=r.of_cons;rw[nI,aV,yd d r2];rfl
theorem v7 (rv:dR S H d v)(r:dm S H (kvs.map (·.2)) xs)(inj:∀p∈kvs,f p.1=f k->p.1=k) :
  ∃ys,jj (nI f kvs xs) (f k) v=nI f (gR kvs k d) ys/\dm S H ((gR kvs k d).map (·.2)) ys:=by
 unfold jj gR;rw[Bt r inj];split
 .exact Bu rv r inj
 .refine⟨xs++[v],yd d r,?_⟩
  rw[aQ];exact r.append (.cons rv .nil)
end
theorem Ac:∀(kvs:fW) (xs:List V),F3 kvs xs=nI (λk=>(Sum.inl (k.headD 0):Key)) kvs xs
 | [],xs=>by cases xs<;>rfl
 | p::kvs,[]=>rfl
 | p::kvs,x::xs=>by rw[F3,nI,Ac kvs xs]
theorem lW:∀(kvs:fW) (xs:List V),sY kvs xs=nI (λk=>(k.map Sum.inl:List Key)) kvs xs
 | [],xs=>by cases xs<;>rfl
 | p::kvs,[]=>rfl
 | p::kvs,x::xs=>by rw[sY,nI,lW kvs xs]
theorem oD:∀{a b:List Int},(a.map Sum.inl:List Key)=b.map Sum.inl->a=b
 | [],[],_=>rfl
 | [],_::_,h=>by cases h
 | _::_,[],h=>by cases h
 | x::a,y::b,h=>by
  rw[ak,ak] at h;injection h with h1 h2;injection h1 with h1;rw[h1,oD h2]
theorem one_inj {a b:List Int}(ha:a.length=1)(hb:b.length=1)(h:(Sum.inl (a.headD 0):Key)=Sum.inl (b.headD 0)):a=b:=by
 match a,b,ha,hb with
 | [x],[y],_,_=>injection h with h;simpa using h
theorem oE {gs S:List Addr}{H:Hp}{t:Bool}{d:af}{v:V}{k:List Int}(r:eL gs S H d v)(e:kN t d=some k):(t=false->k.length=1) /\
  (∀(a:Addr) (kvs:fW) (xs:List V),H a=some (mY t kvs xs)->dm S H (kvs.map (·.2)) xs->(t=false->∀p∈kvs,p.1.length=1) ->
   ((eB kvs k=none/\iO H a v none)\/∃d v',eB kvs k=some d/\iO H a v (some v')/\dR S H d v') /\
   ∀(d':af) (v':V),dR S H d' v'->kvs.length<aA->∃ys,pZ H a v v' (d3 H a (mY t (gR kvs k d') ys))/\dm S H ((gR kvs k d').map (·.2)) ys):=by
 cases t with
 | false =>
  obtain⟨i,rfl⟩:∃i,d=.int i:=by
   cases d with
   | int i=>exact⟨i,rfl⟩
   | _=>cases e
  cases e;rw[r.d4];refine⟨λ_=>rfl,λa kvs xs ha rr hk=>?_⟩;have lx:H a=some (.dK (nI (λk=>(Sum.inl (k.headD 0):Key)) kvs xs)):=by rw[<- Ac];exact ha
  have inj:∀p∈kvs,(Sum.inl (p.1.headD 0):Key)=Sum.inl (([i]:List Int).headD 0)->p.1=[i]:=λp hp h=>one_inj (hk rfl p hp) rfl h;refine⟨?_,λd' v' rv hl=>?_⟩
  .have hg:iO H a (.int i) (gM (nI (λk=>(Sum.inl (k.headD 0):Key)) kvs xs) (Sum.inl i)):=iO.k (k:=Sum.inl i) lx
   rcases oC (f:=λk=>(Sum.inl (k.headD 0):Key)) (k:=[i]) rr inj with⟨h1,h2⟩ | ⟨d,v,h1,h2,h3⟩
   .have Se:gM (nI (λk=>(Sum.inl (k.headD 0):Key)) kvs xs) (Sum.inl i)=none:=h2
    rw[Se] at hg;exact .inl ⟨h1,hg⟩
   .have Se:gM (nI (λk=>(Sum.inl (k.headD 0):Key)) kvs xs) (Sum.inl i)=some v:=h2
    rw[Se] at hg;exact .inr ⟨d,v,h1,hg,h3⟩
  .obtain⟨ys,h1,h2⟩:=v7 (f:=λk=>(Sum.inl (k.headD 0):Key)) (k:=[i]) rv rr inj
   refine⟨ys,?_,h2⟩;have hp:=pZ.k (k:=Sum.inl i) (v:=v') lx (by rw[qE _ rr];exact hl);have VF:jj (nI (λk=>(Sum.inl (k.headD 0):Key)) kvs xs) (Sum.inl i) v'=nI (λk=>(Sum.inl (k.headD 0):Key)) (gR kvs [i] d') ys:=h1;rw[VF,<- Ac] at hp;exact hp
 | true =>
  obtain⟨ds,rfl⟩:∃ds,d=.tuple ds:=by
   cases d with
   | tuple ds=>exact⟨ds,rfl⟩
   | _=>cases e
  have e':ds=k.map .int:=fV e;subst e';obtain⟨b,ys,rfl,hb,rb⟩:=r.eQ;rw[fG rb] at hb;have y9:H b=some (.tup ((k.map (Sum.inl:Int->Key)).map kV)):=by rw[bx];exact hb
  refine⟨(λz=>by cases z),λa kvs xs ha rr hk=>?_⟩;have lx:H a=some (.dT (nI (λk=>(k.map Sum.inl:List Key)) kvs xs)):=by rw[<- lW];exact ha
  have inj:∀p∈kvs,(p.1.map Sum.inl:List Key)=k.map Sum.inl->p.1=k:=λp _ h=>oD h;refine⟨?_,λd' v' rv hl=>?_⟩
  .have hg:=iO.t lx y9
   rcases oC (f:=λk=>(k.map Sum.inl:List Key)) (k:=k) rr inj with⟨h1,h2⟩ | ⟨d,v,h1,h2,h3⟩
   .rw[h2] at hg
    exact .inl ⟨h1,hg⟩
   .rw[h2] at hg
    exact .inr ⟨d,v,h1,hg,h3⟩
  .obtain⟨ys,h1,h2⟩:=v7 (f:=λk=>(k.map Sum.inl:List Key)) (k:=k) rv rr inj
   refine⟨ys,?_,h2⟩;have hp:=pZ.t (v:=v') lx y9 (by rw[qE _ rr];exact hl);rw[h1,<- lW] at hp;exact hp
theorem Ext.ye (hp:p∈S)(h:H p=Option.some (mY t kvs xs)):Ext S H (d3 H p o) :=
 ⟨λb u hb e=>by rw[dC (λ(z:b=p)=>hb (by rw[z];exact hp))];exact e,λb ys e=>by rw[dC (λz=>by rw[z,h] at e;cases t<;>cases e)];exact e⟩
theorem Ext.Bv (a:Ext S H0 H)(h0:H0 p=none):Ext S H0 (d3 H p o) :=
 ⟨λb u hb e=>by rw[dC (λz=>by rw[z,h0] at e;cases e)];exact a.keep b u hb e,λb ys e=>by rw[dC (λz=>by rw[z,h0] at e;cases e)];exact a.tup b ys e⟩
noncomputable def HY (env:d9)(i:Nat)(a:Addr):Prop:=∀j t kvs,j≠i->env[j]? ≠ some (some (.d a t kvs))
section
theorem dA.Sf (ok:dA M env pn σ S H n)(h0:H a=none)(h1:H' a=some (mY t kvs xs))(r:dm (a::S) H' (kvs.map (·.2)) xs)(hk:t=false->∀p∈kvs,p.1.length=1)(x:Ext M.gs H H')(g:M.G H' n')(hi:i ∉ M.fd) :
  dA M (env.set i (some (.d a t kvs))) pn (σ.set i (some (.ref a))) (a::S) H' n':=by
 have hg:∀b∈M.gs,b∈a::S:=λb hb=>ai _ (ok.qA b hb);have jT:=ok.step x g;refine⟨λj e he=>?_,λj k ds es b h2 h3 h4 h5=>?_,by rw[aZ,aZ,ok.len],λj hj=>?_,g,jT.ext,λb hb=>ai _ (ok.s0 b hb),λb hb=>?_,λb hb=>?_,λp hp=>?_⟩
 .rcases dU he with⟨rfl,e1⟩ | ⟨ne,e1⟩
  .cases e1
   have:i<env.length:=by
    by_cases z:i<env.length
    .exact z
    .rw[bg (by rw[aZ];omega)] at he;cases he
   exact⟨.ref a,iz (by rw[<- ok.len];exact this),rfl,xs,h1,r,hk,aq ..,ok.anew h0⟩
  .obtain⟨v',hv,rv⟩:=ok.val j e e1
   exact⟨v',by rw[aN ne];exact hv,(rv.fresh h0).step hg x⟩
 .rcases dU h2 with⟨_,e1⟩ | ⟨n1,e1⟩
  .cases e1
  .rcases dU h3 with⟨_,e2⟩ | ⟨n2,e2⟩
   .cases e2
   .rw[aN n1] at h4
    rw[aN n2] at h5;exact ok.ne j k ds es b e1 e2 h4 h5
 .have:i≠j:=λz=>hi (z ▸ hj)
  rw[aN this];exact ok.xC j hj
 .rcases au.mp hb with z | z
  .rw[z];exact .inr (ok.anew h0)
  .exact ok.sn b z
 .rcases au.mp hb with z | z
  .rw[z,h1];simp
  .exact jT.has b z
 .exact ((ok.pin p hp).fresh h0).ext (x.mono hg)
theorem dA.only (ok:dA M env pn σ S H n)(h0:H a=none)(j:Nat)(t:Bool)(kvs:fW):env[j]? ≠ some (some (.d a t kvs)):=λz=>by
 obtain⟨v,_,_,xs,ha,_,_,hs,_⟩:=ok.val j _ z;exact ok.has a hs h0
theorem dA.putD (ok:dA M env pn σ S H n)(he:env[i]? = some (some (.d a t kvs)))(ho:HY env i a)(r:dm S H (kvs'.map (·.2)) ys)(hk:t=false->∀p∈kvs',p.1.length=1) :
  dA M (env.set i (some (.d a t kvs'))) pn σ S (d3 H a (mY t kvs' ys)) n:=by
 obtain⟨v',hv,rfl,xs,ha,_,_,hs,h0⟩:=ok.val i _ he;have x:Ext [a] H (d3 H a (mY t kvs' ys)):=.ye (!4) ha;have xS:Ext S H (d3 H a (mY t kvs' ys)):=x.mono (by simpa using hs);refine⟨λj e hj=>?_,λj k p8 g8 b h2 h3 h4 h5=>?_,by rw[aZ,ok.len],ok.xC,M.i9 ok.gd x (by simpa using h0),ok.ext.Bv h0,ok.s0,ok.sn,λb hb=>?_,λp hp=>(ok.pin p hp).ext xS⟩
 .rcases dU hj with⟨rfl,e1⟩ | ⟨ne,e1⟩
  .cases e1
   exact⟨_,hv,rfl,ys,dq,r.ext xS,hk,hs,h0⟩
  .obtain⟨w,hw,kF⟩:=ok.val j e e1
   refine⟨w,hw,?_⟩
   cases e with
   | s d=>exact dR.ext xS kF
   | o g8 =>
    obtain⟨b,zs,e2,hb,r2,ng,rG⟩:=kF;subst e2;exact⟨b,zs,rfl,by rw[dC (λz=>by rw[z,ha] at hb;exact mH hb.symm)];exact hb,r2.ext xS,ng,rG⟩
   | x c as =>
    obtain⟨b,dx,vs,e2,hb,hd,r2,g1,g2⟩:=kF;exact⟨b,dx,vs,e2,by rw[dC (λz=>by rw[z,ha] at hb;cases t<;>cases hb)];exact hb,by rw[dC (λz=>by rw[z,ha] at hd;cases t<;>cases hd)];exact hd,r2.ext xS,g1,g2⟩
   | d b t2 Px =>
    obtain⟨e2,zs,hb,r2,D5,ng,rG⟩:=kF;have Sg:b≠a:=λz=>ho j t2 Px (λz2=>ne z2.symm) (z ▸ e1);exact⟨e2,zs,by rw[dC Sg];exact hb,r2.ext xS,D5,ng,rG⟩
   | f b o Px zs =>
    obtain⟨e2,hb,r2,ng,rG⟩:=kF;exact⟨e2,by rw[dC (λz=>by rw[z,ha] at hb;cases t<;>cases hb)];exact hb,r2.ext xS,ng,rG⟩
 .rcases dU h2 with⟨_,e1⟩ | ⟨n1,e1⟩
  .cases e1
  .rcases dU h3 with⟨_,e2⟩ | ⟨n2,e2⟩
   .cases e2
   .exact ok.ne j k p8 g8 b e1 e2 h4 h5
 .by_cases z:b=a
  .rw[z,dq];simp
  .rw[dC z];exact ok.has b hb
end
theorem pN {X:Cx}(h:X.A.units+64<cLine):X.A.units+1<cLine:=by omega
noncomputable def pR (i:Nat)(uk uv:UX):US:=λE env n=>uv env n λd n1=>match env[i]? with | some (some (.d a t kvs))=>uk env n1 λk n2=>lq (kN t k) λkk=>(kvs.length<aA/\HY env i a)/\E.nx (env.set i (some (.d a t (gR kvs kk d)))) n2 | _=>False
noncomputable def yf (i:Nat)(uk:UX):UX:=λenv n Q=>match env[i]? with | some (some (.d a t kvs))=>uk env n λk n1=>lq (kN t k) λkk=>lq (eB kvs kk) λd=>Q d n1 | _=>False
noncomputable def Bw (i:Nat)(uk:UX):UX:=λenv n Q=>uk env n λk n1=>match env[i]? with | some (some (.d a t kvs))=>lq (kN t k) λkk=>Q (.bool (!(eB kvs kk).isSome)) n1 | _=>False
theorem HZ (hk:t=false->∀p∈kvs,p.1.length=1)(h1:t=false->k.length=1):t=false->∀p∈gR kvs k d,p.1.length=1:=λht p hp=>by
 unfold gR at hp;split at hp
 .obtain⟨q,hq,rfl⟩:=aM.mp hp
  split
  .exact hk ht q hq
  .exact hk ht q hq
 .rcases aY.mp hp with hp | hp
  .exact hk ht p hp
  .rw[am.mp hp];exact h1 ht
section
theorem E6 (i:Nat)(hu:X.A.units+1<cLine)(hk:KL X M ke uk)(hv:KE X M ve uv)(hN:X.N[i]? = some x:=by rfl)(H9:tf X.env.scope x:=by (first | exact Or.inl rfl | exact Or.inr (Or.inl rfl) | exact Or.inr (Or.inr rfl)))(hd:(x == ("__debug__" : Str))=false:=by decide)(jz:(x == ("__classdict__" : Str))=false:=by decide)
  (hs:swapsWith ve (some (.Subscript (.Name x p) ke fZ)) pos.line X.env=pure false:=by rfl):KS X M (.Assign [.Subscript (.Name x p) ke fZ] ve pos) (pR i uk uv):=.of (qy hu (qv i hN H9 hd jz) hk.run hv.run hs) λD σ H env pn S n E ok qd k1 k2=>by
 refine⟨env,pn,S,n,_,ok,qd,λv H1 d n1 r1 x1 g1 _ q=>?_⟩;have iR:=ok.step x1 g1;split at q
 .rename_i a t kvs he
  obtain⟨v0,JQ,rfl,xs,ha,rr,Hv,Mk,h0⟩:=iR.val i _ he;refine⟨_,JQ,env,pn,S,n1,_,iR,q,λy H3 kd n2 r2 x2 g2 _ q2=>?_⟩;obtain⟨kk,ek,⟨hl,ho⟩,q2⟩:=q2;have uI:=iR.step x2 g2;obtain⟨VG,Sh,e',pL,lx,Ml,CI,_,_⟩:=uI.val i _ he;obtain⟨h1,h2⟩:=oE r2 ek;obtain⟨ys,hp,hr⟩:=(h2 a kvs pL lx Ml CI).2 d v (r1.ext (x2.mono iR.qA)) hl;exact⟨a,_,rfl,hp,k1 _ _ _ _ _ (uI.putD he ho hr (HZ CI h1)) q2⟩
 .exact q.elim
theorem Mm (i:Nat)(hu:X.A.units+1<cLine)(hk:KL X M ke uk)(hN:X.N[i]? = some x:=by rfl)(H9:tf X.env.scope x:=by (first | exact Or.inl rfl | exact Or.inr (Or.inl rfl) | exact Or.inr (Or.inr rfl)))(hd:(x == ("__debug__" : Str))=false:=by decide)(jz:(x == ("__classdict__" : Str))=false:=by decide)
  (hs:Cf ke:=by exact λ_ _=>rfl):KE X M (.Subscript (.Name x p) ke pos) (yf i uk):=.of (mI hu (qv i hN H9 hd jz) hk.run hs) λσ H R env pn S n Q ok qd k=>by
 unfold yf at qd;split at qd
 .rename_i a t kvs he
  obtain⟨v0,JQ,rfl,xs,ha,rr,Hv,Mk,h0⟩:=ok.val i _ he;refine⟨_,JQ,env,pn,S,n,_,ok,qd,λy H1 kd n1 r1 x1 g1 _ q=>?_⟩;obtain⟨kk,ek,d,ed,q⟩:=q;have iR:=ok.step x1 g1;obtain⟨VG,Sh,e',pL,lx,Ml,CI,_,_⟩:=iR.val i _ he;rcases ((oE r1 ek).2 a kvs pL lx Ml CI).1 with⟨z,_⟩ | ⟨d',v',z,hg,hr⟩
  .rw[z] at ed;cases ed
  .rw[z] at ed
   cases ed;exact⟨a,v',rfl,hg,k v' H1 _ n1 hr x1 g1 q⟩
 .exact qd.elim
theorem Mn (i:Nat)(hu:X.A.units+1<cLine)(hk:KL X M ke uk)(hN:X.N[i]? = some x:=by rfl)(H9:tf X.env.scope x:=by (first | exact Or.inl rfl | exact Or.inr (Or.inl rfl) | exact Or.inr (Or.inr rfl)))(hd:(x == ("__debug__" : Str))=false:=by decide)(jz:(x == ("__classdict__" : Str))=false:=by decide)
  (hm:behindInMarks .NotIn (.Name x p)=false:=by first | exact ji _ | rfl):KB X M (.Compare ke [.NotIn] [.Name x p] pos) (dY (Bw i uk)):=.of (⟨zc (oX hu hk.run.run (qv i hN H9 hd jz).run) hm⟩:QT X _ _) λσ H R env pn S n Q ok qd k=>by
 refine⟨env,pn,S,n,_,ok,qd,λy H1 kd n1 r1 x1 g1 _ q=>?_⟩;have iR:=ok.step x1 g1;split at q
 .rename_i a t kvs he
  obtain⟨kk,ek,q⟩:=q;obtain⟨v0,JQ,rfl,pL,lx,Ml,CI,_,_⟩:=iR.val i _ he;rcases ((oE r1 ek).2 a kvs pL lx Ml CI).1 with⟨z,hg⟩ | ⟨d',v',z,hg,hr⟩
  .rw[z] at q
   exact⟨_,JQ,a,_,rfl,hg,_,rfl,k _ H1 n1 x1 g1 q⟩
  .rw[z] at q
   exact⟨_,JQ,a,_,rfl,hg,_,rfl,k _ H1 n1 x1 g1 q⟩
 .exact q.elim
end
noncomputable def oF (p:af × af):Option (List Int × af):=match p.1 with | .tuple ks=>(gO ks).map λk=>(k,p.2) | _=>none
noncomputable def Ia (d:af):Option (Bool × fW):=match d with | .dict ((.bool t,.none)::l)=>(l.mapM oF).map λkvs=>(t,kvs) | _=>none
theorem E7:∀kvs:fW,(kvs.map λp=>(af.tuple (p.1.map .int),p.2)).mapM oF=some kvs
 | []=>rfl
 | p::kvs=>by
  have e:oF (af.tuple (p.1.map .int),p.2)=some p:=by
   unfold oF;simp only[gD];rfl
  rw[ak,cQ,E7 kvs,e];rfl
theorem ph (t:Bool)(kvs:fW):Ia (eC t kvs)=some (t,kvs):=by
 unfold eC m8 Ia;simp only[E7,bJ]
theorem yg:∀{l:List (af × af)} {kvs:fW},l.mapM oF=some kvs->l=kvs.map λp=>(af.tuple (p.1.map .int),p.2)
 | [],kvs,h=>by cases h;rfl
 | p::l,kvs,h=>by
  rw[cQ] at h
  cases hp:oF p with
  | none=>rw[hp] at h;cases h
  | some q =>
   cases hl:l.mapM oF with
   | none=>rw[hp,hl] at h;cases h
   | some r =>
    rw[hp,hl] at h;cases h;rw[ak,<- yg hl];congr 1;unfold oF at hp;split at hp
    .rename_i ks he
     cases ha:gO ks with
     | none=>rw[ha] at hp;cases hp
     | some k =>
      rw[ha] at hp;cases hp;rw[<- fV ha];cases p;simp only at he;rw[he]
    .cases hp
theorem E8 (h:Ia d=some (t,kvs)):d=eC t kvs:=by
 unfold Ia at h;split at h
 .rename_i t' l
  cases hl:l.mapM oF with
  | none=>rw[hl] at h;cases h
  | some r =>
   rw[hl] at h;cases h;rw[eC,m8,<- yg hl]
 .cases h
theorem E9 (h:m8 t kvs=m8 t' kvs'):t=t'/\kvs=kvs':=by
 have h1:=ph t kvs;rw[eC,h,<- eC,ph] at h1;cases h1;exact⟨rfl,rfl⟩
theorem eL.JR (r:eL gs S H d v)(e:Ia d=some (t,kvs)):∃a xs,v=.ref a/\H a=some (mY t kvs xs)/\dm S H (kvs.map (·.2)) xs/\(t=false->∀p∈kvs,p.1.length=1):=by
 rw[E8 e] at r;obtain⟨a,t',kvs',xs,e1,e2,ha,hk,hr⟩:=eL.nv r;obtain⟨rfl,rfl⟩:=E9 e2;exact⟨a,xs,e1,ha,hr,hk⟩
noncomputable def lX (ud uk:UX):UX:=λenv n Q=>ud env n λd n1=>lq (Ia d) λtk=>uk env n1 λk n2=>lq (kN tk.1 k) λkk=>lq (eB tk.2 kk) λx=>Q x n2
noncomputable def v8 (uk ud:UX):UX:=λenv n Q=>uk env n λk n1=>ud env n1 λd n2=>lq (Ia d) λtk=>lq (kN tk.1 k) λkk=>Q (.bool (eB tk.2 kk).isSome) n2
noncomputable def yh (uk ud:UX):UX:=λenv n Q=>uk env n λk n1=>ud env n1 λd n2=>lq (Ia d) λtk=>lq (kN tk.1 k) λkk=>Q (.bool (!(eB tk.2 kk).isSome)) n2
section
variable {X:Cx}{M:Fr}{o e ke ve:Expr}{uk uv ud:UX}{pos fZ p p2:Pos}
theorem rV (hu:X.A.units+1<cLine)(ho:KL X M o ud)(hk:KL X M ke uk)(hs:Cf ke:=by exact λ_ _=>rfl):KE X M (.Subscript o ke pos) (lX ud uk):=.of (mI hu ho.run hk.run hs) λσ H R env pn S n Q ok qd k=>by
 refine⟨env,pn,S,n,_,ok,qd,λv H1 d n1 r1 x1 g1 _ q=>?_⟩;obtain⟨⟨t,kvs⟩,e,q⟩:=q;have iR:=ok.step x1 g1;refine⟨env,pn,S,n1,_,iR,q,λy H2 kd n2 r2 x2 g2 _ q2=>?_⟩;obtain⟨kk,ek,x,ex,q2⟩:=q2;obtain⟨a,xs,rfl,ha,rr,Hv⟩:=(r1.ext iR.qA x2).JR e;rcases ((oE r2 ek).2 a kvs xs ha rr Hv).1 with⟨z,_⟩ | ⟨d',v',z,hg,hr⟩
 .rw[z] at ex;cases ex
 .rw[z] at ex
  cases ex;exact⟨a,v',rfl,hg,k v' H2 _ n2 hr (x1.trans x2) g2 q2⟩
theorem Mo {σ:St}{H:Hp}{env:d9}{pn:List (af × V)}{S:List Addr}{n:Int}{Q:af->Int->Prop}{f:Bool->Bool}{R:Addr->Option V->V->Hp->Prop}(ok:dA M env pn σ S H n)
  (qd:uk env n λk n1=>ud env n1 λd n2=>lq (Ia d) λtk=>lq (kN tk.1 k) λkk=>Q (.bool (f (eB tk.2 kk).isSome)) n2)
  (k:∀a y ov H2 n2,iO H2 a y ov->Ext M.gs H H2->M.G H2 n2->Q (.bool (f ov.isSome)) n2->R a ov y H2) :
  xD M uk σ H λy H1=>xD M ud σ H1 λx H2=>∃a ov,x=.ref a/\iO H2 a y ov/\R a ov y H2 :=
 ⟨env,pn,S,n,_,ok,qd,λy H1 kd n1 r1 x1 g1 _ q=>⟨env,pn,S,n1,_,ok.step x1 g1,q,λv H2 d n2 r2 x2 g2 _ q2=>by
  obtain⟨⟨t,kvs⟩,e,kk,ek,q2⟩:=q2;obtain⟨a,xs,rfl,ha,rr,Hv⟩:=r2.JR e;rcases ((oE (r1.ext ok.qA x2) ek).2 a kvs xs ha rr Hv).1 with⟨z,hg⟩ | ⟨d',v',z,hg,hr⟩
  .rw[z] at q2
   exact⟨a,none,rfl,hg,k a y none H2 n2 hg (x1.trans x2) g2 q2⟩
  .rw[z] at q2
   exact⟨a,some v',rfl,hg,k a y (some v') H2 n2 hg (x1.trans x2) g2 q2⟩⟩⟩
theorem JS (hu:X.A.units+1<cLine)(hk:KL X M ke uk)(ho:KL X M o ud)(hm:behindInMarks .In o=false:=by first | exact ji _ | rfl):KE X M (.Compare ke [.In] [o] pos) (v8 uk ud):=.of (⟨Dn (D9 hu hk.run.run ho.run.run) hm⟩:QE X _ _) λσ H R env pn S n Q ok qd k =>
 Mo (f:=id) ok qd λa y ov H2 n2 hg x g q=>k _ H2 _ n2 (.bl _) x g q
theorem Fb (hu:X.A.units+1<cLine)(hk:KL X M ke uk)(ho:KL X M o ud)(hm:behindInMarks .In o=false:=by first | exact ji _ | rfl):KB X M (.Compare ke [.In] [o] pos) (dY (v8 uk ud)):=.of (⟨zc (D9 hu hk.run.run ho.run.run) hm⟩:QT X _ _) λσ H R env pn S n Q ok qd k =>
 Mo (f:=id) (Q:=λd n'=>O3 d λb=>Q b n') ok qd λa y ov H2 n2 hg x g q=>⟨_,rfl,k _ H2 n2 x g q⟩
theorem Mp (hu:X.A.units+1<cLine)(hk:KL X M ke uk)(ho:KL X M o ud)(hm:behindInMarks .NotIn o=false:=by first | exact ji _ | rfl):KE X M (.Compare ke [.NotIn] [o] pos) (yh uk ud):=.of (⟨Dn (oX hu hk.run.run ho.run.run) hm⟩:QE X _ _) λσ H R env pn S n Q ok qd k =>
 Mo (f:=not) ok qd λa y ov H2 n2 hg x g q=>k _ H2 _ n2 (.bl _) x g q
end
section
theorem dA.hold (ok:dA M env pn σ S H n){a:Addr}(h0:H a=none)(h1:H' a≠none)(x:Ext M.gs H H')(g:M.G H' n'):dA M env pn σ (a::S) H' n':=by
 have hg:∀b∈M.gs,b∈a::S:=λb hb=>ai _ (ok.qA b hb);have jT:=ok.step x g;refine⟨λj e he=>?_,ok.ne,ok.len,ok.xC,g,jT.ext,λb hb=>ai _ (ok.s0 b hb),λb hb=>?_,λb hb=>?_,λp hp=>((ok.pin p hp).fresh h0).ext (x.mono hg)⟩
 .obtain⟨v',hv,rv⟩:=ok.val j e he
  exact⟨v',hv,(rv.fresh h0).step hg x⟩
 .rcases au.mp hb with z | z
  .rw[z];exact .inr (ok.anew h0)
  .exact ok.sn b z
 .rcases au.mp hb with z | z
  .rw[z];exact h1
  .exact jT.has b z
theorem dA.Fc (ok:dA M env pn σ S H n){a:Addr}{t:Bool}{kvs:fW}{xs:List V}(ha:H a=some (mY t kvs xs))(r:dm S H (kvs.map (·.2)) xs)(hk:t=false->∀p∈kvs,p.1.length=1)(hs:a∈S)(h0:M.H0 a=none)(hi:i ∉ M.fd) :
  dA M (env.set i (some (.d a t kvs))) pn (σ.set i (some (.ref a))) S H n:=by
 refine⟨λj e he=>?_,λj k ds es b h2 h3 h4 h5=>?_,by rw[aZ,aZ,ok.len],λj hj=>?_,ok.gd,ok.ext,ok.s0,ok.sn,ok.has,ok.pin⟩
 .rcases dU he with⟨rfl,e1⟩ | ⟨ne,e1⟩
  .cases e1
   have:i<env.length:=by
    by_cases z:i<env.length
    .exact z
    .rw[bg (by rw[aZ];omega)] at he;cases he
   exact⟨.ref a,iz (by rw[<- ok.len];exact this),rfl,xs,ha,r,hk,hs,h0⟩
  .obtain⟨v',hv,rv⟩:=ok.val j e e1
   exact⟨v',by rw[aN ne];exact hv,rv⟩
 .rcases dU h2 with⟨_,e1⟩ | ⟨n1,e1⟩
  .cases e1
  .rcases dU h3 with⟨_,e2⟩ | ⟨n2,e2⟩
   .cases e2
   .rw[aN n1] at h4
    rw[aN n2] at h5;exact ok.ne j k ds es b e1 e2 h4 h5
 .have:i≠j:=λz=>hi (z ▸ hj)
  rw[aN this];exact ok.xC j hj
end
noncomputable def Ad (i:Nat)(uk uv:UX):US:=λE env n=>uk env n λk n1=>uv env n1 λd n2=>lq (kN false k) λkk=>∀a:Addr,(∀(j:Nat) (t':Bool) (kv:fW),env[j]? ≠ some (some (Ent.d a t' kv)))->E.nx (env.set i (some (.d a false [(kk,d)]))) n2
section
theorem Ib (hN:X.N.Nodup)(hx:Loc X.env.scope x)(hk:KE X M ke uk)(hv:KE X M ve uv)(hi:X.N[i]? = some x:=by rfl)(hs:swapsWith (.Dict [some ke] [ve] p) (some (.Name x fZ)) pos.line X.env=pure false:=by rfl)
  (hf:X.fn x=true\/X.env.scope.names.lookup x=some .local:=by (first | exact .inl rfl | exact .inr rfl | assumption)) (hfd:i ∉ M.fd:=by decide):KS X M (.Assign [.Name x fZ] (.Dict [some ke] [ve] p) pos) (Ad i uk uv) :=
 .of (gC hN hi hx (⟨Ho (Ec hk.run.run hv.run.run Hn) rfl rfl (!4) (!4)⟩:QE X _ _) hs hf) λD σ H env pn S n E ok hu k1 k2 a ha=>by
  have x0:Ext M.gs H (d3 H a (.dK [])):=.new ha;have JT:=ok.hold (H':=d3 H a (.dK [])) ha (by rw[dq];simp) x0 (ok.grow (.new ha));have JU:a ∉ M.gs:=M.out (ok.anew ha);refine⟨env,pn,a::S,n,_,JT,hu,λy H1 kd n1 r1 x1 g1 _ q=>?_⟩;have iR:=JT.step x1 g1;refine⟨env,pn,a::S,n1,_,iR,q,λv H2 d n2 r2 x2 g2 _ q=>?_⟩;have uI:=iR.step x2 g2;obtain⟨kk,ek,q⟩:=q;have h2:H2 a=some (.dK []):=x2.keep _ _ JU (x1.keep _ _ JU dq)
  obtain⟨j,rfl⟩:∃j:Int,kd=.int j:=by
   cases kd with
   | int j=>exact⟨j,rfl⟩
   | _=>cases ek
  cases ek;refine⟨h2,[(.inl j,v)],by rw[r1.d4];rfl,!4,?_⟩;have Si:=uI.Fc (i:=i) (t:=false) (kvs:=[]) (xs:=[]) h2 .nil (!4) (aq ..) (ok.anew ha) hfd
  have qc:(env.set i (some (Ent.d a false [])))[i]? = some (some (Ent.d a false []))\/env.length<=i:=by
   by_cases z:i<env.length
   .exact .inl (iz z)
   .exact .inr (!1)
  have nT:=λj' t' kv=>ok.only ha j' t' kv;rcases qc with qc | hlen
  .have Py:=Si.putD (kvs':=[([j],d)]) (ys:=[v]) qc (λj' t' kv iy z=>by
    rw[aN (λz=>iy z.symm)] at z;exact nT j' t' kv z) (.cons r2 .nil) (λ_ p hp=>by rw[am.mp hp];rfl)
   rw[c9] at Py;exact k1 _ _ _ _ _ Py (q a nT)
  .have Fd:∀y,env.set i y=env:=λy=>cx hlen
   have wC:∀y,σ.set i y=σ:=λy=>cx (by rw[<- ok.len];exact hlen);have Sj:=ok.hold (H':=d3 H2 a (mY false [([j],d)] [v])) (n':=n2) ha (by rw[dq];simp) (((x0.trans x1).trans x2).Bv ha) (M.i9 g2 (Ext.ye (S:=[a]) (t:=false) (kvs:=[]) (xs:=[]) (!4) h2) (by simpa using ok.anew ha));have:=q a nT;rw[Fd] at this;refine k1 _ _ _ _ _ (?_:dA M env pn _ (a::S) _ n2) this;rw[wC];exact Sj
end
section
theorem v9 {id:String}{b:Builtin}{args:List ag}{kw:List (Str × ag)}{Q:ag->aw->Prop}(hk:builtinKind id=none)(hp:plainId id=true)(hb:entryFor table id=some b)(ha:argsOk id ⟨args,kw⟩)
  (hc:aE (model prog w) A.in1 (b ⟨args,kw⟩) (λfin s'=>match fin with
   | .done f=>(match (Except.ok f:Result) with | .ok (.ret v)=>Q v s' | .ok _=>False | .error e=>E e s')
   | .again c'=>c'.quiet=true/\codeAny (model prog w) A c' (λr s'=>match r with | .ok (.ret v)=>Q v s' | .ok _=>False | .error e=>E e s') s') E s):aE (model prog w) A (call (.builtin id) args kw) Q E s:=by
 refine wpAny_call (codeAny_call_builtin hp hb ?_);simp only[checkBuiltinCall,hk]
 cases Sk:Manifest.signature? id with
 | none=>exact aj hc
 | some sig =>
  simp only[argsOk,Sk] at ha;have h2:Bind.checkArgs id sig ⟨args,kw⟩=pure ():=ha;show aE _ A.in1 (Bind.checkArgs id sig ⟨args,kw⟩) _ _ s;rw[h2];exact aj hc
theorem CJ (a d:ag):argsOk "min" ⟨[a],[("default",d)]⟩:=by unfold argsOk;kernel_rfl
theorem Ic (hh:A.handled=none)(gl:s.heap.IsList l vs)(cmp:uP prog w A.in1 s.heap .Lt (λi v=>vs[i]? = some v) bt)
  (gJ:vs.size=0->∀h1 tk,g7 s.heap h1->Q .none { s with heap:=h1,toks:=tk })
  (fin:∀v h1 tk,0<vs.size->vs[argBest bt (vs.size - 1)]? = some v->g7 s.heap h1->Q v { s with heap:=h1,toks:=tk }):aE (model prog w) A (call (.builtin "min") [.ref l] [("default",.none)]) Q E s:=by
 have nm:(toString "min" ++ toString ".loop" : String) = "min.loop" := by decide
 have ll:l<s.heap.objs.size:=let ⟨_,e,_⟩:=gl;aF e;refine v9 F.kind_min F.plain_min F.entry_min (CJ _ _) ?_;refine ae (m:=Builtin.Builtins.bindParams "min" ["key", "default"] 0 ⟨[],[("default",.none)]⟩) (wpAny_of_eq (show _=pure [none,some .none] from rfl) (ae (aj (ae ?_))));refine wpAny_pyIter_list gl (ae (aW ?_));rw[nm];have W:=Walks.list (prog:=prog) (w:=w) (A:=A.in1) hh s.heap.objs.size l (aT ll) vs;have no:∀k,s.heap.get? (s.heap.objs.size+k)=none:=λk=>by simp[Heap.get?]
 have gi:(s.heap.push { cls:=.type "list_iterator",data:=.fields #[.ref l,.int 0 0] }).IsListIter s.heap.objs.size l 0:=⟨_,ax _ rfl,rfl,rfl⟩;have sz:(s.heap.push { cls:=.type "list_iterator",data:=.fields #[.ref l,.int 0 0] }).objs.size=s.heap.objs.size+1:=bB ..;have oA:g7 s.heap (s.heap.push { cls:=.type "list_iterator",data:=.fields #[.ref l,.int 0 0] }):=λb o e=>ah _ e;have Df:(s.heap.push { cls:=.type "list_iterator",data:=.fields #[.ref l,.int 0 0] }).IsList l vs:=gl.push _;show aE _ _ _ _ _ { s with heap:=(s.heap.push { cls:=.type "list_iterator",data:=.fields #[.ref l,.int 0 0] }).push { cls:=.type "list",data:=.seq #[] 0 } };generalize s.heap.push { cls:=.type "list_iterator",data:=.fields #[.ref l,.int 0 0] }=h1 at gi sz oA Df ⊢;have gz:(h1.push { cls:=.type "list",data:=.seq #[] 0 }).get? h1.objs.size=some { cls:=.type "list",data:=.seq #[] 0 }:=ax _ rfl;have nh:g7 h1 (h1.push { cls:=.type "list",data:=.seq #[] 0 }):=λb o e=>ah _ e
 have zf:h1.objs.size ∉ [s.heap.objs.size,l]:=by
  rw[sz];simp only[au,cu,or_false,not_or];exact⟨cE _,bN (bU ll)⟩
 have zw:h1.objs.size ∉ [s.heap.objs.size]:=λy=>zf (W.sub _ y);refine aj ⟨plainId_quiet F.plain_min_loop _,codeAny_builtin F.entry_min_loop ?_⟩;rw[Around.under_plainId F.plain_min_loop _];refine ae (m:=seqItems? (.ref h1.objs.size)) (wpAny_seqItems gz rfl ?_);by_cases iy:0<vs.size
 .refine ae (m:=tryCatch (pyNext (.ref s.heap.objs.size)) _) (wpAny_tryCatch (W.item 0 _ _ _ iy (W.frame _ _ _ ⟨gi,Df⟩ λb _ o e=>nh b o e) λv h3 t3 pv Dy k3=>?_))
  have g3:=k3 _ _ zw gz;have rP:g7 s.heap h3:=λb o e=>k3 b o (λy=>by rw[am.mp y,<- cC s.heap.objs.size,no] at e;cases e) (nh b o (oA b o e));refine ae (m:=updateSeq h1.objs.size λ_=>#[v,v]) (wpAny_updateSeq g3 rfl ?_);rw[nm];refine aj ⟨plainId_quiet F.plain_min_loop _,EZ W (λb hb=>by rw[am.mp hb,<- cC s.heap.objs.size];exact no 0) bt cmp h1.objs.size zf (by rw[sz];exact no 1) (vs.size - 1) 0 _ v _ (!1) (W.frame _ _ _ Dy λx xf o e=>(aH _ _ (λq:h1.objs.size=x=>zf (by rw[q];exact xf))).trans e) pv (aR _ g3 rfl) (λx o e=>(aH _ _ (λq:h1.objs.size=x=>by rw[<- q,sz,no] at e;cases e)).trans (rP x o e)) λv' h4 t4 p4 k4=>fin v' h4 t4 iy p4 k4⟩
 .have e0:vs.size=0:=by omega
  refine ae (m:=tryCatch (pyNext (.ref s.heap.objs.size)) _) (wpAny_tryCatch (W.done _ _ _ (by rw[e0];exact W.frame _ _ _ ⟨gi,Df⟩ λb _ o e=>nh b o e) λh3 t3 k3=>?_));have rP:g7 s.heap h3:=λb o e=>k3 b o (λy=>by rw[am.mp y,<- cC s.heap.objs.size,no] at e;cases e) (nh b o (oA b o e));exact ae (wpAny_rule (aj (gJ e0 h3 t3 rP)))
end
noncomputable def Fe (ue:UX):UX:=λenv n Q=>ue env n λd n1=>match d with | .list []=>Q .none n1 | .list (d::ds)=>v3 false (d::ds)/\Q (iJ false d ds) n1 | _=>False
section
variable {X:Cx}{M:Fr}{e:Expr}{ue:UX}{p kp p3 pos:Pos}
theorem CK (hc:X.calm=true)(hu:X.A.units+64<cLine)(I:Inv X pins σ H s)(hp:fU X.K H q ys)(hr:dm S H ds ys)
  (h:match (generalizing:=false) ds with | []=>Q .gJ H | d::ds=>v3 false (d::ds)/\∀v,dR S H (iJ false d ds) v->Q v H):aE (model X.prog X.w) X.A (call (.builtin "min") [.ref q] [("default",.none)]) (EP X pins σ Q) X.xe s:=by
 obtain⟨its,rv,ht,hz⟩:=I.list hp;have hlen:its.length=ds.length:=by rw[<- rv.length,hr.length]
 have CG:v3 false ds:=by
  cases ds with
  | nil=>intro x hx;cases hx
  | cons d ds=>exact h.1
 have yX:af.canLayAll0 ds=true:=nH λx hx=>(CG x hx).1.1
 have qc:∀i,i<its.length->ds.getD i .none∈ds:=λi hi=>by
  rw[az,aJ (!1),cv];exact cg _
 refine Ic (I.ok.hd hc) ht.isList (bt:=Dh false ds) (λi j u v s' Q' E' held hi hj hq=>?_) (λh0 h1 tk held=>?_) λv h1 tk h0 hv held=>?_
 .have hi:its.toArray[i]? = some u:=hi
  have hj:its.toArray[j]? = some v:=hj;rw[cc] at hi hj;obtain⟨as,ra⟩:=dm.reads (I.kept (h':=s'.heap) (t':=s.toks) held).hok yX hr rv;obtain⟨i1,rfl⟩:=aD.mp hi;obtain⟨j1,rfl⟩:=aD.mp hj;obtain⟨Sb,r1⟩:=gQ ra i1;obtain⟨Sd,r2⟩:=gQ ra j1;have mi:=qc i i1;have mj:=qc j j1;obtain⟨r,hr⟩:=bE.mp ((CG _ mi).2 _ mj);have e:Dh false ds i j=r:=by unfold Dh;rw[hr];rfl
  rw[e] at hq;exact JO 50 _ _ r X.A.in1 s' _ _ Sb Sd (CG _ mi).1.2 r1 r2 (CG _ mi).1.1 (CG _ mj).1.1 (by show X.A.units+1+50<_;omega) hr X.prog X.w E' Q' hq
 .rw[aC,hlen] at h0
  cases ds with
  | nil=>exact⟨.gJ,H,I.kept held,rfl,h⟩
  | cons d ds=>simp at h0
 .rw[cc] at hv
  obtain⟨k1,rfl⟩:=aD.mp hv;obtain⟨x,rx,lj⟩:=hr.Sa rv _ k1
  cases ds with
  | nil=>rw[aC,hlen] at h0;simp at h0
  | cons d ds =>
   have hs:its.toArray.size - 1=ds.length:=by rw[aC,hlen,ap];omega
   rw[hs,v5 false d ds ds.length (ao _),cW] at rx;exact⟨x,H,I.kept held,lj,h.2 x rx⟩
noncomputable def Pz (te:TE):TE:=λσ H Q=>te σ H λx H1=>∃q ys S ds,x=.ref q/\fU X.K H1 q ys/\dm S H1 ds ys/\match ds with | []=>Q .gJ H1 | d::ds=>v3 false (d::ds)/\∀v,dR S H1 (iJ false d ds) v->Q v H1
theorem Ie {j}(hc:X.calm=true)(hu:X.A.units+64<cLine)(he:QE X e te)(hm:X.mg "min" = none)(hg:Gl X "min")(hs:d8 e=true)(h1:backTo pos (starEach [e] X.env)=(false,eval e X.env)::backTo pos (starEach [] X.env))(h2:(backTo pos (starEach [e] X.env)).any (·.1)=false) :
  QE X (.Call (.Name "min" p) [e] [⟨some "default",.Constant .none j p3,kp⟩] pos) (Pz (X:=X) te):=⟨λpins s σ H Q I h=>by
 refine wpAny_Call_Name_kw (oU (u:=.builtin "min") I hg hm (!3) ?_);have ha:=(gk he eG hs).run pos pins s σ H (λvs H1=>match vs with | [x]=>∃q ys S ds,x=.ref q/\fU X.K H1 q ys/\dm S H1 ds ys/\(match ds with | []=>Q .gJ H1 | d::ds=>v3 false (d::ds)/\∀v,dR S H1 (iJ false d ds) v->Q v H1) | _=>False) I h;refine callWith_kw (fc ha λus s1 ⟨vs,H1,I1,r1,q1⟩=>?_) h1 h2
 match vs,r1,q1 with
 | [x],r1,⟨q,ys,S,ds,ex,sq,rr,q2⟩ =>
  subst ex;obtain⟨u,rfl,ru⟩:=vals1 r1;cases ru;refine kws_cons (fc (Dm pins s1 σ H1 (λx H2=>x=.gJ/\H2=H1) I1 ⟨rfl,rfl⟩) λv s2 ⟨x,H2,I2,rx,hx,hH⟩=>kws_nil ?_);subst hx hH;cases (show v=ag.none from rx);exact CK hc hu I2 sq rr q2⟩
theorem Mq {j}(hc:X.calm=true)(hu:X.A.units+64<cLine)(he:KL X M e ue)(hm:X.mg "min" = none)(hg:Gl X "min" := by rfl)(hs:d8 e=true:=by rfl)(h1:backTo pos (starEach [e] X.env)=(false,eval e X.env)::backTo pos (starEach [] X.env):=by rfl)(h2:(backTo pos (starEach [e] X.env)).any (·.1)=false:=by rfl) :
  KE X M (.Call (.Name "min" p) [e] [⟨some "default",.Constant .none j p3,kp⟩] pos) (Fe ue):=.of (Ie hc hu he.run hm hg hs h1 h2) λσ H R env pn S n Q ok qd k=>by
 refine⟨env,pn,S,n,_,ok,qd,λv H1 d n1 r1 x1 g1 _ q=>?_⟩;have iR:=ok.step x1 g1;split at q
 .obtain⟨a,xs,rfl,sq,_,rr⟩:=r1.F9 (K:=X.K)
  exact⟨a,xs,S,[],rfl,sq,rr,k _ H1 _ n1 .gJ x1 g1 q⟩
 .rename_i d ds
  obtain⟨a,xs,rfl,sq,_,rr⟩:=r1.F9 (K:=X.K);exact⟨a,xs,S,d::ds,rfl,sq,rr,q.1,λv rv=>k v H1 _ n1 rv x1 g1 q.2⟩
 .exact q.elim
end
section
variable {prog:a5}{w:World}{A:Around}{E:ag->aw->Prop}{s:aw}{d it:Addr}{o:Obj}{es:Array DictEntry}{ep i:Nat}
theorem Ff {Q:ag->aw->Prop}(hd:(d == sysModules)=false)(ho:s.heap.get? d=some o)(hc:o.ExactDict)(hk:o.data=.dict es ep)
  (q:Q (.ref s.heap.objs.size) { s with heap:=s.heap.push { cls:=.type "dict_keyiterator",data:=.fields #[.ref d,.int 0 0,.int es.size 0,.int ep 0] } }):aE (model prog w) A (pyIter (.ref d)) Q E s:=by
 have ty:s.TypeIs (.ref d) "dict" := ⟨o,ho,hc.1⟩;refine wpAny_pyIter_slot ty F.slot_dict_iter (wpAny_call_entry F.slot_dict_iter ty F.entry_dict_iter (ae ?_) (F.args_dict_iter_1 _));refine ae (wpAny_notOrdered_dict ty (aj ?_));refine (ae ?_:aE _ _ (Builtin.Dict.showsAll d >>= _) _ _ s);unfold Builtin.Dict.showsAll;rw[if_neg (by rw[hd];decide)];refine aj (ae (wpAny_dictEntries ho hk (ae (wpAny_dictEpoch ho hk (ae (aW (aj ⟨_,rfl, "dict_keyiterator",_,⟨_,ax _ rfl,rfl⟩,F.slot_dict_keyiterator_next.lookup,?_⟩)))))));simpa [rawInt] using q
theorem Fg {Q:Option ag->aw->Prop}(st:s.heap.IsKeyIter it d i es.size ep)(ho:s.heap.get? d=some o)(hk:o.data=.dict es ep)(hi:i<es.size)
  (q:∀h',h'.IsKeyIter it d (i+1) es.size ep->Heap.SameBut it s.heap h'->Q (some es[i].key) { s with heap:=h' }):aE (model prog w) A (pyNext (.ref it)) Q E s:=by
 obtain⟨u,hu,c,f⟩:=id st;unfold pyNext;refine ae (wpAny_attempt (wpAny_callSpecial?_slot (name:=Str.ofString "__next__") st.typeIs F.slot_dict_keyiterator_next (wpAny_call_entry F.slot_dict_keyiterator_next st.typeIs F.entry_dict_keyiterator_next (ae (aj ?_)) (F.args_dict_keyiterator_next_1 _))));refine ae (ae ?_);first | refine ae (wpAny_typeNameOfWhole_keyiter st.typeIs (aj (ae (wpAny_fieldsOf hu f ?_)))) | refine ae (wpAny_typeNameOf_keyiter st.typeIs (aj (ae (wpAny_fieldsOf hu f ?_))))
 simp only[show Builtin.Dict_items.ownsTuple "dict_keyiterator" = false by decide,bO,if_false];show aE _ _ (ite ((ag.ref d == ag.none)=true) _ _) _ _ s;rw[if_neg (show ¬ ((ag.ref d == ag.none)=true) from bc)];refine ae (aj (ae (wpAny_dictEntries ho hk ?_)));rw[if_neg (!4)];refine ae (aj (ae (wpAny_dictEpoch ho hk ?_)));rw[if_neg (!4)];refine aj ?_;simp only[show ¬ ((i:Int)<0) from by omega,if_false,bh,Array.getElem?_eq_getElem hi];refine ae ?_;first | refine ae (wpAny_typeNameOfWhole_keyiter st.typeIs (aj (ae (wpAny_isOneOf_keyiter st.typeIs ?_)))) | refine ae (wpAny_typeNameOf_keyiter st.typeIs (aj (ae (wpAny_isOneOf_keyiter st.typeIs ?_))))
 refine (ae (wpAny_setField hu f (!4) ?_):aE _ _ (setField (.ref it) 1 (rawInt ((i:Int)+1)) >>= _) _ _ s);have tm:(s.heap.update it (Obj.mapFields (·.setIfInBounds 1 (rawInt ((i:Int)+1))))).IsKeyIter it d (i+1) es.size ep:=⟨_,aR _ hu (Obj.isFreed_of_fields (Obj.data_mapFields f _)),(Obj.cls_mapFields ..).trans c,by rw[Obj.data_mapFields f];simp[rawInt]⟩;refine ae (wpAny_holding (ae (wpAny_isOneOf_keyiter (s:={ s with heap:=s.heap.update it (Obj.mapFields (·.setIfInBounds 1 (rawInt ((i:Int)+1)))) }) tm.typeIs ?_)));show aE _ _ (pure es[i].key) _ _ _;exact aj (aj ⟨_,rfl,aj (q _ tm (Heap.SameBut.update ..))⟩)
theorem Ig {Q:Option ag->aw->Prop}(hh:A.handled=none)(st:s.heap.IsKeyIter it d i es.size ep)(ho:s.heap.get? d=some o)(hk:o.data=.dict es ep)(hi:es.size<=i)
  (q:∀h',Heap.ExtBut it s.heap h'->Q none { s with heap:=h' }):aE (model prog w) A (pyNext (.ref it)) Q E s:=by
 obtain⟨u,hu,c,f⟩:=id st;unfold pyNext;refine ae (wpAny_attempt (wpAny_callSpecial?_slot (name:=Str.ofString "__next__") st.typeIs F.slot_dict_keyiterator_next (wpAny_call_entry F.slot_dict_keyiterator_next st.typeIs F.entry_dict_keyiterator_next (ae (aj ?_)) (F.args_dict_keyiterator_next_1 _))));refine ae (ae ?_);first | refine ae (wpAny_typeNameOfWhole_keyiter st.typeIs (aj (ae (wpAny_fieldsOf hu f ?_)))) | refine ae (wpAny_typeNameOf_keyiter st.typeIs (aj (ae (wpAny_fieldsOf hu f ?_))))
 simp only[show Builtin.Dict_items.ownsTuple "dict_keyiterator" = false by decide,bO,if_false];show aE _ _ (ite ((ag.ref d == ag.none)=true) _ _) _ _ s;rw[if_neg (show ¬ ((ag.ref d == ag.none)=true) from bc)];refine ae (aj (ae (wpAny_dictEntries ho hk ?_)));rw[if_neg (!4)];refine ae (aj (ae (wpAny_dictEpoch ho hk ?_)));rw[if_neg (!4)];refine aj ?_;simp only[show ¬ ((i:Int)<0) from by omega,if_false,bh,b9 hi];refine ae ?_;first | refine ae (wpAny_typeNameOfWhole_keyiter st.typeIs (aj ?_)) | refine ae (wpAny_typeNameOf_keyiter st.typeIs (aj ?_))
 refine (ae (wpAny_setField hu f (!4) ?_):aE _ _ (setField (.ref it) 0 .none >>= _) _ _ s);refine (ae ?_:aE _ _ (newExc (.type "StopIteration") [] >>= _) _ _ _);simp only[newExc,newTuple];refine ae (aW (ae (m:=firstArgMember _ _) (wpAny_of_eq (a:=ag.none) (by first | rfl | (simp only[firstArgMember];rfl)) (aW ?_ (by size_fits)))) (by size_fits));simp only[raiseNew];refine ae (wpAny_handled ?_);rw[show A.in1.handled=none from hh];refine ae (aj (wpAny_throw (ae ?_)));exact wpAny_isInstance (T := "StopIteration") (b:=true) ⟨_,ax _ rfl,rfl⟩ isSubtype_stop (aj (q _ (((Heap.SameBut.update ..).extBut.push _).push _)))
end
theorem Paired.at {α β:Type}{F:α->β->Prop}:∀{l:List α} {m:List β},Paired F l m->∀(i:Nat) (p:α),l[i]? = some p->∃q,m[i]? = some q/\F p q
 | _,_,.nil,i,p,h=>by simp at h
 | _,_,.cons r t,0,p,h=>by
  rw[aa] at h;cases h;exact⟨_,rfl,r⟩
 | _,_,.cons r t,i+1,p,h=>by
  rw[ac] at h;exact Paired.at t i p h
noncomputable def T4 (o:Obj)(a:Addr)(kvs:List (List Key × V)):It :=
 ⟨λi H=>H a=some (.nj o (.dT kvs))/\i<kvs.length,λi H x H'=>H'=H/\∃k v b,kvs[i]? = some (k,v)/\x=.ref b/\H b=some (.tup (k.map kV)),λi H=>H a=some (.nj o (.dT kvs))/\kvs.length<=i⟩
section
variable {X:Cx}{pins:List (Addr × Obj)}{s:aw}{σ:St}{H:Hp}{a:Addr}{o:Obj}{kvs:List (List Key × V)}{es:Array DictEntry}{ep:Nat}{tg:Expr}
theorem JV (x:eX X.prog X.w H s.heap a (.dT kvs)):∃o es ep,s.heap.get? a=some o/\o.ExactDict/\o.data=.dict es ep/\(a == sysModules)=false/\es.size=kvs.length/\∀(i:Nat) (h:i<es.size) (p:List Key × V),kvs[i]? = some p->∃b,es[i].key=.ref b/\H b=some (.tup (p.1.map kV)):=by
 obtain⟨_,y,xs,r,o,es,ep,e,c,d,k,_⟩:=x;have hl:es.size=xs.length:=size_of_entries k;refine⟨o,es,ep,e,c,d,y,by rw[hl];exact (Paired.length r).symm,λi h p hp=>?_⟩;obtain⟨q,hq,z1,z2,_⟩:=Paired.at r i p hp;have:=entry_at k i;rw[hq,Array.getElem?_eq_getElem h] at this;exact⟨q.2.1,by rw[Option.some.inj this];rfl,z2⟩
theorem JW (I:Inv X pins σ H s)(h:H a=some (.nj o (.dT kvs)))(hd:o.data=.dict es ep):s.heap.get? a=some o/\es.size=kvs.length/\∀(i:Nat) (h:i<es.size) (p:List Key × V),kvs[i]? = some p->∃b,es[i].key=.ref b/\H b=some (.tup (p.1.map kV)):=by
 obtain⟨e,x⟩:=I.hok a _ h;obtain⟨o',g8,Kn,e',_,d',_,hl,hk⟩:=JV x;rw[e] at e';cases e';rw[hd] at d';cases d';exact⟨e,hl,hk⟩
theorem Mr {P:a5}{w:World}{K:W.Frag}(a it:Addr)(hd:o.data=.dict es ep):wQ P w K tg (T4 o a kvs) [it] it (λi h=>h.IsKeyIter it a i kvs.length ep) where
 mem:=by simp
 obj:=λi h st b hb=>by
  have e:b=it:=by simpa using hb
  subst e;obtain⟨o,e,c,d⟩:=st;exact⟨o,e,λv z=>by rw[d] at z;cases z⟩
 keep:=λi h h' st k=>st.at λo e=>k it (!4) o e
 item:=by
  intro X hP hw hK hc i pins s σ H E I hf st hg;subst hP hw hK;obtain⟨hg,hi⟩:=hg;obtain⟨e,hl,hk⟩:=JW I hg hd;have w9:i<es.size:=by omega
  obtain⟨b,hb,hH⟩:=hk i w9 kvs[i] (by simp[hi]);obtain⟨f0,f1,f2,f3,f4,f5⟩:=hf it (!4);rw[<- hl] at st;refine Fg st e hd w9 λh' tm sb=>?_;have I1:Inv X pins σ H { s with heap:=h' }:=I.turned (t':=s.toks) (λb o hb e=>(sb.2 b hb).trans e) f0 f1 f3 f4 f5;obtain⟨o',e',c',d'⟩:=id tm;rw[hb];exact⟨.ref b,rfl,wR (s:={ s with heap:=h' }) e' c' d' (!2) ⟨.ref b,H,I1,rfl,⟨rfl,kvs[i].1,kvs[i].2,b,by rw[aJ hi],rfl,hH⟩,by rw[<- hl];exact tm,λb hb=>(hf b hb).1⟩⟩
 done:=by
  intro X hP hw hK hc i pins s σ H E I hf st hg;subst hP hw hK;obtain⟨hg,hi⟩:=hg;obtain⟨e,hl,hk⟩:=JW I hg hd;obtain⟨f0,f1,f2,f3,f4,f5⟩:=hf it (!4);rw[<- hl] at st;exact Ig (I.ok.hd hc) st e hd (!1) λh' eb=>⟨rfl,I.turned (t':=s.toks) (λb o hb e=>eb b o hb e) f0 f1 f3 f4 f5⟩
 self:=λ_ _ _ _ _ st h=>wpAny_pyIter_keyiter st h
theorem Inv.Ih (I:Inv X pins σ H s)(h:H a=some (.dT kvs)):∃o es ep,o.data=.dict es ep/\Inv X pins σ (d3 H a (.nj o (.dT kvs))) s/\s.heap.get? a=some o/\o.ExactDict/\(a == sysModules)=false/\es.size=kvs.length:=by
 have x:=I.hok a _ h;obtain⟨o,es,ep,e,c,d,y,hl,_⟩:=JV x;refine⟨o,es,ep,d,?_,e,c,y,hl⟩;exact I.write (x:=a) (e:=a) (h':=s.heap) (t':=s.toks) (o:=.nj o (.dT kvs)) (by rw[h];exact trivial) (.inl rfl) (λb u _ q=>q) ⟨o,e⟩ ⟨e,x.y' (λ_ _ _ q=>q) (λb hb=>by rw[dC (λz=>by rw[z,h] at hb;cases hb)];exact hb) λb ys hb=>by rw[dC (λz=>by rw[z,h] at hb;cases hb)];exact hb⟩
noncomputable def Ms (tl:TE):TI:=λσ H R=>tl σ H λx H1=>∃a kvs,x=.ref a/\H1 a=some (.dT kvs)/\∀o,R (T4 o a kvs) (d3 H1 a (.nj o (.dT kvs)))
theorem Fh {l:Expr}{tl:TE}(hl:QE X l tl):QI X tg l (Ms tl):=by
 refine⟨λpins s σ H R I h=>fc (hl.run pins s σ H _ I h) λv s1 ⟨x,H1,I1,r1,q1⟩=>?_⟩;obtain⟨a,kvs,e,ha,q⟩:=q1;subst e;cases r1;obtain⟨o,es,ep,hd,I2,e,c,hy,hlen⟩:=I1.Ih ha;refine Ff hy e c hd ?_;refine⟨s1.heap.objs.size,[s1.heap.objs.size],_,_,_,rfl,I2.kept (t':=s1.toks) λb o e=>ah _ e,Mr a _ hd,⟨_,ax _ rfl,rfl,by rw[hlen];rfl⟩,λb hb=>?_,q o⟩;have e:b=s1.heap.objs.size:=by simpa using hb
 subst e;exact I2.pX (ao _) (I2.hok.fresh (ao _))
end
section
variable {prog:a5}{w:World}{A:Around}{E:ag->aw->Prop}{s:aw}{a d:Addr}{o u:Obj}{es fs:Array DictEntry}{ep eq:Nat}
theorem Ii {b:Addr}{Q:Bool->aw->Prop}(ty:s.TypeIs (.ref b) "tuple")(q:Q false s):aE (model prog w) A (Builtin.Dict.quietEq (.ref b)) Q E s:=by
 unfold Builtin.Dict.quietEq;exact ae (wpAny_specialOf ty F.slot_tuple_eq.lookup (aj q))
structure Sl (s:aw) (es:Array DictEntry):Prop where
 key:∀e∈es.toList,∃b,e.key=.ref b/\s.TypeIs (.ref b) "tuple"
 one:∀e∈es.toList,(es.filter (·.hash == e.hash)).size<=1
theorem Ij {id:String}{Q:Array DictEntry->aw->Prop}(ho:s.heap.get? a=some o)(hk:o.data=.dict es ep)(un:Sl s es)(q:Q es s):aE (model prog w) A (Builtin.Dict.entriesForEmpty id a) Q E s:=by
 unfold Builtin.Dict.entriesForEmpty;refine ae (wpAny_dictEntries ho hk (ae ?_));rw[<- Array.forIn_toList];refine wpAny_forIn_list _ (λrest _ s'=>s'=s/\∀e∈rest,e∈es.toList) _ ?_ ?_ _ _ ⟨rfl,λ_ h=>h⟩
 .rintro e rest _ _ ⟨rfl,hm⟩
  have he:=hm e (aq ..);obtain⟨b,hb,ty⟩:=un.key e he;rw[hb];refine ae (Ii ty ?_);rw[if_pos (!2),if_neg (by have:=un.one e he;omega)];exact aj ⟨rfl,λe h=>hm e (ai _ h)⟩
 .rintro _ _ ⟨rfl,_⟩
  exact aj q
theorem Ik {nm:String}{Q:Unit->aw->Prop}(VH:d≠a)(ha:(a == sysModules)=false)(ho:s.heap.get? a=some o)(hk:o.data=.dict es ep)(hu:s.heap.get? d=some u)(hv:u.data=.dict #[] eq)(un:Sl s es)(hz:es.size<=aA)
  (hc:u.ExactDict) (q:∀h' u' VI,h'.get? d=some u'->u'.ExactDict->u'.data=.dict es VI->Heap.SameBut d s.heap h'->Q () { s with heap:=h' }):aE (model prog w) A (Builtin.Dict.mergeDict nm d a) Q E s:=by
 unfold Builtin.Dict.mergeDict;rw[if_neg (by simpa using VH)];unfold Builtin.Dict.showsAll;rw[if_neg (by rw[ha];decide)];refine ae (aj (ae (wpAny_dictEntries ho hk ?_)));by_cases h0:es=#[]
 .subst h0
  dsimp only;rw[if_neg (!4)];refine ae (wpAny_dictEpoch ho hk (ae (wpAny_dictEntries ho hk (ae ?_))));rw[Std.Legacy.Range.forIn_eq_forIn_range'];exact aj (aj (q _ _ _ hu hc hv (Heap.SameBut.refl _ _)))
 .have Lm:(decide (es.size<=8) && es.all λe=>(keyPart e.key).isSome)=false:=by
   rw[Bool.and_eq_false_iff];refine .inr ?_;obtain⟨e,he⟩:∃e,e∈es.toList:=List.exists_mem_of_ne_nil _ (by simpa using h0);obtain⟨b,hb,_⟩:=un.key e he;rw[<- Array.all_toList,List.all_eq_false];exact⟨e,he,by rw[hb];exact bc⟩
  rw[Lm];dsimp only;rw[if_pos (!2)];refine ae (wpAny_dictEntries hu hv ?_);rw[if_pos (!2)];refine ae (Ij ho hk un ?_);rw[if_pos (by simpa using h0)];exact ae (wpAny_updateDictKeysTo hu hv (aj (q _ _ (eq+1) (aR _ hu (Obj.isFreed_of_dict (Obj.data_mapDictKeys hv _))) (hc.mapDictKeys _) (Obj.data_mapDictKeys hv _) (Heap.SameBut.update ..))) (Nat.le_succ_of_le hz))
theorem Ae {Q:ag->aw->Prop}(ha:(a == sysModules)=false)(ho:s.heap.get? a=some o)(hc:o.ExactDict)(hk:o.data=.dict es ep)(un:Sl s es)(hz:es.size<=aA)
  (q:∀h' u eq,h'.get? s.heap.objs.size=some u->u.ExactDict->u.data=.dict es eq->(∀b v,s.heap.get? b=some v->h'.get? b=some v)->Q (.ref s.heap.objs.size) { s with heap:=h' }):aE (model prog w) A (call (.type "dict") [.ref a]) Q E s:=by
 have jB:=aF ho;refine callType_codes (Q₁:=λobj s₁=>obj=.ref s.heap.objs.size/\s₁={ s with heap:=s.heap.push { cls:=.type "dict",data:=.dict #[] } }) F.kt_called_dict (F.kt_typeCall_dict_1 _) F.entry_dict_init (kt_code_dict_new _ ⟨rfl,rfl⟩) ?_;rintro obj s₁ ⟨rfl,rfl⟩;have hn:(s.heap.push { cls:=.type "dict",data:=.dict #[] }).get? s.heap.objs.size=some { cls:=.type "dict",data:=.dict #[] }:=ax _ rfl;have hold:=ah { cls:=.type "dict",data:=.dict #[] } ho;have ty:aw.TypeIs { s with heap:=s.heap.push { cls:=.type "dict",data:=.dict #[] } } (.ref s.heap.objs.size) "dict" := ⟨_,hn,rfl⟩;have Sm:aw.TypeIs { s with heap:=s.heap.push { cls:=.type "dict",data:=.dict #[] } } (.ref a) "dict" := ⟨_,hold,hc.1⟩;refine⟨ty,F.args_dict_init_2 _ _,?_⟩;unfold Builtin.«dict.__init__»;refine ae (ae (wpAny_notOrdered_dict ty (aj ?_)));refine (?_:aE _ _ (Builtin.Dict.updateFrom "dict.__init__" s.heap.objs.size (.ref a) [] .none) _ _ _);unfold Builtin.Dict.updateFrom;refine ae (wpAny_typeOf Sm ?_);rw[if_neg (!2)];refine ae (ae (ae (wpAny_isInstance Sm isSubtype_dict_dict ?_)));simp only[Bool.not_true,bO,if_false];refine ae (wpAny_specialOf Sm F.slot_dict_iter.lookup (aj ?_));simp only[beq_self_eq_true,if_true];refine ae (aj (Ik (u:={ cls:=.type "dict",data:=.dict #[] }) (eq:=0) (bN jB) ha hold hk hn rfl ?_ hz ⟨rfl,rfl,rfl⟩ λh' u eq h1 h2 h3 h4=>?_))
 .exact⟨λe he=>let ⟨b,hb,o,h1,h2⟩:=un.key e he;⟨b,hb,o,ah _ h1,h2⟩,un.one⟩
 .show aE _ _ (Builtin.Dict.addKeywords s.heap.objs.size [] >>= _) _ _ _
  refine ae (aj (aj ⟨rfl,q h' u eq h1 h2 h3 λb v hb=>?_⟩));rw[h4.2 b (aT (aF hb))];exact ah _ hb
end
noncomputable def uR (k:List Int):Int:=reduceHash (Builtin.Tuple.tupleHashOf (k.map hashInt))
theorem Mt (P:a5)(w:World)(k:List Int):(tupleKind (dS P w)).hash (k.map Sum.inl)=uR k:=by
 show reduceHash (Builtin.Tuple.tupleHashOf ((k.map Sum.inl).map (dS P w).hash))=_;rw[bx];rfl
section
variable {X:Cx}{pins:List (Addr × Obj)}{s:aw}{σ:St}{H:Hp}{a:Addr}{o:Obj}{kvs:List (List Key × V)}{es:Array DictEntry}{ep:Nat}
theorem Af {es:Array DictEntry}(h:(es.toList.map (·.hash)).Nodup):∀e∈es.toList,(es.filter (·.hash == e.hash)).size<=1:=λe he=>by
 rw[<- bu,Array.toList_filter]
 have key:∀l:List DictEntry,(l.map (·.hash)).Nodup->(l.filter (·.hash == e.hash)).length<=1:=by
  intro l
  induction l with
  | nil=>intro _;simp
  | cons x l ih =>
   intro hn;rw[ak,bb] at hn;rw[cF];split
   .rename_i hx
    have hx:x.hash=e.hash:=by simpa using hx
    have:l.filter (·.hash == e.hash)=[]:=List.filter_eq_nil_iff.mpr λy hy z=>hn.1 (aM.mpr ⟨y,hy,(beq_iff_eq.mp z).trans hx.symm⟩);rw[ap,this];exact ao _
   .exact ih hn.2
 exact key _ h
theorem Ag:ff X (.type "dict") (λxs H Q=>∃(p:Addr) (kvs:List (List Key × V)),xs=[.ref p]/\Rd H p (.dT kvs)/\(kvs.map λp=>(tupleKind (dS X.prog X.w)).hash p.1).Nodup/\∀l,H l=none->Q (.ref l) (d3 H l (.dT kvs))):=by
 intro pins s σ H xs us Q I r h;obtain⟨p,kvs,rfl,hp,hn,q⟩:=h;obtain⟨u,rfl,ru⟩:=vals1 r;cases ru;obtain⟨z,y,xs,lj,o,es,ep,e,c,d,k,nd⟩:=D7 I.hok hp;have hl:es.size=xs.length:=size_of_entries k;have Xy:kvs.length=xs.length:=Paired.length lj
 have hh:es.toList.map (·.hash)=kvs.map λp=>(tupleKind (dS X.prog X.w)).hash p.1:=by
  rw[k,bx]
  have:∀{l:List (List Key × V)} {m:List (List Key × Addr × ag)},KT H l m->m.map ((·.hash) ∘ entryOfKey (tupleKind (dS X.prog X.w)))=l.map λp=>(tupleKind (dS X.prog X.w)).hash p.1:=by
   intro l m t
   induction t with
   | nil=>rfl
   | cons h t ih=>rw[ak,ak,ih,h.1];rfl
  exact this lj
 refine Ae y e c d ⟨λx hx=>?_,Af (by rw[hh];exact hn)⟩ (!1) λh' u eq h1 h2 h3 h4=>?_
 .rw[k] at hx
  obtain⟨q,hq,rfl⟩:=aM.mp hx;obtain⟨i,hi⟩:=List.getElem?_of_mem hq;have:i<kvs.length:=by have:=(aD.mp hi).1;omega
  obtain⟨q',T5,z1,z2,_⟩:=Paired.at lj i kvs[i] (by rw[aJ this]);rw[hi] at T5;cases T5;obtain⟨_,its,_,ob,g1,g2,_⟩:=I.hok _ _ z2;exact⟨q.2.1,rfl,ob,g1,g2⟩
 .have fr:=I.hok.fresh (ao s.heap.objs.size)
  have hs:(s.heap.objs.size == sysModules)=false:=beq_eq_false_iff_ne.mpr (bN I.big);refine⟨.ref s.heap.objs.size,_,I.laid (a:=s.heap.objs.size) (o:=.dT kvs) (t':=s.toks) h4 (ao _) ⟨z,hs,xs,KT.keeps lj λb ys hb=>?_,u,es,eq,h1,h2,h3,k,nd⟩,rfl,q _ fr⟩;rw[dC (λz=>by rw[z,fr] at hb;cases hb)];exact hb
noncomputable def Mu (tk tv:TE):TE:=λσ H Q=>∀p,H p=none->tk σ (d3 H p (.dT [])) λy H1=>tv σ H1 λv H2=>H2 p=some (.dT [])/\∃b ks,y=.ref b/\H2 b=some (.tup (ks.map kV))/\Q (.ref p) (d3 H2 p (.dT [(ks,v)]))
theorem yi {k v:Expr}{tk tv:TE}{pos:Pos}(hu:X.A.units+1<cLine)(hk:PE X k tk)(hv:PE X v tv):PE X (.Dict [some k] [v] pos) (Mu tk tv):=by
 intro pins s σ H Q I q;have hn:=I.hok.fresh (ao s.heap.objs.size);have I1:=I.laid (a:=s.heap.objs.size) (o:=.dT []) (h':=s.heap.push { cls:=.type "dict",data:=.dict #[] }) (t':=s.toks) (λ_ _ q=>ah _ q) (ao _) (D' s.heap I.big);refine wpAny_Dict_any rfl rfl (!4) (!4) (pairTrees_cons_walk (fc (hk pins _ σ _ _ I1 (q _ hn)) λu s2 ⟨y,H2,I2,ry,q2⟩=>fc (hv pins s2 σ H2 _ I2 q2) λw3 s3 ⟨x,H3,I3,rx,e,b,ks,ey,eb,q3⟩=>pairTrees_nil_walk ?_));subst ey;cases (show u=ag.ref b from ry);obtain⟨z,hd,Xz,r0,dd⟩:=Jq I3.hok e;cases r0;unfold storeAll;rw[List.forIn_cons];refine ae (ae (wpAny_dictSet_heap (knd:=tupleKind (dS X.prog X.w)) (show X.A.units<cLine by omega) (ny I3.hok eb) dd (λh' Hi hs=>aj ?_) (!4)));show aE _ _ (pure PUnit.unit) _ _ _;obtain⟨o',g8,Kn,g1,g2,g3,g4,_,g5⟩:=Hi;refine aj ⟨.ref s.heap.objs.size,_,qx (ob:=.dT [(ks,x)]) I3 (by rw[e];exact True.intro) hs ⟨o',g1⟩ ⟨(by decide:1<=aA),hd,_,.cons ⟨rfl,?_,rx⟩ .nil,o',g8,Kn,g1,g2,g3,g4,g5⟩,rfl,q3⟩;have iy:b≠s.heap.objs.size:=λz=>by rw[z,e] at eb;cases eb
 exact (dC iy).trans eb
end
theorem Fi (k:List Int):(k.map (Sum.inl:Int->Key)).map kV=k.map V.int:=by rw[bx];rfl
theorem qF {gs S:List Addr}{H:Hp}{d:af}{v:V}{k:List Int}(r:eL gs S H d v)(e:kN true d=some k):∃b,v=.ref b/\H b=some (.tup ((k.map (Sum.inl:Int->Key)).map kV)):=by
 obtain⟨ds,rfl⟩:∃ds,d=.tuple ds:=by
  cases d with
  | tuple ds=>exact⟨ds,rfl⟩
  | _=>cases e
 have e':ds=k.map .int:=fV e;subst e';obtain⟨b,ys,rfl,hb,rb⟩:=r.eQ;rw[fG rb] at hb;exact⟨b,rfl,by rw[Fi];exact hb⟩
theorem Il {S:List Addr}{H:Hp}{b:Addr}{k:List Int}(h:H b=some (.tup ((k.map (Sum.inl:Int->Key)).map kV))):dR S H (.tuple (k.map .int)) (.ref b):=by
 rw[Fi] at h;exact .tup h (.ints k)
theorem Fj {S:List Addr}{H:Hp}:∀{kvs:fW} {xs:List V},dm S H (kvs.map (·.2)) xs->∀(i:Nat) (k:List Key) (v:V),(sY kvs xs)[i]? = some (k,v)->∃p,kvs[i]? = some p/\k=p.1.map Sum.inl
 | [],_,r,i,k,v,h=>by cases r.eN;simp[sY] at h
 | p::kvs,_,r,0,k,v,h=>by
  obtain⟨x,t,rfl,r1,r2⟩:=r.of_cons;rw[sY,aa] at h;cases h;exact⟨p,rfl,rfl⟩
 | p::kvs,_,r,i+1,k,v,h=>by
  obtain⟨x,t,rfl,r1,r2⟩:=r.of_cons;rw[sY,ac] at h;exact Fj r2 i k v h
theorem Bx {S:List Addr}{H:Hp}{kvs:fW}{xs:List V}(r:dm S H (kvs.map (·.2)) xs):(sY kvs xs).length=kvs.length:=by rw[lW];exact qE _ r
theorem By {S:List Addr}{H:Hp}{α:Type}(g:List Key->α):∀{kvs:fW} {xs:List V},dm S H (kvs.map (·.2)) xs->(sY kvs xs).map (λp=>g p.1)=kvs.map λp=>g (p.1.map Sum.inl)
 | [],_,r=>by cases r.eN;rfl
 | p::kvs,_,r=>by
  obtain⟨x,t,rfl,r1,r2⟩:=r.of_cons;rw[sY,ak,By g r2,ak]
section
variable {M:Fr}{env:d9}{pn:List (af × V)}{σ:St}{S:List Addr}{H H':Hp}{n n':Int}{i:Nat}
theorem dA.ye (ok:dA M env pn σ S H n){a:Addr}{t:Bool}{kvs:fW}{en:Ent}{ob:HO}(he:env[i]? = some (some (.d a t kvs)))(ho:HY env i a)(hn:∀es,en≠.o es)
  (r:∀xs,H a=some (mY t kvs xs)->dm S H (kvs.map (·.2)) xs->Ext S H (d3 H a ob)->pK M S (d3 H a ob) en (.ref a)):dA M (env.set i (some en)) pn σ S (d3 H a ob) n:=by
 obtain⟨v',hv,rfl,xs,ha,hr,_,hs,h0⟩:=ok.val i _ he;have x:Ext [a] H (d3 H a ob):=.ye (!4) ha;have xS:Ext S H (d3 H a ob):=x.mono (by simpa using hs);refine⟨λj e hj=>?_,λj k p8 g8 b h2 h3 h4 h5=>?_,by rw[aZ,ok.len],ok.xC,M.i9 ok.gd x (by simpa using h0),ok.ext.Bv h0,ok.s0,ok.sn,λb hb=>?_,λp hp=>(ok.pin p hp).ext xS⟩
 .rcases dU hj with⟨rfl,e1⟩ | ⟨ne,e1⟩
  .cases e1
   exact⟨_,hv,r xs ha hr xS⟩
  .obtain⟨w,hw,kF⟩:=ok.val j e e1
   refine⟨w,hw,?_⟩
   cases e with
   | s d=>exact dR.ext xS kF
   | o g8 =>
    obtain⟨b,zs,e2,hb,r2,ng,rG⟩:=kF;subst e2;exact⟨b,zs,rfl,by rw[dC (λz=>by rw[z,ha] at hb;exact mH hb.symm)];exact hb,r2.ext xS,ng,rG⟩
   | x c as =>
    obtain⟨b,dx,vs,e2,hb,hd,r2,g1,g2⟩:=kF;exact⟨b,dx,vs,e2,by rw[dC (λz=>by rw[z,ha] at hb;cases t<;>cases hb)];exact hb,by rw[dC (λz=>by rw[z,ha] at hd;cases t<;>cases hd)];exact hd,r2.ext xS,g1,g2⟩
   | d b t2 Px =>
    obtain⟨e2,zs,hb,r2,D5,ng,rG⟩:=kF;have Sg:b≠a:=λz=>ho j t2 Px (λz2=>ne z2.symm) (z ▸ e1);exact⟨e2,zs,by rw[dC Sg];exact hb,r2.ext xS,D5,ng,rG⟩
   | f b o Px zs =>
    obtain⟨e2,hb,r2,ng,rG⟩:=kF;exact⟨e2,by rw[dC (λz=>by rw[z,ha] at hb;cases t<;>cases hb)];exact hb,r2.ext xS,ng,rG⟩
 .rcases dU h2 with⟨_,e1⟩ | ⟨n1,e1⟩
  .exact absurd (Option.some.inj e1.symm) (λz=>hn _ z.symm)
  .rcases dU h3 with⟨_,e2⟩ | ⟨n2,e2⟩
   .exact absurd (Option.some.inj e2.symm) (λz=>hn _ z.symm)
   .exact ok.ne j k p8 g8 b e1 e2 h4 h5
 .by_cases z:b=a
  .rw[z,dq];simp
  .rw[dC z];exact ok.has b hb
end
noncomputable def ni (kvs:fW):List af:=kvs.map λp=>af.tuple (p.1.map af.int)
theorem uS (kvs:fW):(ni kvs).length=kvs.length:=by unfold ni;rw[ar]
noncomputable abbrev T6 (env:d9)(a:Addr):Prop:=∀(j:Nat) (t':Bool) (kv:fW),env[j]? ≠ some (some (Ent.d a t' kv))
noncomputable def Ah (i:Nat)(uk uv:UX):US:=λE env n=>uk env n λk n1=>uv env n1 λd n2=>lq (kN true k) λkk=>∀a:Addr,T6 env a->E.nx (env.set i (some (.d a true [(kk,d)]))) n2
noncomputable def pj (i j:Nat):US:=λE env n=>match env[j]? with | some (some (.d _ true kvs))=>(kvs.map λp=>uR p.1).Nodup/\∀a:Addr,T6 env a->E.nx (env.set i (some (.d a true kvs))) n | _=>False
noncomputable def rW (i j:Nat):US:=λE env n=>match env[j]? with | some (some (.d a t kvs))=>E.nx ((env.set j none).set i (some (.d a t kvs))) n | _=>False
noncomputable def nJ (i:Nat)(e:Ent)(ug:UG)(ub:US)(E:lO):List af->d9->Int->Prop
 | [],env,n=>env[i]? = some (some e)/\E.nx env n
 | d::ds,env,n=>env[i]? = some (some e)/\ug d env λdH=>ub { nx:=nJ i e ug ub E ds,rt:=E.rt } dH n
noncomputable def yj (i:Nat)(ug:UG)(ub:US):US:=λE env n=>match env[i]? with
 | some (some (.d a true kvs))=>HY env i a/\∀(o:Obj) (xs:List V),nJ i (.f a o kvs xs) ug ub E (ni kvs) (env.set i (some (.f a o kvs xs))) n
 | _=>False
noncomputable def pS (i:Nat)(uk:UX):UX:=λenv n Q=>match env[i]? with | some (some (.f a o kvs xs))=>uk env n λk n1=>lq (kN true k) λkk=>lq (eB kvs kk) λd=>Q d n1 | _=>False
section
variable {X:Cx}{M:Fr}{e ke ve:Expr}{uk uv ud:UX}{pos fZ p p2:Pos}
theorem Fl {i:Nat}{x:Str}(hu:X.A.units+1<cLine)(hN:X.N.Nodup)(hx:Loc X.env.scope x)(hk:KE X M ke uk)(hv:KE X M ve uv)(hi:X.N[i]? = some x:=by rfl)(hs:swapsWith (.Dict [some ke] [ve] p) (some (.Name x fZ)) pos.line X.env=pure false:=by rfl)
  (hf:X.fn x=true\/X.env.scope.names.lookup x=some .local:=by (first | exact .inl rfl | exact .inr rfl | assumption)) (hfd:i ∉ M.fd:=by decide):KS X M (.Assign [.Name x fZ] (.Dict [some ke] [ve] p) pos) (Ah i uk uv) :=
 .of (gC hN hi hx (⟨yi hu hk.run.run hv.run.run⟩:QE X _ _) hs hf) λD σ H env pn S n E ok hu k1 k2 a ha=>by
  have x0:Ext M.gs H (d3 H a (.dT [])):=.new ha;have JT:=ok.hold (H':=d3 H a (.dT [])) ha (by rw[dq];simp) x0 (ok.grow (.new ha));have JU:a ∉ M.gs:=M.out (ok.anew ha);refine⟨env,pn,a::S,n,_,JT,hu,λy H1 kd n1 r1 x1 g1 _ q=>?_⟩;have iR:=JT.step x1 g1;refine⟨env,pn,a::S,n1,_,iR,q,λv H2 d n2 r2 x2 g2 _ q=>?_⟩;have uI:=iR.step x2 g2;obtain⟨kk,ek,q⟩:=q;have h2:H2 a=some (.dT []):=x2.keep _ _ JU (x1.keep _ _ JU dq);obtain⟨b,rfl,hb⟩:=qF (gs:=M.gs) (.inl (r1.ext (x2.mono iR.qA))) ek;refine⟨h2,b,_,rfl,hb,?_⟩;have Si:=uI.Fc (i:=i) (t:=true) (kvs:=[]) (xs:=[]) h2 .nil (!4) (aq ..) (ok.anew ha) hfd;have nT:=λj' t' kv=>ok.only ha j' t' kv;by_cases z:i<env.length
  .have Py:=Si.putD (kvs':=[(kk,d)]) (ys:=[v]) (iz z) (λj' t' kv iy z=>by
    rw[aN (λz=>iy z.symm)] at z;exact nT j' t' kv z) (.cons r2 .nil) (λz=>by cases z)
   rw[c9] at Py;exact k1 _ _ _ _ _ Py (q a nT)
  .have hlen:env.length<=i:=by omega
   have Fd:∀y,env.set i y=env:=λy=>cx hlen;have wC:∀y,σ.set i y=σ:=λy=>cx (by rw[<- ok.len];exact hlen);have Sj:=ok.hold (H':=d3 H2 a (mY true [(kk,d)] [v])) (n':=n2) ha (by rw[dq];simp) (((x0.trans x1).trans x2).Bv ha) (M.i9 g2 (Ext.ye (S:=[a]) (t:=true) (kvs:=[]) (xs:=[]) (!4) h2) (by simpa using ok.anew ha));have:=q a nT;rw[Fd] at this;refine k1 _ _ _ _ _ (?_:dA M env pn _ (a::S) _ n2) this;rw[wC];exact Sj
theorem Im {i:Nat}(j:Nat){x y:Str}{p3:Pos}(hm:X.mg "dict" = none)(hN:X.N.Nodup)(hx:Loc X.env.scope x)(hi:X.N[i]? = some x:=by rfl)(hj:X.N[j]? = some y:=by rfl)(hv:tf X.env.scope y:=by (first | exact Or.inl rfl | exact Or.inr (Or.inl rfl) | exact Or.inr (Or.inr rfl)))(hd:(y == ("__debug__" : Str))=false:=by decide)
  (jz:(y == ("__classdict__" : Str))=false:=by decide) (hg:Gl X "dict" := by rfl) (hs:swapsWith (.Call (.Name "dict" p2) [.Name y p3] [] p) (some (.Name x fZ)) pos.line X.env=pure false:=by rfl)
  (hf:X.fn x=true\/X.env.scope.names.lookup x=some .local:=by (first | exact .inl rfl | exact .inr rfl | assumption)) (hfd:i ∉ M.fd:=by decide):KS X M (.Assign [.Name x fZ] (.Call (.Name "dict" p2) [.Name y p3] [] p) pos) (pj i j) :=
 .of (gC hN hi hx (gg Ag hg hm (!3) (gk (qv j hj hv hd jz) eG)) hs hf) λD σ H env pn S n E ok hu k1 k2=>by
  unfold pj at hu;split at hu
  .rename_i a kvs he
   obtain⟨hn,hu⟩:=hu;obtain⟨v,hv,rfl,xs,ha,r,hk,Mk,h0⟩:=ok.val j _ he;refine⟨_,hv,a,sY kvs xs,rfl,.inl ha,?_,λl hl=>?_⟩
   .have e:=By (λk=>(tupleKind (dS X.prog X.w)).hash k) r
    rw[e];have e2:(kvs.map λp=>(tupleKind (dS X.prog X.w)).hash (p.1.map Sum.inl))=kvs.map λp=>uR p.1:=b8 λp _=>Mt _ _ _;rw[e2];exact hn
   .exact k1 _ _ _ _ _ (ok.Sf (t:=true) (kvs:=kvs) (xs:=xs) hl dq ((r.fresh hl).ext (.new hl)) (!4) (.new hl) (ok.grow (.new hl)) hfd) (hu l λj t kv=>ok.only hl j t kv)
  .exact hu.elim
theorem Io {i:Nat}(j:Nat){x y:Str}{p3:Pos}(hN:X.N.Nodup)(hx:Loc X.env.scope x)(XA:i≠j)(hi:X.N[i]? = some x:=by rfl)(hj:X.N[j]? = some y:=by rfl)(hv:tf X.env.scope y:=by (first | exact Or.inl rfl | exact Or.inr (Or.inl rfl) | exact Or.inr (Or.inr rfl)))(hd:(y == ("__debug__" : Str))=false:=by decide)
  (jz:(y == ("__classdict__" : Str))=false:=by decide) (hs:swapsWith (.Name y p3) (some (.Name x fZ)) pos.line X.env=pure false:=by rfl)
  (hf:X.fn x=true\/X.env.scope.names.lookup x=some .local:=by (first | exact .inl rfl | exact .inr rfl | assumption)) (hfd:i ∉ M.fd:=by decide):KS X M (.Assign [.Name x fZ] (.Name y p3) pos) (rW i j) :=
 .of (gC hN hi hx (qv j hj hv hd jz) hs hf) λD σ H env pn S n E ok hu k1 k2=>by
  unfold rW at hu;split at hu
  .rename_i a t kvs he
   obtain⟨v,hv,rfl,xs,ha,r,hk,Mk,h0⟩:=ok.val j _ he
   have VJ:dA M (env.set j none) pn σ S H n:=⟨λk e h=>by
     rcases dU h with⟨_,e1⟩ | ⟨_,e1⟩
     .cases e1
     .exact ok.val k e e1,λk l ds es b h1 h2 h3 h4=>by
     rcases dU h1 with⟨_,e1⟩ | ⟨_,e1⟩
     .cases e1
     .rcases dU h2 with⟨_,e2⟩ | ⟨_,e2⟩
      .cases e2
      .exact ok.ne k l ds es b e1 e2 h3 h4,by rw[aZ,ok.len],ok.xC,ok.gd,ok.ext,ok.s0,ok.sn,ok.has,ok.pin⟩
   exact⟨_,hv,k1 _ _ _ _ _ (VJ.Fc (i:=i) ha r hk Mk h0 hfd) hu⟩
  .exact hu.elim
theorem Fm (i:Nat){x:Str}(hu:X.A.units+1<cLine)(hk:KL X M ke uk)(hN:X.N[i]? = some x:=by rfl)(H9:tf X.env.scope x:=by (first | exact Or.inl rfl | exact Or.inr (Or.inl rfl) | exact Or.inr (Or.inr rfl)))(hd:(x == ("__debug__" : Str))=false:=by decide)(jz:(x == ("__classdict__" : Str))=false:=by decide)
  (hs:Cf ke:=by exact λ_ _=>rfl):KE X M (.Subscript (.Name x p) ke pos) (pS i uk):=.of (mI hu (qv i hN H9 hd jz) hk.run hs) λσ H R env pn S n Q ok qd k=>by
 unfold pS at qd;split at qd
 .rename_i a o kvs xs he
  obtain⟨v0,JQ,rfl,ha,rr,Mk,h0⟩:=ok.val i _ he;refine⟨_,JQ,env,pn,S,n,_,ok,qd,λy H1 kd n1 r1 x1 g1 _ q=>?_⟩;obtain⟨kk,ek,d,ed,q⟩:=q;have iR:=ok.step x1 g1;obtain⟨_,_,e',lx,Ml,_,_⟩:=iR.val i _ he;obtain⟨b,rfl,hb⟩:=qF r1 ek;have inj:∀q∈kvs,(q.1.map Sum.inl:List Key)=kk.map Sum.inl->q.1=kk:=λq _ h=>oD h;rcases oC (f:=λk=>(k.map Sum.inl:List Key)) (k:=kk) Ml inj with⟨z,_⟩ | ⟨d',v',z,hg,hr⟩
  .rw[z] at ed;cases ed
  .rw[z] at ed
   cases ed;rw[<- lW] at hg;exact⟨a,v',rfl,.inr ⟨_,_,b,.inr ⟨o,lx⟩,rfl,hb,hg.symm⟩,k v' H1 _ n1 hr x1 g1 q⟩
 .exact qd.elim
theorem Mv (i:Nat){x:Str}{tg:Expr}{body:List Stmt}{ug:UG}{u:US}(hp:PassesOwn (model X.prog X.w) X.A X.env X.xe)(hc:X.calm=true)(hg:KG X M tg ug)(hb:uG X M body u)(hN:X.N[i]? = some x:=by rfl)(H9:tf X.env.scope x:=by (first | exact Or.inl rfl | exact Or.inr (Or.inl rfl) | exact Or.inr (Or.inr rfl)))(hd:(x == ("__debug__" : Str))=false:=by decide)(jz:(x == ("__classdict__" : Str))=false:=by decide)
  (hs:∀y,foldedSetIterable (.Name x p) X.env y=pure y:=by rw[3]):KS X M (.For tg (.Name x p) body [] pos) (yj i ug u) :=
 .of (vG hp hc (Fh (qv i hN H9 hd jz)) hg.run hb.run hs) λD σ H env pn S n E ok hu k1 k2=>by
  unfold yj at hu;split at hu
  .rename_i a kvs he
   obtain⟨ho,hu⟩:=hu;obtain⟨v,hv,rfl,xs,ha,r,hk,Mk,h0⟩:=ok.val i _ he;refine⟨_,hv,a,sY kvs xs,rfl,ha,λo=>?_⟩;have iR:dA M (env.set i (some (.f a o kvs xs))) pn σ S (d3 H a (.nj o (.dT (sY kvs xs)))) n:=ok.ye he ho (λes z=>by cases z) λ_ _ _ x'=>⟨rfl,dq,r.ext x',Mk,h0⟩;have hl:=Bx r;refine⟨λj m σ' H'=>m=kvs.length - j/\j<=kvs.length/\∃dH S' n',dA M dH pn σ' S' H' n'/\nJ i (.f a o kvs xs) ug u E ((ni kvs).drop j) dH n',⟨kvs.length,!4,bL _,_,S,n,iR,hu o xs⟩,?_⟩;rintro j m σ' H' ⟨rfl,HI,dH,S',n',jT,q'⟩
   have w9:dH[i]? = some (some (.f a o kvs xs)):=by
    cases e:(ni kvs).drop j with
    | nil=>rw[e] at q';exact q'.1
    | cons d ds=>rw[e] at q';exact q'.1
   obtain⟨_,_,_,lx,r',_,_⟩:=jT.val i _ w9;by_cases jB:j<kvs.length
   .refine .inr ⟨⟨lx,!1⟩,λσ2 H2=>∃tL S2 n2,dA M tL pn σ2 S2 H2 n2/\nJ i (.f a o kvs xs) ug u E ((ni kvs).drop (j+1)) tL n2,λσ2 H2 h=>⟨kvs.length - (j+1),!1,rfl,jB,h⟩,λy H2 hy=>?_⟩
    obtain⟨rfl,k,v,b,D5,rfl,hb⟩:=hy;obtain⟨p,hp,rfl⟩:=Fj r' j k v D5
    have e:(ni kvs).drop j=.tuple (p.1.map .int)::(ni kvs).drop (j+1):=by
     rw[bv (by rw[uS];exact jB)];congr 1;unfold ni;rw[List.getElem_map,(aD.mp hp).2]
    rw[e] at q';exact⟨dH,pn,S',n',_,_,jT,Il hb,q'.2,λxP σ3 F' q3=>⟨xP,pn,S',n',_,F',q3,λL8 σ4 S4 H4 n4 RW q4=>⟨L8,S4,n4,RW,q4⟩,k2⟩⟩
   .refine .inl ⟨⟨lx,!1⟩,?_⟩
    rw[bC (by rw[uS];omega)] at q';exact k1 _ _ _ _ _ jT q'.2
  .exact hu.elim
end
structure kx where
 T:List Int->af->Prop
 L:List (List Int)
 b:List Int
 Rx:L.length<100000
structure Ip (Y:kx) (kvs:fW):Prop where
 ok:∀p∈kvs,Y.T p.1 p.2/\i7 p.2=true
 nd:(kvs.map (·.1)).Nodup
 sub:∀p∈kvs,p.1∈Y.L
 Sn:Y.b∈kvs.map (·.1)
theorem uT:∀{kvs:fW},(∀p∈kvs,i7 p.2=true)->jk (kvs.map (·.2))=true
 | [],_=>rfl
 | p::kvs,h=>by
  rw[ak,jk,h p (aq ..),uT λq hq=>h q (ai _ hq)];rfl
theorem Ip.nl {Y:kx}{kvs:fW}(t:Ip Y kvs):jk (kvs.map (·.2))=true:=uT λp hp=>(t.ok p hp).2
theorem Fn {l m:List (List Int)}(h:l.Nodup)(hs:∀k∈l,k∈m):l.length<=m.length:=by
 induction l generalizing m with
 | nil=>exact bL _
 | cons a l ih =>
  obtain⟨h1,h2⟩:=bb.mp h;have ha:=hs a (aq ..);have:=ih (m:=m.erase a) h2 λk hk=>(List.mem_erase_of_ne (λ(z:k=a)=>h1 (z ▸ hk))).mpr (hs k (ai _ hk));rw[cT ha] at this;have:=c8 ha;rw[ap];omega
theorem Ip.len {Y:kx}{kvs:fW}(t:Ip Y kvs):kvs.length<100000:=by
 have:=Fn t.nd λk hk=>by
  obtain⟨p,hp,rfl⟩:=aM.mp hk;exact t.sub p hp
 rw[ar] at this;have:=Y.Rx;omega
theorem Bz {kvs:fW}{k:List Int}:(kvs.any λp=>decide (p.1=k))=true↔k∈kvs.map (·.1):=by
 rw[ci,aM];exact⟨λ⟨p,h1,h2⟩=>⟨p,h1,of_decide_eq_true h2⟩,λ⟨p,h1,h2⟩=>⟨p,h1,decide_eq_true h2⟩⟩
theorem Ip.put {Y:kx}{kvs:fW}(t:Ip Y kvs){k:List Int}{d:af}(hT:Y.T k d)(hn:i7 d=true)(hL:k∈Y.L):Ip Y (gR kvs k d):=by
 unfold gR;split
 .rename_i ha
  have hm:∀p∈kvs.map (λp=>if p.1=k then (p.1,d) else p),(∃q∈kvs,p=q)\/p=(k,d):=λp hp=>by
   obtain⟨q,hq,rfl⟩:=aM.mp hp;split
   .rename_i e;exact .inr (by rw[e])
   .exact .inl ⟨q,hq,rfl⟩
  have JX:(kvs.map (λp=>if p.1=k then (p.1,d) else p)).map (·.1)=kvs.map (·.1):=by
   rw[bx];exact b8 λp _=>by simp only[Function.comp];split<;>rfl
  refine⟨λp hp=>?_,by rw[JX];exact t.nd,λp hp=>?_,by rw[JX];exact t.Sn⟩
  .rcases hm p hp with⟨q,hq,rfl⟩ | rfl
   .exact t.ok _ hq
   .exact⟨hT,hn⟩
  .rcases hm p hp with⟨q,hq,rfl⟩ | rfl
   .exact t.sub _ hq
   .exact hL
 .rename_i ha
  have hk:k ∉ kvs.map (·.1):=λz=>ha (Bz.mpr z);refine⟨λp hp=>?_,?_,λp hp=>?_,by rw[aQ];exact bn _ t.Sn⟩
  .rcases aY.mp hp with hp | hp
   .exact t.ok p hp
   .rw[am.mp hp];exact⟨hT,hn⟩
  .rw[aQ]
   refine b4.mpr ⟨t.nd,!4,λa ha b hb z=>?_⟩;have:b=k:=by simpa using hb
   exact hk (this ▸ z ▸ ha)
  .rcases aY.mp hp with hp | hp
   .exact t.sub p hp
   .rw[am.mp hp];exact hL
theorem uU (kvs:fW)(k:List Int)(d:af):eB (gR kvs k d) k=some d:=by
 unfold gR;split
 .rename_i ha
  unfold eB
  induction kvs with
  | nil=>cases ha
  | cons p t ih =>
   rw[ak,bD];by_cases e:p.1=k
   .rw[if_pos e,decide_eq_true (show (p.1,d).1=k from e)];rfl
   .rw[if_neg e,decide_eq_false e]
    rw[bR,decide_eq_false e,Bool.false_or] at ha;exact ih ha
 .rename_i ha
  unfold eB;have:kvs.find? (λp=>decide (p.1=k))=none:=List.find?_eq_none.mpr λp hp z=>ha (ci.mpr ⟨p,hp,z⟩);rw[List.find?_append,this];simp
noncomputable def Ai (Y:kx)(H:Hp)(a:Addr):Prop:=∃kvs xs,H a=some (mY true kvs xs)/\dm [] H (kvs.map (·.2)) xs/\Ip Y kvs
theorem Ai.ext {Y:kx}{S:List Addr}{H H':Hp}{a:Addr}(h:Ai Y H a)(x:Ext S H H')(ha:a ∉ S):Ai Y H' a:=by
 obtain⟨kvs,xs,e,r,t⟩:=h;exact⟨kvs,xs,x.keep _ _ ha e,((r.any (S':=S) t.nl).ext x).any t.nl,t⟩
theorem Ai.ne {Y:kx}{H:Hp}{a:Addr}(h:Ai Y H a):H a≠none:=by
 obtain⟨_,_,e,_⟩:=h;rw[e];simp
noncomputable def Fr.known (C:Xc)(Y:kx)(i:Nat)(a:Addr)(n0:Int)(S:List Addr)(H:Hp)(hk:Ai Y H a)(hS:a∈S)(has:∀b∈S,H b≠none):Fr where
 G:=λH n=>n=n0/\Ai Y H a
 gs:=[a]
 S0:=S
 H0:=H
 fa:=.ref a
 fd:=[i]
 xc:=C
 i9:=λh x k=>⟨h.1,h.2.ext x λz=>hk.ne (k _ z)⟩
 vN:=λh b hb=>by rw[am.mp hb];exact h.2.ne
 RJ:=λh b hb φ z=>by
  rw[am.mp hb] at z;obtain⟨_,_,_,e,_⟩:=h;rw[e] at z;cases z
 OX:=λb hb=>by rw[am.mp hb];exact hS
 tK:=has
noncomputable def Gb (F:kx->UF):Sp:=λvs H Q E=>∃Y a us S ds n Qp,vs=us++[.ref a]/\Ai Y H a/\a∈S/\dm S H ds us/\(∀b∈S,H b≠none)/\F Y ds n Qp De/\∀d v H',dR S H' d v->Ai Y H' a->Ext [a] H H'->Qp d n->Q v H'
noncomputable def Fo (N np:Nat)(u:US):UF:=λds n Q Ex=>ds.length+1=np/\u { nx:=λ_ n'=>Q .none n',rt:=Q } (envOf N ds) n
theorem Aj {M:Fr}{N:List Str}{ds:List af}{vs:List V}{S:List Addr}{H:Hp}{n:Int}{a:Addr}(h0:M.H0=H)(hS:M.S0=S)(r:dm S H ds vs)(hfd:M.fd=[ds.length])(xR:M.fa=.ref a)(hN:ds.length+1<=N.length)(g:M.G H n):dA M (envOf N.length ds) [] (start N (vs++[.ref a])) S H n:=by
 subst h0 hS;have hl:=r.length
 have key:∀(i:Nat) (e:Ent),(envOf N.length ds)[i]? = some (some e)->∃d,ds[i]? = some d/\e=.s d:=λi e h=>by
  unfold envOf at h;by_cases hi:i<ds.length
  .rw[bK (by simpa using hi),aB] at h
   cases hd:ds[i]? with
   | none=>rw[hd] at h;cases h
   | some d=>rw[hd] at h;exact⟨d,rfl,(Option.some.inj (Option.some.inj h)).symm⟩
  .rw[bT (by simp;omega),bP] at h
   split at h<;>cases h
 refine⟨λi e h=>?_,λi j a b c h1=>?_,?_,?_,g,.refl _ _,λa h=>h,λa h=>.inl h,M.tK,λp hp=>by cases hp⟩
 .obtain⟨d,hd,rfl⟩:=key i e h
  obtain⟨v,hv,rv⟩:=r.at hd;refine⟨v,?_,rv⟩;have hi:i<vs.length:=(aD.mp hv).1;unfold start;rw[aQ,bw,bK (by rw[ar];exact hi),aB,hv];rfl
 .obtain⟨d,_,e⟩:=key _ _ h1
  cases e
 .unfold envOf start
  simp[hl];omega
 .rw[hfd,xR]
  intro i hi;rw[am.mp hi,<- hl];unfold start;rw[aQ,bw,bT (!4)];simp
section
variable {P:a5}{w:World}{K:W.Frag}{mg:Str->Option ag}{base:Heap}{x:Str}{st:Stmt}{ps:List Str}{k:Nat}{C:Xc}
theorem PB (u:kx->US)(N:List Str)(F:FM K mg x st)
  (body:e9 N ps (dn st)->∀(f:Addr) (eS:ag) (A:Around) (outer:List Env) (s:aw) (H:Hp) (E:XK) (Y:kx) (a:Addr) (n0:Int) (S:List Addr) (hk:Ai Y H a) (hS:a∈S) (has:∀b∈S,H b≠none),f6 k (A.deeper (envOfC x (dn st) s.heap.objs.size f eS))->(A.deeper (envOfC x (dn st) s.heap.objs.size f eS)).units+64<cLine ->
   uG (nq vy P w K mg base N x (dn st) f eS A outer s H E).BS (Fr.known C Y (ps.length - 1) a n0 S H hk hS has) (fC st) (u Y))
  (sc:e9 N ps (dn st):=by exact Ql) (hN:ps.length<=N.length:=by decide) (hb:BD x st ps:=by rw[999]) :
  dJ P w K mg base (k+1) x ps (Gb λY=>Fo N.length ps.length (u Y)):=by
 obtain⟨f,fd,F,hm⟩:=F.ex;refine⟨f,fd,F.LJ sc (λvs H Q E h=>?_) (λeS A outer s H vs Q E hr h=>?_),hm,F.kp,F.binds hb⟩
 .obtain⟨Y,a,us,S,ds,n,Qp,rfl,_,_,r,_,hF,_⟩:=h
  rw[aK,r.length];exact hF.1
 .obtain⟨Y,a,us,S,ds,n,Qp,rfl,hk,hS,r,has,hF,hq⟩:=h
  have hlen:ds.length=ps.length - 1:=by have:=hF.1;omega
  refine⟨_,(body sc f eS A outer s H E Y a n S hk hS has hr hr.units).run,envOf N.length ds,[],S,n,_,Aj rfl rfl r (by rw[hlen];rfl) rfl (by have:=hF.1;omega) ⟨rfl,hk⟩,hF.2,λdH σ' S' H' n' ok q=>?_,λv H' d n' rv x g q=>?_⟩
  .have g:=ok.gd
   have e:n'=n:=g.1;subst e;exact hq _ _ H' .gJ g.2 ok.ext q
  .have e:n'=n:=g.1
   subst e;exact hq d v H' rv g.2 x q
end
section
variable {X:Cx}{M:Fr}{e1 e2 ve ke:Expr}{u1 u2 uv uk:UX}{p p2 p3 p4 pos fZ So Sq:Pos}{F:kx->UF}{x y z:Str}{ps:List Str}{k:Nat}{Y:kx}{a:Addr}{n0:Int}
theorem PD {P:a5}{w:World}{K:W.Frag}{mg:Str->Option ag}{base:Heap}{st:Stmt}{k:Nat}(F:FM K mg x st)(hb:BD x st ps:=by rw[999]):dJ P w K mg base k x ps (Gb λ_=>Pl) :=
 let ⟨f,fd,F,hm⟩:=F.ex;⟨f,fd,⟨λvs H Q E ⟨_,_,_,_,_,_,_,_,_,_,_,_,h,_⟩=>h.elim,λ_ _ _ _ _ _ _ _ _ _ _ _ _ ⟨_,_,_,_,_,_,_,_,_,_,_,_,h,_⟩=>h.elim⟩,hm,F.kp,F.binds hb⟩
theorem qG (i:Nat)(D:dJ X.prog X.w X.K X.mg X.base k x ps (Gb F))(hr:f6 k X.A)(h1:KE X M e1 u1)(h2:KE X M e2 u2)
  (hG:M.G=λH n=>n=n0/\Ai Y H a:=by rfl) (xR:M.fa=.ref a:=by rfl) (L9:M.gs=[a]:=by rfl) (hfd:i∈M.fd:=by exact am.mpr rfl)
  (hN:X.N[i]? = some y:=by rfl) (hv:tf X.env.scope y:=by (first | exact Or.inl rfl | exact Or.inr (Or.inl rfl) | exact Or.inr (Or.inr rfl))) (hd:(y == ("__debug__" : Str))=false:=by decide) (jz:(y == ("__classdict__" : Str))=false:=by decide)
  (hg:Gl X x:=by rfl) (oV:(x == ("__debug__" : Str))=false:=by decide) (Qm:d8 e1=true:=by rfl) (ng:d8 e2=true:=by rfl):KE X M (.Call (.Name x p) [e1,e2,.Name y p2] [] pos) (dw (F Y) (dg u1 (dg u2 di))) :=
 .of (lL D hr (gk h1.run (gk h2.run (gk (qv i hN hv hd jz) eG rfl) ng) Qm) hg oV) λσ H R env pn S n Q ok hu k=>⟨env,pn,S,n,_,ok,hu,λv1 H1 d1 n1 r1 x1 g1 _ q=>by
  have iR:=ok.step x1 g1;refine⟨env,pn,S,n1,_,iR,q,λv2 H2 d2 n2 r2 x2 g2 _ q=>?_⟩;have uI:=iR.step x2 g2;have yZ:=uI.xC i hfd;rw[xR] at yZ;have Sr:=g2;rw[hG] at Sr;refine⟨_,yZ,Y,a,[v1,v2],S,[d1,d2],n2,_,rfl,Sr.2,ok.qA a (by rw[L9];simp),.cons (r1.ext (x2.mono iR.qA)) (.cons r2 .nil),uI.has,q,λd v H3 r3 k3 x3 q3=>k v H3 d n2 r3 ((x1.trans x2).trans (by rw[L9];exact x3)) (by rw[hG];exact⟨Sr.1,k3⟩) q3⟩⟩
noncomputable def Fp (Y:kx)(j:Nat)(uA:US)(uv:UX):US:=λE env n=>∃kk:List Int,env[j]? = some (some (.s (.tuple (kk.map .int))))/\kk∈Y.L/\(∀d,Y.T kk d->E.rt d n) /\
 (kk≠Y.b->uA { nx:=λdH n'=>dH[j]? = env[j]? /\ uv dH n' λd n2=>i7 d=true/\Y.T kk d/\E.rt d n2,rt:=E.rt } env n)
theorem JY {H:Hp}{kk:List Int}{b:Addr}{kvs:fW}{xs:List V}{S:List Addr}(ha:H a=some (mY true kvs xs))(r:dm S H (kvs.map (·.2)) xs)(hb:H b=some (.tup ((kk.map (Sum.inl:Int->Key)).map kV))) :
  (eB kvs kk=none/\iO H a (.ref b) none)\/∃d v,eB kvs kk=some d/\iO H a (.ref b) (some v)/\dR S H d v:=by
 have hg:=iO.t (show H a=some (.dT (sY kvs xs)) from ha) hb;rw[lW] at hg;rcases oC (f:=λk=>(k.map Sum.inl:List Key)) (k:=kk) r (λ_ _ h=>oD h) with⟨h1,h2⟩ | ⟨d,v,h1,h2,h3⟩
 .rw[h2] at hg;exact .inl ⟨h1,hg⟩
 .rw[h2] at hg;exact .inr ⟨d,v,h1,hg,h3⟩
theorem rX {kvs:fW}{k:List Int}{d:af}(h:eB kvs k=some d):(k,d)∈kvs:=by
 unfold eB at h
 cases e:kvs.find? λp=>decide (p.1=k) with
 | none=>rw[e] at h;cases h
 | some p =>
  rw[e] at h;cases h;have h1:=List.mem_of_find?_eq_some e;have h2:p.1=k:=by simpa using List.find?_some e
  rw[<- h2];exact h1
theorem Fq (i j:Nat){body:Stmt}{uA:US}{q1 q2 q3 q4:Pos}(hu:X.A.units+1<cLine)(hA:KS X M body uA)(VL:KE X M ve uv)
  (hG:M.G=λH n=>n=n0/\Ai Y H a) (xR:M.fa=.ref a) (L9:M.gs=[a]) (hfd:i∈M.fd)
  (hN:X.N[i]? = some y:=by rfl) (hv:tf X.env.scope y:=by (first | exact Or.inl rfl | exact Or.inr (Or.inl rfl) | exact Or.inr (Or.inr rfl))) (hd:(y == ("__debug__" : Str))=false:=by decide) (jz:(y == ("__classdict__" : Str))=false:=by decide)
  (Ss:X.N[j]? = some z:=by rfl) (EG:tf X.env.scope z:=by (first | exact Or.inl rfl | exact Or.inr (Or.inl rfl) | exact Or.inr (Or.inr rfl))) (wW:(z == ("__debug__" : Str))=false:=by decide) (Mw:(z == ("__classdict__" : Str))=false:=by decide)
  (hm:behindInMarks .NotIn (.Name y p)=false:=by first | exact ji _ | rfl) (hs:swapsWith ve (some (.Subscript (.Name y p2) (.Name z p3) fZ)) pos.line X.env=pure false:=by rfl) :
  uG X M [.If (.Compare (.Name z p4) [.NotIn] [.Name y p] So) [body,.Assign [.Subscript (.Name y p2) (.Name z p3) fZ] ve pos] [] Sq,.Return (some (.Subscript (.Name y q1) (.Name z q2) q3)) q4] (Fp Y j uA uv) :=
 ⟨(eD (A1 (⟨zc (oX hu (qv j Ss EG wW Mw).run (qv i hN hv hd jz).run) hm⟩:QT X _ _) (eD hA.run (gL (qy hu (qv i hN hv hd jz) (qv j Ss EG wW Mw) VL.run hs))) qw) (gL (kJ (mI hu (qv i hN hv hd jz) (qv j Ss EG wW Mw) λ_ _=>rfl)))).weaken λD σ H h=>A7 h λenv pn S n E h=>by
  obtain⟨ok,⟨kk,hj,hL,VM,Su⟩,CL,PF⟩:=h
  have go:∀{dH:d9} {σ':St} {S':List Addr} {H':Hp} {n':Int},dA M dH pn σ' S' H' n'->dH[j]? = some (some (.s (.tuple (kk.map .int))))->∃b kvs xs,σ'[j]? = some (some (.ref b))/\σ'[i]? = some (some (.ref a))/\H' b=some (.tup ((kk.map (Sum.inl:Int->Key)).map kV))/\H' a=some (mY true kvs xs)/\dm [] H' (kvs.map (·.2)) xs/\Ip Y kvs/\n'=n0:=λ{dH σ' S' H' n'} jT Qn=>by
   obtain⟨v,hv,r⟩:=jT.val j _ Qn;obtain⟨b,rfl,hb⟩:=qF (gs:=M.gs) (d:=.tuple (kk.map .int)) (k:=kk) (.inl r) (by simp[kN]);have Iq:=jT.xC i hfd;rw[xR] at Iq;have g:=jT.gd;rw[hG] at g;obtain⟨e,kvs,xs,h1,h2,h3⟩:=g;exact⟨b,kvs,xs,hv,Iq,hb,h1,h2,h3,e⟩
  obtain⟨b,kvs,xs,Nc,Iq,hb,ha,r,t,en⟩:=go ok hj;have aS:a∈M.gs:=by rw[L9];simp
  rcases JY ha r hb with⟨nT,hg⟩ | ⟨d,v,xr,hg,hr⟩
  .refine⟨_,Nc,_,Iq,a,none,rfl,hg,true,rfl,?_⟩
   have VN:kk≠Y.b:=λz=>by
    have hm:=t.Sn;rw[<- z] at hm;have h1:=Bz.mpr hm;unfold eB at nT
    cases hf:kvs.find? λp=>decide (p.1=kk) with
    | none =>
     obtain⟨p,hp,Qo⟩:=ci.mp h1;exact List.find?_eq_none.mp hf p hp Qo
    | some p=>rw[hf] at nT;cases nT
   refine⟨env,pn,S,n,_,ok,Su VN,λdH σ' S' H' n' jT q=>?_,PF⟩;obtain⟨Qn,q⟩:=q;rw[hj] at Qn;refine⟨dH,pn,S',n',_,jT,q,λv H1 d n1 r1 x1 g1 _ q=>?_⟩;obtain⟨Qq,hT,hq⟩:=q;have iR:=jT.step x1 g1;obtain⟨b,kvs,xs,Nc,Iq,hb,ha,r,t,en⟩:=go iR Qn;have hlen:kvs.length<aA:=aL t.len (!2);have r0:dm S' H1 (kvs.map (·.2)) xs:=r.any t.nl;obtain⟨ys,hp,hr⟩:=v7 (f:=λk=>(k.map Sum.inl:List Key)) (k:=kk) r1 r0 (λ_ _ h=>oD h);have Fs:=pZ.t (v:=v) (show H1 a=some (.dT (sY kvs xs)) from ha) hb (by rw[Bx r0];exact hlen);rw[lW,hp,<- lW] at Fs;have x2:Ext M.gs H1 (d3 H1 a (mY true (gR kvs kk d) ys)):=.ye aS ha;have t2:=t.put hT Qq hL;have T7:dm S' (d3 H1 a (mY true (gR kvs kk d) ys)) ((gR kvs kk d).map (·.2)) ys:=hr.ext (x2.mono iR.qA)
   have g2:M.G (d3 H1 a (mY true (gR kvs kk d) ys)) n1:=by
    rw[hG];exact⟨en,_,ys,dq,T7.any t2.nl,t2⟩
   refine⟨_,Iq,_,Nc,a,_,rfl,Fs,?_⟩;have Mx:d3 H1 a (mY true (gR kvs kk d) ys) b=some (.tup ((kk.map (Sum.inl:Int->Key)).map kV)):=x2.tup _ _ hb;refine⟨_,Iq,_,Nc,a,?_⟩;rcases JY (S:=S') dq T7 Mx with⟨nT,_⟩ | ⟨d',v',xr,hg,VO⟩
   .rw[uU] at nT;cases nT
   .rw[uU] at xr
    cases xr;exact⟨v',rfl,hg,PF v' _ d n1 (VO.less iR.s0) ((iR.step x2 g2).ext) g2 hq⟩
  .refine⟨_,Nc,_,Iq,a,some v,rfl,hg,false,rfl,_,Iq,_,Nc,a,v,rfl,hg,?_⟩
   have hp:=t.ok _ (rX xr);exact PF v H d n (hr.any hp.2) ok.ext ok.gd (VM d hp.1)⟩
noncomputable def Ir (o:Option Ent):Option Ent:=match o with | some (.s d)=>some (.s d) | _=>none
theorem BA {env:d9}{i j:Nat}{e:Ent}(h:((env.map Ir).set i none)[j]? = some (some e)):j≠i/\∃d,e=.s d/\env[j]? = some (some (.s d)):=by
 rcases dU h with⟨_,e1⟩ | ⟨ne,e1⟩
 .cases e1
 .refine⟨λz=>ne z.symm,?_⟩
  rw[aB] at e1
  cases ho:env[j]? with
  | none=>rw[ho] at e1;cases e1
  | some o =>
   rw[ho] at e1
   cases o with
   | none=>cases e1
   | some en =>
    cases en with
    | s d=>cases e1;exact⟨d,rfl,rfl⟩
    | _=>cases e1
noncomputable def wa (i:Nat)(uk uv:UX)(w:kx->US):US:=λE env n=>i<env.length/\uk env n λk n1=>uv env n1 λd n2=>lq (kN true k) λkk=>∃Y:kx,Y.T kk d/\i7 d=true/\kk∈Y.L/\Y.b=kk/\w Y { nx:=λ_ _=>False,rt:=E.rt } ((env.map Ir).set i none) n2
theorem CM {i:Nat}{C:Xc}{S0:List Addr}{H0:Hp}{has:∀b∈S0,H0 b≠none}{rest:List Stmt}{w:kx->US}(hu:X.A.units+1<cLine)(hN:X.N.Nodup)(hx:Loc X.env.scope x)(hk:KE X (Fr.pure C n0 S0 H0 has) ke uk)(hv:KE X (Fr.pure C n0 S0 H0 has) ve uv)
  (hr:∀(Y:kx) (a:Addr) (S:List Addr) (H:Hp) (hk:Ai Y H a) (hS:a∈S) (hs:∀b∈S,H b≠none),uG X (Fr.known C Y i a n0 S H hk hS hs) rest (w Y)) (hi:X.N[i]? = some x:=by rfl) (hs:swapsWith (.Dict [some ke] [ve] p) (some (.Name x fZ)) pos.line X.env=pure false:=by rfl)
  (hf:X.fn x=true\/X.env.scope.names.lookup x=some .local:=by (first | exact .inl rfl | exact .inr rfl | assumption)):uG X (Fr.pure C n0 S0 H0 has) (.Assign [.Name x fZ] (.Dict [some ke] [ve] p) pos::rest) (wa i uk uv w):=by
 have Ft:xa X rest (λD σ H=>∃(Y:kx) (a:Addr) (S:List Addr) (H1:Hp) (hk:Ai Y H1 a) (hS:a∈S) (hs:∀b∈S,H1 b≠none),A6 (Fr.known C Y i a n0 S H1 hk hS hs) (w Y) D σ H) :=
  ⟨λpins s σ H D I q=>let ⟨Y,a,S,H1,hk,hS,hs,h⟩:=q;(hr Y a S H1 hk hS hs).run.run pins s σ H D I h⟩
 refine⟨(eD (gC hN hi hx (⟨yi hu hk.run.run hv.run.run⟩:QE X _ _) hs hf) Ft).weaken λD σ H h=>A7 h λenv pn S n E h=>?_⟩;obtain⟨ok,⟨hlen,hu⟩,CL,PF⟩:=h;intro a ha;have x0:Ext (Fr.pure C n0 S0 H0 has).gs H (d3 H a (.dT [])):=.new ha;have JT:=ok.hold (H':=d3 H a (.dT [])) ha (by rw[dq];simp) x0 (ok.grow (.new ha));have JU:a ∉ (Fr.pure C n0 S0 H0 has).gs:=by simp[Fr.pure]
 refine⟨env,pn,a::S,n,_,JT,hu,λy H1 kd n1 r1 x1 g1 _ q=>?_⟩;have iR:=JT.step x1 g1;refine⟨env,pn,a::S,n1,_,iR,q,λv H2 d n2 r2 x2 g2 _ q=>?_⟩;have uI:=iR.step x2 g2;obtain⟨kk,ek,Y,hT,Qq,hL,VP,hw⟩:=q;have h2:H2 a=some (.dT []):=x2.keep _ _ JU (x1.keep _ _ JU dq);obtain⟨b,rfl,hb⟩:=qF (gs:=[]) (.inl (r1.ext (x2.mono iR.qA))) ek;have VQ:H0 a=none:=ok.anew ha;have xS:Ext (a::S) H2 (d3 H2 a (mY true [(kk,d)] [v])):=.ye (t:=true) (kvs:=[]) (xs:=[]) (!4) h2;have Qr:Ai Y (d3 H2 a (mY true [(kk,d)] [v])) a:=⟨[(kk,d)],[v],dq,(dm.cons (r2.ext xS) .nil).any (by simp[jk,Qq]),λp hp=>by rw[am.mp hp];exact⟨hT,Qq⟩,!4,λp hp=>by rw[am.mp hp];exact hL,by simp[VP]⟩
 have ng:∀c∈a::S,d3 H2 a (mY true [(kk,d)] [v]) c≠none:=λc hc=>by
  by_cases z:c=a
  .rw[z,dq];simp
  .rw[dC z];exact uI.has c hc
 refine⟨h2,b,_,rfl,hb,Y,a,a::S,_,Qr,aq ..,ng,(env.map Ir).set i none,[],a::S,n2,_,⟨λj e he=>?_,λj l ds es c h1=>?_,by rw[aZ,ar,aZ,ok.len],λj hj=>?_,⟨g2,Qr⟩,.refl _ _,λc hc=>hc,λc hc=>.inl hc,ng,λq hq=>by cases hq⟩,hw,λ_ _ _ _ _ _ z=>z.elim,λv' H' d' n' rv xx g q=>?_⟩
 .obtain⟨VR,d',rfl,Cz⟩:=BA he
  obtain⟨w',Ph,kF⟩:=uI.val j _ Cz;exact⟨w',by rw[aN (λz=>VR z.symm)];exact Ph,dR.ext xS kF⟩
 .obtain⟨_,d',e,_⟩:=BA h1
  cases e
 .have e:j=i:=am.mp hj
  rw[e];exact iz (by rw[<- ok.len];exact hlen)
 .refine PF v' H' d' n' (rv.less λc hc=>ai _ (ok.s0 c hc)) ⟨λc o hc PH=>?_,λc ys PH=>?_⟩ ?_ q
  .have T8:c≠a:=λz=>by rw[z] at PH;exact absurd (PH.symm.trans VQ) (!4)
   refine xx.keep c o (by simpa [Fr.known] using T8) ?_;show d3 H2 a _ c=_;rw[dC T8];exact uI.ext.keep c o hc PH
  .exact xx.tup c ys (xS.tup c ys (uI.ext.tup c ys PH))
  .exact g.1
end
end L2
open PySem
namespace Odj
end Odj
open PySem
namespace Odj
noncomputable abbrev sZ:=List (Int × Bool)
noncomputable def gr (o:sZ)(k:Int):Bool:=((o.find? λp=>decide (p.1=k)).map (·.2)).getD false
noncomputable def fu (o:sZ)(k:Int):sZ:=if o.any (λp=>decide (p.1=k)) then o.map (λp=>if p.1=k then (p.1,!(gr o k)) else p) else o++[(k,!(gr o k))]
noncomputable def dN (row:List Int):sZ:=row.foldl fu []
noncomputable def jK (o:sZ):List Int:=(o.filter (·.2)).map (·.1)
noncomputable def eK (o:sZ):List Int:=o.map (·.1)
theorem uV (o:sZ)(k:Int):eK (fu o k)=if k∈eK o then eK o else eK o++[k]:=by
 unfold fu eK;by_cases h:k∈o.map (·.1)
 .have h':o.any (λp=>decide (p.1=k))=true:=by
   obtain⟨p,hp,e⟩:=aM.mp h;exact ci.mpr ⟨p,hp,decide_eq_true e⟩
  rw[if_pos h',if_pos h,bx];apply b8;intro p _;simp only[Function.comp];split<;>rfl
 .have h':¬ o.any (λp=>decide (p.1=k))=true:=by
   intro z;obtain⟨p,hp,e⟩:=ci.mp z;exact h (aM.mpr ⟨p,hp,of_decide_eq_true e⟩)
  rw[if_neg h',if_neg h,aQ];rfl
theorem Ak (h:(eK o).Nodup):(eK (fu o k)).Nodup:=by
 rw[uV];split
 .exact h
 .rename_i hk
  rw[b4];refine⟨h,!4,λa ha b hb=>?_⟩;have:b=k:=by simpa using hb
  subst this;intro z;subst z;exact hk ha
theorem Fu (o:sZ)(k:Int):(fu o k).length<=o.length+1:=by
 unfold fu;split
 .simp
 .simp
theorem Fv (h:x∈eK (fu o k)):x=k\/x∈eK o:=by
 rw[uV] at h;split at h
 .exact .inr h
 .rcases aY.mp h with z | z
  .exact .inr z
  .exact .inl (by simpa using z)
theorem Fw {o:sZ}(h:(eK o).Nodup){i:Nat}{p:Int × Bool}(hp:o[i]? = some p):gr o p.1=p.2:=by
 induction o generalizing i with
 | nil=>cases hp
 | cons q o ih =>
  unfold eK at h;rw[ak,bb] at h
  cases i with
  | zero =>
   have:q=p:=by simpa using hp
   subst this;simp[gr]
  | succ i =>
   have Qs:o[i]? = some p:=by simpa using hp
   have hm:p.1∈o.map (·.1):=aM.mpr ⟨p,bY Qs,rfl⟩;have iy:¬ q.1=p.1:=λz=>h.1 (z ▸ hm);have:=ih h.2 Qs;unfold gr at this ⊢;rw[bD];simp only[iy,decide_false];exact this
end Odj
open PySem
namespace Odj
theorem rY:∀{l1 l2:List Int},l1.Pairwise (· < ·)->l2.Pairwise (· < ·)->(∀k,k∈l1↔k∈l2)->l1=l2
 | [],[],_,_,_=>rfl
 | [],b::l2,_,_,h=>absurd ((h b).mpr (aq ..)) (!4)
 | a::l1,[],_,_,h=>absurd ((h a).mp (aq ..)) (!4)
 | a::l1,b::l2,h1,h2,h=>by
  obtain⟨q1,r1⟩:=cb.mp h1;obtain⟨q2,r2⟩:=cb.mp h2
  have e:a=b:=by
   rcases au.mp ((h a).mp (aq ..)) with z | z
   .exact z
   .rcases au.mp ((h b).mpr (aq ..)) with y | y
    .exact y.symm
    .have:=q2 a z
     have:=q1 b y;omega
  subst e;rw[rY r1 r2 λk=>?_];constructor
  .intro hk
   rcases au.mp ((h k).mp (ai _ hk)) with z | z
   .have:=q1 k hk
    omega
   .exact z
  .intro hk
   rcases au.mp ((h k).mpr (ai _ hk)) with z | z
   .have:=q2 k hk
    omega
   .exact z
noncomputable def Al (row ns:List Int):Prop:=ns.Pairwise (· < ·)/\∀k,k∈ns↔row.count k % 2=1
end Odj
namespace Odj
open PySem L2
noncomputable def dG (row:List Int):List Int:=o9 (row.filter λk=>decide (row.count k % 2=1))
noncomputable def fy:UF:=λds n Q _=>match ds with
 | [.list es]=>lq (gO es) λrow=>((jI row).length<=60/\row.length<=100000)/\Q (.tuple ((dG row).map .int)) n
 | [.tuple es]=>lq (gO es) λrow=>((jI row).length<=60/\row.length<=100000)/\Q (.tuple ((dG row).map .int)) n
 | _=>False
noncomputable def FL (c:Str):List Str:=(([]:List (Str × List Str)).lookup c).getD []
noncomputable abbrev XC (cl:Str->Addr):Xc:=⟨cl,FL⟩
noncomputable def nK:US:=(eA (dw fy (dg (dI iQ (df 0) (df 1)) di)))
noncomputable def eZ:UF:=jH 2 2 (λ_=>nK)
noncomputable def pk:US:=(du (rL 2 di)
 (du (nB (Cy 1) (g6 3)
 (jF 2 jG (dg (zU (dI fj (dI fj (df 0) (uC (.int 1))) (df 3)) Bi (Bj (uC (.int 2)))) di)))
 (eA (nC fy (dg (df 2) di)))))
noncomputable def mL:UF:=jH 4 2 (λ_=>pk)
noncomputable def wc:US:=(eA (m6 fQ (dg (uL (iH (RR (dI fj (df 0) (uC (.int 1)))) [none,none] (HF [(g6 0),(g6 1)]) (dY (dI Er (dI fj (df 1) (uC (.int 2))) (uC (.int 0)))) (dr 0))) di)))
noncomputable def oG:UF:=jH 1 1 (λ_=>wc)
noncomputable def rZ:US:=(eA (eM (dg (dI fj (df 0) (uC (.int 0))) (dg (m6 fQ (dg (uL (iH (HG (dI fj (df 0) (uC (.int 1)))) [none,none,none] (HF [(g6 1),(g6 0),(g6 2)]) vU (eM (dg (dr 1) (dg (dr 0) (dg (m6 zW (dg (df 2) di)) di)))))) di)) di))))
noncomputable def oH:UF:=jH 1 1 (λ_=>rZ)
noncomputable def jU:US:=(eA (dw eZ (dg (dr 1) (dg (dw mL (dg (dr 0) (dg (dw oG (dg (dr 0) di)) di))) di))))
noncomputable def iB:UF:=jH 2 2 (λ_=>jU)
noncomputable def kO:US:=(eA (dw eZ (dg (dr 1) (dg (dw oG (dg (dr 0) di)) di))))
noncomputable def gS:UF:=jH 2 2 (λ_=>kO)
noncomputable def lY:US:=(eA (Cs (dY (dI vQ (dI fj (df 0) (uC (.int 0))) (df 1))) (dI fj (df 0) (uC (.int 1))) (dI fj (df 0) (uC (.int 0)))))
noncomputable def jL:UF:=jH 2 2 (λ_=>lY)
noncomputable def iU:US:=(du (rL 2 di)
 (du (nB (Pb (dI fj (df 0) (uC (.int 1)))) (HF [(g6 3),(g6 4)])
 (fR (dY (dI Bg (v8 (dI fj (df 4) (uC (.int 0))) (df 1)) (v8 (dI fj (df 4) (uC (.int 1))) (df 1)))) (du (dW 5 (Cs (dY (v8 (dI fj (df 4) (uC (.int 0))) (df 1))) (dI fj (df 4) (uC (.int 0))) (dI fj (df 4) (uC (.int 1)))))
 (jF 2 iA (dg (eM (dg (dI iQ (dI fj (lX (df 1) (df 5)) (uC (.int 0))) (dI fj (df 4) (uC (.int 2)))) (dg (dw jL (dg (dr 4) (dg (dr 5) di))) (dg (dw eZ (dg (dI fj (lX (df 1) (df 5)) (uC (.int 1))) (dg (eM (dg (dr 3) di)) di))) di)))) di))) fh))
 (eA (Fe (df 2)))))
noncomputable def fk:UF:=jH 6 2 (λ_=>iU)
noncomputable def lZ:US:=(du (Ad 2 (dr 1) (eM (dg (uC (.int 0)) (dg (eM di) di))))
 (du (dW 3 (nC fk (dg (df 0) (dg (df 2) di))))
 (du (o4 (dY (dI p9 (df 3) (uC .none)))
 (du (pR 2 (dI fj (df 3) (uC (.int 1))) (eM (dg (dI fj (df 3) (uC (.int 0))) (dg (dI fj (df 3) (uC (.int 2))) di))))
 (dW 3 (nC fk (dg (df 0) (dg (df 2) di))))))
 (lS 2))))
noncomputable def iK:UF:=jH 4 2 (λ_=>lZ)
noncomputable def jV:US:=(du (dW 3 (dw iK (dg (dr 0) (dg (dr 1) di))))
 (eA (Cs (dY (v8 (df 2) (df 3))) (dI fj (lX (df 3) (df 2)) (uC (.int 1))) (uC .none))))
noncomputable def gu:UF:=jH 4 3 (λ_=>jV)
noncomputable def jn:US:=(du (dW 2 (dw iK (dg (dr 0) (dg (dr 1) di))))
 (eA (m6 fQ (dg (uL (iH (L5 (dI fj (df 0) (uC (.int 0)))) [none,some 2] (g6 0) vU (Cs (dY (v8 (df 0) (df 1))) (dI fj (lX (df 1) (df 0)) (uC (.int 0))) (uC .none)))) di))))
noncomputable def gT:UF:=jH 3 2 (λ_=>jn)
noncomputable def jW:US:=(eA (uL (iH (L5 (dI fj (df 0) (uC (.int 0)))) [none,some 0] (g6 0) vU (dw gT (dg (dr 1) (dg (dr 0) di))))))
noncomputable def iC:UF:=jH 1 1 (λ_=>jW)
noncomputable def ig (Y:kx)(Rc:kx->UF):US:=(du (dW 3 (dI fj (df 1) (uC (.int 0))))
 (du (rL 4 di)
 (du (nB (Pa (zU (df 1) (Bj (uC (.int 1))) Bi)) (g6 5)
 (du (dW 6 (dw (Rc Y) (dg (dr 0) (dg (dw eZ (dg (dr 1) (dg (eM (dg (dr 3) (dg (dr 5) di))) di))) di))))
 (fR (Cr (dY (dI p9 (dI fj (dI fj (df 0) (df 3)) (df 5)) (uC .none))) (dY (dI p9 (df 6) (uC .none)))) (jF 4 iA (dg (eM (dg (dI iQ (dI fj (dI fj (df 0) (df 3)) (df 5)) (df 6)) (dg (dr 5) di))) di)) fh)))
 (lS 4))))
noncomputable def fH (Rc:kx->UF):kx->UF:=λY=>Fo 7 3 (ig Y Rc)
noncomputable def iV (Y:kx)(Rc:kx->UF):US:=(Fp Y 1 (dW 3 (dw (Rc Y) (dg (dr 0) (dg (dr 1) di)))) (Cs (dY (dI F7 (m6 om (dg (df 3) di)) (uC (.int 0)))) (dI fj (m6 ya (dg (df 3) di)) (uC (.int 0))) (uC .none)))
noncomputable def iW (Rc:kx->UF):kx->UF:=λY=>Fo 4 3 (iV Y Rc)
noncomputable def fI:Nat->kx->UF
 | 0=>λ_=>Pl
 | d+1=>iW (fH (fI d))
noncomputable def gx:kx->UF:=fI 5
noncomputable def ij:kx->UF:=fH gx
noncomputable def jX:US:=(du (dW 2 (dw iC (dg (dr 0) di)))
 (wa 3 (eM di) (uC (.int 0)) λY=>(du (fR (dY (dI Ct (dw (gx Y) (dg (dr 2) (dg (dr 1) di))) (uC .none))) (eA (uC .none)) fh)
 (du (rL 4 di)
 (du (dW 5 (dr 1))
 (du (o4 (dY (dI Bg (df 5) (eM di)))
 (du (dW 6 (eM (dg (dI fj (df 5) (uC (.int 0))) (dg (dI fj (m6 ya (dg (dw (ij Y) (dg (dr 2) (dg (dr 5) di))) di)) (uC (.int 1))) di))))
 (du (jF 4 iA (dg (dr 6) di))
 (dW 5 (dw eZ (dg (dr 5) (dg (dr 6) di)))))))
 (eA (m6 fQ (dg (df 4) di)))))))))
noncomputable def iD:UF:=jH 7 2 (λ_=>jX)
noncomputable def kP:US:=(du (dW 2 (dw oH (dg (dr 0) di)))
 (du (dW 3 (dw iD (dg (dr 2) (dg (dw iB (dg (dr 0) (dg (dr 1) di))) di))))
 (du (fR (dY (dI Ct (df 3) (uC .none))) (eA (uC .none)) fh)
 (du (dW 4 (eM di))
 (du (nB (Cy 3) (g6 5)
 (dW 4 (dw eZ (dg (dr 4) (dg (dw gu (dg (dr 2) (dg (dI fj (df 5) (uC (.int 0))) (dg (dI fj (df 5) (uC (.int 1))) di)))) di)))))
 (eA (dw gS (dg (dr 0) (dg (dr 4) di)))))))))
noncomputable def gU:UF:=jH 6 2 (λ_=>kP)
noncomputable def l3:US:=(du (dW 2 (dI fj (uL (dg (uC (.int 0)) (dg (uC (.int 1)) (dg (uC (.int 2)) (dg (uC (.int 3)) (dg (uC (.int 5)) (dg (uC (.int 7)) (dg (M' xE (uC (.int 1))) (dg (M' xE (uC (.int 2))) (dg (M' xE (uC (.int 3))) (dg (uC (.int 99)) (dg (M' xE (uC (.int 99))) (dg (uC (.int 1)) di))))))))))))) (dw gm (dg (uC (.int 12)) di))))
 (eA (Cs (dY (dr 1)) (m6 zW (dg (df 2) di)) (dr 2))))
noncomputable def jM:UF:=gN 3 2 (λ_=>l3)
noncomputable def pq:US:=(du (dW 4 (dI iQ (uC (.int 1)) (dw gm (dg (dr 1) di))))
 (du (rL 5 di)
 (du (nB (RS (dI vP (dw gm (dg (dI iQ (df 2) (uC (.int 1))) di)) (m6 intD (dg (dI F7 (df 4) (uC (.int 1))) di)))) (g6 6)
 (du (dW 7 (dw gm (dg (dr 4) di)))
 (du (dW 8 (dI Hw (dI iQ (dI iQ (df 7) (uC (.int 1))) (dw gm (dg (dI zT (df 4) (uC (.int 1))) di))) (df 4)))
 (du (jF 5 iA (dg (eM (dg (m6 xH (dg (df 7) (dg (df 8) di))) (dg (m6 xI (dg (df 7) (dg (df 8) di))) (dg (dw jM (dg (dr 3) di)) di)))) di))
 (fR (Cr (dY (dI vQ (dw gm (dg (uC (.int 8)) di)) (uC (.int 0)))) (dY (dI Er (m6 om (dg (df 5) di)) (df 2)))) (jF 5 iA (dg (dI fj (df 5) (M' xE (uC (.int 1)))) di)) fh)))))
 (eA (eM (dg (dr 4) (dg (m6 fQ (dg (zU (df 5) Bi (Bj (dr 2))) di)) di)))))))
noncomputable def mM:UF:=gN 9 4 (λ_=>pq)
noncomputable def jo:US:=(du (dW 2 (dI iQ (uL (iH (HG (df 0)) [none,some 1] (g6 0) (dY (dI Es (df 0) (df 1))) (dr 0))) (uL (iH (HG (df 1)) [none,some 0] (g6 0) (dY (dI Es (df 0) (df 1))) (dr 0)))))
 (eA (m6 fQ (dg (uL (JN (df 2))) di))))
noncomputable def e8:UF:=jH 3 2 (λ_=>jo)
noncomputable def nL:US:=(du (dW 2 (eM di))
 (du (nB (Cy 1) (g6 3)
 (dW 2 (dw e8 (dg (dr 2) (dg (zU (dI fj (dI fj (df 0) (uC (.int 1))) (df 3)) Bi (Bj (uC (.int 2)))) di)))))
 (eA (dr 2))))
noncomputable def jq:UF:=jH 4 2 (λ_=>nL)
noncomputable def jr:US:=(eA (m6 xZ (dg (uL (iH (HG (df 1)) [none,some 0] (g6 0) vU (dI fj (dI fj (dI fj (df 1) (uC (.int 1))) (df 0)) (uC (.int 2))))) di)))
noncomputable def f':UF:=jH 2 2 (λ_=>jr)
noncomputable def jY:US:=(eA (m6 fQ (dg (uL (iH (L5 (m6 om (dg (dI fj (df 1) (uC (.int 1))) di))) [none,some 0] (g6 0) (dY (dI vQ (dw gm (dg (uC (.int 2)) di)) (uC (.int 0)))) (dr 0))) di)))
noncomputable def iE:UF:=gN 2 2 (λ_=>jY)
noncomputable def js:US:=(eA (m6 fQ (dg (uL (iH (L5 (dI fj (df 1) (uC (.int 0)))) [none,some 0] (g6 0) (dY (dI vQ (dw gm (dg (uC (.int 2)) di)) (uC (.int 0)))) (dr 0))) di)))
noncomputable def fJ:UF:=gN 2 2 (λ_=>js)
noncomputable def nM:US:=(du (fR (dY (dI F7 (dw gm (dg (uC (.int 4)) di)) (uC (.int 0)))) (eA (dw jq (dg (dr 1) (dg (dw iE (dg (dr 1) di)) di)))) fh)
 (eA (dw fJ (dg (dr 1) di))))
noncomputable def kQ:UF:=gN 2 2 (λ_=>nM)
noncomputable def l4:US:=(eA (pM (HM "int" (df 0)) (pM (Jz (HM "bool" (df 0))) (dI Na (df 0) (df 1)))))
noncomputable def l5:UF:=jH 2 2 (λ_=>l4)
noncomputable def iX:US:=(du (fR (Eo (zQ (dY (HM "tuple" (df 0)))) (dY (dI inD (uC (.bool false)) (uL (iH (HG (df 0)) [none] (g6 0) vU (dw l5 (dg (dr 0) (dg (uC (.int 0)) di)))))))) (eA (uC (.bool false))) fh)
 (eA (pM (dI vQ (uL (JG (df 0))) (uL (EK (df 0)))) (dI vQ (uL (iH (HG (df 0)) [none,some 1] (g6 0) (dY (dI Na (df 0) (df 1))) (dr 0))) (uL di)))))
noncomputable def gy:UF:=jH 2 2 (λ_=>iX)
noncomputable def l6:US:=(du (Ah 1 (eM di) (eM (dg (uC (.int 0)) (dg (eM di) di))))
 (du (nB (Pb (dI fj (df 0) (uC (.int 1)))) (HF [(g6 2),(g6 3)])
 (du (pj 4 1)
 (du (yj 1 (g6 5)
 (du (dW 6 (dw e8 (dg (dr 5) (dg (zU (df 3) Bi (Bj (uC (.int 2)))) di))))
 (du (dW 7 (eM (dg (dI iQ (dI fj (pS 1 (df 5)) (uC (.int 0))) (dI fj (df 3) (uC (.int 2)))) (dg (dI iQ (dI fj (pS 1 (df 5)) (uC (.int 1))) (eM (dg (dr 2) di))) di))))
 (fR (Eo (dY (Bw 4 (df 6))) (dY (dI Er (dI fj (df 7) (uC (.int 0))) (dI fj (yf 4 (df 6)) (uC (.int 0)))))) (pR 4 (df 6) (dr 7)) fh))))
 (rW 1 4))))
 (lS 1)))
noncomputable def jN:UF:=jH 8 1 (λ_=>l6)
noncomputable def l7:US:=(du (dW 2 (dw gm (dg (uC (.int 12)) di)))
 (du (fR (Cr (dY (dI vQ (df 2) (uC (.int 0)))) (dY (dI vQ (df 1) (uC (.int 0))))) (eA (eM (dg (uC (.int 9)) (dg (uC (.int 16)) di)))) fh)
 (eA (Cs (dY (dI Er (df 2) (uC (.int 3)))) (eM (dg (uC (.int 3)) (dg (uC (.int 16)) di))) (eM (dg (uC (.int 6)) (dg (uC (.int 9)) di)))))))
noncomputable def jO:UF:=gN 3 2 (λ_=>l7)
noncomputable def l8:US:=(du (dW 3 (uJ (eM (dg (dr 0) (dg (dr 1) di)))))
 (du (dW 4 (dw gU (dg (dr 0) (dg (dr 1) di))))
 (du (fR (Eo (dY (dI Aa (uJ (eM (dg (dr 0) (dg (dr 1) di)))) (df 3))) (dY (dI Bg (dI Ct (df 4) (uC .none)) (yh (df 1) (df 2))))) (eA (uC (.bool false))) fh)
 (du (fR (dY (dI Ct (df 4) (uC .none))) (eA (uC (.bool true))) fh)
 (du (fR (Eo (zQ (dY (dw gy (dg (dr 4) (dg (m6 om (dg (dI fj (df 0) (uC (.int 1))) di)) di))))) (dY (dI Bg (dw jq (dg (dr 0) (dg (dr 4) di))) (df 1)))) (eA (uC (.bool false))) fh)
 (du (dW 5 (dI fj (lX (df 2) (df 1)) (uC (.int 0))))
 (du (dW 6 (dw gU (dg (dr 0) (dg (dr 1) di))))
 (eA (pM (dI vQ (dw f' (dg (dr 0) (dg (dr 4) di))) (df 5)) (dI vQ (dw f' (dg (dr 0) (dg (dr 6) di))) (df 5)))))))))))
noncomputable def iL:UF:=jH 7 3 (λ_=>l8)
noncomputable def yk:US:=(du (nB (RS (uC (.int 3))) (g6 2)
 (du (HH (dw jO (dg (dr 2) di)) (HF [(g6 3),(g6 4)]))
 (du (dW 5 (dw mM (dg (dr 3) (dg (dr 4) (dg (dI vQ (dw gm (dg (uC (.int 3)) di)) (uC (.int 0))) di)))))
 (L7 (fR (dY (dI vQ (dw gm (dg (uC (.int 6)) di)) (uC (.int 0)))) (dW 5 (eM (dg (dI fj (df 5) (uC (.int 0))) (dg (m6 fQ (dg (uL (iH (HG (dI fj (df 5) (uC (.int 1)))) [none] (g6 0) vU (dI iQ (zU (df 0) Bi (Bj (uC (.int 2)))) (eM (dg (dI zT (uC (.int 0)) (m6 zW (dg (dI fj (df 0) (uC (.int 2))) di))) di))))) di)) di)))) fh)
 (du (dW 6 (dw jN (dg (dr 5) di)))
 (du (dW 7 (uL (dg (dw kQ (dg (dr 5) di)) (dg (dw fJ (dg (dr 5) di)) (dg (eM di) (dg (JI (JH (dI fj (df 5) (uC (.int 0))))) di))))))
 (nB (Pa (zU (df 7) Bi (Bj (dI zT (uC (.int 4)) (dI vP (uC (.int 2)) (m6 intD (dg (dI F7 (dI fj (df 5) (uC (.int 0))) (uC (.int 6))) di))))))) (g6 8)
 (fR (zQ (dY (dw iL (dg (dr 5) (dg (dr 8) (dg (dr 6) di)))))) (eA (uC (.bool false))) fh))))))))
 (eA (uC (.bool true))))
noncomputable def top (i:Nat):Stmt:=PySem.Challenge.pw_oddjoins_k25_least_joins_told.main.body.getD i (.Pass ⟨0,0,0,0⟩)
structure ly (mg:Str->Option ag):Prop where
 abs:mg "abs" = none
 bool:mg "bool" = none
 dict:mg "dict" = none
 enumerate:mg "enumerate" = none
 int:mg "int" = none
 isinstance:mg "isinstance" = none
 len:mg "len" = none
 list:mg "list" = none
 max:mg "max" = none
 min:mg "min" = none
 range:mg "range" = none
 repr:mg "repr" = none
 set:mg "set" = none
 sorted:mg "sorted" = none
 sum:mg "sum" = none
 tuple:mg "tuple" = none
noncomputable abbrev N2:List Str:=["one", "other"]
noncomputable abbrev N3:List Str:=["web", "some", "ends", "number"]
noncomputable abbrev N4:List Str:=["number", "tie"]
noncomputable abbrev N5:List Str:=["web"]
noncomputable abbrev N6:List Str:=["high", "low", "price"]
noncomputable abbrev N7:List Str:=["web", "told"]
noncomputable abbrev N8:List Str:=["web", "some"]
noncomputable abbrev N9:List Str:=["tie", "place"]
noncomputable abbrev VS:List Str:=["web", "place", "found", "step"]
noncomputable abbrev VT:List Str:=["web", "found", "steps", "number", "tie", "near"]
noncomputable abbrev VU:List Str:=["web", "one", "other", "found"]
noncomputable abbrev T9:List Str:=["other", "found"]
noncomputable abbrev Ua:List Str:=["web", "place", "found"]
noncomputable abbrev Ub:List Str:=["place", "web"]
noncomputable abbrev VW:List Str:=["heights", "told", "known", "offers"]
noncomputable abbrev VX:List Str:=["heights", "told", "known", "first", "offers", "other", "rest"]
noncomputable abbrev VY:List Str:=["web", "told", "heights", "known", "pairs", "left", "pair"]
noncomputable abbrev VZ:List Str:=["web", "told", "plain", "pairs", "join", "pair"]
noncomputable abbrev V0:List Str:=["_law_feed_here", "_law_is_plain", "_law_price_here"]
noncomputable abbrev V1:List Str:=["_law_feed_here", "_law_most", "_law_many_ties", "_law_is_plain", "_law_many", "_law_ties", "_law_k", "_law_a", "_law_b"]
noncomputable abbrev Uc:List Str:=["_law_thing", "_law_other"]
noncomputable abbrev Sv:List Str:=["_law_one", "_law_other", "_law_both"]
noncomputable abbrev Ud:List Str:=["_law_thing", "_law_one"]
noncomputable abbrev V2:List Str:=["_law_web_here", "_law_some", "_law_found", "_law_number"]
noncomputable abbrev Ue:List Str:=["_law_number", "_law_web_here"]
noncomputable abbrev Ug:List Str:=["_law_web_here", "_law_some"]
noncomputable abbrev Uh:List Str:=["_law_number", "_law_feed_here"]
noncomputable abbrev PJ:List Str:=["_law_feed_here", "_law_web_here"]
noncomputable abbrev Ui:List Str:=["_law_place", "_law_feed_here"]
noncomputable abbrev V3:List Str:=["_law_thing", "_law_least_here"]
noncomputable abbrev Uj:List Str:=["_law_one", "_law_many"]
noncomputable abbrev Sw:List Str:=["_law_thing", "_law_many"]
noncomputable abbrev Uk:List Str:=["_law_one"]
noncomputable abbrev V4:List Str:=["_law_web_here", "_law_found", "_law_number", "_law_tie", "_law_more", "_law_odds_here", "_law_other", "_law_best"]
noncomputable abbrev V5:List Str:=["_law_feed_here", "_law_k", "_law_way"]
noncomputable abbrev V6:List Str:=["_law_web_here", "_law_told_here", "_law_least_here", "_law_kept", "_law_found", "_law_due", "_law_again"]
noncomputable abbrev Ul:List Str:=["_law_tie"]
noncomputable abbrev Um:List Str:=["_law_script", "_law_feed_here", "_law_k", "_law_most", "_law_many", "_law_web_here", "_law_least_here", "_law_some", "_law_told_here"]
section
variable (P:a5)(w:World)(K:W.Frag)(mg:Str->Option ag)(base:Heap)(cl:Str->Addr)(Y:xQ)
noncomputable abbrev nN:Prop:=dJ P w K mg base 1 "odd_ones" ["row"] (o8 (XC cl) fy)
noncomputable abbrev eR:Prop:=dJ P w K mg base 2 "by_turns" ["one", "other"] (o8 (XC cl) eZ)
noncomputable abbrev pw:Prop:=dJ P w K mg base 2 "odds_of" ["web", "some"] (o8 (XC cl) mL)
noncomputable abbrev qH:Prop:=dJ P w K mg base 1 "below" ["web"] (o8 (XC cl) oG)
noncomputable abbrev r6:Prop:=dJ P w K mg base 1 "turned" ["web"] (o8 (XC cl) oH)
noncomputable abbrev jZ:Prop:=dJ P w K mg base 3 "turned_told" ["web", "told"] (o8 (XC cl) iB)
noncomputable abbrev kR:Prop:=dJ P w K mg base 3 "turned_set" ["web", "some"] (o8 (XC cl) gS)
noncomputable abbrev l9:Prop:=dJ P w K mg base 1 "other_end" ["tie", "place"] (o8 (XC cl) jL)
noncomputable abbrev jP:Prop:=dJ P w K mg base 4 "ways_from" ["web", "place"] (o8 (XC cl) iK)
noncomputable abbrev iY:Prop:=dJ P w K mg base 3 "cheapest_step" ["web", "found"] (o8 (XC cl) fk)
noncomputable abbrev j3:Prop:=dJ P w K mg base 5 "way_between" ["web", "one", "other"] (o8 (XC cl) gu)
noncomputable abbrev jt:Prop:=dJ P w K mg base 5 "heights_from" ["web", "place"] (o8 (XC cl) gT)
noncomputable abbrev j4:Prop:=dJ P w K mg base 6 "all_heights" ["web"] (o8 (XC cl) iC)
noncomputable abbrev gA:Prop:=dJ P w K mg base 12 "pairing_price" ["heights", "told", "known"] (Gb gx)
noncomputable abbrev ik:Prop:=dJ P w K mg base 13 "partner_offers" ["heights", "told", "known"] (Gb ij)
noncomputable abbrev j5:Prop:=dJ P w K mg base 14 "least_pairs" ["web", "told"] (o8 (XC cl) iD)
noncomputable abbrev kS:Prop:=dJ P w K mg base 15 "least_join" ["web", "told"] (o8 (XC cl) gU)
noncomputable abbrev gc:Prop:=dJ P w K mg base 1 "_law_take" ["_law_feed_here", "_law_many"] (rM Y gm)
noncomputable abbrev ma:Prop:=dJ P w K mg base 2 "_law_price" ["_law_feed_here", "_law_is_plain"] (rM Y jM)
noncomputable abbrev px:Prop:=dJ P w K mg base 3 "_law_web" ["_law_feed_here", "_law_most", "_law_many_ties", "_law_is_plain"] (rM Y mM)
noncomputable abbrev gV:Prop:=dJ P w K mg base 1 "_law_by_turns" ["_law_one", "_law_other"] (o8 (XC cl) e8)
noncomputable abbrev kT:Prop:=dJ P w K mg base 2 "_law_odds" ["_law_web_here", "_law_some"] (o8 (XC cl) jq)
noncomputable abbrev ju:Prop:=dJ P w K mg base 1 "_law_price_of" ["_law_web_here", "_law_some"] (o8 (XC cl) f')
noncomputable abbrev j6:Prop:=dJ P w K mg base 2 "_law_any_set" ["_law_feed_here", "_law_web_here"] (rM Y iE)
noncomputable abbrev gW:Prop:=dJ P w K mg base 2 "_law_any_side" ["_law_feed_here", "_law_web_here"] (rM Y fJ)
noncomputable abbrev nO:Prop:=dJ P w K mg base 3 "_law_told" ["_law_feed_here", "_law_web_here"] (rM Y kQ)
noncomputable abbrev me:Prop:=dJ P w K mg base 1 "_law_whole" ["_law_thing", "_law_least_here"] (o8 (XC cl) l5)
noncomputable abbrev iZ:Prop:=dJ P w K mg base 2 "_law_is_rising" ["_law_thing", "_law_many"] (o8 (XC cl) gy)
noncomputable abbrev mf:Prop:=dJ P w K mg base 2 "_law_least" ["_law_web_here"] (o8 (XC cl) jN)
noncomputable abbrev mh:Prop:=dJ P w K mg base 2 "_law_sizes" ["_law_feed_here", "_law_k"] (rM Y jO)
noncomputable abbrev mn:Prop:=dJ P w K mg base 16 "_law_right" ["_law_web_here", "_law_told_here", "_law_least_here"] (o8 (XC cl) iL)
end
end Odj
namespace L2
open PySem PySem.Spec PyProof.Rows
theorem fU.new {K:W.Frag}{H:Hp}{a p:Addr}{xs:List V}{o:HO}(h:fU K H a xs)(hp:H p=none):fU K (d3 H p o) a xs:=by
 rcases h with h | h
 .refine .inl ?_
  rcases h with h | ⟨u,h⟩
  .exact .inl (by rw[dC (eW h hp)];exact h)
  .exact .inr ⟨u,by rw[dC (eW h hp)];exact h⟩
 .exact .inr h
noncomputable def Sx (K:W.Frag):R2:=λx y H Q=>∃(a b:Addr) (ns:List Int),x=.ref a/\y=.ref b/\fU K H a (ns.map V.int)/\H b=some (.lst [])/\af.canLayAll0 (ns.map af.int)=true/\(af.list (ns.map af.int)).depth<=60/\Q (.bl (af.eqv (.list (ns.map .int)) (.list []))) H
theorem My {X:Cx}{k:Nat}(K:W.Frag)(hr:f6 k X.A)(hk:X.K=K:=by rfl):kC X (compareOp .Eq) (Sx K):=by
 subst hk;intro pins s σ H x y v u Q I rx ry h;obtain⟨a,b,ns,rfl,rfl,ha,hb,c1,d1,q⟩:=h;cases rx;obtain⟨its,rv,⟨o,n,e,hc,_,hd⟩,_⟩:=I.list ha;obtain⟨as,ra⟩:=dm.reads (S:=[]) I.hok (by simpa [af.canLay0] using c1) (.ints ns) rv;obtain⟨bs,rb⟩:=dR.reads I.hok rfl (dR.lst (S:=[]) hb (!4) .nil) ry;have Cc:=hr.units;exact SeqAt.compareEq_reads (.list e hc hd (by simpa using ra)) rb c1 rfl (!1) ⟨.bl _,H,I,rfl,q⟩
end L2
namespace Odj
open PySem L2
theorem ym (ns:List Int):af.canLayAll0 (ns.map af.int)=true:=by
 induction ns with
 | nil=>rfl
 | cons n ns ih=>simpa [af.canLayAll0,af.canLay0] using ih
theorem Am (ns:List Int):af.depthAll (ns.map af.int)=0:=by
 induction ns with
 | nil=>rfl
 | cons n ns ih=>simpa [af.depthAll,af.depth] using ih
structure iT (H:Hp) (fa sa:Addr) (n:Int):Prop where
 ex:∃(k:Int) (ns:List Int) (i c:Int),H fa=some (.lst [.ref sa,.int i,.int c])/\H sa=some (.lst ((k::ns).map V.int))/\0<=i/\i<=n
 ne:sa≠fa
 lo:0<=n
theorem iT.ext {S:List Addr}{H H':Hp}{fa sa:Addr}{n:Int}(f:iT H fa sa n)(x:Ext S H H')(h1:fa ∉ S)(h2:sa ∉ S):iT H' fa sa n:=by
 obtain⟨k,ns,i,c,e1,e2,e3⟩:=f.ex;exact⟨⟨k,ns,i,c,x.keep _ _ h1 e1,x.keep _ _ h2 e2,e3⟩,f.ne,f.lo⟩
theorem iT.put {H:Hp}{fa sa:Addr}{n:Int}(f:iT H fa sa n)(i c n':Int)(h0:0<=i)(h:i<=n'):iT (d3 H fa (.lst [.ref sa,.int i,.int c])) fa sa n'/\Ext [fa] H (d3 H fa (.lst [.ref sa,.int i,.int c])):=by
 obtain⟨k,ns,i0,c0,e1,e2,_⟩:=f.ex;exact⟨⟨⟨k,ns,i,c,dq,by rw[dC f.ne];exact e2,h0,h⟩,f.ne,!1⟩,.set (!4) e1⟩
noncomputable def tM:xQ where
 iT:=iT
 ext:=λf x h1 h2=>f.ext x h1 h2
 fa:=λf=>let ⟨_,_,_,_,e,_⟩:=f.ex;by rw[e];simp
 sa:=λf=>let ⟨_,_,_,_,_,e,_⟩:=f.ex;by rw[e];simp
 nx:=λf φ=>let ⟨_,_,_,_,e,_⟩:=f.ex;by rw[e];simp
noncomputable abbrev Mz (K:W.Frag):Sp:=qD tM K
noncomputable abbrev MA:Sp:=Bq tM
section
variable {P:a5}{w:World}{K:W.Frag}{mg:Str->Option ag}{base:Heap}{f:Addr}{fd:bH}
theorem MB (F:wZ K "_law_feed" "_law_feed" (top 24) f fd)(hm:mg "_law_feed" = some (.ref f))(B:ly mg):dJ P w K mg base 1 "_law_feed" ["_law_script"] (Mz K):=by
 refine⟨f,fd,?_,hm,F.kp,F.binds λ_ _ _ _ _ _ us hl=>by obtain⟨_,rfl⟩:=EX hl;rfl⟩;have sc:e9 ["_law_script"] ["_law_script"] (dn (top 24)):=⟨rfl,rfl,rfl,!3,rfl,!3,!3⟩;refine F.LJ sc (λvs H Q E h=>?_) (λeS A outer s H vs Q E hr h=>?_)
 .obtain⟨a,ns,rfl,_⟩:=h
  rfl
 .obtain⟨a,ns,rfl,hs,q⟩:=h
  refine⟨_,(gL (kJ (vE (gk (fA DI (xb (TJ K) (qv 0) AZ (A0 eu)) (fA DJ (vE (gk eu eG)) (gg tZ (by rfl) B.int (!3) (gk (AX (My K hr) (qv 0) (vE eG) (ji _)) eG)))) (gk eu (gk eu eG)))))),?_⟩;refine⟨_,rfl,63,rfl,a,_,rfl,hs,λp hp=>⟨by show 1<=aA;decide,λp1 Qt=>⟨_,rfl,bL _,λp2 F4=>⟨a,p2,ns,rfl,rfl,((hs.new hp).new Qt).new F4,dq,ym ns,by simp[af.depth,Am],.inr ⟨_,rfl,?_⟩⟩⟩⟩⟩
  obtain⟨cs,DF,yX,V7⟩:∃cs:List Int,nX (ns.map V.int) none (some 63)=cs.map V.int/\cs.length<=63/\(cs=[]->ns=[]):=by
   refine⟨(ns.drop (HT.gf (ns.map V.int).length 0 none)).take (HT.gf (ns.map V.int).length (ns.map V.int).length (some 63) - HT.gf (ns.map V.int).length 0 none),?_,?_,?_⟩
   .unfold nX
    rw[List.map_take,List.map_drop]
   .rw[HT.nV,show (63:Int)=((63:Nat):Int) from rfl,HT.qt]
    simp only[bF];omega
   .rw[HT.nV,show (63:Int)=((63:Nat):Int) from rfl,HT.qt]
    cases ns with
    | nil=>intro _;rfl
    | cons z zs=>intro h;simp at h
  rw[DF] at Qt F4 ⊢;have y1:Ext [] H (d3 H p (.lst (cs.map V.int))):=.new hp;have ep:(d3 H p (.lst (cs.map V.int))) p=some (.lst (cs.map V.int)):=dq;generalize d3 H p (.lst (cs.map V.int))=H1 at y1 ep Qt F4 ⊢;have y2:Ext [] H1 (d3 H1 p1 (.lst [.int 0])):=.new Qt;have M9:(d3 H1 p1 (.lst [.int 0])) p1=some (.lst [.int 0]):=dq;generalize d3 H1 p1 (.lst [.int 0])=H2 at y2 M9 F4 ⊢;have y3:Ext [] H2 (d3 H2 p2 (.lst [])):=.new F4;generalize d3 H2 p2 (.lst [])=H3 at y3 ⊢;have z1:=y3.keep _ _ (!4) M9;have z0:=y3.keep _ _ (!4) (y2.keep _ _ (!4) ep);have Uo:=(y1.trans y2).trans y3;generalize hb:af.eqv (.list (ns.map .int)) (.list [])=b;have OP:ns=[]->b=true:=λz=>by rw[<- hb,z];rfl
  refine⟨p1,_,_,rfl,rfl,z1,by cases b<;>decide,by cases b<;>decide,by cases b<;>decide,λp3 V8=>?_⟩;have y4:Ext [] H3 (d3 H3 p3 (.lst (List.replicate (if b=true then (1:Int) else 0).toNat [V.int 0]).flatten)):=.new V8;have z3:(d3 H3 p3 (.lst (List.replicate (if b=true then (1:Int) else 0).toNat [V.int 0]).flatten)) p3=some (.lst (List.replicate (if b=true then (1:Int) else 0).toNat [V.int 0]).flatten):=dq;generalize d3 H3 p3 (.lst (List.replicate (if b=true then (1:Int) else 0).toNat [V.int 0]).flatten)=H4 at y4 z3 ⊢;have XB:aA=16777216:=by decide
  refine⟨p,p3,_,_,rfl,rfl,y4.keep _ _ (!4) z0,z3,by rw[vx,ar];cases b<;>simp<;>omega,λp4 Up=>?_⟩
  obtain⟨k,ks,hk⟩:∃(k:Int) (ks:List Int),cs.map V.int++(List.replicate (if b=true then (1:Int) else 0).toNat [V.int 0]).flatten=(k::ks).map V.int:=by
   cases cs with
   | nil=>rw[OP (V7 rfl)];exact⟨0,[],rfl⟩
   | cons z zs =>
    cases b with
    | true=>exact⟨z,zs++[0],!4⟩
    | false=>exact⟨z,zs,!4⟩
  rw[hk];refine⟨by show 3<=aA;decide,λfa xR=>?_⟩;have y5:Ext [] H4 (d3 H4 p4 (.lst ((k::ks).map V.int))):=.new Up;have z4:(d3 H4 p4 (.lst ((k::ks).map V.int))) p4=some (.lst ((k::ks).map V.int)):=dq;have Sy:H p4=none:=(Uo.trans y4).fresh (!4) Up;generalize d3 H4 p4 (.lst ((k::ks).map V.int))=H5 at y5 z4 xR ⊢;have Uq:=(Uo.trans y4).trans y5;have iy:p4≠fa:=λz=>by rw[z,xR] at z4;cases z4
  exact q fa p4 _ ⟨⟨k,ks,0,0,dq,by rw[dC iy];exact z4,!2,!2⟩,iy,!2⟩ (Uq.trans (.new xR)) (Uq.fresh (!4) xR) Sy
theorem MC (F:wZ K "_law_take" "_law_take" (top 25) f fd)(hm:mg "_law_take" = some (.ref f))(B:ly mg):dJ P w K mg base 1 "_law_take" ["_law_feed_here", "_law_many"] MA:=by
 refine⟨f,fd,?_,hm,F.kp,F.binds λ_ _ _ _ _ _ us hl=>by obtain⟨_,_,rfl⟩:=CF hl;rfl⟩;have sc:e9 ["_law_feed_here", "_law_many", "_law_found", "_law_spot", "_law_cell", "_law_mixed"] ["_law_feed_here", "_law_many"] (dn (top 25)):=⟨rfl,rfl,rfl,!3,rfl,!3,!3⟩;refine F.LJ sc (λvs H Q E h=>?_) (λeS A outer s H vs Q E hr h=>?_)
 .obtain⟨fa,sa,n,many,rfl,_⟩:=h
  rfl
 .obtain⟨fa,sa,n,many,rfl,fe,m0,m1,nm,q⟩:=h
  have XD:iI=1099511627776:=rfl
  refine⟨_,(eD (A1 (qu Je (n6 (He K) (qv 0) eu (λ_ _=>rfl)) eu (ji _)) (eD (gC (i:=2) sc.nd rfl (Or.inl rfl) (fA kE (n6 (He K) (qv 0) eu (λ_ _=>rfl)) (qv 1)))
   (eD (vF (fA AJ (n6 (He K) (qv 0) eu (λ_ _=>rfl)) (qv 1)) (zy (qv 0) eu qR))
   (gL (kJ (qv 2))))) qw)
   (eD (gC (i:=3) sc.nd rfl (Or.inl rfl) (n6 (He K) (qv 0) eu (λ_ _=>rfl)))
   (eD (vF (fA lF (qv 3) eu) (zy (qv 0) eu qR))
   (eD (gC (i:=4) sc.nd rfl (Or.inl rfl) (n6 (He K) (n6 (He K) (qv 0) eu (λ_ _=>rfl)) (fA kE (qv 3) (gK (LK K) (by rfl) B.len (!3) (gk (n6 (He K) (qv 0) eu (λ_ _=>rfl)) eG))) (λ_ _=>rfl)))
   (Hc (A1 (QW.pt (D0 (qu Jf (qv 4) (fA K2 eu eu) (ji _)) (AY (qu Jd (qv 3) (gK (LK K) (by rfl) B.len (!3) (gk (n6 (He K) (qv 0) eu (λ_ _=>rfl)) eG)) (ji _))))) (eD (vF (fA AJ (qv 4) (qv 1)) (zy (qv 0) eu qR))
   (gL (kJ (fA kE (qv 4) (qv 1))))) qw)
   (eD (gC (i:=5) sc.nd rfl (Or.inl rfl) (fA kE (fA lG (fA lF (fA lF (fA lF (fA kE (qv 4) eu) (fA lG (fA lG eu (qv 3)) (qv 3))) (fA lG eu (qv 3))) eu) eu) eu))
   (eD (gC (i:=5) sc.nd rfl (Or.inl rfl) (fA kE (fA lF (fA lF (fA lG (qv 5) (qv 5)) (fA lG eu (qv 3))) eu) eu))
   (gL (kJ (fA kE (fA kE (fA lF (fA lG (qv 5) eu) (qv 3)) eu) (qv 1))))))))))),?_⟩
  obtain⟨k,ns,i,c,e1,e2,i0,i1⟩:=fe.ex;have n0:=fe.lo;refine⟨_,rfl,fa,_,2,_,rfl,rfl,fU.of e1,rfl,c,0,rfl,rfl,_,rfl,Lu (λhc=>?_) (λhc=>?_)⟩
  .refine⟨_,rfl,fa,_,2,_,rfl,rfl,fU.of e1,rfl,_,rfl,c,many,rfl,rfl,m0,?_⟩
   refine⟨_,rfl,fa,_,2,_,rfl,rfl,fU.of e1,rfl,_,rfl,c,many,rfl,rfl,⟨m0,m1⟩,_,rfl,fa,_,2,2,rfl,rfl,e1,rfl,?_⟩;obtain⟨f2,x2⟩:=fe.put i (c / many) (n+1) i0 (!1);exact⟨_,rfl,q _ _ (cy _ (!1)) (ck _ m0) f2 x2⟩
  .refine⟨_,rfl,fa,_,1,_,rfl,rfl,fU.of e1,rfl,?_⟩
   obtain⟨f2,x2⟩:=fe.put (i+1) c (n+1) (!1) (!1);refine⟨_,rfl,i,1,rfl,rfl,_,rfl,fa,_,1,1,rfl,rfl,e1,rfl,?_⟩;have g1:(d3 H fa (.lst [.ref sa,.int (i+1),.int c])) fa=some (.lst [.ref sa,.int (i+1),.int c]):=dq;have g2:(d3 H fa (.lst [.ref sa,.int (i+1),.int c])) sa=some (.lst ((k::ns).map V.int)):=by rw[dC fe.ne];exact e2
   dsimp only [ay,av];generalize d3 H fa (.lst [.ref sa,.int (i+1),.int c])=H1 at f2 x2 g1 g2 ⊢;have hl:(0:Int)<(((k::ns).map V.int).length:Nat):=by simp
   obtain⟨v,hv,EG⟩:=Ly (xs:=(k::ns).map V.int) (cy i (!1)) (ck i hl)
   obtain⟨cell,rfl⟩:∃z,v=V.int z:=by
    rw[aB] at EG
    cases e:(k::ns)[(i % (((k::ns).map V.int).length:Nat)).toNat]? with
    | none=>rw[e] at EG;cases EG
    | some z=>rw[e] at EG;exact⟨z,(Option.some.inj EG).symm⟩
   refine⟨_,rfl,fa,_,0,_,rfl,rfl,fU.of g1,rfl,_,rfl,_,rfl,fa,_,0,_,rfl,rfl,fU.of g1,rfl,sa,_,rfl,.inl (fU.of g2),i,_,rfl,rfl,hl,sa,_,_,_,rfl,rfl,fU.of g2,hv,?_⟩;have ib:-(2 ^ 64)<i/\i<2 ^ 64:=by constructor<;>omega
   refine⟨λσ' H'=>σ'=[some (.ref fa),some (.int many),none,some (.int i),some (.int cell),none]/\H'=H1,?_,?_⟩
   .refine⟨_,rfl,10,18,rfl,rfl,⟨!2,!2,!2⟩,cell,_,rfl,rfl,_,rfl,Lu (λhb=>?_) (λhb=>Ls ⟨rfl,rfl⟩)⟩
    refine⟨_,rfl,_,rfl,fa,_,0,_,rfl,rfl,fU.of g1,rfl,sa,_,rfl,.inl (fU.of g2),_,_,rfl,rfl,_,rfl,Lu (λhd=>?_) (λhd=>⟨rfl,rfl⟩)⟩;refine⟨_,rfl,_,rfl,cell,many,rfl,rfl,⟨m0,m1⟩,_,rfl,fa,_,2,2,rfl,rfl,g1,rfl,?_⟩;obtain⟨f4,x4⟩:=f2.put (i+1) (cell / many) (n+1) (!1) (!1);exact⟨_,rfl,_,rfl,cell,many,rfl,rfl,m0,q _ _ (cy _ (!1)) (ck _ m0) f4 (x2.trans x4)⟩
   .rintro σ' H3 ⟨rfl,rfl⟩
    refine⟨_,rfl,_,_,rfl,rfl,(by show (0:Int)<1000003;decide),_,rfl,_,_,rfl,rfl,.inl ⟨!2,!2⟩,_,rfl,_,_,rfl,rfl,.inr ib,_,_,rfl,rfl,_,rfl,_,_,rfl,rfl,.inl ⟨!2,!2⟩,_,_,rfl,rfl,_,_,rfl,rfl,_,_,rfl,rfl,.inr ⟨!2,!2⟩,_,_,rfl,rfl,(by show (0:Int)<2147483629;decide),?_⟩;generalize hM:(cell % 1000003+37 * i * i+11 * i+5) * 48271 % 2147483629=M;have XE:0<=M:=by rw[<- hM];exact cy _ (!2)
    have XF:M<2147483629:=by rw[<- hM];exact ck _ (!2)
    dsimp only;rw[hM];refine⟨_,rfl,_,rfl,M,M,rfl,rfl,.inl ⟨!1,!1⟩,_,rfl,_,_,rfl,rfl,.inl ⟨!2,!2⟩,_,_,rfl,rfl,_,_,rfl,rfl,_,_,rfl,rfl,(by show (0:Int)<2147483587;decide),?_⟩;exact⟨_,rfl,_,_,rfl,rfl,.inr ⟨!2,!2⟩,_,rfl,_,_,rfl,rfl,_,_,rfl,rfl,(by show (0:Int)<999979;decide),_,rfl,_,_,rfl,rfl,m0,q _ _ (cy _ (!1)) (ck _ m0) f2 x2⟩
end
end Odj
namespace L2
open PySem
theorem Ext.put {S:List Addr}{H0 H:Hp}{p:Addr}{o:HO}(a:Ext S H0 H)(h0:H0 p=none):Ext S H0 (d3 H p o) :=
 ⟨λb u hb e=>by rw[dC (λz=>by rw[z,h0] at e;cases e)];exact a.keep b u hb e,λb ys e=>by rw[dC (λz=>by rw[z,h0] at e;cases e)];exact a.tup b ys e⟩
end L2
namespace Odj
open PySem L2
noncomputable def fz (o:sZ):List (Key × V):=o.map λp=>((Sum.inl p.1:Key),V.bl p.2)
theorem uW (o:sZ)(k:Int):gM (fz o) (Sum.inl k)=((o.find? λp=>decide (p.1=k)).map (·.2)).map V.bl:=by
 induction o with
 | nil=>rfl
 | cons p o ih =>
  have e:fz (p::o)=((Sum.inl p.1:Key),V.bl p.2)::fz o:=rfl;by_cases h:p.1=k
  .rw[e,fE (by rw[h]),bD]
   simp[h]
  .rw[e,fF (λz=>h (Sum.inl.inj z)),ih,bD]
   simp[h]
theorem oI (o:sZ)(k:Int):(gM (fz o) (Sum.inl k)).getD (.bl false)=.bl (gr o k):=by
 rw[uW];unfold gr;cases (o.find? λp=>decide (p.1=k))<;>rfl
theorem BB {o:sZ}(h:(eK o).Nodup){i:Nat}{p:Int × Bool}(hp:o[i]? = some p):gM (fz o) (Sum.inl p.1)=some (.bl p.2):=by
 have e:=Fw h hp;rw[uW];unfold gr at e
 cases hf:(o.find? λq=>decide (q.1=p.1)) with
 | none =>
  have:=List.find?_eq_none.mp hf p (bY hp);simp at this
 | some q =>
  rw[hf] at e;have e':q.2=p.2:=e;simp[e']
theorem r9 (o:sZ)(k:Int):jj (fz o) (Sum.inl k) (.bl (!gr o k))=fz (fu o k):=by
 have ha:((fz o).any λkv=>decide (kv.1=Sum.inl k))=o.any λp=>decide (p.1=k):=by
  unfold fz;rw[List.any_map];congr 1;funext p;show decide ((Sum.inl p.1:Key)=Sum.inl k)=decide (p.1=k);by_cases h:p.1=k
  .simp[h]
  .have:¬ (Sum.inl p.1:Key)=Sum.inl k:=λz=>h (Sum.inl.inj z)
   simp[h]
 unfold jj fu;rw[ha];split
 .unfold fz
  rw[bx,bx];apply b8;intro p _;simp only[Function.comp];by_cases h:p.1=k
  .simp[h]
  .have:¬ (Sum.inl p.1:Key)=Sum.inl k:=λz=>h (Sum.inl.inj z)
   simp[h]
 .unfold fz
  rw[aQ];rfl
theorem oJ (o:sZ):(fz o).length=o.length:=by unfold fz;rw[ar]
theorem uX (row:List Int)(k:Int):dN (row++[k])=fu (dN row) k:=by
 unfold dN;rw[List.foldl_append];rfl
noncomputable def Iu (row ns:List Int):Prop:=ns.Perm (jK (dN row))/\ns.Pairwise (·<=·)
theorem An (o:sZ)(k j:Int):gr (fu o k) j=if j=k then !gr o k else gr o j:=by
 have e:=oI (fu o k) j;rw[<- r9,D6] at e;by_cases h:j=k
 .subst h
  rw[if_pos rfl] at e;rw[if_pos rfl];exact (V.bl.inj e).symm
 .rw[if_neg (λz=>h (Sum.inl.inj z)),oI] at e
  rw[if_neg h];exact (V.bl.inj e).symm
theorem sd (k:Int):∀(row:List Int) (o:sZ),gr (row.foldl fu o) k=(gr o k != decide (row.count k % 2=1))
 | [],o=>by simp
 | x::row,o=>by
  rw[dc,sd k row,An,cK];by_cases h:k=x
  .subst h
   rw[if_pos rfl];have h2:=Nat.mod_two_eq_zero_or_one (row.count k);rcases h2 with z | z
   .have e1:(row.count k+if (k == k)=true then 1 else 0) % 2=1:=by simp;omega
    simp only[e1,z];cases gr o k<;>rfl
   .have e1:(row.count k+if (k == k)=true then 1 else 0) % 2=0:=by simp;omega
    simp only[e1,z];cases gr o k<;>rfl
  .rw[if_neg h]
   have e1:(x == k)=false:=by
    rw[beq_eq_false_iff_ne];exact λz=>h z.symm
   simp[e1]
theorem pT (row:List Int)(k:Int):gr (dN row) k=decide (row.count k % 2=1):=by
 unfold dN;rw[sd];have:gr [] k=false:=rfl;rw[this];cases decide (row.count k % 2=1)<;>rfl
theorem se:∀(row:List Int) (o:sZ),(eK o).Nodup->(eK (row.foldl fu o)).Nodup
 | [],o,h=>h
 | x::row,o,h=>se row _ (Ak h)
theorem kU (row:List Int):(eK (dN row)).Nodup:=se row [] (by simp[eK])
theorem sf:∀(row:List Int) (o:sZ),(row.foldl fu o).length<=o.length+row.length
 | [],o=>by simp
 | x::row,o=>by
  rw[dc,ap];have:=sf row (fu o x);have:=Fu o x;omega
theorem nP (row:List Int):(dN row).length<=row.length:=by
 have:=sf row [];unfold dN;simpa using this
theorem Iv {o:sZ}{k:Int}(h:gr o k=true):k∈eK o:=by
 unfold gr at h
 cases hf:(o.find? λp=>decide (p.1=k)) with
 | none=>rw[hf] at h;cases h
 | some p=>exact aM.mpr ⟨p,List.mem_of_find?_eq_some hf,by simpa using List.find?_some hf⟩
theorem Fy {o:sZ}(hn:(eK o).Nodup):jK o=(eK o).filter (gr o):=by
 unfold jK eK;rw[List.filter_map];congr 1;apply List.filter_congr;intro p hp;obtain⟨i,hi⟩:=List.getElem?_of_mem hp;exact (Fw hn hi).symm
theorem qI {row ns:List Int}(h:Iu row ns):Al row ns/\ns.length<=row.length:=by
 have hn:=kU row;have ht:=Fy hn;have PK:ns.Nodup:=h.1.symm.nodup (by rw[ht];exact hn.filter _);refine⟨⟨?_,λk=>?_⟩,?_⟩
 .have:=h.2.and PK
  exact this.imp λz=>by
   have h1:=z.1;have h2:=z.2;omega
 .rw[h.1.mem_iff,ht,aP,pT]
  constructor
  .intro z;exact of_decide_eq_true z.2
  .intro z
   exact⟨Iv (by rw[pT];exact decide_eq_true z),decide_eq_true z⟩
 .rw[h.1.length_eq]
  unfold jK;rw[ar];exact bj (bM _ _) (nP row)
noncomputable def CN:Sp:=λvs H Q _=>∃(a:Addr) (row:List Int),vs=[.ref a]/\(H a=some (.lst (row.map V.int))\/H a=some (.tup (row.map V.int)))/\(dN row).length<=60/\row.length<=100000 /\
 ∀(ns:List Int) (p:Addr) (H':Hp),Al row ns->ns.length<=row.length->H' p=some (.tup (ns.map V.int))->Ext [] H H'->Q (.ref p) H'
section
variable {P:a5}{w:World}{K:W.Frag}{mg:Str->Option ag}{base:Heap}{f:Addr}{fd:bH}
theorem yn (F:wZ K "odd_ones" "odd_ones" (top 1) f fd)(hm:mg "odd_ones" = some (.ref f))(B:ly mg):dJ P w K mg base 1 "odd_ones" ["row"] CN:=by
 refine⟨f,fd,?_,hm,F.kp,F.binds λ_ _ _ _ _ _ us hl=>by obtain⟨_,rfl⟩:=EX hl;rfl⟩;have sc:e9 ["row", "odd", "number"] ["row"] (dn (top 1)):=⟨rfl,rfl,rfl,!3,rfl,!3,!3⟩;refine F.LJ sc (λvs H Q E h=>?_) (λeS A outer s H vs Q E hr h=>?_)
 .obtain⟨a,row,rfl,_⟩:=h
  rfl
 .obtain⟨a,row,rfl,ha,hb,Nd,q⟩:=h
  have hsz:aA=16777216:=by decide
  have hu:=Oh hr;rcases ha with ha | ha
  .skip
   refine⟨_,(eD (gC (i:=1) sc.nd rfl (Or.inr rfl) xl)
   (eD (vG PassesOwn.never rfl (D4 K (qv 0)) (n8 (i:=2) sc.nd rfl (Or.inl rfl)) (gL (qy hu (qv 1) (qv 2) (zx (xm hu (qv 1) (qv 2) DZ ⟨rfl,rfl,rfl,rfl⟩)))))
   (gL (kJ (gg (zA K) (by rfl) B.tuple (!3) (gk (gK (kK K) (by rfl) B.sorted (!3) (gk (vH (N:=["number", "odd"]) (mp:=[none,some 1]) rfl (A2 (qv 1)) rfl (by show kH ["row", "odd", "number"] (dn (top 1)) _ _ _=true;decide +kernel) λ_ _ _ _ _=>⟨(n8 (i:=0) (by show List.Nodup [("number" : Str),("odd" : Str)];decide +kernel) rfl (Or.inl rfl)),(zz (zv (mI hu (qv 1) (qv 0) (λ_ _=>rfl)))),(qv 0)⟩) eG)) eG)))))),?_⟩
   intro d hd;have SA:a≠d:=eW ha hd
   refine⟨_,rfl,a,rfl,⟨_,fU.of (by rw[dC SA];exact ha)⟩,Dz (xs:=row.map V.int) (λi σ' H'=>(∃y,σ'=[some (.ref a),some (.ref d),y])/\H' d=some (.dK (fz (dN (row.take i))))/\Ext [] H H')
    ⟨⟨none,rfl⟩,dq,.new hd⟩ (λi σ' H' _ h=>fU.of (h.2.2.keep _ _ (!4) ha)) ?_ ?_⟩
   .rintro i x σ' H' hx ⟨⟨y,rfl⟩,hD,x1⟩
    rw[aB] at hx
    cases hk:row[i]? with
    | none=>rw[hk] at hx;cases hx
    | some k =>
     rw[hk] at hx;cases hx;have ol:=nP (row.take i);rw[bF] at ol;refine⟨_,rfl,d,rfl,.inl ⟨_,.inl hD⟩,_,rfl,_,iO.k (k:=Sum.inl k) hD,_,oI _ _,_,rfl,_,rfl,d,_,rfl,pZ.k (k:=Sum.inl k) hD (by rw[oJ];omega),⟨_,rfl⟩,?_,x1.put hd⟩;rw[dq,r9,cB,hk];show _=some (HO.dK (fz (dN (row.take i++[k]))));rw[uX]
   .rintro σ' H' ⟨⟨y,rfl⟩,hD,x1⟩
    rw[bV (by rw[ar];exact ao _)] at hD;have ol:(dN row).length<=60/\(eK (dN row)).Nodup:=⟨hb,kU row⟩
    refine⟨_,rfl,d,_,rfl,hD,λo=>ux (λi ys σ' H2=>(∃y,σ'=[y,some (.ref d)])/\H2=d3 H' d (.nj o (.dK (fz (dN row))))/\ys=(((dN row).take i).filter (·.2)).map λp=>V.int p.1) ⟨⟨none,rfl⟩,rfl,rfl⟩
     (λi ys σ' H2 h=>by rw[h.2.1];exact dq) ?_ ?_⟩
    .rintro i k v ys σ' H2 CO ⟨⟨y,rfl⟩,rfl,rfl⟩
     unfold fz at CO;rw[aB] at CO
     cases hp:(dN row)[i]? with
     | none=>rw[hp] at CO;cases CO
     | some p =>
      rw[hp] at CO;cases CO
      have hl:((((dN row).take i).filter (·.2)).map λp=>V.int p.1).length<aA:=by
       rw[ar];have:=bM (·.2) ((dN row).take i);rw[bF] at this;omega
      refine⟨hl,_,rfl,_,rfl,d,.bl p.2,rfl,.inl ⟨_,Sum.inl p.1,.inr ⟨o,dq⟩,rfl,(BB ol.2 hp).symm⟩,_,rfl,?_⟩;have et:(dN row).take (i+1)=(dN row).take i++[p]:=by rw[cB,hp];rfl
      cases Mx:p.2 with
      | true=>exact Oi ⟨_,rfl,⟨_,rfl⟩,rfl,by rw[et,cR,aQ];simp[cF,Mx];rfl⟩
      | false=>exact Ls ⟨⟨_,rfl⟩,rfl,by rw[et,cR,aQ];simp[cF,Mx]⟩
    .rintro ys σ' H2 ⟨⟨y,rfl⟩,rfl,rfl⟩
     rw[bV (by rw[oJ];exact ao _)];have e:((dN row).filter (·.2)).map (λp=>V.int p.1)=(jK (dN row)).map V.int:=by unfold jK;rw[bx];rfl
     rw[e]
     have hl:(jK (dN row)).length<=60:=by
      unfold jK;rw[ar];have:=bM (·.2) (dN row);omega
     refine⟨by rw[ar];omega,λD SD=>⟨D,jK (dN row),rfl,fU.of dq,!1,λl ms p1 p2 wC=>⟨l,_,rfl,.inl ⟨fU.of dq,λt ht=>q ms t _ (qI ⟨p1,p2⟩).1 (qI ⟨p1,p2⟩).2 dq ?_⟩⟩⟩⟩;exact (((x1.put hd).trans (.new SD)).trans (.new wC)).trans (.new ht)
  .skip
   refine⟨_,(eD (gC (i:=1) sc.nd rfl (Or.inr rfl) xl)
   (eD (vG PassesOwn.never rfl (Hf K (qv 0)) (n8 (i:=2) sc.nd rfl (Or.inl rfl)) (gL (qy hu (qv 1) (qv 2) (zx (xm hu (qv 1) (qv 2) DZ ⟨rfl,rfl,rfl,rfl⟩)))))
   (gL (kJ (gg (zA K) (by rfl) B.tuple (!3) (gk (gK (kK K) (by rfl) B.sorted (!3) (gk (vH (N:=["number", "odd"]) (mp:=[none,some 1]) rfl (A2 (qv 1)) rfl (by show kH ["row", "odd", "number"] (dn (top 1)) _ _ _=true;decide +kernel) λ_ _ _ _ _=>⟨(n8 (i:=0) (by show List.Nodup [("number" : Str),("odd" : Str)];decide +kernel) rfl (Or.inl rfl)),(zz (zv (mI hu (qv 1) (qv 0) (λ_ _=>rfl)))),(qv 0)⟩) eG)) eG)))))),?_⟩
   intro d hd;have SA:a≠d:=eW ha hd
   refine⟨_,rfl,a,rfl,⟨_,gZ.of (by rw[dC SA];exact ha)⟩,Gz (K:=K) (a:=a) (xs:=row.map V.int) (λi σ' H'=>(∃y,σ'=[some (.ref a),some (.ref d),y])/\H' d=some (.dK (fz (dN (row.take i))))/\Ext [] H H')
    ⟨⟨none,rfl⟩,dq,.new hd⟩ (λi σ' H' _ h=>gZ.of (h.2.2.tup _ _ ha)) ?_ ?_⟩
   .rintro i x σ' H' hx ⟨⟨y,rfl⟩,hD,x1⟩
    rw[aB] at hx
    cases hk:row[i]? with
    | none=>rw[hk] at hx;cases hx
    | some k =>
     rw[hk] at hx;cases hx;have ol:=nP (row.take i);rw[bF] at ol;refine⟨_,rfl,d,rfl,.inl ⟨_,.inl hD⟩,_,rfl,_,iO.k (k:=Sum.inl k) hD,_,oI _ _,_,rfl,_,rfl,d,_,rfl,pZ.k (k:=Sum.inl k) hD (by rw[oJ];omega),⟨_,rfl⟩,?_,x1.put hd⟩;rw[dq,r9,cB,hk];show _=some (HO.dK (fz (dN (row.take i++[k]))));rw[uX]
   .rintro σ' H' ⟨⟨y,rfl⟩,hD,x1⟩
    rw[bV (by rw[ar];exact ao _)] at hD;have ol:(dN row).length<=60/\(eK (dN row)).Nodup:=⟨hb,kU row⟩
    refine⟨_,rfl,d,_,rfl,hD,λo=>ux (λi ys σ' H2=>(∃y,σ'=[y,some (.ref d)])/\H2=d3 H' d (.nj o (.dK (fz (dN row))))/\ys=(((dN row).take i).filter (·.2)).map λp=>V.int p.1) ⟨⟨none,rfl⟩,rfl,rfl⟩
     (λi ys σ' H2 h=>by rw[h.2.1];exact dq) ?_ ?_⟩
    .rintro i k v ys σ' H2 CO ⟨⟨y,rfl⟩,rfl,rfl⟩
     unfold fz at CO;rw[aB] at CO
     cases hp:(dN row)[i]? with
     | none=>rw[hp] at CO;cases CO
     | some p =>
      rw[hp] at CO;cases CO
      have hl:((((dN row).take i).filter (·.2)).map λp=>V.int p.1).length<aA:=by
       rw[ar];have:=bM (·.2) ((dN row).take i);rw[bF] at this;omega
      refine⟨hl,_,rfl,_,rfl,d,.bl p.2,rfl,.inl ⟨_,Sum.inl p.1,.inr ⟨o,dq⟩,rfl,(BB ol.2 hp).symm⟩,_,rfl,?_⟩;have et:(dN row).take (i+1)=(dN row).take i++[p]:=by rw[cB,hp];rfl
      cases Mx:p.2 with
      | true=>exact Oi ⟨_,rfl,⟨_,rfl⟩,rfl,by rw[et,cR,aQ];simp[cF,Mx];rfl⟩
      | false=>exact Ls ⟨⟨_,rfl⟩,rfl,by rw[et,cR,aQ];simp[cF,Mx]⟩
    .rintro ys σ' H2 ⟨⟨y,rfl⟩,rfl,rfl⟩
     rw[bV (by rw[oJ];exact ao _)];have e:((dN row).filter (·.2)).map (λp=>V.int p.1)=(jK (dN row)).map V.int:=by unfold jK;rw[bx];rfl
     rw[e]
     have hl:(jK (dN row)).length<=60:=by
      unfold jK;rw[ar];have:=bM (·.2) (dN row);omega
     refine⟨by rw[ar];omega,λD SD=>⟨D,jK (dN row),rfl,fU.of dq,!1,λl ms p1 p2 wC=>⟨l,_,rfl,.inl ⟨fU.of dq,λt ht=>q ms t _ (qI ⟨p1,p2⟩).1 (qI ⟨p1,p2⟩).2 dq ?_⟩⟩⟩⟩;exact (((x1.put hd).trans (.new SD)).trans (.new wC)).trans (.new ht)
theorem uY:∀(row:List Int) (o:sZ) (k:Int),k∈eK (row.foldl fu o)->k∈eK o\/k∈row
 | [],o,k,h=>.inl h
 | x::row,o,k,h=>by
  rcases uY row _ k h with h | h
  .rcases Fv h with h | h
   .exact .inr (by rw[h];exact aq ..)
   .exact .inl h
  .exact .inr (ai _ h)
theorem CP (row:List Int)(k:Int)(h:k∈eK (dN row)):k∈row:=by
 rcases uY row [] k h with h | h
 .simp[eK] at h
 .exact h
theorem kW {S:List Addr}{H:Hp}:∀ns:List Int,dm S H (ns.map .int) (ns.map V.int)
 | []=>.nil
 | n::ns=>.cons (.int n) (kW ns)
theorem Fz {row ns:List Int}(h:Al row ns):ns=dG row:=by
 refine rY h.1 (ie _) λk=>?_;unfold dG;rw[h.2,ic,aP];constructor
 .intro z
  exact⟨bX.mp (!1),decide_eq_true z⟩
 .intro z
  exact of_decide_eq_true z.2
theorem uZ (row:List Int):(dN row).length<=(jI row).length:=by
 have h:=fP (kU row) (ns:=jI row) λk hk=>je.mpr ?_
 .unfold eK at h
  rwa [ar] at h
 .exact CP row k hk
theorem Ao (F:wZ K "odd_ones" "odd_ones" (top 1) f fd)(hm:mg "odd_ones" = some (.ref f))(B:ly mg){C:Xc}:dJ P w K mg base 1 "odd_ones" ["row"] (o8 C fy) :=
 (yn F hm B).imp λvs H Q E ⟨S,ds,n,Qp,Xp,r,has,hF,hq,_⟩=>by
  unfold fy at hF;split at hF
  .rename_i es
   obtain⟨row,e,⟨h1,h2⟩,q⟩:=hF;obtain⟨v,t,rfl,rv,rn⟩:=r.of_cons;cases rn.eN;obtain⟨a,xs,rfl,ha,_,rs⟩:=rv.eO;rw[fV e] at rs;rw[fG rs] at ha;refine⟨a,row,rfl,.inl ha,bj (uZ row) h1,h2,λns p H' ho _ hp x=>hq _ _ H' (.tup hp (kW _)) x ?_⟩;rw[Fz ho];exact q
  .rename_i es
   obtain⟨row,e,⟨h1,h2⟩,q⟩:=hF;obtain⟨v,t,rfl,rv,rn⟩:=r.of_cons;cases rn.eN;obtain⟨a,xs,rfl,ha,rs⟩:=rv.eQ;rw[fV e] at rs;rw[fG rs] at ha;refine⟨a,row,rfl,.inr ha,bj (uZ row) h1,h2,λns p H' ho _ hp x=>hq _ _ H' (.tup hp (kW _)) x ?_⟩;rw[Fz ho];exact q
  .exact hF.elim
end
end Odj
namespace Odj
open PySem PySem.Spec L2
section
variable {P:a5}{w:World}{K:W.Frag}{mg:Str->Option ag}{base:Heap}{f:Addr}{fd:bH}{cl:Str->Addr}{Y:xQ}
theorem Ap (F:FM K mg "by_turns" (top 3))(B:ly mg)(ip:nN P w K mg base cl) :
  eR P w K mg base cl :=
 gp nK N2 F λsc f eS A outer s H E n0 S has hr hu =>
 (dB (eP (d7 ip (RM hr) (dz (lQ lR (d5 0) (d5 1)) dj))))
theorem CQ (F:FM K mg "odds_of" (top 4))(B:ly mg)(ip:nN P w K mg base cl) :
  pw P w K mg base cl :=
 gp pk N3 F λsc f eS A outer s H E n0 S has hr hu =>
 (dM (E4 2 sc.nd (lP dj))
 (dM (ox PassesOwn.never rfl (EE 1) (oB 3 sc.nd)
 (dB (o7 2 PySem.F.plainAttrs_list PySem.F.slot_list_extend PySem.F.type_list_extend (EH) (dz (zV (KE.loose (eI (KE.loose (eI (d5 0) (KE.loose dv))) (d5 3))) kL (kM dv)) dj))))
 (dB (eP (vV ip (RM hr) (fg (d5 2) d6))))))
theorem Iw (F:FM K mg "below" (top 6))(B:ly mg) :
  qH P w K mg base cl :=
 gp wc N5 F λsc f eS A outer s H E n0 S has hr hu =>
 (dB (eP (rF ja B.tuple (fg (KE.loose (KN.data (iS [] (N:=N4) (mp:=[none,none]) rfl (L6 B.enumerate (KE.loose (eI (d5 0) (KE.loose dv)))) rfl (co N5 (dn (top 6))) (λ_ _ _ _ _=>⟨(O9 (n':=2) rfl (rJ (oB 0 (nd N4)) (rJ (oB 1 (nd N4)) rH)) (Pw [0,1]) rfl),(o6 (fB Hx (KE.loose (eI (d5 1) (KE.loose dv))) (KE.loose dv))),(fx 0)⟩) (hfd:=Ga)))) d6))))
theorem FA (F:FM K mg "turned" (top 7))(B:ly mg) :
  r6 P w K mg base cl :=
 gp rZ N5 F λsc f eS A outer s H E n0 S has hr hu =>
 (dB (eP (fo (dz (eI (d5 0) (KE.loose dv)) (dz (rF ja B.tuple (fg (KE.loose (KN.data (iS [] (N:=N6) (mp:=[none,none,none]) rfl (rK (KE.loose (eI (d5 0) (KE.loose dv)))) rfl (co N5 (dn (top 7))) (λ_ _ _ _ _=>⟨(O9 (n':=3) rfl (rJ (oB 1 (nd N6)) (rJ (oB 0 (nd N6)) (rJ (oB 2 (nd N6)) rH))) (Pw [1,0,2]) rfl),o5,(fo (dz (fx 1) (dz (fx 0) (dz (qb Ey B.abs (fg (d5 2) d6)) dj))))⟩) (hfd:=Ga)))) d6)) dj)))))
end
section
variable {P:a5}{w:World}{K:W.Frag}{mg:Str->Option ag}{base:Heap}{f:Addr}{fd:bH}{cl:Str->Addr}{Y:xQ}
theorem tN (F:FM K mg "turned_told" (top 8))(B:ly mg)(dE:eR P w K mg base cl)(pz:pw P w K mg base cl)(mN:qH P w K mg base cl) :
  jZ P w K mg base cl :=
 gp jU N7 F λsc f eS A outer s H E n0 S has hr hu =>
 (dB (eP (d7 dE (RM hr) (dz (fx 1) (dz (d7 pz (RM hr) (dz (fx 0) (dz (d7 mN (RM hr) (dz (fx 0) dj)) dj))) dj)))))
theorem wd (F:FM K mg "turned_set" (top 9))(B:ly mg)(dE:eR P w K mg base cl)(mN:qH P w K mg base cl) :
  kR P w K mg base cl :=
 gp kO N8 F λsc f eS A outer s H E n0 S has hr hu =>
 (dB (eP (d7 dE (RM hr) (dz (fx 1) (dz (d7 mN (RM hr) (dz (fx 0) dj)) dj)))))
theorem yo (F:FM K mg "other_end" (top 11))(B:ly mg) :
  l9 P w K mg base cl :=
 gp lY N9 F λsc f eS A outer s H E n0 S has hr hu =>
 (dB (eP (zS (fB (qa hu) (KE.loose (eI (d5 0) (KE.loose dv))) (d5 1)) (eI (d5 0) (KE.loose dv)) (eI (d5 0) (KE.loose dv)))))
theorem yp (F:FM K mg "ways_from" (top 13))(B:ly mg)(gB:iY P w K mg base cl) :
  jP P w K mg base cl :=
 gp lZ VS F λsc f eS A outer s H E n0 S has hr hu =>
 (dM (Ib (i:=2) sc.nd (Or.inl rfl) (fx 1) (fo (dz dv (dz (fo dj) dj))) (hfd:=(nf 2 [])))
 (dM (gh 3 sc.nd (vV gB (RM hr) (fg (d5 0) (fg (d5 2) d6))))
 (dM (Bo PassesOwn.never (fB Eu (d5 3) (KE.loose lr))
 (dM (E6 2 (pN hu) (KE.loose (eI (d5 3) (KE.loose dv))) (fo (dz (eI (d5 3) (KE.loose dv)) (dz (eI (d5 3) (KE.loose dv)) dj))))
 (dB (gh 3 sc.nd (vV gB (RM hr) (fg (d5 0) (fg (d5 2) d6)))))))
 (dB (zZ 2)))))
end
section
variable {P:a5}{w:World}{K:W.Frag}{mg:Str->Option ag}{base:Heap}{f:Addr}{fd:bH}{cl:Str->Addr}{Y:xQ}
theorem qf (F:FM K mg "cheapest_step" (top 14))(B:ly mg)(dE:eR P w K mg base cl)(mq:l9 P w K mg base cl) :
  iY P w K mg base cl :=
 gp iU VT F λsc f eS A outer s H E n0 S has hr hu =>
 (dM (E4 2 sc.nd (lP dj))
 (dM (ox PassesOwn.never rfl (ED B.enumerate (eI (d5 0) (KE.loose dv))) (O9 (n':=2) rfl (rJ (oB 3 sc.nd) (rJ (oB 4 sc.nd) rH)) (Pw [3,4]) rfl)
 (dB (ou (fB (HB hu) (KE.loose (JS (pN hu) (KE.loose (eI (d5 4) (KE.loose dv))) (d5 1))) (KE.loose (JS (pN hu) (KE.loose (eI (d5 4) (KE.loose dv))) (d5 1)))) (dM (gh 5 sc.nd (zS (Fb (pN hu) (KE.loose (eI (d5 4) (KE.loose dv))) (d5 1)) (eI (d5 4) (KE.loose dv)) (eI (d5 4) (KE.loose dv))))
 (dB (o7 2 PySem.F.plainAttrs_list PySem.F.slot_list_append PySem.F.type_list_append (lT) (dz (fo (dz (lQ lR (KE.loose (eI (KE.loose (rV (pN hu) (d5 1) (d5 5))) (KE.loose dv))) (KE.loose (eI (d5 4) (KE.loose dv)))) (dz (d7 mq (RM hr) (dz (fx 4) (dz (fx 5) dj))) (dz (d7 dE (RM hr) (dz (eI (KE.loose (rV (pN hu) (d5 1) (d5 5))) (KE.loose dv)) (dz (fo (dz (fx 3) dj)) dj))) dj)))) dj)))) fX)))
 (dB (eP (Mq rfl hu (d5 2) B.min)))))
theorem tO (F:FM K mg "way_between" (top 15))(B:ly mg)(gF:jP P w K mg base cl) :
  j3 P w K mg base cl :=
 gp jV VU F λsc f eS A outer s H E n0 S has hr hu =>
 (dM (gh 3 sc.nd (d7 gF (RM hr) (dz (fx 0) (dz (fx 1) dj))))
 (dB (eP (zS (Fb (pN hu) (d5 2) (d5 3)) (eI (KE.loose (rV (pN hu) (d5 3) (d5 2))) (KE.loose dv)) lr))))
theorem sg (F:FM K mg "heights_from" (top 16))(B:ly mg)(gF:jP P w K mg base cl) :
  jt P w K mg base cl :=
 gp jn Ua F λsc f eS A outer s H E n0 S has hr hu =>
 (dM (gh 2 sc.nd (d7 gF (RM hr) (dz (fx 0) (dz (fx 1) dj))) (Or.inr rfl))
 (dB (eP (rF ja B.tuple (fg (KE.loose (KN.data (iS [] (N:=T9) (mp:=[none,some 2]) rfl (qC B.range (eI (d5 0) (KE.loose dv))) rfl (co Ua (dn (top 16))) (λ_ _ _ _ _=>⟨(oB 0 (nd T9)),o5,(zS (Fb (pN hu) (d5 0) (d5 1)) (eI (KE.loose (rV (pN hu) (d5 1) (d5 0))) (KE.loose dv)) lr)⟩) (hfd:=Ga)))) d6)))))
theorem tP (F:FM K mg "all_heights" (top 18))(B:ly mg)(jv:jt P w K mg base cl) :
  j4 P w K mg base cl :=
 gp jW N5 F λsc f eS A outer s H E n0 S has hr hu =>
 (dB (eP (KN.data (iS [] (N:=Ub) (mp:=[none,some 0]) rfl (qC B.range (eI (d5 0) (KE.loose dv))) rfl (co N5 (dn (top 18))) (λ_ _ _ _ _=>⟨(oB 0 (nd Ub)),o5,(d7 jv (RM hr) (dz (fx 1) (dz (fx 0) dj)))⟩) (hfd:=Ga)))))
end
section
variable {P:a5}{w:World}{K:W.Frag}{mg:Str->Option ag}{base:Heap}{f:Addr}{fd:bH}{cl:Str->Addr}{Y:xQ}
theorem qg {kk:Nat}(Rc:kx->UF)(Hv:2<=kk)(F:FM K mg "pairing_price" (top 19))(B:ly mg)(dE:eR P w K mg base cl)(fK:dJ P w K mg base kk "partner_offers" ["heights", "told", "known"] (Gb Rc)):dJ P w K mg base (kk+1) "pairing_price" ["heights", "told", "known"] (Gb (iW Rc)) :=
 PB (C:=XC λ_=>0) (λY=>iV Y Rc) VW F λsc f eS A outer s H E Y a n0 S hk hS has hr hu =>
 (Fq 2 1 (pN hu) (gh 3 sc.nd (qG 2 fK (hr.mono (!1)) (fx 0) (fx 1))) (zS (fB Hy (KE.loose (qb Bk B.len (fg (d5 3) d6))) (KE.loose dv)) (eI (KE.loose (qb (E3 rfl hu) B.min (fg (d5 3) d6))) (KE.loose dv)) lr) rfl rfl rfl (am.mpr rfl))
theorem ky {kk:Nat}(Rc:kx->UF)(Hv:2<=kk)(F:FM K mg "partner_offers" (top 20))(B:ly mg)(dE:eR P w K mg base cl)(eF:dJ P w K mg base kk "pairing_price" ["heights", "told", "known"] (Gb Rc)):dJ P w K mg base (kk+1) "partner_offers" ["heights", "told", "known"] (Gb (fH Rc)) :=
 PB (C:=XC λ_=>0) (λY=>ig Y Rc) VX F λsc f eS A outer s H E Y a n0 S hk hS has hr hu =>
 (dM (gh 3 sc.nd (eI (d5 1) (KE.loose dv)))
 (dM (E4 4 sc.nd (lP dj))
 (dM (ox PassesOwn.never rfl (JF (zV (d5 1) (kM dv) kL)) (oB 5 sc.nd)
 (dM (gh 6 sc.nd (qG 2 eF (hr.mono (!1)) (fx 0) (d7 dE (hr.mono (!1)) (dz (fx 1) (dz (fo (dz (fx 3) (dz (fx 5) dj))) dj)))))
 (dB (ou (KW.kb (w_and (fB Eu (KE.loose (eI (KE.loose (eI (d5 0) (d5 3))) (d5 5))) (KE.loose lr)) (zR (fB Eu (d5 6) (KE.loose lr))))) (dB (o7 4 PySem.F.plainAttrs_list PySem.F.slot_list_append PySem.F.type_list_append (lT) (dz (fo (dz (lQ lR (KE.loose (eI (KE.loose (eI (d5 0) (d5 3))) (d5 5))) (d5 6)) (dz (fx 5) dj))) dj))) fX))))
 (dB (zZ 4)))))
theorem kz (F:FM K mg "pairing_price" (top 19))(F2:FM K mg "partner_offers" (top 20))(B:ly mg)(dE:eR P w K mg base cl):∀d:Nat,dJ P w K mg base (2+2 * d) "pairing_price" ["heights", "told", "known"] (Gb (fI d))
 | 0=>PD F
 | d+1=>qg (kk:=2+2 * d+1) _ (!1) F B dE (ky (kk:=2+2 * d) _ (!1) F2 B dE (kz F F2 B dE d))
theorem qh (F:FM K mg "pairing_price" (top 19))(F2:FM K mg "partner_offers" (top 20))(B:ly mg)(dE:eR P w K mg base cl):gA P w K mg base  := kz F F2 B dE 5
theorem pA (F:FM K mg "partner_offers" (top 20))(B:ly mg)(dE:eR P w K mg base cl)(eF:gA P w K mg base ):ik P w K mg base  := ky _ (!2) F B dE eF
theorem tQ (F:FM K mg "least_pairs" (top 21))(B:ly mg)(dE:eR P w K mg base cl)(fK:ik P w K mg base )(eF:gA P w K mg base )(j7:j4 P w K mg base cl) :
  j5 P w K mg base cl :=
 gp jX VY F λsc f eS A outer s H E n0 S has hr hu =>
 (dM (gh 2 sc.nd (d7 j7 (RM hr) (dz (fx 0) dj)))
 (CM (i:=3) (pN hu) sc.nd (Or.inl rfl) (fo dj) dv λY a1 S1 H1 XG TQ Qm =>
 (dM (ou (fB HA (KE.loose (qG 3 eF (RM hr) (fx 2) (fx 1))) (KE.loose lr)) (dB (eP lr)) fX)
 (dM (E4 4 sc.nd (lP dj))
 (dM (gh 5 sc.nd (fx 1))
 (dM (Bo PassesOwn.never (fB (HB hu) (d5 5) (KE.loose (fo dj)))
 (dM (gh 6 sc.nd (fo (dz (eI (d5 5) (KE.loose dv)) (dz (eI (KE.loose (qb (E3 rfl hu) B.min (fg (KE.loose (qG 3 fK (RM hr) (fx 2) (fx 5))) d6))) (KE.loose dv)) dj))))
 (dM (o7 4 PySem.F.plainAttrs_list PySem.F.slot_list_append PySem.F.type_list_append (lT) (dz (fx 6) dj))
 (dB (gh 5 sc.nd (d7 dE (RM hr) (dz (fx 5) (dz (fx 6) dj))))))))
 (dB (eP (rF ja B.tuple (fg (d5 4) d6))))))))))
theorem we (F:FM K mg "least_join" (top 22))(B:ly mg)(kX:kR P w K mg base cl)(dE:eR P w K mg base cl)(j8:j3 P w K mg base cl)(j9:j5 P w K mg base cl)(ka:jZ P w K mg base cl)(sh:r6 P w K mg base cl) :
  kS P w K mg base cl :=
 gp kP VZ F λsc f eS A outer s H E n0 S has hr hu =>
 (dM (gh 2 sc.nd (d7 sh (RM hr) (dz (fx 0) dj)))
 (dM (gh 3 sc.nd (d7 j9 (RM hr) (dz (fx 2) (dz (d7 ka (RM hr) (dz (fx 0) (dz (fx 1) dj))) dj))))
 (dM (ou (fB HA (d5 3) (KE.loose lr)) (dB (eP lr)) fX)
 (dM (gh 4 sc.nd (fo dj))
 (dM (ox PassesOwn.never rfl (EE 3) (oB 5 sc.nd)
 (dB (gh 4 sc.nd (d7 dE (RM hr) (dz (fx 4) (dz (d7 j8 (RM hr) (dz (fx 2) (dz (eI (d5 5) (KE.loose dv)) (dz (eI (d5 5) (KE.loose dv)) dj)))) dj))))))
 (dB (eP (d7 kX (RM hr) (dz (fx 0) (dz (fx 4) dj))))))))))
theorem yq (F:FM K mg "_law_price" (top 26))(B:ly mg)(dF:gc P w K mg base Y) :
  ma P w K mg base Y :=
 uQ (C:=XC λ_=>0) l3 V0 F λsc f eS A outer s H E fa sa n0 S hf hS has hr hu =>
 (dM (gh 2 sc.nd (eI (KE.loose (KN.data (lP (dz dv (dz dv (dz dv (dz dv (dz dv (dz dv (dz (xF dv) (dz (xF dv) (dz (xF dv) (dz dv (dz (xF dv) (dz dv dj))))))))))))))) (KE.loose (eU 0 dF (RM hr) (dz dv dj) (hfd:=(by decide:0∈[0]))))))
 (dB (eP (zS (Bd (fx 1)) (qb Ey B.abs (fg (d5 2) d6)) (fx 2)))))
end
section
variable {P:a5}{w:World}{K:W.Frag}{mg:Str->Option ag}{base:Heap}{f:Addr}{fd:bH}{cl:Str->Addr}{Y:xQ}
theorem CS (F:FM K mg "_law_web" (top 27))(B:ly mg)(dF:gc P w K mg base Y)(mr:ma P w K mg base Y) :
  px P w K mg base Y :=
 uQ (C:=XC λ_=>0) pq V1 F λsc f eS A outer s H E fa sa n0 S hf hS has hr hu =>
 (dM (gh 4 sc.nd (lQ lR (KE.loose dv) (KE.loose (eU 0 dF (RM hr) (dz (fx 1) dj) (hfd:=(by decide:0∈[0]))))))
 (dM (E4 5 sc.nd (lP dj))
 (dM (ox PassesOwn.never rfl (Bn B.range (lQ JA (KE.loose (eU 0 dF (RM hr) (dz (lQ lR (d5 2) (KE.loose dv)) dj) (hfd:=(by decide:0∈[0])))) (KE.loose (rF JD B.int (fg (KE.loose (oh Hy (d5 4) (KE.loose dv))) d6))))) (oB 6 sc.nd)
 (dM (gh 7 sc.nd (eU 0 dF (RM hr) (dz (fx 4) dj) (hfd:=(by decide:0∈[0]))))
 (dM (gh 8 sc.nd (lQ O5 (KE.loose (lQ lR (KE.loose (lQ lR (d5 7) (KE.loose dv))) (KE.loose (eU 0 dF (RM hr) (dz (lQ Et (d5 4) (KE.loose dv)) dj) (hfd:=(by decide:0∈[0])))))) (d5 4)))
 (dM (o7 5 PySem.F.plainAttrs_list PySem.F.slot_list_append PySem.F.type_list_append (lT) (dz (fo (dz (qb (L1 rfl) B.min (fg (d5 7) (fg (d5 8) d6))) (dz (qb (L3 rfl) B.max (fg (d5 7) (fg (d5 8) d6))) (dz (eU 0 mr (RM hr) (dz (fx 3) dj) (hfd:=(by decide:0∈[0]))) dj)))) dj))
 (dB (ou (KW.kb (w_and (fB (qa hu) (KE.loose (eU 0 dF (RM hr) (dz dv dj) (hfd:=(by decide:0∈[0])))) (KE.loose dv)) (zR (fB Hx (KE.loose (qb Bk B.len (fg (d5 5) d6))) (d5 2))))) (dB (o7 5 PySem.F.plainAttrs_list PySem.F.slot_list_append PySem.F.type_list_append (lT) (dz (eI (d5 5) (KE.loose (xF dv))) dj))) fX))))))
 (dB (eP (fo (dz (fx 4) (dz (rF ja B.tuple (fg (KE.loose (zV (d5 5) kL (kM (fx 2)))) d6)) dj))))))))
theorem si (F:FM K mg "_law_by_turns" (top 28))(B:ly mg) :
  gV P w K mg base cl :=
 gp jo Sv F λsc f eS A outer s H E n0 S has hr hu =>
 (dM (gh 2 sc.nd (lQ lR (KE.loose (KN.data (iS [] (N:=Uc) (mp:=[none,some 1]) rfl (rK (d5 0)) rfl (co Sv (dn (top 28))) (λ_ _ _ _ _=>⟨(oB 0 (nd Uc)),(o6 (fB (JB hu) (d5 0) (d5 1))),(fx 0)⟩) (hfd:=Ga)))) (KE.loose (KN.data (iS [] (N:=Ud) (mp:=[none,some 0]) rfl (rK (d5 1)) rfl (co Sv (dn (top 28))) (λ_ _ _ _ _=>⟨(oB 0 (nd Ud)),(o6 (fB (JB hu) (d5 0) (d5 1))),(fx 0)⟩) (hfd:=Ga))))))
 (dB (eP (rF ja B.tuple (fg (KE.loose (KN.data (HU B.sorted (d5 2)))) d6)))))
theorem Aq (F:FM K mg "_law_odds" (top 29))(B:ly mg)(fL:gV P w K mg base cl) :
  kT P w K mg base cl :=
 gp nL V2 F λsc f eS A outer s H E n0 S has hr hu =>
 (dM (gh 2 sc.nd (fo dj))
 (dM (ox PassesOwn.never rfl (EE 1) (oB 3 sc.nd)
 (dB (gh 2 sc.nd (d7 fL (RM hr) (dz (fx 2) (dz (zV (KE.loose (eI (KE.loose (eI (d5 0) (KE.loose dv))) (d5 3))) kL (kM dv)) dj))))))
 (dB (eP (fx 2)))))
theorem sj (F:FM K mg "_law_price_of" (top 30))(B:ly mg) :
  ju P w K mg base cl :=
 gp jr Ug F λsc f eS A outer s H E n0 S has hr hu =>
 (dB (eP (qb (Me rfl) B.sum (fg (KE.loose (KN.data (iS [] (N:=Ue) (mp:=[none,some 0]) rfl (rK (d5 1)) rfl (co Ug (dn (top 30))) (λ_ _ _ _ _=>⟨(oB 0 (nd Ue)),o5,(eI (KE.loose (eI (KE.loose (eI (d5 1) (KE.loose dv))) (d5 0))) (KE.loose dv))⟩) (hfd:=Ga)))) d6))))
end
section
variable {P:a5}{w:World}{K:W.Frag}{mg:Str->Option ag}{base:Heap}{f:Addr}{fd:bH}{cl:Str->Addr}{Y:xQ}
theorem tR (F:FM K mg "_law_any_set" (top 31))(B:ly mg)(dF:gc P w K mg base Y) :
  j6 P w K mg base Y :=
 uQ (C:=XC λ_=>0) jY PJ F λsc f eS A outer s H E fa sa n0 S hf hS has hr hu =>
 (dB (eP (rF ja B.tuple (fg (KE.loose (KN.data (iS [1] (N:=Uh) (mp:=[none,some 0]) rfl (qC B.range (qb Bk B.len (fg (KE.loose (eI (d5 1) (KE.loose dv))) d6))) rfl (co PJ (dn (top 31))) (λ_ _ _ _ _=>⟨(oB 0 (nd Uh)),(o6 (fB (qa hu) (KE.loose (eU 1 dF (RM hr) (dz dv dj) (hfd:=(by decide:1∈[1])))) (KE.loose dv))),(fx 0)⟩) (hfd:=(T3 (i:=0) rfl))))) d6))))
theorem sk (F:FM K mg "_law_any_side" (top 32))(B:ly mg)(dF:gc P w K mg base Y) :
  gW P w K mg base Y :=
 uQ (C:=XC λ_=>0) js PJ F λsc f eS A outer s H E fa sa n0 S hf hS has hr hu =>
 (dB (eP (rF ja B.tuple (fg (KE.loose (KN.data (iS [1] (N:=Ui) (mp:=[none,some 0]) rfl (qC B.range (eI (d5 1) (KE.loose dv))) rfl (co PJ (dn (top 32))) (λ_ _ _ _ _=>⟨(oB 0 (nd Ui)),(o6 (fB (qa hu) (KE.loose (eU 1 dF (RM hr) (dz dv dj) (hfd:=(by decide:1∈[1])))) (KE.loose dv))),(fx 0)⟩) (hfd:=(T3 (i:=0) rfl))))) d6))))
theorem Ar (F:FM K mg "_law_told" (top 33))(B:ly mg)(fM:gW P w K mg base Y)(dF:gc P w K mg base Y)(iq:kT P w K mg base cl)(kc:j6 P w K mg base Y) :
  nO P w K mg base Y :=
 uQ (C:=XC λ_=>0) nM PJ F λsc f eS A outer s H E fa sa n0 S hf hS has hr hu =>
 (dM (ou (fB Hy (KE.loose (eU 0 dF (RM hr) (dz dv dj) (hfd:=(by decide:0∈[0])))) (KE.loose dv)) (dB (eP (d7 iq (RM hr) (dz (fx 1) (dz (eU 0 kc (RM hr) (dz (fx 1) dj) (hfd:=(by decide:0∈[0]))) dj))))) fX)
 (dB (eP (eU 0 fM (RM hr) (dz (fx 1) dj) (hfd:=(by decide:0∈[0]))))))
theorem yr (F:FM K mg "_law_whole" (top 34))(B:ly mg) :
  me P w K mg base cl :=
 gp l4 V3 F λsc f eS A outer s H E n0 S has hr hu =>
 (dB (eP (Bf (EI B.isinstance B.int (d5 0)) (Bf (k_not (EI B.isinstance B.bool (d5 0))) (k_one (oh O4 (d5 0) (d5 1)))))))
end
section
variable {P:a5}{w:World}{K:W.Frag}{mg:Str->Option ag}{base:Heap}{f:Addr}{fd:bH}{cl:Str->Addr}{Y:xQ}
theorem qj (F:FM K mg "_law_is_rising" (top 35))(B:ly mg)(mw:me P w K mg base cl) :
  iZ P w K mg base cl :=
 gp iX Sw F λsc f eS A outer s H E n0 S has hr hu =>
 (dM (ou (KW.kb (w_or (Ep (Bd (EI B.isinstance B.tuple (d5 0)))) (Be (fB (RN hu) (KE.loose zP) (KE.loose (KN.data (iS [] (N:=Uk) (mp:=[none]) rfl (rK (d5 0)) rfl (co Sw (dn (top 35))) (λ_ _ _ _ _=>⟨(oB 0 (nd Uk)),o5,(d7 mw (RM hr) (dz (fx 0) (dz dv dj)))⟩) (hfd:=Ga)))))))) (dB (eP zP)) fX)
 (dB (eP (Bf (oh (qa hu) (KE.loose (KN.data (Ma B.list (d5 0)))) (KE.loose (KN.data (HN B.sorted B.set rfl (d5 0))))) (k_one (oh (qa hu) (KE.loose (KN.data (iS [] (N:=Uj) (mp:=[none,some 1]) rfl (rK (d5 0)) rfl (co Sw (dn (top 35))) (λ_ _ _ _ _=>⟨(oB 0 (nd Uj)),(o6 (fB O4 (d5 0) (d5 1))),(fx 0)⟩) (hfd:=Ga)))) (KE.loose (KN.data (lP dj)))))))))
theorem yt (F:FM K mg "_law_least" (top 36))(B:ly mg)(fL:gV P w K mg base cl) :
  mf P w K mg base cl :=
 gp l6 V4 F λsc f eS A outer s H E n0 S has hr hu =>
 (dM (Fl (i:=1) (pN hu) sc.nd (Or.inl rfl) (fo dj) (fo (dz dv (dz (fo dj) dj))) (hfd:=(nf 1 [])))
 (dM (ox PassesOwn.never rfl (ED B.enumerate (eI (d5 0) (KE.loose dv))) (O9 (n':=2) rfl (rJ (oB 2 sc.nd) (rJ (oB 3 sc.nd) rH)) (Pw [2,3]) rfl)
 (dM (Im (i:=4) 1 B.dict sc.nd (Or.inl rfl) (hfd:=(nf 4 [])))
 (dM (Mv 1 PassesOwn.never rfl (oB 5 sc.nd)
 (dM (gh 6 sc.nd (d7 fL (RM hr) (dz (fx 5) (dz (zV (d5 3) kL (kM dv)) dj))))
 (dM (gh 7 sc.nd (fo (dz (lQ lR (KE.loose (eI (KE.loose (Fm 1 (pN hu) (d5 5))) (KE.loose dv))) (KE.loose (eI (d5 3) (KE.loose dv)))) (dz (lQ lR (KE.loose (eI (KE.loose (Fm 1 (pN hu) (d5 5))) (KE.loose dv))) (KE.loose (fo (dz (fx 2) dj)))) dj))))
 (dB (ou (KW.kb (w_or (Mn 4 (pN hu) (d5 6)) (Be (fB Hx (KE.loose (eI (d5 7) (KE.loose dv))) (KE.loose (eI (KE.loose (Mm 4 (pN hu) (d5 6))) (KE.loose dv))))))) (dB (E6 4 (pN hu) (d5 6) (fx 7))) fX)))))
 (dB (Io (i:=1) 4 sc.nd (Or.inl rfl) (!2) (hfd:=(nf 1 [])))))))
 (dB (zZ 1))))
theorem yu (F:FM K mg "_law_sizes" (top 37))(B:ly mg)(dF:gc P w K mg base Y) :
  mh P w K mg base Y :=
 uQ (C:=XC λ_=>0) l7 V5 F λsc f eS A outer s H E fa sa n0 S hf hS has hr hu =>
 (dM (gh 2 sc.nd (eU 0 dF (RM hr) (dz dv dj) (hfd:=(by decide:0∈[0]))))
 (dM (ou (KW.kb (w_and (fB (qa hu) (d5 2) (KE.loose dv)) (zR (fB (qa hu) (d5 1) (KE.loose dv))))) (dB (eP (fo (dz dv (dz dv dj))))) fX)
 (dB (eP (zS (fB Hx (d5 2) (KE.loose dv)) (fo (dz dv (dz dv dj))) (fo (dz dv (dz dv dj))))))))
theorem yv (F:FM K mg "_law_right" (top 38))(B:ly mg)(gX:ju P w K mg base cl)(jc:kS P w K mg base cl)(iq:kT P w K mg base cl)(i3:iZ P w K mg base cl) :
  mn P w K mg base cl :=
 gp l8 V6 F λsc f eS A outer s H E n0 S has hr hu =>
 (dM (gh 3 sc.nd (EL hr B.repr (fo (dz (fx 0) (dz (fx 1) dj)))))
 (dM (gh 4 sc.nd (d7 jc (RM hr) (dz (fx 0) (dz (fx 1) dj))))
 (dM (ou (KW.kb (w_or (fB Po (KE.loose (EL hr B.repr (fo (dz (fx 0) (dz (fx 1) dj))))) (d5 3)) (Be (fB (HB hu) (KE.loose (oh HA (d5 4) (KE.loose lr))) (KE.loose (Mp (pN hu) (d5 1) (d5 2))))))) (dB (eP zP)) fX)
 (dM (ou (fB HA (d5 4) (KE.loose lr)) (dB (eP zP)) fX)
 (dM (ou (KW.kb (w_or (Ep (Bd (d7 i3 (RM hr) (dz (fx 4) (dz (qb Bk B.len (fg (KE.loose (eI (d5 0) (KE.loose dv))) d6)) dj))))) (Be (fB (HB hu) (KE.loose (d7 iq (RM hr) (dz (fx 0) (dz (fx 4) dj)))) (d5 1))))) (dB (eP zP)) fX)
 (dM (gh 5 sc.nd (eI (KE.loose (rV (pN hu) (d5 2) (d5 1))) (KE.loose dv)))
 (dM (gh 6 sc.nd (d7 jc (RM hr) (dz (fx 0) (dz (fx 1) dj))))
 (dB (eP (Bf (oh (qa hu) (KE.loose (d7 gX (RM hr) (dz (fx 0) (dz (fx 4) dj)))) (d5 5)) (k_one (oh (qa hu) (KE.loose (d7 gX (RM hr) (dz (fx 0) (dz (fx 6) dj)))) (d5 5)))))))))))))
end
section
variable {P:a5}{w:World}{K:W.Frag}{mg:Str->Option ag}{base:Heap}{f:Addr}{fd:bH}{cl:Str->Addr}{Y:xQ}
theorem PL (F:wZ K "law" "law" (top 39) f fd)(B:ly mg)(nQ:dJ P w K mg base 1 "_law_feed" ["_law_script"] (qD Y K))(mx:mn P w K mg base cl)(fM:gW P w K mg base Y)(nR:nO P w K mg base Y)(my:mf P w K mg base cl)(dF:gc P w K mg base Y)(pB:px P w K mg base Y)(mz:mh P w K mg base Y)(V9:yk { nx:=λ_ _=>False,rt:=λd _=>d=.bool true } (List.replicate 9 none) 0) :
  lB P w K mg base vy 20 f fd ["_law_script"] (xU K):=by
 have sc:e9 Um ["_law_script"] (dn (top 39)):=Ql;refine R7 (C:=XC cl) (Y:=Y) (k:=19) (u:=yk) F sc (!2) (λeS A outer s H E hr=>⟨gC (i:=1) sc.nd rfl (Or.inl rfl) (lL nQ (RM hr) (gk (qv 0) eG)),λfa sa n0 S H1 hf hS has=>?_⟩) rfl V9;have hu:=hr.units;unfold yk;exact (dM (ox PassesOwn.never rfl (Bn B.range dv) (oB 2 sc.nd)
 (dM (Pf (eU 1 mz (RM hr) (dz (fx 2) dj) (hfd:=(by decide:1∈[1]))) (O9 (n':=2) rfl (rJ (oB 3 sc.nd) (rJ (oB 4 sc.nd) rH)) (Pw [3,4]) rfl))
 (dM (gh 5 sc.nd (eU 1 pB (RM hr) (dz (fx 3) (dz (fx 4) (dz (oh (qa hu) (KE.loose (eU 1 dF (RM hr) (dz dv dj) (hfd:=(by decide:1∈[1])))) (KE.loose dv)) dj))) (hfd:=(by decide:1∈[1]))))
 (Pc (ou (fB (qa hu) (KE.loose (eU 1 dF (RM hr) (dz dv dj) (hfd:=(by decide:1∈[1])))) (KE.loose dv)) (dB (gh 5 sc.nd (fo (dz (eI (d5 5) (KE.loose dv)) (dz (rF ja B.tuple (fg (KE.loose (KN.data (iS [] (N:=Ul) (mp:=[none]) rfl (rK (KE.loose (eI (d5 5) (KE.loose dv)))) rfl (co Um (dn (top 39))) (λ_ _ _ _ _=>⟨(oB 0 (nd Ul)),o5,(lQ lR (KE.loose (zV (d5 0) kL (kM dv))) (KE.loose (fo (dz (lQ Et (KE.loose dv) (KE.loose (qb Ey B.abs (fg (KE.loose (eI (d5 0) (KE.loose dv))) d6)))) dj))))⟩) (hfd:=Ga)))) d6)) dj))))) fX)
 (dM (gh 6 sc.nd (d7 my (RM hr) (dz (fx 5) dj)))
 (dM (gh 7 sc.nd (KN.data (lP (dz (eU 1 nR (RM hr) (dz (fx 5) dj) (hfd:=(by decide:1∈[1]))) (dz (eU 1 fM (RM hr) (dz (fx 5) dj) (hfd:=(by decide:1∈[1]))) (dz (fo dj) (dz (Mb B.tuple B.range rfl (eI (d5 5) (KE.loose dv))) dj)))))))
 (dB (ox PassesOwn.never rfl (JF (zV (d5 7) kL (kM (lQ Et (KE.loose dv) (KE.loose (lQ JA (KE.loose dv) (KE.loose (rF JD B.int (fg (KE.loose (oh Hy (KE.loose (eI (d5 5) (KE.loose dv))) (KE.loose dv))) d6))))))))) (oB 8 sc.nd)
 (dB (ou (Ep (Bd (d7 mx (RM hr) (dz (fx 5) (dz (fx 8) (dz (fx 6) dj)))))) (dB (eP zP)) fX))))))))))
 (dB (eP zP)))
end
end Odj
namespace Odj
open PySem L2
local macro_rules | `(tactic| simp! [$ls,*]) => do let ex <- ("jH gN envOf List.length_cons List.length_nil List.map_cons List.map_nil List.cons_append List.nil_append List.append_nil List.replicate_succ List.replicate_zero Nat.reduceSub Nat.reduceAdd true_and and_true du fh fR eA lS dW rL HH dr df uC di dg eM uL JI dI dY dP Cr Eo zQ pM Jz Cs M' m6 HM dw nC jF nB Cy Pa Pb RS iH HG RR L5 vU zU Bi Bj JG JH EK JN R8 uJ g6 HF Cw pO dh O1 oq fi JM List.getElem?_cons_zero List.getElem?_cons_succ List.set_cons_zero List.set_cons_succ Option.join_some Option.join_none if_true if_false Bool.not_true Bool.not_false Bool.true_eq_false Bool.false_eq_true reduceIte".splitOn " ").toArray.mapM λs => `(Lean.Parser.Tactic.simpLemma| $(Lean.mkIdent s.toName):ident);`(tactic| simp only[$ls,*, $ex,*])
noncomputable abbrev dO:=Int × Int × Int
noncomputable def ee (t:dO):af:=.tuple [.int t.1,.int t.2.1,.int t.2.2]
noncomputable def dZ (many:Int)(ts:List dO):af:=.tuple [.int many,.tuple (ts.map ee)]
noncomputable def dk (ns:List Int):af:=.tuple (ns.map .int)
theorem yy (i j:Int):zT (.int i) (.int j)=some (.int (i - j)):=by simp only[zT]
theorem u3 (i j:Int):iQ (.int i) (.int j)=some (.int (i+j)):=by simp only[iQ]
section
variable {n:Int}{Q:af->Int->Prop}{X:XQ}
noncomputable def mO (t:dO)(x:Int):Int:=if t.1=x then t.2.1 else t.1
theorem wg (t:dO)(x:Int):jL [ee t,.int x] n Q X=Q (.int (mO t x)) n:=by
 simp! [jL,lY,ee,gP,hU,jb,mO];by_cases h:t.1=x<;>simp[h]
theorem mP {ts:List dO}{i:Int}(h0:0<=i)(h1:i<(ts.length:Int)):∃t,ts[i.toNat]? = some t/\t∈ts/\oW (ts.map ee) i=some (ee t):=by
 have hl:i.toNat<ts.length:=by omega
 refine⟨ts[i.toNat],by simp[hl],cg _,?_⟩;rw[nF h0 (by simpa using h1),aB];simp[hl]
end
theorem FC (k:List Int):eB [] k=none:=rfl
theorem ir (p:List Int × af)(kvs:fW)(k:List Int):eB (p::kvs) k=if p.1=k then some p.2 else eB kvs k:=by
 unfold eB;rw[bD];by_cases h:p.1=k
 .rw[decide_eq_true h,if_pos h];rfl
 .rw[decide_eq_false h,if_neg h]
theorem u4 (k j:List Int)(d:af):∀kvs:fW,(kvs.any λp=>decide (p.1=k))=false->eB (kvs++[(k,d)]) j=if j=k then some d else eB kvs j
 | [],_=>by
  rw[aI,ir,FC];by_cases h:j=k
  .rw[if_pos h.symm,if_pos h]
  .rw[if_neg (λz=>h z.symm),if_neg h]
 | p::kvs,ha=>by
  rw[bR,Bool.or_eq_false_iff] at ha;have hp:¬ p.1=k:=of_decide_eq_false ha.1;rw[aV,ir,u4 k j d kvs ha.2,ir];by_cases h:p.1=j
  .rw[if_pos h,if_pos h,if_neg (λz=>hp (h.trans z))]
  .rw[if_neg h,if_neg h]
theorem yz (k j:List Int)(d:af):∀kvs:fW,eB (kvs.map λp=>if p.1=k then (p.1,d) else p) j=(eB kvs j).map λx=>if j=k then d else x
 | []=>rfl
 | p::kvs=>by
  rw[ak,ir,ir,yz k j d kvs];by_cases h:p.1=k
  .rw[if_pos h]
   by_cases h2:p.1=j
   .rw[if_pos h2,if_pos h2,bJ,if_pos (h2.symm.trans h)]
   .rw[if_neg h2,if_neg h2]
  .rw[if_neg h]
   by_cases h2:p.1=j
   .rw[if_pos h2,if_pos h2,bJ,if_neg (λz=>h (h2.trans z))]
   .rw[if_neg h2,if_neg h2]
theorem sm (k:List Int):∀kvs:fW,(kvs.any λp=>decide (p.1=k))=(eB kvs k).isSome
 | []=>rfl
 | p::kvs=>by
  rw[bR,ir,sm k kvs];by_cases h:p.1=k
  .rw[if_pos h,decide_eq_true h];rfl
  .rw[if_neg h,decide_eq_false h];rfl
theorem mB (kvs:fW)(k j:List Int)(d:af):eB (gR kvs k d) j=if j=k then some d else eB kvs j:=by
 unfold gR;split
 .rename_i h
  rw[sm] at h;rw[yz];by_cases hj:j=k
  .subst hj
   obtain⟨x,hx⟩:=bE.mp h;rw[hx,if_pos rfl,bJ,if_pos rfl]
  .rw[if_neg hj]
   cases eB kvs j with
   | none=>rfl
   | some x=>rw[bJ,if_neg hj]
 .rename_i h
  exact u4 k j d kvs (Bool.eq_false_iff.mpr h)
noncomputable def i8 (kvs:fW):List (List Int):=kvs.map (·.1)
theorem yB (kvs:fW)(k:List Int)(d:af):i8 (gR kvs k d)=if k∈i8 kvs then i8 kvs else i8 kvs++[k]:=by
 have ha:((kvs.any λp=>decide (p.1=k))=true)↔k∈i8 kvs:=by
  rw[ci,i8,aM];constructor
  .rintro⟨p,hp,h⟩;exact⟨p,hp,of_decide_eq_true h⟩
  .rintro⟨p,hp,h⟩;exact⟨p,hp,decide_eq_true h⟩
 unfold gR;by_cases h:(kvs.any λp=>decide (p.1=k))=true
 .rw[if_pos h,if_pos (ha.mp h),i8,i8,bx]
  refine b8 λp _=>?_;show (if p.1=k then (p.1,d) else p).1=p.1;split<;>rfl
 .rw[if_neg h,if_neg (λz=>h (ha.mpr z)),i8,i8,aQ]
  rfl
noncomputable def iM (ts:List dO)(k:Int):List Int:=[(ts.getD k.toNat (0,0,0)).1,(ts.getD k.toNat (0,0,0)).2.1]
noncomputable def dD (ts:List dO)(ks:List Int):List Int:=(ks.map (iM ts)).flatten
noncomputable abbrev fw (ts:List dO)(ks:List Int):Prop:=∀k∈ks,0<=k/\k<(ts.length:Int)
theorem iu (ts:List dO)(k:Int)(ks:List Int):dD ts (k::ks)=iM ts k++dD ts ks:=rfl
theorem gY (ts:List dO)(a b:List Int):dD ts (a++b)=dD ts a++dD ts b:=by
 unfold dD;rw[aQ,List.flatten_append]
theorem iw {ts:List dO}{a b:List Int}(h:a.Perm b):(dD ts a).Perm (dD ts b):=(h.map _).flatten
theorem so:∀{l r:List Int},l.Nodup->r.Nodup->(∀k∈r,k∈l)->l.Perm (r++l.filter (λk=>!decide (k∈r))):=λ{l r} hl hr h=>by
 refine (bp hl ?_).mpr λk=>?_
 .refine b4.mpr ⟨hr,hl.filter _,λa ha b hb e=>?_⟩
  subst e;have:=(aP.mp hb).2;simp[ha] at this
 .rw[aY,aP]
  by_cases hk:k∈r
  .simp[hk,h k hk]
  .simp[hk]
theorem pC {ts:List dO}{l r:List Int}(hl:l.Nodup)(hr:r.Nodup)(h:∀k∈r,k∈l)(v:Int):(dD ts l).count v=(dD ts r).count v+(dD ts (l.filter λk=>!decide (k∈r))).count v:=by
 rw[(iw (so hl hr h)).count_eq,gY,bi]
noncomputable def Ur (ts:List dO)(x k q:Int):Prop:=∃t,0<=k/\ts[k.toNat]? = some t/\((t.1=x/\t.2.1=q)\/(t.2.1=x/\t.1=q))
theorem CT {ts:List dO}{x k q:Int}(h:Ur ts x k q)(v:Int):(iM ts k).count v=(if v=x then 1 else 0)+(if v=q then 1 else 0):=by
 obtain⟨t,_,ht,hh⟩:=h
 have e:iM ts k=[t.1,t.2.1]:=by
  unfold iM;rw[az,ht];rfl
 have b1:∀a:Int,(if (a == v)=true then 1 else 0)=(if v=a then 1 else (0:Nat)):=λa=>by
  by_cases h:v=a
  .subst h
   simp
  .rw[if_neg h,if_neg (by simpa using λz=>h z.symm)]
 have c1:∀a b:Int,[a,b].count v=(if v=a then 1 else 0)+(if v=b then 1 else 0):=λa b=>by
  rw[cK,cK,List.count_nil,b1,b1];omega
 rw[e,c1];rcases hh with⟨rfl,rfl⟩ | ⟨rfl,rfl⟩
 .rfl
 .exact Nat.add_comm _ _
noncomputable def jg (ts:List dO)(k:Int):Int:=(ts.getD k.toNat (0,0,0)).2.2
noncomputable def cost (ts:List dO)(ks:List Int):Int:=(ks.map (jg ts)).sum
theorem FD {a b:List Int}(h:a.Perm b):a.sum=b.sum:=by
 induction h with
 | nil=>rfl
 | cons x _ ih=>rw[cG,cG,ih]
 | swap x y l=>simp only[cG];omega
 | trans _ _ h1 h2=>exact h1.trans h2
theorem gG {ts:List dO}{a b:List Int}(h:a.Perm b):cost ts a=cost ts b:=FD (h.map _)
theorem iN (ts:List dO)(a b:List Int):cost ts (a++b)=cost ts a+cost ts b:=by
 unfold cost;rw[aQ,List.sum_append]
theorem kY (ts:List dO)(p:Int->Bool)(a:List Int):cost ts a=cost ts (a.filter p)+cost ts (a.filter λk=>!p k):=by
 induction a with
 | nil=>rfl
 | cons k a ih =>
  have e:∀l,cost ts (k::l)=jg ts k+cost ts l:=λl=>rfl
  cases hp:p k with
  | true=>rw[cY hp,cZ (by simp[hp]),e,e,ih];omega
  | false=>rw[cZ (by simp[hp]),cY (by simp[hp]),e,e,ih];omega
theorem kA {l:List Int}(h:l.Nodup)(k:Int):l.count k=if k∈l then 1 else 0:=List.Nodup.count h
theorem eh {row:List Int}{v:Int}:v∈dG row↔row.count v % 2=1:=by
 unfold dG;rw[ic,aP];constructor
 .intro z
  exact of_decide_eq_true z.2
 .intro z
  exact⟨bX.mp (!1),decide_eq_true z⟩
theorem fD (row:List Int):(dG row).Pairwise (· < ·):=ie _
theorem jQ {l:List Int}(h:l.Pairwise (· < ·)):l.Nodup:=h.imp λh z=>by omega
theorem fY (row:List Int):(dG row).Nodup:=jQ (fD row)
theorem jh {a b:List Int}(ha:a.Nodup)(hb:b.Nodup){k:Int}:k∈dG (a++b)↔¬ (k∈a↔k∈b):=by
 rw[eh,bi,kA ha,kA hb];by_cases h1:k∈a<;>by_cases h2:k∈b<;>simp[h1,h2]
noncomputable def SE (ts:List dO)(a s:List Int):Int:=cost ts (s.filter λk=>!decide (k∈a)) - cost ts (s.filter λk=>decide (k∈a))
theorem kZ {a s:List Int}(ha:a.Nodup)(hs:s.Nodup):(dG (a++s)).Perm ((a.filter λk=>!decide (k∈s))++(s.filter λk=>!decide (k∈a))):=by
 refine (bp (fY _) (b4.mpr ⟨ha.filter _,hs.filter _,λx hx y hy e=>?_⟩)).mpr λk=>?_
 .subst e
  have h1:=(aP.mp hx).1;have h2:=(aP.mp hy).2;simp[h1] at h2
 .rw[jh ha hs,aY,aP,aP]
  by_cases h1:k∈a<;>by_cases h2:k∈s<;>simp[h1,h2]
theorem u5 {a s:List Int}(ha:a.Nodup)(hs:s.Nodup):(a.filter λk=>decide (k∈s)).Perm (s.filter λk=>decide (k∈a)):=by
 refine (bp (ha.filter _) (hs.filter _)).mpr λk=>?_;rw[aP,aP];simp[and_comm]
theorem MD {ts:List dO}{a s:List Int}(ha:a.Nodup)(hs:s.Nodup):cost ts (dG (a++s)) - cost ts a=SE ts a s:=by
 have h1:=gG (ts:=ts) (kZ ha hs);have h2:=kY ts (λk=>decide (k∈s)) a;have h3:=gG (ts:=ts) (u5 ha hs);rw[iN] at h1;unfold SE;omega
noncomputable abbrev Hs:=List (Option Int)
noncomputable def mD (hs:Hs)(v:Int):Option Int:=hs.getD v.toNat none
noncomputable def mE (hs:Hs)(one other p:Int):Hs:=match mD hs one with
 | none=>hs
 | some c=>match mD hs other with
  | none=>hs.set other.toNat (some (c+p))
  | some d=>if c+p<d then hs.set other.toNat (some (c+p)) else hs
noncomputable def k8 (hs:Hs)(t:dO):Hs:=mE (mE hs t.1 t.2.1 t.2.2) t.2.1 t.1 t.2.2
noncomputable def sr (ts:List dO)(hs:Hs):Hs:=ts.foldl k8 hs
noncomputable def jw (ts:List dO):Nat->Hs->Hs
 | 0,hs=>hs
 | j+1,hs=>jw ts j (sr ts hs)
noncomputable def yC (many:Nat)(place:Int):Hs:=(List.replicate many none).set place.toNat (some 0)
noncomputable def fN (many:Nat)(ts:List dO)(place:Int):Hs:=jw ts many (yC many place)
theorem kB (hs:Hs)(one other p:Int):(mE hs one other p).length=hs.length:=by
 unfold mE;split
 .rfl
 .split
  .simp
  .split<;>simp
theorem k9 (hs:Hs)(t:dO):(k8 hs t).length=hs.length:=by unfold k8;rw[kB,kB]
theorem pD (ts:List dO):∀hs:Hs,(sr ts hs).length=hs.length:=by
 unfold sr
 induction ts with
 | nil=>intro hs;rfl
 | cons t ts ih=>intro hs;rw[dc,ih,k9]
theorem nS (ts:List dO):∀(j:Nat) (hs:Hs),(jw ts j hs).length=hs.length
 | 0,_=>rfl
 | j+1,hs=>by rw[jw,nS ts j,pD]
theorem jR {hs:Hs}{u v:Int}{x:Option Int}(u0:0<=u)(v0:0<=v)(hv:v<(hs.length:Int)):mD (hs.set v.toNat x) u=if u=v then x else mD hs u:=by
 unfold mD;rw[az,List.getElem?_set];by_cases e:u=v
 .subst e
  rw[if_pos rfl,if_pos (!1),if_pos rfl];rfl
 .rw[if_neg (!1),if_neg e,az]
noncomputable def Di (m:Int)(hs mG:Hs):Prop:=∀v c,0<=v->v<m->mD mG v=some c->∃c',mD hs v=some c'/\c'<=c
theorem Di.refl (m:Int)(hs:Hs):Di m hs hs:=λv c _ _ h=>⟨c,h,bG _⟩
theorem Di.trans {m:Int}{a b c:Hs}(h1:Di m a b)(h2:Di m b c):Di m a c:=λv x v0 v1 h=>by
 obtain⟨y,hy,Iy⟩:=h2 v x v0 v1 h;obtain⟨z,hz,XH⟩:=h1 v y v0 v1 hy;exact⟨z,hz,!1⟩
section
variable {m:Int}{hs:Hs}(hl:(hs.length:Int)=m)
include hl
theorem mQ {one other p:Int}(o0:0<=other)(o1:other<m):Di m (mE hs one other p) hs:=by
 intro v c v0 v1 h;unfold mE;split
 .exact⟨c,h,bG _⟩
 .split
  .rename_i hn
   rw[jR v0 o0 (!1)];by_cases e:v=other
   .subst e;rw[hn] at h;cases h
   .rw[if_neg e];exact⟨c,h,bG _⟩
  .rename_i d hd
   split
   .rw[jR v0 o0 (!1)]
    by_cases e:v=other
    .subst e
     rw[hd] at h;cases h;rw[if_pos rfl];exact⟨_,rfl,!1⟩
    .rw[if_neg e];exact⟨c,h,bG _⟩
   .exact⟨c,h,bG _⟩
theorem u6 {one other p c:Int}(o0:0<=other)(o1:other<m)(h:mD hs one=some c):∃c',mD (mE hs one other p) other=some c'/\c'<=c+p:=by
 unfold mE;rw[h];dsimp only;split
 .rw[jR o0 o0 (!1),if_pos rfl]
  exact⟨_,rfl,bG _⟩
 .rename_i d hd
  split
  .rw[jR o0 o0 (!1),if_pos rfl]
   exact⟨_,rfl,bG _⟩
  .exact⟨d,hd,!1⟩
end
noncomputable abbrev lg (m:Int)(ts:List dO):Prop:=∀t∈ts,0<=t.1/\t.1<m/\0<=t.2.1/\t.2.1<m
theorem su {m:Int}{hs:Hs}(hl:(hs.length:Int)=m){t:dO}(ht:0<=t.1/\t.1<m/\0<=t.2.1/\t.2.1<m):Di m (k8 hs t) hs:=by
 unfold k8;exact (mQ (by rw[kB];exact hl) ht.1 ht.2.1).trans (mQ hl ht.2.2.1 ht.2.2.2)
theorem pE {m:Int}:∀{ts:List dO} {hs:Hs},(hs.length:Int)=m->lg m ts->Di m (sr ts hs) hs
 | [],hs,_,_=>Di.refl m hs
 | t::ts,hs,hl,he=>by
  have h1:=su hl (he t (aq ..));have h2:=pE (ts:=ts) (hs:=k8 hs t) (by rw[k9];exact hl) λu hu=>he u (ai _ hu);exact h2.trans h1
theorem u7 {m:Int}:∀{ts:List dO} {hs:Hs},(hs.length:Int)=m->lg m ts->∀t∈ts,∀u v c,(u=t.1/\v=t.2.1\/u=t.2.1/\v=t.1)->mD hs u=some c->∃c',mD (sr ts hs) v=some c'/\c'<=c+t.2.2
 | [],_,_,_,t,ht,_,_,_,_,_=>by cases ht
 | s::ts,hs,hl,he,t,ht,u,v,c,ME,hc=>by
  have mG:=he s (aq ..);have wC:((k8 hs s).length:Int)=m:=by rw[k9];exact hl
  have SF:lg m ts:=λu hu=>he u (ai _ hu);have hb:=pE (ts:=ts) wC SF;rcases au.mp ht with rfl | ht
  .have Fd:((mE hs t.1 t.2.1 t.2.2).length:Int)=m:=by rw[kB];exact hl
   obtain⟨c1,h1,h2⟩:∃c1,mD (k8 hs t) v=some c1/\c1<=c+t.2.2:=by
    rcases ME with⟨rfl,rfl⟩ | ⟨rfl,rfl⟩
    .obtain⟨c1,h1,h2⟩:=u6 hl (one:=t.1) (other:=t.2.1) (p:=t.2.2) mG.2.2.1 mG.2.2.2 hc
     obtain⟨c2,h3,h4⟩:=mQ Fd (one:=t.2.1) (other:=t.1) (p:=t.2.2) mG.1 mG.2.1 _ _ mG.2.2.1 mG.2.2.2 h1;exact⟨c2,h3,!1⟩
    .obtain⟨c1,h1,h2⟩:=mQ hl (one:=t.1) (other:=t.2.1) (p:=t.2.2) mG.2.2.1 mG.2.2.2 _ _ mG.2.2.1 mG.2.2.2 hc
     obtain⟨c2,h3,h4⟩:=u6 Fd (one:=t.2.1) (other:=t.1) (p:=t.2.2) mG.1 mG.2.1 h1;exact⟨c2,h3,!1⟩
   have hv:0<=v/\v<m:=by rcases ME with⟨_,rfl⟩ | ⟨_,rfl⟩<;>omega
   obtain⟨c3,h5,h6⟩:=hb v c1 hv.1 hv.2 h1;exact⟨c3,h5,!1⟩
  .have hu:0<=u/\u<m:=by have:=SF t ht;rcases ME with⟨rfl,_⟩ | ⟨rfl,_⟩<;>omega
   obtain⟨c1,h1,h2⟩:=su hl mG u c hu.1 hu.2 hc;obtain⟨c2,h3,h4⟩:=u7 (ts:=ts) wC SF t ht u v c1 ME h1;exact⟨c2,h3,!1⟩
inductive Wk (ts:List dO) (s:Int):Int->List Int->Int->Prop
 | nil:Wk ts s s [] 0
 | step {u:Int} {vs:List Int} {c:Int} (w:Wk ts s u vs c) (t:dO) (ht:t∈ts) (v:Int) (h:u=t.1/\v=t.2.1\/u=t.2.1/\v=t.1):Wk ts s v (u::vs) (c+t.2.2)
noncomputable abbrev Plain (ts:List dO):Prop:=∀t∈ts,0<=t.2.2
theorem Wk.ahead {ts:List dO}{s:Int}(hp:Plain ts):∀{u:Int} {vs:List Int} {c:Int},Wk ts s u vs c->∀x∈u::vs,∃CU c2,Wk ts s x CU c2/\(x::CU) <:+ (u::vs)/\c2<=c
 | _,_,_,.nil,x,hx=>by
  rw[am.mp hx];exact⟨[],0,.nil,List.suffix_refl _,bG _⟩
 | _,_,_,.step (u:=u) (vs:=vs) (c:=c) w t ht v h,x,hx=>by
  rcases au.mp hx with rfl | hx
  .exact⟨_,_,.step w t ht x h,List.suffix_refl _,bG _⟩
  .obtain⟨CU,c2,w2,hs,hc⟩:=Wk.ahead hp w x hx
   have:=hp t ht;exact⟨CU,c2,w2,hs.trans (List.suffix_cons v _),!1⟩
theorem Wk.short {ts:List dO}{s:Int}(hp:Plain ts):∀{u:Int} {vs:List Int} {c:Int},Wk ts s u vs c->∃CU c2,Wk ts s u CU c2/\(u::CU).Nodup/\c2<=c
 | _,_,_,.nil=>⟨[],0,.nil,!4,bG _⟩
 | _,_,_,.step (u:=u) (vs:=vs) (c:=c) w t ht v h=>by
  obtain⟨CU,c2,w2,hn,hc⟩:=Wk.short hp w;have h0:=hp t ht;by_cases hv:v∈u::CU
  .obtain⟨V',c3,w3,hs,XI⟩:=Wk.ahead hp w2 v hv
   exact⟨V',c3,w3,hn.sublist hs.sublist,!1⟩
  .exact⟨u::CU,c2+t.2.2,.step w2 t ht v h,bb.mpr ⟨hv,hn⟩,!1⟩
theorem Wk.inR {m:Int}{ts:List dO}{s:Int}(he:lg m ts)(s0:0<=s)(s1:s<m):∀{u:Int} {vs:List Int} {c:Int},Wk ts s u vs c->∀x∈u::vs,0<=x/\x<m
 | _,_,_,.nil,x,hx=>by rw[am.mp hx];exact⟨s0,s1⟩
 | _,_,_,.step w t ht v h,x,hx=>by
  rcases au.mp hx with rfl | hx
  .have:=he t ht
   rcases h with⟨_,rfl⟩ | ⟨_,rfl⟩<;>omega
  .exact Wk.inR he s0 s1 w x hx
noncomputable def JZ (m:Int)(ts:List dO)(s:Int)(hs:Hs):Prop:=∀v c,0<=v->v<m->mD hs v=some c->∃vs,Wk ts s v vs c
theorem u9 {m:Int}{ts:List dO}{s:Int}{hs:Hs}(hl:(hs.length:Int)=m)(h:JZ m ts s hs){t:dO}(ht:t∈ts){one other:Int}(e:one=t.1/\other=t.2.1\/one=t.2.1/\other=t.1)(o0:0<=other)(o1:other<m)(u0:0<=one)(u1:one<m):JZ m ts s (mE hs one other t.2.2):=by
 intro v c v0 v1 hc;unfold mE at hc;split at hc
 .exact h v c v0 v1 hc
 .rename_i d hd
  obtain⟨vs,w⟩:=h one d u0 u1 hd;have hw:Wk ts s other (one::vs) (d+t.2.2):=.step w t ht other e;split at hc
  .rw[jR v0 o0 (!1)] at hc
   by_cases ev:v=other
   .rw[if_pos ev] at hc
    cases hc;rw[ev];exact⟨_,hw⟩
   .rw[if_neg ev] at hc;exact h v c v0 v1 hc
  .split at hc
   .rw[jR v0 o0 (!1)] at hc
    by_cases ev:v=other
    .rw[if_pos ev] at hc
     cases hc;rw[ev];exact⟨_,hw⟩
    .rw[if_neg ev] at hc;exact h v c v0 v1 hc
   .exact h v c v0 v1 hc
theorem vc {m:Int}{J1:List dO}{s:Int}:∀{ts:List dO} {hs:Hs},(hs.length:Int)=m->lg m ts->(∀t∈ts,t∈J1)->JZ m J1 s hs->JZ m J1 s (sr ts hs)
 | [],_,_,_,_,h=>h
 | t::ts,hs,hl,he,hi,h=>by
  have ht:=he t (aq ..);have hm:=hi t (aq ..);have h1:=u9 hl h hm (.inl ⟨rfl,rfl⟩) ht.2.2.1 ht.2.2.2 ht.1 ht.2.1;have h2:=u9 (by rw[kB];exact hl) h1 hm (.inr ⟨rfl,rfl⟩) ht.1 ht.2.1 ht.2.2.1 ht.2.2.2;exact vc (ts:=ts) (hs:=k8 hs t) (by rw[k9];exact hl) (λu hu=>he u (ai _ hu)) (λu hu=>hi u (ai _ hu)) h2
theorem sv {m:Int}{ts:List dO}{s:Int}(he:lg m ts):∀(j:Nat) {hs:Hs},(hs.length:Int)=m->JZ m ts s hs->JZ m ts s (jw ts j hs)
 | 0,_,_,h=>h
 | j+1,hs,hl,h=>sv he j (by rw[pD];exact hl) (vc hl he (λ_ h=>h) h)
theorem sx {m:Int}{ts:List dO}(he:lg m ts):∀(j:Nat) {hs:Hs},(hs.length:Int)=m->Di m (jw ts j hs) hs
 | 0,hs,_=>Di.refl m hs
 | j+1,hs,hl=>(sx he j (by rw[pD];exact hl)).trans (pE hl he)
theorem pU (ts:List dO):∀(j:Nat) (hs:Hs),jw ts (j+1) hs=sr ts (jw ts j hs)
 | 0,_=>rfl
 | j+1,hs=>by rw[jw,pU ts j,jw]
theorem sy {m:Int}{ts:List dO}{s:Int}(he:lg m ts){hs:Hs}(hl:(hs.length:Int)=m)(s0:0<=s)(s1:s<m)(h0:mD hs s=some 0):∀{u:Int} {vs:List Int} {c:Int},Wk ts s u vs c->∀j,vs.length<=j->∃c',mD (jw ts j hs) u=some c'/\c'<=c
 | _,_,_,.nil,j,_=>sx he j hl s 0 s0 s1 h0
 | _,_,_,.step w t ht v h,0,hj=>by simp at hj
 | _,_,_,.step w t ht v h,j+1,hj=>by
  rw[ap] at hj;obtain⟨c1,h1,h2⟩:=sy he hl s0 s1 h0 w j (!1);rw[pU];obtain⟨c2,h3,h4⟩:=u7 (by rw[nS];exact hl) he t ht _ v c1 h h1;exact⟨c2,h3,!1⟩
theorem MF {many:Nat}{s:Int}(s0:0<=s)(s1:s<many):mD (yC many s) s=some 0:=by
 unfold yC;rw[jR s0 s0 (by simpa using s1),if_pos rfl]
theorem Iz {many:Nat}{ts:List dO}{s:Int}(s0:0<=s)(s1:s<many):JZ many ts s (yC many s):=λv c v0 v1 h=>by
 unfold yC at h;rw[jR v0 s0 (by simpa using s1)] at h;by_cases e:v=s
 .rw[if_pos e] at h
  cases h;rw[e];exact⟨[],.nil⟩
 .rw[if_neg e] at h
  unfold mD at h;rw[az,bP] at h;split at h<;>cases h
structure oK (many:Nat) (ts:List dO) (s:Int) (hs:Hs):Prop where
 len:hs.length=many
 Wa:mD hs s=some 0
 fit:∀t∈ts,∀u v c,(u=t.1/\v=t.2.1\/u=t.2.1/\v=t.1)->mD hs u=some c->∃c',mD hs v=some c'/\c'<=c+t.2.2
 way:∀(v c:Int),0<=v->v<(many:Int)->mD hs v=some c->∃vs,Wk ts s v vs c/\(v::vs).Nodup
theorem As {many:Nat}{ts:List dO}{s:Int}(he:lg many ts)(hp:Plain ts)(s0:0<=s)(s1:s<many):oK many ts s (fN many ts s):=by
 have hl:((yC many s).length:Int)=many:=by unfold yC;simp
 have hw:∀{u:Int} {vs:List Int} {c:Int},Wk ts s u vs c->∃c',mD (fN many ts s) u=some c'/\c'<=c:=λw=>by
  obtain⟨CU,c2,w2,hn,hc⟩:=w.short hp;have hr:=w2.inR he s0 s1;have hlen:=fP hn (ns:=eT 0 many) λx hx=>ft.mpr (by have:=hr x hx;omega);rw[ap,eY] at hlen;obtain⟨c',h1,h2⟩:=sy he hl s0 s1 (MF s0 s1) w2 many (!1);exact⟨c',h1,!1⟩
 have MG:JZ many ts s (fN many ts s):=sv he many hl (Iz s0 s1)
 have SG:∀{u:Int} {vs:List Int} {c:Int},Wk ts s u vs c->0<=c:=λw=>by
  induction w with
  | nil=>exact bG _
  | step w t ht v h ih=>have:=hp t ht;omega
 refine⟨?_,?_,λt ht u v c ME hc=>?_,λv c v0 v1 hc=>?_⟩
 .unfold fN
  rw[nS];unfold yC;simp
 .obtain⟨c,h1,h2⟩:=hw (.nil (ts:=ts) (s:=s))
  obtain⟨vs,w⟩:=MG s c s0 s1 h1;have:=SG w;rw[h1];congr 1;omega
 .have hu:0<=u/\u<many:=by have:=he t ht;rcases ME with⟨rfl,_⟩ | ⟨rfl,_⟩<;>omega
  obtain⟨vs,w⟩:=MG u c hu.1 hu.2 hc;exact hw (.step w t ht v ME)
 .obtain⟨vs,w⟩:=MG v c v0 v1 hc
  obtain⟨CU,c2,w2,hn,AK⟩:=w.short hp;obtain⟨c',h1,h2⟩:=hw w2;rw[hc] at h1;cases h1;have e:c2=c:=by omega
  exact⟨CU,e ▸ w2,hn⟩
noncomputable abbrev MH (many:Int)(ts:List dO):Prop:=∀t∈ts,0<=t.1/\t.1<many/\0<=t.2.1/\t.2.1<many
noncomputable def CV (ts:List dO)(k:Int):dO:=ts.getD k.toNat (0,0,0)
theorem Wk.set {ts:List dO}{s:Int}:∀{u:Int} {vs:List Int} {c:Int},Wk ts s u vs c->(u::vs).Nodup ->
  ∃ks:List Int,fw ts ks/\ks.Nodup/\(∀x:Int,(dD ts ks).count x % 2=([s].count x + [u].count x) % 2)/\(ks.map λk=>(CV ts k).2.2).sum=c/\∀k∈ks,(CV ts k).1∈u::vs/\(CV ts k).2.1∈u::vs
 | _,_,_,.nil,_=>⟨[],(λk hk=>by cases hk),ca,λx=>by rw[show dD ts []=[] from rfl,List.count_nil];omega,rfl,λk hk=>by cases hk⟩
 | _,_,_,.step (u:=u) (vs:=vs) (c:=c) w t ht v h,hn=>by
  obtain⟨n1,n2⟩:=bb.mp hn;obtain⟨ks,h1,h2,h3,h4,h5⟩:=Wk.set w n2;obtain⟨i,hi,e⟩:=cL ht;have ek:CV ts (i:Int)=t:=by unfold CV;rw[bh,az,aJ hi,<- e];rfl
  have hv:v=t.1\/v=t.2.1:=by rcases h with⟨_,e⟩ | ⟨_,e⟩<;>simp[e]
  have DK:(i:Int) ∉ ks:=λz=>by
   have:=h5 _ z;rw[ek] at this;rcases hv with e | e
   .exact n1 (e ▸ this.1)
   .exact n1 (e ▸ this.2)
  have Qu:iM ts (i:Int)=[t.1,t.2.1]:=by
   have:=ek;unfold CV at this;unfold iM;rw[this]
  refine⟨(i:Int)::ks,λk hk=>?_,bb.mpr ⟨DK,h2⟩,λx=>?_,?_,λk hk=>?_⟩
  .rcases au.mp hk with rfl | hk
   .omega
   .exact h1 k hk
  .rw[iu,Qu,bi]
   have:=h3 x
   have e2:[t.1,t.2.1].count x=[u].count x + [v].count x:=by
    rcases h with⟨rfl,rfl⟩ | ⟨rfl,rfl⟩
    .rw[cK,bZ,bZ];omega
    .rw[cK,bZ,bZ]
   rw[e2];omega
  .rw[ak,cG,h4,ek]
   omega
  .rcases au.mp hk with rfl | hk
   .rw[ek]
    rcases h with⟨e1,e2⟩ | ⟨e1,e2⟩
    .rw[<- e1,<- e2];simp
    .rw[<- e1,<- e2];simp
   .have:=h5 k hk
    exact⟨ai _ this.1,ai _ this.2⟩
theorem oK.set {many:Nat}{ts:List dO}{s:Int}{hs:Hs}(h:oK many ts s hs){v c:Int}(v0:0<=v)(v1:v<(many:Int))(hc:mD hs v=some c) :
  ∃ks:List Int,fw ts ks/\ks.Pairwise (· < ·)/\dG (dD ts ks)=dG ([s]++[v])/\cost ts ks=c:=by
 obtain⟨vs,w,hn⟩:=h.way v c v0 v1 hc;obtain⟨ks,h1,h2,h3,h4,_⟩:=w.set hn;have hp:=sortI_perm ks;refine⟨sortI ks,λk hk=>h1 k (hp.mem_iff.mp hk),iG (fS _) (hp.nodup_iff.mpr h2),?_,?_⟩
 .refine lU (ie _) (ie _) λx=>?_
  have XJ:=(iw (ts:=ts) hp).count_eq x;have XM:=h3 x;rw[dG,dG,ic,ic,aP,aP,bi];constructor
  .rintro⟨_,hx⟩
   have hx:=of_decide_eq_true hx;have MI:([s].count x + [v].count x) % 2=1:=by omega
   refine⟨?_,decide_eq_true MI⟩;have:0<([s]++[v]).count x:=by rw[bi];omega
   exact bX.mp this
  .rintro⟨_,hx⟩
   have hx:=of_decide_eq_true hx;have MI:(dD ts (sortI ks)).count x % 2=1:=by omega
   exact⟨bX.mp (!1),decide_eq_true MI⟩
 .rw[gG hp]
  exact h4
noncomputable def wj (x:Option Int):af:=match x with | none=>.none | some c=>.int c
theorem IA {hs:Hs}{v:Int}(v0:0<=v)(v1:v<(hs.length:Int)):oW (hs.map wj) v=some (wj (mD hs v)):=by
 rw[nF v0 (by rw[ar];exact v1),aB];have hl:v.toNat<hs.length:=by omega
 unfold mD;rw[az,aJ hl];rfl
section
variable {n:Int}{X:XQ}{Q:af->Int->Prop}
noncomputable def CW (hs:Hs):af:=.tuple (hs.map wj)
end
noncomputable abbrev FE (ts:List dO):Prop:=∀t∈ts,t.2.2.natAbs<=99
theorem BC (row:List Int):(jI row).length<=row.length:=fP (jJ row) λk hk=>je.mp hk
theorem oM {α:Type}(I:d9->Prop)(g f:α->af)(p:α->Bool){ug:UG}{uc:UT}{ue:UX}{Q:List af->Int->Prop}{n:Int}:∀(xs:List α) (acc:List af) (env:d9),(∀k∈xs,∀env,I env->∃dH,I dH/\(∀K,ug (g k) env K=K dH)/\(∀n Q,uc dH n Q=Q (p k) n)/\(∀n Q,ue dH n Q=Q (f k) n))->I env ->
  fq ug uc ue Q (xs.map g) acc env n=Q (acc++(xs.filter p).map f) n
 | [],acc,env,_,_=>by simp[fq]
 | a::xs,acc,env,h,hi=>by
  obtain⟨dH,w9,h1,h2,h3⟩:=h a (aq ..) env hi;have ih:=λacc=>oM I g f p (ug:=ug) (uc:=uc) (ue:=ue) (Q:=Q) (n:=n) xs acc dH (λk hk=>h k (ai _ hk)) w9;rw[ak,fq,h1,h2]
  cases hp:p a with
  | true =>
   rw[if_pos rfl,h3,ih,cY hp,ak,bw];rfl
  | false=>rw[if_neg (!2),ih,cZ (by simp[hp])]
noncomputable def FF (m:Nat)(p:Int->Bool):List Int:=(eT 0 m).filter p
theorem MJ {m:Nat}{p:Int->Bool}{k:Int}(h:k∈FF m p):0<=k/\k<(m:Int):=by have:=ft.mp (aP.mp h).1;omega
theorem yD {α:Type}(f:α->af)(d:α)(xs:List α):i5 (xs.map f)=(eT 0 xs.length).map λk=>.tuple [.int k,f (xs.getD k.toNat d)]:=by
 refine List.ext_getElem? λi=>?_;unfold i5 eT;rw[aB,List.getElem?_zipIdx,aB,aB,aB];by_cases hi:i<xs.length
 .rw[aJ hi,aJ (by simpa using hi)]
  simp[az,hi]
 .rw[bg (!1),bg (by simp;omega)]
  rfl
noncomputable def fT (ts:List dO)(k:Int):dO:=ts.getD k.toNat (0,0,0)
theorem sA (ns:List Int):i7 (dk ns)=true:=by
 have:∀ns:List Int,jk (ns.map .int)=true:=by
  intro ns
  induction ns with
  | nil=>rfl
  | cons a ns ih=>simpa [jk,i7] using ih
 exact this _
theorem mF {ts:List dO}{k:Int}{t:dO}(h:ts[k.toNat]? = some t):iM ts k=[t.1,t.2.1]:=by
 unfold iM;rw[az,h];rfl
theorem GO (t:dO):Nb (ee t) none (some 2)=some (.tuple [.int t.1,.int t.2.1]):=by
 simp only[ee,Nb,Br _ 2 (!2)];rfl
section
variable {n:Int}{X:XQ}{Q:af->Int->Prop}
theorem Au {row:List Int}(h1:(jI row).length<=60)(h2:row.length<=100000):fy [.tuple (row.map .int)] n Q X=Q (dk (dG row)) n:=by
 simp only[fy,gD,dh,h1,h2,true_and,dk,and_self]
theorem gH {a b:List Int}(h:a.length+b.length<=60):eZ [dk a,dk b] n Q X=Q (dk (dG (a++b))) n:=by
 have e:iQ (.tuple (a.map .int)) (.tuple (b.map .int))=some (.tuple ((a++b).map .int)):=by rw[z9 (by rw[ar,ar];omega),aQ]
 have hl:(a++b).length<=60:=by rw[aK];exact h
 simp! [eZ,nK];rw[dk,dk];simp! [e,Au (bj (BC (a++b)) hl) (!1)]
theorem Av {row:List Int}(h1:(jI row).length<=60)(h2:row.length<=100000):fy [.list (row.map .int)] n Q X=Q (dk (dG row)) n:=by
 simp only[fy,gD,dh,h1,h2,true_and,dk,and_self]
theorem Aw {many:Int}{ts:List dO}{ks:List Int}(hk:fw ts ks)(hl:2 * ks.length<=60):mL [dZ many ts,dk ks] n Q X=Q (dk (dG (dD ts ks))) n:=by
 simp! [mL,pk,dk];have hsz:aA=16777216:=by decide
 have key:∀(us ps:List Int) (x1 x3:Option Ent),fw ts us->ps.length+2 * us.length<=60->i6 (g6 3) (jF 2 jG (dg (zU (dI fj (dI fj (df 0) (uC (.int 1))) (df 3)) Bi (Bj (uC (.int 2)))) di))
   { nx:=eA (nC fy (dg (df 2) di)) { nx:=λx n'=>Q af.none n',rt:=Q },rt:=Q } (us.map .int) [some (.s (dZ many ts)),x1,some (.o (ps.map .int)),x3] n=Q (dk (dG (ps++dD ts us))) n:=by
  intro us
  induction us with
  | nil =>
   intro ps x1 x3 _ hl;have Wb:ps.length<=60:=by simp at hl;omega
   simp! [i6,ba,Av (bj (BC ps) Wb) (by omega:ps.length<=100000),sA];simp[dD]
  | cons k us ih =>
   intro ps x1 x3 hu hl;rw[ap] at hl;obtain⟨t,ht,_,ha⟩:=mP (hu k (aq ..)).1 (hu k (aq ..)).2
   have ex:jG (ps.map .int) [.tuple [.int t.1,.int t.2.1]]=some ((ps++iM ts k).map .int):=by
    simp only[jG];rw[if_pos (by rw[ar,hsz];simp;omega),mF ht,aQ];rfl
   have:=ih (ps++iM ts k) x1 (some (.s (.int k))) (λj hj=>hu j (ai _ hj)) (by rw[aK,mF ht];simp;omega);rw[dZ] at this ⊢;simp! [i6,hU,ha,GO,ex];rw[this,bw,<- iu]
 exact key ks [] _ _ hk (by simp only[aX];omega)
end
theorem lh {α:Type}(l:List α):l.filter (λ_=>true)=l:=by simp
theorem IB {ts:List dO}{k:Int}(h:0<=k/\k<(ts.length:Int)):oW (ts.map ee) k=some (ee (ts.getD k.toNat (0,0,0))):=by
 obtain⟨t,h1,_,h2⟩:=mP h.1 h.2;rw[h2,az,h1];rfl
theorem MK {ts:List dO}(hp:FE ts){k:Int}(h:0<=k/\k<(ts.length:Int)):(jg ts k).natAbs<=99:=by
 obtain⟨t,h1,h3,_⟩:=mP h.1 h.2;unfold jg;rw[az,h1];exact hp t h3
theorem CY {ts:List dO}{ks:List Int}(hp:FE ts)(hk:fw ts ks):xZ [.list ((ks.map (jg ts)).map .int)]=some (.int (cost ts ks)):=by
 simp only[xZ,z7,gD,cV]
 rw[if_pos λn hn=>by
  obtain⟨k,O2,rfl⟩:=aM.mp hn;have:=MK hp (hk k O2);omega]
 rfl
theorem IC {ts:List dO}{a b:List Int}(ha:fw ts a)(hb:fw ts b):fw ts (dG (a++b)):=λk hk=>by
 have:k∈a++b:=bX.mp (by have:=eh.mp hk;omega);exact (aY.mp this).elim (ha k) (hb k)
theorem wm {a b:List Int}(ha:a.Pairwise (· < ·))(hb:b.Pairwise (·<=·))(h:b.Perm a):b=a:=nD h hb (ha.imp λh=>by omega)
inductive qk (ts:List dO) (s:Int):Int->List Int->List Int->Int->Prop
 | nil:qk ts s s [] [s] 0
 | step {u:Int} {es ps:List Int} {c:Int} (w:qk ts s u es ps c) (k:Int) (t:dO) (v:Int) (k0:0<=k) (ht:ts[k.toNat]? = some t) (h:u=t.1/\v=t.2.1\/u=t.2.1/\v=t.1) (hv:v ∉ ps):qk ts s v (k::es) (v::ps) (c+t.2.2)
section
variable {ts:List dO}{s v:Int}{es ps:List Int}{c:Int}
theorem qk.last (h:qk ts s v es ps c):v∈ps:=by cases h<;>simp
theorem qk.wk (h:qk ts s v es ps c):∃vs,Wk ts s v vs c:=by
 induction h with
 | nil=>exact⟨[],.nil⟩
 | step w k t v k0 ht h hv ih =>
  obtain⟨vs,ih⟩:=ih;exact⟨_,ih.step t (bY ht) v h⟩
theorem qk.ends (h:qk ts s v es ps c):∀k∈es,0<=k/\∃t,ts[k.toNat]? = some t/\t.1∈ps/\t.2.1∈ps:=by
 induction h with
 | nil=>intro k hk;cases hk
 | @step u es ps c w k t v k0 ht h hv ih =>
  intro j hj;rcases au.mp hj with rfl | hj
  .refine⟨k0,t,ht,?_⟩
   have:=w.last;rcases h with⟨rfl,rfl⟩ | ⟨rfl,rfl⟩
   .exact⟨ai _ this,aq ..⟩
   .exact⟨aq ..,ai _ this⟩
  .obtain⟨h0,t',h1,h2,h3⟩:=ih j hj
   exact⟨h0,t',h1,ai _ h2,ai _ h3⟩
theorem qk.num (h:qk ts s v es ps c):fw ts es:=λk hk=>by
 obtain⟨h0,t,ht,_⟩:=h.ends k hk;have:=(aD.mp ht).1;exact⟨h0,!1⟩
theorem qk.ML (h:qk ts s v es ps c):es.Nodup:=by
 induction h with
 | nil=>exact ca
 | @step u es ps c w k t v k0 ht h hv ih =>
  refine bb.mpr ⟨λz=>?_,ih⟩;obtain⟨_,t',Us,h1,h2⟩:=w.ends k z;rw[ht] at Us;cases Us;rcases h with⟨_,rfl⟩ | ⟨_,rfl⟩
  .exact hv h2
  .exact hv h1
theorem qk.cost (h:qk ts s v es ps c):Odj.cost ts es=c:=by
 induction h with
 | nil=>rfl
 | @step u es ps c w k t v k0 ht h hv ih =>
  have e:Odj.cost ts (k::es)=jg ts k+Odj.cost ts es:=rfl;have e2:jg ts k=t.2.2:=by unfold jg;rw[az,ht];rfl
  rw[e,e2,ih];omega
theorem Wk.low (hp:Plain ts){u:Int}{vs:List Int}(h:Wk ts s u vs c):0<=c:=by
 induction h with
 | nil=>exact bG 0
 | step w t ht v h ih=>have:=hp t ht;omega
theorem Wk.J2 {K:List Int}(hp:Plain ts)(hs:s∈K){u:Int}{vs:List Int}(h:Wk ts s u vs c)(hu:u ∉ K):∃x y t OJ c0,x∈K/\y ∉ K/\t∈ts/\(x=t.1/\y=t.2.1\/x=t.2.1/\y=t.1)/\Wk ts s x OJ c0/\c0+t.2.2<=c:=by
 induction h with
 | nil=>exact absurd hs hu
 | @step u vs c w t ht v h ih =>
  by_cases hk:u∈K
  .exact⟨u,v,t,vs,c,hk,hu,ht,h,w,bG _⟩
  .obtain⟨x,y,t',OJ,c0,h1,h2,h3,h4,h5,h6⟩:=ih hk
   have:=hp t ht;exact⟨x,y,t',OJ,c0,h1,h2,h3,h4,h5,!1⟩
theorem oK.low {many:Nat}{hs:Hs}(hg:oK many ts s hs){u:Int}{vs:List Int}(h:Wk ts s u vs c):∃c',mD hs u=some c'/\c'<=c:=by
 induction h with
 | nil=>exact⟨0,hg.Wa,bG _⟩
 | step w t ht v h ih =>
  obtain⟨c1,h1,h2⟩:=ih;obtain⟨c2,h3,h4⟩:=hg.fit t ht _ v c1 h h1;exact⟨c2,h3,!1⟩
end
structure vd (ts:List dO) (s:Int) (K:List Int) (kvs:fW):Prop where
 keys:i8 kvs=K.map λv=>[v]
 nd:K.Nodup
 st:s∈K
 val:∀v∈K,∃es ps c,qk ts s v es ps c/\(∀x∈ps,x∈K)/\eB kvs [v]=some (.tuple [.int c,dk (sortI es)])/\∀vs c',Wk ts s v vs c'->c<=c'
theorem sC {kvs:fW}{k:List Int}:(eB kvs k).isSome=true↔k∈i8 kvs:=by
 rw[<- sm,ci,i8,aM];constructor
 .rintro⟨p,hp,h⟩;exact⟨p,hp,of_decide_eq_true h⟩
 .rintro⟨p,hp,h⟩;exact⟨p,hp,decide_eq_true h⟩
section
variable {ts:List dO}{s:Int}{K:List Int}{kvs:fW}
theorem vd.has (h:vd ts s K kvs)(v:Int):(eB kvs [v]).isSome=decide (v∈K):=by
 rw[cJ,sC,h.keys,decide_eq_true_eq,aM];constructor
 .rintro⟨x,hx,e⟩
  have:x=v:=by simpa using e
  rwa [<- this]
 .intro hv;exact⟨v,hv,rfl⟩
theorem vd.none (h:vd ts s K kvs){v:Int}(hv:v ∉ K):eB kvs [v]=none:=by
 have:=h.has v;rw[decide_eq_false hv] at this;exact Option.not_isSome_iff_eq_none.mp (by simp[this])
theorem vd.len (h:vd ts s K kvs):kvs.length=K.length:=by
 have:=congrArg List.length h.keys;rw[i8,ar,ar] at this;exact this
theorem vd.one (hp:Plain ts)(s:Int):vd ts s [s] [([s],.tuple [.int 0,.tuple []])]:=by
 refine⟨rfl,!4,!4,λv hv=>?_⟩;rw[am.mp hv];refine⟨[],[s],0,.nil,!4,?_,λvs c' w=>w.low hp⟩;rw[ir,if_pos rfl];rfl
theorem vd.add (h:vd ts s K kvs){v d:Int}{es ps:List Int}(hp:qk ts s v es ps d)(hv:v ∉ K)(SH:∀x∈ps,x=v\/x∈K)(hl:∀vs c',Wk ts s v vs c'->d<=c'):vd ts s (K++[v]) (gR kvs [v] (.tuple [.int d,dk (sortI es)])):=by
 have hk:[v] ∉ i8 kvs:=λz=>by
  have:=sC.mpr z;rw[h.has,decide_eq_true_eq] at this;exact hv this
 refine⟨?_,b4.mpr ⟨h.nd,!4,λa ha b hb=>by rw[am.mp hb];exact λz=>hv (z ▸ ha)⟩,bn _ h.st,λx hx=>?_⟩
 .rw[yB,if_neg hk,h.keys,aQ]
  rfl
 .rcases aY.mp hx with hx | hx
  .obtain⟨g8,Wc,c,h1,h2,h3,h4⟩:=h.val x hx
   refine⟨g8,Wc,c,h1,λy hy=>bn _ (h2 y hy),?_,h4⟩;rw[mB,if_neg (λz=>by injection z with z;exact hv (z ▸ hx))];exact h3
  .rw[am.mp hx]
   refine⟨es,ps,d,hp,λy hy=>?_,by rw[mB,if_pos rfl],hl⟩;rcases SH y hy with rfl | hy
   .simp
   .exact bn _ hy
theorem vd.FG (h:vd ts s K kvs)(hp:Plain ts)(hc:∀t∈ts,(t.1∈K↔t.2.1∈K)){many:Nat}{hs:Hs}(hg:oK many ts s hs){v:Int}(v0:0<=v)(v1:v<(many:Int)) :
  match mD hs v with | .none=>eB kvs [v]=.none | .some c=>∃es ps,qk ts s v es ps c/\eB kvs [v]=some (.tuple [.int c,dk (sortI es)]):=by
 by_cases hv:v∈K
 .obtain⟨es,ps,c,h1,_,h3,h4⟩:=h.val v hv
  obtain⟨vs,w⟩:=h1.wk;obtain⟨c',e,h5⟩:=hg.low w;obtain⟨Qv,w',_⟩:=hg.way v c' v0 v1 e;have:=h4 _ _ w';have ec:c'=c:=by omega
  rw[e];exact⟨es,ps,ec ▸ h1,ec ▸ h3⟩
 .cases e:mD hs v with
  | none=>exact h.none hv
  | some c =>
   exfalso;obtain⟨vs,w,_⟩:=hg.way v c v0 v1 e;obtain⟨x,y,t,_,_,h1,h2,h3,h4,_⟩:=w.J2 hp h.st hv;rcases h4 with⟨rfl,rfl⟩ | ⟨rfl,rfl⟩
   .exact h2 ((hc t h3).mp h1)
   .exact h2 ((hc t h3).mpr h1)
end
noncomputable abbrev Ax:=Int × Int × List Int
noncomputable def gE (e:Ax):af:=.tuple [.int e.1,.int e.2.1,dk (sortI e.2.2)]
theorem sD (g:Bool):∀a b:List Int,(hV g (a.map .int) (b.map .int)).isSome=true
 | [],[]=>by simp[hV]
 | [],_::_=>by simp[hV]
 | _::_,[]=>by simp[hV]
 | x::a,y::b=>by
  rw[ak,ak,hV];split
  .exact sD g a b
  .rfl
theorem BE (x b:Ax):∃r,gn false (gE x) (gE b)=some r/\(r=true->x.1<=b.1)/\(r=false->b.1<=x.1):=by
 have e0:∀i j:Int,af.eqv (.int i) (.int j)=decide (i=j):=λi j=>by simp only[af.eqv];rfl
 rw[gE,gE,gn,hV,e0];by_cases h:x.1=b.1
 .rw[if_pos (decide_eq_true h)]
  have hs:(hV false [.int x.2.1,dk (sortI x.2.2)] [.int b.2.1,dk (sortI b.2.2)]).isSome=true:=by
   rw[hV];split
   .rw[hV]
    split
    .rfl
    .exact sD false _ _
   .rfl
  obtain⟨r,hr⟩:=bE.mp hs;exact⟨r,hr,λ_=>by omega,λ_=>by omega⟩
 .rw[if_neg (by simpa using h),gn]
  exact⟨_,rfl,λz=>by have:=of_decide_eq_true z;omega,λz=>by have:=of_decide_eq_false z;omega⟩
theorem sE:∀(l:List Ax) (a:Ax),∃e∈a::l,iJ false (gE a) (l.map gE)=gE e/\∀x∈a::l,e.1<=x.1
 | [],a=>⟨a,!4,rfl,λx hx=>by rw[am.mp hx];omega⟩
 | b::l,a=>by
  obtain⟨r,hr,h1,h2⟩:=BE b a;rw[ak,iJ,hr,cv]
  cases r with
  | true =>
   rw[if_pos rfl];obtain⟨e,he,h3,h4⟩:=sE l b;refine⟨e,ai _ he,h3,λx hx=>?_⟩;rcases au.mp hx with rfl | hx
   .have:=h4 b (aq ..)
    have:=h1 rfl;omega
   .exact h4 x hx
  | false =>
   rw[if_neg (!2)];obtain⟨e,he,h3,h4⟩:=sE l a;refine⟨e,?_,h3,λx hx=>?_⟩
   .rcases au.mp he with rfl | he
    .simp
    .exact ai _ (ai _ he)
   .rcases au.mp hx with rfl | hx
    .exact h4 x (aq ..)
    .rcases au.mp hx with rfl | hx
     .have:=h4 a (aq ..)
      have:=h2 rfl;omega
     .exact h4 x (ai _ hx)
theorem yE:∀ns:List Int,af.canLayAll0 (ns.map .int)=true
 | []=>rfl
 | a::ns=>by simpa [af.canLayAll0,af.canLay0] using yE ns
theorem yF:∀ns:List Int,af.depthAll (ns.map .int)=0
 | []=>rfl
 | a::ns=>by simp[af.depthAll,af.depth,yF ns]
theorem FH (l:List Ax):v3 false (l.map gE):=λx hx=>by
 obtain⟨e,_,rfl⟩:=aM.mp hx;refine⟨⟨?_,?_⟩,λy hy=>?_⟩
 .simp only[gE,dk,af.canLay0,af.canLayAll0,yE,Bool.and_self]
 .simp only[gE,dk,af.depth,af.depthAll,yF]
  omega
 .obtain⟨f,_,rfl⟩:=aM.mp hy
  obtain⟨r,hr,_⟩:=BE e f;rw[hr];rfl
structure vf (many:Int) (ts:List dO) (s:Int) (K:List Int) (e:Ax):Prop where
 ex:∃ps,qk ts s e.2.1 e.2.2 ps e.1/\∀x∈ps,x=e.2.1\/x∈K
 nk:e.2.1 ∉ K
 v0:0<=e.2.1
 v1:e.2.1<many
theorem CZ {many:Int}{ts:List dO}{s:Int}{K:List Int}{kvs:fW}(h:vd ts s K kvs)(hp:Plain ts){l:List Ax}(qV:∀t∈ts,∀x y,(x=t.1/\y=t.2.1\/x=t.2.1/\y=t.1)->x∈K->y ∉ K->∀(c:Int) (es:List Int),eB kvs [x]=some (.tuple [.int c,dk es])->∃e∈l,e.1=c+t.2.2)
  {e:Ax} (hk:e.2.1 ∉ K) (hm:∀x∈l,e.1<=x.1) {vs:List Int} {c':Int} (w:Wk ts s e.2.1 vs c'):e.1<=c':=by
 obtain⟨x,y,t,OJ,c0,h1,h2,h3,h4,h5,h6⟩:=w.J2 hp h.st hk;obtain⟨es,ps,c,g1,_,g3,g4⟩:=h.val x h1;obtain⟨f,hf,ef⟩:=qV t h3 x y h4 h1 h2 c (sortI es) g3;have:=hm f hf;have:=g4 _ _ h5;omega
theorem Ay {es:List Int}{k:Int}(hn:(k::es).Nodup):dG (sortI es++[k])=sortI (k::es):=by
 obtain⟨h1,h2⟩:=bb.mp hn;have hp:=sortI_perm es;have Qe:(sortI es++[k]).Nodup:=b4.mpr ⟨hp.nodup_iff.mpr h2,!4,λa ha b hb=>by rw[am.mp hb];exact λz=>h1 (hp.mem_iff.mp (z ▸ ha))⟩;refine lU (fD _) (iG (fS _) ((sortI_perm _).nodup_iff.mpr hn)) λx=>?_;have hm:x∈sortI es++[k]↔x∈k::es:=by rw[aY,hp.mem_iff,am,au];exact Or.comm
 rw[eh,(sortI_perm (k::es)).mem_iff,kA Qe x];by_cases hx:x∈sortI es++[k]
 .rw[if_pos hx]
  exact⟨λ_=>hm.mp hx,λ_=>rfl⟩
 .rw[if_neg hx]
  exact⟨λz=>by omega,λz=>absurd (hm.mpr z) hx⟩
theorem sF {ts:List dO}{k:Int}(h:0<=k/\k<(ts.length:Int)):fT ts k∈ts:=by
 obtain⟨t,h1,h2,_⟩:=mP (ts:=ts) h.1 h.2;unfold fT;rw[az,h1];exact h2
theorem wo (i:Int):kN false (.int i)=some [i]:=rfl
theorem sG {env:d9}{n:Int}{Q:af->Int->Prop}{uk ud:UX}{v:Int}{kvs:fW}(h1:∀n Q,uk env n Q=Q (.int v) n)(h2:∀n Q,ud env n Q=Q (eC false kvs) n):v8 uk ud env n Q=Q (.bool (eB kvs [v]).isSome) n:=by
 rw[v8,h1,h2,ph,dh];simp only[wo,dh]
theorem wq {env:d9}{n:Int}{Q:af->Int->Prop}{uk ud:UX}{v:Int}{kvs:fW}{d:af}(h1:∀n Q,uk env n Q=Q (.int v) n)(h2:∀n Q,ud env n Q=Q (eC false kvs) n)(h3:eB kvs [v]=some d):lX ud uk env n Q=Q d n:=by
 rw[lX,h2,ph,dh];simp only[h1,wo,dh,h3]
section
variable {n:Int}{X:XQ}{Q:af->Int->Prop}
theorem pF {many s:Int}{ts:List dO}{K:List Int}{kvs:fW}(w:MH many ts)(lH:Plain ts)(MM:ts.length<=16)(hT:vd ts s K kvs)
  (h1:(∀t∈ts,(t.1∈K↔t.2.1∈K))->Q .none n)
  (h2:∀e:Ax,vf many ts s K e->(∀vs c',Wk ts s e.2.1 vs c'->e.1<=c')->Q (gE e) n):fk [dZ many ts,eC false kvs] n Q X:=by
 have e0:dZ many ts=.tuple [.int many,.tuple (ts.map ee)]:=rfl;have Wd:i5 (ts.map ee)=(eT 0 ts.length).map λk=>.tuple [.int k,ee (fT ts k)]:=yD ee (0,0,0) ts;unfold fk iU;simp only[jH,gN,envOf,ak,ba,ap,aX,Nat.reduceSub,Nat.reduceAdd,aG,aU,aV,aI];with_reducible generalize C0:eA _=tr
 with_reducible generalize hb:fR _ _ _=b
 rw[true_and,du,rL,di];simp only[ay,av];rw[du,nB,Pb,dI,df];simp only[aa,ac];rw[uC,e0,fi,hU,dh];simp only[oq,dh];rw[Wd,<- e0]
 refine ku (λpre post env n'=>n'=n/\pre++post=((eT 0 ts.length).map λk=>af.tuple [.int k,ee (fT ts k)])/\∃(l:List Ax) (x3 x4 x5:Option Ent),env=[some (.s (dZ many ts)),some (.s (eC false kvs)),some (.o (l.map gE)),x3,x4,x5]/\(∀e∈l,vf many ts s K e)/\l.length<=pre.length /\
  ∀i:Int,0<=i->i<pre.length->∀x y,(x=(fT ts i).1/\y=(fT ts i).2.1\/x=(fT ts i).2.1/\y=(fT ts i).1)->x∈K->y ∉ K->∀(c:Int) (es:List Int),eB kvs [x]=some (.tuple [.int c,dk es])->∃e∈l,e.1=c+(fT ts i).2.2) _ [] _ _ ?_ ⟨rfl,rfl,[],none,none,none,rfl,!4,!4,λi h0 h1=>by simp at h1;omega⟩ ?_
 .rintro pre d post env n' E' hE ⟨rfl,hp,l,x3,x4,x5,rfl,hl,hlen,qV⟩ CL
  have J':pre.length<ts.length:=by
   have:=congrArg List.length hp;rw[aK,ap,ar,eY] at this;omega
  have hd:d=.tuple [.int (pre.length:Nat),ee (fT ts (pre.length:Nat))]:=by
   have h1:=congrArg (λl=>l[pre.length]?) hp;simp only[bT (ao _),Nat.sub_self,aa,aB] at h1;unfold eT at h1;rw[aB,cM J'] at h1;simpa using h1
  subst hd;obtain⟨k,hk⟩:∃k:Int,k=(pre.length:Nat):=⟨_,rfl⟩;have hm:=sF (ts:=ts) (k:=k) (!1)
  have Qw:ts[k.toNat]? = some (fT ts k):=by
   unfold fT;rw[az,aJ (!1)];rfl
  rw[<- hk];have hw:=w _ hm;generalize ht:fT ts k=t at hm Qw hw;simp only[HF,Cw,g6,ay,av];rw[<- hb];have SI:∀n Q,dI fj (df 4) (uC (af.int 0)) [some (.s (dZ many ts)),some (.s (eC false kvs)),some (.o (l.map gE)),some (.s (.int k)),some (.s (ee t)),x5] n Q=Q (.int t.1) n:=λn Q=>by simp! [ee,gP]
  have Ut:∀n Q,dI fj (df 4) (uC (af.int 1)) [some (.s (dZ many ts)),some (.s (eC false kvs)),some (.o (l.map gE)),some (.s (.int k)),some (.s (ee t)),x5] n Q=Q (.int t.2.1) n:=λn Q=>by simp! [ee,hU]
  have SJ:∀n Q,df 1 [some (.s (dZ many ts)),some (.s (eC false kvs)),some (.o (l.map gE)),some (.s (.int k)),some (.s (ee t)),x5] n Q=Q (eC false kvs) n:=λn Q=>by simp only[df,aa,ac]
  rw[fR,dY,dI,sG SI SJ,sG Ut SJ,hT.has,hT.has,xW,dh,dP]
  have G4:∀(l':List Ax) (x5:Option Ent),(∀e∈l',vf many ts s K e)->l'.length<=pre.length+1->(∀e∈l,e∈l')->(∀x y,(x=t.1/\y=t.2.1\/x=t.2.1/\y=t.1)->x∈K->y ∉ K->∀(c:Int) (es:List Int),eB kvs [x]=some (.tuple [.int c,dk es])->∃e∈l',e.1=c+t.2.2) ->
    E'.nx [some (.s (dZ many ts)),some (.s (eC false kvs)),some (.o (l'.map gE)),some (.s (.int k)),some (.s (ee t)),x5] n':=λl' x5 g1 g2 g3 g4=>by
   refine CL _ _ ⟨rfl,by rw[bw];exact hp,l',_,_,_,rfl,g1,by simpa using g2,λi i0 i1=>?_⟩;rw[aK,bq] at i1;by_cases hi:i<(pre.length:Int)
   .intro x y Iy hx hy c es hv
    obtain⟨e,he,e1⟩:=qV i i0 hi x y Iy hx hy c es hv;exact⟨e,g3 e he,e1⟩
   .have:i=k:=by omega
    rw[this,ht];exact g4
  by_cases hx:decide (t.1∈K)=decide (t.2.1∈K)
  .have hf:(!(decide (t.1∈K) == decide (t.2.1∈K)))=false:=by simp[hx]
   rw[hf,if_neg (!2),fh];have PM:=decide_eq_decide.mp hx;refine G4 l _ hl (!1) (λe he=>he) λx y Iy PN SK=>?_;exfalso;rcases Iy with⟨rfl,rfl⟩ | ⟨rfl,rfl⟩
   .exact SK (PM.mp PN)
   .exact SK (PM.mpr PN)
  .have hf:(!(decide (t.1∈K) == decide (t.2.1∈K)))=true:=by simp[hx]
   rw[hf,if_pos rfl,du,dW,Cs,dY,sG SI SJ,hT.has,dP]
   obtain⟨near,BF,We,Uu,PQ,iy⟩:∃near BF:Int,(if decide (t.1∈K)=true then t.1 else t.2.1)=near/\near∈K/\BF ∉ K/\(near=t.1/\BF=t.2.1\/near=t.2.1/\BF=t.1):=by
    by_cases h1:t.1∈K
    .have h2:t.2.1 ∉ K:=λz=>hx (by rw[decide_eq_true h1,decide_eq_true z])
     exact⟨t.1,t.2.1,by rw[decide_eq_true h1];rfl,h1,h2,.inl ⟨rfl,rfl⟩⟩
    .have h2:t.2.1∈K:=Classical.byContradiction λz=>hx (by rw[decide_eq_false h1,decide_eq_false z])
     exact⟨t.2.1,t.1,by rw[decide_eq_false h1];rfl,h2,h1,.inr ⟨rfl,rfl⟩⟩
   have Qx:∀(K':af->Int->Prop),(if decide (t.1∈K)=true then dI fj (df 4) (uC (af.int 0)) [some (.s (dZ many ts)),some (.s (eC false kvs)),some (.o (l.map gE)),some (.s (.int k)),some (.s (ee t)),x5] n' K' else dI fj (df 4) (uC (af.int 1)) [some (.s (dZ many ts)),some (.s (eC false kvs)),some (.o (l.map gE)),some (.s (.int k)),some (.s (ee t)),x5] n' K')=K' (.int near) n':=λK'=>by
    rw[SI,Ut,<- We];split<;>rfl
   rw[Qx];simp only[ay,av];obtain⟨es,ps,c,g1,g2,g3,g4⟩:=hT.val near Uu;have Wf:BF ∉ ps:=λz=>PQ (g2 BF z);have PR:0<=BF/\BF<many:=by rcases iy with⟨_,rfl⟩ | ⟨_,rfl⟩<;>omega
   have F4:qk ts s BF (k::es) (BF::ps) (c+t.2.2):=g1.step k t BF (!1) Qw iy Wf
   have Wg:mO t near=BF:=by
    unfold mO;rcases iy with⟨rfl,rfl⟩ | ⟨rfl,rfl⟩
    .rw[if_pos rfl]
    .rw[if_neg (λz:t.1=t.2.1=>PQ (by rw[z];exact Uu))]
   have Wh:es.length<=16:=by
    have:=fP g1.ML (ns:=eT 0 ts.length) λv hv=>ft.mpr (by have:=g1.num v hv;omega);rw[eY] at this;omega
   have PU:(sortI es).length=es.length:=(sortI_perm es).length_eq;have qc:∀n Q,lX (df 1) (df 5) [some (.s (dZ many ts)),some (.s (eC false kvs)),some (.o (l.map gE)),some (.s (.int k)),some (.s (ee t)),some (.s (.int near))] n Q=Q (.tuple [.int c,dk (sortI es)]) n:=λn Q=>wq (λn Q=>by simp only[df,aa,ac]) (λn Q=>by simp only[df,aa,ac]) g3;have Wi:fj (ee t) (.int 2)=some (.int t.2.2):=by rw[ee,fi,uN]
   rw[jF];simp only[aa,ac];rw[dg,eM,dg,dI,dI,qc,uC,fi,gP,dh,dI,df];simp only[aa,ac];rw[uC,Wi,dh,u3,dh,dg,dw,dg,dr];simp only[aa,ac];rw[dg,dr];simp only[aa,ac];rw[di,wg,Wg,dg,dw,dg,dI,qc,uC,fi,hU,dh,dg,eM,dg,dr];simp only[aa,ac];rw[di,di,show af.tuple [.int k]=dk [k] from rfl,gH (by rw[PU];simp;omega),Ay F4.ML,di,di];rw[jl (by rw[ar];omega),dh]
   have:=G4 (l++[(c+t.2.2,BF,k::es)]) (some (.s (.int near))) (λe he=>by
    rcases aY.mp he with he | he
    .exact hl e he
    .rw[am.mp he]
     exact⟨⟨BF::ps,F4,λx hx=>by rcases au.mp hx with hx | hx;exact .inl hx;exact .inr (g2 x hx)⟩,PQ,PR.1,PR.2⟩) (by simp;omega) (λe he=>bn _ he) (λx y Iy PN SK c' g8 hv=>by
    have Wj:x=near:=by
     rcases iy with⟨rfl,rfl⟩ | ⟨rfl,rfl⟩
     .rcases Iy with⟨rfl,rfl⟩ | ⟨rfl,rfl⟩
      .rfl
      .exact absurd PN PQ
     .rcases Iy with⟨rfl,rfl⟩ | ⟨rfl,rfl⟩
      .exact absurd PN PQ
      .rfl
    rw[Wj,g3] at hv;injection hv with hv;injection hv with hv;injection hv with hv _;injection hv with hv;exact⟨_,bf _ (am.mpr rfl),by rw[<- hv]⟩)
   rw[aQ] at this;exact this
 .rintro pre env n' ⟨rfl,hp,l,x3,x4,x5,rfl,hl,hlen,qV⟩
  rw[bI] at hp;have J':pre.length=ts.length:=by rw[hp,ar,eY]
  have Ka:∀t∈ts,∀x y,(x=t.1/\y=t.2.1\/x=t.2.1/\y=t.1)->x∈K->y ∉ K->∀(c:Int) (es:List Int),eB kvs [x]=some (.tuple [.int c,dk es])->∃e∈l,e.1=c+t.2.2:=λt ht=>by
   obtain⟨i,hi,rfl⟩:=cL ht
   have e:fT ts (i:Nat)=ts[i]:=by
    unfold fT;rw[bh,az,aJ hi];rfl
   have:=qV (i:Nat) (!1) (!1);rwa [e] at this
  show tr _ _ n';rw[<- C0,eA,Fe,df];simp only[aa,ac]
  cases l with
  | nil =>
   refine h1 λt ht=>?_
   have key:∀x y,(x=t.1/\y=t.2.1\/x=t.2.1/\y=t.1)->x∈K->y∈K:=λx y Iy hx=>Classical.byContradiction λhy=>by
    obtain⟨es,ps,c,_,_,g3,_⟩:=hT.val x hx;obtain⟨e,he,_⟩:=Ka t ht x y Iy hx hy c _ g3;cases he
   exact⟨key _ _ (.inl ⟨rfl,rfl⟩),key _ _ (.inr ⟨rfl,rfl⟩)⟩
  | cons a l =>
   obtain⟨e,he,h3,h4⟩:=sE l a;refine⟨FH (a::l),?_⟩;rw[h3];exact h2 e (hl e he) λvs c' wk=>CZ (many:=many) hT lH Ka (hl e he).nk h4 wk
theorem oN {many s:Int}{ts:List dO}(w:MH many ts)(lH:Plain ts)(MM:ts.length<=16)(m1:many<=60)(s0:0<=s)(s1:s<many)
  (h:∀(K:List Int) (kvs:fW),vd ts s K kvs->(∀t∈ts,(t.1∈K↔t.2.1∈K))->Q (eC false kvs) n):iK [dZ many ts,.int s] n Q X:=by
 have hsz:aA=16777216:=by decide
 unfold iK lZ;simp only[jH,gN,envOf,ak,ba,ap,aX,Nat.reduceSub,Nat.reduceAdd,aG,aU,aV,aI];with_reducible generalize C0:lS 2=tr
 with_reducible generalize Wl:du (pR 2 _ _) _=wb
 rw[true_and,du,Ad,dr];simp only[aa,ac];rw[eM,dg,uC,dg,eM,di,di];simp only[wo,dh];intro a ha;simp only[ay,av];rw[du,dW,nC,dg,df];simp only[aa,ac];rw[dg,df];simp only[aa,ac];rw[di]
 have Wm:∀e:Ax,i7 (gE e)=true:=λe=>by
  have:=sA (sortI e.2.2);simp only[gE,i7,jk,this,Bool.and_self]
 have hW:∀(K:List Int) (kvs:fW) (x3:Option Ent) (E:lO) (P:af->Int->Prop),vd ts s K kvs->((∀t∈ts,(t.1∈K↔t.2.1∈K))->P .none n)->(∀e:Ax,vf many ts s K e->(∀vs c',Wk ts s e.2.1 vs c'->e.1<=c')->P (gE e) n)->fk [dZ many ts,eC false kvs] n (λd n'=>i7 d=true/\P d n') De:=λK kvs x3 E P hT g1 g2 =>
  pF w lH MM hT (λhc=>⟨rfl,g1 hc⟩) λe he hl=>⟨Wm e,g2 e he hl⟩
 have Qx:∀d n',n'=n->(d=.none/\(∀t∈ts,(t.1∈[s]↔t.2.1∈[s]))\/∃e:Ax,d=gE e/\vf many ts s [s] e/\∀vs c',Wk ts s e.2.1 vs c'->e.1<=c')->du (o4 (dY (dI p9 (df 3) (uC af.none))) wb) tr { nx:=λx n'=>Q af.none n',rt:=Q } [some (.s (dZ many ts)),some (.s (.int s)),some (.d a false [([s],.tuple [.int 0,.tuple []])]),some (.s d)] n':=λd n' en hd=>by
  subst en;rw[du];unfold o4;refine⟨λm env SM=>SM=n'/\∃(K:List Int) (kvs:fW) (d:af),env=[some (.s (dZ many ts)),some (.s (.int s)),some (.d a false kvs),some (.s d)]/\vd ts s K kvs/\(∀v∈K,0<=v/\v<many)/\m+K.length=60/\(d=.none/\(∀t∈ts,(t.1∈K↔t.2.1∈K))\/∃e:Ax,d=gE e/\vf many ts s K e/\∀vs c',Wk ts s e.2.1 vs c'->e.1<=c'),⟨59,rfl,[s],_,d,rfl,vd.one lH s,λv hv=>by rw[am.mp hv];exact⟨s0,s1⟩,rfl,hd⟩,?_⟩;rintro m env SM ⟨rfl,K,kvs,d,rfl,hT,hK,hm,hd⟩;rw[dY,dI,df];simp only[aa,ac];rcases hd with⟨rfl,yX⟩ | ⟨e,rfl,he,hl⟩
  .have e1:p9 .none .none=some (.bool false):=rfl
   rw[uC,e1,dh,dP,if_neg (!2)];show tr _ _ SM;rw[<- C0,lS];simp only[aa,ac];exact h K kvs hT yX
  .have e1:p9 (gE e) .none=some (.bool true):=rfl
   obtain⟨ps,hp,SH⟩:=he.ex;have Qy:=hT.add hp he.nk SH hl
   have SN:∀v∈K++[e.2.1],0<=v/\v<many:=λv hv=>by
    rcases aY.mp hv with hv | hv
    .exact hK v hv
    .rw[am.mp hv];exact⟨he.v0,he.v1⟩
   have hlen:(K++[e.2.1]).length<=60:=by
    have:=fP Qy.nd (ns:=eT 0 many.toNat) λv hv=>ft.mpr (by have:=SN v hv;omega);rw[eY] at this;omega
   rw[aK,bq] at hlen;have i0:fj (gE e) (.int 0)=some (.int e.1):=by rw[gE,fi,gP]
   have i1:fj (gE e) (.int 1)=some (.int e.2.1):=by rw[gE,fi,hU]
   have i2:fj (gE e) (.int 2)=some (dk (sortI e.2.2)):=by rw[gE,fi,uN]
   rw[uC,e1,dh,dP,if_pos rfl,<- Wl,du,pR,eM,dg,dI,df];simp only[aa,ac];rw[uC,i0,dh,dg,dI,df];simp only[aa,ac];rw[uC,i2,dh,di];simp only[dI,df,uC,aa,ac,i1,dh,wo];refine⟨⟨by rw[hT.len];omega,λj t' kv hj z=>?_⟩,?_⟩
   .match j,hj,z with
    | 0,_,z=>simp at z
    | 1,_,z=>simp at z
    | 2,hj,_=>exact hj rfl
    | 3,_,z=>simp at z
    | j+4,_,z=>simp at z
   simp only[ay,av];rw[dW,nC,dg,df];simp only[aa,ac];rw[dg,df];simp only[aa,ac];rw[di];refine hW (K++[e.2.1]) _ none { nx:=λ_ _=>True,rt:=Q } _ Qy (λyX=>?_) λe' Cz F5=>?_
   .exact⟨m - 1,!1,rfl,K++[e.2.1],_,_,rfl,Qy,SN,by simp;omega,.inl ⟨rfl,yX⟩⟩
   .exact⟨m - 1,!1,rfl,K++[e.2.1],_,_,rfl,Qy,SN,by simp;omega,.inr ⟨e',rfl,Cz,F5⟩⟩
 refine hW [s] _ none { nx:=λ_ _=>True,rt:=Q } _ (vd.one lH s) (λyX=>?_) λe he hl=>?_
 .exact Qx _ _ rfl (.inl ⟨rfl,yX⟩)
 .exact Qx _ _ rfl (.inr ⟨e,rfl,he,hl⟩)
end
structure FI (many:Int) (t:dO):Prop where
 a0:0<=t.1
 ab:t.1<t.2.1
 bm:t.2.1<many
 pl:t.2.2.natAbs<=99
structure jx (many:Int) (ts:List dO):Prop where
 m0:1<=many
 m1:many<=9
 ok:∀t∈ts,FI many t
section
variable {n:Int}{Q:af->Int->Prop}{X:XQ}
theorem wu {b:Bool}(hn:n+1<=iI)(h:∀p:Int,p.natAbs<=99->(b=true->0<=p)->Q (.int p) (n+1)):jM [.bool b] n Q X:=by
 simp! [jM,l3,xE];refine gw (!2) (!2) (!1) λr h0 h1=>?_;obtain⟨x,hx,hm⟩:=ES (xs:=[af.int 0,.int 1,.int 2,.int 3,.int 5,.int 7,.int (-1),.int (-2),.int (-3),.int 99,.int (-99),.int 1]) h0 (by simpa using h1);simp! [JM,hx]
 obtain⟨p,rfl,hp⟩:∃p:Int,x=.int p/\p.natAbs<=99:=by
  simp only[au,cu,or_false] at hm;rcases hm with rfl | rfl | rfl | rfl | rfl | rfl | rfl | rfl | rfl | rfl | rfl | rfl<;>exact⟨_,rfl,!2⟩
 cases b with
 | true =>
  simp! [zW];exact h _ (!1) λ_=>by omega
 | false =>
  simp! [du];exact h p hp (!4)
theorem Az {m k:Int}{pl:Bool}(hm:1<=m)(XN:m<=9)(hk:0<=k)(Wn:k<=16)(hn:n+200<=iI)(h:∀(many:Int) (ts:List dO) (n':Int),jx many ts->many<=m->(ts.length:Int)<=k->(pl=true->∀t∈ts,0<=t.2.2)->n<=n'->n'<=n+200->Q (dZ many ts) n'):mM [.int m,.int k,.bool pl] n Q X:=by
 have BG:iI=1099511627776:=by decide
 unfold mM pq;simp only[jH,gN,envOf,ak,ba,ap,aX,Nat.reduceSub,Nat.reduceAdd,aG,aU,aV,aI];generalize SO:du (dW 7 _) _=bd;generalize Wo:eA _=te;simp! [du];refine gw (!1) (!1) (!1) λr r0 r1=>?_;simp! [u3];refine gw (!1) (!1) (!1) λc c0 c1=>?_;simp! [F7,intD,ET];generalize Uv:1+r=many;have k0:1<=many:=by omega
 have k1:many<=m:=by omega
 have hj:0<=(if decide (1<many)=true then c else 0)/\(if decide (1<many)=true then c else 0)<=k:=by split<;>omega
 have Rf:0<(if decide (1<many)=true then c else 0)->1<many:=by
  split
  .rename_i hh;intro _;exact of_decide_eq_true hh
  .intro z;omega
 generalize (if decide (1<many)=true then c else 0)=j at hj Rf ⊢;refine⟨!1,!1,ku (λpre post env n'=>∃ts x6 x7 x8,env=[none,some (.s (.int m)),some (.s (.int k)),some (.s (.bool pl)),some (.s (.int many)),some (.o (ts.map ee)),x6,x7,x8]/\(∀t∈ts,FI many t/\(pl=true->0<=t.2.2))/\ts.length<=2 * pre.length/\n+2<=n'/\n'<=n+2+4 * pre.length/\pre.length+post.length=j.toNat) _ [] _ _ ?_ ⟨[],none,none,none,rfl,!4,!4,!1,by simp;omega,by simp[oo]⟩ ?_⟩
 .rintro pre d post env n' E' hE ⟨ts,x6,x7,x8,rfl,MM,hl,Uw,Ux,hp⟩ CL
  rw[ap] at hp;have XO:1<many:=Rf (!1);subst SO;generalize Wq:fR _ _ _=tif;simp! [du];refine gw (!1) (!1) (!1) λa a0 a1=>?_;simp! [yy,u3];refine gw (!1) (!1) (!1) λb b0 b1=>?_;simp! [yy,u3,HR (show 0<many by omega)];have q0:0<=(a+1+b) % many:=cy _ (!1);have q1:(a+1+b) % many<many:=ck _ (!1)
  have q2:(a+1+b) % many≠a:=λz=>by
   have e:=Int.emod_add_mul_ediv (a+1+b) many;rw[z] at e;have h1:many * ((a+1+b) / many)=1+b:=by omega
   rcases Int.lt_or_le ((a+1+b) / many) 1 with h2 | h2
   .have:many * ((a+1+b) / many)<=many * 0:=Int.mul_le_mul_of_nonneg_left (!1) (!1)
    omega
   .have:many * 1<=many * ((a+1+b) / many):=Int.mul_le_mul_of_nonneg_left h2 (!1)
    omega
  generalize (a+1+b) % many=b' at q0 q1 q2;simp! [xH,xI];refine wu (!1) λp Qs lH=>?_;rw[jl (by rw[ar];omega)]
  obtain⟨x,hx,Uy⟩:∃x:dO,af.tuple [.int (if b' < a then b' else a),.int (if a<b' then b' else a),.int p]=ee x/\(FI many x/\(pl=true->0<=x.2.2)):=by
   refine⟨(if b' < a then b' else a,if a<b' then b' else a,p),rfl,⟨?_,?_,?_,Qs⟩,lH⟩
   .show 0<=(if b' < a then b' else a);split<;>omega
   .show (if b' < a then b' else a)<(if a<b' then b' else a);split<;>split<;>omega
   .show (if a<b' then b' else a)<many;split<;>omega
  simp! [du];rw[hx]
  have MN:∀t∈ts++[x],FI many t/\(pl=true->0<=t.2.2):=λt ht=>by
   rcases aY.mp ht with ht | ht
   .exact MM t ht
   .rw[am.mp ht];exact Uy
  subst Wq;simp! [du];refine gw (!1) (!1) (!1) λz z0 z1=>?_;simp! [jb];by_cases hz:z=0
  .simp! [hz,decide_true]
   simp! [om,Er];split
   .simp! [xE,ER]
    rw[jl (by rw[aK,ar];simp;omega)];simp! [du];refine CL _ _ ⟨ts++[x]++[x],_,_,_,(by rw[aQ,aQ];rfl),λt ht=>?_,by simp;omega,!1,by simp;omega,by simp;omega⟩;rcases aY.mp ht with ht | ht
    .exact MN t ht
    .rw[am.mp ht];exact Uy
   .exact CL _ _ ⟨ts++[x],_,_,_,(by rw[aQ];rfl),MN,by simp;omega,!1,by simp;omega,by simp;omega⟩
  .simp! [hz,decide_false]
   exact CL _ _ ⟨ts++[x],_,_,_,(by rw[aQ];rfl),MN,by simp;omega,!1,by simp;omega,by simp;omega⟩
 .rintro pre env n' ⟨ts,x6,x7,x8,rfl,MM,hl,Uw,Ux,hp⟩
  subst Wo;simp! [Nb,Br _ k hk,fQ,<- List.map_take];exact h many (ts.take k.toNat) n' ⟨k0,!1,λt ht=>(MM t (cp ht)).1⟩ k1 (by rw[bF];omega) (λz t ht=>(MM t (cp ht)).2 z) (!1) (by simp at hp;omega)
end
theorem MO {many:Int}{ts:List dO}(w:jx many ts):FE ts:=λt ht=>(w.ok t ht).pl
theorem C1 (x:Str):Aa (.str x) (.str x)=some (.bool false):=by simp[Aa]
theorem MP {many:Int}{ts:List dO}(w:jx many ts)(hl:ts.length<=16):Sz 10000 11 700 3 (dZ many ts):=by
 have m0:=w.m0;have m1:=w.m1
 have h1:∀d∈ts.map ee,Sz 10000 11 33 1 d:=λd hd=>by
  obtain⟨t,ht,rfl⟩:=aM.mp hd;have:=w.ok t ht;have a0:=this.a0;have ab:=this.ab;have bm:=this.bm;have pl:=this.pl;exact (Sz.tup (nE.cons (Sz.small (by omega:t.1.natAbs<1024) (!2)) (nE.cons (Sz.small (by omega:t.2.1.natAbs<1024) (!2)) (nE.cons (Sz.small (by omega:t.2.2.natAbs<1024) (!2)) nE.nil)))).mono (ao _) (ao _) (!2) (!2)
 have h2:=nE.all h1;rw[ar] at h2;exact (Sz.tup (nE.cons (Sz.small (by omega:many.natAbs<1024) (!2)) (nE.cons (Sz.tup h2) nE.nil))).mono (ao _) (ao _) (!1) (!2)
theorem mR {uc:UT}{Q:List af->Int->Prop}(hc:∀(d:af) (n:Int) (Q:Bool->Int->Prop),n+1<=iI->(∀b,Q b (n+1))->uc [some (.s d),none] n Q):∀(xs acc:List Int) (x:Option Ent) (n:Int),n+xs.length<=iI->(∀sub:List Int,sub.Sublist xs->Q ((acc++sub).map .int) (n+xs.length))->fq (g6 0) uc (dr 0) Q (xs.map .int) (acc.map .int) [x,none] n
 | [],acc,x,n,hn,h=>by
  have:=h [] (List.Sublist.refl _);rw[bI] at this;simpa [fq] using this
 | k::xs,acc,x,n,hn,h=>by
  rw[ap] at hn;simp only[ak,fq,g6,av];refine hc _ _ _ (!1) λb=>?_;have e1:n+1+(xs.length:Int)=n+((xs.length+1:Nat):Int):=by omega
  cases b with
  | true =>
   simp only[if_true,dr,aa];have e2:acc.map af.int++[.int k]=(acc++[k]).map .int:=by rw[aQ];rfl
   rw[e2];refine mR hc xs (acc++[k]) _ (n+1) (!1) λsub hs=>?_;have:=h (k::sub) (hs.cons_cons k);rw[bw,e1];exact this
  | false =>
   simp only[bO,if_false];refine mR hc xs acc _ (n+1) (!1) λsub hs=>?_;have:=h sub (hs.cons k);rw[e1];exact this
theorem oO (m:Nat):(eT 0 m).Pairwise (· < ·):=by
 unfold eT;exact List.pairwise_map.mpr (List.pairwise_lt_range.imp λh=>by omega)
theorem C2 (a b:List Int):dG (b++a)=dG (a++b):=by
 refine wm (fD _) ((fD _).imp λh=>by omega) ((bp (fY _) (fY _)).mpr λk=>?_);rw[eh,eh,bi,bi,Nat.add_comm]
noncomputable def ql:Nat->List (List Int)
 | 0=>[[]]
 | k+1=>ql k++(ql k).map (·++[(k:Int)])
theorem sH:∀k,(ql k).length=2 ^ k
 | 0=>rfl
 | k+1=>by
  rw[ql,aK,ar,sH k,Nat.pow_succ];omega
theorem mS (k:Nat):eT 0 (k+1)=eT 0 k++[(k:Int)]:=by
 unfold eT;rw[List.range_succ,aQ];simp
theorem oP:∀{k:Nat} {s:List Int},s∈ql k↔s.Sublist (eT 0 k)
 | 0,s=>by
  show s∈[[]]↔s.Sublist [];simp
 | k+1,s=>by
  rw[ql,mS,aY,oP (k:=k),List.sublist_append_iff];constructor
  .rintro (h | h)
   .exact⟨s,[],!4,h,!4⟩
   .obtain⟨r,hr,rfl⟩:=aM.mp h
    exact⟨r,[(k:Int)],rfl,oP.mp hr,List.Sublist.refl _⟩
  .rintro⟨a,b,rfl,ha,hb⟩
   rcases List.sublist_cons_iff.mp hb with hb | ⟨r,rfl,hr⟩
   .have:=List.sublist_nil.mp hb
    subst this;left;simpa using ha
   .have:=List.sublist_nil.mp hr
    subst this;right;exact aM.mpr ⟨a,oP.mpr ha,rfl⟩
theorem C3 (m:Nat):inD (.bool false) (.list (List.replicate m (.bool true)))=some (.bool false):=by
 have hl:af.canLayAll0 (List.replicate m (.bool true))=true:=by
  induction m with
  | zero=>rfl
  | succ m ih=>rw[aG];simp only[af.canLayAll0,af.canLay0,ih];rfl
 have he:((List.replicate m (af.bool true)).any λd=>af.eqv d (.bool false))=false:=by
  induction m with
  | zero=>rfl
  | succ m ih =>
   rw[aG,bR,ih (by rw[aG] at hl;simp only[af.canLayAll0,bo] at hl;exact hl.2)];simp[af.eqv]
 simp only[inD,Cu];rw[if_pos ⟨rfl,hl,by simp[af.depth]⟩,he];rfl
theorem C4 {s:List Int}(hs:s.Pairwise (· < ·)):o9 s=s:=wm hs ((ie s).imp λh=>by omega) ((bp (jQ (ie s)) (jQ hs)).mpr λk=>ic)
theorem sI (row:List Int)(v:Int):(dG row).count v % 2=row.count v % 2:=by
 rw[kA (fY row)];by_cases h:v∈dG row
 .rw[if_pos h,eh.mp h]
 .rw[if_neg h]
  have:¬ row.count v % 2=1:=λz=>h (eh.mpr z);omega
theorem yG {a b:List Int}(h:∀v,a.count v % 2=b.count v % 2):dG a=dG b :=
 wm (fD b) ((fD a).imp λh=>by omega) ((bp (fY a) (fY b)).mpr λv=>by rw[eh,eh,h v])
theorem pG (row e:List Int):dG (dG row++e)=dG (row++e):=yG λv=>by
 rw[bi,bi,Nat.add_mod,sI,<- Nat.add_mod]
theorem FJ {many:Int}{ts:List dO}(w:jx many ts){k:Int}(h:0<=k/\k<(ts.length:Int)):FI many (ts.getD k.toNat (0,0,0)):=by
 obtain⟨t,h1,h2,_⟩:=mP h.1 h.2;rw[az,h1];exact w.ok t h2
theorem BH {many:Int}{ts:List dO}(w:jx many ts):∀{s:List Int},fw ts s->∀v∈dD ts s,0<=v/\v<many
 | [],_,v,hv=>by simp[dD] at hv
 | k::s,h,v,hv=>by
  rw[iu] at hv;have ht:=FJ w (h k (aq ..));have a0:=ht.a0;have ab:=ht.ab;have bm:=ht.bm;rcases aY.mp hv with hv | hv
  .unfold iM at hv
   rcases au.mp hv with rfl | hv
   .omega
   .rw[am.mp hv];omega
  .exact BH w (λi hi=>h i (ai _ hi)) v hv
theorem qJ {many:Int}{ts:List dO}(w:jx many ts){s:List Int}(h:fw ts s):∀v∈dG (dD ts s),0<=v/\v<many:=λv hv =>
 BH w h v (bX.mp (by have:=eh.mp hv;omega))
theorem yH {many:Int}{ts:List dO}(w:jx many ts){s:List Int}(h:fw ts s):(dG (dD ts s)).length<=9:=by
 have:=fP (fY (dD ts s)) (ns:=eT 0 many.toNat) λv hv=>ft.mpr (by have:=qJ w h v hv;omega);rw[eY] at this;have:=w.m1;omega
theorem MQ {ts:List dO}{k:Int}{t:dO}(h:ts[k.toNat]? = some t):jg ts k=t.2.2:=by
 unfold jg;rw[az,h];rfl
theorem FK {ts:List dO}{pre post:List af}{d:af}(h:pre++d::post=((ts.map ee).zipIdx).map (λp=>af.tuple [.int (p.2:Nat),p.1])):∃t,ts[pre.length]? = some t/\d=.tuple [.int (pre.length:Int),ee t]:=by
 have e:(pre++d::post)[pre.length]? = some d:=by simp
 rw[h,aB,List.getElem?_zipIdx,aB] at e
 cases ht:ts[pre.length]? with
 | none=>rw[ht] at e;cases e
 | some t =>
  rw[ht] at e;simp at e;exact⟨t,rfl,e.symm⟩
section
variable {n:Int}{X:XQ}{Q:af->Int->Prop}
theorem qm {a b:List Int}(h:a.length+b.length<=60)(ha:a.Nodup)(hb:b.Nodup):e8 [dk a,dk b] n Q X=Q (dk (dG (a++b))) n:=by
 have e1:dk a=.tuple (a.map .int):=rfl;have e2:dk b=.tuple (b.map .int):=rfl;simp! [e8,jo,e1,e2]
 rw[jf (λk=>.int k) (λk=>!decide (k∈b)) _ _ _ _ (λk _ n Q=>by simp! [du]) (λk _ n Q=>by simp! [rO]),
  jf (λk=>.int k) (λk=>!decide (k∈a)) _ _ _ _ (λk _ n Q=>by simp! [du]) (λk _ n Q=>by simp! [rO])]
 have l1:=bM (λk=>!decide (k∈b)) a;have l2:=bM (λk=>!decide (k∈a)) b
 have e3:iQ (.list ([]++(a.filter λk=>!decide (k∈b)).map λk=>af.int k)) (.list ([]++(b.filter λk=>!decide (k∈a)).map λk=>af.int k))=some (.list (((a.filter λk=>!decide (k∈b))++(b.filter λk=>!decide (k∈a))).map .int)):=by
  rw[aI,aI,Md (by rw[ar,ar];omega),aQ]
 have hl:((a.filter λk=>!decide (k∈b))++(b.filter λk=>!decide (k∈a))).length<64:=by rw[aK];omega
 have es:sortI ((a.filter λk=>!decide (k∈b))++(b.filter λk=>!decide (k∈a)))=dG (a++b):=wm (fD _) (fS _) ((sortI_perm _).trans (kZ ha hb).symm);generalize []++(a.filter λk=>!decide (k∈b)).map (λk=>af.int k)=l at e3 ⊢;generalize []++(b.filter λk=>!decide (k∈a)).map (λk=>af.int k)=l' at e3 ⊢;simp! [e3,gD,hl,es,fQ,dk]
theorem yI {many:Int}{ts:List dO}(w:jx many ts){s:List Int}(h:fw ts s){k:Int}{t:dO}(hk:0<=k/\k<(ts.length:Int))(ht:ts[k.toNat]? = some t):e8 [dk (dG (dD ts s)),.tuple [.int t.1,.int t.2.1]] n Q X=Q (dk (dG (dD ts (s++[k])))) n:=by
 have Uz:=FJ w hk;rw[az,ht] at Uz;have ab:t.1<t.2.1:=Uz.ab;have e:af.tuple [.int t.1,.int t.2.1]=dk (iM ts k):=by rw[mF ht];rfl
 have:=yH w h;rw[e,qm (by rw[mF ht];simp;omega) (fY _) (by rw[mF ht];simp;omega),pG,gY,iu];simp[dD]
theorem pV {many:Int}{ts:List dO}(w:jx many ts){s:List Int}(h:fw ts s)(hq:Q (dk (dG (dD ts s))) n):jq [dZ many ts,dk s] n Q X:=by
 have e0:dZ many ts=.tuple [.int many,.tuple (ts.map ee)]:=rfl;have es:dk s=.tuple (s.map .int):=rfl;unfold jq nL;simp only[jH,gN,envOf,ak,ba,ap,aX,Nat.reduceSub,Nat.reduceAdd,aG,aU,aV,aI];rw[es];simp! [du];refine ku (λpre post env n'=>∃(a b:List Int) (x3:Option Ent),env=[some (.s (dZ many ts)),some (.s (.tuple (s.map .int))),some (.s (dk (dG (dD ts a)))),x3]/\a++b=s/\post=b.map .int/\n'=n) _ [] _ _ ?_ ⟨[],s,none,rfl,rfl,rfl,rfl⟩ ?_
 .rintro pre d post env n' E' hE ⟨a,b,x3,rfl,p7,yJ,rfl⟩ CL
  cases b with
  | nil=>cases yJ
  | cons k b =>
   rw[ak] at yJ;injection yJ with h1 h2;subst h1;have hk:k∈s:=by rw[<- p7];simp
   obtain⟨t,ht,_,Qw⟩:=mP (h k hk).1 (h k hk).2;rw[e0];simp! [hU,Qw,GO];rw[yI w (λi hi=>h i (by rw[<- p7];exact bn _ hi)) (h k hk) ht];exact CL _ _ ⟨a++[k],b,_,rfl,by rw[<- p7];simp,h2,rfl⟩
 .rintro pre env n' ⟨a,b,x3,rfl,p7,yJ,rfl⟩
  have hb:b=[]:=by cases b with | nil=>rfl | cons _ _=>cases yJ
  subst hb;rw[bI] at p7;subst p7;simp! [du];exact hq
theorem lz {many:Int}{ts:List dO}{ks:List Int}(hp:FE ts)(hk:fw ts ks):f' [dZ many ts,dk ks] n Q X=Q (.int (cost ts ks)) n:=by
 rw[dk];simp! [f',jr]
 rw[jf (λk=>.int (jg ts k)) (λ_=>true) _ _ _ _ (λk O2 n Q=>by
  rw[dZ];simp! [hU,IB (hk k O2),ee,uN,jg]) (λk _ n Q=>by simp! [du])]
 have e:([]++(ks.filter λ_=>true).map λk=>af.int (jg ts k))=(ks.map (jg ts)).map .int:=by rw[lh,aI,bx];rfl
 rw[e];simp! [CY hp hk]
theorem sJ {many:Int}{ts:List dO}(hl:ts.length<=16)(hn:n+16<=iI)(h:∀s:List Int,s.Sublist (eT 0 ts.length)->Q (dk s) (n+ts.length)):iE [dZ many ts] n Q X:=by
 have e0:dZ many ts=.tuple [.int many,.tuple (ts.map ee)]:=rfl;have BG:iI=1099511627776:=by decide
 unfold iE jY;simp only[jH,gN,envOf,ak,ba,ap,aX,Nat.reduceSub,Nat.reduceAdd,aG,aU,aV,aI];rw[e0];simp! [hU,om,ar];refine⟨⟨!1,!1⟩,?_⟩;rw[bh,mK];refine mR (λd n Q hn hq=>?_) _ [] _ _ (by rw[eY];omega) λs hs=>?_
 .simp! [du]
  refine gw (!2) (!2) (!1) λr r0 r1=>?_;simp! [jb];exact hq _
 rw[aI,eY];simp! [fQ];exact h s hs
end
structure eJ (ts:List dO) (told s:List Int):Prop where
 num:fw ts s
 nd:s.Nodup
 odd:∀v,(dD ts s).count v % 2=1↔v∈told
noncomputable def gI (ts:List dO)(told:List Int)(c:Int):Prop:=(∃s,eJ ts told s/\cost ts s=c)/\∀s,eJ ts told s->c<=cost ts s
theorem gI.one {ts:List dO}{told:List Int}{c d:Int}(h:gI ts told c)(k:gI ts told d):c=d:=by
 obtain⟨⟨s,hs,rfl⟩,h2⟩:=h;obtain⟨⟨t,ht,rfl⟩,k2⟩:=k;exact Int.le_antisymm (h2 t ht) (k2 s hs)
theorem jy {ts:List dO}(hp:Plain ts):∀{s:List Int},fw ts s->0<=cost ts s
 | [],_=>bG _
 | k::s,h=>by
  have h1:=jy hp (s:=s) λj hj=>h j (ai _ hj);have h2:=hp _ (sF (h k (aq ..)));have e:cost ts (k::s)=jg ts k+cost ts s:=rfl;have h3:0<=jg ts k:=h2;omega
theorem yL {ts:List dO}{told:List Int}(hp:Plain ts)(h:∃s,eJ ts told s):∃c,gI ts told c:=by
 have key:∀(m:Nat) (s:List Int),eJ ts told s->(cost ts s).toNat<=m->∃c,gI ts told c:=by
  intro m
  induction m with
  | zero =>
   intro s hs hm;have h0:=jy hp hs.num;exact⟨cost ts s,⟨s,hs,rfl⟩,λt ht=>by have:=jy hp ht.num;omega⟩
  | succ m ih =>
   intro s hs hm;by_cases hz:∃t,eJ ts told t/\cost ts t<cost ts s
   .obtain⟨t,ht,jB⟩:=hz
    have h0:=jy hp ht.num;exact ih t ht (!1)
   .exact⟨cost ts s,⟨s,hs,rfl⟩,λt ht=>Int.not_lt.mp λz=>hz ⟨t,ht,z⟩⟩
 obtain⟨s,hs⟩:=h;exact key _ s hs (ao _)
theorem wx {l:List Int}(hl:l.Nodup){a b:Int}(p7:a≠b){v:Int}:v∈dG (l++[a,b])↔¬ (v∈l↔(v=a\/v=b)):=by
 rw[jh hl (by simp[p7])];simp
theorem eJ.turns {ts:List dO}{A B C s t:List Int}(h:eJ ts A s)(k:eJ ts B t)(hC:∀v,v∈C↔¬ (v∈A↔v∈B)):eJ ts C (dG (s++t)):=by
 refine⟨IC h.num k.num,fY _,λv=>?_⟩;have hp:=iw (ts:=ts) (kZ h.nd k.nd);have e1:=pC (ts:=ts) (r:=s.filter λj=>decide (j∈t)) h.nd (h.nd.filter _) (λj hj=>(aP.mp hj).1) v;have e2:=pC (ts:=ts) (r:=t.filter λj=>decide (j∈s)) k.nd (k.nd.filter _) (λj hj=>(aP.mp hj).1) v;have e3:=(iw (ts:=ts) (u5 h.nd k.nd)).count_eq v;have e4:=hp.count_eq v;rw[gY,bi] at e4;have f1:(s.filter λj=>!decide (j∈s.filter λj=>decide (j∈t)))=s.filter λj=>!decide (j∈t):=List.filter_congr λj hj=>by simp[hj]
 have f2:(t.filter λj=>!decide (j∈t.filter λj=>decide (j∈s)))=t.filter λj=>!decide (j∈s):=List.filter_congr λj hj=>by simp[hj]
 rw[f1] at e1;rw[f2] at e2;have o1:=h.odd v;have o2:=k.odd v;rw[hC v,<- o1,<- o2];omega
theorem sL {ts:List dO}(hp:Plain ts){s t:List Int}(hs:fw ts s)(ht:fw ts t)(ns:s.Nodup)(nt:t.Nodup):cost ts (dG (s++t))<=cost ts s+cost ts t:=by
 rw[gG (kZ ns nt),iN];have e1:=kY ts (λk=>decide (k∈t)) s;have e2:=kY ts (λk=>decide (k∈s)) t;have l1:=jy hp (s:=s.filter λk=>decide (k∈t)) λj hj=>hs j (aP.mp hj).1;have l2:=jy hp (s:=t.filter λk=>decide (k∈s)) λj hj=>ht j (aP.mp hj).1;omega
noncomputable def sM (b:Bool):Nat:=if b=true then 1 else 0
theorem FN {ts:List dO}(rest:List Int){a:Int}:∀(m:Nat) (s:List Int) (x:Int) (vs:List Int) (c:Int),s.length<=m->fw ts s->s.Nodup->Wk ts a x vs c->(∀v,(dD ts s).count v % 2=(sM (decide (v∈rest))+sM (decide (v=x))) % 2) ->
  ∃b∈rest,∃Qv c' s',Wk ts a b Qv c'/\fw ts s'/\s'.Nodup/\(∀v,(dD ts s').count v % 2=(sM (decide (v∈rest))+sM (decide (v=b))) % 2)/\c' + cost ts s'<=c+cost ts s:=by
 intro m
 induction m with
 | zero =>
  intro s x vs c hl hn hd hw ho;have e:s=[]:=cI (!1);subst e;by_cases hx:x∈rest
  .exact⟨x,hx,vs,c,[],hw,hn,hd,ho,bG _⟩
  .have:=ho x
   simp[dD,sM,hx] at this
 | succ m ih =>
  intro s x vs c hl hn hd hw ho;by_cases hx:x∈rest
  .exact⟨x,hx,vs,c,s,hw,hn,hd,ho,bG _⟩
  .have h1:(dD ts s).count x % 2=1:=by rw[ho x];simp[sM,hx]
   have SQ:x∈dD ts s:=bX.mp (!1);obtain⟨l,Fd,wC⟩:=List.mem_flatten.mp SQ;obtain⟨k,hk,rfl⟩:=aM.mp Fd;have Qr:=hn k hk;have Wr:=sF (ts:=ts) Qr;have Qu:iM ts k=[(fT ts k).1,(fT ts k).2.1]:=rfl;rw[Qu] at wC
   obtain⟨y,hy⟩:∃y,x=(fT ts k).1/\y=(fT ts k).2.1\/x=(fT ts k).2.1/\y=(fT ts k).1:=by
    simp only[au,cu,or_false] at wC;rcases wC with e | e
    .exact⟨_,.inl ⟨e,rfl⟩⟩
    .exact⟨_,.inr ⟨e,rfl⟩⟩
   have Ph:=Wk.step hw (fT ts k) Wr y hy;have Ft:=pC (ts:=ts) (r:=[k]) hd (!4) (by simpa using hk);have hp:=so hd (by simp:([k]:List Int).Nodup) (by simpa using hk)
   have hlen:(s.filter λj=>!decide (j∈[k])).length<=m:=by
    have:=hp.length_eq;rw[aK,bq] at this;omega
   have Kb:cost ts s=jg ts k+cost ts (s.filter λj=>!decide (j∈[k])):=by
    rw[gG hp,iN];simp[cost]
   have SR:∀v,(dD ts [k]).count v=sM (decide (v=x))+sM (decide (v=y)):=λv=>by
    have e:dD ts [k]=[(fT ts k).1,(fT ts k).2.1]:=by rw[iu,Qu];rfl
    have c1:∀z:Int,[z].count v=sM (decide (v=z)):=λz=>by
     rw[bZ];unfold sM;by_cases h:v=z
     .subst h;simp
     .have h2:¬ z=v:=λq=>h q.symm
      simp[h,h2]
    have c2:∀z w:Int,[z,w].count v=sM (decide (v=z))+sM (decide (v=w)):=λz w=>by
     rw[show ([z,w]:List Int)=[z]++[w] from rfl,bi,c1,c1]
    rw[e,c2];rcases hy with⟨rfl,rfl⟩ | ⟨rfl,rfl⟩<;>omega
   obtain⟨b,hb,Qv,c',s',w',n',d',o',XR⟩:=ih (s.filter λj=>!decide (j∈[k])) y _ _ hlen (λj hj=>hn j (aP.mp hj).1) (hd.filter _) Ph λv=>by
    have h2:=Ft v;have h3:=SR v;have h4:=ho v;omega
   refine⟨b,hb,Qv,c',s',w',n',d',o',?_⟩;have e:(fT ts k).2.2=jg ts k:=rfl;rw[Kb];omega
theorem sN {many:Nat}{ts:List dO}{a:Int}{rest s:List Int}{hs:Hs}(hg:oK many ts a hs)(hn:(a::rest).Nodup)(h:eJ ts (a::rest) s) :
  ∃b∈rest,∃d s',mD hs b=some d/\eJ ts (dG ((a::rest)++[a,b])) s'/\d+cost ts s'<=cost ts s:=by
 obtain⟨na,nr⟩:=bb.mp hn
 obtain⟨b,hb,vs,c,s',w,n',d',o',le⟩:=FN (ts:=ts) rest _ s a [] 0 (ao _) h.num h.nd .nil λv=>by
  have:=h.odd v;rw[au] at this;by_cases z:v=a
  .subst z
   rw[this.mpr (.inl rfl)];simp[sM,na]
  .by_cases zr:v∈rest
   .rw[this.mpr (.inr zr)]
    simp[sM,z,zr]
   .have h0:¬ (dD ts s).count v % 2=1:=λq=>by rcases this.mp q with q | q;exact z q;exact zr q
    simp[sM,z,zr];omega
 have p7:a≠b:=λz=>na (z ▸ hb);obtain⟨d,hd,HI⟩:=hg.low w;refine⟨b,hb,d,s',hd,⟨n',d',λv=>?_⟩,!1⟩;rw[wx hn p7,o' v];by_cases z:v=a
 .subst z
  simp[sM,na,p7]
 .by_cases zb:v=b
  .subst zb
   simp[sM,hb]
  .by_cases zr:v∈rest<;>simp[sM,z,zb,zr]
theorem C5 {many:Nat}{ts:List dO}{a b d:Int}{rest s':List Int}{hs:Hs}(hp:Plain ts)(hg:oK many ts a hs)(hn:(a::rest).Nodup)(hb:b∈rest)(b0:0<=b)(b1:b<(many:Int))(hd:mD hs b=some d)(h:eJ ts (dG ((a::rest)++[a,b])) s') :
  ∃s,eJ ts (a::rest) s/\cost ts s<=d+cost ts s':=by
 obtain⟨na,nr⟩:=bb.mp hn;have p7:a≠b:=λz=>na (z ▸ hb);obtain⟨ks,k1,k2,k3,k4⟩:=hg.set b0 b1 hd
 have hk:eJ ts [a,b] ks:=⟨k1,jQ k2,λv=>by
  have:=congrArg (λl=>v∈l) k3;simp only[eq_iff_iff] at this;rw[<- eh,this,eh,bi,bZ,bZ];by_cases z1:v=a
  .subst z1;simp[p7.symm]
  .by_cases z2:v=b
   .subst z2;simp[Ne.symm z1]
   .simp[z1,z2,Ne.symm z1,Ne.symm z2]⟩
 refine⟨dG (ks++s'),hk.turns h λv=>?_,by rw[<- k4];exact sL hp k1 h.num (jQ k2) h.nd⟩;rw[wx hn p7];by_cases z1:v=a
 .subst z1;simp
 .by_cases z2:v=b
  .subst z2;simp[hb]
  .simp[z1,z2]
noncomputable def AA (ts:List dO)(told:List Int)(d:af):Prop:=(∃c,d=.int c/\gI ts told c)\/(d=.none/\¬ ∃s,eJ ts told s)
structure Rg (many:Int) (told:List Int):Prop where
 lt:told.Pairwise (· < ·)
 rg:∀v∈told,0<=v/\v<many
theorem MR {m:Nat}(h:m<=9):2 ^ m<100000:=cz (Nat.pow_le_pow_right (n:=2) (!2) h) (!2)
noncomputable def MS (many:Int)(hm:many<=9)(ts:List dO):kx:=⟨AA ts,ql many.toNat,[],by rw[sH];exact MR (!1)⟩
theorem Rg.sub {many:Int}{told:List Int}(h:Rg many told):told∈ql many.toNat:=by
 rw[oP]
 have e:told=(eT 0 many.toNat).filter λk=>decide (k∈told):=lU h.lt ((oO _).sublist cw) λk=>by
  rw[aP,ft];exact⟨λhk=>⟨by have:=h.rg k hk;omega,decide_eq_true hk⟩,λhk=>of_decide_eq_true hk.2⟩
 rw[e];exact cw
theorem Rg.len {many:Int}{told:List Int}(h:Rg many told)(hm:many<=9):told.length<=9:=by
 have:=fP (jQ h.lt) (ns:=eT 0 many.toNat) λk hk=>ft.mpr (by have:=h.rg k hk;omega);rw[eY] at this;omega
theorem Rg.less {many a b:Int}{rest:List Int}(h:Rg many (a::rest))(hb:b∈rest):Rg many (dG ((a::rest)++[a,b]))/\(dG ((a::rest)++[a,b])).length+2=(a::rest).length:=by
 have hn:=jQ h.lt;obtain⟨na,nr⟩:=bb.mp hn;have p7:a≠b:=λz=>na (z ▸ hb)
 have key:∀v,v∈dG ((a::rest)++[a,b])↔v∈rest.erase b:=λv=>by
  rw[wx hn p7,List.Nodup.mem_erase_iff nr];by_cases z1:v=a
  .subst z1;simp[na]
  .by_cases z2:v=b
   .subst z2;simp[hb]
   .simp[z1,z2]
 have hp:(dG ((a::rest)++[a,b])).Perm (rest.erase b):=(bp (fY _) (nr.erase b)).mpr key;refine⟨⟨fD _,λv hv=>h.rg v (ai _ (List.mem_of_mem_erase ((key v).mp hv)))⟩,?_⟩;rw[hp.length_eq,cT hb,ap];have:=c8 hb;omega
noncomputable def Kc (many:Int)(ts:List dO)(u v:Int):Option Int:=mD (fN many.toNat ts u) v
noncomputable def wy (many:Int)(ts:List dO):af:=.list ((eT 0 many.toNat).map λu=>CW (fN many.toNat ts u))
noncomputable def ix (o:Int × Int):af:=.tuple [.int o.1,.int o.2]
structure Off (many:Int) (ts:List dO) (a:Int) (rest some:List Int) (O:List (Int × Int)):Prop where
 snd:∀o∈O,o.2∈some/\∃d r,Kc many ts a o.2=Option.some d/\gI ts (dG ((a::rest)++[a,o.2])) r/\o.1=d+r
 cmp:∀b∈some,∀d r,Kc many ts a b=Option.some d->gI ts (dG ((a::rest)++[a,b])) r->(d+r,b)∈O
structure oQ (many:Int) (ts:List dO):Prop where
 m1:many<=9
 w:MH many ts
 hp:Plain ts
 pr:FE ts
 len:ts.length<=16
theorem oQ.Nf {many:Int}{ts:List dO}(w:oQ many ts){a:Int}(a0:0<=a)(a1:a<many):oK many.toNat ts a (fN many.toNat ts a) :=
 As (λt ht=>by have:=w.w t ht;omega) w.hp a0 (!1)
section
variable {many a:Int}{ts:List dO}{rest:List Int}{O:List (Int × Int)}
theorem Off.none (w:oQ many ts)(hr:Rg many (a::rest))(h:Off many ts a rest rest O)(h0:O=[]):¬ ∃s,eJ ts (a::rest) s:=λ⟨s,hs⟩=>by
 have ha:=hr.rg a (aq ..);obtain⟨b,hb,d,s',hd,hj,_⟩:=sN (w.Nf ha.1 ha.2) (jQ hr.lt) hs;obtain⟨r,hl⟩:=yL w.hp ⟨s',hj⟩;have:=h.cmp b hb d r hd hl;rw[h0] at this;cases this
theorem Off.least (w:oQ many ts)(hr:Rg many (a::rest))(h:Off many ts a rest rest O){o:Int × Int}(ho:o∈O)(hm:∀q∈O,o.1<=q.1):gI ts (a::rest) o.1:=by
 have ha:=hr.rg a (aq ..)
 have low:∀s,eJ ts (a::rest) s->o.1<=cost ts s:=λs hs=>by
  obtain⟨b,hb,d,s',hd,hj,HI⟩:=sN (w.Nf ha.1 ha.2) (jQ hr.lt) hs;obtain⟨r,hl⟩:=yL w.hp ⟨s',hj⟩;have h1:=hm _ (h.cmp b hb d r hd hl);have h2:=hl.2 s' hj;simp only at h1;omega
 obtain⟨hb,d,r,hd,⟨⟨s',hj,rfl⟩,hl⟩,e⟩:=h.snd o ho;have ID:=hr.rg _ (ai _ hb);obtain⟨s,hs,hc⟩:=C5 w.hp (w.Nf ha.1 ha.2) (jQ hr.lt) hb ID.1 (!1) hd hj;have:=low s hs;exact⟨⟨s,hs,!1⟩,low⟩
end
theorem IE (x:Option Int):p9 (wj x) .none=some (.bool x.isSome):=by cases x<;>rfl
theorem C6 {ts:List dO}{told:List Int}{d:af}(h:AA ts told d):(∃c,d=.int c/\gI ts told c/\p9 d .none=some (.bool true))\/(d=.none/\(¬ ∃s,eJ ts told s)/\p9 d .none=some (.bool false)):=by
 rcases h with⟨c,rfl,h⟩ | ⟨rfl,h⟩
 .exact .inl ⟨c,rfl,h,rfl⟩
 .exact .inr ⟨rfl,h,rfl⟩
theorem FO {many:Int}{ts:List dO}{a:Int}(a0:0<=a)(a1:a<many):fj (wy many ts) (.int a)=some (CW (fN many.toNat ts a)):=by
 unfold wy;rw[JM,nF a0 (by rw[ar,eY];omega),aB]
 have:(eT 0 many.toNat)[a.toNat]? = some a:=by
  unfold eT;rw[aB,cM (!1)];simp;omega
 rw[this];rfl
theorem FP {many:Int}{ts:List dO}(w:oQ many ts){a b:Int}(a0:0<=a)(a1:a<many)(b0:0<=b)(b1:b<many):fj (CW (fN many.toNat ts a)) (.int b)=some (wj (Kc many ts a b)):=by
 unfold CW;rw[fi];exact IA b0 (by have:=(w.Nf a0 a1).len;omega)
noncomputable def AB (many:Int)(ts:List dO)(Y:kx)(Rc:kx->UF)(len:Nat):Prop:=∀told,Rg many told->told.length<=len->∀(n:Int) (Q:af->Int->Prop),(∀d,AA ts told d->Q d n)->Rc Y [wy many ts,dk told] n Q De
section
variable {n:Int}{X:XQ}{Q:af->Int->Prop}{many a:Int}{ts:List dO}{rest:List Int}{Y:kx}{Rc:kx->UF}
noncomputable def FQ (Y:kx)(Rc:kx->UF):US:=(du (dW 6 (dw (Rc Y) (dg (dr 0) (dg (dw eZ (dg (dr 1) (dg (eM (dg (dr 3) (dg (dr 5) di))) di))) di))))
 (fR (Cr (dY (dI p9 (dI fj (dI fj (df 0) (df 3)) (df 5)) (uC .none))) (dY (dI p9 (df 6) (uC .none)))) (jF 4 iA (dg (eM (dg (dI iQ (dI fj (dI fj (df 0) (df 3)) (df 5)) (df 6)) (dg (dr 5) di))) di)) fh))
theorem vg (w:oQ many ts)(hr:Rg many (a::rest))(hR:rest≠[]->AB many ts Y Rc (rest.length - 1)){E:lO}:∀(post pre:List Int) (O:List (Int × Int)) (x5 x6:Option Ent),pre++post=rest->Off many ts a rest pre O->O.length<=pre.length->(∀O x5 x6,Off many ts a rest rest O->O.length<=rest.length->E.nx [some (.s (wy many ts)),some (.s (dk (a::rest))),none,some (.s (.int a)),some (.o (O.map ix)),x5,x6] n) ->
  i6 (g6 5) (FQ Y Rc) E (post.map .int) [some (.s (wy many ts)),some (.s (dk (a::rest))),none,some (.s (.int a)),some (.o (O.map ix)),x5,x6] n
 | [],pre,O,x5,x6,hp,hO,hl,h=>by
  rw[bI] at hp;subst hp;exact h O x5 x6 hO hl
 | b::post,pre,O,x5,x6,hp,hO,hl,h=>by
  have hb:b∈rest:=by rw[<- hp];simp
  have ha:=hr.rg a (aq ..);have ID:=hr.rg b (ai _ hb)
  have lH:pre.length<=9:=by
   have h1:=hr.len w.m1;have h2:=congrArg List.length hp;rw[aK,ap] at h2;rw[ap] at h1;omega
  have h9:=hr.len w.m1;obtain⟨yM,hlen⟩:=hr.less hb;rw[ak,i6,g6];simp only[ay,av];unfold FQ;with_reducible generalize ht:fR _ _ _=t
  rw[du,dW,dw,dg,dr];simp only[aa,ac];rw[dg,dw,dg,dr];simp only[aa,ac];rw[dg,eM,dg,dr];simp only[aa,ac];rw[dg,dr];simp only[aa,ac];rw[di,di,show af.tuple [.int a,.int b]=dk [a,b] from rfl,gH (by rw[ap] at h9 ⊢;simp;omega),di];refine hR (List.ne_nil_of_mem hb) _ yM (by rw[ap] at hlen;omega) _ _ λd hd=>?_;simp only[ay,av];subst ht
  have go:∀O':List (Int × Int),Off many ts a rest (pre++[b]) O'->O'.length<=pre.length+1->i6 (g6 5) (FQ Y Rc) E (post.map .int) [some (.s (wy many ts)),some (.s (dk (a::rest))),none,some (.s (.int a)),some (.o (O'.map ix)),some (.s (.int b)),some (.s d)] n:=λO' Ws F5 =>
   vg w hr hR post (pre++[b]) O' _ _ (by rw[bw];exact hp) Ws (by rw[aK,bq];exact F5) h
  rw[fR,Cr,dY,dI,dI,dI,df];simp only[aa,ac];rw[df];simp only[aa,ac];rw[FO ha.1 ha.2,dh,df];simp only[aa,ac];rw[FP w ha.1 ha.2 ID.1 ID.2,dh,uC,IE,dh,dP]
  have skip:(∀c r,Kc many ts a b=some c->¬ gI ts (dG ((a::rest)++[a,b])) r)->Off many ts a rest (pre++[b]) O:=λnT=>⟨λo ho=>by obtain⟨h1,h2⟩:=hO.snd o ho;exact⟨bn _ h1,h2⟩,λq hq c r hc hl=>by
   rcases aY.mp hq with hq | hq
   .exact hO.cmp q hq c r hc hl
   .have e:=am.mp hq
    subst e;exact absurd hl (nT c r hc)⟩
  cases hh:Kc many ts a b with
  | none =>
   rw[show (none:Option Int).isSome=false from rfl,if_neg (!2),if_neg (!2),fh];exact go O (skip λc r hc=>by rw[hh] at hc;cases hc) (!1)
  | some c =>
   rw[show (some c).isSome=true from rfl,if_pos rfl,dY,dI,df];simp only[aa,ac];rw[uC];rcases C6 hd with⟨r,rfl,F5,e⟩ | ⟨rfl,nT,e⟩
   .rw[e,dh,dP,if_pos rfl,jF]
    simp only[aa,ac];rw[dg,eM,dg,dI,dI,dI,df];simp only[aa,ac];rw[df];simp only[aa,ac];rw[FO ha.1 ha.2,dh,df];simp only[aa,ac];rw[FP w ha.1 ha.2 ID.1 ID.2,dh,hh,df];simp only[aa,ac];rw[show wj (some c)=.int c from rfl,u3,dh,dg,dr];simp only[aa,ac];rw[di,di,jl (by rw[ar];omega),dh];simp only[ay,av];have e2:O.map ix++[af.tuple [.int (c+r),.int b]]=(O++[(c+r,b)]).map ix:=by rw[aQ];rfl
    rw[e2];refine go _ ⟨λo ho=>?_,λq hq c' r' hc UB=>?_⟩ (by rw[aK,bq];omega)
    .rcases aY.mp ho with ho | ho
     .obtain⟨h1,h2⟩:=hO.snd o ho
      exact⟨bn _ h1,h2⟩
     .rw[am.mp ho]
      exact⟨!4,c,r,hh,F5,rfl⟩
    .rcases aY.mp hq with hq | hq
     .exact bn _ (hO.cmp q hq c' r' hc UB)
     .have e:=am.mp hq
      subst e;rw[hh] at hc;cases hc;rw[UB.one F5];simp
   .rw[e,dh,dP,if_neg (!2),fh]
    exact go O (skip λc r hc hl=>nT ⟨hl.1.choose,hl.1.choose_spec.1⟩) (!1)
theorem sO (w:oQ many ts)(hr:Rg many (a::rest))(hR:rest≠[]->AB many ts Y Rc (rest.length - 1))(h:∀O,Off many ts a rest rest O->O.length<=rest.length->Q (.list (O.map ix)) n):fH Rc Y [wy many ts,dk (a::rest)] n Q X:=by
 have h9:=hr.len w.m1;unfold fH Fo;refine⟨rfl,?_⟩;unfold ig;simp only[jH,gN,envOf,ak,ba,ap,aX,Nat.reduceSub,Nat.reduceAdd,aG,aU,aV,aI];with_reducible generalize hl:lS 4=l
 with_reducible generalize hb:du (dW 6 _) _=b
 rw[du,dW,dI,df];simp only[aa,ac];rw[uC,show fj (dk (a::rest)) (.int 0)=some (.int a) by unfold dk;rw[fi,ak,gP],dh];simp only[ay,av];rw[du,rL,di];simp only[ay,av];rw[du,nB,Pa]
 have PU:∀(e:d9) n Q,e[1]? = some (some (.s (dk (a::rest))))->zU (df 1) (Bj (uC (.int 1))) Bi e n Q=Q (.tuple (rest.map .int)) n:=λe n Q he=>by
  simp only[zU,df,he,Bi,Bj,uC,dk,Nb,CC _ 1 (!2),dh];rfl
 rw[PU _ _ _ rfl];simp only[oq,dh];subst hb;refine vg w hr hR rest [] [] _ _ rfl ⟨!4,!4⟩ (ao _) λO x5 x6 hO hlen=>?_;show l _ _ _;subst hl;rw[lS];simp only[aa,ac];exact h O hO hlen
end
theorem BI (x b:Int × Int):∃r,gn false (ix x) (ix b)=some r/\(r=true->x.1<=b.1)/\(r=false->b.1<=x.1):=by
 have e0:∀i j:Int,af.eqv (.int i) (.int j)=decide (i=j):=λi j=>by simp only[af.eqv];rfl
 rw[ix,ix,gn,hV,e0];by_cases h:x.1=b.1
 .rw[if_pos (decide_eq_true h)]
  obtain⟨r,hr⟩:=bE.mp (sD false [x.2] [b.2]);exact⟨r,hr,λ_=>by omega,λ_=>by omega⟩
 .rw[if_neg (by simpa using h),gn]
  exact⟨_,rfl,λz=>by have:=of_decide_eq_true z;omega,λz=>by have:=of_decide_eq_false z;omega⟩
theorem sP:∀(l:List (Int × Int)) (a:Int × Int),∃e∈a::l,iJ false (ix a) (l.map ix)=ix e/\∀x∈a::l,e.1<=x.1
 | [],a=>⟨a,!4,rfl,λx hx=>by rw[am.mp hx];omega⟩
 | b::l,a=>by
  obtain⟨r,hr,h1,h2⟩:=BI b a;rw[ak,iJ,hr,cv]
  cases r with
  | true =>
   rw[if_pos rfl];obtain⟨e,he,h3,h4⟩:=sP l b;refine⟨e,ai _ he,h3,λx hx=>?_⟩;rcases au.mp hx with rfl | hx
   .have:=h4 b (aq ..)
    have:=h1 rfl;omega
   .exact h4 x hx
  | false =>
   rw[if_neg (!2)];obtain⟨e,he,h3,h4⟩:=sP l a;refine⟨e,?_,h3,λx hx=>?_⟩
   .rcases au.mp he with rfl | he
    .simp
    .exact ai _ (ai _ he)
   .rcases au.mp hx with rfl | hx
    .exact h4 x (aq ..)
    .rcases au.mp hx with rfl | hx
     .have:=h4 a (aq ..)
      have:=h2 rfl;omega
     .exact h4 x (ai _ hx)
theorem BJ {O:List (Int × Int)}(h:O≠[]):∃e∈O,ya [.list (O.map ix)]=some (ix e)/\∀x∈O,e.1<=x.1:=by
 cases O with
 | nil=>exact absurd rfl h
 | cons a l =>
  have hc:v3 false ((a::l).map ix):=λx hx=>by
   obtain⟨e,_,rfl⟩:=aM.mp hx;refine⟨⟨rfl,by simp[ix,af.depth,af.depthAll]⟩,λy hy=>?_⟩;obtain⟨f,_,rfl⟩:=aM.mp hy;obtain⟨r,hr,_⟩:=BI e f;rw[hr];rfl
  obtain⟨e,h1,h2,h3⟩:=sP l a;refine⟨e,h1,?_,h3⟩;rw[ak] at hc ⊢;rw[show ya=rT false from rfl];unfold rT;simp only[];rw[if_pos hc,h2]
theorem BK (f:Int->af){i:Nat}{ue:UX}{Q:List af->Int->Prop}{n:Int}:∀(ns:List Int) (acc:List af) (env:d9),(∀k∈ns,∀Q:af->Int->Prop,Q (f k) n->ue (env.set i (some (.s (.int k)))) n Q)->Q (acc++ns.map f) n->fq (g6 i) vU ue Q (ns.map .int) acc env n
 | [],acc,env,_,h=>by simpa [fq] using h
 | k::ns,acc,env,he,h=>by
  rw[ak,fq,g6,vU,if_pos rfl];refine he k (aq ..) _ (BK f ns _ _ (λj hj Q hq=>by rw[c9];exact he j (ai _ hj) Q hq) ?_);rw[bw];exact h
theorem AB.mono {many:Int}{ts:List dO}{Y:kx}{Rc:kx->UF}{l m:Nat}(h:AB many ts Y Rc m)(hl:l<=m):AB many ts Y Rc l:=λtold hr hm=>h told hr (!1)
section
variable {n:Int}{X:XQ}{Q:af->Int->Prop}{many a:Int}{ts:List dO}{rest:List Int}
theorem sQ (w:oQ many ts):∀d,AB many ts (MS many w.m1 ts) (fI (d+1)) (2 * d+1):=λd told hr hl n Q h=>by
 rw[fI];unfold iW Fo;refine⟨rfl,?_⟩;unfold iV Fp;simp only[jH,gN,envOf,ak,ba,ap,aX,Nat.reduceSub,Nat.reduceAdd,aG,aU,aV,aI];refine⟨told,rfl,hr.sub,λd hd=>h d hd,λiy=>?_⟩
 cases told with
 | nil=>exact absurd rfl iy
 | cons a rest =>
  rw[dW,dw,dg,dr];simp only[aa,ac];rw[dg,dr];simp only[aa,ac];rw[di];rw[ap] at hl;refine sO w hr (λhn=>?_) λO hO Wt=>?_
  .cases d with
   | zero=>exact absurd (cI (!1)) hn
   | succ d=>exact (sQ w d).mono (!1)
  .simp only[ay,av]
   refine⟨rfl,?_⟩;rw[Cs,dY,dI,m6,dg,df];simp only[aa,ac];rw[di];simp only[om,ar,dh];rw[uC,show F7 (.int (O.length:Int)) (.int 0)=some (.bool (decide ((O.length:Int) > 0))) from rfl,dh,dP];by_cases h0:O=[]
   .subst h0
    rw[if_neg (!2),uC];exact⟨rfl,.inr ⟨rfl,hO.none w hr rfl⟩,h _ (.inr ⟨rfl,hO.none w hr rfl⟩)⟩
   .obtain⟨e,he,hm,HI⟩:=BJ h0
    rw[if_pos (by have:=List.length_pos_iff.mpr h0;exact decide_eq_true (!1)),dI,m6,dg,df];simp only[aa,ac];rw[di,hm,dh,uC,ix,fi,gP,dh];have hL:=hO.least w hr he HI;exact⟨rfl,.inl ⟨_,rfl,hL⟩,h _ (.inl ⟨_,rfl,hL⟩)⟩
theorem yN {place:Int}(wp:oQ many ts)(p0:0<=place)(p1:place<many)(h:Q (CW (fN many.toNat ts place)) n):gT [dZ many ts,.int place] n Q X:=by
 have e0:dZ many ts=.tuple [.int many,.tuple (ts.map ee)]:=rfl;have m1:=wp.m1;have lH:=wp.hp;have hg:=wp.Nf p0 p1;generalize fN many.toNat ts place=hs at hg h;have hl:=hg.len;unfold gT jn;simp only[jH,gN,envOf,ak,ba,ap,aX,Nat.reduceSub,Nat.reduceAdd,aG,aU,aV,aI];with_reducible generalize C0:eA _=tr
 rw[true_and,du,dW,dw,dg,dr];simp only[aa,ac];rw[dg,dr];simp only[aa,ac];rw[di];refine oN wp.w lH wp.len (!1) p0 p1 λK kvs hT hc=>?_;simp only[ay,av];rw[<- C0,eA,m6,dg,uL,iH,L5,dI,df];simp only[aa,ac];rw[uC,e0,fi,gP,dh,<- e0];refine⟨⟨!1,!1⟩,?_⟩;simp only[pO,ak,ba,Option.join_some,aa,ac]
 rw[mK,jf (λv=>wj (mD hs v)) (λ_=>true) _ _ _ _ (λv hv n Q=>by
  have hv:=ft.mp hv;have hH:=hT.FG lH hc hg (v:=v) hv.1 (!1);have k1:∀n Q,df 0 [some (.s (.int v)),some (.s (eC false kvs))] n Q=Q (.int v) n:=λn Q=>by simp only[df,aa]
  have k2:∀n Q,df 1 [some (.s (.int v)),some (.s (eC false kvs))] n Q=Q (eC false kvs) n:=λn Q=>by simp only[df,aa,ac]
  rw[av,Cs,dY,sG k1 k2,dP]
  cases hv:mD hs v with
  | none =>
   rw[hv] at hH;have hH:eB kvs [v]=none:=hH;rw[hH];rfl
  | some c =>
   rw[hv] at hH;obtain⟨es,ps,_,e⟩:=hH;rw[e,cP,if_pos rfl,dI,wq k1 k2 e,uC,fi,gP,dh];rfl) (λv _ n Q=>by simp! [du]),aI]
 have e1:((eT 0 many.toNat).filter λ_=>true).map (λv=>wj (mD hs v))=hs.map wj:=by
  rw[List.filter_eq_self.mpr (!4)];refine List.ext_getElem? λi=>?_;unfold eT;rw[aB,aB,aB];by_cases hi:i<many.toNat
  .rw[cM hi,aJ (!1)]
   simp only[bJ,mD];rw[show (0+(i:Int)).toNat=i by omega,az,aJ (!1)];rfl
  .rw[bg (by simp;omega),bg (!1)]
   rfl
 rw[di,e1];simp only[fQ,dh];exact h
theorem sR (wp:oQ many ts)(m0:1<=many)(h:Q (wy many ts) n):iC [dZ many ts] n Q X:=by
 have e0:dZ many ts=.tuple [.int many,.tuple (ts.map ee)]:=rfl;have m1:=wp.m1;unfold iC jW;simp only[jH,gN,envOf,ak,ba,ap,aX,Nat.reduceSub,Nat.reduceAdd,aG,aU,aV,aI];rw[true_and,eA,uL,iH,L5,dI,df];simp only[aa,ac];rw[uC,e0,fi,gP,dh,<- e0];refine⟨⟨!1,!1⟩,?_⟩;simp only[pO,ak,ba,Option.join_some,aa,ac];rw[mK];refine BK (λu=>CW (fN many.toNat ts u)) _ [] _ (λk hk Q hq=>?_) h;have hk:=ft.mp hk;simp only[av];rw[dw,dg,dr];simp only[aa,ac];rw[dg,dr];simp only[aa,ac];rw[di];exact yN wp hk.1 (!1) hq
inductive MT (many:Int) (ts:List dO):List Int->List (Int × Int)->Int->Prop
 | nil:MT many ts [] [] 0
 | cons {a b d c:Int} {rest:List Int} {ps:List (Int × Int)} (hb:b∈rest) (hd:Kc many ts a b=some d) (h:MT many ts (dG ((a::rest)++[a,b])) ps c):MT many ts (a::rest) ((a,b)::ps) (d+c)
theorem vh (hp:Plain ts):gI ts [] 0:=⟨⟨[],⟨λk hk=>(nomatch hk),ca,λv=>by simp[dD]⟩,rfl⟩,λs hs=>jy hp hs.num⟩
theorem sS {told:List Int}(w:oQ many ts)(m0:1<=many)(hr:Rg many told)(h1:(¬ ∃s,eJ ts told s)->Q .none n)(h2:∀ps c,MT many ts told ps c->gI ts told c->Q (.tuple (ps.map ix)) n):iD [dZ many ts,dk told] n Q X:=by
 have h9:=hr.len w.m1;unfold iD jX;simp only[jH,gN,envOf,ak,ba,ap,aX,Nat.reduceSub,Nat.reduceAdd,aG,aU,aV,aI];with_reducible generalize Wu:wa _ _ _ _=lk
 rw[true_and,du,dW,dw,dg,dr];simp only[aa,ac];rw[di];refine sR w m0 ?_;simp only[ay,av];subst Wu;unfold wa;refine⟨!4,?_⟩;rw[eM,di,uC,show kN true (.tuple [])=some [] from rfl,dh];refine⟨MS many w.m1 ts,.inl ⟨0,rfl,vh w.hp⟩,rfl,(Rg.sub (many:=many) (told:=[]) ⟨!4,!4⟩),rfl,?_⟩;simp only[ak,ba,Ir,ay,av];generalize hY:MS many w.m1 ts=Y;have hP:AB many ts Y gx 9:=by rw[<- hY];exact sQ w 4
 with_reducible generalize ht:du (rL 4 di) _=t
 rw[du,fR,dY,dI,dw,dg,dr];simp only[aa,ac];rw[dg,dr];simp only[aa,ac];rw[di];refine hP told hr h9 _ _ λd hd=>?_;rw[uC];rcases hd with⟨c,rfl,hc⟩ | ⟨rfl,nT⟩
 .rw[show Ct (.int c) .none=some (.bool false) from rfl,dh,dP,if_neg (!2),fh]
  show t _ _ _;subst ht;with_reducible generalize C0:eA _=tr
  rw[du,rL,di];simp only[ay,av];rw[du,dW,dr];simp only[aa,ac,ay,av];rw[du];unfold o4
  refine⟨λm env n'=>n'=n/\∃(left:List Int) (ps:List (Int × Int)) (e:Int) (x6:Option Ent),env=[some (.s (dZ many ts)),some (.s (dk told)),some (.s (wy many ts)),none,some (.o (ps.map ix)),some (.s (dk left)),x6]/\Rg many left/\left.length=m/\left.length+ps.length<=9/\(∃c,gI ts left c)/\(∀qs c,MT many ts left qs c->MT many ts told (ps++qs) (e+c))/\∀c,gI ts left c->gI ts told (e+c),
   ⟨told.length,rfl,told,[],0,_,rfl,hr,rfl,h9,⟨c,hc⟩,λqs c hq=>by rw[Int.zero_add];exact hq,λc hq=>by rw[Int.zero_add];exact hq⟩,?_⟩
  rintro m env n' ⟨rfl,left,ps,e,x6,rfl,Nd,hm,Wv,⟨c',wL⟩,hA,hB⟩;rw[dY,dI,df];simp only[aa,ac];rw[eM,di]
  cases left with
  | nil =>
   rw[show Bg (dk []) (.tuple [])=some (.bool false) from xY (ns:=[]),dh,dP,if_neg (!2)];show tr _ _ _;rw[<- C0,eA,m6,dg,df];simp only[aa,ac];rw[di];simp only[fQ,dh];have:=h2 _ _ (hA [] 0 .nil) (hB 0 (vh w.hp));rw[bI] at this;exact this
  | cons a rest =>
   have iy:Bg (dk (a::rest)) (.tuple [])=some (.bool true):=xY (ns:=a::rest);rw[iy,dh,dP,if_pos rfl];have Fd:=Nd.len w.m1;rw[ap] at Fd hm Wv;with_reducible generalize Ww:du (jF 4 _ _) _=ta
   rw[du,dW,eM,dg,dI,df];simp only[aa,ac];rw[uC,show fj (dk (a::rest)) (.int 0)=some (.int a) by unfold dk;rw[fi,ak,gP],dh,dg,dI,m6,dg,dw,dg,dr];simp only[aa,ac];rw[dg,dr];simp only[aa,ac];rw[di];unfold ij;refine sO w Nd (λ_=>hP.mono (!1)) λO hO Wt=>?_;have Wx:O≠[]:=λz=>hO.none w Nd z ⟨wL.1.choose,wL.1.choose_spec.1⟩;obtain⟨o,ho,SS,HI⟩:=BJ Wx;have hL:=hO.least w Nd ho HI;obtain⟨hb,d,r,hd,UC,eo⟩:=hO.snd o ho;obtain⟨yM,hlen⟩:=Nd.less hb;rw[di,SS,dh,uC,ix,fi,hU,dh,di];simp only[ay,av];subst Ww;rw[du,jF];simp only[aa,ac];rw[dg,dr];simp only[aa,ac];rw[di,jl (by rw[ar];omega),dh];simp only[ay,av];rw[dW,dw,dg,dr];simp only[aa,ac];rw[dg,dr];simp only[aa,ac];rw[di,show af.tuple [.int a,.int o.2]=dk [a,o.2] from rfl,gH (by simp;omega)];simp only[ay,av];rw[ap] at hlen;refine⟨(dG ((a::rest)++[a,o.2])).length,!1,trivial,_,ps++[(a,o.2)],e+d,_,by rw[aQ];rfl,yM,rfl,by rw[aK,bq];omega,⟨r,UC⟩,λqs c hq=>?_,λc hq=>?_⟩
   .have:=hA ((a,o.2)::qs) (d+c) (.cons hb hd hq)
    rw[bw,Int.add_assoc];exact this
   .rw[hq.one UC,Int.add_assoc,<- eo]
    exact hB _ hL
 .rw[show Ct .none .none=some (.bool true) from rfl,dh,dP,if_pos rfl,eA,uC]
  exact h1 nT
end
theorem BL (m:Nat)(p:Int->Bool):(FF m p).length<=m:=by have:=bM p (eT 0 m);rwa [eY] at this
theorem MU (m:Nat)(p:Int->Bool):(FF m p).Pairwise (· < ·):=(oO m).sublist cw
noncomputable def eE (ts:List dO):List Int:=FF ts.length λk=>decide (jg ts k<0)
noncomputable def jA (t:dO):dO:=(t.1,t.2.1,if t.2.2<0 then -t.2.2 else t.2.2)
noncomputable def AD (ts:List dO)(told:List Int):List Int:=dG (told++dG (dD ts (eE ts)))
theorem mT (ts:List dO):fw ts (eE ts):=λk hk=>MJ hk
theorem sT (ts:List dO):(eE ts).Nodup:=jQ (MU _ _)
theorem vi {ts:List dO}{k:Int}(h:0<=k/\k<(ts.length:Int)):k∈eE ts↔jg ts k<0:=by
 unfold eE FF;rw[aP,ft];exact⟨λz=>of_decide_eq_true z.2,λz=>⟨!1,decide_eq_true z⟩⟩
theorem BM (ts:List dO)(k:Int):(ts.map jA).getD k.toNat (0,0,0)=jA (ts.getD k.toNat (0,0,0)):=by
 rw[az,az,aB];cases ts[k.toNat]?<;>rfl
theorem FR (ts:List dO):iM (ts.map jA)=iM ts:=funext λk=>by unfold iM;rw[BM];rfl
theorem vj (ts:List dO)(ks:List Int):dD (ts.map jA) ks=dD ts ks:=by unfold dD;rw[FR]
theorem BN (ts:List dO)(k:Int):jg (ts.map jA) k=if jg ts k<0 then -jg ts k else jg ts k:=by unfold jg;rw[BM];rfl
theorem oR {ts:List dO}{s:List Int}:fw (ts.map jA) s↔fw ts s:=by unfold fw;rw[ar]
theorem C7 (ts:List dO):Plain (ts.map jA):=λt ht=>by
 obtain⟨u,_,rfl⟩:=aM.mp ht;show (0:Int)<=if u.2.2<0 then -u.2.2 else u.2.2;split<;>omega
theorem IF {many:Int}{ts:List dO}(w:jx many ts)(hl:ts.length<=16):oQ many (ts.map jA):=by
 refine⟨w.m1,λt ht=>?_,C7 ts,λt ht=>?_,by rw[ar];exact hl⟩
 .obtain⟨u,hu,rfl⟩:=aM.mp ht
  have:=w.ok u hu;have a0:=this.a0;have ab:=this.ab;have bm:=this.bm;exact⟨a0,by show u.1<many;omega,by show (0:Int)<=u.2.1;omega,bm⟩
 .obtain⟨u,hu,rfl⟩:=aM.mp ht
  have:=(w.ok u hu).pl;show (if u.2.2<0 then -u.2.2 else u.2.2).natAbs<=99;split<;>omega
theorem C8 {ts us:List dO}{s:List Int}(h:∀k∈s,jg ts k=jg us k):cost ts s=cost us s:=by unfold cost;rw[b8 h]
theorem yO {ts us:List dO}:∀{s:List Int},(∀k∈s,jg ts k=-jg us k)->cost ts s=-cost us s
 | [],_=>rfl
 | k::s,h=>by
  have e1:cost ts (k::s)=jg ts k+cost ts s:=rfl;have e2:cost us (k::s)=jg us k+cost us s:=rfl;rw[e1,e2,h k (aq ..),yO λj hj=>h j (ai _ hj)];omega
theorem sU {ts:List dO}{s:List Int}(hs:fw ts s)(hn:s.Nodup):cost ts (dG (s++eE ts))=cost (ts.map jA) s+cost ts (eE ts):=by
 have h1:=MD (ts:=ts) (sT ts) hn;rw[C2 (eE ts) s];unfold SE at h1;have h2:=kY (ts.map jA) (λk=>decide (k∈eE ts)) s
 have h3:cost (ts.map jA) (s.filter λk=>decide (k∈eE ts))=-cost ts (s.filter λk=>decide (k∈eE ts)):=yO λk hk=>by
  obtain⟨a,b⟩:=aP.mp hk;have:=(vi (hs k a)).mp (of_decide_eq_true b);rw[BN,if_pos this]
 have h4:cost (ts.map jA) (s.filter λk=>!decide (k∈eE ts))=cost ts (s.filter λk=>!decide (k∈eE ts)):=C8 λk hk=>by
  obtain⟨a,b⟩:=aP.mp hk;have:¬ jg ts k<0:=λz=>by have:=(vi (hs k a)).mpr z;simp[this] at b
  rw[BN,if_neg this]
 omega
theorem sV (ts:List dO):eJ ts (dG (dD ts (eE ts))) (eE ts):=⟨mT ts,sT ts,λv=>eh.symm⟩
theorem yQ {ts:List dO}{T s:List Int}:eJ (ts.map jA) T s↔eJ ts T s:=⟨λh=>⟨oR.mp h.num,h.nd,λv=>by rw[<- vj];exact h.odd v⟩,λh=>⟨oR.mpr h.num,h.nd,λv=>by rw[vj];exact h.odd v⟩⟩
theorem yR {ts:List dO}{told:List Int}(h:told.Nodup){v:Int}:v∈AD ts told↔¬ (v∈told↔v∈dG (dD ts (eE ts))):=jh h (fY _)
theorem vk {ts:List dO}{T s:List Int}(hT:T.Nodup)(h:eJ ts T s):eJ (ts.map jA) (AD ts T) (dG (s++eE ts)):=yQ.mpr (h.turns (sV ts) λv=>yR hT)
theorem vm {ts:List dO}{T s:List Int}(hT:T.Nodup)(h:eJ (ts.map jA) (AD ts T) s):eJ ts T (dG (s++eE ts)):=(yQ.mp h).turns (sV ts) λv=>by
 rw[yR hT];by_cases a:v∈T<;>by_cases b:v∈dG (dD ts (eE ts))<;>simp[a,b]
theorem AE {a b:List Int}(ha:a.Nodup)(hb:b.Nodup):(dG (dG (a++b)++b)).Perm a:=(bp (fY _) ha).mpr λv=>by
 rw[jh (fY _) hb,jh ha hb];by_cases x:v∈a<;>by_cases y:v∈b<;>simp[x,y]
theorem IG {ts:List dO}{T:List Int}(hT:T.Nodup)(h:¬ ∃s,eJ (ts.map jA) (AD ts T) s):¬ ∃s,eJ ts T s:=λ⟨s,hs⟩=>h ⟨_,vk hT hs⟩
theorem AF {ts:List dO}{T:List Int}{c:Int}(hT:T.Nodup)(h:gI (ts.map jA) (AD ts T) c):gI ts T (c+cost ts (eE ts)):=by
 obtain⟨⟨s,hs,rfl⟩,hl⟩:=h;refine⟨⟨_,vm hT hs,sU (oR.mp hs.num) hs.nd⟩,λs' mG=>?_⟩;have h1:=vk hT mG;have h2:=hl _ h1;have h3:=sU (ts:=ts) (s:=dG (s'++eE ts)) (oR.mp h1.num) h1.nd;rw[gG (AE mG.nd (sT ts))] at h3;omega
theorem IH {many:Int}{ts:List dO}{told:List Int}(w:jx many ts)(h:Rg many told):Rg many (AD ts told):=⟨fD _,λv hv=>by
 have h1:=eh.mp hv;have h2:v∈told++dG (dD ts (eE ts)):=bX.mp (!1);rcases aY.mp h2 with h2 | h2
 .exact h.rg v h2
 .exact qJ w (mT ts) v h2⟩
section
variable {n:Int}{X:XQ}{Q:af->Int->Prop}
theorem yS {many:Int}{ts:List dO}:oG [dZ many ts] n Q X=Q (dk (eE ts)) n:=by
 rw[dZ];simp! [oG,wc,hU,RR,yD ee (0,0,0)]
 rw[oM (λenv=>∃x y,env=[x,y]) _ (λk=>.int k) (λk=>decide (jg ts k<0)) _ _ _ (λk hk env ⟨x,y,he⟩=>by
  subst he;exact⟨[some (.s (.int k)),some (.s (ee (ts.getD k.toNat (0,0,0))))],⟨_,_,rfl⟩,λK=>by simp! [du],λn Q=>by rw[ee];simp! [uN,Er];rfl,λn Q=>by simp! [du]⟩) ⟨_,_,rfl⟩]
 simp! [fQ];rfl
theorem C9 {many:Int}{ts:List dO}:oH [dZ many ts] n Q X=Q (dZ many (ts.map jA)) n:=by
 have e0:dZ many ts=.tuple [.int many,.tuple (ts.map ee)]:=rfl;rw[e0];simp! [oH,rZ,gP,hU]
 rw[oM (λenv=>∃x y z,env=[x,y,z]) ee (λt=>ee (jA t)) (λ_=>true) _ _ _ (λt ht env ⟨x,y,z,he⟩=>by
  subst he;refine⟨[some (.s (.int t.2.1)),some (.s (.int t.1)),some (.s (.int t.2.2))],⟨_,_,_,rfl⟩,λK=>by rw[ee];simp! [du],λn Q=>by simp! [du],λn Q=>by simp! [zW,jA,ee]⟩) ⟨_,_,_,rfl⟩]
 rw[lh,aI];simp! [fQ];rw[dZ,bx];rfl
theorem sW {many:Int}{ts:List dO}(w:jx many ts)(hl:ts.length<=16){told:List Int}(ht:told.length<=20):iB [dZ many ts,dk told] n Q X=Q (dk (AD ts told)) n:=by
 have hb:=BL ts.length λk=>decide (jg ts k<0);have h9:=yH w (mT ts);unfold iB jU;simp only[jH,gN,envOf,ak,ba,ap,aX,Nat.reduceSub,Nat.reduceAdd,aG,aU,aV,aI];simp only[eA,dw,dg,dr,di,true_and,aa,ac];rw[yS,Aw (mT ts) (show 2 * (eE ts).length<=60 by unfold eE;omega),gH (show told.length+(dG (dD ts (eE ts))).length<=60 by omega)];rfl
theorem tS {many:Int}{ts:List dO}(hl:ts.length<=16){s:List Int}(hs:s.length<=20):gS [dZ many ts,dk s] n Q X=Q (dk (dG (s++eE ts))) n:=by
 have hb:=BL ts.length λk=>decide (jg ts k<0);unfold gS kO;simp only[jH,gN,envOf,ak,ba,ap,aX,Nat.reduceSub,Nat.reduceAdd,aG,aU,aV,aI];simp only[eA,dw,dg,dr,di,true_and,aa,ac];rw[yS,gH (show s.length+(eE ts).length<=60 by unfold eE;omega)]
end
theorem qk.par {ts:List dO}{s v:Int}{es ps:List Int}{c:Int}(h:qk ts s v es ps c)(x:Int):(dD ts es).count x % 2=(sM (decide (x=s))+sM (decide (x=v))) % 2:=by
 induction h with
 | nil=>simp[dD];omega
 | @step u es ps c w k t v k0 ht h hv ih =>
  have BU:Ur ts u k v:=⟨t,k0,ht,by rcases h with⟨a,b⟩ | ⟨a,b⟩;exact .inl ⟨a.symm,b.symm⟩;exact .inr ⟨a.symm,b.symm⟩⟩;have:=CT BU x;rw[iu,bi,this];have c1:∀z:Int,(if x=z then 1 else 0)=sM (decide (x=z)):=λz=>by unfold sM;by_cases h:x=z<;>simp[h]
  rw[c1,c1];omega
theorem qk.join {ts:List dO}{a b:Int}{es ps:List Int}{c:Int}(h:qk ts a b es ps c)(p7:a≠b):eJ ts [a,b] (sortI es):=by
 have hp:=sortI_perm es;refine⟨λk hk=>h.num k (hp.mem_iff.mp hk),hp.nodup_iff.mpr h.ML,λv=>?_⟩;rw[(iw hp).count_eq,h.par v];unfold sM;by_cases z1:v=a
 .subst z1;simp[p7]
 .by_cases z2:v=b
  .subst z2;simp[z1]
  .simp[z1,z2]
theorem qK {ts:List dO}{s:List Int}(h:fw ts s)(hn:s.Nodup):s.length<=ts.length:=by
 have:=fP hn (ns:=eT 0 ts.length) λk hk=>ft.mpr (by have:=h k hk;omega);rwa [eY] at this
section
variable {n:Int}{X:XQ}{Q:af->Int->Prop}{many:Int}{ts:List dO}
theorem qo {one other c:Int}(w:oQ many ts)(u0:0<=one)(u1:one<many)(v0:0<=other)(v1:other<many)(hv:Kc many ts one other=some c)
  (h2:∀(es ps:List Int),qk ts one other es ps c->Q (dk (sortI es)) n):gu [dZ many ts,.int one,.int other] n Q X:=by
 have m1:=w.m1;have lH:=w.hp;have hg:=w.Nf u0 u1;unfold Kc at hv;generalize fN many.toNat ts one=hs at hg hv;unfold gu jV;simp only[jH,gN,envOf,ak,ba,ap,aX,Nat.reduceSub,Nat.reduceAdd,aG,aU,aV,aI];with_reducible generalize C0:eA _=tr
 rw[true_and,du,dW,dw,dg,dr];simp only[aa,ac];rw[dg,dr];simp only[aa,ac];rw[di];refine oN w.w lH w.len (!1) u0 u1 λK kvs hT hc=>?_;simp only[ay,av];have hH:=hT.FG lH hc hg (v:=other) v0 (!1);have k1:∀n Q,df 2 [some (.s (dZ many ts)),some (.s (.int one)),some (.s (.int other)),some (.s (eC false kvs))] n Q=Q (.int other) n:=λn Q=>by simp only[df,aa,ac]
 have k2:∀n Q,df 3 [some (.s (dZ many ts)),some (.s (.int one)),some (.s (.int other)),some (.s (eC false kvs))] n Q=Q (eC false kvs) n:=λn Q=>by simp only[df,aa,ac]
 rw[<- C0,eA,Cs,dY,sG k1 k2,dP];rw[hv] at hH;obtain⟨es,ps,hp,e⟩:=hH;rw[e,cP,if_pos rfl,dI,wq k1 k2 e,uC,fi,hU,dh];exact h2 es ps hp
theorem join_loop (w:oQ many ts){x0 x1 x3:Option Ent}{E:lO}:∀{left:List Int} {ps:List (Int × Int)} {c:Int},MT many ts left ps c->Rg many left->∀(T A:List Int) (x5:Option Ent),T.Nodup->eJ ts T A ->
  (∀(A':List Int) x5,eJ ts (dG (T++left)) A'->cost ts A'<=cost ts A+c->(ps=[]/\A'=A\/A'.Pairwise (· < ·))->E.nx [x0,x1,some (.s (dZ many ts)),x3,some (.s (dk A')),x5] n) ->
  i6 (g6 5) (dW 4 (dw eZ (dg (dr 4) (dg (dw gu (dg (dr 2) (dg (dI fj (df 5) (uC (.int 0))) (dg (dI fj (df 5) (uC (.int 1))) di)))) di)))) E (ps.map ix) [x0,x1,some (.s (dZ many ts)),x3,some (.s (dk A)),x5] n:=λ{left ps c} h=>by
 induction h with
 | nil =>
  intro _ T A x5 hT hA h;refine h A x5 ⟨hA.num,hA.nd,λv=>?_⟩ (!1) (.inl ⟨rfl,rfl⟩);rw[hA.odd v,bI,eh,kA hT];split<;>simp[*]
 | @cons a b d c rest ps hb hd hp ih =>
  intro hr T A x5 hT hA h;have ha:=hr.rg a (aq ..);have ID:=hr.rg b (ai _ hb);have p7:a<b:=(cb.mp hr.lt).1 b hb;obtain⟨yM,_⟩:=hr.less hb;rw[ak,i6,g6];simp only[ay,av];have i1:fj (ix (a,b)) (.int 0)=some (.int a):=by rw[ix,fi,gP]
  have i2:fj (ix (a,b)) (.int 1)=some (.int b):=by rw[ix,fi,hU]
  rw[dW,dw,dg,dr];simp only[aa,ac];rw[dg,dw,dg,dr];simp only[aa,ac];rw[dg,dI,df];simp only[aa,ac];rw[uC,i1,dh,dg,dI,df];simp only[aa,ac];rw[uC,i2,dh,di];refine qo w ha.1 ha.2 ID.1 ID.2 hd λes qs PV=>?_;have hj:=PV.join (!1);have Kb:cost ts (sortI es)=d:=by rw[gG (sortI_perm es)];exact PV.cost
  have Fd:=qK hA.num hA.nd;have wC:=qK hj.num hj.nd;have II:=w.len;rw[di,gH (!1)];simp only[ay,av];have Wy:(dG (T++[a,b])).Nodup:=fY _;have hJ:eJ ts (dG (T++[a,b])) (dG (A++sortI es)):=hA.turns hj λv=>jh hT (by simp;omega);have DF:=sL w.hp hA.num hj.num hA.nd hj.nd
  have SU:dG (dG (T++[a,b])++dG ((a::rest)++[a,b]))=dG (T++(a::rest)):=yG λv=>by
   have h1:=sI (T++[a,b]) v;have h2:=sI ((a::rest)++[a,b]) v;rw[bi] at h1 h2;rw[bi,bi];omega
  refine ih yM (dG (T++[a,b])) (dG (A++sortI es)) _ Wy hJ λA' y5 Wz wL mG=>h A' y5 (by rw[<- SU];exact Wz) (!1) (.inr ?_);rcases mG with⟨_,rfl⟩ | mG
  .exact fD _
  .exact mG
theorem IJ {l:List Int}(h:l.Pairwise (· < ·)):dG l=l:=lU (fD _) h λv=>by
 rw[eh,kA (jQ h)];split<;>simp[*]
theorem kf {told:List Int}(w:jx many ts)(hl:ts.length<=16)(hr:Rg many told)(h1:(¬ ∃s,eJ ts told s)->Q .none n)(h2:∀s c,s.Pairwise (· < ·)->eJ ts told s->gI ts told c->cost ts s=c->Q (dk s) n):gU [dZ many ts,dk told] n Q X:=by
 have wp:=IF w hl;have m0:=w.m0;have h9:=hr.len w.m1;have Jy:=IH w hr;have PK:=jQ hr.lt;unfold gU kP;simp only[jH,gN,envOf,ak,ba,ap,aX,Nat.reduceSub,Nat.reduceAdd,aG,aU,aV,aI];with_reducible generalize PX:du (dW 3 _) _=t1
 rw[true_and,du,dW,dw,dg,dr];simp only[aa,ac];rw[di,C9];simp only[ay,av];subst PX;with_reducible generalize IK:du (fR _ _ _) _=t2
 rw[du,dW,dw,dg,dr];simp only[aa,ac];rw[dg,dw,dg,dr];simp only[aa,ac];rw[dg,dr];simp only[aa,ac];rw[di,sW w hl (!1),di];refine sS wp m0 Jy (λnT=>?_) λps c hP hL=>?_
 .simp only[ay,av]
  subst IK;rw[du,fR,dY,dI,df];simp only[aa,ac];rw[uC,show Ct .none .none=some (.bool true) from rfl,dh,dP,if_pos rfl,eA,uC];exact h1 (IG PK nT)
 .simp only[ay,av]
  subst IK;with_reducible generalize C0:eA (dw gS _)=tr
  rw[du,fR,dY,dI,df];simp only[aa,ac];rw[uC,show Ct (.tuple (ps.map ix)) .none=some (.bool false) from rfl,dh,dP,if_neg (!2),fh];dsimp only;rw[du,dW,eM,di];simp only[ay,av];rw[du,nB,Cy];simp only[aa,ac,oq,dh];have WA:eJ (ts.map jA) [] []:=⟨λk hk=>(nomatch hk),ca,λv=>by simp[dD]⟩;refine join_loop wp hP Jy [] [] _ ca WA λA x5 hA hc _=>?_;rw[aI,IJ Jy.lt] at hA;have hlen:=qK hA.num hA.nd;rw[ar] at hlen;show tr _ _ _;rw[<- C0,eA,dw,dg,dr];simp only[aa,ac];rw[dg,dr];simp only[aa,ac];rw[di,tS hl (!1)];refine h2 _ _ (fD _) (vm PK hA) (AF PK hL) ?_;rw[sU (oR.mp hA.num) hA.nd];have h3:=hL.2 A hA;have h4:cost (ts.map jA) []=0:=rfl;omega
end
theorem PY:((ql 9).map uR).Nodup:=by decide +kernel
theorem FT {α β:Type}{f:α->β}:∀{l:List α},(l.map f).Nodup->∀{a b:α},a∈l->b∈l->f a=f b->a=b
 | c::l,h,a,b,ha,hb,e=>by
  rw[ak] at h;obtain⟨h1,h2⟩:=bb.mp h;rcases au.mp ha with e1 | lx<;>rcases au.mp hb with e2 | y9
  .rw[e1,e2]
  .exact absurd (aM.mpr ⟨b,y9,by rw[<- e,e1]⟩) h1
  .exact absurd (aM.mpr ⟨a,lx,by rw[e,e2]⟩) h1
  .exact FT h2 lx y9 e
theorem IL {kvs:fW}(hn:(kvs.map (·.1)).Nodup)(hs:∀p∈kvs,p.1∈ql 9):(kvs.map λp=>uR p.1).Nodup:=by
 induction kvs with
 | nil=>exact ca
 | cons p t ih =>
  rw[ak] at hn ⊢;obtain⟨h1,h2⟩:=bb.mp hn;refine bb.mpr ⟨λz=>?_,ih h2 λq hq=>hs q (ai _ hq)⟩;obtain⟨q,hq,e⟩:=aM.mp z;have:=FT PY (hs q (ai _ hq)) (hs p (aq ..)) e;exact h1 (aM.mpr ⟨q,hq,this⟩)
inductive tU (ts:List dO) (k:Nat):List Int->af->Prop
 | mk (s:List Int) (h:s.Sublist (eT 0 k)):tU ts k (dG (dD ts s)) (.tuple [.int (cost ts s),dk s])
structure yT (ts:List dO) (k:Nat) (kvs:fW):Prop where
 nd:(kvs.map (·.1)).Nodup
 row:∀p∈kvs,tU ts k p.1 p.2
inductive tV (kvs:fW) (T:List Int) (c:Int):Prop
 | mk (c':Int) (x:af) (h:eB kvs T=some (.tuple [.int c',x])) (hc:c'<=c)
structure oS (ts:List dO) (k:Nat) (kvs:fW):Prop where
 snd:yT ts k kvs
 low:∀s:List Int,s.Sublist (eT 0 k)->tV kvs (dG (dD ts s)) (cost ts s)
structure tW (ts:List dO) (k:Nat) (kvs:fW) (pre:List (List Int)) (mv:fW):Prop where
 snd:yT ts (k+1) mv
 old:∀T c,tV kvs T c->tV mv T c
 new:∀s:List Int,s.Sublist (eT 0 k)->dG (dD ts s)∈pre->tV mv (dG (dD ts (s++[(k:Int)]))) (cost ts s+jg ts k)
theorem oT {ts:List dO}{k:Nat}(hk:k<=ts.length){s:List Int}(h:s.Sublist (eT 0 k)):fw ts s:=λi hi=>by
 have:=ft.mp (h.subset hi);omega
theorem FU {many:Int}{ts:List dO}(w:jx many ts){k:Nat}(hk:k<=ts.length){T:List Int}{v:af}(h:tU ts k T v):T∈ql 9:=by
 obtain⟨s,h⟩:=h;have m1:=w.m1;exact Rg.sub (many:=9) ⟨fD _,λv hv=>by have:=qJ w (oT hk h) v hv;omega⟩
theorem yT.len {many:Int}{ts:List dO}{kvs:fW}(w:jx many ts){k:Nat}(hk:k<=ts.length)(h:yT ts k kvs):kvs.length<=512:=by
 have:=Fn h.nd (m:=ql 9) λT hT=>by
  obtain⟨p,hp,rfl⟩:=aM.mp hT;exact FU w hk (h.row p hp)
 rw[ar,sH] at this;exact this
theorem yT.hash {many:Int}{ts:List dO}{kvs:fW}(w:jx many ts){k:Nat}(hk:k<=ts.length)(h:yT ts k kvs):(kvs.map λp=>uR p.1).Nodup:=IL h.nd λp hp=>FU w hk (h.row p hp)
theorem yT.val {ts:List dO}{kvs:fW}{k:Nat}(h:yT ts k kvs){T:List Int}{v:af}(e:eB kvs T=some v):tU ts k T v:=h.row _ (rX e)
theorem tU.more {ts:List dO}{k:Nat}{T:List Int}{v:af}(h:tU ts k T v):tU ts (k+1) T v:=by
 obtain⟨s,h⟩:=h;exact .mk s (by rw[mS];exact h.trans (List.sublist_append_left _ _))
theorem oS.nil (ts:List dO):oS ts 0 [([],.tuple [.int 0,.tuple []])]:=by
 have e0:dG (dD ts [])=[]:=List.eq_nil_iff_forall_not_mem.mpr λv hv=>by have:=eh.mp hv;simp[dD] at this
 refine⟨⟨!4,λp hp=>?_⟩,λs hs=>?_⟩
 .rw[am.mp hp]
  have:=tU.mk (ts:=ts) (k:=0) [] (List.nil_sublist _);rw[e0] at this;exact this
 .have:s=[]:=List.sublist_nil.mp hs
  subst this;rw[e0];exact .mk 0 (.tuple []) rfl (bG _)
theorem oS.mid {ts:List dO}{k:Nat}{kvs:fW}(h:oS ts k kvs):tW ts k kvs [] kvs:=⟨⟨h.snd.nd,λp hp=>(h.snd.row p hp).more⟩,λ_ _ h=>h,λ_ _ z=>by cases z⟩
theorem tW.done {ts:List dO}{k:Nat}{kvs mv:fW}(h:oS ts k kvs)(hm:tW ts k kvs (kvs.map (·.1)) mv):oS ts (k+1) mv:=by
 refine⟨hm.snd,λs hs=>?_⟩;rw[mS] at hs;obtain⟨s1,s2,rfl,h1,h2⟩:=List.sublist_append_iff.mp hs;have key:=h.low s1 h1
 cases s2 with
 | nil=>rw[bI];exact hm.old _ _ key
 | cons x l =>
  have hl:l=[]:=by have:=h2.length_le;simp at this;exact this
  subst hl;have hx:x=(k:Int):=by simpa using h2.subset (am.mpr rfl)
  subst hx;obtain⟨c',y,e,_⟩:=key;have:=hm.new s1 h1 (aM.mpr ⟨_,rX e,rfl⟩);rw[iN,show cost ts [(k:Int)]=jg ts k by simp[cost]];exact this
theorem tV.put {mv:fW}{T T':List Int}{c c2:Int}{x:af}(h:tV mv T c)(jB:T=T'->c2<=c):tV (gR mv T' (.tuple [.int c2,x])) T c:=by
 by_cases e:T=T'
 .exact .mk c2 x (by rw[mB,if_pos e]) (jB e)
 .obtain⟨c',y,h1,h2⟩:=h
  exact .mk c' y (by rw[mB,if_neg e];exact h1) h2
theorem IM {kvs:fW}{k:List Int}{d:af}{P:List Int->af->Prop}(h:∀p∈kvs,P p.1 p.2)(hk:P k d):∀p∈gR kvs k d,P p.1 p.2:=λp hp=>by
 unfold gR at hp;split at hp
 .obtain⟨q,hq,rfl⟩:=aM.mp hp
  split
  .rename_i e;rw[e];exact hk
  .exact h q hq
 .rcases aY.mp hp with hp | hp
  .exact h p hp
  .rw[am.mp hp];exact hk
theorem MV {kvs:fW}{k:List Int}{d:af}(h:(kvs.map (·.1)).Nodup):((gR kvs k d).map (·.1)).Nodup:=by
 have e:=yB kvs k d;unfold i8 at e;rw[e];split
 .exact h
 .rename_i hk
  refine b4.mpr ⟨h,!4,λa ha b hb z=>?_⟩;rw[am.mp hb] at z;exact hk (z ▸ ha)
theorem tW.step {ts:List dO}{k:Nat}{kvs mv:fW}{pre:List (List Int)}(h:oS ts k kvs)(hm:tW ts k kvs pre mv){s:List Int}(hs:s.Sublist (eT 0 k))(hv:eB kvs (dG (dD ts s))=some (.tuple [.int (cost ts s),dk s])) :
  (∀c x,eB mv (dG (dD ts (s++[(k:Int)])))=some (.tuple [.int c,x])->¬ cost ts s+jg ts k<c->tW ts k kvs (pre++[dG (dD ts s)]) mv) /\
  ((∀c x,eB mv (dG (dD ts (s++[(k:Int)])))=some (.tuple [.int c,x])->cost ts s+jg ts k<c)->tW ts k kvs (pre++[dG (dD ts s)]) (gR mv (dG (dD ts (s++[(k:Int)]))) (.tuple [.int (cost ts s+jg ts k),dk (s++[(k:Int)])]))):=by
 have same:∀s':List Int,dG (dD ts s')=dG (dD ts s)->dG (dD ts (s'++[(k:Int)]))=dG (dD ts (s++[(k:Int)])):=λs' e=>by rw[gY,gY,<- pG,e,pG]
 have low:∀s':List Int,s'.Sublist (eT 0 k)->dG (dD ts s')=dG (dD ts s)->cost ts s<=cost ts s':=λs' mG e=>by
  obtain⟨c',x,h1,h2⟩:=h.low s' mG;rw[e,hv] at h1;injection h1 with h1;injection h1 with h1;injection h1 with h1 h3;injection h1 with h1;omega
 constructor
 .intro c x e hc
  refine⟨hm.snd,hm.old,λs' mG hp=>?_⟩;rcases aY.mp hp with hp | hp
  .exact hm.new s' mG hp
  .have e2:=am.mp hp
   rw[same s' e2];exact .mk c x e (by have:=low s' mG e2;omega)
 .intro jB
  have Fs:∀T c,tV mv T c->tV (gR mv (dG (dD ts (s++[(k:Int)]))) (.tuple [.int (cost ts s+jg ts k),dk (s++[(k:Int)])])) T c:=λT c hL=>hL.put λz=>by
   obtain⟨c',x,h1,h2⟩:=hL;rw[z] at h1;have:=jB c' x h1;omega
  have hc:cost ts (s++[(k:Int)])=cost ts s+jg ts k:=by rw[iN,show cost ts [(k:Int)]=jg ts k by simp[cost]]
  refine⟨⟨MV hm.snd.nd,IM hm.snd.row ?_⟩,λT c hL=>Fs T c (hm.old T c hL),λs' mG hp=>?_⟩
  .rw[<- hc]
   exact .mk _ (by rw[mS];exact hs.append (List.Sublist.refl _))
  .rcases aY.mp hp with hp | hp
   .exact Fs _ _ (hm.new s' mG hp)
   .have e2:=am.mp hp
    rw[same s' e2];exact .mk _ _ (by rw[mB,if_pos rfl]) (by have:=low s' mG e2;omega)
theorem oS.least {ts:List dO}{kvs:fW}(h:oS ts ts.length kvs){told:List Int}(ht:told.Pairwise (· < ·)):(eB kvs told=none/\¬ ∃s,eJ ts told s)\/∃c x,eB kvs told=some (.tuple [.int c,x])/\gI ts told c:=by
 have key:∀s,eJ ts told s->tV kvs told (cost ts s):=λs hs=>by
  have hp:(sortI s).Perm s:=sortI_perm s
  have G8:(sortI s).Sublist (eT 0 ts.length):=by
   have jB:(sortI s).Pairwise (· < ·):=iG (fS s) (hp.nodup_iff.mpr hs.nd)
   have e:sortI s=(eT 0 ts.length).filter λk=>decide (k∈s):=lU jB ((oO _).sublist cw) λk=>by
    rw[aP,ft,hp.mem_iff];exact⟨λhk=>⟨by have:=hs.num k hk;omega,decide_eq_true hk⟩,λhk=>of_decide_eq_true hk.2⟩
   rw[e];exact cw
  have e:dG (dD ts (sortI s))=told:=lU (fD _) ht λv=>by
   rw[eh,(iw hp).count_eq];exact hs.odd v
  have:=h.low _ G8;rw[e,gG hp] at this;exact this
 cases hv:eB kvs told with
 | none=>exact .inl ⟨rfl,λ⟨s,hs⟩=>by obtain⟨c,x,e,_⟩:=key s hs;rw[hv] at e;cases e⟩
 | some v =>
  have hr:=h.snd.val hv;obtain⟨s,hs⟩:=hr;refine .inr ⟨_,_,rfl,⟨s,⟨oT (ao _) hs,jQ ((oO _).sublist hs),λv=>eh.symm⟩,rfl⟩,λs' mG=>?_⟩;obtain⟨c',x,e,HI⟩:=key s' mG;rw[hv] at e;injection e with e;injection e with e;injection e with e e2;injection e with e;omega
theorem C' (k:List Int):kN true (dk k)=some k:=by simp only[kN,dk,gD]
section
variable {n:Int}{X:XQ}{Q:af->Int->Prop}{many:Int}{ts:List dO}
theorem tU.ex {k:Nat}{T:List Int}{v:af}(h:tU ts k T v):∃c x,v=.tuple [.int c,x]:=by cases h;exact⟨_,_,rfl⟩
noncomputable def FV:US:=(du (dW 6 (dw e8 (dg (dr 5) (dg (zU (df 3) Bi (Bj (uC (.int 2)))) di))))
 (du (dW 7 (eM (dg (dI iQ (dI fj (pS 1 (df 5)) (uC (.int 0))) (dI fj (df 3) (uC (.int 2)))) (dg (dI iQ (dI fj (pS 1 (df 5)) (uC (.int 1))) (eM (dg (dr 2) di))) di))))
 (fR (Eo (dY (Bw 4 (df 6))) (dY (dI Er (dI fj (df 7) (uC (.int 0))) (dI fj (yf 4 (df 6)) (uC (.int 0)))))) (pR 4 (df 6) (dr 7)) fh)))
theorem yU (w:jx many ts)(hl:ts.length<=16){k:Nat}{t:dO}(ht:ts[k]? = some t){kvs:fW}(hT:oS ts k kvs){a b:Addr}{o:Obj}{xs:List V}{E:lO}:∀(post pre:List (List Int)) (mv:fW) (x5 x6 x7:Option Ent),pre++post=kvs.map (·.1)->tW ts k kvs pre mv ->
  (∀(mv:fW) (x5 x6 x7:Option Ent),tW ts k kvs (kvs.map (·.1)) mv->(∀e,x5=some e\/x6=some e\/x7=some e->∃d,e=.s d)->E.nx [some (.s (dZ many ts)),some (.f a o kvs xs),some (.s (.int k)),some (.s (ee t)),some (.d b true mv),x5,x6,x7] n)->(∀e,x5=some e\/x6=some e\/x7=some e->∃d,e=.s d) ->
  nJ 1 (.f a o kvs xs) (g6 5) FV E (post.map dk) [some (.s (dZ many ts)),some (.f a o kvs xs),some (.s (.int k)),some (.s (ee t)),some (.d b true mv),x5,x6,x7] n
 | [],pre,mv,x5,x6,x7,hp,hm,h,hx=>by
  rw[bI] at hp;subst hp;exact⟨rfl,h mv x5 x6 x7 hm hx⟩
 | T::post,pre,mv,x5,x6,x7,hp,hm,h,hx=>by
  have hk:k<ts.length:=(aD.mp ht).1;have UD:T∈kvs.map (·.1):=by rw[<- hp];simp
  obtain⟨p,Qh,rfl⟩:=aM.mp UD;obtain⟨v,hv⟩:=bE.mp (sC.mpr UD);have SV:=hT.snd.val hv;generalize p.1=T at *;obtain⟨s,hs⟩:=SV;have SW:fw ts s:=oT (k:=k) (!1) hs;have PU:s.length<=16:=by have:=hs.length_le;rw[eY] at this;omega
  have ek:jg ts k=t.2.2:=MQ ht;obtain⟨s1,s2⟩:=hm.step hT hs hv;have hlen:=hm.snd.len w (!1);have i2:fj (ee t) (.int 2)=some (.int t.2.2):=by rw[ee,fi,uN]
  refine⟨rfl,?_⟩;rw[g6];simp only[ay,av];unfold FV;with_reducible generalize SX:du (dW 7 _) _=tl
  rw[du,dW,dw,dg,dr];simp only[aa,ac];rw[dg];have SY:∀(e:d9) n Q,e[3]? = some (some (.s (ee t)))->zU (df 3) Bi (Bj (uC (.int 2))) e n Q=Q (.tuple [.int t.1,.int t.2.1]) n:=λe n Q he=>by simp only[zU,df,he,Bi,Bj,uC,GO,dh]
  rw[SY _ _ _ rfl,di,yI w SW (k:=(k:Int)) (!1) ht];simp only[ay,av];subst SX;with_reducible generalize SX:fR _ _ _=tl
  have UE:∀(e:d9) n Q,e[1]? = some (some (.f a o kvs xs))->e[5]? = some (some (.s (dk (dG (dD ts s)))))->pS 1 (df 5) e n Q=Q (.tuple [.int (cost ts s),dk s]) n:=λe n Q h1 h5=>by simp only[pS,h1,df,h5,C',dh,hv]
  rw[du,dW,eM,dg,dI,dI,UE _ _ _ rfl rfl,uC,fi,gP,dh,dI,df];simp only[aa,ac];rw[uC,i2,dh,u3,dh,dg,dI,dI,UE _ _ _ rfl rfl,uC,fi,hU,dh,eM,dg,dr];simp only[aa,ac]
  have ea:iQ (dk s) (.tuple [.int (k:Int)])=some (dk (s++[(k:Int)])):=by
   unfold dk;rw[z9 (by rw[ar];simp;omega),aQ];rfl
  rw[di,ea,dh,di];simp only[ay,av];rw[<- ek];subst SX;generalize dG (dD ts (s++[(k:Int)]))=T' at *
  have go:∀M8:fW,tW ts k kvs (pre++[dG (dD ts s)]) M8->nJ 1 (.f a o kvs xs) (g6 5) FV E (post.map dk) [some (.s (dZ many ts)),some (.f a o kvs xs),some (.s (.int k)),some (.s (ee t)),some (.d b true M8),some (.s (dk (dG (dD ts s)))),some (.s (dk T')),some (.s (.tuple [.int (cost ts s+jg ts k),dk (s++[(k:Int)])]))] n:=λM8 M1 =>
   yU w hl ht hT post (pre++[dG (dD ts s)]) M8 _ _ _ (by rw[bw];exact hp) M1 h λe he=>by
    rcases he with he | he | he<;>exact⟨_,(Option.some.inj he).symm⟩
  have put:(∀c x,eB mv T'=some (.tuple [.int c,x])->cost ts s+jg ts k<c)->pR 4 (df 6) (dr 7) { nx:=nJ 1 (.f a o kvs xs) (g6 5) FV E (post.map dk),rt:=E.rt } [some (.s (dZ many ts)),some (.f a o kvs xs),some (.s (.int k)),some (.s (ee t)),some (.d b true mv),some (.s (dk (dG (dD ts s)))),some (.s (dk T')),some (.s (.tuple [.int (cost ts s+jg ts k),dk (s++[(k:Int)])]))] n:=λjB=>by
   rw[pR,dr];simp only[aa,ac];rw[df];simp only[aa,ac];rw[C',dh];refine⟨⟨by rw[show aA=16777216 by decide];omega,λj t' kv hj z=>?_⟩,?_⟩
   .match j,hj,z with
    | 0,_,z=>simp at z
    | 1,_,z=>simp at z
    | 2,_,z=>simp at z
    | 3,_,z=>simp at z
    | 4,hj,_=>exact hj rfl
    | 5,_,z=>simp at z
    | 6,_,z=>simp at z
    | 7,_,z=>simp at z
    | j+8,_,z=>simp at z
   .simp only[ay,av]
    exact go _ (s2 jB)
  rw[fR,Eo,dY,Bw,df];simp only[aa,ac];rw[C',dh,dP]
  cases yZ:eB mv T' with
  | none =>
   rw[show (!(none:Option af).isSome)=true from rfl,if_pos rfl,if_pos trivial];exact put λc x e=>by rw[yZ] at e;cases e
  | some v' =>
   have Jy:=hm.snd.val yZ;obtain⟨c',x',rfl⟩:=Jy.ex;rw[show (!(some (af.tuple [af.int c',x'])).isSome)=false from rfl,if_neg (!2),dY,dI,dI,df];simp only[aa,ac];rw[uC,fi,gP,dh,dI,yf];simp only[aa,ac];rw[df];simp only[aa,ac];rw[C',dh,yZ,dh,uC,fi,gP,dh,Er,dh,dP];by_cases jB:cost ts s+jg ts k<c'
   .rw[if_pos (decide_eq_true jB)]
    exact put λc x e=>by
     rw[yZ] at e;injection e with e;injection e with e;injection e with e e2;injection e with e;omega
   .rw[if_neg (by simpa using jB),fh]
    exact go mv (s1 _ _ yZ jB)
noncomputable def PZ:US:=(du (pj 4 1) (du (yj 1 (g6 5) FV) (rW 1 4)))
theorem wz (w:jx many ts)(hl:ts.length<=16)(h:∀kvs,oS ts ts.length kvs->Q (eC true kvs) n):jN [dZ many ts] n Q X:=by
 have e0:dZ many ts=.tuple [.int many,.tuple (ts.map ee)]:=rfl;unfold jN l6;simp only[jH,gN,envOf,ak,ba,ap,aX,Nat.reduceSub,Nat.reduceAdd,aG,aU,aV,aI];with_reducible generalize C0:lS 1=tr
 with_reducible generalize hb:du (pj 4 1) _=lb
 rw[true_and,du,Ah,eM,di,eM,dg,uC,dg,eM,di,di,show kN true (.tuple [])=some [] from rfl,dh];intro a ha;simp only[ay,av];rw[du,nB,Pb,dI,df];simp only[aa,ac];rw[uC,e0,fi,hU,dh,<- e0];simp only[oq,dh];unfold i5;have WB:lb=PZ:=hb.symm;subst WB;refine ku (λpre post env n'=>n'=n/\pre++post=((ts.map ee).zipIdx).map (λp=>af.tuple [.int (p.2:Nat),p.1])/\∃(a:Addr) (kvs:fW) (x2 x3 x5 x6 x7:Option Ent),env=[some (.s (dZ many ts)),some (.d a true kvs),x2,x3,none,x5,x6,x7]/\oS ts pre.length kvs/\∀e,x2=some e\/x3=some e\/x5=some e\/x6=some e\/x7=some e->∃d,e=.s d) _ [] _ _ ?_ ⟨rfl,rfl,a,_,none,none,none,none,none,rfl,oS.nil ts,λe he=>by simp at he⟩ ?_
 .rintro pre d post env n' E' hE ⟨rfl,Qz,a,kvs,x2,x3,x5,x6,x7,rfl,hT,hx⟩ CL
  obtain⟨t,ht,rfl⟩:=FK Qz;have hk:pre.length<ts.length:=(aD.mp ht).1;simp only[HF,Cw,g6,ay,av];unfold PZ;rw[du,pj];simp only[aa,ac];refine⟨hT.snd.hash w (!1),λb hb=>?_⟩;simp only[ay,av];rw[du,yj];simp only[aa,ac];have M3:∀e,x5=some e\/x6=some e\/x7=some e->∃d,e=.s d:=λe he=>hx e (.inr (.inr he))
  have S3:∀(x:Option Ent) (a:Addr) (t':Bool) (kv:fW),(∀e,x=some e->∃d,e=.s d)->some x≠some (some (.d a t' kv)):=λx a t' kv WC z=>by
   obtain⟨d,e⟩:=WC _ (Option.some.inj z);cases e
  refine⟨λj t' kv hj z=>?_,λo xs=>?_⟩
  .match j,hj,z with
   | 0,_,z=>simp at z
   | 1,hj,_=>exact hj rfl
   | 2,_,z=>simp at z
   | 3,_,z=>simp at z
   | 4,_,z =>
    simp only[aa,ac,Option.some.injEq,Ent.d.injEq] at z;exact hb 1 true kvs (by rw[z.1];rfl)
   | 5,_,z=>exact S3 x5 a t' kv (λe he=>M3 e (.inl he)) z
   | 6,_,z=>exact S3 x6 a t' kv (λe he=>M3 e (.inr (.inl he))) z
   | 7,_,z=>exact S3 x7 a t' kv (λe he=>M3 e (.inr (.inr he))) z
   | j+8,_,z=>simp at z
  .simp only[ay,av]
   have WD:ni kvs=(kvs.map (·.1)).map dk:=by rw[bx];rfl
   rw[WD];refine yU w hl ht hT _ [] kvs x5 x6 x7 rfl hT.mid (λmv y5 y6 y7 hm hy=>?_) M3;dsimp only;rw[rW];simp only[aa,ac,ay,av];refine CL _ _ ⟨rfl,by rw[bw];exact Qz,b,mv,_,_,y5,y6,y7,rfl,by rw[aK,bq];exact hm.done hT,λe he=>?_⟩;rcases he with he | he | he
   .exact⟨_,(Option.some.inj he).symm⟩
   .exact⟨_,(Option.some.inj he).symm⟩
   .exact hy e he
 .rintro pre env n' ⟨rfl,Qz,a,kvs,x2,x3,x5,x6,x7,rfl,hT,hx⟩
  have hl:=congrArg List.length Qz;rw[bI,ar,List.length_zipIdx,ar] at hl;rw[hl] at hT;show tr _ _ _;rw[<- C0,lS];simp only[aa,ac];exact h kvs hT
end
theorem IP {many:Int}{told:List Int}(hm:many<=9)(h:Rg many told):Sz 10000 11 176 1 (dk told):=by
 have:=h.len hm;exact (Sz.tup (nE.ints (!2) λi hi=>by have:=h.rg i hi;omega)).mono (ao _) (ao _) (!1) (!2)
theorem S5 (i j:Nat)(x y:af)(env:d9)(Q:d9->Prop):HF [g6 i,g6 j] (.tuple [x,y]) env Q=Q ((env.set i (some (.s x))).set j (some (.s y))):=rfl
theorem AG {many:Int}{s:List Int}(h:s.Sublist (eT 0 many.toNat)):Rg many s:=⟨(oO _).sublist h,λv hv=>by have:=ft.mp (h.subset hv);omega⟩
section
variable {n:Int}{X:XQ}{Q:af->Int->Prop}{many:Int}{ts:List dO}
theorem lA (m0:1<=many)(m1:many<=9)(hn:n+16<=iI)(h:∀(s:List Int) (n':Int),Rg many s->n<=n'->n'<=n+16->Q (dk s) n'):fJ [dZ many ts] n Q X:=by
 have e0:dZ many ts=.tuple [.int many,.tuple (ts.map ee)]:=rfl;have BG:iI=1099511627776:=by decide
 unfold fJ js;simp only[jH,gN,envOf,ak,ba,ap,aX,Nat.reduceSub,Nat.reduceAdd,aG,aU,aV,aI];rw[e0];simp! [gP];refine⟨⟨!1,!1⟩,?_⟩;rw[mK];refine mR (λd n Q hn hq=>?_) _ [] _ _ (by rw[eY];omega) λs hs=>?_
 .simp! [du]
  refine gw (!2) (!2) (!1) λr r0 r1=>?_;simp! [jb];exact hq _
 rw[aI,eY];simp! [fQ];exact h s _ (AG hs) (!1) (!1)
theorem yV (w:jx many ts)(hl:ts.length<=16)(hn:n+17<=iI)(h:∀(s:List Int) (n':Int),Rg many s->n<=n'->n'<=n+17->Q (dk s) n'):kQ [dZ many ts] n Q X:=by
 have BG:iI=1099511627776:=by decide
 unfold kQ nM;simp only[jH,gN,envOf,ak,ba,ap,aX,Nat.reduceSub,Nat.reduceAdd,aG,aU,aV,aI];with_reducible generalize ht:eA (dw fJ _)=t
 simp! [du];refine gw (!2) (!2) (!1) λr r0 r1=>?_;simp! [F7];split
 .try simp! [du]
  refine sJ hl (!1) λs hs=>?_;refine pV w (oT (ao _) hs) ?_;exact h _ _ ⟨fD _,qJ w (oT (ao _) hs)⟩ (!1) (!1)
 .subst ht
  simp! [du];exact lA w.m0 w.m1 (!1) λs n' hs h1 h2=>h s n' hs (!1) (!1)
theorem wA {k:Int}(hn:n+1<=iI)(h:∀a b:Int,1<=a->a<=9->0<=b->b<=16->Q (.tuple [.int a,.int b]) (n+1)):jO [.int k] n Q X:=by
 unfold jO l7;simp only[jH,gN,envOf,ak,ba,ap,aX,Nat.reduceSub,Nat.reduceAdd,aG,aU,aV,aI];with_reducible generalize IK:eA (Cs _ _ _)=t2
 with_reducible generalize ht:du (fR _ _ _) t2=t
 simp! [du];refine gw (!2) (!2) (!1) λr r0 r1=>?_;subst ht
 have key:∀E:lO,E.rt=Q->t2 E [none,some (.s (.int k)),some (.s (.int r))] (n+1):=λE hE=>by
  subst IK;simp! [Er];split
  .try simp! [du]
   rw[hE];exact h 3 16 (!2) (!2) (!2) (!2)
  .try simp! [du]
   rw[hE];exact h 6 9 (!2) (!2) (!2) (!2)
 simp! [jb];split
 .split
  .try simp! [du]
   exact h 9 16 (!2) (!2) (!2) (!2)
  .exact key _ rfl
 .exact key _ rfl
end
noncomputable def MW (t:dO):dO:=(t.1,t.2.1,0 - (if t.2.2<0 then -t.2.2 else t.2.2))
section
variable {n:Int}{X:XQ}{Q:af->Int->Prop}{many:Int}{ts:List dO}
theorem pH {s:List Int}{m:Int}(hs:s.Pairwise (· < ·))(h0:∀k∈s,0<=k/\k<m)(hl:s.length<60)(hq:Q (.bool true) n):gy [dk s,.int m] n Q X:=by
 have es:dk s=.tuple (s.map .int):=rfl;unfold gy iX;simp only[jH,gN,envOf,ak,ba,ap,aX,Nat.reduceSub,Nat.reduceAdd,aG,aU,aV,aI];generalize ht:eA (pM _ _)=t;rw[es];simp! [HL]
 rw[jf (λ_=>.bool true) (λ_=>true) _ _ _ _ (λk hk n Q=>by
  have:=h0 k hk;simp! [l5,l4,HL,Na];simp[this.1]) (λk _ n Q=>by simp! [du])]
 rw[lh,aI,List.map_const',C3];simp! [dP,bO,if_false,fh];subst ht;have M6:s.length<64:=by omega
 simp! [gD,M6,C4 hs];rw[uM];simp! [decide_true];rw[jf (λk=>.int k) (λk=>decide (m<=k)) _ _ _ _ (λk _ n Q=>by simp! [du]) (λk _ n Q=>by simp! [Na])];have e:s.filter (λk=>decide (m<=k))=[]:=List.filter_eq_nil_iff.mpr λk hk=>by have:=h0 k hk;simp;omega
 rw[e];have e2:vQ (.list []) (.list [])=some (.bool true):=EV (ns:=[]);simp! [e2];exact hq
theorem wB {told:List Int}{kvs:fW}(w:jx many ts)(hl:ts.length<=16)(hr:Rg many told)(hT:oS ts ts.length kvs)(h:Q (.bool true) n):iL [dZ many ts,dk told,eC true kvs] n Q X:=by
 have m0:=w.m0;have h9:=hr.len w.m1;have UH:=MO w;have e0:dZ many ts=.tuple [.int many,.tuple (ts.map ee)]:=rfl;have i1:fj (dZ many ts) (.int 1)=some (.tuple (ts.map ee)):=by rw[e0,fi,hU]
 have hg:Good (.tuple [dZ many ts,dk told]):=(Sz.tup (nE.cons (MP w hl) (nE.cons (IP w.m1 hr) nE.nil))).good (!3) (!2) (!2) (!2);generalize hs:(af.tuple [dZ many ts,dk told]).shown=shown;unfold iL l8;simp only[jH,gN,envOf,ak,ba,ap,aX,Nat.reduceSub,Nat.reduceAdd,aG,aU,aV,aI];with_reducible generalize PX:du (dW 4 _) _=t1
 rw[true_and,du,dW,uJ,eM,dg,dr];simp only[aa,ac];rw[dg,dr];simp only[aa,ac];rw[di];refine⟨hg,?_⟩;simp only[ay,av];rw[hs];subst PX;with_reducible generalize IK:du (fR (Eo (dY (dI Aa _ _)) _) _ _) _=t2
 rw[du,dW,dw,dg,dr];simp only[aa,ac];rw[dg,dr];simp only[aa,ac];rw[di];have xn:∀(e:d9) n Q,e[1]? = some (some (.s (dk told)))->e[2]? = some (some (.s (eC true kvs)))->yh (df 1) (df 2) e n Q=Q (.bool (!(eB kvs told).isSome)) n:=λe n Q h1 h2=>by simp only[yh,df,h1,h2,ph,C',dh]
 have xg:∀(e:d9) n Q (d:af),e[1]? = some (some (.s (dk told)))->e[2]? = some (some (.s (eC true kvs)))->eB kvs told=some d->lX (df 2) (df 1) e n Q=Q d n:=λe n Q d h1 h2 hv=>by simp only[lX,df,h1,h2,ph,C',hv,dh]
 have first:∀(d:af) (t:US) (E:lO),mJ d=!(eB kvs told).isSome->t E [some (.s (dZ many ts)),some (.s (dk told)),some (.s (eC true kvs)),some (.s (.str shown)),some (.s d),none,none] n ->
   du (fR (Eo (dY (dI Aa (uJ (eM (dg (dr 0) (dg (dr 1) di)))) (df 3))) (dY (dI Bg (dI Ct (df 4) (uC .none)) (yh (df 1) (df 2))))) (eA (uC (.bool false))) fh) t E [some (.s (dZ many ts)),some (.s (dk told)),some (.s (eC true kvs)),some (.s (.str shown)),some (.s d),none,none] n:=λd t E hd ht=>by
  rw[du,fR,Eo,dY,dI,uJ,eM,dg,dr];simp only[aa,ac];rw[dg,dr];simp only[aa,ac];rw[di];refine⟨hg,?_⟩;rw[hs,df];simp only[aa,ac];rw[C1,dh,dP,if_neg (!2),dY,dI,dI,df];simp only[aa,ac];rw[uC,show Ct d .none=some (.bool (mJ d)) from rfl,dh,xn _ _ _ rfl rfl,xW,dh,dP,hd,if_neg (!4),fh];exact ht
 rcases hT.least hr.lt with⟨hv,nT⟩ | ⟨c,x,hv,hL⟩
 .refine kf w hl hr (λ_=>?_) λs c' _ hj _ _=>absurd ⟨s,hj⟩ nT
  simp only[ay,av];subst IK;refine first _ _ _ (by rw[hv];rfl) ?_
  have e1:Ct .none .none=some (.bool true):=rfl;rw[du,fR,dY,dI,df];simp only[aa,ac];rw[uC,e1,dh,dP,if_pos rfl,eA,uC];exact h
 .refine kf w hl hr (λnT=>absurd ⟨hL.1.choose,hL.1.choose_spec.1⟩ nT) λs c' jB hj WE hc=>?_
  have ec:=WE.one hL;subst ec;simp only[ay,av];subst IK;refine first _ _ _ (by rw[hv];rfl) ?_
  have PU:=qK hj.num hj.nd;have e1:Ct (dk s) .none=some (.bool false):=rfl;with_reducible generalize S6:du (dW 5 _) _=t3
  rw[du,fR,dY,dI,df];simp only[aa,ac];rw[uC,e1,dh,dP,if_neg (!2),fh];dsimp only;rw[du,fR,Eo,zQ,dY,dw,dg,dr];simp only[aa,ac];rw[dg,m6,dg,dI,df];simp only[aa,ac];rw[uC,i1,dh,di];simp only[om,ar,dh];rw[di];refine pH jB hj.num (!1) ?_;rw[dP,Bool.not_true,if_neg (!2),dY,dI,dw,dg,dr];simp only[aa,ac];rw[dg,dr];simp only[aa,ac];rw[di];refine pV w hj.num ?_;have eo:dG (dD ts s)=told:=lU (fD _) hr.lt λv=>by rw[eh];exact hj.odd v
  have WG:Bg (dk told) (dk told)=some (.bool false):=by unfold dk;rw[uK];simp
  rw[eo,df];simp only[aa,ac];rw[WG,dh,dP,if_neg (!2),fh];show t3 _ _ _;subst S6;with_reducible generalize WH:eA (pM _ _)=t4
  rw[du,dW,dI,xg _ _ _ _ rfl rfl hv,uC,fi,gP,dh];simp only[ay,av];rw[du,dW,dw,dg,dr];simp only[aa,ac];rw[dg,dr];simp only[aa,ac];rw[di];refine kf w hl hr (λnT=>absurd ⟨hL.1.choose,hL.1.choose_spec.1⟩ nT) λs2 c2 WI Ts WJ AK=>?_;have WK:=WJ.one hL;simp only[ay,av];rw[<- WH,eA,pM,dI,dw,dg,dr];simp only[aa,ac];rw[dg,dr];simp only[aa,ac];rw[di,lz UH hj.num,df];simp only[aa,ac];rw[hc,jb,dh,decide_eq_true rfl,dP,if_pos rfl,dI,dw,dg,dr];simp only[aa,ac];rw[dg,dr];simp only[aa,ac];rw[di,lz UH Ts.num,df];simp only[aa,ac];rw[AK,WK,jb,dh,decide_eq_true rfl];exact h
end
theorem IQ {many:Int}{ts:List dO}(w:jx many ts):jx many (ts.map MW):=⟨w.m0,w.m1,λt ht=>by
 obtain⟨u,hu,rfl⟩:=aM.mp ht;have:=w.ok u hu;refine⟨this.a0,this.ab,this.bm,?_⟩;have pl:=this.pl;show (0 - (if u.2.2<0 then -u.2.2 else u.2.2)).natAbs<=99;split<;>omega⟩
theorem FW:yk { nx:=λ_ _=>False,rt:=λd _=>d=.bool true } (List.replicate 9 none) 0:=by
 have BG:iI=1099511627776:=by decide
 unfold yk;simp only[jH,gN,envOf,ak,ba,ap,aX,Nat.reduceSub,Nat.reduceAdd,aG,aU,aV,aI];with_reducible generalize SO:du (HH _ _) _=bd
 simp! [du];refine⟨!2,!2,?_⟩;refine ku (λpre post env n'=>∃x2 x3 x4 x5 x6 x7 x8,env=[none,none,x2,x3,x4,x5,x6,x7,x8]/\0<=n'/\n'<=500 * pre.length/\pre.length+post.length=3/\∀d∈post,∃k,d=.int k) _ [] _ _ ?_ ⟨_,_,_,_,_,_,_,rfl,!2,!4,by rfl,λd hd=>?_⟩ ?_
 .rintro pre d post env n E' hE ⟨x2,x3,x4,x5,x6,x7,x8,rfl,WL,WM,hp,Qo⟩ CL
  obtain⟨k,rfl⟩:=Qo d (aq ..);rw[ap] at hp;subst SO;with_reducible generalize S6:nB (Pa (zU _ _ _)) _ _=t3
  with_reducible generalize IK:du (dW 7 _) t3=t2
  with_reducible generalize PX:du (dW 6 _) t2=t1
  with_reducible generalize WN:L7 (fR _ _ _) t1=tc
  with_reducible generalize WO:du (dW 5 _) tc=t0
  rw[g6];simp only[ay,av];rw[du,HH,dw,dg,dr];simp only[aa,ac];rw[di];refine wA (!1) λa b a1 a9 b0 WQ=>?_;rw[S5];simp only[ay,av];subst WO;rw[du,dW,dw,dg,dr];simp only[aa,ac];rw[dg,dr];simp only[aa,ac];rw[dg,dI,dw,dg,uC,di];refine gw (!2) (!2) (!1) λr r0 r1=>?_;rw[uC,jb,dh,di];refine Az a1 a9 b0 WQ (!1) λmany J1 n1 w0 XS UK _ Qe Uw=>?_;simp only[ay,av];subst WN;refine⟨λdH n'=>∃ts:List dO,dH=[none,none,some (.s (.int k)),some (.s (.int a)),some (.s (.int b)),some (.s (dZ many ts)),x6,x7,x8]/\jx many ts/\(ts.length:Int)<=b/\n1<=n'/\n'<=n1+1,?_,?_⟩
  .rw[fR,dY,dI,dw,dg,uC,di]
   refine gw (!2) (!2) (!1) λr r0 r1=>?_;rw[uC,jb,dh,dP];have e0:dZ many J1=.tuple [.int many,.tuple (J1.map ee)]:=rfl;split
   .rw[dW,eM,dg,dI,df]
    simp only[aa,ac];rw[uC,e0,fi,gP,dh,dg,m6,dg,uL,iH,HG,dI,df];simp only[aa,ac];rw[uC,fi,hU,dh];simp only[oq,dh,pO,ak,ba]
    rw[oM (λenv=>∃x,env=[x]) ee (λt=>ee (MW t)) (λ_=>true) _ _ _ (λt ht env ⟨x,he⟩=>by
     subst he;refine⟨[some (.s (ee t))],⟨_,rfl⟩,λK=>by simp! [du],λn Q=>by simp! [du],λn Q=>?_⟩;have i2:fj (ee t) (.int 2)=some (.int t.2.2):=by rw[ee,fi,uN]
     simp! [GO,i2,zW,yy];rw[z9 (!4)];simp! [du];rfl) ⟨_,rfl⟩]
    rw[lh,aI,di];simp only[fQ,dh];rw[di];simp only[ay,av];refine⟨J1.map MW,?_,IQ w0,by rw[ar];exact UK,!1,!1⟩;rw[dZ,bx];rfl
   .exact⟨J1,rfl,w0,UK,!1,!1⟩
  rintro dH XT ⟨ts,rfl,w,hl,XU,XW⟩;have II:ts.length<=16:=by omega
  have m0:=w.m0;have m1:=w.m1;subst PX;simp! [du];refine wz w II λkvs hT=>?_;subst IK;simp! [du];refine yV w II (!1) λs1 n2 Qm Ux XX=>?_;have e0:dZ many ts=.tuple [.int many,.tuple (ts.map ee)]:=rfl;have i0:fj (dZ many ts) (.int 0)=some (.int many):=by rw[e0,fi,gP]
  refine lA m0 m1 (!1) λs2 n3 ng XY XZ=>?_;simp! [i0];refine⟨⟨!1,!1⟩,?_⟩;rw[mK];subst S6
  have qV:∀s∈[s1,s2,[],eT 0 many.toNat],Rg many s:=λs hs=>by
   simp only[au,cu,or_false] at hs;rcases hs with rfl | rfl | rfl | rfl
   .exact Qm
   .exact ng
   .exact AG (List.nil_sublist _)
   .exact AG (List.Sublist.refl _)
  have WR:∀v:Int,Nb (.list [dk s1,dk s2,.tuple [],.tuple ((eT 0 many.toNat).map .int)]) none (some v)=some (.list (o3 ([s1,s2,[],eT 0 many.toNat].map dk) none (some v))):=λv=>rfl
  have S7:∀(v:Int),∀s∈o3 ([s1,s2,[],eT 0 many.toNat].map dk) none (some v),∃t,Rg many t/\s=dk t:=λv s hs=>by
   have:s∈[s1,s2,[],eT 0 many.toNat].map dk:=List.mem_of_mem_drop (cp hs);obtain⟨t,ht,rfl⟩:=aM.mp this;exact⟨t,qV t ht,rfl⟩
  have fin:∀(v:Int) (E:lO),E.rt=E'.rt->(∀env n',(∃x8,env=[none,none,some (.s (.int k)),some (.s (.int a)),some (.s (.int b)),some (.s (dZ many ts)),some (.s (eC true kvs)),some (.s (.list [dk s1,dk s2,.tuple [],.tuple ((eT 0 many.toNat).map .int)])),x8]/\n'=n3)->E.nx env n') ->
    i6 (g6 8) (fR (zQ (dY (dw iL (dg (dr 5) (dg (dr 8) (dg (dr 6) di)))))) (eA (uC (.bool false))) fh) E (o3 ([s1,s2,[],eT 0 many.toNat].map dk) none (some v)) [none,none,some (.s (.int k)),some (.s (.int a)),some (.s (.int b)),some (.s (dZ many ts)),some (.s (eC true kvs)),some (.s (.list [dk s1,dk s2,.tuple [],.tuple ((eT 0 many.toNat).map .int)])),x8] n3:=λv E X0 WS=>by
   generalize hc:o3 ([s1,s2,[],eT 0 many.toNat].map dk) none (some v)=cs;have DF:=S7 v;rw[hc] at DF;clear hc;generalize x8=y8
   induction cs generalizing y8 with
   | nil=>exact WS _ _ ⟨_,rfl,rfl⟩
   | cons d ds ih =>
    obtain⟨t,ht,rfl⟩:=DF d (aq ..);rw[i6,g6];simp only[ay,av];rw[fR,zQ,dY,dw,dg,dr];simp only[aa,ac];rw[dg,dr];simp only[aa,ac];rw[dg,dr];simp only[aa,ac];rw[di];refine wB w II ht hT ?_;rw[dP,Bool.not_true,if_neg (!2),fh];exact ih (λs hs=>DF s (ai _ hs)) _
  simp! [i0,F7,intD,oz,yy]
  obtain⟨v,hv⟩:∃v,vP (.int 2) (.int (if decide (6<many)=true then 1 else 0))=some (.int v):=by
   split
   .exact⟨_,oz (!2)⟩
   .exact⟨_,oz (!2)⟩
  rw[hv,dh,yy,dh];dsimp only;rw[WR,dh];dsimp only;rw[dh];refine fin (4 - v) _ rfl λenv n' ⟨x8,e,en⟩=>CL _ _ ⟨_,_,_,_,_,_,_,e,!1,?_,?_,λd hd=>Qo d (ai _ hd)⟩
  .rw[aK,bq]
   omega
  .rw[aK,bq]
   omega
 .rw[mK] at hd
  obtain⟨k,_,rfl⟩:=aM.mp hd;exact⟨k,rfl⟩
 .rintro pre env n' ⟨x2,x3,x4,x5,x6,x7,x8,rfl,WL,WM,hp,_⟩
  simp! [du]
theorem all_mk {l:W.OpenLaw}{w:World}{K:W.Frag}{h:Heap}{mg:Str->Option ag}{fa:Addr}{S8:Addr}{S9 P0:Option Addr}{Ta:Array (Option ag)}{Tb P1 P4 P5 MX P6:ag}(X:K.In h)(G:h.Ns be mg)(xR:mg "law" = some (.ref fa))
  (a39:W.nsIn K be "law" = some (some (.ref S8)))
  (l39:K.lookup S8=some ⟨Tb,S9,.func (W.fnOf "law" "law" (jC (top 39)) (fC (top 39)) (dn (top 39)) .none P1 P4 P5 P0 MX P6),Ta⟩)
  (c39:W.codeIn K MX "law" = true)
  (k39:W.keepIn K (.ref S8)=true)
  (AF0:CH K top [("odd_ones",1),("by_turns",3),("odds_of",4),("below",6),("turned",7),("turned_told",8),("turned_set",9),("other_end",11),("ways_from",13),("cheapest_step",14),("way_between",15),("heights_from",16),("all_heights",18),("pairing_price",19),("partner_offers",20),("least_pairs",21),("least_join",22),("_law_feed",24),("_law_take",25),("_law_price",26),("_law_web",27),("_law_by_turns",28),("_law_odds",29),("_law_price_of",30),("_law_any_set",31),("_law_any_side",32),("_law_told",33),("_law_whole",34),("_law_is_rising",35),("_law_least",36)])
  (AF1:CH K top [("_law_sizes",37),("_law_right",38)])
  (z_abs:W.nsIn K be "abs" = some none)
  (z_bool:W.nsIn K be "bool" = some none)
  (z_dict:W.nsIn K be "dict" = some none)
  (z_enumerate:W.nsIn K be "enumerate" = some none)
  (z_int:W.nsIn K be "int" = some none)
  (z_isinstance:W.nsIn K be "isinstance" = some none)
  (z_len:W.nsIn K be "len" = some none)
  (z_list:W.nsIn K be "list" = some none)
  (z_max:W.nsIn K be "max" = some none)
  (z_min:W.nsIn K be "min" = some none)
  (z_range:W.nsIn K be "range" = some none)
  (z_repr:W.nsIn K be "repr" = some none)
  (z_set:W.nsIn K be "set" = some none)
  (z_sorted:W.nsIn K be "sorted" = some none)
  (z_sum:W.nsIn K be "sum" = some none)
  (z_tuple:W.nsIn K be "tuple" = some none) :
  ∃fd:bH,(∀(s:aw) (v:ag),BindsTo s fd ⟨[v],[]⟩ [("_law_script",v)])/\∀base:Heap,K.In base->base.Ns be mg->lB l.prog w K mg base vy 20 fa fd ["_law_script"] (xU K):=by
 have e:=xR.symm.trans (W.mg_of X G a39);cases e;have WT:=DN (st:=top 39) l39 c39 k39;obtain⟨a1,a3,a4,a6,a7,a8,a9,WU,WV,WW,WX,WY,WZ,W0,UL,W2,W3,W4,W5,W6,W7,W8,W9,W',Xa,Xb,Xd,Xe,Xf,Xg,_⟩:=AF0;obtain⟨Xh,Xi,_⟩:=AF1;refine⟨W.fnOf "law" "law" (jC (top 39)) (fC (top 39)) (dn (top 39)) .none P1 P4 P5 P0 MX P6,λs v=>.of_eq rfl,λbase _ _=>?_⟩;let cl:Str->Addr:=λ_=>0;have B:ly mg:=⟨W.mg_none_of X G z_abs,W.mg_none_of X G z_bool,W.mg_none_of X G z_dict,W.mg_none_of X G z_enumerate,W.mg_none_of X G z_int,W.mg_none_of X G z_isinstance,W.mg_none_of X G z_len,W.mg_none_of X G z_list,W.mg_none_of X G z_max,W.mg_none_of X G z_min,W.mg_none_of X G z_range,W.mg_none_of X G z_repr,W.mg_none_of X G z_set,W.mg_none_of X G z_sorted,W.mg_none_of X G z_sum,W.mg_none_of X G z_tuple⟩;obtain⟨_,_,Xj,Xk⟩:=(W4.m X G).ex;have nQ:dJ l.prog w K mg base 1 "_law_feed" ["_law_script"] (qD tM K):=MB Xj Xk B;obtain⟨_,_,Xl,Xm⟩:=(W5.m X G).ex;have dF:gc l.prog w K mg base tM:=(MC Xl Xm B).draw.up (!2);have kc:j6 l.prog w K mg base tM:=tR (Xa.m X G) B dF;have fM:gW l.prog w K mg base tM:=sk (Xb.m X G) B dF;have fL:gV l.prog w K mg base cl:=si (W8.m X G) B;have mw:me l.prog w K mg base cl:=yr (Xe.m X G) B;have i3:iZ l.prog w K mg base cl:=qj (Xf.m X G) B mw;have my:mf l.prog w K mg base cl:=yt (Xg.m X G) B fL;have iq:kT l.prog w K mg base cl:=Aq (W9.m X G) B fL;have mr:ma l.prog w K mg base tM:=yq (W6.m X G) B dF;have gX:ju l.prog w K mg base cl:=sj (W'.m X G) B;obtain⟨_,_,F1,m1⟩:=(a1.m X G).ex;have ip:nN l.prog w K mg base cl:=Ao F1 m1 B;have dE:eR l.prog w K mg base cl:=Ap (a3.m X G) B ip;have mN:qH l.prog w K mg base cl:=Iw (a6.m X G) B;have kX:kR l.prog w K mg base cl:=wd (a9.m X G) B dE mN;have mq:l9 l.prog w K mg base cl:=yo (WU.m X G) B;have gB:iY l.prog w K mg base cl:=qf (WW.m X G) B dE mq;have gF:jP l.prog w K mg base cl:=yp (WV.m X G) B gB;have j8:j3 l.prog w K mg base cl:=tO (WX.m X G) B gF;have eF:gA l.prog w K mg base  := qh (W0.m X G) (UL.m X G) B dE;have fK:ik l.prog w K mg base  := pA (UL.m X G) B dE eF;have jv:jt l.prog w K mg base cl:=sg (WY.m X G) B gF;have j7:j4 l.prog w K mg base cl:=tP (WZ.m X G) B jv;have j9:j5 l.prog w K mg base cl:=tQ (W2.m X G) B dE fK eF j7;have pz:pw l.prog w K mg base cl:=CQ (a4.m X G) B ip;have ka:jZ l.prog w K mg base cl:=tN (a8.m X G) B dE pz mN;have sh:r6 l.prog w K mg base cl:=FA (a7.m X G) B;have jc:kS l.prog w K mg base cl:=we (W3.m X G) B kX dE j8 j9 ka sh;have mx:mn l.prog w K mg base cl:=yv (Xi.m X G) B gX jc iq i3;have mz:mh l.prog w K mg base tM:=yu (Xh.m X G) B dF;have nR:nO l.prog w K mg base tM:=Ar (Xd.m X G) B fM dF iq kc;have pB:px l.prog w K mg base tM:=CS (W7.m X G) B dF mr;exact PL WT B nQ mx fM nR my dF pB mz FW
theorem walk {l:W.OpenLaw}{q:a5}{loose:List Str}{XP:(Str->Option ag)->Heap->Prop}{YP:World->Heap->Prop}{d:DefRec}{K:Params->W.Frag}(hn:l.most=some 63)(Oc:d.params.defaults=[])
  (hY:∀(w:World) (h:Heap),YP w h->(K w.params).In h)
  (F:∀(w:World) (mg:Str->Option ag) (fa:Addr) (h:Heap),(K w.params).In h->h.Ns be mg->mg d.name=some (.ref fa) ->
   ∃fd:bH,(∀(s:aw) (u:ag),BindsTo s fd ⟨[u],[]⟩ [("_law_script",u)])/\∀base:Heap,(K w.params).In base->base.Ns be mg->lB l.prog w (K w.params) mg base vy 20 fa fd ["_law_script"] (xU (K w.params))) :
  W.WalkO q loose XP YP l.row.toRowW d [] (λf vs=>PySem.call f vs) :=
 L2.G0 (n:=63) (k:=20) (x := "_law_script") (CX:=λ_=>vy) (sp:=λw=>xU (K w.params)) hn (!2) Oc ⟨rfl,!2,!2,rfl⟩ hY F (λ_ _ a ns hl _ hS=>⟨a,ns,rfl,hS,hl,λ_=>rfl⟩) λ_ _ _ _ _ z=>z
end Odj
theorem PySem.W.Fast.tw2027160356005567356:True:=⟨⟩
theorem PySem.W.Fast.tw15669329118085494933:True:=⟨⟩
theorem PySem.W.Fast.tw8327025992815827329:True:=⟨⟩
theorem PySem.W.Fast.tw7887967970317471746:True:=⟨⟩
theorem PySem.W.Fast.tw1453738173923614216:True:=⟨⟩
theorem PySem.W.Fast.tw8936590596871522521:True:=⟨⟩
theorem PySem.W.Fast.tw4158654307330647165:True:=⟨⟩
theorem PySem.W.Fast.tw4555695214898793088:True:=⟨⟩
theorem PySem.W.Fast.tw3383782149563991420:True:=⟨⟩
theorem PySem.W.Fast.tw5802419969158156502:True:=⟨⟩
theorem PySem.W.Fast.tw4242280609231483654:True:=⟨⟩
theorem PySem.W.Fast.tw6236134932026185045:True:=⟨⟩
theorem PySem.W.Fast.tw4071623585222477440:True:=⟨⟩
theorem PySem.W.Fast.tw13096003255540468613:True:=⟨⟩
theorem PySem.W.Fast.tw4620240867124519677:True:=⟨⟩
theorem PySem.W.Fast.tw16047029149287945427:True:=⟨⟩
theorem PySem.W.Fast.tw7870451456535967537:True:=⟨⟩
theorem PySem.W.Fast.tw12193795625106727940:True:=⟨⟩
theorem PySem.W.Fast.tw13919681516014988313:True:=⟨⟩
theorem PySem.W.Fast.tw5388080555158826612:True:=⟨⟩
theorem PySem.W.Fast.tw11840607274123846242:True:=⟨⟩
theorem PySem.W.Fast.tw18158519864553479635:True:=⟨⟩
theorem PySem.W.Fast.tw4683387591983232746:True:=⟨⟩
theorem PySem.W.Fast.tw12319386706618919295:True:=⟨⟩
theorem PySem.W.Fast.tw11740059486849066803:True:=⟨⟩
theorem PySem.W.Fast.tw855789876230483683:True:=⟨⟩
theorem PySem.W.Fast.tw17568615466381676282:True:=⟨⟩
theorem PySem.W.Fast.tw7195280325717499021:True:=⟨⟩
theorem PySem.W.Fast.tw7334885609718258618:True:=⟨⟩
theorem PySem.W.Fast.tw17670446689188758700:True:=⟨⟩
theorem PySem.W.Fast.tw3344139885563962706:True:=⟨⟩
theorem PySem.W.Fast.tw14703413001909130573:True:=⟨⟩
theorem PySem.W.Fast.tw13427107907886813698:True:=⟨⟩
theorem PySem.W.Fast.tw16968514920948560844:True:=⟨⟩
theorem PySem.W.Fast.tw5316744503680908413:True:=⟨⟩
theorem PySem.W.Fast.tw12689800203929030874:True:=⟨⟩
theorem PySem.W.Fast.tw9142228888942652553:True:=⟨⟩
theorem PySem.W.Fast.tw9070230227978982997:True:=⟨⟩
theorem PySem.W.Fast.tw13034178542626975690:True:=⟨⟩
theorem PySem.W.Fast.tw5078900217031659730:True:=⟨⟩
theorem PySem.W.Fast.tw18206085211040280805:True:=⟨⟩
theorem PySem.W.Fast.tw1927973818146574885:True:=⟨⟩
theorem PySem.W.Fast.tw13162024013917460837:True:=⟨⟩
theorem PySem.W.Fast.tw2947201104883680336:True:=⟨⟩
theorem PySem.W.Fast.tw7370302281209860439:True:=⟨⟩
theorem PySem.W.Fast.tw2862509057867920974:True:=⟨⟩
theorem PySem.W.Fast.tw8256493377023961340:True:=⟨⟩
theorem PySem.W.Fast.tw2754886506726660374:True:=⟨⟩
theorem PySem.W.Fast.tw12690064173252043885:True:=⟨⟩
theorem PySem.W.Fast.tw15849086257724832347:True:=⟨⟩
theorem PySem.W.Fast.tw8337249950288269746:True:=⟨⟩
theorem PySem.W.Fast.tw9652677125082122046:True:=⟨⟩
theorem PySem.W.Fast.tw18421110607899432484:True:=⟨⟩
theorem PySem.W.Fast.tw9823376282911390436:True:=⟨⟩
theorem PySem.W.Fast.tw14998502509837937079:True:=⟨⟩
theorem PySem.W.Fast.tw3664580115537191253:True:=⟨⟩
theorem PySem.W.Fast.tw9395620481557496:True:=⟨⟩
theorem PySem.W.Fast.tw4968912875033811044:True:=⟨⟩
theorem PySem.W.Fast.tw637006235810104292:True:=⟨⟩
theorem PySem.W.Fast.tw8291323322425887196:True:=⟨⟩
theorem PySem.W.Fast.tw7957566382798982087:True:=⟨⟩
theorem PySem.W.Fast.tw12479478214610472944:True:=⟨⟩
theorem PySem.W.Fast.tw11080782620897280568:True:=⟨⟩
theorem PySem.W.Fast.tw17580233942181836395:True:=⟨⟩
theorem PySem.W.Fast.tw5111361662809237294:True:=⟨⟩
theorem PySem.W.Fast.tw10017194945737939060:True:=⟨⟩
theorem PySem.W.Fast.tw12152922232239750060:True:=⟨⟩
theorem PySem.W.Fast.tw1468289277580802042:True:=⟨⟩
theorem PySem.W.Fast.tw16762837820454114600:True:=⟨⟩
theorem PySem.W.Fast.tw17998868013191968761:True:=⟨⟩
theorem PySem.W.Fast.tw10877581744076489463:True:=⟨⟩
theorem PySem.W.Fast.tw16899844466974435672:True:=⟨⟩
theorem PySem.W.Fast.tw12796315486066872563:True:=⟨⟩
theorem PySem.W.Fast.tw1300546039122377040:True:=⟨⟩
theorem PySem.W.Fast.tw9047355225144803730:True:=⟨⟩
theorem PySem.W.Fast.tw8633011682052899359:True:=⟨⟩
theorem PySem.W.Fast.tw2457962361782605908:True:=⟨⟩
theorem PySem.W.Fast.tw16404059261831068791:True:=⟨⟩
theorem PySem.W.Fast.tw10355665226915418499:True:=⟨⟩
theorem PySem.W.Fast.tw8323922081262797635:True:=⟨⟩
theorem PySem.W.Fast.tw2783525791596935295:True:=⟨⟩
theorem PySem.W.Fast.tw18416768365852970879:True:=⟨⟩
theorem PySem.W.Fast.tw4171767350375722973:True:=⟨⟩
theorem PySem.W.Fast.tw4033654588881072349:True:=⟨⟩
theorem PySem.W.Fast.tw2942288108241651:True:=⟨⟩
theorem PySem.W.Fast.tw1729889719839957956:True:=⟨⟩
theorem PySem.W.Fast.tw1225477393989803736:True:=⟨⟩
open PySem PySem.W PyProof.Rows
set_option maxRecDepth 100000 in
set_option maxHeartbeats 0 in
theorem PySem.Challenge.cw_oddjoins_k25_least_joins_told_holds : PySem.Challenge.rw_oddjoins_k25_least_joins_told.Holds := by
 w_on; o_law; k_head; (case hw=>w_witness2)
 k_fill
 refine Odj.walk (l:=PySem.Challenge.rw_oddjoins_k25_least_joins_told) rfl rfl (fun w h Y=>W.kIn_of Y) ?F
 case F =>
  intro w mg fa h KX G Od
  refine' Odj.all_mk KX G Od ?a39 ?l39 ?c39 ?k39 ?AF0 ?AF1 ?z_abs ?z_bool ?z_dict ?z_enumerate ?z_int ?z_isinstance ?z_len ?z_list ?z_max ?z_min ?z_range ?z_repr ?z_set ?z_sorted ?z_sum ?z_tuple
  (case a39=>k_is); (case l39=>k_is); (case c39=>k_is); (case k39=>k_is)
  (case AF0=>repeat' first | exact L2.yb | (refine L2.E5 ?_ ?_) | (apply L2.JP.of <;> k_is)); (case AF1=>repeat' first | exact L2.yb | (refine L2.E5 ?_ ?_) | (apply L2.JP.of <;> k_is)); (case z_abs=>k_is); (case z_bool=>k_is)
  (case z_dict=>k_is); (case z_enumerate=>k_is); (case z_int=>k_is); (case z_isinstance=>k_is)
  (case z_len=>k_is); (case z_list=>k_is); (case z_max=>k_is); (case z_min=>k_is)
  (case z_range=>k_is); (case z_repr=>k_is); (case z_set=>k_is); (case z_sorted=>k_is)
  (case z_sum=>k_is); (case z_tuple=>k_is)
