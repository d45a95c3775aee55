import PyProof.Rows.All
import Wide.All
import OpenK.AllK
import Wide.FinOn
import Lean
import PyProof.EqAt
import PyProof.EqKinds
import PyProof.TupleCall
import KE.KTryMore
import KE.KRevIter
import PyProof.CollectIter
import PyProof.P3Eq
import PyProof.MinMaxWalk
import PyProof.StrCalls2
import PyProof.StrLawsChain
import PyProof.StrLawsTight
import PyProof.StrLawsIdx
import PyProof.StrLawsIn
import PyProof.Rows.StrJoin2
import KE.KIntText
import PyProof.FactsAll.set_2
import KE.KSortTup
import PyProof.Rows.CallKwBuiltin
import PyProof.P3Statements
import PySem.Challenge.RW_oddjoins_k86_halves_of_any_thing
set_option compiler.extract_closed false
set_option Elab.async false
set_option linter.all false
set_option maxRecDepth 100000
set_option maxHeartbeats 8000000
open List renaming getElem?_cons_zero→aa, getElem?_cons_succ→ac, length_map→ah, length_cons→aj, mem_cons→al, map_cons→am, mem_cons_of_mem→ao, set_cons_zero→ap, mem_cons_self→aq, set_cons_succ→ar, length_append→au, getD_eq_getElem?_getD→ax, mem_singleton→ay, nil_append→az, getElem?_map→aB, size_toArray→aC, replicate_succ→aF, length_nil→aG, mem_append→aH, cons_append→aI, mem_filter→aJ, not_mem_nil→aM, getElem?_eq_some_iff→aN, replicate_zero→aP, getElem?_eq_getElem→aR, length_singleton→aT, mem_append_right→aU, map_nil→aX, map_append→bc, getElem?_set_ne→be, length_take→bf, mem_map→bg, getElem?_eq_none→bh, map_map→br, append_nil→bt, length_set→bu, count_append→bv, mem_of_getElem?→bC, lookup_cons→bD, nodup_cons→bJ, find?_cons→bK, filterMap_cons→bL, append_assoc→bM, length_filter_le→bN, mem_append_left→bP, length_drop→bQ, filter_cons_of_pos→bR, filter_cons_of_neg→bS, nodup_append→bU, take_of_length_le→bV, getElem?_append_left→bY, pairwise_cons→bZ, any_cons→b4, mem_of_mem_take→b8, getElem_of_mem→b9, all_eq_true→ca, getElem_mem→cc, getElem?_append_right→ce, perm_ext_iff_of_nodup→cf, flatten_cons→cj, length_range→ck, getElem?_replicate→cm, mem_filterMap→cp, count_pos_iff→cv, all_cons→cy, reverse_cons→cz, idxOf_lt_length_of_mem→cB, mem_of_mem_drop→cC, pairwise_iff_getElem→cF, drop_eq_getElem_cons→cG, map_congr_left→cH, length_pos_iff→cI, map_drop→cJ, count_cons→cK, mem_range→cM, getElem?_set_self→cN, take_add_one→cO, drop_of_length_le→cP, mapM_cons→cQ, length_replicate→cR, any_eq_true→cS, lookup→cT, eq_nil_of_length_eq_zero→cU, foldl_cons→cV, filter_append→c5, pairwise_map→c6, getLast?_map→c7, filter_cons→c8, getLast?_cons_cons→c9, countP_cons→db, foldl→de
open PySem renaming PyData→ad, wpAny_bind→ae, Value→af, wpAny_pure→ak, sizeLine→av, Shared→aw, wpAny→aA, NameKind→aO, wpAny_newObj_type→aW, mainGlobals→aY, Program→aZ, FuncData→bq, wpAny_mono→bF
open Nat renaming le_refl→ag, le_trans→aL, lt_of_lt_of_le→aS, ne_of_lt→aV, lt_irrefl→bo, zero_le→bW, le_succ→bX, ne_of_gt→cg, lt_of_le_of_lt→cq, lt_succ_of_lt→cA, lt_succ_self→cD, lt_or_ge→cE, le_of_lt→dc, lt_trans→df, not_lt→dg
open PySem.Heap renaming get?_push_of_some→ai, lt_size→aD, get?_push_size→aE, get?_update_other→aQ, get?_update_self→bi, size_push→bG
open Bool renaming and_eq_true→aK, false_ne_true→ba, not_false→bw, not_true→bB, true_and→bE, false_eq_true→bH, false_and→bT, eq_iff_iff→cw
open Int renaming toNat_natCast→bj, emod_lt_of_pos→cL, emod_nonneg→cW, ediv_one→cY
open Option renaming map_some→bn, isSome_iff_exists→bO, bind_some→cb, map_eq_some_iff→cr
open Array renaming length_toList→bp, getElem?_toList→bA, getElem?_eq_none→cu, getElem?_eq_some_iff→cZ
set_option hygiene false
local macro_rules |`(tactic|rw[$n:num])=>match n.getNat with
|3=>`(tactic|(intro _;rfl))
|999=>`(tactic|(intro _ _ _ _ _ _ us hl;first | (obtain⟨_,rfl⟩:=F1 hl;rfl) | (obtain⟨_,_,rfl⟩:=JD hl;rfl) | (obtain⟨_,_,_,rfl⟩:=MS hl;rfl) | (obtain⟨_,_,_,_,rfl⟩:=len4 hl;rfl) | (obtain⟨_,_,_,_,_,rfl⟩:=len5 hl;rfl) | (obtain⟨_,_,_,_,_,_,rfl⟩:=len6 hl;rfl) | (cases us<;>first | rfl | cases hl)))
|_=>Lean.Macro.throwUnsupported
local macro_rules |`(!$n:num)=>match n.getNat with
|1=>`(by omega)
|2=>`(by decide)
|3=>`(by decide +kernel)
|4=>`(by simp)
|_=>Lean.Macro.throwUnsupported
noncomputable section
namespace L2
open PySem PySem.Spec PyProof.Rows
noncomputable abbrev Key:=Sum Int Str
noncomputable def uG:Key->af->Bool
 | .inl k,v=>af.isInt k v
 | .inr x,v=>af.isStrOf x v
noncomputable def Wa (w:World):Key->Int
 | .inl k=>hashInt k
 | .inr x=>hashStr w x
theorem fZ:∀{k:Key} {v:af},uG k v=true->(∃i t,k=Sum.inl i/\v=af.int i t)\/(∃x t,k=Sum.inr x/\v=af.str x t)
 | .inl i,v,h=>by
  obtain⟨t,e⟩:=af.isInt_shape (k:=i) (v:=v) h;exact .inl ⟨i,t,rfl,e⟩
 | .inr x,v,h=>by
  obtain⟨t,e⟩:=af.isStrOf_shape (x:=x) (v:=v) h;exact .inr ⟨x,t,rfl,e⟩
theorem EY (i:Int)(t:Tok):uG (.inl i) (.int i t)=true:=by simp[uG,af.isInt]
theorem EZ (x:Str)(t:Tok):uG (.inr x) (.str x t)=true:=by simp[uG,af.isStrOf]
theorem OJ (a b:Int):decide ((Sum.inl a:Key)=Sum.inl b)=(a == b):=by
 by_cases e:a=b
 .subst e;simp
 .have h:¬ (Sum.inl a:Key)=Sum.inl b:=λq=>e (Sum.inl.inj q)
  rw[decide_eq_false h];exact (beq_eq_false_iff_ne.mpr e).symm
theorem OK (a b:Str):decide ((Sum.inr a:Key)=Sum.inr b)=decide (a=b):=by
 by_cases e:a=b
 .subst e;simp
 .have h:¬ (Sum.inr a:Key)=Sum.inr b:=λq=>e (Sum.inr.inj q)
  rw[decide_eq_false h,decide_eq_false e]
theorem OL (a:Int)(b:Str):decide ((Sum.inl a:Key)=Sum.inr b)=false:=decide_eq_false (λq=>nomatch q)
theorem OM (a:Str)(b:Int):decide ((Sum.inr a:Key)=Sum.inl b)=false:=decide_eq_false (λq=>nomatch q)
noncomputable def fP (prog:aZ)(w:World):PySem.KeyKind prog w Key where
 is:=uG
 hash:=Wa w
 inj:=λv a b ha hb=>by
  rcases fZ ha with⟨i,t,rfl,rfl⟩ | ⟨x,t,rfl,rfl⟩
  .rcases fZ hb with⟨j,u,rfl,e⟩ | ⟨y,u,rfl,e⟩
   .injection e with e1 _;rw[e1]
   .exact nomatch e
  .rcases fZ hb with⟨j,u,rfl,e⟩ | ⟨y,u,rfl,e⟩
   .exact nomatch e
   .injection e with e1 _;rw[e1]
 byValue:=λk v h=>by
  rcases fZ h with⟨i,t,rfl,rfl⟩ | ⟨x,t,rfl,rfl⟩<;>rfl
 pyHash:=λhv h=>by
  rcases fZ hv with⟨i,t,rfl,rfl⟩ | ⟨x,t,rfl,rfl⟩
  .exact wpAny_pyHash_int h
  .exact wpAny_pyHash_str h
 eqBool:=λhu hv h=>by
  rcases fZ hu with⟨i,t,rfl,rfl⟩ | ⟨x,t,rfl,rfl⟩
  .rcases fZ hv with⟨j,u,rfl,rfl⟩ | ⟨y,u,rfl,rfl⟩
   .rw[OJ] at h;exact wpAny_eqBool_int h
   .rw[OL] at h;exact SeqAt.EqAt.int_str i t y u _ _ _ _ h
  .rcases fZ hv with⟨j,u,rfl,rfl⟩ | ⟨y,u,rfl,rfl⟩
   .rw[OM] at h;exact SeqAt.EqAt.str_int x t j u _ _ _ _ h
   .rw[OK] at h;exact wpAny_eqBool_str h
 «strs»:=λk x t v h=>by
  rcases fZ h with⟨i,u,rfl,e⟩ | ⟨y,u,rfl,e⟩
  .exact nomatch e
  .injection e with e1 _
   subst e1;cases v<;>rfl
theorem z6 (prog:aZ)(w:World)(i:Int)(t:Tok):(fP prog w).is (.inl i) (.int i t)=true:=EY i t
theorem z7 (prog:aZ)(w:World)(x:Str)(t:Tok):(fP prog w).is (.inr x) (.str x t)=true:=EZ x t
inductive V where
 | iZ | bl (b:Bool) | int (i:Int) | str (x:Str) | Hj (b:Array UInt8) | Ru (b:UInt64) | ref (a:Addr) | ty (n:String)
 deriving DecidableEq
noncomputable def RelV:V->af->Prop
 | .iZ,u=>u=af.none
 | .bl b,u=>u=af.bool b
 | .int i,u=>∃t,u=af.int i t
 | .str x,u=>∃t,u=af.str x t
 | .Hj b,u=>∃t,u=af.bytes b t
 | .Ru b,u=>∃t,u=af.float b t
 | .ref a,u=>u=af.ref a
 | .ty n,u=>u=af.type n
noncomputable abbrev eA:List V->List af->Prop:=Paired RelV
theorem eA.length (r:eA xs us):xs.length=us.length:=Paired.length r
theorem eA.get:∀{xs:List V} {us:List af} {i:Nat} {x:V},eA xs us->xs[i]? = some x->∃u,us[i]? = some u/\RelV x u
 | _,_,_,_,.nil,e=>by simp at e
 | _,_,0,_,.cons r _,e=>by simp at e;subst e;exact⟨_,rfl,r⟩
 | _,_,i+1,x,.cons _ t,e=>by
  obtain⟨u,h1,h2⟩:=eA.get (i:=i) (x:=x) t (by simpa using e);exact⟨u,by simpa using h1,h2⟩
theorem eA.append:∀{xs ys:List V} {us ws:List af},eA xs us->eA ys ws->eA (xs++ys) (us++ws)
 | _,_,_,_,.nil,s=>s
 | _,_,_,_,.cons r t,s=>.cons r (eA.append t s)
theorem eA.take:∀{xs:List V} {us:List af} (n:Nat),eA xs us->eA (xs.take n) (us.take n)
 | _,_,0,_=>.nil
 | _,_,_+1,.nil=>.nil
 | _,_,n+1,.cons r t=>.cons r (eA.take n t)
theorem eA.drop:∀{xs:List V} {us:List af} (n:Nat),eA xs us->eA (xs.drop n) (us.drop n)
 | _,_,0,r=>r
 | _,_,_+1,.nil=>.nil
 | _,_,n+1,.cons _ t=>eA.drop n t
noncomputable def qc:Option V->Option af->Prop
 | some v,some u=>RelV v u
 | none,none=>True
 | _,_=>False
noncomputable def KV {κ:Type}:List (κ × V)->List (κ × af)->Prop:=Paired λ(p:κ × V) (q:κ × af)=>p.1=q.1/\RelV p.2 q.2
noncomputable def kV:Key->V
 | .inl i=>.int i
 | .inr x=>.str x
inductive HO where
 | lst (xs:List V)
 | tup (xs:List V)
 | dK (kvs:List (Key × V)) | dT (kvs:List (List Key × V))
 | set (S:Int->Bool) (n:Nat)
 | ins (C dx:Addr) (fs:List (Str × V))
 | own (x:Addr)
 | xd (fs:List (Str × V))
 | met (f x:Addr)
 | Hk (lo hi:Int)
 | uH (o:Obj) (u:HO)
 | ON (ps:Array af)
 | ext (φ:Heap->Prop)
noncomputable abbrev Hp:=Addr->Option HO
noncomputable def eM (H:Hp)(a:Addr)(o:HO):Hp:=λb=>if b=a then some o else H b
theorem dG:eM H a o a=some o:=by unfold eM;rw[if_pos rfl]
theorem dJ (h:b≠a):eM H a o b=H b:=by unfold eM;rw[if_neg h]
theorem RZ {H:Hp}{a b:Addr}{o u:HO}(h:H a=some o)(h':H b=some u)(d:o≠u):a≠b:=by
 intro e;subst e;rw[h] at h';exact d (Option.some.inj h')
theorem eE {H:Hp}{a b:Addr}{o:HO}(h:H a=some o)(h':H b=none):a≠b:=by
 intro e;subst e;rw[h] at h';cases h'
section
variable (P:aZ)(w:World)
noncomputable def uI (h:Heap)(a:Addr)(items:Array af):Prop:=∃o,h.get? a=some o/\o.cls=.type "tuple" /\ ∃n,o.data=.seq items n/\o.dict=none
omit P w in
theorem uI.tup (p:uI h a items):IsTup h a items:=let ⟨o,e,c,n,d,_⟩:=p;⟨o,e,c,n,d⟩
omit P w in
theorem uI.new (h:Heap)(items:Array af):uI (h.push { cls:=.type "tuple",data:=.seq items }) h.objs.size items:=⟨_,aE _ rfl,rfl,_,rfl,rfl⟩
noncomputable def fM (H:Hp)(h:Heap)(a:Addr):HO->Prop
 | .lst xs=>xs.length<=av/\∃(its:List af) (n:Nat),eA xs its/\h.get? a=some { cls:=.type "list",data:=.seq its.toArray n }
 | .tup xs=>xs.length<=av/\∃its:List af,eA xs its/\uI h a its.toArray
 | .dK kvs=>kvs.length<=av/\(a == sysModules)=false/\∃vs,KV kvs vs/\h.DictOf (fP P w) a vs
 | .dT kvs=>kvs.length<=av/\(a == sysModules)=false/\∃xs:List (List Key × Addr × af),
   Paired (λ(p:List Key × V) (q:List Key × Addr × af)=>p.1=q.1/\H q.2.1=some (.tup (p.1.map kV))/\RelV p.2 q.2.2) kvs xs /\
   ∃o es ep,h.get? a=some o/\o.ExactDict/\o.data=.dict es ep/\es.toList=xs.map (entryOfKey (tupleKind (fP P w)))/\(xs.map (·.1)).Nodup
 | .set S n=>h.SetOf (intKind P w) a S n
 | .ins C dx fs=>H dx=some (.own a)/\fs.length<=1000/\dx≠a/\h.get? a=some (W.instObj C dx) /\
   ∃mA,h.Ns1 dx mA/\(∀f,qc (fs.lookup f) (mA f))/\PySem.Within mA (fs.map (·.1))
 | .own _=>∃o,h.get? a=some o
 | .xd fs=>∃mA,h.Ns1 a mA/\∀f,qc (fs.lookup f) (mA f)
 | .Hk lo hi=>∃t u v,h.get? a=some { cls:=.type "range",data:=.fields #[.int lo t,.int hi u,.int 1 v] }
 | .uH o u=>h.get? a=some o/\fM H h a u
 | .ON ps=>h.get? a=some { cls:=.none,data:=.fields ps }
 | .met f x=>h.get? a=some (W.methodObj (.ref f) (.ref x))
 | .ext φ=>φ h/\(∃o,h.get? a=some o)/\∀h1 h2:Heap,φ h1->(∀o,h1.get? a=some o->h2.get? a=some o)->φ h2
noncomputable def lX (H:Hp)(h:Heap):Prop:=∀a o,H a=some o->fM P w H h a o
end
section
variable {P:aZ}{w:World}{H H':Hp}{h h':Heap}{a:Addr}{o:HO}
theorem fM.lt (x:fM P w H h a o):a<h.objs.size:=by
 cases o with
 | lst xs=>obtain⟨_,_,_,_,e⟩:=x;exact aD e
 | tup xs=>obtain⟨_,_,_,p⟩:=x;exact p.tup.lt
 | dK kvs=>obtain⟨_,_,_,_,o,_,_,e,_⟩:=x;exact aD e
 | dT kvs=>obtain⟨_,_,_,_,o,_,_,e,_⟩:=x;exact aD e
 | set S n=>obtain⟨o,_,_,_,e,_⟩:=x;exact aD e
 | ins C dx fs=>obtain⟨_,_,_,e,_⟩:=x;exact aD e
 | own y=>obtain⟨_,e⟩:=x;exact aD e
 | xd fs=>obtain⟨_,⟨_,_,_,e,_⟩,_⟩:=x;exact aD e
 | Hk lo hi=>obtain⟨_,_,_,e⟩:=x;exact aD e
 | uH ob u=>obtain⟨e,_⟩:=x;exact aD e
 | ON ps=>exact aD (show h.get? a=some _ from x)
 | met f y=>exact aD (show h.get? a=some _ from x)
 | ext φ=>obtain⟨_,⟨_,e⟩,_⟩:=x;exact aD e
theorem Paired.OO {α β:Type}{F G:α->β->Prop}:∀{l₁:List α} {l₂:List β},Paired F l₁ l₂->(∀a b,F a b->G a b)->Paired G l₁ l₂
 | _,_,.nil,_=>.nil
 | _,_,.cons r t,f=>.cons (f _ _ r) (Paired.OO t f)
theorem fM.B7 (x:fM P w H h a o)(k:∀b u,(b=a\/H b=some (.own a))->h.get? b=some u->h'.get? b=some u)
  (ho:∀b,H b=some (.own a)->H' b=some (.own a)) (ht:∀b xs,H b=some (.tup xs)->H' b=some (.tup xs)):fM P w H' h' a o:=by
 induction o with
 | lst xs=>obtain⟨z,its,n,r,e⟩:=x;exact⟨z,its,n,r,k _ _ (.inl rfl) e⟩
 | tup xs=>obtain⟨z,its,r,ob,e,c⟩:=x;exact⟨z,its,r,ob,k _ _ (.inl rfl) e,c⟩
 | dK kvs=>obtain⟨z,y,vs,r,ob,es,ep,e,c⟩:=x;exact⟨z,y,vs,r,ob,es,ep,k _ _ (.inl rfl) e,c⟩
 | dT kvs =>
  obtain⟨z,y,xs,r,ob,es,ep,e,c⟩:=x;exact⟨z,y,xs,Paired.OO r λp q z=>⟨z.1,ht _ _ z.2.1,z.2.2⟩,ob,es,ep,k _ _ (.inl rfl) e,c⟩
 | set S n=>obtain⟨ob,es,ep,t,e,c⟩:=x;exact⟨ob,es,ep,t,k _ _ (.inl rfl) e,c⟩
 | ins C dx fs =>
  obtain⟨d,z,ne,e,mA,⟨od,es,ep,e2,c⟩,r⟩:=x;exact⟨ho _ d,z,ne,k _ _ (.inl rfl) e,mA,⟨od,es,ep,k _ _ (.inr d) e2,c⟩,r⟩
 | own y=>obtain⟨ob,e⟩:=x;exact⟨ob,k _ _ (.inl rfl) e⟩
 | xd fs=>obtain⟨mA,⟨od,es,ep,e,c⟩,r⟩:=x;exact⟨mA,⟨od,es,ep,k _ _ (.inl rfl) e,c⟩,r⟩
 | Hk lo hi=>obtain⟨t,u,v,e⟩:=x;exact⟨t,u,v,k _ _ (.inl rfl) e⟩
 | uH ob u ih=>obtain⟨e,q⟩:=x;exact⟨k _ _ (.inl rfl) e,ih q⟩
 | ON ps =>
  have e:h.get? a=some { cls:=.none,data:=.fields ps }:=x;show h'.get? a=some { cls:=.none,data:=.fields ps };exact k a _ (.inl rfl) e
 | met f y =>
  have e:h.get? a=some (W.methodObj (.ref f) (.ref y)):=x;show h'.get? a=some (W.methodObj (.ref f) (.ref y));exact k a _ (.inl rfl) e
 | ext φ=>obtain⟨p,⟨o,e⟩,st⟩:=x;exact⟨st _ _ p λo q=>k _ _ (.inl rfl) q,⟨o,k _ _ (.inl rfl) e⟩,st⟩
theorem lX.lt (x:lX P w H h)(e:H a=some o):a<h.objs.size:=(x a o e).lt
theorem lX.fresh (x:lX P w H h)(e:h.objs.size<=a):H a=none:=by
 cases q:H a with
 | none=>rfl
 | some u=>exact absurd (aS (x.lt q) e) (bo _)
theorem lX.kept (x:lX P w H h)(k:∀b u,h.get? b=some u->h'.get? b=some u):lX P w H h':=λa o e =>
 (x a o e).B7 (λb u _ q=>k b u q) (λ_ q=>q) λ_ _ q=>q
theorem lX.laid (x:lX P w H h)(k:∀b u,h.get? b=some u->h'.get? b=some u)(hp:h.objs.size<=a)(new:fM P w (eM H a o) h' a o):lX P w (eM H a o) h':=λb u e=>by
 have hn:=x.fresh hp;by_cases hb:b=a
 .subst hb;rw[dG] at e;cases e;exact new
 .rw[dJ hb] at e
  exact (x b u e).B7 (λc v _ q=>k c v q) (λc q=>by rw[dJ (eE q hn)];exact q) λc xs q=>by rw[dJ (eE q hn)];exact q
end
noncomputable def Rd (H:Hp)(a:Addr)(u:HO):Prop:=H a=some u\/∃o,H a=some (.uH o u)
theorem Rd.ok (r:Rd H a u)(x:lX P w H h):fM P w H h a u:=by
 rcases r with r | ⟨o,r⟩
 .exact x a u r
 .obtain⟨_,q⟩:=x a _ r
  exact q
noncomputable def R0:Option HO->Prop
 | some (.lst _)=>True
 | some (.dK _)=>True
 | some (.dT _)=>True
 | some (.set _ _)=>True
 | some (.ins _ _ _)=>True
 | some (.ext _)=>True
 | _=>False
section
theorem lX.write (ok:lX P w H h)(mu:R0 (H x))(he:e=x\/H e=some (.own x))(k:∀b u,b≠e->h.get? b=some u->h'.get? b=some u)(Rv:∃u,h'.get? e=some u)
  (new:fM P w (eM H x o') h' x o'):lX P w (eM H x o') h':=λb u q=>by
 have R1:∀c y,H c=some (.own y)->c≠x:=λc y r z=>by subst z;rw[r] at mu;exact mu
 have Wb:∀c xs,H c=some (.tup xs)->c≠x:=λc xs r z=>by subst z;rw[r] at mu;exact mu
 by_cases hb:b=x
 .subst hb;rw[dG] at q;cases q;exact new
 .rw[dJ hb] at q
  by_cases OP:b=e
  .have q':H b=some (.own x):=by
    rcases he with z | z
    .exact absurd (OP.trans z) hb
    .rw[OP];exact z
   rw[q] at q';cases q';obtain⟨v,hv⟩:=Rv;exact⟨v,by rw[OP];exact hv⟩
  .refine (ok b u q).B7 (λc v hc r=>k c v ?_ r) (λc r=>by rw[dJ (R1 c b r)];exact r) λc xs r=>by rw[dJ (Wb c xs r)];exact r
   rcases hc with rfl | hc
   .exact OP
   .rintro rfl
    rcases he with z | z
    .exact R1 c b hc z
    .rw[hc] at z;cases z;exact hb rfl
end
structure Un (fs ex:List Addr) (H H':Hp) (h h':Heap):Prop where
 keep:∀b o,h.get? b=some o->H b=none->b ∉ fs->b ∉ ex->h'.get? b=some o
 slot:∀b o,h.get? b=some o->H b=none->b∈fs->b ∉ ex->∃sl,h'.get? b=some { o with slots:=sl }
 free:∀b o,h.get? b=some o->H b=none->b ∉ ex->H' b=none
 there:∀b o,h.get? b=some o->b ∉ ex->∃o',h'.get? b=some o'
 yS:∀b xs,H b=some (.tup xs)->H' b=some (.tup xs)
 wR:∀b o u,H b=some (.uH o u)->H' b=some (.uH o u)
 yT:∀b ps,H b=some (.ON ps)->∃more,H' b=some (.ON (ps++more))
section
variable {fs fs' ex ex':List Addr}{H H1 H2:Hp}{h h1 h2 h':Heap}{a x e:Addr}{o:HO}
theorem Un.any (u:Un fs ex H H1 h h1)(q:h.get? b=some ob)(n:H b=none)(hx:b ∉ ex):∃sl,h1.get? b=some { ob with slots:=sl }:=by
 by_cases hb:b∈fs
 .exact u.slot b ob q n hb hx
 .exact⟨ob.slots,u.keep b ob q n hb hx⟩
theorem Un.kept (k:∀b u,h.get? b=some u->h'.get? b=some u):Un fs ex H H h h' :=
 ⟨λb ob q _ _ _=>k b ob q,λb ob q _ _ _=>⟨ob.slots,k b ob q⟩,λ_ _ _ n _=>n,λb ob q _=>⟨ob,k b ob q⟩,λ_ _ q=>q,λ_ _ _ q=>q,λ_ ps q=>⟨#[],by rw[q];simp⟩⟩
theorem Un.refl:Un fs ex H H h h:=Un.kept λ_ _ q=>q
theorem Un.laid (k:∀b u,h.get? b=some u->h'.get? b=some u)(hp:h.objs.size<=a)(hn:H a=none):Un fs ex H (eM H a o) h h' where
 keep:=λb u q _ _ _=>k b u q
 slot:=λb u q _ _ _=>⟨u.slots,k b u q⟩
 free:=λb u q n _=>by rw[dJ (aV (aS (aD q) hp))];exact n
 there:=λb u q _=>⟨u,k b u q⟩
 yS:=λb xs q=>by rw[dJ (eE q hn)];exact q
 wR:=λb u xs q=>by rw[dJ (eE q hn)];exact q
 yT:=λb ps q=>⟨#[],by rw[dJ (eE q hn),q];simp⟩
theorem Un.write (mu:R0 (H x))(he:e=x\/H e=some (.own x))(k:∀b u,b≠e->h.get? b=some u->h'.get? b=some u)(Rv:∃u,h'.get? e=some u):Un fs ex H (eM H x o) h h':=by
 have hx:∀b,H b=none->b≠x:=λb n z=>by subst z;rw[n] at mu;exact mu
 have hb:∀b,H b=none->b≠e:=λb n z=>by
  subst z;rcases he with r | r
  .exact hx b n r
  .rw[n] at r;cases r
 have hm:∀b u,H b=some u->¬ R0 (some u)->b≠x:=λb u q nm z=>by subst z;rw[q] at mu;exact nm mu
 refine⟨λb u q n _ _=>k b u (hb b n) q,λb u q n _ _=>⟨u.slots,k b u (hb b n) q⟩,λb u q n _=>by rw[dJ (hx b n)];exact n,λb u q _=>?_,
  λb xs q=>by rw[dJ (hm b _ q λz=>z)];exact q,λb u xs q=>by rw[dJ (hm b _ q λz=>z)];exact q,λb ps q=>⟨#[],by rw[dJ (hm b _ q λz=>z),q];simp⟩⟩
 by_cases OP:b=e
 .subst OP;exact Rv
 .exact⟨u,k b u OP q⟩
end
noncomputable def Vz (h:Heap)(H:Hp):List Addr:=(List.range h.objs.size).filter λa=>(H a).isSome
noncomputable def yU (h:Heap)(H:Hp):Heap:=W.hideAll h (Vz h H)
theorem E1 (h:Heap)(H:Hp):(yU h H).objs.size=h.objs.size:=W.hideAll_size _ _
theorem Hl (e:h.get? b=some o)(n:H b=none):(yU h H).get? b=some o :=
 W.hideAll_get _ e λhm=>by
  have q:(H b).isSome=true:=(aJ.mp hm).2;rw[n] at q;simp at q
theorem Le (e:(yU h H).get? b=some o):h.get? b=some o/\H b=none:=by
 have e':h.get? b=some o:=W.of_hideAll (Vz h H) e;refine⟨e',?_⟩
 cases q:H b with
 | none=>rfl
 | some x =>
  have hm:b∈Vz h H:=aJ.mpr ⟨cM.mpr (aD e'),by simp[q]⟩;have z:(yU h H).get? b=none:=W.hideAll_none (Vz h H) hm;rw[z] at e;cases e
structure Mod (K:W.Frag) (mg:Str->Option af) (base:Heap):Prop where
 R3:K.In base
 glob:base.Ns aY mg
 blt:∃mb,base.Ns builtinsNs mb/\∀x:Str,x ≠ "__name__" -> mb x=bootBuiltins x
 nolimit:base.NoLimit
structure Cx where
 prog:aZ
 w:World
 K:W.Frag
 mg:Str->Option af
 base:Heap
 A:Around
 N:List Str
 s₀:aw
 H₀:Hp
 env:Env
 outer:List Env
 stack:List Env
 ex:List Addr
 fn:Str->Bool
 calm:Bool
 pn:List (Addr × Obj)
 xe:af->aw->Prop
noncomputable def pb (l:List Env):List Addr:=l.filterMap (·.frame)
noncomputable abbrev Cx.fs (X:Cx):List Addr:=pb X.outer
noncomputable def DP (sc:Scope)(x:Str):Prop:=sc.names.lookup x=some .local\/sc.names.lookup x=some .cell\/sc.names.lookup x=some .free
noncomputable def Loc (sc:Scope)(x:Str):Prop:=sc.names.lookup x=some .local\/sc.names.lookup x=some .cell
noncomputable def Look (env:Env)(h:Heap)(m:Str->Option af)(x:Str)(u:af):Prop :=
 (env.kindOf x=some .local/\m x=some u)\/((env.kindOf x=some .cell\/env.kindOf x=some .free)/\∃c,env.cells.lookup x=some c/\h.IsCell c (some u))
structure Cx.Ok (X:Cx):Prop where
 mod:Mod X.K X.mg X.base
 kind:X.env.scope.kind=.function
 glob:X.env.globals=aY
 blt:X.env.builtins=builtinsNs
 above:X.s₀.heap.objs.size<=X.env.locals
 inj:∀x y c,X.env.cells.lookup x=some c->X.env.cells.lookup y=some c->x=y
 has:∀x,(X.env.kindOf x=some .cell\/X.env.kindOf x=some .free)->∃c,X.env.cells.lookup x=some c
 Rw:∀x c,X.fn x=true->X.env.cells.lookup x=some c->X.s₀.heap.objs.size<=c
 hd:X.calm=true->X.A.handled=none
 frames:X.A.frames=some X.stack
 R4:X.stack=X.outer\/(X.stack=X.env::X.outer/\X.env.frame=some X.env.locals)
 Wc:∀b∈X.ex,b≠X.env.locals/\∀x c,X.env.cells.lookup x=some c->c≠b
 bs:∀b o,X.base.get? b=some o->X.s₀.heap.get? b=some o/\X.H₀ b=none
 Lf:X.base.objs.size<=X.s₀.heap.objs.size
 E2:∀b o,X.base.get? b=some o->b ∉ X.ex
 Hm:∀b∈X.ex,b ∉ X.fs
 rE:X.s₀.heap.FunFrames X.base X.outer
 Nq:∀b∈X.fs,X.H₀ b=none
structure Inv (X:Cx) (pins:List (Addr × Obj)) (σ:List (Option V)) (H:Hp) (s:aw):Prop where
 ok:X.Ok
 os:s.os=X.s₀.os
 bare:AllBare s.gens
 base:Un X.fs X.ex X.H₀ H X.s₀.heap s.heap
 loc:∃m,s.heap.Ns X.env.locals m/\∀(i:Nat) (x:Str) (v:V),X.N[i]? = some x->σ[i]? = some (some v)->DP X.env.scope x->∃u,RelV v u/\Look X.env s.heap m x u
 cell:∀x c,X.env.cells.lookup x=some c->∃v,s.heap.IsCell c v
 free:H X.env.locals=none
 freeC:∀x c,X.env.cells.lookup x=some c->H c=none
 pin:∀p∈X.pn++pins,s.heap.get? p.1=some p.2/\H p.1=none/\p.1≠X.env.locals/\p.1 ∉ X.fs/\∀v,p.2.data≠.cell v
 hok:lX X.prog X.w H s.heap
 len:σ.length=X.N.length
section
variable {X:Cx}{pins:List (Addr × Obj)}{σ:List (Option V)}{H H':Hp}{s:aw}{h':Heap}
theorem Cx.Ok.Wd (ok:X.Ok){b:Addr}{o:Obj}(e:X.base.get? b=some o):b ∉ X.fs:=λhb=>by
 have:=(ok.rE.mem hb).1;rw[e] at this;cases this
theorem Inv.bs (I:Inv X pins σ H s):∀b o,X.base.get? b=some o->s.heap.get? b=some o/\H b=none:=λb o e =>
 ⟨I.base.keep b o (I.ok.bs b o e).1 (I.ok.bs b o e).2 (I.ok.Wd e) (I.ok.E2 b o e),I.base.free b o (I.ok.bs b o e).1 (I.ok.bs b o e).2 (I.ok.E2 b o e)⟩
theorem Inv.bk (I:Inv X pins σ H s):∀b o,X.base.get? b=some o->s.heap.get? b=some o:=λb o e=>(I.bs b o e).1
theorem Inv.mod (I:Inv X pins σ H s):Mod X.K X.mg X.base:=I.ok.mod
theorem Inv.rF (I:Inv X pins σ H s):X.K.In s.heap:=I.ok.mod.R3.keeps I.bk
theorem Inv.lt (I:Inv X pins σ H s):X.env.locals<s.heap.objs.size:=let ⟨_,hn,_⟩:=I.loc;hn.lt
theorem Inv.sz (I:Inv X pins σ H s):X.s₀.heap.objs.size<=s.heap.objs.size:=aL I.ok.above (dc I.lt)
theorem Inv.R5 (I:Inv X pins σ H s)(h:s.heap.objs.size<=a):a ∉ X.fs:=λhb=>by
 obtain⟨_,o,ho,_⟩:=I.ok.rE.mem hb;exact absurd (aS (aD ho) (aL I.sz h)) (bo _)
theorem Inv.OQ (I:Inv X pins σ H s):∀x c,X.env.cells.lookup x=some c->c≠X.env.locals:=λx c e z=>by
 obtain⟨v,o,ho,hd⟩:=I.cell x c e;obtain⟨m,⟨o',es,ep,B0,yV,_⟩,_⟩:=I.loc;rw[z,B0] at ho;cases ho;rw[yV] at hd;cases hd
theorem Inv.rE (I:Inv X pins σ H s):s.heap.FunFrames X.base X.outer:=by
 have all:∀(l:List Env),(∀b∈pb l,b∈X.fs)->X.s₀.heap.FunFrames X.base l->s.heap.FunFrames X.base l:=by
  intro l
  induction l with
  | nil=>intro _ _;trivial
  | cons env r ih =>
   intro hs hl;obtain⟨hk,⟨L,o,hf,hn,ho,hd⟩,hr⟩:=hl;have hL:L∈X.fs:=hs L (by unfold pb;rw[bL,hf];exact aq);obtain⟨sl,e⟩:=I.base.slot L o ho (I.ok.Nq L hL) hL λz=>I.ok.Hm L z hL;exact⟨hk,⟨L,_,hf,hn,e,hd⟩,ih (λb hb=>hs b (by unfold pb;rw[bL,hf];exact ao _ hb)) hr⟩
 exact all X.outer (λ_ hb=>hb) I.ok.rE
theorem Inv.stack (I:Inv X pins σ H s):s.heap.FunFrames X.base X.stack:=by
 rcases I.ok.R4 with e | ⟨e,hf⟩
 .rw[e];exact I.rE
 .rw[e]
  obtain⟨m,hn,_⟩:=I.loc;refine .cons (by rw[I.ok.kind];decide) hf hn ?_ I.rE;exact Heap.get?_none_of_le (aL I.ok.Lf I.ok.above)
theorem Inv.uJ (I:Inv X pins σ H s):∀b∈pb X.stack,b∈X.env.locals::X.fs:=λb hb=>by
 rcases I.ok.R4 with e | ⟨e,hf⟩
 .rw[e] at hb;exact ao _ hb
 .rw[e] at hb
  unfold pb at hb;rw[bL,hf] at hb;exact hb
theorem Inv.tS (I:Inv X pins σ H s):∀b∈pb X.stack,H b=none:=λb hb=>by
 rcases al.mp (I.uJ b hb) with e | hb
 .rw[e];exact I.free
 .obtain⟨_,o,ho,_⟩:=I.ok.rE.mem hb
  exact I.base.free b o ho (I.ok.Nq b hb) λz=>I.ok.Hm b z hb
theorem Inv.step {g':Array GenState}{t':Nat}{d':Drawn}{ch:List Addr}(I:Inv X pins σ H s)
  (KQ:∀b∈ch,(b∈X.ex\/X.s₀.heap.objs.size<=b)/\b≠X.env.locals/\(∀x c,X.env.cells.lookup x=some c->c≠b)/\∀p∈X.pn++pins,p.1≠b)
  (keep:∀b o,b≠X.env.locals->b ∉ X.fs->b ∉ ch->s.heap.get? b=some o->H b=none->h'.get? b=some o)
  (slot:∀b o,b≠X.env.locals->b∈X.fs->b ∉ ch->s.heap.get? b=some o->H b=none->∃sl,h'.get? b=some { o with slots:=sl }) (free:∀b o,b ∉ ch->s.heap.get? b=some o->H b=none->H' b=none)
  (there:∀b o,b ∉ ch->s.heap.get? b=some o->∃o',h'.get? b=some o')
  (yS:∀b xs,H b=some (.tup xs)->H' b=some (.tup xs)) (wR:∀b o u,H b=some (.uH o u)->H' b=some (.uH o u)) (yT:∀b ps,H b=some (.ON ps)->∃more,H' b=some (.ON (ps++more)))
  (ns:∀m,s.heap.Ns X.env.locals m->h'.Ns X.env.locals m) (hok:lX X.prog X.w H' h') (hg:AllBare g') :
  Inv X pins σ H' { s with heap:=h',gens:=g',drawn:=d',toks:=t' }:=by
 have YY:∀b o,X.s₀.heap.get? b=some o->b≠X.env.locals:=λb o e=>aV (aS (aD e) I.ok.above)
 have VA:∀b o,X.s₀.heap.get? b=some o->b ∉ X.ex->b ∉ ch:=λb o e hx hb=>by
  rcases (KQ b hb).1 with z | z
  .exact hx z
  .exact absurd (aS (aD e) z) (bo _)
 have Nr:∀x c,X.env.cells.lookup x=some c->∀v,s.heap.IsCell c v->h'.IsCell c v:=λx c e v ⟨o,ho,hd⟩=>by
  have R6:c ∉ ch:=λz=>(KQ c z).2.2.1 x c e rfl;by_cases hc:c∈X.fs
  .obtain⟨sl,q⟩:=slot c o (I.OQ x c e) hc R6 ho (I.freeC x c e)
   exact⟨_,q,hd⟩
  .exact⟨o,keep c o (I.OQ x c e) hc R6 ho (I.freeC x c e),hd⟩
 refine⟨I.ok,I.os,hg,⟨λb o e n hb hx=>?_,λb o e n hb hx=>?_,λb o e n hx=>?_,λb o e hx=>?_,λb xs e=>yS b xs (I.base.yS b xs e),λb o xs e=>wR b o xs (I.base.wR b o xs e),λb ps e=>?_⟩,?_,λx c e=>?_,?_,λx c e=>?_,λp hp=>?_,hok,I.len⟩
 .exact keep b o (YY b o e) hb (VA b o e hx) (I.base.keep b o e n hb hx) (I.base.free b o e n hx)
 .obtain⟨sl,e1⟩:=I.base.slot b o e n hb hx
  obtain⟨We,e2⟩:=slot b _ (YY b o e) hb (VA b o e hx) e1 (I.base.free b o e n hx);exact⟨We,e2⟩
 .obtain⟨o',e1⟩:=I.base.there b o e hx
  exact free b o' (VA b o e hx) e1 (I.base.free b o e n hx)
 .obtain⟨o',e1⟩:=I.base.there b o e hx
  exact there b o' (VA b o e hx) e1
 .obtain⟨m1,e1⟩:=I.base.yT b ps e
  obtain⟨m2,e2⟩:=yT b _ e1;exact⟨m1++m2,by rw[e2,Array.append_assoc]⟩
 .obtain⟨m,hn,hl⟩:=I.loc
  refine⟨m,ns m hn,λi x v e1 e2 e3=>?_⟩;obtain⟨u,r,l⟩:=hl i x v e1 e2 e3;refine⟨u,r,?_⟩;rcases l with l | ⟨k,c,e,z⟩
  .exact .inl l
  .exact .inr ⟨k,c,e,Nr x c e _ z⟩
 .obtain⟨v,z⟩:=I.cell x c e
  exact⟨v,Nr x c e v z⟩
 .obtain⟨m,⟨o,_,_,ho,_⟩,_⟩:=I.loc
  exact free _ o (λz=>(KQ _ z).2.1 rfl) ho I.free
 .obtain⟨v,o,ho,hd⟩:=I.cell x c e
  exact free c o (λz=>(KQ c z).2.2.1 x c e rfl) ho (I.freeC x c e)
 .obtain⟨e,n,ne,nf,d⟩:=I.pin p hp
  have R6:p.1 ∉ ch:=λz=>(KQ p.1 z).2.2.2 p hp rfl;exact⟨keep p.1 p.2 ne nf R6 e n,free p.1 p.2 R6 e n,ne,nf,d⟩
theorem Inv.un {t':Nat}(I:Inv X pins σ H s)(u:Un X.fs [] H H' s.heap h')(hok:lX X.prog X.w H' h'):Inv X pins σ H' { s with heap:=h',toks:=t' }:=by
 obtain⟨m,⟨o,es,ep,ho,r⟩,_⟩:=id I.loc;obtain⟨sl,hL⟩:=u.any ho I.free (!4)
 exact I.step (g':=s.gens) (d':=s.drawn) (ch:=[]) (λ_ z=>nomatch z) (λb o _ hb _ e n=>u.keep b o e n hb (!4)) (λb o _ hb _ e n=>u.slot b o e n hb (!4)) (λb o _ e n=>u.free b o e n (!4)) (λb o _ e=>u.there b o e (!4)) u.yS u.wR u.yT (λm' hm=>by
  obtain⟨o',kF,VB,B0,r'⟩:=hm;rw[ho] at B0;cases B0;exact⟨_,kF,VB,hL,r'⟩) hok I.bare
theorem Inv.call {g':Array GenState}{t':Nat}{d':Drawn}{ch:List Addr}(I:Inv X pins σ H s)(u:Un (pb X.stack) ch H H' s.heap h')(hok:lX X.prog X.w H' h')(hg:AllBare g')
  (KQ:∀b∈ch,(b∈X.ex\/X.s₀.heap.objs.size<=b)/\b≠X.env.locals/\(∀x c,X.env.cells.lookup x=some c->c≠b)/\∀p∈X.pn++pins,p.1≠b) :
  Inv X pins σ H' { s with heap:=h',gens:=g',drawn:=d',toks:=t' }:=by
 obtain⟨m,⟨o,es,ep,ho,r⟩,_⟩:=id I.loc;obtain⟨sl,hL⟩:=u.any ho I.free λz=>(KQ _ z).2.1 rfl
 exact I.step (ch:=ch) KQ (λb o hL hb hc e n=>u.keep b o e n (λz=>(al.mp (I.uJ b z)).elim hL hb) hc) (λb o _ _ hc e n=>u.any e n hc) (λb o hc e n=>u.free b o e n hc) (λb o hc e=>u.there b o e hc) u.yS u.wR u.yT (λm' hm=>by
  obtain⟨o',kF,VB,B0,r'⟩:=hm;rw[ho] at B0;cases B0;exact⟨_,kF,VB,hL,r'⟩) hok hg
theorem Inv.turned {t':Nat}{it:Addr}(I:Inv X pins σ H s)(k:∀b o,b≠it->s.heap.get? b=some o->h'.get? b=some o)(hn:H it=none)(hL:it≠X.env.locals)
  (h1:it∈X.ex\/X.s₀.heap.objs.size<=it) (h2:∀x c,X.env.cells.lookup x=some c->c≠it) (h3:∀p∈X.pn++pins,p.1≠it):Inv X pins σ H { s with heap:=h',toks:=t' }:=by
 have Nt:∀b u,H b=some u->b≠it:=λb u e z=>by rw[z,hn] at e;cases e
 refine I.step (g':=s.gens) (d':=s.drawn) (ch:=[it]) (λb hb=>?_) (λb o _ _ hc e _=>k b o (λz=>hc (by simp[z])) e) (λb o _ _ hc e _=>⟨o.slots,k b o (λz=>hc (by simp[z])) e⟩) (λ_ _ _ _ n=>n)
  (λb o hc e=>⟨o,k b o (λz=>hc (by simp[z])) e⟩) (λ_ _ e=>e) (λ_ _ _ e=>e) (λb ps e=>⟨#[],by rw[e];simp⟩) (λm hm=>?_) (λb u e=>?_) I.bare
 .have e:b=it:=by simpa using hb
  subst e;exact⟨h1,hL,h2,h3⟩
 .obtain⟨o,es,ep,ho,r⟩:=hm
  exact⟨o,es,ep,k _ o (Ne.symm hL) ho,r⟩
 .refine (I.hok b u e).B7 (λc v hc q=>k c v ?_ q) (λ_ q=>q) λ_ _ q=>q
  rcases hc with z | z
  .rw[z];exact Nt b u e
  .exact Nt c _ z
theorem Inv.tok (I:Inv X pins σ H s)(t:Nat):Inv X pins σ H { s with toks:=t }:=I.un (h':=s.heap) (t':=t) Un.refl I.hok
theorem Inv.kept {t':Nat}(I:Inv X pins σ H s)(k:∀b u,s.heap.get? b=some u->h'.get? b=some u):Inv X pins σ H { s with heap:=h',toks:=t' }:=I.un (Un.kept k) (I.hok.kept k)
theorem Inv.laid {a:Addr}{o:HO}{t':Nat}(I:Inv X pins σ H s)(k:∀b u,s.heap.get? b=some u->h'.get? b=some u)(hp:s.heap.objs.size<=a)(new:fM X.prog X.w (eM H a o) h' a o) :
  Inv X pins σ (eM H a o) { s with heap:=h',toks:=t' }:=I.un (Un.laid k hp (I.hok.fresh hp)) (I.hok.laid k hp new)
theorem Inv.write {x e:Addr}{o:HO}{t':Nat}(I:Inv X pins σ H s)(mu:R0 (H x))(he:e=x\/H e=some (.own x))(k:∀b u,b≠e->s.heap.get? b=some u->h'.get? b=some u)(Rv:∃u,h'.get? e=some u)
  (new:fM X.prog X.w (eM H x o) h' x o):Inv X pins σ (eM H x o) { s with heap:=h',toks:=t' }:=I.un (Un.write mu he k Rv) (I.hok.write mu he k Rv new)
theorem Inv.tU (I:Inv X pins σ H s)(h:∀p∈R7,s.heap.get? p.1=some p.2/\H p.1=none/\p.1≠X.env.locals/\p.1 ∉ X.fs/\∀v,p.2.data≠.cell v):Inv X R7 σ H s :=
 ⟨I.ok,I.os,I.bare,I.base,I.loc,I.cell,I.free,I.freeC,λp hp=>(aH.mp hp).elim (λz=>I.pin p (bP _ z)) (h p),I.hok,I.len⟩
theorem z8 {N:List Str}(hN:N.Nodup){i j:Nat}{x:Str}(a:N[i]? = some x)(b:N[j]? = some x):i=j:=by
 obtain⟨h1,e1⟩:=aN.mp a;obtain⟨h2,e2⟩:=aN.mp b;exact (List.getElem_inj hN).mp (e1.trans e2.symm)
theorem xt {M:Model}{A:Around}{E:af->aw->Prop}{i:Nat}{x:Str}{v:V}{u:af}{Q:Unit->aw->Prop}(I:Inv X pins σ H s)(hN:X.N.Nodup)(hi:X.N[i]? = some x)(hx:Loc X.env.scope x)(r:RelV v u)
  (h:∀s',Inv X pins (σ.set i (some v)) H s'->(∃a,Heap.SameBut a s.heap s'.heap/\(a=X.env.locals\/X.env.cells.lookup x=some a))->Q () s') (hf:X.fn x=true\/X.env.scope.names.lookup x=some .local:=by (first | exact .inl rfl | exact .inr rfl | assumption)):aA M A (storeName X.env x u) Q E s:=by
 obtain⟨m,hn,hl⟩:=id I.loc;have Wf:(X.env.scope.kind == .class || (X.env.scope.kind == .module && X.env.locals != X.env.globals))=false:=by rw[I.ok.kind];rfl
 have R8:i<σ.length:=by rw[I.len];exact (aN.mp hi).1
 have OQ:=I.OQ
 have DQ:∀{a:Addr} {h':Heap},(∃o,s.heap.get? a=some o/\H a=none)->Heap.SameBut a s.heap h'->lX X.prog X.w H h':=λ{a h'} ha hs b ob e=>by
  obtain⟨_,_,DR⟩:=ha;refine (I.hok b ob e).B7 (λc w' hc q=>(hs.2 c ?_).trans q) (λ_ q=>q) λ_ _ q=>q;rintro rfl;rcases hc with rfl | hc
  .rw[DR] at e;cases e
  .rw[DR] at hc;cases hc
 rcases hx with hk | hk
 .refine wpAny_storeName_local hk hn (λh' E3 hs=>?_) Wf
  obtain⟨oL,_,_,R9,_⟩:=id hn;refine h _ ⟨I.ok,I.os,I.bare,⟨λb o e n hb hx=>?_,λb o e n hb hx=>?_,I.base.free,λb o e hx=>?_,I.base.yS,I.base.wR,I.base.yT⟩,⟨_,E3,λj y v' e1 e2 e3=>?_⟩,λy c e=>?_,I.free,I.freeC,λp hp=>?_,DQ ⟨oL,R9,I.free⟩ hs,by simpa using I.len⟩ ⟨_,hs,.inl rfl⟩
  .exact (hs.2 b (aV (aS (aD e) I.ok.above))).trans (I.base.keep b o e n hb hx)
  .obtain⟨sl,e1⟩:=I.base.slot b o e n hb hx
   exact⟨sl,(hs.2 b (aV (aS (aD e) I.ok.above))).trans e1⟩
  .obtain⟨o',e1⟩:=I.base.there b o e hx
   exact⟨o',(hs.2 b (aV (aS (aD e) I.ok.above))).trans e1⟩
  .by_cases hj:j=i
   .subst hj
    rw[hi] at e1;cases e1;rw[cN R8] at e2;cases e2;exact⟨u,r,.inl ⟨hk,!4⟩⟩
   .rw[be (Ne.symm hj)] at e2
    obtain⟨u',r',q⟩:=hl j y v' e1 e2 e3;refine⟨u',r',?_⟩;rcases q with⟨k,e⟩ | ⟨k,c,e,z⟩
    .refine .inl ⟨k,?_⟩
     have:y≠x:=λe=>hj (z8 hN e1 (e ▸ hi));simp[this,e]
    .exact .inr ⟨k,c,e,z.sameBut hs (OQ y c e)⟩
  .obtain⟨w',z⟩:=I.cell y c e
   exact⟨w',z.sameBut hs (OQ y c e)⟩
  .obtain⟨e,n,ne,nf,d⟩:=I.pin p hp
   exact⟨(hs.2 p.1 ne).trans e,n,ne,nf,d⟩
 .have Wg:X.fn x=true:=by
   rcases hf with z | z
   .exact z
   .rw[z] at hk;cases hk
  obtain⟨c,hc⟩:=I.ok.has x (.inl hk);obtain⟨w',z⟩:=I.cell x c hc;refine wpAny_storeName_cell I.ok.kind hk hc z (λh' E4 hs=>?_);obtain⟨oc,YZ,Wh⟩:=id z;refine h { s with heap:=h' } ⟨I.ok,I.os,I.bare,⟨λb o e n hb hx=>?_,λb o e n hb hx=>?_,I.base.free,λb o e hx=>?_,I.base.yS,I.base.wR,I.base.yT⟩,⟨m,hn.sameBut hs (Ne.symm (OQ x c hc)),λj y v' e1 e2 e3=>?_⟩,λy c' e=>?_,I.free,I.freeC,λp hp=>?_,DQ ⟨oc,YZ,I.freeC x c hc⟩ hs,by simpa using I.len⟩ ⟨c,hs,.inr hc⟩
  .exact (hs.2 b (aV (aS (aD e) (I.ok.Rw x c Wg hc)))).trans (I.base.keep b o e n hb hx)
  .obtain⟨sl,e1⟩:=I.base.slot b o e n hb hx
   exact⟨sl,(hs.2 b (aV (aS (aD e) (I.ok.Rw x c Wg hc)))).trans e1⟩
  .obtain⟨o',e1⟩:=I.base.there b o e hx
   exact⟨o',(hs.2 b (aV (aS (aD e) (I.ok.Rw x c Wg hc)))).trans e1⟩
  .by_cases hj:j=i
   .subst hj
    rw[hi] at e1;cases e1;rw[cN R8] at e2;cases e2;exact⟨u,r,.inr ⟨.inl hk,c,hc,E4⟩⟩
   .rw[be (Ne.symm hj)] at e2
    obtain⟨u',r',q⟩:=hl j y v' e1 e2 e3;refine⟨u',r',?_⟩;rcases q with q | ⟨k,c',e,z'⟩
    .exact .inl q
    .refine .inr ⟨k,c',e,z'.sameBut hs ?_⟩
     rintro rfl;exact hj (z8 hN e1 (I.ok.inj _ _ _ e hc ▸ hi))
  .by_cases R':c'=c
   .subst R';exact⟨_,E4⟩
   .obtain⟨w2,z2⟩:=I.cell y c' e
    exact⟨w2,z2.sameBut hs R'⟩
  .obtain⟨e,n,ne,nf,d⟩:=I.pin p hp
   refine⟨(hs.2 p.1 ?_).trans e,n,ne,nf,d⟩;intro q;rw[q,YZ] at e;have q':oc=p.2:=Option.some.inj e;exact d w' (by rw[<- q'];exact Wh)
theorem uK (I:Inv X pins σ H s)(hN:X.N.Nodup)(hi:X.N[i]? = some x)(hx:Loc X.env.scope x)(r:RelV v u)
  (h:∀s',Inv X pins (σ.set i (some v)) H s'->Q () s') (hf:X.fn x=true\/X.env.scope.names.lookup x=some .local:=by (first | exact .inl rfl | exact .inr rfl | assumption)):aA M A (storeName X.env x u) Q E s :=
 xt I hN hi hx r (λs' I' _=>h s' I') hf
theorem Inv.Nu {s':aw}{ch:List Addr}(I:Inv X pins σ H s)(ho:s'.os=s.os)(u:Un (pb X.stack) ch H H' s.heap s'.heap)(hok:lX X.prog X.w H' s'.heap)(hg:AllBare s'.gens)
  (KQ:∀b∈ch,(b∈X.ex\/X.s₀.heap.objs.size<=b)/\b≠X.env.locals/\(∀x c,X.env.cells.lookup x=some c->c≠b)/\∀p∈X.pn++pins,p.1≠b):Inv X pins σ H' s':=by
 obtain⟨h',g',d',t',o'⟩:=s';have e:o'=s.os:=ho;subst e;exact I.call (g':=g') (t':=t') (d':=d') u hok hg KQ
end
noncomputable abbrev XK:=af->Option Addr->Hp->Prop
noncomputable abbrev St:=List (Option V)
noncomputable abbrev VK:=V->Hp->Prop
noncomputable abbrev TE:=St->Hp->VK->Prop
noncomputable abbrev TT:=St->Hp->(Bool->Hp->Prop)->Prop
noncomputable abbrev TA:=St->Hp->(List V->Hp->Prop)->Prop
structure Ends where
 nx:St->Hp->Prop
 rt:VK
 bk:St->Hp->Prop:=λ_ _=>False
 ct:St->Hp->Prop:=λ_ _=>False
noncomputable abbrev TS:=Ends->St->Hp->Prop
noncomputable def EP (X:Cx)(pins:List (Addr × Obj))(σ:St)(Q:VK)(u:af)(s':aw):Prop:=∃v H',Inv X pins σ H' s'/\RelV v u/\Q v H'
noncomputable def TP (X:Cx)(pins:List (Addr × Obj))(σ:St)(Q:Bool->Hp->Prop)(b:Bool)(s':aw):Prop:=∃H',Inv X pins σ H' s'/\Q b H'
noncomputable def AP (X:Cx)(pins:List (Addr × Obj))(σ:St)(Q:List V->Hp->Prop)(us:List af)(s':aw):Prop:=∃vs H',Inv X pins σ H' s'/\eA vs us/\Q vs H'
noncomputable def SP (X:Cx)(pins:List (Addr × Obj))(D:Ends)(f:Flow)(s':aw):Prop :=
 match f with
 | .next=>∃σ' H',Inv X pins σ' H' s'/\D.nx σ' H'
 | .brk=>∃σ' H',Inv X pins σ' H' s'/\D.bk σ' H'
 | .cont=>∃σ' H',Inv X pins σ' H' s'/\D.ct σ' H'
 | .ret u=>∃v σ' H',Inv X pins σ' H' s'/\RelV v u/\D.rt v H'
noncomputable def PE (X:Cx)(e:Expr)(t:TE):Prop :=
 ∀(pins:List (Addr × Obj)) (s:aw) (σ:St) (H:Hp) (Q:VK),Inv X pins σ H s->t σ H Q->aA (model X.prog X.w) X.A (eval e X.env) (EP X pins σ Q) X.xe s
noncomputable def PT (X:Cx)(e:Expr)(t:TT):Prop :=
 ∀(pins:List (Addr × Obj)) (s:aw) (σ:St) (H:Hp) (Q:Bool->Hp->Prop),Inv X pins σ H s->t σ H Q->aA (model X.prog X.w) X.A (isTrue e X.env (eval e X.env)) (TP X pins σ Q) X.xe s
noncomputable def PW (X:Cx)(e:Expr)(t:TT):Prop :=
 ∀(o4:Sem af) (pins:List (Addr × Obj)) (s:aw) (σ:St) (H:Hp) (Q:Bool->Hp->Prop),Inv X pins σ H s->t σ H Q->aA (model X.prog X.w) X.A (isTrue e X.env o4) (TP X pins σ Q) X.xe s
theorem PW.pt (h:PW X e t):PT X e t:=h _
noncomputable def PA (X:Cx)(es:List Expr)(t:TA):Prop :=
 ∀(pos:Pos) (pins:List (Addr × Obj)) (s:aw) (σ:St) (H:Hp) (Q:List V->Hp->Prop),Inv X pins σ H s->t σ H Q->aA (model X.prog X.w) X.A (spliced (backTo pos (starEach es X.env))) (AP X pins σ Q) X.xe s
noncomputable def PS (X:Cx)(st:Stmt)(t:TS):Prop :=
 ∀(pins:List (Addr × Obj)) (s:aw) (σ:St) (H:Hp) (D:Ends),Inv X pins σ H s->t D σ H->aA (model X.prog X.w) X.A (exec st X.env) (SP X pins D) X.xe s
noncomputable def B1 (X:Cx)(st:List Stmt)(t:TS):Prop :=
 ∀(pins:List (Addr × Obj)) (s:aw) (σ:St) (H:Hp) (D:Ends),Inv X pins σ H s->t D σ H->aA (model X.prog X.w) X.A (execs st X.env) (SP X pins D) X.xe s
theorem f6 {α:Type}{t:Sem α}{Q Q':α->aw->Prop}{M:Model}{A:Around}{E:af->aw->Prop}{s:aw}(h:aA M A t Q E s)(hQ:∀a s,Q a s->Q' a s):aA M A t Q' E s:=bF h hQ λ_ _ x=>x
section
variable {X:Cx}
noncomputable def OR (i:Nat):TE:=λσ H Q=>∃v,σ[i]? = some (some v)/\Q v H
noncomputable def tC (v:V):TE:=λ_ H Q=>Q v H
theorem OS (hN:X.N[i]? = some x)(hv:DP X.env.scope x)(hd:(x == ("__debug__" : Str))=false:=by decide)(kG:(x == ("__classdict__" : Str))=false:=by decide):PE X (.Name x pos) (OR i):=by
 intro pins s σ H Q I h;obtain⟨v,e,h⟩:=h;obtain⟨m,hn,hl⟩:=I.loc;obtain⟨u,r,l⟩:=hl i x v hN e hv;have ib:EP X pins σ Q u s:=⟨v,H,I,r,h⟩;rcases l with⟨hk,hm⟩ | ⟨hk,c,hc,Nv⟩
 .exact wpAny_Name (wpAny_loadName_local I.ok.kind hk hn hm ib) hd
 .rcases hk with hk | hk
  .exact wpAny_Name (wpAny_loadName_cell I.ok.kind hk hc Nv ib) hd
  .exact wpAny_Name (wpAny_loadName_free I.ok.kind hk hc Nv ib kG) hd
theorem B8 {i j pos}:PE X (.Constant (.int i) j pos) (tC (.int i)):=λ_ _ _ H _ I h=>wpAny_Constant_int ⟨.int i,H,I.tok _,⟨_,rfl⟩,h⟩
theorem Sa {b j pos}:PE X (.Constant (.bool b) j pos) (tC (.bl b)):=λ_ _ _ H _ I h=>Constant_bool ⟨.bl b,H,I,rfl,h⟩
theorem OT {j pos}:PE X (.Constant .none j pos) (tC .iZ):=λ_ _ _ H _ I h=>Constant_none ⟨.iZ,H,I,rfl,h⟩
theorem OU {x j pos}:PE X (.Constant (.str x) j pos) (tC (.str x)):=λ_ _ _ H _ I h=>Calls.Constant_str ⟨.str x,H,I.tok _,⟨_,rfl⟩,h⟩
noncomputable def Gl (X:Cx)(x:Str):Prop:=X.env.kindOf x=some .globalImplicit
theorem tV (I:Inv X pins σ H s)(hg:Gl X x)(hm:X.mg x=some u)(h:Q u s)
  (hd:(x == ("__debug__" : Str))=false:=by decide):aA (model X.prog X.w) X.A (eval (.Name x pos) X.env) Q E s :=
 Calls.Name_function_global I.ok.kind hg (Calls.loadGlobal_global (by rw[I.ok.glob];exact I.mod.glob.keeps I.bk) hm h) hd
theorem uM (I:Inv X pins σ H s)(hg:Gl X x)(hm:X.mg x=none)(hv:bootBuiltins x=some u)(h:Q u s)
  (hn:x ≠ "__name__" := by decide) (hd:(x == ("__debug__" : Str))=false:=by decide):aA (model X.prog X.w) X.A (eval (.Name x pos) X.env) Q E s:=by
 obtain⟨mb,h1,h2⟩:=I.mod.blt;exact Calls.Name_function_global I.ok.kind hg (Calls.loadGlobal_builtin (by rw[I.ok.glob];exact I.mod.glob.keeps I.bk) hm (by rw[I.ok.blt];exact h1.keeps I.bk) ((h2 x hn).trans hv) h) hd
theorem Lg (hg:Gl X x)(hm:X.mg x=none)(hv:bootBuiltins x=some u)(r:RelV v u)(hn:x ≠ "__name__" := by decide)(hd:(x == ("__debug__" : Str))=false:=by decide):PE X (.Name x pos) (tC v) :=
 λ_ _ _ H _ I h=>uM I hg hm hv ⟨v,H,I,r,h⟩ hn hd
variable {a b:Expr}{ta tb:TE}{pos:Pos}
noncomputable def PC (X:Cx)(op:CmpOp)(a b:Expr)(t:TE):Prop :=
 ∀(pins:List (Addr × Obj)) (s:aw) (σ:St) (H:Hp) (Q:VK),Inv X pins σ H s->t σ H Q ->
  aA (model X.prog X.w) X.A (eval a X.env) (λv s₁=>aA (model X.prog X.w) X.A (eval b X.env) (λu s₂=>aA (model X.prog X.w) X.A (compareOp op v u) (EP X pins σ Q) X.xe s₂) X.xe s₁) X.xe s
noncomputable def tB (t:TE):TT:=λσ H Q=>t σ H λx H1=>∃c,x=.bl c/\Q c H1
theorem OV (h:PC X op a b t)(h1:behindInMarks op b=false:=by first | exact Hn _ (!2) (!2) | rfl):PE X (.Compare a [op] [b] pos) t:=λpins s σ H Q I hw=>wpAny_Compare1 (h pins s σ H Q I hw) h1
theorem OW (h:PC X op a b t)(h1:behindInMarks op b=false:=by first | exact Hn _ (!2) (!2) | rfl):PT X (.Compare a [op] [b] pos) (tB t):=by
 intro pins s σ H Q I hw;refine wpAny_isTrue_Compare1 (f6 (h pins s σ H _ I hw) λv s1 h1=>f6 h1 λu s2 h2=>f6 h2 λc s3 ⟨x,H1,I1,r1,q1⟩=>?_) h1;obtain⟨d,rfl,q⟩:=q1;cases r1;exact wpAny_truthy_bool ⟨H1,I1,q⟩
theorem OX {e:Expr}{t:TE}(h:PE X e t)(he:∀o4,isTrue e X.env o4=(do let v <- o4;standAt e.pos;holding [v] (truthy v)):=by rw[3]):PT X e (tB t):=by
 intro pins s σ H Q I hw;refine isTrue_plain (f6 (h pins s σ H _ I hw) λv s1 ⟨x,H1,I1,r1,q1⟩=>?_) (he _);obtain⟨d,rfl,q⟩:=q1;cases r1;exact wpAny_truthy_bool ⟨H1,I1,q⟩
variable {tA Lh:TT}{rest:List Expr}
noncomputable def Sb (t u:TT):TT:=λσ H Q=>t σ H λc H1=>if c=true then u σ H1 Q else Q false H1
noncomputable def Y0 (t u:TT):TT:=λσ H Q=>t σ H λc H1=>if c=true then Q true H1 else u σ H1 Q
noncomputable def Sd (t:TT):TT:=λσ H Q=>t σ H λc H1=>Q (!c) H1
theorem pw_and1 (ha:PT X a tA):PW X (.BoolOp .And [a] pos) tA:=by
 intro wh pins s σ H Q I h;refine isTrue_and (f6 (ha pins s σ H Q I h) λc s1 e=>?_)
 cases c with
 | true=>exact isTrue_and_nil e
 | false=>exact e
theorem pw_or1 (ha:PT X a tA):PW X (.BoolOp .Or [a] pos) tA:=by
 intro wh pins s σ H Q I h;refine isTrue_or (f6 (ha pins s σ H Q I h) λc s1 e=>?_)
 cases c with
 | false=>exact isTrue_or_nil e
 | true=>exact e
theorem pw_and (ha:PT X a tA)(hb:PW X (.BoolOp .And (b::rest) pos) Lh):PW X (.BoolOp .And (a::b::rest) pos) (Sb tA Lh):=by
 intro wh pins s σ H Q I h;refine isTrue_and (f6 (ha pins s σ H _ I h) λc s1 ⟨H1,I1,q1⟩=>?_)
 cases c with
 | true=>exact hb wh pins s1 σ H1 Q I1 q1
 | false=>exact⟨H1,I1,q1⟩
theorem pw_or (ha:PT X a tA)(hb:PW X (.BoolOp .Or (b::rest) pos) Lh):PW X (.BoolOp .Or (a::b::rest) pos) (Y0 tA Lh):=by
 intro wh pins s σ H Q I h;refine isTrue_or (f6 (ha pins s σ H _ I h) λc s1 ⟨H1,I1,q1⟩=>?_)
 cases c with
 | true=>exact⟨H1,I1,q1⟩
 | false=>exact hb wh pins s1 σ H1 Q I1 q1
theorem OY (ha:PT X a tA):PT X (.UnaryOp .Not a pos) (Sd tA):=by
 intro pins s σ H Q I h;exact isTrue_not (ha pins s σ H (λc H1=>Q (!c) H1) I h)
noncomputable def Nw (ta tb:TE):TE:=λσ H Q=>ta σ H λx H1=>∃c,x=.bl c/\if c=true then tb σ H1 Q else Q (.bl false) H1
noncomputable def Se (ta tb:TE):TE:=λσ H Q=>ta σ H λx H1=>∃c,x=.bl c/\if c=true then Q (.bl true) H1 else tb σ H1 Q
noncomputable def Nx (ta:TE):TE:=λσ H Q=>ta σ H λx H1=>∃c,x=.bl c/\Q (.bl (!c)) H1
theorem OZ {op}(h:PE X a t):PE X (.BoolOp op [a] pos) t:=λpins s σ H Q I hw=>BoolOp_one (h pins s σ H Q I hw)
theorem O0 (ha:PE X a ta)(hb:PE X (.BoolOp .And (b::rest) pos) tb):PE X (.BoolOp .And (a::b::rest) pos) (Nw ta tb):=by
 intro pins s σ H Q I h;refine BoolOp_and (f6 (ha pins s σ H _ I h) λv s1 ⟨x,H1,I1,r1,q1⟩=>?_);obtain⟨c,rfl,q1⟩:=q1;cases r1;refine wpAny_truthy_bool ?_
 cases c with
 | true=>exact hb pins s1 σ H1 Q I1 q1
 | false=>exact⟨.bl false,H1,I1,rfl,q1⟩
theorem Sf (ha:PE X a ta)(hb:PE X (.BoolOp .Or (b::rest) pos) tb):PE X (.BoolOp .Or (a::b::rest) pos) (Se ta tb):=by
 intro pins s σ H Q I h;refine BoolOp_or (f6 (ha pins s σ H _ I h) λv s1 ⟨x,H1,I1,r1,q1⟩=>?_);obtain⟨c,rfl,q1⟩:=q1;cases r1;refine wpAny_truthy_bool ?_
 cases c with
 | false=>exact hb pins s1 σ H1 Q I1 q1
 | true=>exact⟨.bl true,H1,I1,rfl,q1⟩
theorem O1 (ha:PE X a ta):PE X (.UnaryOp .Not a pos) (Nx ta):=by
 intro pins s σ H Q I h;refine UnaryOp_ (f6 (ha pins s σ H _ I h) λv s1 ⟨x,H1,I1,r1,q1⟩=>?_);obtain⟨c,rfl,q1⟩:=q1;cases r1;exact not_of (wpAny_truthy_bool ⟨.bl (!c),H1,I1,rfl,q1⟩)
noncomputable def Y1 (t:TT)(ta tb:TE):TE:=λσ H Q=>t σ H λc H1=>if c=true then ta σ H1 Q else tb σ H1 Q
theorem Ho (hc:PT X c tA)(ha:PE X a ta)(hb:PE X b tb):PE X (.IfExp c a b pos) (Y1 tA ta tb):=by
 intro pins s σ H Q I h;refine wpAny_IfExp (f6 (hc pins s σ H _ I h) λd s1 ⟨H1,I1,q1⟩=>?_)
 cases d with
 | true=>exact ha pins s1 σ H1 Q I1 q1
 | false=>exact hb pins s1 σ H1 Q I1 q1
end
noncomputable def gY (K:W.Frag)(H:Hp)(a:Addr)(xs:List V):Prop :=
 Rd H a (.lst xs) \/
  ∃(o:Obj) (its:Array af) (n:Nat),K.lookup a=some o/\o.cls=.type "list" /\ o.dict=none/\o.data=.seq its n/\its.size<=av/\eA xs its.toList
noncomputable def jl (K:W.Frag)(H:Hp)(a:Addr)(xs:List V):Prop :=
 Rd H a (.tup xs) \/
  ∃(o:Obj) (its:Array af) (n:Nat),K.lookup a=some o/\o.cls=.type "tuple" /\ o.data=.seq its n/\its.size<=av/\eA xs its.toList
noncomputable def Wi:af->Option V
 | .none=>some .iZ
 | .bool b=>some (.bl b)
 | .int i _=>some (.int i)
 | .str x _=>some (.str x)
 | .bytes b _=>some (.Hj b)
 | .float b _=>some (.Ru b)
 | .ref a=>some (.ref a)
 | .type n=>some (.ty n)
 | _=>none
theorem RelV.abs (r:RelV x u):Wi u=some x:=by
 cases x with
 | iZ=>cases r;rfl
 | bl _=>cases r;rfl
 | int _=>obtain⟨t,rfl⟩:=r;rfl
 | str _=>obtain⟨t,rfl⟩:=r;rfl
 | Hj _=>obtain⟨t,rfl⟩:=r;rfl
 | Ru _=>obtain⟨t,rfl⟩:=r;rfl
 | ref _=>cases r;rfl
 | ty _=>cases r;rfl
theorem RelV.inj (r:RelV x u)(q:RelV y u):x=y:=Option.some.inj (r.abs.symm.trans q.abs)
theorem eA.inj:∀{xs ys:List V} {us:List af},eA xs us->eA ys us->xs=ys
 | _,_,_,.nil,.nil=>rfl
 | _,_,_,.cons r t,.cons r' t'=>by rw[r.inj r',eA.inj t t']
section
theorem gY.of {K:W.Frag}(h:H a=some (.lst xs)):gY K H a xs:=.inl (.inl h)
theorem jl.of {K:W.Frag}(h:H a=some (.tup xs)):jl K H a xs:=.inl (.inl h)
theorem Inv.list (I:Inv X pins σ H s)(h:gY X.K H a xs):∃its:List af,eA xs its/\PlainL s.heap a its.toArray/\xs.length<=av:=by
 rcases h with h | ⟨o,its,n,hk,hc,hd,hs,hz,r⟩
 .obtain⟨z,its,n,r,e⟩:=h.ok I.hok
  exact⟨its,r,⟨_,n,e,rfl,rfl,rfl⟩,z⟩
 .refine⟨its.toList,r,⟨o,n,I.rF a o hk,hc,hd,by simpa using hs⟩,?_⟩
  have e:=r.length;simp only[bp] at e;omega
theorem Inv.tuple (I:Inv X pins σ H s)(h:jl X.K H a xs):∃its:List af,eA xs its/\IsTup s.heap a its.toArray/\xs.length<=av:=by
 rcases h with h | ⟨o,its,n,hk,hc,hs,hz,r⟩
 .obtain⟨z,its,r,p⟩:=h.ok I.hok
  exact⟨its,r,p.tup,z⟩
 .refine⟨its.toList,r,⟨o,I.rF a o hk,hc,n,by simpa using hs⟩,?_⟩
  have e:=r.length;simp only[bp] at e;omega
theorem Inv.z9 (I:Inv X pins σ H s)(h:gY X.K H a xs)(h':gY X.K H a ys):xs=ys:=by
 obtain⟨its,r,⟨o,n,e,_,_,d⟩,_⟩:=I.list h;obtain⟨its',r',⟨o',n',e',_,_,d'⟩,_⟩:=I.list h';rw[e] at e';cases e';rw[d] at d';injection d' with d1 _;have:its=its':=by simpa using congrArg Array.toList d1
 subst this;exact r.inj r'
theorem Inv.xu (I:Inv X pins σ H s)(h:jl X.K H a xs)(h':jl X.K H a ys):xs=ys:=by
 obtain⟨its,r,⟨o,e,_,n,d⟩,_⟩:=I.tuple h;obtain⟨its',r',⟨o',e',_,n',d'⟩,_⟩:=I.tuple h';rw[e] at e';cases e';rw[d] at d';injection d' with d1 _;have:its=its':=by simpa using congrArg Array.toList d1
 subst this;exact r.inj r'
end
noncomputable abbrev Cx.rG (X:Cx)(E:af->aw->Prop):Cx:={ X with xe:=E }
noncomputable abbrev Cx.G9 (X:Cx):Cx:=X.rG λ_ _=>False
theorem Cx.Ok.rG {X:Cx}(ok:X.Ok)(E:af->aw->Prop):(X.rG E).Ok :=
 ⟨ok.mod,ok.kind,ok.glob,ok.blt,ok.above,ok.inj,ok.has,ok.Rw,ok.hd,ok.frames,ok.R4,ok.Wc,ok.bs,ok.Lf,ok.E2,ok.Hm,ok.rE,ok.Nq⟩
theorem Cx.Ok.lE {X:Cx}{E:af->aw->Prop}(ok:(X.rG E).Ok):X.Ok :=
 ⟨ok.mod,ok.kind,ok.glob,ok.blt,ok.above,ok.inj,ok.has,ok.Rw,ok.hd,ok.frames,ok.R4,ok.Wc,ok.bs,ok.Lf,ok.E2,ok.Hm,ok.rE,ok.Nq⟩
section
variable {X:Cx}{pins:List (Addr × Obj)}{σ:St}{H:Hp}{s:aw}{E:af->aw->Prop}
theorem Inv.rG (I:Inv X pins σ H s)(E:af->aw->Prop):Inv (X.rG E) pins σ H s:=⟨I.ok.rG E,I.os,I.bare,I.base,I.loc,I.cell,I.free,I.freeC,I.pin,I.hok,I.len⟩
theorem Inv.lE (I:Inv (X.rG E) pins σ H s):Inv X pins σ H s:=⟨I.ok.lE,I.os,I.bare,I.base,I.loc,I.cell,I.free,I.freeC,I.pin,I.hok,I.len⟩
theorem SP.lE (h:SP (X.rG E) pins D f s'):SP X pins D f s':=by
 cases f with
 | next=>obtain⟨σ',H',I,q⟩:=h;exact⟨σ',H',I.lE,q⟩
 | brk=>obtain⟨σ',H',I,q⟩:=h;exact⟨σ',H',I.lE,q⟩
 | cont=>obtain⟨σ',H',I,q⟩:=h;exact⟨σ',H',I.lE,q⟩
 | ret u=>obtain⟨v,σ',H',I,r,q⟩:=h;exact⟨v,σ',H',I.lE,r,q⟩
theorem B1.G9 {st:List Stmt}{t:TS}(h:B1 X.G9 st t):B1 X st t:=λpins s σ H D I hw =>
 bF (h pins s σ H D (I.rG _) hw) (λ_ _ q=>q.lE) λ_ _ z=>False.elim z
end
section
variable {X:Cx}{st:Stmt}{rest:List Stmt}{t u:TS}{e:Expr}{te:TE}{pos:Pos}
noncomputable def Ny:TS:=λD σ H=>D.nx σ H
noncomputable def Sg (t u:TS):TS:=λD σ H=>t { D with nx:=u D } σ H
theorem Li:B1 X [] Ny:=λ_ _ σ H _ I h=>wpAny_execs_nil ⟨σ,H,I,h⟩
theorem Hq (h1:PS X st t)(h2:B1 X rest u):B1 X (st::rest) (Sg t u):=by
 intro pins s σ H D I h;refine wpAny_execs_cons (f6 (h1 pins s σ H { D with nx:=u D } I h) λf s1 q=>?_)
 cases f with
 | next =>
  obtain⟨σ',H',I',q⟩:=q;exact h2 pins s1 σ' H' D I' q
 | ret v=>exact q
 | brk=>exact q
 | cont=>exact q
theorem Lj (h1:PS X st t):B1 X [st] t:=by
 intro pins s σ H D I h;refine wpAny_execs_cons (f6 (h1 pins s σ H D I h) λf s1 q=>?_)
 cases f with
 | next=>exact wpAny_execs_nil q
 | ret v=>exact q
 | brk=>exact q
 | cont=>exact q
theorem Inv.quiet {pins:List (Addr × Obj)}{σ:St}{H:Hp}{s:aw}(I:Inv X pins σ H s):interactive X.env=false:=by simp[interactive,I.ok.kind]
noncomputable def Nz (te:TE):TS:=λD σ H=>te σ H λ_ H1=>D.nx σ H1
theorem Lk (he:PE X e te)(hs:swapsWith e none pos.line X.env=pure false:=by rfl):PS X (.Expr e pos) (Nz te):=by
 intro pins s σ H D I h;exact wpAny_Expr_any (f6 (he pins s σ H _ I h) λv s1 ⟨x,H1,I1,r1,q1⟩=>⟨σ,H1,I1,q1⟩) I.quiet hs
noncomputable def Sh (te:TE):TS:=λD σ H=>te σ H D.rt
theorem O2 (he:PE X e te):PS X (.Return (some e) pos) (Sh te):=by
 intro pins s σ H D I h;exact wpAny_Return_some (f6 (he pins s σ H _ I h) λv s1 ⟨x,H1,I1,r1,q1⟩=>⟨x,σ,H1,I1,r1,q1⟩)
noncomputable def Si (c:TT)(t u:TS):TS:=λD σ H=>c σ H λb H1=>if b=true then t D σ H1 else u D σ H1
theorem Sj (hc:PT X c tc)(ha:B1 X a t)(hb:B1 X b u):PS X (.If c a b pos) (Si tc t u):=by
 intro pins s σ H D I h;refine wpAny_If (f6 (hc pins s σ H _ I h) λd s1 ⟨H1,I1,q1⟩=>?_)
 cases d with
 | true=>exact ha pins s1 σ H1 D I1 q1
 | false=>exact hb pins s1 σ H1 D I1 q1
end
noncomputable abbrev TG:=V->St->Hp->(St->Hp->Prop)->Prop
noncomputable abbrev O3:=List V->St->Hp->(St->Hp->Prop)->Prop
noncomputable def PG (X:Cx)(target:Expr)(t:TG):Prop :=
 ∀(pins:List (Addr × Obj)) (s:aw) (σ:St) (H:Hp) (v:V) (u:af) (Q:St->Hp->Prop),Inv X pins σ H s->RelV v u->t v σ H Q ->
  aA (model X.prog X.w) X.A (assign target X.env u) (λ_ s'=>∃σ' H',Inv X pins σ' H' s'/\Q σ' H') X.xe s
noncomputable def Sk (X:Cx)(ts:List Expr)(t:O3):Prop :=
 ∀(pins:List (Addr × Obj)) (s:aw) (σ:St) (H:Hp) (vs:List V) (us:List af) (Q:St->Hp->Prop),Inv X pins σ H s->eA vs us->t vs σ H Q ->
  aA (model X.prog X.w) X.A (assignInOrder ((assignEach ts X.env).map (·.2)) us) (λ_ s'=>∃σ' H',Inv X pins σ' H' s'/\Q σ' H') X.xe s
section
variable {X:Cx}{pos:Pos}
noncomputable def Aa (i:Nat):TG:=λv σ H Q=>Q (σ.set i (some v)) H
theorem Ll (hN:X.N.Nodup)(hi:X.N[i]? = some x)(hx:Loc X.env.scope x)(hf:X.fn x=true\/X.env.scope.names.lookup x=some .local:=by (first | exact .inl rfl | exact .inr rfl | assumption)):PG X (.Name x pos) (Aa i):=by
 intro pins s σ H v u Q I r h;exact wpAny_assign_Name (uK I hN hi hx r (λs' I'=>⟨_,H,I',h⟩) hf)
noncomputable def Sl:O3:=λvs σ H Q=>vs=[]/\Q σ H
noncomputable def NA (t:TG)(u:O3):O3:=λvs σ H Q=>∃v r,vs=v::r/\t v σ H λσ' H'=>u r σ' H' Q
theorem Lm:Sk X [] Sl:=by
 intro pins s σ H vs us Q I r h;obtain⟨e,h⟩:=h;subst e;cases r;exact assignInOrder_nil ⟨σ,H,I,h⟩
theorem Hr (h1:PG X e t)(h2:Sk X es u)
  (hs:(assignEach (e::es) X.env).map (·.2)=assign e X.env::(assignEach es X.env).map (·.2):=by rfl):Sk X (e::es) (NA t u):=by
 intro pins s σ H vs us Q I r h;obtain⟨v,vr,e1,h⟩:=h;subst e1
 cases r with
 | cons r rr =>
  rw[hs];refine assignInOrder_cons (f6 (h1 pins s σ H _ _ _ I r h) λ_ s1 ⟨σ1,H1,I1,q1⟩=>?_);exact h2 pins s1 σ1 H1 _ _ Q I1 rr q1
noncomputable def Sm (K:W.Frag)(n:Nat)(t:O3):TG:=λv σ H Q=>∃a xs,v=.ref a/\jl K H a xs/\xs.length=n/\t xs σ H Q
theorem O4 (hc:X.calm=true)(h:Sk X es t)
  (hn:(assignEach es X.env).length=n:=by rfl) (tW:(assignEach es X.env).findIdx? (·.1)=none:=by rfl):PG X (.Tuple es k pos) (Sm X.K n t):=by
 intro pins s σ H v u Q I r hw;obtain⟨a,xs,e1,hq,hl,hw⟩:=hw;subst e1;cases r;obtain⟨its,rv,ht,hz⟩:=I.tuple hq;refine assign_Tuple_tuple (I.ok.hd hc) ht (by simp[hn,<- hl,rv.length]) tW λh' hx=>?_;have I1:Inv X pins σ H { s with heap:=h' }:=I.kept (t':=s.toks) λb o e=>hx b o (aV (aD e)) e;exact h pins _ σ H xs _ Q I1 (by simpa using rv) hw
noncomputable def O5 (te:TE)(g:TG):TS:=λD σ H=>te σ H λx H1=>g x σ H1 D.nx
theorem O6 {i:Nat}{x:Str}{e:Expr}{te:TE}{jJ:Pos}(hN:X.N.Nodup)(hi:X.N[i]? = some x)(hx:Loc X.env.scope x)(he:PE X e te)(hs:swapsWith e (some (.Name x jJ)) pos.line X.env=pure false:=by rfl)(hf:X.fn x=true\/X.env.scope.names.lookup x=some .local:=by (first | exact .inl rfl | exact .inr rfl | assumption)) :
  PS X (.Assign [.Name x jJ] e pos) (O5 te (Aa i)):=by
 intro pins s σ H D I h;refine wpAny_Assign_Name (f6 (he pins s σ H _ I h) λv s1 ⟨y,H1,I1,r1,q1⟩=>?_) hs;exact uK I1 hN hi hx r1 (λs2 I2=>⟨_,H1,I2,q1⟩) hf
end
section
noncomputable def uN (c:TT)(tb:TS):TS:=λD σ H=>∃W:Nat->St->Hp->Prop,(∃m,W m σ H)/\∀m σ H,W m σ H ->
 c σ H λb H1=>if b=true then ∃N:St->Hp->Prop,(∀σ' H',N σ' H'->∃m',m' < m/\W m' σ' H')/\tb { D with nx:=N,ct:=N,bk:=D.nx } σ H1 else D.nx σ H1
theorem Hs (hp:PassesOwn (model X.prog X.w) X.A X.env X.xe)(hc:PT X c tc)(hb:B1 X body tb):PS X (.While c body [] pos) (uN tc tb):=by
 intro pins s σ H D I h;obtain⟨W,⟨m0,w0⟩,turn⟩:=h;refine wpAny_While (codeAny_whileLoop (λn s'=>∃σ' H',Inv X pins σ' H' s'/\W n σ' H') ?_ m0 ⟨σ,H,I,w0⟩);rintro n s1 ⟨σ1,H1,I1,w1⟩;refine wpAny_passesOwn hp (f6 (hc pins s1 σ1 H1 _ I1 (turn n σ1 H1 w1)) λb s2 ⟨H2,I2,q2⟩=>?_)
 cases b with
 | true =>
  obtain⟨N,hN,q2⟩:=q2;rw[if_pos rfl];refine wpAny_passesOwn hp (f6 (hb pins s2 σ1 H2 _ I2 q2) λf s3 q3=>?_)
  cases f with
  | next =>
   obtain⟨σ3,H3,I3,n3⟩:=q3;obtain⟨m',hm,w3⟩:=hN σ3 H3 n3;exact⟨m',hm,σ3,H3,I3,w3⟩
  | cont =>
   obtain⟨σ3,H3,I3,n3⟩:=q3;obtain⟨m',hm,w3⟩:=hN σ3 H3 n3;exact⟨m',hm,σ3,H3,I3,w3⟩
  | brk=>exact q3
  | ret v=>exact q3
 | false =>
  rw[if_neg ba];exact wpAny_execs_nil ⟨σ1,H2,I2,q2⟩
end
structure It where
 go:Nat->Hp->Prop
 KR:Nat->Hp->V->Hp->Prop
 stop:Nat->Hp->Prop
noncomputable def tG (X:Cx)(pins:List (Addr × Obj))(H:Hp)(b:Addr):Prop :=
 H b=none/\b≠X.env.locals/\b ∉ X.fs/\(b∈X.ex\/X.s₀.heap.objs.size<=b)/\(∀x c,X.env.cells.lookup x=some c->c≠b)/\∀p∈X.pn++pins,p.1≠b
theorem Inv.uO (I:Inv X pins σ H s)(hb:s.heap.objs.size<=b)(hn:H' b=none):tG X pins H' b:=by
 refine⟨hn,cg (aS I.lt hb),I.R5 hb,.inr (aL I.sz hb),λx c e z=>?_,λp hp z=>?_⟩
 .obtain⟨v,q⟩:=I.cell x c e
  exact absurd (aS q.lt (by rw[z];exact hb)) (bo _)
 .exact absurd (aS (aD (I.pin p hp).1) (by rw[z];exact hb)) (bo _)
structure B9 (P:aZ) (w:World) (K:W.Frag) (tg:Expr) (J:It) (fp:List Addr) (it:Addr) (tn:Nat->Heap->Prop):Prop where
 mem:it∈fp
 obj:∀i h,tn i h->∀b∈fp,∃o,h.get? b=some o/\∀v,o.data≠.cell v
 keep:∀i h h',tn i h->(∀b∈fp,∀o,h.get? b=some o->h'.get? b=some o)->tn i h'
 item:∀(X:Cx),X.prog=P->X.w=w->X.K=K->X.calm=true->∀(i:Nat) (pins:List (Addr × Obj)) (s:aw) (σ:St) (H:Hp) (E:af->aw->Prop),Inv X pins σ H s->(∀b∈fp,tG X pins H b)->tn i s.heap->J.go i H ->
  aA (model P w) X.A (pyNext (.ref it)) (λr s1=>∃u,r=some u /\
   aA (model P w) X.A (letOwnedTupleGo tg (.ref it) u) (λ_ s2=>∃x H',Inv X pins σ H' s2/\RelV x u/\J.KR i H x H'/\tn (i+1) s2.heap/\∀b∈fp,H' b=none) E s1) E s
 done:∀(X:Cx),X.prog=P->X.w=w->X.K=K->X.calm=true->∀(i:Nat) (pins:List (Addr × Obj)) (s:aw) (σ:St) (H:Hp) (E:af->aw->Prop),Inv X pins σ H s->(∀b∈fp,tG X pins H b)->tn i s.heap->J.stop i H ->
  aA (model P w) X.A (pyNext (.ref it)) (λr s1=>r=none/\Inv X pins σ H s1) E s
 self:∀(A:Around) (i:Nat) (s:aw) (Q:af->aw->Prop) (E:af->aw->Prop),tn i s.heap->Q (.ref it) s->aA (model P w) A (pyIter (.ref it)) Q E s
noncomputable abbrev TI:=St->Hp->(It->Hp->Prop)->Prop
noncomputable def Y2 (X:Cx)(pins:List (Addr × Obj))(σ:St)(tg:Expr)(R:It->Hp->Prop)(Wj:af)(s2:aw):Prop :=
 ∃(it:Addr) (fp:List Addr) (tn:Nat->Heap->Prop) (J:It) (H':Hp),Wj=.ref it/\Inv X pins σ H' s2/\B9 X.prog X.w X.K tg J fp it tn/\tn 0 s2.heap/\(∀b∈fp,tG X pins H' b)/\R J H'
noncomputable def PI (X:Cx)(tg iter:Expr)(wi:TI):Prop :=
 ∀(pins:List (Addr × Obj)) (s:aw) (σ:St) (H:Hp) (R:It->Hp->Prop),Inv X pins σ H s->wi σ H R ->
  aA (model X.prog X.w) X.A (eval iter X.env) (λv s1=>aA (model X.prog X.w) X.A (pyIter v) (Y2 X pins σ tg R) X.xe s1) X.xe s
theorem DS {M:Model}{A:Around}{E:af->aw->Prop}{s:aw}{tg:Expr}{it:Addr}{u:af}{o:Obj}{n:String}{vs:Array af}{Q:Unit->aw->Prop}(ho:s.heap.get? it=some o)(hc:o.cls=.type n)(hd:o.data=.fields vs)
  (hn:["enumerate", "zip", "dict_itemiterator", "dict_reverseitemiterator", "odict_iterator", "itertools.zip_longest", "itertools.pairwise"].contains n=false) (hQ:Q () s):aA M A (letOwnedTupleGo tg (.ref it) u) Q E s:=by
 unfold letOwnedTupleGo
 cases tg<;>first
  | exact ak hQ
  | (cases u<;>first
    | exact ak hQ
    | (refine ae (wpAny_load ho ?_);rw[hc,hd];show aA M A (if (["enumerate", "zip", "dict_itemiterator", "dict_reverseitemiterator", "odict_iterator", "itertools.zip_longest", "itertools.pairwise"].contains n && vs[0]? == some (rawInt _))=true then _ else _) Q E s;rw[if_neg (by intro h;rw[hn,bT] at h;cases h)];exact ak hQ))
noncomputable def Ln (K:W.Frag)(a:Addr):It :=
 ⟨λi H=>∃xs x,gY K H a xs/\xs[i]? = some x,λi H x H'=>H'=H/\∀xs,gY K H a xs->xs[i]? = some x,λi H=>∃xs,gY K H a xs/\xs.length<=i⟩
noncomputable def Lo (K:W.Frag)(a:Addr):It :=
 ⟨λi H=>∃xs x,jl K H a xs/\xs[i]? = some x,λi H x H'=>H'=H/\∀xs,jl K H a xs->xs[i]? = some x,λi H=>∃xs,jl K H a xs/\xs.length<=i⟩
noncomputable def VC (lo:Int)(n:Nat):It:=⟨λi _=>i<n,λi H x H'=>H'=H/\x=.int (lo+i),λi _=>n<=i⟩
theorem xv {P:aZ}{w:World}{K:W.Frag}{tg:Expr}(a it:Addr):B9 P w K tg (Ln K a) [it] it (λi h=>h.IsListIter it a i) where
 mem:=by simp
 obj:=λi h st b hb=>by
  have e:b=it:=by simpa using hb
  subst e;obtain⟨o,e,c,d⟩:=st;exact⟨o,e,λv z=>by rw[d] at z;cases z⟩
 keep:=λi h h' st k=>st.at λo e=>k it (!4) o e
 item:=by
  intro X hP hw hK hc i pins s σ H E I hf st hg;subst hP hw hK;obtain⟨xs,x,hq,hx⟩:=hg;obtain⟨its,rv,p,hz⟩:=I.list hq;obtain⟨u,hu,ru⟩:=rv.get hx;obtain⟨f0,f1,f2,f3,f4,f5⟩:=hf it (!4);refine wpAny_pyNext_list_item st p.isList (x:=u) (by simpa using hu) λh' Ca sb=>?_;have I1:Inv X pins σ H { s with heap:=h' }:=I.turned (t':=s.toks) (λb o hb e=>(sb.2 b hb).trans e) f0 f1 f3 f4 f5;obtain⟨o,e,c,d⟩:=id Ca;exact⟨u,rfl,DS (s:={ s with heap:=h' }) e c d (!2) ⟨x,H,I1,ru,⟨rfl,λys hy=>by rw[I.z9 hy hq];exact hx⟩,Ca,λb hb=>(hf b hb).1⟩⟩
 done:=by
  intro X hP hw hK hc i pins s σ H E I hf st hg;subst hP hw hK;obtain⟨xs,hq,hx⟩:=hg;obtain⟨its,rv,p,hz⟩:=I.list hq;obtain⟨f0,f1,f2,f3,f4,f5⟩:=hf it (!4);have hl:=rv.length;exact wpAny_pyNext_list_end (I.ok.hd hc) st p.isList (by simp;omega) λh' eb=>⟨rfl,I.turned (t':=s.toks) (λb o hb e=>eb b o hb e) f0 f1 f3 f4 f5⟩
 self:=λ_ _ _ _ _ st h=>wpAny_pyIter_listiter st h
theorem uP {P:aZ}{w:World}{K:W.Frag}{tg:Expr}(a it:Addr):B9 P w K tg (Lo K a) [it] it (λi h=>h.IsTupleIter it a i) where
 mem:=by simp
 obj:=λi h st b hb=>by
  have e:b=it:=by simpa using hb
  subst e;obtain⟨o,e,c,d⟩:=st;exact⟨o,e,λv z=>by rw[d] at z;cases z⟩
 keep:=λi h h' st k=>st.at λo e=>k it (!4) o e
 item:=by
  intro X hP hw hK hc i pins s σ H E I hf st hg;subst hP hw hK;obtain⟨xs,x,hq,hx⟩:=hg;obtain⟨its,rv,p,hz⟩:=I.tuple hq;obtain⟨u,hu,ru⟩:=rv.get hx;obtain⟨f0,f1,f2,f3,f4,f5⟩:=hf it (!4);refine wpAny_pyNext_tuple_item st (show s.heap.IsTuple a its.toArray from p) (x:=u) (by simpa using hu) λh' Ca sb=>?_;have I1:Inv X pins σ H { s with heap:=h' }:=I.turned (t':=s.toks) (λb o hb e=>(sb.2 b hb).trans e) f0 f1 f3 f4 f5;obtain⟨o,e,c,d⟩:=id Ca;exact⟨u,rfl,DS (s:={ s with heap:=h' }) e c d (!2) ⟨x,H,I1,ru,⟨rfl,λys hy=>by rw[I.xu hy hq];exact hx⟩,Ca,λb hb=>(hf b hb).1⟩⟩
 done:=by
  intro X hP hw hK hc i pins s σ H E I hf st hg;subst hP hw hK;obtain⟨xs,hq,hx⟩:=hg;obtain⟨its,rv,p,hz⟩:=I.tuple hq;obtain⟨f0,f1,f2,f3,f4,f5⟩:=hf it (!4);have hl:=rv.length;exact wpAny_pyNext_tuple_end (I.ok.hd hc) st (show s.heap.IsTuple a its.toArray from p) (by simp;omega) λh' eb=>⟨rfl,I.turned (t':=s.toks) (λb o hb e=>eb b o hb e) f0 f1 f3 f4 f5⟩
 self:=λ_ _ _ _ _ st h=>wpAny_pyIter_tupleiter st h
theorem Cb {P:aZ}{w:World}{K:PySem.W.Frag}{tg:Expr}(it:Addr)(lo:Int)(n:Nat):B9 P w K tg (VC lo n) [it] it (λi h=>IsRangeIter h it (lo+(i:Nat) * 1) ((n:Int) - (i:Nat)) 1) where
 mem:=by simp
 obj:=λi h st b hb=>by
  have e:b=it:=by simpa using hb
  subst e
  exact⟨_,st,λv z=>by
   have z':Data.fields _=Data.cell v:=z;cases z'⟩
 keep:=λi h h' st k=>k it (!4) _ st
 item:=by
  intro X hP hw hK hc i pins s σ H E I hf st hg;subst hP hw hK;obtain⟨f0,f1,f2,f3,f4,f5⟩:=hf it (!4);have W:=Walks.range (prog:=X.prog) (w:=X.w) (I.ok.hd hc) it lo 1 n;refine W.item i s _ _ hg st λv h' tk hv Ca kk=>?_;obtain⟨t,rfl⟩:=hv;have I1:Inv X pins σ H { s with heap:=h',toks:=tk }:=I.turned (λb o hb e=>kk b o (by simpa using hb) e) f0 f1 f3 f4 f5;refine⟨_,rfl,DS (s:={ s with heap:=h',toks:=tk }) (n := "range_iterator") Ca rfl rfl (!2) ⟨.int (lo+i),H,I1,⟨t,?_⟩,⟨rfl,rfl⟩,Ca,λb hb=>(hf b hb).1⟩⟩;rw[Int.mul_one]
 done:=by
  intro X hP hw hK hc i pins s σ H E I hf st hg;subst hP hw hK;obtain⟨f0,f1,f2,f3,f4,f5⟩:=hf it (!4);exact wpAny_pyNext_range_end (I.ok.hd hc) st (by have:n<=i:=hg;omega) λh' eb=>⟨rfl,I.turned (t':=s.toks) (λb o hb e=>eb b o hb e) f0 f1 f3 f4 f5⟩
 self:=λ_ _ _ _ _ st h=>wpAny_pyIter_rangeiter st h
section
variable {X:Cx}{tg:Expr}
noncomputable def Ht (K:W.Frag)(tl:TE):TI:=λσ H R=>tl σ H λx H1=>∃a,x=.ref a/\(∃xs,gY K H1 a xs)/\R (Ln K a) H1
noncomputable def O7 (K:W.Frag)(tl:TE):TI:=λσ H R=>tl σ H λx H1=>∃a,x=.ref a/\(∃xs,jl K H1 a xs)/\R (Lo K a) H1
theorem Lp {l:Expr}{tl:TE}(hl:PE X l tl):PI X tg l (Ht X.K tl):=by
 intro pins s σ H R I h;refine f6 (hl pins s σ H _ I h) λv s1 ⟨x,H1,I1,r1,q1⟩=>?_;obtain⟨a,e,⟨xs,hq⟩,q⟩:=q1;subst e;cases r1;obtain⟨its,rv,p,hz⟩:=I1.list hq;refine wpAny_pyIter_list p.isList ?_;refine⟨s1.heap.objs.size,[s1.heap.objs.size],_,_,H1,rfl,I1.kept (t':=s1.toks) λb o e=>ai _ e,xv a _,⟨_,aE _ rfl,rfl,rfl⟩,λb hb=>?_,q⟩;have e:b=s1.heap.objs.size:=by simpa using hb
 subst e;exact I1.uO (ag _) (I1.hok.fresh (ag _))
theorem O8 {l:Expr}{tl:TE}(hl:PE X l tl):PI X tg l (O7 X.K tl):=by
 intro pins s σ H R I h;refine f6 (hl pins s σ H _ I h) λv s1 ⟨x,H1,I1,r1,q1⟩=>?_;obtain⟨a,e,⟨xs,hq⟩,q⟩:=q1;subst e;cases r1;obtain⟨its,rv,p,hz⟩:=I1.tuple hq;refine wpAny_pyIter_tuple (show s1.heap.IsTuple a its.toArray from p) ?_;refine⟨s1.heap.objs.size,[s1.heap.objs.size],_,_,H1,rfl,I1.kept (t':=s1.toks) λb o e=>ai _ e,uP a _,⟨_,aE _ rfl,rfl,rfl⟩,λb hb=>?_,q⟩;have e:b=s1.heap.objs.size:=by simpa using hb
 subst e;exact I1.uO (ag _) (I1.hok.fresh (ag _))
theorem Hu {pins:List (Addr × Obj)}{σ:St}{H:Hp}{s:aw}{R:It->Hp->Prop}{E:af->aw->Prop}{lo hi:Int}{t u v:Tok}{tk:Nat}(I:Inv X pins σ H s)(h1:-(2 ^ 62)<=lo)(h2:lo<2 ^ 62)(h3:-(2 ^ 62)<=hi)(h4:hi<2 ^ 62)
  (q:R (VC lo (hi - lo).toNat) H):aA (model X.prog X.w) X.A (pyIter (.ref s.heap.objs.size)) (Y2 X pins σ tg R) E { s with heap:=s.heap.push { cls:=.type "range",data:=.fields #[.int lo t,.int hi u,.int 1 v] },toks:=tk }:=by
 refine wpAny_pyIter_range (IsRange.new ..) (small_one h1 h2 h3 h4) ?_;have I1:Inv X pins σ H { s with heap:=s.heap.push { cls:=.type "range",data:=.fields #[.int lo t,.int hi u,.int 1 v] },toks:=tk }:=I.kept λb o e=>ai _ e
 refine⟨(s.heap.push { cls:=.type "range",data:=.fields #[.int lo t,.int hi u,.int 1 v] }).objs.size,[(s.heap.push { cls:=.type "range",data:=.fields #[.int lo t,.int hi u,.int 1 v] }).objs.size],_,_,H,rfl,
  I1.kept (t':=tk) λb o e=>ai _ e,Cb _ lo (hi - lo).toNat,?_,λb hb=>?_,q⟩
 .have e1:lo+((0:Nat):Int) * 1=lo:=by simp
  have e2:(((hi - lo).toNat:Nat):Int) - ((0:Nat):Int)=Builtin.Range.rangeSize lo hi 1:=by rw[rangeSize_one];split<;>omega
  show IsRangeIter _ _ (lo+((0:Nat):Int) * 1) ((((hi - lo).toNat:Nat):Int) - ((0:Nat):Int)) 1;rw[e1,e2];exact aE _ rfl
 .have e:b=(s.heap.push { cls:=.type "range",data:=.fields #[.int lo t,.int hi u,.int 1 v] }).objs.size:=by simpa using hb
  subst e;exact I1.uO (ag _) (I1.hok.fresh (ag _))
noncomputable def NB (ta:TA):TI:=λσ H R=>ta σ H λvs H1=>∃j:Int,vs=[.int j]/\-(2 ^ 62)<=j/\j<2 ^ 62/\R (VC 0 j.toNat) H1
theorem E5 (hg:Gl X "range")(hm:X.mg "range" = none)(ha:PA X [a] ta)(hs:starEach [a] X.env=[(false,eval a X.env)]:=by rfl):PI X tg (.Call (.Name "range" p) [a] [] pos) (NB ta):=by
 intro pins s σ H R I h;refine Call_ (uM I hg hm boot_range (PyProof.Rows.callWith_type1 (f6 (ha pos pins s σ H _ I h) λus s1 ⟨vs,H1,I1,r1,q1⟩=>?_) hs rfl));obtain⟨j,e,q1,q2,q⟩:=q1;subst e
 cases r1 with
 | cons r rr =>
  cases rr;obtain⟨t,rfl⟩:=r;exact call_range_1 (Hu I1 (!1) (!1) q1 q2 (by simpa using q))
noncomputable def Sn (wi:TI)(g:TG)(tb:TS):TS:=λD σ H=>wi σ H λJ H1=>∃W:Nat->Nat->St->Hp->Prop,(∃m,W 0 m σ H1)/\∀i m σ H,W i m σ H ->
 (J.stop i H/\D.nx σ H)\/(J.go i H/\∃N:St->Hp->Prop,(∀σ' H',N σ' H'->∃m',m' < m/\W (i+1) m' σ' H')/\∀x H',J.KR i H x H'->g x σ H' λσ2 H2=>tb { D with nx:=N,ct:=N,bk:=D.nx } σ2 H2)
noncomputable def uQ (fp:List Addr)(h:Heap):List (Addr × Obj):=fp.filterMap λb=>(h.get? b).map λo=>(b,o)
theorem mG (hb:b∈fp)(e:h.get? b=some o):(b,o)∈uQ fp h:=cp.mpr ⟨b,hb,by rw[e];rfl⟩
theorem E6 (hp:p∈uQ fp h):p.1∈fp/\h.get? p.1=some p.2:=by
 obtain⟨b,hb,e⟩:=cp.mp hp
 cases q:h.get? b with
 | none=>rw[q] at e;cases e
 | some o =>
  rw[q] at e;have e':(b,o)=p:=Option.some.inj e;subst e';exact⟨hb,q⟩
theorem Inv.pinned (I:Inv X pins σ H s)(hf:∀b∈fp,tG X pins H b)(ho:∀b∈fp,∃o,s.heap.get? b=some o/\∀v,o.data≠.cell v):Inv X (pins++uQ fp s.heap) σ H s :=
 I.tU λp hp=>(aH.mp hp).elim (λz=>I.pin p (aU _ z)) λz=>by
  obtain⟨hb,e⟩:=E6 z;obtain⟨f0,f1,f2,_⟩:=hf p.1 hb;obtain⟨o,e',d⟩:=ho p.1 hb;rw[e] at e';cases e';exact⟨e,f0,f1,f2,d⟩
theorem Inv.nH (I:Inv X (pins++pl) σ H s):Inv X pins σ H s:=I.tU λp hp=>I.pin p (aU _ (bP _ hp))
theorem O9 (hp:PassesOwn (model X.prog X.w) X.A X.env X.xe)(hc:X.calm=true)(hi:PI X tg iter wi)(hg:PG X tg g)(hb:B1 X body tb)
  (hs:∀x,foldedSetIterable iter X.env x=pure x:=by rw[3]):PS X (.For tg iter body [] pos) (Sn wi g tb):=by
 intro pins s σ H D I h;refine wpAny_For (f6 (hi pins s σ H _ I h) λv s1 h1=>f6 h1 λWj s2 h2=>?_) hs;obtain⟨it,fp,tn,J,H2,e,I2,T,So,f2,W,⟨m0,w0⟩,turn⟩:=h2;subst e;have O':∀{H':Hp},(∀b∈fp,H' b=none)->∀b∈fp,tG X pins H' b:=λhn b hb=>⟨hn b hb,(f2 b hb).2⟩;refine codeAny_forLoop_any (λn s'=>∃i σ' H',Inv X pins σ' H' s'/\tn i s'.heap/\(∀b∈fp,H' b=none)/\W i n σ' H') ?_ m0 ⟨0,σ,H2,I2,So,λb hb=>(f2 b hb).1,w0⟩;rintro n s3 ⟨i,σ3,H3,I3,Sq,Sr,w3⟩;rcases turn i n σ3 H3 w3 with⟨stop,qn⟩ | ⟨go,N,hN,step⟩
 .refine wpAny_passesOwn hp (f6 (T.done X rfl rfl rfl hc i pins s3 σ3 H3 X.xe I3 (O' Sr) Sq stop) λr s4 ⟨hr,I4⟩=>?_)
  subst hr;exact wpAny_execs_nil ⟨σ3,H3,I4,qn⟩
 .refine wpAny_passesOwn hp (f6 (T.item X rfl rfl rfl hc i pins s3 σ3 H3 X.xe I3 (O' Sr) Sq go) λr s4 ⟨u,hr,h4⟩=>?_)
  subst hr;refine wpAny_passesOwn hp (f6 h4 λ_ s5 ⟨x,H5,I5,r5,y5,Pa,Wk⟩=>?_);have I5':=I5.pinned (O' Wk) (T.obj _ _ Pa);refine wpAny_passesOwn hp (f6 (hg _ s5 σ3 H5 x u _ I5' r5 (step x H5 y5)) λ_ s6 ⟨σ6,H6,I6,q6⟩=>?_);refine wpAny_passesOwn hp (f6 (hb _ s6 σ6 H6 _ I6 q6) λf s7 q7=>?_)
  have again:∀{σ7:St} {H7:Hp},Inv X (pins++uQ fp s5.heap) σ7 H7 s7->N σ7 H7->∃m,m<n/\∃i σ' H',Inv X pins σ' H' s7/\tn i s7.heap/\(∀b∈fp,H' b=none)/\W i m σ' H':=λ{σ7 H7} I7 n7=>by
   obtain⟨m',hm,w7⟩:=hN σ7 H7 n7;refine⟨m',hm,i+1,σ7,H7,I7.nH,T.keep _ _ _ Pa λb hb o e=>(I7.pin (b,o) (aU _ (aU _ (mG hb e)))).1,λb hb=>?_,w7⟩;obtain⟨o,e,d⟩:=T.obj _ _ Pa b hb;exact (I7.pin (b,o) (aU _ (aU _ (mG hb e)))).2.1
  cases f with
  | next=>obtain⟨σ7,H7,I7,n7⟩:=q7;exact again I7 n7
  | cont=>obtain⟨σ7,H7,I7,n7⟩:=q7;exact again I7 n7
  | brk=>obtain⟨σ7,H7,I7,q7⟩:=q7;exact⟨σ7,H7,I7.nH,q7⟩
  | ret v=>obtain⟨x7,σ7,H7,I7,r7,q7⟩:=q7;exact⟨x7,σ7,H7,I7.nH,r7,q7⟩
end
theorem Hv {K:PySem.W.Frag}{a:Addr}{xs:List V}{g:TG}{tb:TS}{D:Ends}{σ:St}{H:Hp}(Pv:Nat->St->Hp->Prop)(h0:Pv 0 σ H)(hl:∀i σ H,i<=xs.length->Pv i σ H->gY K H a xs)
  (hs:∀i x σ H,xs[i]? = some x->Pv i σ H->g x σ H λσ2 H2=>tb { D with nx:=Pv (i+1),ct:=Pv (i+1),bk:=D.nx } σ2 H2) (hd:∀σ H,Pv xs.length σ H->D.nx σ H) :
  ∃W:Nat->Nat->St->Hp->Prop,(∃m,W 0 m σ H)/\∀i m σ H,W i m σ H ->
   ((Ln K a).stop i H/\D.nx σ H)\/((Ln K a).go i H/\∃N:St->Hp->Prop,(∀σ' H',N σ' H'->∃m',m' < m/\W (i+1) m' σ' H')/\∀x H',(Ln K a).KR i H x H'->g x σ H' λσ2 H2=>tb { D with nx:=N,ct:=N,bk:=D.nx } σ2 H2):=by
 refine⟨λi m σ H=>m=xs.length - i/\i<=xs.length/\Pv i σ H,⟨xs.length,!4,bW _,h0⟩,?_⟩;rintro i m σ H ⟨rfl,hi,p⟩;have q:=hl i σ H hi p;by_cases p8:i<xs.length
 .refine .inr ⟨⟨xs,xs[i],q,by simp[p8]⟩,Pv (i+1),λσ' H' p'=>⟨xs.length - (i+1),!1,rfl,p8,p'⟩,λx H' y=>?_⟩
  obtain⟨e,y⟩:=y;subst e;exact hs i x σ _ (y xs q) p
 .have e:i=xs.length:=by omega
  subst e;exact .inl ⟨⟨xs,q,ag _⟩,hd σ H p⟩
theorem Lq {K:PySem.W.Frag}{a:Addr}{xs:List V}{g:TG}{tb:TS}{D:Ends}{σ:St}{H:Hp}(Pv:Nat->St->Hp->Prop)(h0:Pv 0 σ H)(hl:∀i σ H,i<=xs.length->Pv i σ H->jl K H a xs)
  (hs:∀i x σ H,xs[i]? = some x->Pv i σ H->g x σ H λσ2 H2=>tb { D with nx:=Pv (i+1),ct:=Pv (i+1),bk:=D.nx } σ2 H2) (hd:∀σ H,Pv xs.length σ H->D.nx σ H) :
  ∃W:Nat->Nat->St->Hp->Prop,(∃m,W 0 m σ H)/\∀i m σ H,W i m σ H ->
   ((Lo K a).stop i H/\D.nx σ H)\/((Lo K a).go i H/\∃N:St->Hp->Prop,(∀σ' H',N σ' H'->∃m',m' < m/\W (i+1) m' σ' H')/\∀x H',(Lo K a).KR i H x H'->g x σ H' λσ2 H2=>tb { D with nx:=N,ct:=N,bk:=D.nx } σ2 H2):=by
 refine⟨λi m σ H=>m=xs.length - i/\i<=xs.length/\Pv i σ H,⟨xs.length,!4,bW _,h0⟩,?_⟩;rintro i m σ H ⟨rfl,hi,p⟩;have q:=hl i σ H hi p;by_cases p8:i<xs.length
 .refine .inr ⟨⟨xs,xs[i],q,by simp[p8]⟩,Pv (i+1),λσ' H' p'=>⟨xs.length - (i+1),!1,rfl,p8,p'⟩,λx H' y=>?_⟩
  obtain⟨e,y⟩:=y;subst e;exact hs i x σ _ (y xs q) p
 .have e:i=xs.length:=by omega
  subst e;exact .inl ⟨⟨xs,q,ag _⟩,hd σ H p⟩
theorem Hw {c:TT}{tb:TS}{D:Ends}{σ:St}{H:Hp}(Pv:St->Hp->Prop)(μ:St->Hp->Nat)(h0:Pv σ H)
  (hs:∀σ H,Pv σ H->c σ H λb H1=>if b=true then tb { D with nx:=λσ' H'=>Pv σ' H'/\μ σ' H' < μ σ H,ct:=λσ' H'=>Pv σ' H'/\μ σ' H' < μ σ H,bk:=D.nx } σ H1 else D.nx σ H1)
  (mono:∀σ H Q Q',(∀b H1,Q b H1->Q' b H1)->c σ H Q->c σ H Q'):uN c tb D σ H:=by
 refine⟨λm σ H=>m=μ σ H/\Pv σ H,⟨_,rfl,h0⟩,?_⟩;rintro m σ H ⟨rfl,p⟩;refine mono σ H _ _ (λb H1 q=>?_) (hs σ H p)
 cases b with
 | true=>exact⟨_,λσ' H' ⟨p',l⟩=>⟨_,l,rfl,p'⟩,q⟩
 | false=>exact q
noncomputable abbrev R2:=V->V->Hp->VK->Prop
noncomputable def kr (X:Cx)(f:af->af->Sem af)(r:R2):Prop :=
 ∀(pins:List (Addr × Obj)) (s:aw) (σ:St) (H:Hp) (x y:V) (v u:af) (Q:VK),Inv X pins σ H s->RelV x v->RelV y u->r x y H Q ->
  aA (model X.prog X.w) X.A (f v u) (EP X pins σ Q) X.xe s
noncomputable def VD (X:Cx)(f:af->Sem af)(r:V->Hp->VK->Prop):Prop :=
 ∀(pins:List (Addr × Obj)) (s:aw) (σ:St) (H:Hp) (x:V) (v:af) (Q:VK),Inv X pins σ H s->RelV x v->r x H Q ->
  aA (model X.prog X.w) X.A (f v) (EP X pins σ Q) X.xe s
noncomputable def gn (X:Cx)(f:af)(r:List V->Hp->VK->Prop):Prop :=
 ∀(pins:List (Addr × Obj)) (s:aw) (σ:St) (H:Hp) (xs:List V) (us:List af) (Q:VK),Inv X pins σ H s->eA xs us->r xs H Q ->
  aA (model X.prog X.w) X.A (call f us) (EP X pins σ Q) X.xe s
noncomputable def KU (r:R2)(ta tb:TE):TE:=λσ H Q=>ta σ H λx H1=>tb σ H1 λy H2=>r x y H2 Q
noncomputable def VE (r:V->Hp->VK->Prop)(ta:TE):TE:=λσ H Q=>ta σ H λx H1=>r x H1 Q
noncomputable def rI (C:Int->Int->Prop)(g:Int->Int->V):R2:=λx y H Q=>∃i j,x=.int i/\y=.int j/\C i j/\Q (g i j) H
noncomputable def Lr (g:Int->Int->V):R2:=λx y H Q=>∃i j,x=.int i/\y=.int j/\Q (g i j) H
noncomputable def rU (g:Int->V):V->Hp->VK->Prop:=λx H Q=>∃i,x=.int i/\Q (g i) H
section
variable {X:Cx}{a b c:Expr}{ta tb tc:TE}{pos:Pos}
theorem Pb (ha:PE X a ta)(hb:PE X b tb){pins:List (Addr × Obj)}{s:aw}{σ:St}{H:Hp}{R:V->V->Hp->Prop}(I:Inv X pins σ H s)
  (h:ta σ H λx H1=>tb σ H1 λy H2=>R x y H2) {Q:af->aw->Prop} {f:af->af->Sem af}
  (hf:∀v u s2 x y H2,Inv X pins σ H2 s2->RelV x v->RelV y u->R x y H2->aA (model X.prog X.w) X.A (f v u) Q X.xe s2) :
  aA (model X.prog X.w) X.A (eval a X.env) (λv s₁=>aA (model X.prog X.w) X.A (eval b X.env) (λu s₂=>aA (model X.prog X.w) X.A (f v u) Q X.xe s₂) X.xe s₁) X.xe s:=by
 refine f6 (ha pins s σ H _ I h) λv s1 ⟨x,H1,I1,r1,q1⟩=>?_;refine f6 (hb pins s1 σ H1 _ I1 q1) λu s2 ⟨y,H2,I2,r2,q2⟩=>?_;exact hf v u s2 x y H2 I2 r1 r2 q2
theorem Ss {op:Operator}{r:R2}(ho:kr X (binaryOp op) r)(ha:PE X a ta)(hb:PE X b tb):PE X (.BinOp a op b pos) (KU r ta tb):=by
 intro pins s σ H Q I h;exact wpAny_BinOp (Pb ha hb I h λv u s2 x y H2 I2 rx ry q=>ho pins s2 σ H2 x y v u Q I2 rx ry q)
theorem Hx (ho:VD X (unaryOp op) r)(ha:PE X a ta):PE X (.UnaryOp op a pos) (VE r ta):=by
 intro pins s σ H Q I h;exact UnaryOp_ (f6 (ha pins s σ H _ I h) λv s1 ⟨x,H1,I1,r1,q1⟩=>ho pins s1 σ H1 x v Q I1 r1 q1)
theorem VF {f:af->af->Sem af}{C:Int->Int->Prop}{g:Int->Int->Int}
  (rule:∀(i j:Int) (t u:Tok) (s:aw) (Q:af->aw->Prop) (E:af->aw->Prop),C i j->Q (.int (g i j) s.toks) { s with toks:=s.toks+1 }->aA (model X.prog X.w) X.A (f (.int i t) (.int j u)) Q E s) :
  kr X f (rI C λi j=>.int (g i j)):=by
 intro pins s σ H x y v u Q I rx ry h;obtain⟨i,j,rfl,rfl,hc,q⟩:=h;obtain⟨t,rfl⟩:=rx;obtain⟨t',rfl⟩:=ry;exact rule i j t t' s _ _ hc ⟨.int (g i j),H,I.tok _,⟨_,rfl⟩,q⟩
theorem Su {f:af->af->Sem af}{g:Int->Int->Int}
  (rule:∀(i j:Int) (t u:Tok) (s:aw) (Q:af->aw->Prop) (E:af->aw->Prop),Q (.int (g i j) s.toks) { s with toks:=s.toks+1 }->aA (model X.prog X.w) X.A (f (.int i t) (.int j u)) Q E s) :
  kr X f (Lr λi j=>.int (g i j)):=by
 intro pins s σ H x y v u Q I rx ry h;obtain⟨i,j,rfl,rfl,q⟩:=h;obtain⟨t,rfl⟩:=rx;obtain⟨t',rfl⟩:=ry;exact rule i j t t' s _ _ ⟨.int (g i j),H,I.tok _,⟨_,rfl⟩,q⟩
theorem Ls {f:af->af->Sem af}{g:Int->Int->Bool}
  (rule:∀(i j:Int) (t u:Tok) (s:aw) (Q:af->aw->Prop) (E:af->aw->Prop),Q (.bool (g i j)) s->aA (model X.prog X.w) X.A (f (.int i t) (.int j u)) Q E s) :
  kr X f (Lr λi j=>.bl (g i j)):=by
 intro pins s σ H x y v u Q I rx ry h;obtain⟨i,j,rfl,rfl,q⟩:=h;obtain⟨t,rfl⟩:=rx;obtain⟨t',rfl⟩:=ry;exact rule i j t t' s _ _ ⟨.bl (g i j),H,I,rfl,q⟩
noncomputable def Pc (i j:Int):Prop:=0<j/\j<1073741824
noncomputable def Lu (i j:Int):Prop:=0<=j/\j<=1000000/\i.natAbs<2 ^ 64
noncomputable def Cc (i j:Int):Prop:=(-(2 ^ 64)<i/\i<2 ^ 64)\/(-(2 ^ 64)<j/\j<2 ^ 64)
theorem Cc.ok (h:Cc i j):IntMulOk i j:=by
 rcases h with⟨h1,h2⟩ | ⟨h1,h2⟩
 .exact .of_left (intBits_le_64 h1 h2)
 .exact .of_right (intBits_le_64 h1 h2)
theorem uR:kr X (binaryOp .Add) (Lr λi j=>.int (i+j)):=Su λ_ _ _ _ _ _ _ q=>add_int q
theorem Pd:kr X (binaryOp .Sub) (Lr λi j=>.int (i - j)):=Su λ_ _ _ _ _ _ _ q=>sub_int q
theorem rH:kr X (binaryOp .Mult) (rI Cc λi j=>.int (i * j)):=VF λ_ _ _ _ _ _ _ hc q=>mul_int q hc.ok
theorem yW:kr X (binaryOp .FloorDiv) (rI Pc λi j=>.int (i / j)):=VF λi j _ _ _ _ _ hc q=>by
 have h1:(0:Int)<j:=hc.1;have h2:j<1073741824:=hc.2;exact floordiv_int (!1) (by rw[Int.fdiv_eq_ediv_of_nonneg i (!1)];exact q) (.inl (PyProof.noPylong_small (!1)))
theorem pd:kr X (binaryOp .Mod) (rI (λ_ j=>0<j) λi j=>.int (i % j)):=VF λi j _ _ _ _ _ hc q=>by
 have h1:(0:Int)<j:=hc;exact mod_int' (!1) (by rw[Int.fmod_eq_emod_of_nonneg i (!1)];exact q)
theorem Hy:kr X (binaryOp .Pow) (rI Lu λi j=>.int (i ^ j.toNat)):=VF λ_ _ _ _ _ _ _ hc q=>pow_int_small hc.1 hc.2.1 hc.2.2 q
theorem unI {f:af->Sem af}{g:Int->Int}
  (rule:∀(i:Int) (t:Tok) (s:aw) (Q:af->aw->Prop) (E:af->aw->Prop),Q (.int (g i) s.toks) { s with toks:=s.toks+1 }->aA (model X.prog X.w) X.A (f (.int i t)) Q E s) :
  VD X f (rU λi=>.int (g i)):=by
 intro pins s σ H x v Q I rx h;obtain⟨i,rfl,q⟩:=h;obtain⟨t,rfl⟩:=rx;exact rule i t s _ _ ⟨.int (g i),H,I.tok _,⟨_,rfl⟩,q⟩
theorem Cd:VD X (unaryOp .USub) (rU λi=>.int (-i)):=unI λ_ _ _ _ _ q=>neg_int q
end
noncomputable def Sv:V->V->Bool
 | .iZ,.iZ=>true | .iZ,.int _=>true | .int _,.iZ=>true | .iZ,.bl _=>true | .bl _,.iZ=>true | .iZ,.str _=>true | .str _,.iZ=>true
 | .int _,.int _=>true | .bl _,.bl _=>true | .str _,.str _=>true | .Hj _,.Hj _=>true
 | .int _,.str _=>true | .str _,.int _=>true | .bl _,.str _=>true | .str _,.bl _=>true
 | _,_=>false
noncomputable def rEq:R2:=λx y H Q=>Sv x y=true/\Q (.bl (decide (x=y))) H
noncomputable def rNe:R2:=λx y H Q=>Sv x y=true/\Q (.bl (!decide (x=y))) H
theorem DT:decide (V.int i=V.int j)=(i == j):=by
 rw[cw];simp
theorem Hz:decide (V.bl i=V.bl j)=(i == j):=by
 rw[cw];simp
theorem DU:decide (V.str i=V.str j)=(i == j):=by
 rw[cw];simp
theorem DV:decide (V.Hj i=V.Hj j)=(i.toList == j.toList):=by
 rw[cw];cases i;cases j;simp
section
variable {X:Cx}{a b c:Expr}{ta tb tc:TE}{pos:Pos}
theorem eN (I:Inv X pins σ H s)(q:Q (.bl k) H)(e:k=k'):EP X pins σ Q (.bool k') s:=by
 subst e;exact⟨.bl k,H,I,rfl,q⟩
theorem Sw:kr X (compareOp .Eq) rEq:=by
 intro pins s σ H x y v u Q I rx ry h;obtain⟨hs,q⟩:=h
 cases x with
 | iZ =>
  cases rx
  cases y with
  | iZ=>cases ry;exact PySem.EqNone.eq_none_none (eN I q (!4))
  | bl j=>cases ry;exact PySem.EqNone.eq_none_bool (eN I q (!4))
  | int j=>obtain⟨t',rfl⟩:=ry;exact PySem.EqNone.eq_none_int (eN I q (!4))
  | str j=>obtain⟨t',rfl⟩:=ry;exact PySem.EqNone.eq_none_str (eN I q (!4))
  | _=>exact absurd (show false=true from hs) ba
 | bl i =>
  cases rx
  cases y with
  | iZ=>cases ry;exact PySem.EqNone.eq_bool_none (eN I q (!4))
  | bl j=>cases ry;exact eq_bool (eN I q Hz)
  | str j=>obtain⟨t',rfl⟩:=ry;exact PySem.EqMixed.eq_bool_str (eN I q (!4))
  | _=>exact absurd (show false=true from hs) ba
 | int i =>
  obtain⟨t,rfl⟩:=rx
  cases y with
  | iZ=>cases ry;exact PySem.EqNone.eq_int_none (eN I q (!4))
  | int j=>obtain⟨t',rfl⟩:=ry;exact eq_int (eN I q DT)
  | str j=>obtain⟨t',rfl⟩:=ry;exact PySem.EqMixed.eq_int_str (eN I q (!4))
  | _=>exact absurd (show false=true from hs) ba
 | str i =>
  obtain⟨t,rfl⟩:=rx
  cases y with
  | iZ=>cases ry;exact PySem.EqNone.eq_str_none (eN I q (!4))
  | bl j=>cases ry;exact PySem.EqMixed.eq_str_bool (eN I q (!4))
  | int j=>obtain⟨t',rfl⟩:=ry;exact PySem.EqMixed.eq_str_int (eN I q (!4))
  | str j=>obtain⟨t',rfl⟩:=ry;exact eq_str (eN I q DU)
  | _=>exact absurd (show false=true from hs) ba
 | Hj i =>
  obtain⟨t,rfl⟩:=rx
  cases y with
  | Hj j=>obtain⟨t',rfl⟩:=ry;exact W.eq_bytes (eN I q DV)
  | _=>exact absurd (show false=true from hs) ba
 | _=>cases y<;>exact absurd (show false=true from hs) ba
theorem Sx:kr X (compareOp .NotEq) rNe:=by
 intro pins s σ H x y v u Q I rx ry h;obtain⟨hs,q⟩:=h
 cases x with
 | iZ =>
  cases rx
  cases y with
  | iZ=>cases ry;exact PySem.EqNone.ne_none_none (eN I q (!4))
  | bl j=>cases ry;exact PySem.EqNone.ne_none_bool (eN I q (!4))
  | int j=>obtain⟨t',rfl⟩:=ry;exact PySem.EqNone.ne_none_int (eN I q (!4))
  | str j=>obtain⟨t',rfl⟩:=ry;exact PySem.EqNone.ne_none_str (eN I q (!4))
  | _=>exact absurd (show false=true from hs) ba
 | bl i =>
  cases rx
  cases y with
  | iZ=>cases ry;exact PySem.EqNone.ne_bool_none (eN I q (!4))
  | bl j=>cases ry;exact ne_bool (eN I q (congrArg not Hz))
  | str j=>obtain⟨t',rfl⟩:=ry;exact PySem.EqMixed.ne_bool_str (eN I q (!4))
  | _=>exact absurd (show false=true from hs) ba
 | int i =>
  obtain⟨t,rfl⟩:=rx
  cases y with
  | iZ=>cases ry;exact PySem.EqNone.ne_int_none (eN I q (!4))
  | int j=>obtain⟨t',rfl⟩:=ry;exact ne_int (eN I q (congrArg not DT))
  | str j=>obtain⟨t',rfl⟩:=ry;exact PySem.EqMixed.ne_int_str (eN I q (!4))
  | _=>exact absurd (show false=true from hs) ba
 | str i =>
  obtain⟨t,rfl⟩:=rx
  cases y with
  | iZ=>cases ry;exact PySem.EqNone.ne_str_none (eN I q (!4))
  | bl j=>cases ry;exact PySem.EqMixed.ne_str_bool (eN I q (!4))
  | int j=>obtain⟨t',rfl⟩:=ry;exact PySem.EqMixed.ne_str_int (eN I q (!4))
  | str j=>obtain⟨t',rfl⟩:=ry;exact ne_str (eN I q (congrArg not DU))
  | _=>exact absurd (show false=true from hs) ba
 | Hj i =>
  obtain⟨t,rfl⟩:=rx
  cases y with
  | Hj j=>obtain⟨t',rfl⟩:=ry;exact W.ne_bytes (eN I q (congrArg not DV))
  | _=>exact absurd (show false=true from hs) ba
 | _=>cases y<;>exact absurd (show false=true from hs) ba
theorem NC:kr X (compareOp .Lt) (Lr λi j=>.bl (decide (i<j))):=Ls λ_ _ _ _ _ _ _ q=>lt_int q
theorem Sy:kr X (compareOp .LtE) (Lr λi j=>.bl (decide (i<=j))):=Ls λ_ _ _ _ _ _ _ q=>le_int q
theorem ND:kr X (compareOp .Gt) (Lr λi j=>.bl (decide (j<i))):=Ls λ_ _ _ _ _ _ _ q=>gt_int q
theorem SA:kr X (compareOp .GtE) (Lr λi j=>.bl (decide (j<=i))):=Ls λ_ _ _ _ _ _ _ q=>ge_int q
theorem Lv:kr X (compareOp .IsNot) (λx y H Q=>y=.iZ/\Q (.bl (!decide (x=.iZ))) H):=by
 intro pins s σ H x y v u Q I rx ry h;obtain⟨rfl,q⟩:=h;cases ry;refine isnot_none_gen (eN I q ?_)
 cases x<;>first
  | (cases rx;rfl)
  | (obtain⟨t,rfl⟩:=rx;rfl)
theorem kr.or {f:af->af->Sem af}{r r':R2}(h:kr X f r)(h':kr X f r'):kr X f (λx y H Q=>r x y H Q\/r' x y H Q):=by
 intro pins s σ H x y v u Q I rx ry q;rcases q with q | q
 .exact h pins s σ H x y v u Q I rx ry q
 .exact h' pins s σ H x y v u Q I rx ry q
theorem mH (b:Expr)(h:op≠.In:=by decide)(h2:op≠.NotIn:=by decide):behindInMarks op b=false:=by
 have e1:(op == CmpOp.In)=false:=by cases op<;>first | rfl | exact absurd rfl h
 have e2:(op == CmpOp.NotIn)=false:=by cases op<;>first | rfl | exact absurd rfl h2
 cases b<;>simp[behindInMarks,e1,e2]
theorem Lw {op:CmpOp}{r:R2}(ho:kr X (compareOp op) r)(ha:PE X a ta)(hb:PE X b tb)(hm:behindInMarks op b=false):PE X (.Compare a [op] [b] pos) (KU r ta tb):=by
 intro pins s σ H Q I h;exact wpAny_Compare1 (Pb ha hb I h λv u s2 x y H2 I2 rx ry q=>ho pins s2 σ H2 x y v u Q I2 rx ry q) hm
noncomputable def NF (t:TE):TT:=λσ H Q=>t σ H λx H'=>∃k,x=.bl k/\Q k H'
theorem Lx (ho:kr X (compareOp op) r)(ha:PE X a ta)(hb:PE X b tb)(hm:behindInMarks op b=false):PT X (.Compare a [op] [b] pos) (NF (KU r ta tb)):=by
 intro pins s σ H Q I h
 refine wpAny_isTrue_Compare1 (f6 (ha pins s σ H _ I h) λv s1 ⟨x,H1,I1,r1,q1⟩=>f6 (hb pins s1 σ H1 _ I1 q1) λu s2 ⟨y,H2,I2,r2,q2⟩ =>
  f6 (ho pins s2 σ H2 x y v u _ I2 r1 r2 q2) λc s3 ⟨z,H3,I3,r3,k,e,q3⟩=>?_) hm
 subst e;cases r3;exact wpAny_truthy_bool ⟨H3,I3,q3⟩
noncomputable def HA (r r':R2)(ta tb tc:TE):TE:=λσ H Q=>ta σ H λx H1=>tb σ H1 λy H2=>r x y H2 λz H3=>∃k,z=.bl k /\
 (if k=true then tc σ H3 λw' H4=>r' y w' H4 Q else Q (.bl false) H3)
theorem HB (ho:kr X (compareOp op) r)(B0:kr X (compareOp NG) r')(ha:PE X a ta)(hb:PE X b tb)(hc:PE X c tc)
  (hm:lastMarks [op,NG] [b,c]=false:=by with_unfolding_all rfl):PE X (.Compare a [op,NG] [b,c] pos) (HA r r' ta tb tc):=by
 intro pins s σ H Q I h
 refine Compare_chain (f6 (ha pins s σ H _ I h) λv s1 ⟨x,H1,I1,r1,q1⟩=>chain_link (f6 (hb pins s1 σ H1 _ I1 q1) λu s2 ⟨y,H2,I2,r2,q2⟩ =>
  f6 (ho pins s2 σ H2 x y v u _ I2 r1 r2 q2) λd s3 ⟨z,H3,I3,r3,k,e,q3⟩=>?_)) hm
 subst e;cases r3;refine wpAny_truthy_bool ?_
 cases k with
 | false=>exact ite_ff ⟨.bl false,H3,I3,rfl,q3⟩
 | true=>exact ite_tt (chain_last (f6 (hc pins s3 σ H3 _ I3 q3) λw' s4 ⟨z',H4,I4,r4,q4⟩=>B0 pins s4 σ H4 y z' u w' Q I4 r2 r4 q4))
theorem uS:(av:Nat)<2 ^ 63:=by rw[sizeLine_eq];decide
theorem Ce:kr X (binaryOp .Add) (λx y H Q=>∃i j,x=.str i/\y=.str j/\i.length+j.length<=av/\Q (.str (i++j)) H):=by
 intro pins s σ H x y v u Q I rx ry h;obtain⟨i,j,rfl,rfl,hz,q⟩:=h;obtain⟨t,rfl⟩:=rx;obtain⟨t',rfl⟩:=ry;exact add_str (λt' tk=>⟨.str (i++j),H,I.tok _,⟨_,rfl⟩,q⟩) hz
theorem vals1 (r:eA [x] us):∃u,us=[u]/\RelV x u:=by
 cases r with
 | cons r1 r2=>cases r2;exact⟨_,rfl,r1⟩
theorem vals2 (r:eA [x,y] us):∃u w',us=[u,w']/\RelV x u/\RelV y w':=by
 cases r with
 | cons r1 r2 =>
  cases r2 with
  | cons r3 r4=>cases r4;exact⟨_,_,rfl,r1,r3⟩
theorem E7 (hc:X.calm=true):gn X (.builtin "max") (λxs H Q=>∃i j,xs=[.int i,.int j]/\Q (.int (if j > i then j else i)) H):=by
 intro pins s σ H xs us Q I r h;obtain⟨i,j,rfl,q⟩:=h;obtain⟨u,w',rfl,⟨t,rfl⟩,⟨t',rfl⟩⟩:=vals2 r;refine max_two_ints (I.ok.hd hc) λh' tk k=>⟨_,H,I.kept k,?_,q⟩;by_cases hj:j > i
 .rw[if_pos hj,if_pos hj];exact⟨_,rfl⟩
 .rw[if_neg hj,if_neg hj];exact⟨_,rfl⟩
theorem E8 (hc:X.calm=true):gn X (.builtin "min") (λxs H Q=>∃i j,xs=[.int i,.int j]/\Q (.int (if j<i then j else i)) H):=by
 intro pins s σ H xs us Q I r h;obtain⟨i,j,rfl,q⟩:=h;obtain⟨u,w',rfl,⟨t,rfl⟩,⟨t',rfl⟩⟩:=vals2 r;refine min_two_ints (I.ok.hd hc) λh' tk k=>⟨_,H,I.kept k,?_,q⟩;by_cases hj:j<i
 .rw[if_pos hj,if_pos hj];exact⟨_,rfl⟩
 .rw[if_neg hj,if_neg hj];exact⟨_,rfl⟩
theorem rJ:gn X (.type "int") (λxs H Q=>(∃i,xs=[.int i]/\Q (.int i) H)\/∃k,xs=[.bl k]/\Q (.int (if k then 1 else 0)) H):=by
 intro pins s σ H xs us Q I r h;rcases h with⟨i,rfl,q⟩ | ⟨k,rfl,q⟩
 .obtain⟨u,rfl,t,rfl⟩:=vals1 r
  exact call_int_int ⟨.int i,H,I,⟨_,rfl⟩,q⟩
 .obtain⟨u,rfl,r1⟩:=vals1 r
  cases r1;exact call_int_bool ⟨.int (if k then 1 else 0),H,I.tok _,⟨_,rfl⟩,q⟩
end
structure Pe (h:Heap) (x dx C:Addr) (mA:Str->Option af):Prop where
 obj:h.get? x=some (W.instObj C dx)
 ns:h.Ns1 dx mA
 ne:dx≠x
theorem xw {h:Heap}{dx:Addr}{mA:Str->Option af}(n:h.Ns1 dx mA):∃od,h.get? dx=some od/\∀name,W.lookIn name od=some (mA name):=by
 obtain⟨o,es,ep,ho,hd,hk,_,hm⟩:=n;refine⟨o,ho,λname=>?_⟩;have e:=hm name;unfold nsFind findBy at e;rw[<- Array.find?_toList] at e;unfold W.lookIn;rw[hd];dsimp only;split
 .rename_i y q
  rw[q] at e;exact congrArg some e
 .rename_i q
  rw[q] at e
  have a:es.toList.any (·.refKey)=false:=by
   rw[List.any_eq_false];intro y hy;obtain⟨z,t,Pf⟩:=hk y (Array.mem_toList_iff.mp hy);simp[DictEntry.refKey,Pf]
  have a':¬ es.toList.any (·.refKey)=true:=by rw[a];exact ba
  rw[if_neg a'];exact congrArg some e
theorem Pe.look (I:Pe h x dx C mA):∃od,W.InstAt h x (W.instObj C dx) C (some od)/\∀name,W.lookIn name od=some (mA name) :=
 let ⟨od,ho,hl⟩:=xw I.ns
 ⟨od,⟨I.obj,rfl,rfl,ho⟩,hl⟩
noncomputable def E9 (f:Str)(v:V):List (Str × V)->List (Str × V)
 | []=>[(f,v)]
 | (g,x)::r=>if g=f then (g,v)::r else (g,x)::E9 f v r
theorem sO (f g:Str)(v:V):∀fs:List (Str × V),(E9 f v fs).lookup g=if g=f then some v else fs.lookup g
 | []=>by
  show cT g [(f,v)]=_;by_cases h:g=f
  .have hb:(g == f)=true:=beq_iff_eq.mpr h
   simp only[cT,hb,if_pos h]
  .have hb:(g == f)=false:=beq_eq_false_iff_ne.mpr h
   simp only[cT,hb,if_neg h]
 | (k,x)::r=>by
  have ih:=sO f g v r;rw[show E9 f v ((k,x)::r)=(if k=f then (k,v)::r else (k,x)::E9 f v r) from rfl];by_cases hk:k=f
  .rw[if_pos hk]
   by_cases h:g=k
   .have hb:(g == k)=true:=beq_iff_eq.mpr h
    simp only[cT,hb,if_pos (h.trans hk)]
   .have hb:(g == k)=false:=beq_eq_false_iff_ne.mpr h
    simp only[cT,hb,if_neg (λe:g=f=>h (e.trans hk.symm))]
  .rw[if_neg hk]
   by_cases h:g=k
   .have hb:(g == k)=true:=beq_iff_eq.mpr h
    simp only[cT,hb,if_neg (λe:g=f=>hk (h.symm.trans e))]
   .have hb:(g == k)=false:=beq_eq_false_iff_ne.mpr h
    simp only[cT,hb];exact ih
theorem qc.some_of (r:qc (some v) o):∃u,o=some u/\RelV v u:=by
 cases o with
 | none=>exact (show False from r).elim
 | some u=>exact⟨u,rfl,r⟩
section
theorem Ly (hok:lX P w H h)(e:H a=some (.ins C dx fs)):∃mA,Pe h a dx C mA/\(∀f,qc (fs.lookup f) (mA f))/\PySem.Within mA (fs.map (·.1))/\fs.length<=1000/\H dx=some (.own a):=by
 obtain⟨d,z,ne,ob,mA,n,r,q⟩:=(show fM P w H h a (.ins C dx fs) from hok a _ e);exact⟨mA,⟨ob,n,ne⟩,r,q,z,d⟩
end
structure Wm (K:W.Frag) (C:Addr):Prop where
 pg:W.plainGet K C Str.empty=true
 hd:W.hasDictIn K C=true
 po:W.plainOver K C=true
 sa:W.findIn K (.ref C) "__setattr__" = some (some (.builtin "object.__setattr__"))
theorem Wm.get {K:W.Frag}{C:Addr}(c:Wm K C)(f:Str):W.plainGet K C f=true:=c.pg
section
inductive oV (K:W.Frag) (H:Hp):V->af->Prop where
 | iZ:oV K H .iZ (.type "NoneType")
 | bl (x:Bool):oV K H (.bl x) (.type "bool")
 | int (i:Int):oV K H (.int i) (.type "int")
 | str (x:Str):oV K H (.str x) (.type "str")
 | Ru (x:UInt64):oV K H (.Ru x) (.type "float")
 | lst {a:Addr} {xs:List V} (e:H a=some (.lst xs)):oV K H (.ref a) (.type "list")
 | uH {a:Addr} {o:Obj} {xs:List V} (e:H a=some (.uH o (.lst xs))):oV K H (.ref a) (.type "list")
 | tup {a:Addr} {xs:List V} (e:H a=some (.tup xs)):oV K H (.ref a) (.type "tuple")
 | dK {a:Addr} {kvs:List (Key × V)} (e:H a=some (.dK kvs)):oV K H (.ref a) (.type "dict")
 | dT {a:Addr} {kvs:List (List Key × V)} (e:H a=some (.dT kvs)):oV K H (.ref a) (.type "dict")
 | ins {a C dx:Addr} {fs:List (Str × V)} (e:H a=some (.ins C dx fs)) (cl:Wm K C) (ha:W.findIn K (.ref C) "__class__" = some (some (.builtin "object.__class__")))
   (hn:W.specialIn K (.builtin "object.__class__") "__get__" = some (some (.builtin "getset_descriptor.__get__"))) (Y3:W.takesIn K (.builtin "object.__class__")=some true)
   (hm:W.mroIn K C (.type "object")=some true):oV K H (.ref a) (.ref C)
theorem Fb {x:V}{u t:af}(I:Inv X pins σ H s)(rx:RelV x u)(ty:oV X.K H x t)(e:W.kitOne X.K t c=some b)(h:∀tk,Q (.bool b) { s with toks:=tk }) :
  aA (model X.prog X.w) A (call (.builtin "isinstance") [u,c]) Q E s:=by
 cases ty with
 | iZ=>cases (show u=af.none from rx);exact W.kia_one W.kitx_none I.rF True.intro e (λz=>nomatch z) h
 | bl y=>cases (show u=af.bool y from rx);exact W.kia_one W.kitx_bool I.rF True.intro e (λz=>nomatch z) h
 | int i=>obtain⟨t,q⟩:=(show ∃t,u=af.int i t from rx);cases q;exact W.kia_one W.kitx_int I.rF True.intro e (λz=>nomatch z) h
 | str y=>obtain⟨t,q⟩:=(show ∃t,u=af.str y t from rx);cases q;exact W.kia_one W.kitx_str I.rF True.intro e (λz=>nomatch z) h
 | Ru y=>obtain⟨t,q⟩:=(show ∃t,u=af.float y t from rx);cases q;exact W.kia_one W.kitx_float I.rF True.intro e (λz=>nomatch z) h
 | @lst a xs ea =>
  cases (show u=af.ref a from rx);obtain⟨_,_,n,_,h1⟩:=(show fM X.prog X.w H s.heap a (.lst xs) from I.hok a _ ea);exact W.kia_one W.kitx_list I.rF ⟨_,h1,rfl⟩ e (λz=>nomatch z) h
 | @uH a ob xs ea =>
  cases (show u=af.ref a from rx);obtain⟨_,_,_,n,_,h1⟩:=(show fM X.prog X.w H s.heap a (.uH ob (.lst xs)) from I.hok a _ ea);exact W.kia_one W.kitx_list I.rF ⟨_,h1,rfl⟩ e (λz=>nomatch z) h
 | @tup a xs ea =>
  cases (show u=af.ref a from rx);obtain⟨_,_,_,p⟩:=(show fM X.prog X.w H s.heap a (.tup xs) from I.hok a _ ea);obtain⟨o,h1,h2,_⟩:=p;exact W.kia_one W.kitx_tuple I.rF ⟨o,h1,h2⟩ e (λz=>nomatch z) h
 | @dK a kvs ea =>
  cases (show u=af.ref a from rx);obtain⟨_,_,vs,_,p⟩:=(show fM X.prog X.w H s.heap a (.dK kvs) from I.hok a _ ea);obtain⟨o,es,ep,h1,h2,_⟩:=p;exact W.kia_one W.kitx_dict I.rF ⟨o,h1,h2.1⟩ e (λz=>nomatch z) h
 | @dT a kvs ea =>
  cases (show u=af.ref a from rx);obtain⟨_,_,xs,_,o,es,ep,h1,h2,_⟩:=(show fM X.prog X.w H s.heap a (.dT kvs) from I.hok a _ ea);exact W.kia_one W.kitx_dict I.rF ⟨o,h1,h2.1⟩ e (λz=>nomatch z) h
 | @ins a C dx fs ea cl ha hn Y3 hm =>
  cases (show u=af.ref a from rx);obtain⟨mA,O,_⟩:=Ly I.hok ea;obtain⟨od,J,_⟩:=O.look;exact W.kia_one (W.kitx_own (cl.get _) cl.hd ha hn Y3 hm) I.rF J e (λz=>nomatch z) h
end
structure gi (k:Nat) (A:Around):Prop where
 hd:A.handled=none
 dp:A.depth+3 * k+5<recursionLimit
 un:A.units+16 * k+200<cLine
 gd:A.guards=some []
theorem gi.mono (r:gi k A)(h:j<=k):gi j A:=⟨r.hd,by have:=r.dp;omega,by have:=r.un;omega,r.gd⟩
theorem gi.deeper (r:gi (k+1) A)(env:Env):gi k (A.deeper env) :=
 ⟨r.hd,by have:=r.dp;show A.depth+1+3 * k+5<_;omega,by have:=r.un;show A.units+3+16 * k+200<_;omega,r.gd⟩
theorem Cf {A:Around}{C:Addr}{us:List af}{kw:List (Str × af)}:(A.under (.builtin "type.__call__" ⟨.ref C::us,kw⟩)).depth=A.depth+1:=by
 first | rfl | simp[Around.under,Code.weight,Code.isCreation,Code.isGuard,Code.isCaller,Code.frames,Code.isFrame,guardIds]
theorem Cg {A:Around}{C:Addr}{us:List af}{kw:List (Str × af)}:(A.under (.builtin "type.__call__" ⟨.ref C::us,kw⟩)).units=A.units+1:=by
 first | rfl | simp[Around.under,Code.cUnits,Code.frames,Code.isFrame]
theorem gi.make (r:gi (k+1) A)(C:Addr)(us:List af)(kw:List (Str × af)):gi k (A.under (.builtin "type.__call__" ⟨.ref C::us,kw⟩)) :=
 ⟨r.hd,by have:=r.dp;rw[Cf];omega,by have:=r.un;rw[Cg];omega,by first | exact r.gd | (have:=r.gd;simpa [Around.under,Code.isGuard,guardIds] using this)⟩
theorem gi.depth (r:gi k A):A.depth<recursionLimit:=by have:=r.dp;omega
theorem gi.units (r:gi k A):A.units+64<cLine:=by have:=r.un;omega
noncomputable def Pg:TA:=λ_ H Q=>Q [] H
noncomputable def HC (ta:TE)(tr:TA):TA:=λσ H Q=>ta σ H λx H1=>tr σ H1 λxs H2=>Q (x::xs) H2
section
variable {X:Cx}{e:Expr}{es:List Expr}{te:TE}{t:TA}{pos:Pos}
theorem Ph:PA X [] Pg:=λ_ _ _ _ H Q I h=>Calls.spliced_nil ⟨[],H,I,.nil,h⟩
theorem Lz (ha:PE X e te)(hr:PA X es t)(hs:starEach (e::es) X.env=(false,eval e X.env)::starEach es X.env:=by rfl):PA X (e::es) (HC te t):=by
 intro pos pins s σ H Q I h;rw[hs];show aA _ _ (spliced ((false,eval e X.env)::backTo pos (starEach es X.env))) _ _ s;refine Calls.spliced_cons (f6 (ha pins s σ H _ I h) λu s1 ⟨x,H1,I1,r1,q1⟩=>?_);exact f6 (hr pos pins s1 σ H1 _ I1 q1) λus s2 ⟨xs,H2,I2,r2,q2⟩=>⟨x::xs,H2,I2,.cons r1 r2,q2⟩
noncomputable def SD (t:TA):TE:=λσ H Q=>t σ H λxs H1=>xs.length<=av/\∀p,H1 p=none->Q (.ref p) (eM H1 p (.tup xs))
noncomputable def SE (t:TA):TE:=λσ H Q=>t σ H λxs H1=>xs.length<=av/\∀p,H1 p=none->Q (.ref p) (eM H1 p (.lst xs))
theorem Pj {x1}(h:PA X es t):PE X (.Tuple es x1 pos) (SD t):=by
 intro pins s σ H Q I hq;refine wpAny_Tuple_spliced (f6 (h pos pins s σ H _ I hq) λus s1 ⟨xs,H1,I1,r,z,q⟩=>⟨by rw[<- r.length];exact z,?_⟩);have hf:H1 s1.heap.objs.size=none:=I1.hok.fresh (ag _);refine⟨.ref s1.heap.objs.size,eM H1 s1.heap.objs.size (.tup xs),I1.laid (t':=s1.toks) (λb u e=>ai _ e) (ag _) ?_,rfl,q _ hf⟩;exact⟨z,us,r,⟨_,aE _ rfl,rfl,_,rfl,rfl⟩⟩
theorem Pk (h:PA X es t):PE X (.List es pos) (SE t):=by
 intro pins s σ H Q I hq;refine wpAny_List_spliced (f6 (h pos pins s σ H _ I hq) λus s1 ⟨xs,H1,I1,r,z,q⟩=>⟨by rw[<- r.length];exact z,?_⟩);have hf:H1 s1.heap.objs.size=none:=I1.hok.fresh (ag _);refine⟨.ref s1.heap.objs.size,eM H1 s1.heap.objs.size (.lst xs),I1.laid (t':=s1.toks) (λb u e=>ai _ e) (ag _) ?_,rfl,q _ hf⟩;exact⟨z,us,0,r,aE _ rfl⟩
end
noncomputable abbrev Sp:=List V->Hp->VK->XK->Prop
noncomputable abbrev G':=List Env->Hp->aw->XK->af->aw->Prop
structure Ci (P:aZ) (w:World) (K:W.Frag) (mg:Str->Option af) (base:Heap) (A:Around) (outer:List Env) (s:aw) (H:Hp):Prop where
 frames:A.frames=some outer
 mod:Mod K mg base
 bs:∀b o,base.get? b=some o->s.heap.get? b=some o/\H b=none
 Lf:base.objs.size<=s.heap.objs.size
 rE:s.heap.FunFrames base outer
 Nq:∀b∈pb outer,H b=none
 hok:lX P w H s.heap
 bare:AllBare s.gens
noncomputable def CE (outer:List Env)(P:aZ)(w:World)(H:Hp)(s:aw)(Q:VK)(u:af)(s':aw):Prop :=
 ∃v H',s'.os=s.os/\AllBare s'.gens/\Un (pb outer) [] H H' s.heap s'.heap/\lX P w H' s'.heap/\RelV v u/\Q v H'
noncomputable def CR (CX:G')(outer:List Env)(P:aZ)(w:World)(H:Hp)(s:aw)(Q:VK)(E:XK)(r:Result)(s':aw):Prop :=
 match r with
 | .ok (.ret u)=>CE outer P w H s Q u s'
 | .ok _=>False
 | .error e=>CX outer H s E e s'
structure jX (P:aZ) (w:World) (K:W.Frag) (mg:Str->Option af) (base:Heap) (CX:G') (k:Nat) (f:Addr) (fd:bq) (ps:List Str) (sp:Sp):Prop where
 len:∀vs H Q E,sp vs H Q E->vs.length=ps.length
 run:∀(A:Around) (outer:List Env) (s:aw) (H:Hp) (args:Args) (us:List af) (vs:List V) (Q:VK) (E:XK),gi k A->Ci P w K mg base A outer s H->BindsTo s fd args (ps.zip us)->eA vs us->sp vs H Q E ->
  codeAny (model P w) A (.call (.ref f) args) (CR CX outer P w H s Q E) s
theorem jX.mono {P:aZ}{w:World}{K:W.Frag}{mg:Str->Option af}{base:Heap}{CX:G'}{j k:Nat}{f:Addr}{fd:bq}{ps:List Str}{sp:Sp}(F:jX P w K mg base CX j f fd ps sp)(h:j<=k) :
  jX P w K mg base CX k f fd ps sp:=⟨F.len,λA outer s H args us vs Q E hr=>F.run A outer s H args us vs Q E (hr.mono h)⟩
theorem jX.imp {P:aZ}{w:World}{K:W.Frag}{mg:Str->Option af}{base:Heap}{CX:G'}{k:Nat}{f:Addr}{fd:bq}{ps:List Str}{sp SG:Sp}(F:jX P w K mg base CX k f fd ps sp)
  (h:∀vs H Q E,SG vs H Q E->sp vs H Q E):jX P w K mg base CX k f fd ps SG :=
 ⟨λvs H Q E q=>F.len vs H Q E (h _ _ _ _ q),λA outer s H args us vs Q E hr he hb hv hs=>F.run A outer s H args us vs Q E hr he hb hv (h _ _ _ _ hs)⟩
theorem Ci.make {P:aZ}{w:World}{K:W.Frag}{mg:Str->Option af}{base:Heap}{A:Around}{outer:List Env}{s:aw}{H:Hp}(e:Ci P w K mg base A outer s H)(C:Addr)(us:List af)(kw:List (Str × af)) :
  Ci P w K mg base (A.under (.builtin "type.__call__" ⟨.ref C::us,kw⟩)) outer s H:=⟨by first | exact e.frames | (simpa [Around.under,Code.envs,Code.isFrame,pushEnvs] using e.frames),e.mod,e.bs,e.Lf,e.rE,e.Nq,e.hok,e.bare⟩
section
theorem Inv.Pm (I:Inv X pins σ H s):Ci X.prog X.w X.K X.mg X.base X.A X.stack s H :=
 ⟨I.ok.frames,I.ok.mod,I.bs,aL I.ok.Lf I.sz,I.stack,I.tS,I.hok,I.bare⟩
theorem Inv.after {Q:VK}{u:af}(I:Inv X pins σ H s)(h:CE X.stack X.prog X.w H s Q u s'):EP X pins σ Q u s':=by
 obtain⟨v,H',os,bare,un,hok,r,q⟩:=h;obtain⟨hh,g,d,t,Wn⟩:=s';obtain rfl:Wn=s.os:=os;exact⟨v,H',I.call (h':=hh) (g':=g) (d':=d) (t':=t) (ch:=[]) un hok bare (λb z=>absurd z (!4)),r,q⟩
end
noncomputable def HD (sp:Sp)(Pn:List V)(E:XK)(t:TA):TE:=λσ H Q=>t σ H λvs H1=>sp (vs++Pn) H1 Q E
noncomputable def Binds (K:W.Frag)(fd:bq)(ps:List Str)(ds:List af):Prop :=
 ∀(s:aw) (us:List af),K.In s.heap->(us++ds).length=ps.length->BindsTo s fd ⟨us,[]⟩ (ps.zip (us++ds))
theorem Binds.all {K:W.Frag}{fd:bq}{ps:List Str}(h:∀us:List af,us.length=ps.length->bindArgs fd ⟨us,[]⟩=pure (ps.zip us)):Binds K fd ps []:=λs us _ hl=>by
 rw[bt] at hl ⊢;exact .of_eq (h us hl)
noncomputable def Cj (CX:G')(X:Cx)(E:XK):Prop:=∀(pins:List (Addr × Obj)) (σ:St) (H:Hp) (s:aw) (e:af) (s':aw),Inv X pins σ H s->CX X.stack H s E e s'->X.xe e s'
section
theorem Po {pins:List (Addr × Obj)}{σ:St}{H:Hp}{s:aw}{Q:VK}{us:List af}{vs:List V}(F:jX X.prog X.w X.K X.mg X.base CX k f fd ps sp)(hr:gi k X.A)(hb:Binds X.K fd ps ds)(hd:eA Pn ds)(hx:Cj CX X E)
  (I:Inv X pins σ H s) (r:eA vs us) (h:sp (vs++Pn) H Q E):aA (model X.prog X.w) X.A (call (.ref f) us) (EP X pins σ Q) X.xe s:=by
 have r2:eA (vs++Pn) (us++ds):=r.append hd;have hl:(us++ds).length=ps.length:=by rw[<- r2.length];exact F.len _ _ _ _ h
 refine wpAny_call (codeAny_mono (F.run X.A X.stack s H ⟨us,[]⟩ (us++ds) (vs++Pn) Q E hr I.Pm (hb s us I.rF hl) r2 h) λr s' hq=>?_)
 cases r with
 | error e=>exact hx pins σ H s e s' I hq
 | ok fl =>
  cases fl with
  | ret u=>exact I.after hq
  | next=>exact False.elim hq
  | brk=>exact False.elim hq
  | cont=>exact False.elim hq
theorem LA (F:jX X.prog X.w X.K X.mg X.base CX k f fd ps sp)(hr:gi k X.A)(hg:Gl X x)(hm:X.mg x=some (.ref f))(hk:W.keepIn X.K (.ref f)=true)(hb:Binds X.K fd ps ds)(hd:eA Pn ds)(hx:Cj CX X E)
  (ha:PA X (e::es) t) (nB:(x == ("__debug__" : Str))=false:=by decide) (he:starEach (e::es) X.env=(false,eval e X.env)::starEach es X.env:=by rfl) (mB:(backTo pos (starEach es X.env)).any (·.1)=false:=by rfl) :
  PE X (.Call (.Name x p) (e::es) [] pos) (HD sp Pn E t):=by
 intro pins s σ H Q I h;refine wpAny_Call_Name_kw (tV I hg hm ?_ nB);refine W.callWith_K (h₀:=X.base) I.ok.mod.R3 hk (f6 (ha pos pins s σ H _ I h) λus s1 ⟨vs,H1,I1,r,q⟩=>⟨I1.rF,?_⟩) he mB;exact Po F hr hb hd hx I1 r q
end
structure fK (N P:List Str) (sc:Scope):Prop where
 kind:sc.kind=.function
 co:sc.isCoroutine=false
 gen:sc.isGenerator=false
 nd:N.Nodup
 pre:N.take P.length=P
 par:∀x∈P,sc.names.lookup x=some .local\/sc.names.lookup x=some .cell
 Pp:∀y∈sc.names,y.2≠.free
theorem xx {kindOf:Str->Option aO}{x:Str}:∀{binds:List (Str × af)} {m:Str->Option af},(∀v,(x,v) ∉ binds)->bindL kindOf binds m x=m x
 | [],_,_=>rfl
 | (n,v)::r,m,h=>by
  unfold bindL;rw[xx λw hw=>h w (ao _ hw)];split
  .have:x≠n:=by rintro rfl;exact h v aq
   simp[this]
  .rfl
theorem xy {kindOf:Str->Option aO}{x:Str}:∀{binds:List (Str × af)} {m:Str->Option af},(∀v,(x,v) ∉ binds)->bindC kindOf binds m x=m x
 | [],_,_=>rfl
 | (n,v)::r,m,h=>by
  unfold bindC;rw[xy λw hw=>h w (ao _ hw)];split
  .rfl
  .have:x≠n:=by rintro rfl;exact h v aq
   simp[this]
theorem xA {kindOf:Str->Option aO}{x:Str}{v:af}:∀{P:List Str} {vs:List af} {i:Nat} {m:Str->Option af},P.Nodup->P[i]? = some x->vs[i]? = some v->kindOf x=some .local ->
  bindL kindOf (P.zip vs) m x=some v
 | [],_,_,_,_,h,_,_=>by simp at h
 | _::_,[],_,_,_,_,h,_=>by simp at h
 | p::P,w::vs,0,m,nd,h1,h2,hk=>by
  simp at h1 h2;subst h1;subst h2;show bindL kindOf ((p,w)::P.zip vs) m p=_;unfold bindL;rw[xx λv hv=>(bJ.mp nd).1 (List.of_mem_zip hv).1,if_pos hk];simp
 | p::P,w::vs,i+1,m,nd,h1,h2,hk=>by
  show bindL kindOf ((p,w)::P.zip vs) m x=_;unfold bindL;exact xA (i:=i) (bJ.mp nd).2 (by simpa using h1) (by simpa using h2) hk
theorem xB {kindOf:Str->Option aO}{x:Str}{v:af}:∀{P:List Str} {vs:List af} {i:Nat} {m:Str->Option af},P.Nodup->P[i]? = some x->vs[i]? = some v->kindOf x≠some .local ->
  bindC kindOf (P.zip vs) m x=some v
 | [],_,_,_,_,h,_,_=>by simp at h
 | _::_,[],_,_,_,_,h,_=>by simp at h
 | p::P,w::vs,0,m,nd,h1,h2,hk=>by
  simp at h1 h2;subst h1;subst h2;show bindC kindOf ((p,w)::P.zip vs) m p=_;unfold bindC;rw[xy λv hv=>(bJ.mp nd).1 (List.of_mem_zip hv).1,if_neg hk];simp
 | p::P,w::vs,i+1,m,nd,h1,h2,hk=>by
  show bindC kindOf ((p,w)::P.zip vs) m x=_;unfold bindC;exact xB (i:=i) (bJ.mp nd).2 (by simpa using h1) (by simpa using h2) hk
noncomputable def start (N:List Str)(vs:List V):St:=vs.map some++List.replicate (N.length - vs.length) none
noncomputable def mI (CX:G')(P:aZ)(w:World)(K:W.Frag)(mg:Str->Option af)(base:Heap)(N:List Str)(fz:Str)(scope:Scope)(f:Addr)(cd:af)(A:Around)(outer:List Env)(s:aw)(H:Hp)(E:XK):Cx where
 prog:=P
 w:=w
 K:=K
 mg:=mg
 base:=base
 A:=A.deeper (envOfC fz scope s.heap.objs.size f cd)
 N:=N
 s₀:=s
 H₀:=H
 env:=envOfC fz scope s.heap.objs.size f cd
 outer:=outer
 stack:=envOfC fz scope s.heap.objs.size f cd::outer
 ex:=[]
 calm:=true
 fn:=λ_=>true
 pn:=[]
 xe:=λe s'=>aA (model P w) (A.deeper (envOfC fz scope s.heap.objs.size f cd)) (leaving (envOfC fz scope s.heap.objs.size f cd) e) (λ_ Pq=>CX outer H s E e Pq) (λe' Pq=>CX outer H s E e' Pq) s'
theorem Ab {sc:Scope}{n:Nat}{x:Str}(h:sc.names.lookup x=some .cell):∃c,(cellsFrom n sc.names []).lookup x=some c:=by
 have q:=W.cellsFrom_some sc.names n [] (.inl h);exact bO.mp q
theorem Fc {CX:G'}{P:aZ}{w:World}{K:W.Frag}{mg:Str->Option af}{base:Heap}{N ps:List Str}{fz:Str}{scope:Scope}{f:Addr}{cd:af}{A:Around}{outer:List Env}{s s1:aw}{H:Hp}{E:XK}{us:List af}{vs:List V}
  (S:fK N ps scope) (hd:A.handled=none) (e0:Ci P w K mg base A outer s H) (hl:vs.length=ps.length) (r:eA vs us)
  (x:InCallC s s.heap.objs.size (bindL (envOfC fz scope s.heap.objs.size f cd).kindOf (ps.zip us) λ_=>none) (cellsFrom (s.heap.objs.size+1) scope.names []) (bindC (envOfC fz scope s.heap.objs.size f cd).kindOf (ps.zip us) λ_=>none) s1) :
  Inv (mI CX P w K mg base N fz scope f cd A outer s H E) [] (start N vs) H s1:=by
 have mB:ps.length<=N.length:=by have:=congrArg List.length S.pre;rw[bf] at this;omega
 obtain⟨h1,tk,rfl,hk⟩:=x.done;have SH:∀b:Addr,b ∉ (mI CX P w K mg base N fz scope f cd A outer s H E).ex:=λb z=>absurd (show b∈([]:List Addr) from z) (!4)
 refine⟨⟨e0.mod,S.kind,rfl,rfl,ag _,λy z c h1 h2=>?_,λy hy=>?_,λy c _ h=>?_,λ_=>hd,Around.frames_deeper e0.frames,.inr ⟨rfl,rfl⟩,λb z=>absurd z (SH b),e0.bs,e0.Lf,λb _ _=>SH b,λb z=>absurd z (SH b),e0.rE,e0.Nq⟩,
  rfl,e0.bare,Un.kept hk,⟨_,x.toInCall.ns,λi y v h1 h2 h3=>?_⟩,λy c h=>⟨_,x.cell y c h⟩,e0.hok.fresh (ag _),λy c h=>?_,λp hp=>absurd (show p∈([]:List (Addr × Obj)) from hp) (!4),e0.hok.kept hk,?_⟩
 .exact name_of_addr x.apart (PySem.mem_of_lookup h1) (PySem.mem_of_lookup h2)
 .have hy:scope.names.lookup y=some .cell\/scope.names.lookup y=some .free:=hy
  rcases hy with hy | hy
  .exact Ab hy
  .exact absurd rfl (S.Pp _ (PySem.mem_of_lookup hy))
 .exact dc (x.above y c (PySem.mem_of_lookup h))
 .have hi:i<vs.length:=by
   unfold start at h2;by_cases hi:i<vs.length
   .exact hi
   .rw[ce (by simpa using hi)] at h2
    rw[cm] at h2;split at h2<;>cases h2
  have ha:vs[i]? = some v:=by
   unfold start at h2;rw[bY (by simpa using hi),aB] at h2
   cases e:vs[i]? with
   | none=>rw[e] at h2;cases h2
   | some a=>rw[e] at h2;cases h2;rfl
  obtain⟨u,hu,rv⟩:=r.get ha
  have hp:ps[i]? = some y:=by
   rw[<- S.pre,List.getElem?_take_of_lt (!1)];exact h1
  have Y4:ps.Nodup:=by rw[<- S.pre];exact S.nd.sublist (List.take_sublist _ _)
  refine⟨u,rv,?_⟩;rcases S.par y (bC hp) with k | k
  .exact .inl ⟨k,xA Y4 hp hu k⟩
  .obtain⟨c,e⟩:=Ab (n:=s.heap.objs.size+1) k
   refine .inr ⟨.inl k,c,e,?_⟩;have q:=x.cell y c e;rw[xB Y4 hp hu (by show scope.names.lookup y≠_;rw[k];decide)] at q;exact q
 .exact e0.hok.fresh (dc (x.above y c (PySem.mem_of_lookup h)))
 .unfold start
  show _=N.length;rw[au,ah,cR];omega
theorem NH {CX:G'}{P:aZ}{w:World}{K:W.Frag}{mg:Str->Option af}{base:Heap}{k:Nat}{f:Addr}{name fz:Str}{params:Arguments}{body:List Stmt}{scope:Scope}{dV kV uT pm fg ct oc:af}{an od:Option Addr}
  {DW:Array (Option af)} {N ps:List Str} {sp:Sp} (lk:K.lookup f=some ⟨oc,od,.func (W.fnOf name fz params body scope dV kV uT pm an fg ct),DW⟩) (kG:W.codeIn K fg fz=true) (S:fK N ps scope)
  (len:∀vs H Q E,sp vs H Q E->vs.length=ps.length)
  (uU:∀(A:Around) (outer:List Env) (s:aw) (H:Hp) (vs:List V) (Q:VK) (E:XK),gi k (A.deeper (envOfC fz scope s.heap.objs.size f fg))->sp vs H Q E ->
   ∃t,B1 (mI CX P w K mg base N fz scope f fg A outer s H E) body t/\t { nx:=λ_ H'=>Q .iZ H',rt:=Q } (start N vs) H) :
  jX P w K mg base CX (k+1) f (W.fnOf name fz params body scope dV kV uT pm an fg ct) ps sp:=by
 refine⟨len,λA outer s H args us vs Q E hr e0 hb r zX=>?_⟩;have hl:=len _ _ _ _ zX;have KX:K.In s.heap:=e0.mod.R3.keeps λb o e=>(e0.bs b o e).1;have lim:s.heap.NoLimit:=e0.mod.nolimit.keeps λb o e=>(e0.bs b o e).1
 have SI:∀y∈ps.zip us,scope.names.lookup y.1=some .local\/(scope.names.lookup y.1=some .cell/\((cellsFrom (s.heap.objs.size+1) scope.names []).lookup y.1).isSome=true):=λ⟨n,v⟩ hy=>by
  rcases S.par n (List.of_mem_zip hy).1 with q | q
  .exact .inl q
  .exact .inr ⟨q,W.cellsFrom_some _ _ _ (.inl q)⟩
 refine codeAny_call_function hr.depth (KX _ _ lk) rfl S.co S.gen rfl (W.codeRec_of KX kG) (hb _ _ _ _ ?_);refine wpAny_newFunctionEnv_cells S.kind SI λenv he s1 x=>?_;subst he;refine⟨lim.keeps x.toInCall.keep,codeAny_func ?_⟩;obtain⟨t,ht,hq⟩:=uU A outer s H vs Q E (hr.deeper _) zX;have I:Inv (mI CX P w K mg base N fz scope f fg A outer s H E) [] (start N vs) H s1:=Fc S hr.hd e0 hl r x;refine bF (ht [] s1 (start N vs) H _ I hq) (λfl s' hs=>?_) λe s' hs=>hs
 have ib:∀{σ':St} {H':Hp} {v:V} {u:af},Inv (mI CX P w K mg base N fz scope f fg A outer s H E) [] σ' H' s'->RelV v u->Q v H'->CE outer P w H s Q u s' :=
  λ{σ' H' v u} J rv q=>⟨v,H',J.os,J.bare,J.base,J.hok,rv,q⟩
 cases fl with
 | ret u =>
  obtain⟨v,σ',H',J,rv,q⟩:=hs;exact ib J rv q
 | next =>
  obtain⟨σ',H',J,q⟩:=hs;exact ib (v:=V.iZ) (u:=af.none) J rfl q
 | brk =>
  obtain⟨_,_,_,q⟩:=hs;exact False.elim q
 | cont =>
  obtain⟨_,_,_,q⟩:=hs;exact False.elim q
section
variable {X:Cx}{x:Str}{p pos:Pos}{e:Expr}{es:List Expr}{t:TA}{id T:String}{r:List V->Hp->VK->Prop}
noncomputable def SJ (r:List V->Hp->VK->Prop)(t:TA):TE:=λσ H Q=>t σ H λvs H1=>r vs H1 Q
theorem HE (hc:gn X (.builtin id) r)(hg:Gl X x)(hm:X.mg x=none)(hv:bootBuiltins x=some (.builtin id))(ha:PA X (e::es) t)(hn:x ≠ "__name__" := by decide)(nB:(x == ("__debug__" : Str))=false:=by decide)
  (he:starEach (e::es) X.env=(false,eval e X.env)::starEach es X.env:=by rfl) (mB:(backTo pos (starEach es X.env)).any (·.1)=false:=by rfl):PE X (.Call (.Name x p) (e::es) [] pos) (SJ r t):=by
 intro pins s σ H Q I h;refine wpAny_Call_Name_kw (uM I hg hm hv ?_ hn nB);exact PyProof.Rows.callWith_builtin1 (f6 (ha pos pins s σ H _ I h) λus s1 ⟨vs,H1,I1,r1,q1⟩=>hc pins s1 σ H1 vs us Q I1 r1 q1) he mB
theorem Fd (hc:gn X (.type T) r)(hg:Gl X x)(hm:X.mg x=none)(hv:bootBuiltins x=some (.type T))(ha:PA X (e::es) t)(hn:x ≠ "__name__" := by decide)(nB:(x == ("__debug__" : Str))=false:=by decide)
  (he:starEach (e::es) X.env=(false,eval e X.env)::starEach es X.env:=by rfl) (mB:(backTo pos (starEach es X.env)).any (·.1)=false:=by rfl):PE X (.Call (.Name x p) (e::es) [] pos) (SJ r t):=by
 intro pins s σ H Q I h;refine wpAny_Call_Name_kw (uM I hg hm hv ?_ hn nB);exact PyProof.Rows.callWith_type1 (f6 (ha pos pins s σ H _ I h) λus s1 ⟨vs,H1,I1,r1,q1⟩=>hc pins s1 σ H1 vs us Q I1 r1 q1) he mB
end
end L2
namespace HT
open PySem PyProof.Rows
section
theorem LB {t b:Addr}{vs ws:List af}{Q:af->aw->Prop}(ht:IsTup s.heap t vs.toArray)(hb:IsTup s.heap b ws.toArray)(hv:vs≠[])
  (h1:ws=[]->Q (.ref t) s) (h2:ws≠[]->Q (.ref s.heap.objs.size) { s with heap:=s.heap.push { cls:=.type "tuple",data:=.seq (vs++ws).toArray } })
  (hsz:vs.length+ws.length<=av):aA (model prog w) A (binaryOp .Add (.ref t) (.ref b)) Q E s:=by
 obtain⟨⟨cls,dd,data,sl⟩,ho,hc,n,hd⟩:=id ht;obtain⟨⟨Wo,VG,data2,NI⟩,Pr,Pt,n2,LC⟩:=id hb;simp only at hc hd Pt LC;subst hc hd Pt LC;have e:vs.toArray++ws.toArray=(vs++ws).toArray:=by simp
 by_cases hw:ws=[]
 .exact concat_meets ⟨_,ho,rfl⟩ ⟨_,Pr,rfl⟩ noFill_tuple_add seq_tuple_add PySem.F.slot_tuple_add PySem.F.entry_tuple_add (PySem.F.args_tuple_add_2 _ _)
   (tuple_addW1 t b vs.toArray ws.toArray n n2 dd VG sl NI (by simpa using hv) (by simp[hw])) ⟨ho,Pr,h1 hw⟩
 .refine concat_meets ⟨_,ho,rfl⟩ ⟨_,Pr,rfl⟩ noFill_tuple_add seq_tuple_add PySem.F.slot_tuple_add PySem.F.entry_tuple_add (PySem.F.args_tuple_add_2 _ _)
   (tuple_addW2 t b vs.toArray ws.toArray n n2 dd VG sl NI (by simpa using hv) (by simpa using hw) (by rw[aC,aC];exact hsz)) ⟨ho,Pr,?_⟩
  rw[e];exact h2 hw
noncomputable def gZ (n d:Nat):Option Int->Nat
 | none=>d
 | some v=>if v<0 then (v+(n:Int)).toNat else min v.toNat n
theorem qd (n d:Nat):gZ n d none=d:=rfl
theorem tX (n d k:Nat):gZ n d (some (k:Int))=min k n:=by
 show (if (k:Int)<0 then ((k:Int)+(n:Int)).toNat else min (k:Int).toNat n)=min k n;rw[if_neg (!1),bj]
theorem Pu (n d:Nat)(hd:d<=n)(o:Option Int):gZ n d o<=n:=by
 cases o with
 | none=>exact hd
 | some v =>
  show (if v<0 then (v+(n:Int)).toNat else min v.toNat n)<=n;by_cases hv:v<0
  .rw[if_pos hv];omega
  .rw[if_neg hv];exact Nat.min_le_right _ _
theorem DX (v:Int)(n d:Nat):(if v<0 then max (v+(n:Int)) 0 else min v (n:Int))=((gZ n d (some v):Nat):Int):=by
 show (if v<0 then max (v+(n:Int)) 0 else min v (n:Int))=(((if v<0 then (v+(n:Int)).toNat else min v.toNat n):Nat):Int);by_cases hv:v<0
 .simp only[if_pos hv];omega
 .simp only[if_neg hv];omega
theorem Ck (lo hi:Option Int)(n:Nat):Builtin.Slice.sliceAdjust lo hi 1 (n:Int)=(((gZ n 0 lo:Nat):Int),((gZ n n hi:Nat):Int)):=by
 have h1:¬ ((1:Int)<0):=by omega
 unfold Builtin.Slice.sliceAdjust;simp only[h1,if_false];refine Prod.ext ?_ ?_
 .cases lo with
  | none=>rfl
  | some v=>exact DX v n 0
 .cases hi with
  | none=>rfl
  | some v=>exact DX v n n
theorem Cm (i j:Nat):Builtin.Slice.slicePlaces (i:Int) (j:Int) 1=j - i:=by
 unfold Builtin.Slice.slicePlaces;have h1:(1:Int) > 0:=by omega
 simp only[h1,if_true,cY];split<;>omega
theorem uV (p:IsPart v o)(h:Q o s):aA (model prog w) A (Builtin.Slice.slicePartIndex v) Q E s:=by
 cases p with
 | none=>exact slicePart_none h
 | int i t=>exact slicePart_int h
theorem lY {sl:Addr}{vl vu:af}{lo hi:Option Int}{n:Nat}{Q:Int × Int × Nat->aw->Prop}(hs:s.heap.IsSliceOf sl vl vu .none)(pl:IsPart vl lo)(pu:IsPart vu hi)
  (h:Q (((gZ n 0 lo:Nat):Int),1,gZ n n hi - gZ n 0 lo) s):aA (model prog w) A (Builtin.Slice.sliceApplied (.ref sl) (pure (n:Int))) Q E s:=by
 obtain⟨os,Fe,LD,KY⟩:=id hs;unfold Builtin.Slice.sliceApplied Builtin.Slice.sliceFields;refine ae (ae (wpAny_field Fe KY (x:=vl) rfl (ae (wpAny_field Fe KY (x:=vu) rfl (ae (wpAny_field Fe KY (x:=.none) rfl (ak ?_)))))));refine ae (slicePart_none ?_);show aA _ _ (if ((1:Int) == 0)=true then _ else _) _ _ s;rw[if_neg (!2)];refine ae (uV pl (ae (uV pu (ae (ak ?_)))));show aA _ _ (match Builtin.Slice.sliceAdjust lo hi 1 (n:Int) with | (lo,hi)=>pure (lo,(1:Int),Builtin.Slice.slicePlaces lo hi 1)) _ _ s;rw[Ck lo hi n];show aA _ _ (pure (((gZ n 0 lo:Nat):Int),(1:Int),Builtin.Slice.slicePlaces ((gZ n 0 lo:Nat):Int) ((gZ n n hi:Nat):Int) 1)) _ _ s;rw[Cm];exact ak h
theorem HF (xs:Array af)(i k:Nat):((List.range k).filterMap λ(m:Nat)=>xs[((i:Int)+(m:Int) * 1).toNat]?).toArray=((xs.toList.drop i).take k).toArray:=by
 have e:(λ(m:Nat)=>xs[((i:Int)+(m:Int) * 1).toNat]?)=λm=>xs[i+m]? := by
  funext m;have:((i:Int)+(m:Int) * 1).toNat=i+m:=by omega
  rw[this]
 rw[e];have:=pick_run xs i k;rw[List.filterMap_map] at this;have e2:((λx=>xs[x]?) ∘ λx=>i+x)=λm=>xs[i+m]? := rfl;rw[e2] at this;rw[this]
theorem qf {t sl:Addr}{items:Array af}{vl vu:af}{lo hi:Option Int}{Q:af->aw->Prop}(ht:IsTup s.heap t items)(hs:s.heap.IsSliceOf sl vl vu .none)(pl:IsPart vl lo)(pu:IsPart vu hi)
  (hw:¬ (gZ items.size 0 lo=0/\gZ items.size items.size hi=items.size))
  (h:Q (.ref s.heap.objs.size) { s with heap:=s.heap.push { cls:=.type "tuple",data:=.seq ((items.toList.drop (gZ items.size 0 lo)).take (gZ items.size items.size hi - gZ items.size 0 lo)).toArray } })
  (hsz:items.size<=av):aA (model prog w) A (getItem (.ref t) (.ref sl)) Q E s:=by
 have DY:sizeOk (.seq ((items.toList.drop (gZ items.size 0 lo)).take (gZ items.size items.size hi - gZ items.size 0 lo)).toArray):=by
  show ((items.toList.drop (gZ items.size 0 lo)).take (gZ items.size items.size hi - gZ items.size 0 lo)).toArray.size<=av;rw[aC,bf,bQ,bp];omega
 have hj:gZ items.size items.size hi<=items.size:=Pu _ _ (ag _) hi;obtain⟨os,Fe,LD,KY⟩:=id hs;have SK:s.TypeIs (.ref sl) "slice" := ⟨os,Fe,LD⟩;unfold getItem;try with_reducible refine wpAny_holding ?_
 first | refine ae (ak ?_) | skip
 refine ae (wpAny_sequenceKey ht.typeIs (!2) ?_)
 refine ae (wpAny_callSpecial?_slot (name:=Str.ofString "__getitem__") ht.typeIs PyProof.Rows.slot_tuple_getitem
  (wpAny_call_entry PyProof.Rows.slot_tuple_getitem ht.typeIs entry_tuple_getitem ?_ (args_tuple_getitem _ _)))
 show aA _ _ (Builtin.Tuple.tupleItemsOf (.ref t) >>= _) _ _ s;refine ae (tupleItemsOf_ ht ?_);refine ae (wpAny_typeOf SK ?_);rw[if_pos (!2)];refine ae (lY hs pl pu ?_)
 have SM:¬ ((((gZ items.size 0 lo:Nat):Int) == 0 && (1:Int) == 1 && (gZ items.size items.size hi - gZ items.size 0 lo) == items.size)=true):=by
  intro q;rw[aK,aK] at q;have q1:((gZ items.size 0 lo:Nat):Int)=0:=eq_of_beq q.1.1;have q2:gZ items.size items.size hi - gZ items.size 0 lo=items.size:=eq_of_beq q.2;exact hw ⟨!1,!1⟩
 show aA _ _ (if (((gZ items.size 0 lo:Nat):Int) == 0 && (1:Int) == 1 && (gZ items.size items.size hi - gZ items.size 0 lo) == items.size)=true then _ else _) _ _ s;rw[if_neg SM,HF]
 first
  | exact ae (m:=Builtin.Tuple.tupleExact _) (aW (ak ⟨_,rfl,ak h⟩) DY)
  | exact ae (m:=Builtin.Tuple.tupleExact _) (aW (ae (ak (ak ⟨_,rfl,ak h⟩))) DY)
  | exact ae (ae (m:=Builtin.Tuple.tupleExact _) (aW (ak (ak ⟨_,rfl,ak h⟩)) DY))
  | exact ae (ae (m:=Builtin.Tuple.tupleExact _) (aW (ak ⟨_,rfl,ak h⟩) DY))
end
end HT
namespace L2
open PySem PySem.Spec PyProof.Rows
noncomputable abbrev TO:=St->Hp->(Option Int->Hp->Prop)->Prop
noncomputable def PO (X:Cx)(e:Option Expr)(t:TO):Prop :=
 ∀(pins:List (Addr × Obj)) (s:aw) (σ:St) (H:Hp) (Q:Option Int->Hp->Prop),Inv X pins σ H s->t σ H Q ->
  aA (model X.prog X.w) X.A (evalPart e X.env) (λu s'=>∃o H',Inv X pins σ H' s'/\IsPart u o/\Q o H') X.xe s
noncomputable def DZ:TO:=λ_ H Q=>Q none H
noncomputable def NJ (t:TE):TO:=λσ H Q=>t σ H λx H1=>∃i,x=.int i/\Q (some i) H1
section
variable {X:Cx}{e:Expr}{te:TE}{lo hi:Option Expr}{tl th:TO}{pos p2:Pos}
theorem LG:PO X none DZ:=by
 intro pins s σ H Q I h;rw[evalPart_none];exact ak ⟨none,H,I,.none,h⟩
theorem LH (h:PE X e te):PO X (some e) (NJ te):=by
 intro pins s σ H Q I hw;rw[evalPart_some];refine f6 (h pins s σ H _ I hw) λu s1 ⟨x,H1,I1,r1,q1⟩=>?_;obtain⟨i,rfl,q⟩:=q1;obtain⟨t,rfl⟩:=r1;exact⟨some i,H1,I1,.int i t,q⟩
noncomputable def HG (X:Cx)(r:V->Option Int->Option Int->Hp->VK->Prop):Prop :=
 ∀(pins:List (Addr × Obj)) (s:aw) (σ:St) (H:Hp) (x:V) (v vl vu:af) (lo hi:Option Int) (sl:Addr) (Q:VK),Inv X pins σ H s->RelV x v->s.heap.IsSliceOf sl vl vu .none->IsPart vl lo->IsPart vu hi->r x lo hi H Q ->
  ∃T id,typeLookup (.type T) "__getitem__" = pure (some (.builtin id))/\s.TypeIs v T/\aA (model X.prog X.w) X.A (getItem v (.ref sl)) (EP X pins σ Q) X.xe s
theorem HG.or (h:HG X r)(h':HG X r'):HG X (λx lo hi H Q=>r x lo hi H Q\/r' x lo hi H Q):=by
 intro pins s σ H x v vl vu lo hi sl Q I rx hs pl pu q;rcases q with q | q
 .exact h pins s σ H x v vl vu lo hi sl Q I rx hs pl pu q
 .exact h' pins s σ H x v vl vu lo hi sl Q I rx hs pl pu q
noncomputable def Y5 (r:V->Option Int->Option Int->Hp->VK->Prop)(te:TE)(tl th:TO):TE:=λσ H Q=>te σ H λx H1=>tl σ H1 λl H2=>th σ H2 λu H3=>r x l u H3 Q
theorem HH {r:V->Option Int->Option Int->Hp->VK->Prop}(hr:HG X r)(he:PE X e te)(hl:PO X lo tl)(hu:PO X hi th):PE X (.Subscript e (.Slice lo hi none p2) pos) (Y5 r te tl th):=by
 intro pins s σ H Q I h;refine Subscript_ (f6 (he pins s σ H _ I h) λv s1 ⟨x,H1,I1,r1,q1⟩=>?_);refine wpAny_Slice (f6 (hl pins s1 σ H1 _ I1 q1) λvl s2 ⟨l,H2,I2,pl,q2⟩=>f6 (hu pins s2 σ H2 _ I2 q2) λvu s3 ⟨u,H3,I3,pu,q3⟩=>?_);rw[evalPart_none];refine ak ?_;have I4:Inv X pins σ H3 { s3 with heap:=s3.heap.push { cls:=.type "slice",data:=.fields #[vl,vu,.none] } }:=I3.kept (t':=s3.toks) λb ob q=>ai _ q;obtain⟨T,id,hT,ht,hg⟩:=hr pins { s3 with heap:=s3.heap.push { cls:=.type "slice",data:=.fields #[vl,vu,.none] } } σ H3 x v vl vu l u s3.heap.objs.size Q I4 r1 (Heap.IsSliceOf.new ..) pl pu q3;show aA (model X.prog X.w) X.A (subscriptTail e (.Slice lo hi none p2) v (.ref s3.heap.objs.size)) (EP X pins σ Q) X.xe { s3 with heap:=s3.heap.push { cls:=.type "slice",data:=.fields #[vl,vu,.none] } };exact tail_any (ops:=[.ref s3.heap.objs.size,v]) ht hT hg (by with_unfolding_all rfl)
noncomputable def qg (xs:List V)(lo hi:Option Int):List V:=(xs.drop (HT.gZ xs.length 0 lo)).take (HT.gZ xs.length xs.length hi - HT.gZ xs.length 0 lo)
theorem sP (xs:List V)(lo hi:Option Int):(qg xs lo hi).length<=xs.length:=by
 unfold qg;rw[bf,bQ];omega
noncomputable def Wq (K:W.Frag):V->Option Int->Option Int->Hp->VK->Prop:=λx lo hi H Q=>∃a xs,x=.ref a/\jl K H a xs /\
 ¬ (HT.gZ xs.length 0 lo=0/\HT.gZ xs.length xs.length hi=xs.length)/\∀p,H p=none->Q (.ref p) (eM H p (.tup (qg xs lo hi)))
theorem Pw:HG X (Wq X.K):=by
 intro pins s σ H x v vl vu lo hi sl Q I rx hs pl pu h;obtain⟨a,xs,rfl,hx,hw,q⟩:=h;cases rx;obtain⟨its,r,ht,hz⟩:=I.tuple hx;have fk:its.toArray.size=xs.length:=by rw[aC];exact r.length.symm
 refine⟨"tuple",_,PyProof.Rows.slot_tuple_getitem.lookup,ht.typeIs,?_⟩;refine HT.qf ht hs pl pu (by rw[fk];exact hw) ?_ (by rw[fk];exact hz);rw[fk];refine⟨.ref s.heap.objs.size,_,I.laid (t':=s.toks) (o:=.tup (qg xs lo hi)) (λb ob q=>ai _ q) (ag _) ?_,rfl,q _ (I.hok.fresh (ag _))⟩;exact⟨aL (sP xs lo hi) hz,_,(r.drop (HT.gZ xs.length 0 lo)).take (HT.gZ xs.length xs.length hi - HT.gZ xs.length 0 lo),uI.new _ _⟩
noncomputable def SN (K:W.Frag):R2:=λx y H Q=>∃a b xs ys,x=.ref a/\y=.ref b/\jl K H a xs/\jl K H b ys/\xs≠[]/\xs.length+ys.length<=av /\
 (ys=[]->Q (.ref a) H)/\(ys≠[]->∀p,H p=none->Q (.ref p) (eM H p (.tup (xs++ys))))
theorem eA.qh (r:eA xs us):us=[]↔xs=[]:=by
 cases r with
 | nil=>simp
 | cons _ _=>simp
theorem LJ:kr X (binaryOp .Add) (SN X.K):=by
 intro pins s σ H x y v u Q I rx ry h;obtain⟨a,b,xs,ys,rfl,rfl,ha,hb,hx,hz,q1,q2⟩:=h;cases rx;cases ry;obtain⟨its,r1,p1,_⟩:=I.tuple ha;obtain⟨HI,r2,p2,_⟩:=I.tuple hb;refine HT.LB p1 p2 (λz=>hx (r1.qh.mp z)) (λz=>⟨.ref a,H,I,rfl,q1 (r2.qh.mp z)⟩) (λz=>?_) (by rw[<- r1.length,<- r2.length];exact hz);refine⟨.ref s.heap.objs.size,_,I.laid (t':=s.toks) (o:=.tup (xs++ys)) (λb ob q=>ai _ q) (ag _) ?_,rfl,q2 (λw=>z (r2.qh.mpr w)) _ (I.hok.fresh (ag _))⟩;exact⟨by rw[au];exact hz,_,r1.append r2,uI.new _ _⟩
end
noncomputable def LK (n:Nat)(i:Int):Option Nat:=if 0<=i then (if i<n then some i.toNat else none) else if -(n:Int)<=i then some (i+n).toNat else none
noncomputable def lV {α:Type}(xs:List α)(i:Int):Option α:=(LK xs.length i).bind λj=>xs[j]?
theorem LL (h:LK n i=some j):seqIndex? i n=some j/\j<n/\-(n:Int)<=i/\i<n:=by
 unfold LK at h;by_cases h0:0<=i
 .rw[if_pos h0] at h
  by_cases h1:i<n
  .rw[if_pos h1] at h
   have e:i.toNat=j:=Option.some.inj h;exact⟨by rw[seqIndex_of h0 h1,e],!1,!1,h1⟩
  .rw[if_neg h1] at h;cases h
 .rw[if_neg h0] at h
  by_cases h1:-(n:Int)<=i
  .rw[if_pos h1] at h
   have e:(i+n).toNat=j:=Option.some.inj h;exact⟨by rw[seqIndex_neg (!1) h1,e],!1,h1,!1⟩
  .rw[if_neg h1] at h;cases h
theorem yX {α:Type}{xs:List α}{i:Int}{v:α}(h:lV xs i=some v):∃j,seqIndex? i xs.length=some j/\xs[j]? = some v/\j<xs.length/\-(xs.length:Int)<=i/\i<xs.length:=by
 unfold lV at h
 cases e:LK xs.length i with
 | none=>rw[e] at h;cases h
 | some j =>
  rw[e] at h;obtain⟨h1,h2,h3,h4⟩:=LL e;exact⟨j,h1,h,h2,h3,h4⟩
noncomputable def tY (b:Expr):Prop:=∀o i,subscripted b false o i=operate [o,i] (getItem o i)
noncomputable def HJ (X:Cx)(r:R2):Prop :=
 ∀(value slice:Expr) (pins:List (Addr × Obj)) (s:aw) (σ:St) (H:Hp) (x y:V) (v u:af) (Q:VK),Inv X pins σ H s->RelV x v->RelV y u->r x y H Q ->
  subscripted slice false v u=operate [v,u] (getItem v u)->aA (model X.prog X.w) X.A (subscriptTail value slice v u) (EP X pins σ Q) X.xe s
noncomputable def VH (X:Cx)(id:String)(r:V->List V->Hp->VK->Prop):Prop :=
 ∀(pins:List (Addr × Obj)) (s:aw) (σ:St) (H:Hp) (x:V) (xs:List V) (v:af) (us:List af) (Q:VK),Inv X pins σ H s->RelV x v->eA xs us->r x xs H Q ->
  aA (model X.prog X.w) X.A (call (.builtin id) (v::us)) (EP X pins σ Q) X.xe s
section
variable {X:Cx}{a b:Expr}{ta tb:TE}{pos:Pos}
theorem HJ.or (h:HJ X r)(h':HJ X r'):HJ X (λx y H Q=>r x y H Q\/r' x y H Q):=by
 intro value slice pins s σ H x y v u Q I rx ry q hs;rcases q with q | q
 .exact h value slice pins s σ H x y v u Q I rx ry q hs
 .exact h' value slice pins s σ H x y v u Q I rx ry q hs
theorem SO {r:R2}(hr:HJ X r)(ha:PE X a ta)(hb:PE X b tb)(hs:tY b):PE X (.Subscript a b pos) (KU r ta tb):=by
 intro pins s σ H Q I h;exact Subscript_ (Pb ha hb I h λv u s2 x y H2 I2 rx ry q=>hr a b pins s2 σ H2 x y v u Q I2 rx ry q (hs _ _))
noncomputable def SQ (K:W.Frag):R2:=λx y H Q=>∃p xs i v,x=.ref p/\y=.int i/\gY K H p xs/\lV xs i=some v/\Q v H
noncomputable def SR (K:W.Frag):R2:=λx y H Q=>∃p xs i v,x=.ref p/\y=.int i/\jl K H p xs/\lV xs i=some v/\Q v H
noncomputable def Wr:R2:=λx y H Q=>∃z i c,x=.str z/\y=.int i/\z.length<=av/\lV z.cps.toList i=some c/\Q (.str ⟨#[c]⟩) H
theorem LM:HJ X (SQ X.K):=by
 intro value slice pins s σ H x y v u Q I rx ry h hs;obtain⟨p,xs,i,z,rfl,rfl,hq,he,q⟩:=h;cases rx;obtain⟨t,rfl⟩:=ry;obtain⟨its,r,pl,hz⟩:=I.list hq;obtain⟨j,h1,h2,h3,h4,h5⟩:=yX he;obtain⟨w,ew,rA⟩:=r.get h2;have hl:=r.length;have hn:=uS;have ib:EP X pins σ Q w s:=⟨z,H,I,rA,q⟩;by_cases h0:0<=i
 .have hj:i.toNat=j:=by
   rw[seqIndex_of h0 h5] at h1;exact Option.some.inj h1
  exact item_listR pl.isList h0 (!1) (by rw[hj];simpa using ew) ib hs
 .have hj:(i+(its.toArray.size:Int)).toNat=j:=by
   rw[seqIndex_neg (!1) h4] at h1;rw[aC,<- hl];exact Option.some.inj h1
  exact subscriptTail_builtinR (x:=w) pl.isList.typeIs slot_list_getitem.lookup
   (wpAny_getItem_list_neg (Q:=λr s'=>r=w/\EP X pins σ Q r s') pl.isList (!1) (by rw[aC]<;>omega) (!1) (by rw[hj];simpa using ew) ⟨rfl,ib⟩) hs
theorem Px:HJ X (SR X.K):=by
 intro value slice pins s σ H x y v u Q I rx ry h hs;obtain⟨p,xs,i,z,rfl,rfl,hq,he,q⟩:=h;cases rx;obtain⟨t,rfl⟩:=ry;obtain⟨its,r,pl,hz⟩:=I.tuple hq;obtain⟨j,h1,h2,h3,h4,h5⟩:=yX he;obtain⟨w,ew,rA⟩:=r.get h2;have hl:=r.length;have hn:=uS;have ib:EP X pins σ Q w s:=⟨z,H,I,rA,q⟩
 exact subscriptTail_builtinR (x:=w) pl.typeIs slot_tuple_getitem.lookup
  (getItem_tuple (j:=j) (Q:=λr s'=>r=w/\EP X pins σ Q r s') pl (!1) (!1) (by rw[aC,<- hl];exact h1) (by simpa using ew) ⟨rfl,ib⟩) hs
theorem Py:HJ X Wr:=by
 intro value slice pins s σ H x y v u Q I rx ry h hs;obtain⟨z,i,c,rfl,rfl,hz,he,q⟩:=h;obtain⟨t,rfl⟩:=rx;obtain⟨t',rfl⟩:=ry;obtain⟨j,h1,h2,h3,h4,h5⟩:=yX he;have hl:z.cps.toList.length=z.length:=by simp[Str.length]
 rw[hl] at h1 h4 h5;have hn:=uS
 exact tail_any (typeIs_str s z t) slot_str_getitem.lookup (getItem_str (c:=c) (by
  have e1:decide (i < -(2 ^ 63:Int))=false:=decide_eq_false (!1);have e2:decide (i ≥ 2 ^ 63)=false:=decide_eq_false (!1);rw[e1,e2,Bool.or_false]) (by rw[h1];simpa using h2) ⟨.str ⟨#[c]⟩,H,I.tok _,⟨_,rfl⟩,q⟩) hs
theorem yY (lo hi:Option Int)(n:Nat):(sliceBounds lo hi none n).1=((HT.gZ n 0 lo:Nat):Int)/\(sliceBounds lo hi none n).2.1=((HT.gZ n n hi:Nat):Int)/\(sliceBounds lo hi none n).2.2=1:=by
 refine⟨?_,?_,rfl⟩
 .cases lo with
  | none=>simp[sliceBounds,HT.gZ]
  | some i =>
   simp only[sliceBounds,HT.gZ,Option.getD_none,show (1:Int) > 0 by decide,if_true];by_cases h:i<0
   .simp only[h,if_true]<;>omega
   .simp only[h,if_false]<;>omega
 .cases hi with
  | none=>simp[sliceBounds,HT.gZ]
  | some i =>
   simp only[sliceBounds,HT.gZ,Option.getD_none,show (1:Int) > 0 by decide,if_true];by_cases h:i<0
   .simp only[h,if_true]<;>omega
   .simp only[h,if_false]<;>omega
theorem wU (its:List af)(lo hi:Option Int):slicePick its.toArray lo hi none=((its.drop (HT.gZ its.length 0 lo)).take (HT.gZ its.length its.length hi - HT.gZ its.length 0 lo)).toArray:=by
 obtain⟨h1,h2,h3⟩:=yY lo hi its.toArray.size;unfold slicePick;rw[h1,h2,h3];simp only[sliceRange_one,pick_run,aC]<;>rfl
noncomputable def SS (K:W.Frag):V->Option Int->Option Int->Hp->VK->Prop:=λx lo hi H Q=>∃a xs,x=.ref a/\gY K H a xs/\∀p,H p=none->Q (.ref p) (eM H p (.lst (qg xs lo hi)))
theorem LN:HG X (SS X.K):=by
 intro pins s σ H x v vl vu lo hi sl Q I rx hs pl pu h;obtain⟨a,xs,rfl,hx,q⟩:=h;cases rx;obtain⟨its,r,ht,hz⟩:=I.list hx;have fk:=r.length;refine⟨"list",_,slot_list_getitem.lookup,ht.isList.typeIs,?_⟩;refine wpAny_getItem_list_slice ht.isList hs pl pu .none (!4) ?_ (by rw[aC]<;>omega);rw[wU,<- fk];refine⟨.ref s.heap.objs.size,_,I.laid (t':=s.toks) (o:=.lst (qg xs lo hi)) (λb ob q=>ai _ q) (ag _) ?_,rfl,q _ (I.hok.fresh (ag _))⟩;exact⟨aL (sP xs lo hi) hz,_,0,(r.drop (HT.gZ xs.length 0 lo)).take (HT.gZ xs.length xs.length hi - HT.gZ xs.length 0 lo),aE _ rfl⟩
theorem yZ:gn X (.builtin "len") (λxs H Q=>∃p ys,xs=[.ref p]/\(gY X.K H p ys\/jl X.K H p ys)/\Q (.int ys.length) H):=by
 intro pins s σ H xs us Q I r h;obtain⟨p,ys,rfl,hq,q⟩:=h;obtain⟨u,rfl,rx⟩:=vals1 r;cases rx;have hn:=uS;rcases hq with hq | hq
 .obtain⟨its,r',pl,hz⟩:=I.list hq
  have fk:=r'.length;exact Calls.call_len_list pl.isList (by simp only[aC]<;>omega) ⟨.int ys.length,H,I.tok _,⟨s.toks+1,by rw[aC,fk]⟩,q⟩
 .obtain⟨its,r',pl,hz⟩:=I.tuple hq
  have fk:=r'.length;exact len_tuple pl (by simp only[aC]<;>omega) ⟨.int ys.length,H,I.tok _,⟨s.toks+1,by rw[aC,fk]⟩,q⟩
theorem y6:gn X (.builtin "len") (λxs H Q=>∃z,xs=[.str z]/\z.length<=av/\Q (.int z.length) H):=by
 intro pins s σ H xs us Q I r h;obtain⟨z,rfl,hz,q⟩:=h;obtain⟨u,rfl,t,rfl⟩:=vals1 r;have hn:=uS;exact len_str (!1) ⟨.int z.length,H,I.tok _,⟨_,rfl⟩,q⟩
theorem y':gn X (.type "list") (λxs H Q=>∃p ys,xs=[.ref p]/\(gY X.K H p ys\/jl X.K H p ys)/\∀l,H l=none->Q (.ref l) (eM H l (.lst ys))):=by
 intro pins s σ H xs us Q I r h;obtain⟨p,ys,rfl,hq,q⟩:=h;obtain⟨u,rfl,rx⟩:=vals1 r;cases rx
 have ib:∀(its:List af),eA ys its->ys.length<=av->∀(h':Heap) (c':Nat),(∀b o',s.heap.get? b=some o'->h'.get? b=some o') ->
   h'.get? s.heap.objs.size=some { cls:=.type "list",dict:=none,data:=.seq its.toArray c',slots:=#[] }->EP X pins σ Q (.ref s.heap.objs.size) { s with heap:=h' }:=λits r' hz h' c' kp e =>
  ⟨.ref s.heap.objs.size,_,I.laid (t':=s.toks) kp (ag _) (show fM X.prog X.w _ h' _ (.lst ys) from ⟨hz,its,c',r',e⟩),rfl,q _ (I.hok.fresh (ag _))⟩
 rcases hq with hq | hq
 .obtain⟨its,r',pl,hz⟩:=I.list hq
  have fk:=r'.length;obtain⟨o,ho,hc,n,hd⟩:=pl.isList;exact call_list_seq p (.inl rfl) ho hc hd (λh' c' kp e=>ib its r' hz h' c' kp e) (by simp only[aC]<;>omega)
 .obtain⟨its,r',pl,hz⟩:=I.tuple hq
  have fk:=r'.length;obtain⟨o,ho,hc,n,hd⟩:=pl;exact call_list_seq p (.inr rfl) ho hc hd (λh' c' kp e=>ib its r' hz h' c' kp e) (by simp only[aC]<;>omega)
theorem wV:gn X (.type "tuple") (λxs H Q=>∃p ys,xs=[.ref p]/\((gY X.K H p ys/\∀l,H l=none->Q (.ref l) (eM H l (.tup ys)))\/(jl X.K H p ys/\Q (.ref p) H))):=by
 intro pins s σ H xs us Q I r h;obtain⟨p,ys,rfl,h⟩:=h;obtain⟨u,rfl,rx⟩:=vals1 r;cases rx;rcases h with⟨hq,q⟩ | ⟨hq,q⟩
 .obtain⟨its,r',pl,hz⟩:=I.list hq
  have fk:=r'.length;refine call_tuple_list pl.isList (λh' kp=>?_) (by simp only[aC]<;>omega);have I1:Inv X pins σ H { s with heap:=h' }:=I.kept (t':=s.toks) kp
  have I2:Inv X pins σ (eM H h'.objs.size (.tup ys)) { s with heap:=h'.push { cls:=.type "tuple",data:=.seq its.toArray } } :=
   I1.laid (t':=s.toks) (λb o e=>ai _ e) (ag _) (show fM X.prog X.w _ _ _ (.tup ys) from ⟨hz,its,r',uI.new _ _⟩)
  exact⟨.ref h'.objs.size,_,I2,rfl,q _ (I1.hok.fresh (ag _))⟩
 .obtain⟨its,r',pl,hz⟩:=I.tuple hq
  exact call_tuple_same pl ⟨.ref p,H,I,rfl,q⟩
noncomputable def Y6 (K:W.Frag)(T:String)(x:V)(H:Hp):Prop:=match x with
 | .str _=>T = "str"
 | .int _=>T = "int"
 | .ref p=>(T = "list" /\ ∃xs,gY K H p xs)\/(T = "tuple" /\ ∃o,K.lookup p=some o/\o.cls=.type "tuple" /\ o.dict=none) \/
   (T = "dict" /\ ((∃kvs,H p=some (.dK kvs))\/∃kvs,H p=some (.dT kvs)))\/(T = "set" /\ ∃S n,H p=some (.set S n))
 | _=>False
theorem Pz (I:Inv X pins σ H s)(r:RelV x v)(ty:Y6 X.K T x H) :
  s.TypeIs v T/\∀a,v=.ref a->∃ob,s.heap.get? a=some ob/\ob.dict=none:=by
 cases x with
 | str z =>
  obtain⟨t,rfl⟩:=r;cases (show T = "str" from ty);exact⟨typeIs_str s z t,λ_ e=>nomatch e⟩
 | int i =>
  obtain⟨t,rfl⟩:=r;cases (show T = "int" from ty);exact⟨typeIs_int s i t,λ_ e=>nomatch e⟩
 | ref p =>
  cases r;rcases ty with⟨rfl,xs,hq⟩ | ⟨rfl,o,hk,hc,hd⟩ | ⟨rfl,hk⟩ | ⟨rfl,S,n,hk⟩
  .obtain⟨its,_,pl,_⟩:=I.list hq
   refine⟨pl.isList.typeIs,λa e=>?_⟩;cases e;obtain⟨o,n,e,c,hd,_⟩:=pl;exact⟨o,e,hd⟩
  .refine⟨⟨o,I.rF p o hk,hc⟩,λa e=>?_⟩
   cases e;exact⟨o,I.rF _ o hk,hd⟩
  .have z:∃o,s.heap.get? p=some o/\o.ExactDict:=by
    rcases hk with⟨kvs,hk⟩ | ⟨kvs,hk⟩
    .obtain⟨_,_,_,_,o,_,_,e,ex,_⟩:=I.hok p _ hk
     exact⟨o,e,ex⟩
    .obtain⟨_,_,_,_,o,_,_,e,ex,_⟩:=I.hok p _ hk
     exact⟨o,e,ex⟩
   obtain⟨o,e,ex⟩:=z;refine⟨⟨o,e,ex.1⟩,λa e2=>?_⟩;cases e2;exact⟨o,e,ex.2.1⟩
  .obtain⟨o,_,_,_,e,ex,_⟩:=I.hok p _ hk
   refine⟨⟨o,e,ex.1⟩,λa e2=>?_⟩;cases e2;exact⟨o,e,ex.2.1⟩
 | _=>exact False.elim ty
noncomputable def Ws (K:W.Frag)(T:String)(r:V->List V->Hp->VK->Prop)(to:TE)(t:TA):TE:=λσ H Q=>to σ H λx H1=>Y6 K T x H1/\t σ H1 λxs H2=>r x xs H2 Q
variable {o e:Expr}{es:List Expr}{to:TE}{t:TA}{name:Str}{jK gL:Pos}{T id:String}{r:V->List V->Hp->VK->Prop}
theorem SU (pa:PlainAttrs T)(slot:Slot T name id)(PB:typeOf (.builtin id)=pure (.type "method_descriptor"))(hm:VH X id r)(ho:PE X o to)(ha:PA X (e::es) t)
  (qj:attributeBase o name X.env (eval o X.env)=eval o X.env:=by rfl)
  (Wt:((backTo gL (starEach (e::es) X.env)).all (λx=>!x.1) && (backToKw gL (keywordEach [] X.env)).all (λx=>x.1.isSome)
   && decide ((e::es).length+([]:List Keyword).length+(if ([]:List Keyword).isEmpty then 0 else 1)<30))=true:=by rfl)
  (qk:(jK.endLine == gL.line)=true:=by rfl) (hs:starEach (e::es) X.env=(false,eval e X.env)::starEach es X.env:=by rfl) (PD:(backTo gL (starEach es X.env)).any (·.1)=false:=by rfl) :
  PE X (.Call (.Attribute o name jK) (e::es) [] gL) (Ws X.K T r to t):=by
 intro pins s σ H Q I h;refine wpAny_Call_method_late qj Wt qk rfl (f6 (ho pins s σ H _ I h) λv s1 ⟨x,H1,I1,r1,ty,q1⟩=>?_);obtain⟨h1,h2⟩:=Pz I1 r1 ty;refine⟨T,id,pa,slot,PB,h1,h2,?_⟩;have hA:=ha gL pins s1 σ H1 _ I1 q1;rw[hs] at hA ⊢;refine Calls.callWith_builtin (by show (false || (backTo gL (starEach es X.env)).any (·.1))=false;rw[PD]<;>rfl) (Calls.evalArgs_plain ?_);exact f6 hA λus s2 ⟨vs,H2,I2,r2,q2⟩=>hm pins s2 σ H2 x vs v us Q I2 r1 r2 q2
end
noncomputable def Y7 (X:Cx)(id:String)(r:V->List V->Hp->VK->Prop):Prop :=
 ∀(pins:List (Addr × Obj)) (s:aw) (σ:St) (H:Hp) (x:V) (xs:List V) (v:af) (us:List af) (Q:VK),Inv X pins σ H s->RelV x v->eA xs us->r x xs H Q ->
  aA (model X.prog X.w) X.A (call (.builtin id) (v::us)) (EP X pins σ Q) X.xe s
theorem eA.one (h:eA [x] us):∃u,us=[u]/\RelV x u:=by
 cases h with
 | cons r t =>
  cases t;exact⟨_,rfl,r⟩
theorem eA.reverse (h:eA xs us):eA xs.reverse us.reverse:=by
 induction h with
 | nil=>exact .nil
 | cons r t ih=>rw[cz,cz];exact eA.append ih (.cons r .nil)
theorem eA.rep (h:eA xs us):∀k:Nat,eA (List.replicate k xs).flatten (List.replicate k us).flatten
 | 0=>.nil
 | k+1=>by
  rw[aF,aF,cj,cj];exact eA.append h (eA.rep h k)
theorem foldl_rep (its:List af):∀(k:Nat) (acc:List af),
  de (λx1 x2=>x1++x2) acc.toArray (List.replicate k its.toArray)=(acc++(List.replicate k its).flatten).toArray
 | 0,acc=>by simp
 | k+1,acc=>by
  have e:acc.toArray++its.toArray=(acc++its).toArray:=by simp
  have e2:(acc++its)++(List.replicate k its).flatten=acc++(List.replicate (k+1) its).flatten:=by
   rw[aF,cj,bM]
  rw[<- e2,<- foldl_rep its k (acc++its),<- e,aF,cV]
section
theorem Inv.Wu {its its':List af}{n:Nat}{f:Array af->Array af}{t':Nat}(I:Inv X pins σ H s)(hH:H l=some (.lst xs))
  (e:s.heap.get? l=some { cls:=.type "list",data:=.seq its.toArray n }) (hf:f its.toArray=its'.toArray) (hv:eA ys its') (hz:ys.length<=av) :
  Inv X pins σ (eM H l (.lst ys)) { s with heap:=s.heap.update l (Obj.mapSeq f),toks:=t' }:=by
 have q:=PySem.IsL.update e f;rw[hf] at q;refine I.write (x:=l) (e:=l) (by rw[hH];exact trivial) (.inl rfl) (λb' u hb hu=>(aQ s.heap (Obj.mapSeq f) (Ne.symm hb)).trans hu) ⟨_,q⟩ ?_;exact⟨hz,its',_,hv,q⟩
theorem Inv.SV (I:Inv X pins σ H s)(hv:eA ys its)(hz:ys.length<=av) :
  Inv X pins σ (eM H s.heap.objs.size (.lst ys)) { s with heap:=s.heap.push { cls:=.type "list",data:=.seq its.toArray },toks:=t' } :=
 I.laid (λ_ _ q=>ai _ q) (ag _) ⟨hz,its,0,hv,aE _ rfl⟩
theorem Inv.fresh (I:Inv X pins σ H s):H s.heap.objs.size=none:=I.hok.fresh (ag _)
theorem Inv.HK (I:Inv X pins σ H s)(hH:H l=some (.lst xs)):xs.length<=av/\∃(its:List af) (n:Nat),eA xs its/\xs.length=its.length/\s.heap.get? l=some { cls:=.type "list",data:=.seq its.toArray n }:=by
 obtain⟨z,its,n,r,e⟩:=I.hok l _ hH;exact⟨z,its,n,r,r.length,e⟩
theorem HL (h:n<=av):Builtin.List.listTooLong n=false:=by
 unfold Builtin.List.listTooLong;exact decide_eq_false (!1)
end
section
variable {X:Cx}
noncomputable def LO:V->List V->Hp->VK->Prop:=λx vs H Q=>∃l xs y,x=.ref l/\vs=[y]/\H l=some (.lst xs)/\xs.length<av/\Q .iZ (eM H l (.lst (xs++[y])))
theorem Ff:Y7 X "list.append" LO:=by
 intro pins s σ H x vs v us Q I rx rv h;obtain⟨l,xs,y,rfl,rfl,hH,hz,q⟩:=h;cases rx;obtain⟨u,rfl,ru⟩:=rv.one;obtain⟨z,its,n,r,hl,e⟩:=I.HK hH;refine call_meets F.slot_list_append ⟨_,e,rfl⟩ F.entry_list_append (F.args_list_append_2 _ _) (PySem.list_append l its.toArray n u (by rw[aC];omega)) ⟨e,?_⟩;refine⟨.iZ,_,I.Wu (its':=its++[u]) hH e (!4) (r.append (.cons ru .nil)) ?_,rfl,q⟩;rw[au,aT];omega
noncomputable def Wv:R2:=λx y H Q=>∃l b xs zs,x=.ref l/\y=.ref b/\H l=some (.lst xs)/\H b=some (.lst zs)/\xs.length+zs.length<=av/\∀p,H p=none->Q (.ref p) (eM H p (.lst (xs++zs)))
theorem Cn:kr X (binaryOp .Add) Wv:=by
 intro pins s σ H x y v u Q I rx ry h;obtain⟨l,b,xs,zs,rfl,rfl,hH,hB,hz,q⟩:=h;cases rx;cases ry;obtain⟨z,its,n,r,hl,e⟩:=I.HK hH;obtain⟨z2,HI,n2,r2,NK,e2⟩:=I.HK hB;refine PySem.P.add_list e e2 ?_ (by rw[aC,aC];omega);have ea:its.toArray++HI.toArray=(its++HI).toArray:=by simp
 rw[ea];exact⟨.ref _,_,I.SV (t':=s.toks) (r.append r2) (by rw[au];omega),rfl,q _ I.fresh⟩
noncomputable def Ww:R2:=λx y H Q=>∃l k xs,x=.ref l/\y=.int k/\H l=some (.lst xs)/\-(2 ^ 63)<=k/\k<2 ^ 63/\xs.length * k.toNat<=av /\
 ∀p,H p=none->Q (.ref p) (eM H p (.lst (List.replicate k.toNat xs).flatten))
theorem za {α:Type}(xs:List α)(k:Nat):(List.replicate k xs).flatten.length=k * xs.length:=by
 induction k with
 | zero=>simp
 | succ k ih=>rw[aF,cj,au,ih,Nat.succ_mul,Nat.add_comm]
theorem HM:kr X (binaryOp .Mult) Ww:=by
 intro pins s σ H x y v u Q I rx ry h;obtain⟨l,k,xs,rfl,rfl,hH,h1,h2,hz,q⟩:=h;cases rx;obtain⟨t,rfl⟩:=ry;obtain⟨z,its,n,r,hl,e⟩:=I.HK hH;have fk:its.toArray.size * k.toNat<=av:=by rw[aC,<- hl];exact hz
 have Wx:¬ its.toArray.size * k.toNat > (2 ^ 63 - 1) / 8:=by
  have:(av:Nat)<=(2 ^ 63 - 1) / 8:=by decide
  omega
 have Wy:¬ (!Builtin.List.listFitsIndex k)=true:=by
  rw[fitsIndex_both h1 h2];exact ba
 have SW:¬ Builtin.List.listTooLong (its.toArray.size * k.toNat)=true:=by
  rw[HL fk];exact ba
 have Ac:de (λx1 x2=>x1++x2) #[] (List.replicate (if its.toArray.isEmpty=true then 0 else k.toNat) its.toArray)=(List.replicate k.toNat its).flatten.toArray:=by
  have f0:∀m:Nat,de (λx1 x2=>x1++x2) #[] (List.replicate m its.toArray)=(List.replicate m its).flatten.toArray:=λm=>by
   have:=foldl_rep its m [];rw[az] at this;exact this
  rw[f0]
  cases its with
  | nil=>simp
  | cons a r'=>rw[if_neg (!4)]
 refine wpAny_binaryOp_repeat_ref (T := "list") (U := "int") (!2) ⟨_,e,rfl⟩ (λs'=>typeIs_int s' k t) noFill_list_mul F.fills_int_mul F.slot_int_rmul repeat_list F.slot_int_index.lookup
  (call_meets F.slot_int_rmul (typeIs_int s k t) F.entry_int_rmul (F.args_int_rmul_2 _ _) (int___rmul___int_list k t l its.toArray n)
   ⟨e,rfl,⟨_,e,rfl⟩,call_meets F.slot_list_mul ⟨_,e,rfl⟩ F.entry_list_mul (F.args_list_mul_2 _ _) (AutoListH.list___mul___list_int_3 l its.toArray n k t Wy Wx SW) ⟨e,?_⟩⟩)
 rw[Ac];exact⟨.ref _,_,I.SV (t':=s.toks) (r.rep k.toNat) (by rw[za,Nat.mul_comm];exact hz),rfl,q _ I.fresh⟩
end
end L2
namespace Att
open PySem PySem.W PySem.Calls PyProof.Rows
theorem tH:∀(ns:List Int) (vs:List af),WellAll P h vs (ns.map WData.int)->IntsAre vs ns:=by
 intro ns
 induction ns with
 | nil =>
  intro vs w;rw[aX] at w;cases w;exact .nil
 | cons n ns ih =>
  intro vs w;rw[am] at w
  cases w with
  | cons a b =>
   cases a;exact .cons _ _ (ih _ b)
theorem Fg {l:OpenLaw}{n:Nat}(hn:l.most=some n){P:Params}{h:Heap}{args:List WData}{PF:List af}
  (LP:l.row.toRowW.claim.pre args=true) (LQ:WellAll P h PF args) :
  ∃a vs ns,PF=[af.ref a]/\args=[WData.list (ns.map WData.int)]/\h.get? a=some { cls:=.type "list",data:=.seq vs.toArray }/\IntsAre vs ns/\ns.length<=n:=by
 have hsh:WShape.hasAll [] args [.list .int]=true:=(pre_splitW LP).1;have hc:l.pre.holds [] { args:=args }=true:=(pre_splitW LP).2;obtain⟨d,r,rfl,h1,h2⟩:=hasAllW_cons hsh;obtain rfl:=hasAllW_nil h2;obtain⟨xs,rfl,h3⟩:=hasW_list h1;obtain⟨ns,rfl⟩:=items_int h3
 have fk:ns.length<=n:=by
  unfold OpenLaw.pre at hc
  have h4:(WTm.not (.lt (.lit (.int (n:Int))) (.len (.arg 0)))).holds [] { args:=[.list (ns.map .int)] }=true:=by
   have h4:=(holds_andW hc).1;rw[hn] at h4;exact h4
  have h5:=condW_of h4 (w_not (w_lt w_lit (w_len_list (w_arg rfl))));rw[ah] at h5;refine Nat.le_of_not_lt λq=>?_;have q':(n:Int)<((ns.length:Nat):Int):=by omega
  first
   | (rw[decide_eq_true q'] at h5;exact absurd h5 (!2))
   | (simp at h5;omega)
 cases LQ with
 | cons w1 w2 =>
  cases w2
  cases w1 with
  | list ho Co=>exact⟨_,_,ns,rfl,rfl,ho,tH ns _ Co,fk⟩
theorem Fh (l:OpenLaw)(args:List WData):l.row.toRowW.claim.post args (.bool true) args=true :=
 postW_of (r:=l.row.toRowW) (X:=(true == true))
  (show WShape.has [] (.bool true) .bool=true by first | rfl | decide | simp[WShape.has,WShape.arms,WShape.armsAll])
  (show (WTm.eq .res (.lit (.bool true))).value [] { args:=args,res:=some (.bool true),after:=args }=some (.bool (true == true)) from w_eq_bool (w_res rfl) w_lit) rfl
theorem Ad {l:OpenLaw}{n:Nat}{q:aZ}{loose:List Str}{XP:(Str->Option af)->Heap->Prop}{YP:World->Heap->Prop}{d:DefRec}
  (hn:l.most=some n) (PH:d.params.defaults=[])
  (call:∀(w:World) (s₀ s₁:aw) (mg mb:Str->Option af) (fa:Addr) (o:Obj) (pm cd uT:af) (a:Addr) (vs:List af) (ns:List Int),
   Ground q loose [] XP w s₀ mg mb s₁.heap->YP w s₁.heap ->
   s₁.heap.get? fa=some o->o.data=.func (docDef d.name d.params d.body d.scope pm cd uT)->s₁.heap.CodeRec cd d.name->mg d.name=some (.ref fa) ->
   s₁.heap.get? a=some { cls:=.type "list",data:=.seq vs.toArray }->IntsAre vs ns->ns.length<=n->s₁.gens=#[] ->
   codeAny (model l.prog w) callerA (.call (.ref fa) ⟨[.ref a],[]⟩) (λr s'=>r=.ok (.ret (.bool true))/\OldK s₁.heap s'.heap/\s'.os=s₁.os/\AllBare s'.gens) s₁) :
  WalkO q loose XP YP l.row.toRowW d [] (λf vs=>PySem.call f vs):=by
 intro w s₀ s₁ mg mb G Y fa o pm cd uT dV kV ho hd kG hD SX hg args PF as LP aad hrd LQ Y8;obtain rfl:dV=.none:=Dflts.none hD PH;obtain rfl:kV=.none:=Dflts.noKw hD;obtain⟨a,vs,ns,rfl,rfl,PJ,HN,fk⟩:=Fg hn LP LQ;refine enter_call (codeAny_mono (call w s₀ s₁ mg mb fa o pm cd uT a vs ns G Y ho (fd_plain hd) kG SX PJ HN fk hg) λr s' hq=>?_);obtain⟨rfl,h2,h3,h4⟩:=hq;exact⟨.inl ⟨.bool true,.bool true,[],rfl,λ_=>rfl,.bool true,Fh l _,λ_=>⟨List.Pairwise.nil,λ_ hm=>(nomatch hm)⟩⟩,h2,h3,h4⟩
end Att
namespace L2
open PySem PySem.Spec PyProof.Rows
theorem xC:∀{vs:List af} {ns:List Int},IntsAre vs ns->eA (ns.map V.int) vs
 | _,_,.nil=>.nil
 | _,_,.cons n t h=>.cons ⟨t,rfl⟩ (xC h)
noncomputable def PK (H:Hp):Prop:=∀b,H b=none\/∃o xs,H b=some (.uH o (.lst xs))
theorem HP {P:aZ}{w:World}{K:W.Frag}{mg mb:Str->Option af}{CX:G'}{k:Nat}{fa a:Addr}{fd:bq}{x:Str}{sp:Sp}{s₁:aw}{vs:List af}{ns:List Int}
  (KX:K.In s₁.heap) (SY:s₁.heap.Ns aY mg) (hb:s₁.heap.Ns builtinsNs mb) (hbb:∀x:Str,x ≠ "__name__" -> mb x=bootBuiltins x) (Wz:s₁.heap.NoLimit) (hg:s₁.gens=#[])
  (ha:s₁.heap.get? a=some { cls:=.type "list",data:=.seq vs.toArray }) (hi:IntsAre vs ns) (hl:ns.length<=av) (hr:gi k callerA)
  (F:∀base:Heap,K.In base->base.Ns aY mg->jX P w K mg base CX k fa fd [x] sp) (S3:∀(s:aw) (u:af),BindsTo s fd ⟨[u],[]⟩ [(x,u)])
  (zX:∀H:Hp,PK H->gY K H a (ns.map V.int)->sp [.ref a] H (λv _=>v=.bl true) λ_ _ _=>False)
  (WA:∀H e s',CX [] H s₁ (λ_ _ _=>False) e s'->False) :
  codeAny (model P w) callerA (.call (.ref fa) ⟨[.ref a],[]⟩) (λr s'=>r=.ok (.ret (.bool true))/\OldK s₁.heap s'.heap/\s'.os=s₁.os/\AllBare s'.gens) s₁:=by
 have rv:=xC hi;have WB:=hi.length
 have S5:∀H:Hp,PK H->gY K H a (ns.map V.int)->lX P w H s₁.heap->(∀b,H b≠none->b=a)->(H a≠none->K.lookup a=none) ->
   codeAny (model P w) callerA (.call (.ref fa) ⟨[.ref a],[]⟩) (λr s'=>r=.ok (.ret (.bool true))/\OldK s₁.heap s'.heap/\s'.os=s₁.os/\AllBare s'.gens) s₁:=by
  intro H hO hS hok hA hK;have D0:∀{b:Addr} {o:Obj},s₁.heap.get? b=some o->H b=none->(yU s₁.heap H).get? b=some o:=λe n=>Hl e n
  have SH:∀{b:Addr} {o:Obj} {es:Array DictEntry} {ep:Nat},s₁.heap.get? b=some o->o.data=.dict es ep->H b=none:=λ{b o es ep} e d=>by
   cases q:H b with
   | none=>rfl
   | some u =>
    have e':b=a:=hA b (by rw[q];simp);subst e';rw[ha] at e;cases e;have d':Data.seq vs.toArray _=Data.dict es ep:=d;cases d'
  have VI:∀{b:Addr} {m:Str->Option af},s₁.heap.Ns b m->(yU s₁.heap H).Ns b m:=λ{b m} ⟨o,es,ep,e,d,r⟩=>⟨o,es,ep,D0 e (SH e d),d,r⟩
  have Y9:K.In (yU s₁.heap H):=λb o e=>D0 (KX b o e) (by
   cases q:H b with
   | none=>rfl
   | some u =>
    have e':b=a:=hA b (by rw[q];simp);subst e';rw[hK (by rw[q];simp)] at e;cases e)
  have hM:Mod K mg (yU s₁.heap H):=⟨Y9,VI SY,⟨mb,VI hb,hbb⟩,let ⟨mc,h1,h2⟩:=Wz;⟨mc,VI h1,h2⟩⟩;have e0:Ci P w K mg (yU s₁.heap H) callerA [] s₁ H:=⟨rfl,hM,λb o e=>Le e,Nat.le_of_eq (E1 _ _),trivial,λb hb=>absurd (show b∈([]:List Addr) from hb) (!4),hok,.of_eq hg⟩;refine codeAny_mono ((F _ Y9 (VI SY)).run callerA [] s₁ H ⟨[.ref a],[]⟩ [.ref a] [.ref a] _ _ hr e0 (S3 s₁ (.ref a)) (.cons rfl .nil) (zX H hO hS)) λr s' h=>?_
  cases r with
  | error e=>exact (WA H e s' h).elim
  | ok fl =>
   cases fl with
   | next=>exact False.elim h
   | brk=>exact False.elim h
   | cont=>exact False.elim h
   | ret u =>
    obtain⟨v,H',os,bare,un,WC,r',q⟩:=h;have q':v=.bl true:=q;subst q';obtain rfl:u=af.bool true:=r';refine⟨rfl,OldK.of_keep λb o e=>?_,os,bare⟩
    cases q:H b with
    | none=>exact un.keep b o e q (by intro z;exact absurd (show b∈([]:List Addr) from z) (!4)) (!4)
    | some u =>
     rcases hO b with z | ⟨ob,xs,z⟩
     .rw[q] at z;cases z
     .have z2:=un.wR b ob _ z
      obtain⟨e1,_⟩:=hok b _ z;obtain⟨e2,_⟩:=WC b _ z2;rw[e] at e1;cases e1;exact e2
 cases hk:K.lookup a with
 | some o =>
  have e:=KX a o hk;rw[ha] at e;cases e;refine S5 (λ_=>none) (λ_=>.inl rfl) (.inr ⟨_,vs.toArray,_,hk,rfl,rfl,rfl,by rw[aC,WB];exact hl,by simpa using rv⟩) (λb u z=>by have z':(none:Option HO)=some u:=z;cases z') (λb z=>absurd rfl z) λz=>absurd rfl z
 | none =>
  refine S5 (λb=>if b=a then some (.uH { cls:=.type "list",data:=.seq vs.toArray } (.lst (ns.map V.int))) else none) (λb=>?_) (.inl (.inr ⟨{ cls:=.type "list",data:=.seq vs.toArray },if_pos rfl⟩)) (λb u z=>?_) (λb z=>?_) λ_=>hk
  .by_cases hb:b=a
   .exact .inr ⟨_,_,if_pos hb⟩
   .exact .inl (if_neg hb)
  .by_cases hb:b=a
   .have z':=(if_pos hb).symm.trans z
    cases z';subst hb;exact⟨ha,by rw[ah];exact hl,vs,_,rv,ha⟩
   .have z':=(if_neg hb).symm.trans z
    cases z'
  .by_cases hb:b=a
   .exact hb
   .exact absurd (if_neg hb) z
noncomputable abbrev KOf {K:W.Frag}{h:Heap}(_:K.In h):W.Frag:=K
theorem LR {l:W.OpenLaw}{n k:Nat}{q:aZ}{loose:List Str}{XP:(Str->Option af)->Heap->Prop}{YP:World->Heap->Prop}{d:DefRec}{K:Params->W.Frag}{CX:World->G'}{sp:World->Sp}{x:Str}
  (hn:l.most=some n) (Y':n<=av) (PH:d.params.defaults=[]) (hr:gi k callerA)
  (hY:∀(w:World) (h:Heap),YP w h->(K w.params).In h)
  (F:∀(w:World) (mg:Str->Option af) (fa:Addr) (h:Heap),(K w.params).In h->h.Ns aY mg->mg d.name=some (.ref fa) ->
   ∃fd:bq,(∀(s:aw) (u:af),BindsTo s fd ⟨[u],[]⟩ [(x,u)]) /\
    ∀base:Heap,(K w.params).In base->base.Ns aY mg->jX l.prog w (K w.params) mg base (CX w) k fa fd [x] (sp w))
  (zX:∀(w:World) (H:Hp) (a:Addr) (ns:List Int),ns.length<=n->PK H->gY (K w.params) H a (ns.map V.int)->sp w [.ref a] H (λv _=>v=.bl true) λ_ _ _=>False)
  (WA:∀(w:World) (H:Hp) (s:aw) (e:af) (s':aw),CX w [] H s (λ_ _ _=>False) e s'->False) :
  W.WalkO q loose XP YP l.row.toRowW d [] (λf vs=>PySem.call f vs):=by
 refine Att.Ad hn PH λw s₀ s₁ mg mb fa o pm cd uT a vs ns G Y ho hd kG SX PJ HN fk hg=>?_;have KX:=hY w _ Y;obtain⟨fd,hb,hF⟩:=F w mg fa _ KX G.T.g SX;exact HP KX G.T.g G.T.b G.T.builtins G.T.nolimit hg PJ HN (aL fk Y') hr hF hb (λH hO hS=>zX w H a ns fk hO hS) λH e s'=>WA w H s₁ e s'
noncomputable def kj (s:Stmt):Arguments:=match s with
 | .FunctionDef _ a _ _ _ _ _ _ _ _=>a
 | _=>{ posonlyargs:=[],args:=[],vararg:=none,kwonlyargs:=[],kw_defaults:=[],kwarg:=none,defaults:=[] }
noncomputable def fW (s:Stmt):List Stmt:=match s with
 | .FunctionDef _ _ b _ _ _ _ _ _ _=>b
 | _=>[]
noncomputable def dw (s:Stmt):Scope:=match s with
 | .FunctionDef _ _ _ _ _ _ sc _ _ _=>sc
 | _=>{ kind:=.function,names:=[],isGenerator:=false,isCoroutine:=false }
noncomputable abbrev wJ:G':=λ_ _ _ _ _ _=>False
noncomputable abbrev E0:XK:=λ_ _ _=>False
theorem S6:Cj wJ X E0:=λ_ _ _ _ _ _ _ h=>h.elim
structure wK (K:W.Frag) (x fz:Str) (st:Stmt) (f:Addr) (fd:bq):Prop where
 ex:∃(oc:af) (od:Option Addr) (kV uT pm:af) (an:Option Addr) (fg ct:af) (DW:Array (Option af)),
  fd=W.fnOf x fz (kj st) (fW st) (dw st) .none kV uT pm an fg ct/\K.lookup f=some ⟨oc,od,.func fd,DW⟩/\W.codeIn K fg fz=true
 kp:W.keepIn K (.ref f)=true
section
variable {P:aZ}{w:World}{K:W.Frag}{mg:Str->Option af}{base:Heap}
theorem wK.ok {x fz:Str}{st:Stmt}{f:Addr}{fd:bq}{N ps:List Str}{k:Nat}{sp:Sp}(F:wK K x fz st f fd)(S:fK N ps (dw st))(len:∀vs H Q E,sp vs H Q E->vs.length=ps.length)
  (uU:∀(fg:af) (A:Around) (outer:List Env) (s:aw) (H:Hp) (vs:List V) (Q:VK) (E:XK),gi k (A.deeper (envOfC fz (dw st) s.heap.objs.size f fg))->sp vs H Q E ->
   ∃t,B1 (mI wJ P w K mg base N fz (dw st) f fg A outer s H E).G9 (fW st) t/\t { nx:=λ_ H'=>Q .iZ H',rt:=Q } (start N vs) H):jX P w K mg base wJ (k+1) f fd ps sp:=by
 obtain⟨oc,od,kV,uT,pm,an,fg,ct,DW,rfl,lk,kG⟩:=F.ex;refine NH lk kG S len λA outer s H vs Q E hr zX=>?_;obtain⟨t,h,q⟩:=uU fg A outer s H vs Q E hr zX;exact⟨t,h.G9,q⟩
theorem wK.binds {x fz:Str}{st:Stmt}{f:Addr}{fd:bq}{ps:List Str}(F:wK K x fz st f fd)
  (h:∀(kV uT pm:af) (an:Option Addr) (fg ct:af) (us:List af),us.length=ps.length->bindArgs (W.fnOf x fz (kj st) (fW st) (dw st) .none kV uT pm an fg ct) ⟨us,[]⟩=pure (ps.zip us)):Binds K fd ps []:=by
 obtain⟨oc,od,kV,uT,pm,an,fg,ct,DW,rfl,lk,kG⟩:=F.ex;exact .all (h kV uT pm an fg ct)
theorem Cp {x fz:Str}{st:Stmt}{f:Addr}{oc:af}{od an:Option Addr}{DW:Array (Option af)}{kV uT pm fg ct:af}(l:K.lookup f=some ⟨oc,od,.func (W.fnOf x fz (kj st) (fW st) (dw st) .none kV uT pm an fg ct),DW⟩)
  (c:W.codeIn K fg fz=true) (k:W.keepIn K (.ref f)=true):wK K x fz st f (W.fnOf x fz (kj st) (fW st) (dw st) .none kV uT pm an fg ct):=⟨⟨oc,od,kV,uT,pm,an,fg,ct,DW,rfl,l,c⟩,k⟩
end
theorem S7 (hr:gi k A):A.units+1<cLine:=cq (Nat.add_le_add_left (by decide:1<=64) _) hr.units
theorem PL {A B:Prop}(h:B):if false=true then A else B:=by
 rw[if_neg ba];exact h
theorem S8 {A B:Prop}(h:A):if true=true then A else B:=by
 rw[if_pos rfl];exact h
theorem PM {c A B:Prop}[Decidable c](h1:c->A)(h2:¬ c->B):if c then A else B:=by
 by_cases h:c
 .rw[if_pos h]
  exact h1 h
 .rw[if_neg h]
  exact h2 h
structure dZ (P:aZ) (w:World) (K:W.Frag) (mg:Str->Option af) (base:Heap) (k:Nat) (x:Str) (ps:List Str) (sp:Sp):Prop where
 ex:∃(f:Addr) (fd:bq),jX P w K mg base wJ k f fd ps sp/\mg x=some (.ref f)/\W.keepIn K (.ref f)=true/\Binds K fd ps []
noncomputable def uW (sp:Sp)(t:TA):TE:=λσ H Q=>t σ H λvs H1=>sp vs H1 Q E0
theorem Fi (sp:Sp)(t:TA):HD sp [] E0 t=uW sp t:=by
 funext σ H Q;unfold HD uW;congr;funext vs H1;rw[bt]
section
theorem HQ (D:dZ X.prog X.w X.K X.mg X.base k x ps sp)(hr:gi k X.A)(ha:PA X (e::es) t)(hg:Gl X x:=by rfl)
  (nB:(x == ("__debug__" : Str))=false:=by decide) (he:starEach (e::es) X.env=(false,eval e X.env)::starEach es X.env:=by rfl) (mB:(backTo pos (starEach es X.env)).any (·.1)=false:=by rfl) :
  PE X (.Call (.Name x p) (e::es) [] pos) (uW sp t):=by
 obtain⟨f,fd,F,hm,hk,hb⟩:=D.ex;rw[<- Fi];exact LA F hr hg hm hk hb .nil S6 ha nB he mB
end
noncomputable def oW (cells:List (Str × Addr)):List (Str × aO)->List (Str × Addr)->List (Str × Addr)
 | [],acc=>acc
 | (n,k)::r,acc=>oW cells r (if (k == aO.free)=true then (n,(cells.lookup n).getD 0)::acc else acc)
theorem xD (cells:List (Str × Addr))(n:Str)(k:aO)(r:List (Str × aO))(acc:List (Str × Addr)):oW cells ((n,k)::r) acc=oW cells r (if (k == aO.free)=true then (n,(cells.lookup n).getD 0)::acc else acc):=rfl
theorem Ae:∀{l:List (Str × aO)} {acc:List (Str × Addr)},(x,c)∈oW cells l acc->(x,c)∈acc\/((x,aO.free)∈l/\c=(cells.lookup x).getD 0)
 | [],acc,h=>.inl h
 | (n,k)::r,acc,h=>by
  unfold oW at h;rcases Ae h with h | ⟨h1,h2⟩
  .by_cases hk:(k == aO.free)=true
   .rw[if_pos hk] at h
    rcases al.mp h with h | h
    .cases h
     have:k=aO.free:=by simpa using hk
     subst this;exact .inr ⟨aq,rfl⟩
    .exact .inl h
   .rw[if_neg hk] at h
    exact .inl h
  .exact .inr ⟨ao _ h1,h2⟩
theorem Af:∀{l:List (Str × aO)} {acc:List (Str × Addr)},q∈acc->q∈oW cells l acc
 | [],_,h=>h
 | (n,k)::r,acc,h=>by
  unfold oW;refine Af ?_;split
  .exact ao _ h
  .exact h
theorem D1:∀{l:List (Str × aO)} {acc:List (Str × Addr)},(x,aO.free)∈l->(x,(cells.lookup x).getD 0)∈oW cells l acc
 | [],_,h=>by cases h
 | (n,k)::r,acc,h=>by
  unfold oW;rcases al.mp h with h | h
  .cases h
   refine Af ?_;simp
  .exact D1 h
theorem pf {β:Type}{x:Str}{b:β}:∀{l:List (Str × β)},(x,b)∈l->∃c,l.lookup x=some c
 | [],h=>by cases h
 | (n,k)::r,h=>by
  rw[bD]
  cases e:x == n with
  | true=>exact⟨k,rfl⟩
  | false =>
   rcases al.mp h with h | h
   .cases h
    simp at e
   .exact pf h
theorem nI:∀(l:List (Str × aO)) (acc:List (Str × Addr)),(∀x∈l,x.2=aO.free->∃c,env.cells.lookup x.1=some c) ->
  (forIn l acc λx r=>if (x.2 == aO.free)=true then (do let c <- cellOf env x.1;pure (ForInStep.yield ((x.1,c)::r))) else pure (ForInStep.yield r):Sem (List (Str × Addr)))=pure (oW env.cells l acc)
 | [],acc,_=>rfl
 | (n,k)::r,acc,h=>by
  rw[List.forIn_cons];by_cases hk:(k == aO.free)=true
  .obtain⟨c,hc⟩:=h (n,k) aq (by simpa using hk)
   have e:cellOf env n=pure c:=by unfold cellOf;rw[hc]
   show (if (k == aO.free)=true then _ else _) >>= _=_;rw[if_pos hk,e];show (forIn r ((n,c)::acc) _:Sem _)=_;rw[nI r _ λx hx=>h x (ao _ hx)];rw[xD,if_pos hk,show env.cells.lookup n=some c from hc];rfl
  .show (if (k == aO.free)=true then _ else _) >>= _=_
   rw[if_neg hk];show (forIn r acc _:Sem _)=_;rw[nI r _ λx hx=>h x (ao _ hx)];rw[xD,if_neg hk]
theorem wW (h:∀x∈scope.names,x.2=aO.free->∃c,env.cells.lookup x.1=some c):closureFor scope env=pure (oW env.cells scope.names []):=by
 have e:=nI scope.names [] h;unfold closureFor
 first
  | exact (congrArg (λm=>m >>= λr=>pure r) e).trans rfl
  | (simp only[bind_pure];exact e)
  | (rw[<- e];rfl)
noncomputable def fR (X:Cx)(sc:Scope)(N:List Str)(cl:List (Str × Addr))(C:Addr)(s₂:aw)(H₂:Hp)(fp:List Addr):Cx where
 prog:=X.prog
 w:=X.w
 K:=X.K
 mg:=X.mg
 base:=X.base
 A:=X.A
 N:=N
 s₀:=s₂
 H₀:=H₂
 env:=compEnvC sc cl C X.env
 outer:=X.stack
 stack:=X.stack
 ex:=fp
 fn:=λx=>sc.names.lookup x == some aO.cell
 calm:=true
 pn:=[]
 xe:=λ_ _=>False
noncomputable def iH (NX:List Str)(PN sc:Scope)(N:List Str)(mp:List (Option Nat)):Bool :=
 sc.names.all (λp=>p.2 != aO.cell || sc.names.lookup p.1 == some aO.cell) && sc.names.all (λp=>p.2 != aO.local || sc.names.lookup p.1 == some aO.local) &&
 sc.names.all (λp=>p.2 != aO.free || (PN.names.lookup p.1 == some aO.cell || PN.names.lookup p.1 == some aO.free)) && sc.names.all (λp=>p.2 != aO.free || sc.names.lookup p.1 == some aO.free) &&
 mp.length == N.length && (N.zip mp).all (λq=>match q.2 with | none=>true | some i=>NX[i]? == some q.1 && sc.names.lookup q.1 == some aO.free)
noncomputable def nK (mp:List (Option Nat))(σ:St):St:=mp.map λo=>match o with | none=>none | some i=>(σ[i]?).join
structure uX (NX:List Str) (PN sc:Scope) (N:List Str) (mp:List (Option Nat)):Prop where
 cell:∀x∈sc.names,x.2=aO.cell->sc.names.lookup x.1=some aO.cell
 loc:∀x∈sc.names,x.2=aO.local->sc.names.lookup x.1=some aO.local
 free:∀x∈sc.names,x.2=aO.free->PN.names.lookup x.1=some aO.cell\/PN.names.lookup x.1=some aO.free
 fr:∀x∈sc.names,x.2=aO.free->sc.names.lookup x.1=some aO.free
 len:mp.length=N.length
 map:∀(j:Nat) (x:Str) (i:Nat),N[j]? = some x->mp[j]? = some (some i)->NX[i]? = some x/\sc.names.lookup x=some aO.free
theorem xE (h:iH NX PN sc N mp=true):uX NX PN sc N mp:=by
 unfold iH at h;simp only[aK,ca] at h;obtain⟨⟨⟨⟨⟨h1,h2⟩,h3⟩,h6⟩,h4⟩,h5⟩:=h;have hl:mp.length=N.length:=by simpa using h4
 refine⟨λx hx e=>?_,λx hx e=>?_,λx hx e=>?_,λx hx e=>?_,hl,λj x i e1 e2=>?_⟩
 .have:=h1 x hx
  rw[e] at this;simpa using this
 .have:=h2 x hx
  rw[e] at this;simpa using this
 .have:=h3 x hx
  rw[e] at this;simpa using this
 .have:=h6 x hx
  rw[e] at this;simpa using this
 .have WD:j<N.length:=(aN.mp e1).1
  have Za:j<mp.length:=(aN.mp e2).1
  have hm:(x,some i)∈N.zip mp:=by
   refine bC (i:=j) ?_;rw[List.getElem?_zip_eq_some];exact⟨e1,e2⟩
  have:=h5 _ hm;simpa using this
theorem nL (h:(relabel sc env).names.lookup x=some k):∃k',(x,k')∈sc.names/\(k=k'\/(k'=aO.free/\k=aO.cell)):=by
 have hm:=PySem.mem_of_lookup h;obtain⟨⟨n,k'⟩,S9,e⟩:=bg.mp hm;refine⟨k',?_⟩;dsimp only at e;split at e
 .rename_i hc
  cases e;rw[aK,aK] at hc;have:k'=aO.free:=by simpa using hc.1.1
  exact⟨S9,.inr ⟨this,rfl⟩⟩
 .cases e
  exact⟨S9,.inl rfl⟩
theorem ql (h:sc.names.lookup x=some aO.free):(relabel sc env).names.lookup x=some aO.cell\/(relabel sc env).names.lookup x=some aO.free:=by
 show (sc.names.map _).lookup x=_\/(sc.names.map _).lookup x=_;generalize sc.names=l at h
 induction l with
 | nil=>cases h
 | cons p r ih =>
  obtain⟨n,k⟩:=p;rw[am];dsimp only;by_cases hc:(k == aO.free && env.scope.kind == .function && env.kindOf n == some .cell)=true
  .rw[if_pos hc,bD]
   cases e:x == n with
   | true=>exact .inl rfl
   | false =>
    rw[bD,e] at h;exact ih h
  .rw[if_neg hc,bD]
   cases e:x == n with
   | true =>
    rw[bD,e] at h;exact .inr h
   | false =>
    rw[bD,e] at h;exact ih h
theorem zb:∀{l:List (Str × aO)} {n:Nat} {acc:List (Str × Addr)},q∈acc->q∈cellsFrom n l acc
 | [],_,_,h=>h
 | (m,k)::r,n,acc,h=>by
  unfold cellsFrom;split
  .exact zb (ao _ h)
  .exact zb h
theorem HR:∀{l:List (Str × aO)} {n:Nat} {acc:List (Str × Addr)},(x,aO.cell)∈l->∃c,(x,c)∈cellsFrom n l acc
 | (m,k)::r,n,acc,h=>by
  unfold cellsFrom;rcases al.mp h with h | h
  .cases h
   exact⟨n,zb (n:=n+1) (l:=r) (acc:=(x,n)::acc) aq⟩
  .split
   .exact HR h
   .exact HR h
theorem Cq:∀{l:List (Str × aO)} {h:Heap} {n:Nat} {acc:List (Str × Addr)},h.objs.size=n->q∈cellsFrom n l acc->q∈acc\/(n<=q.2/\(q.1,aO.cell)∈l/\(pushCells h l).IsCell q.2 none)
 | [],_,_,_,_,h=>.inl h
 | (m,k)::r,hp,n,acc,hn,h=>by
  unfold cellsFrom at h;unfold pushCells;by_cases hk:(k == aO.cell)=true
  .rw[if_pos hk] at h ⊢
   have e:k=aO.cell:=by simpa using hk
   subst e;rcases Cq (h:=hp.push { cls:=.type "cell",data:=.cell none }) (by rw[bG,hn]) h with h | ⟨h1,h2,h3⟩
   .rcases al.mp h with h | h
    .subst h
     subst hn;exact .inr ⟨ag _,aq,⟨_,pushCells_keeps _ _ _ _ (aE _ rfl),rfl⟩⟩
    .exact .inl h
   .exact .inr ⟨!1,ao _ h2,h3⟩
  .rw[if_neg hk] at h ⊢
   rcases Cq hn h with h | ⟨h1,h2,h3⟩
   .exact .inl h
   .exact .inr ⟨h1,ao _ h2,h3⟩
theorem Cr:∀{l:List (Str × aO)} {n:Nat} {acc:List (Str × Addr)},(∀q∈acc,q.2<n)->(∀x y c,(x,c)∈acc->(y,c)∈acc->x=y)->∀x y c,(x,c)∈cellsFrom n l acc->(y,c)∈cellsFrom n l acc->x=y
 | [],_,_,_,h=>h
 | (m,k)::r,n,acc,hn,h=>by
  unfold cellsFrom;split
  .refine Cr (λq hq=>?_) λx y c hx hy=>?_
   .rcases al.mp hq with e | e
    .subst e;exact cD _
    .exact cA (hn q e)
   .rcases al.mp hx with e | e<;>rcases al.mp hy with e' | e'
    .cases e;cases e';rfl
    .cases e;exact absurd (hn _ e') (bo _)
    .cases e';exact absurd (hn _ e) (bo _)
    .exact h x y c e e'
  .exact Cr hn h
theorem Cs
  (hQ:(pushCells (s.heap.push { cls:=.type "dict",data:=.dict #[] }) scope.names).Ns s.heap.objs.size (λ_=>none) ->
   Q (newEnv scope s.heap.objs.size globals (cellsFrom (s.heap.objs.size+1) scope.names closure) fz none .none (some env) 0) { s with heap:=pushCells (s.heap.push { cls:=.type "dict",data:=.dict #[] }) scope.names }) :
  aA M A (newFunctionEnv scope globals closure [] fz none .none (some env)) Q E s:=by
 simp only[newFunctionEnv,Option.isSome_some,if_true];refine ae (wpAny_alloc ?_);refine ae (wpAny_layCells _ (λname kind cells=>by cases hkc:kind == aO.cell<;>simp[hkc]) _ _ _ _ ?_);rw[show ({ s with heap:=s.heap.push { cls:=.type "dict",data:=.dict #[] } }:aw).heap.objs.size=s.heap.objs.size+1 from bG ..];rw[List.forIn_nil];exact ae (ak (ak (hQ ((Heap.Ns.new s.heap (.type "dict")).keeps (pushCells_keeps _ _)))))
structure Ta (X:Cx) (sc:Scope) (C:Addr) (h:Heap) (cl:List (Str × Addr)):Prop where
 has:∀x,(x,aO.cell)∈sc.names\/(x,aO.free)∈sc.names->∃c,cl.lookup x=some c
 sub:∀x c,cl.lookup x=some c->(X.env.cells.lookup x=some c/\(x,aO.free)∈sc.names)\/(C<c/\(x,aO.cell)∈sc.names/\h.IsCell c none)
 inj:∀x y c,cl.lookup x=some c->cl.lookup y=some c->x=y
section
variable {X:Cx}{sc:Scope}{N:List Str}{mp:List (Option Nat)}{pins:List (Addr × Obj)}{σ:St}{H:Hp}{s:aw}{fp:List Addr}{C:Addr}{h₁:Heap}{cl:List (Str × Addr)}
theorem Ag (O:uX X.N X.env.scope sc N mp)(ok:X.Ok):∀x∈sc.names,x.2=aO.free->∃c,X.env.cells.lookup x.1=some c:=λx hx e=>ok.has x.1 (O.free x hx e)
theorem LS (O:uX X.N X.env.scope sc N mp)(I:Inv X pins σ H s){hp:Heap}(hs:s.heap.objs.size<=hp.objs.size)(e:hp.objs.size=C+1):Ta X sc C (pushCells hp sc.names) (cellsFrom (C+1) sc.names (oW X.env.cells sc.names [])):=by
 have ok:=I.ok
 have old:∀q∈oW X.env.cells sc.names [],X.env.cells.lookup q.1=some q.2/\(q.1,aO.free)∈sc.names:=λq hq=>by
  rcases Ae (x:=q.1) (c:=q.2) hq with h | ⟨h1,h2⟩
  .cases h
  .obtain⟨c',hc⟩:=Ag O ok _ h1 rfl
   have E4:X.env.cells.lookup q.1=some c':=hc;rw[E4] at h2;rw[E4,h2];exact⟨rfl,h1⟩
 have lt:∀q∈oW X.env.cells sc.names [],q.2<C+1:=λq hq=>by
  obtain⟨v,o,ho,_⟩:=I.cell _ _ (old q hq).1;exact e ▸ aS (aD ho) hs
 refine⟨λx hx=>?_,λx c h=>?_,λx y c h1 h2=>Cr lt (λx y c h1 h2=>ok.inj x y c (old _ h1).1 (old _ h2).1) x y c (PySem.mem_of_lookup h1) (PySem.mem_of_lookup h2)⟩
 .rcases hx with h | h
  .obtain⟨c,hc⟩:=HR (n:=C+1) (acc:=oW X.env.cells sc.names []) h
   exact pf hc
  .exact pf (zb (D1 h))
 .rcases Cq (h:=hp) e (PySem.mem_of_lookup h) with h | ⟨h1,h2,h3⟩
  .exact .inl (old _ h)
  .exact .inr ⟨h1,h2,h3⟩
theorem HS (hc:X.calm=true)(O:uX X.N X.env.scope sc N mp)(hk:sc.kind=.function)(I:Inv X pins σ H s)(hC:s.heap.objs.size<=C)(kp:∀b o,s.heap.get? b=some o->h₁.get? b=some o){m:Str->Option af}
  (hn:h₁.Ns C m) (NL:∀b∈fp,tG X pins H b) (PQ:∀b∈fp,b<s.heap.objs.size) {t':Nat} (L:Ta X sc C h₁ cl) :
  Inv (fR X sc N cl C s H fp) [] (nK mp σ) H { s with heap:=h₁,toks:=t' }:=by
 have ok:=I.ok
 have WE:∀b∈fp,b ∉ pb X.stack:=λb hb z=>by
  rcases al.mp (I.uJ b z) with e | e
  .exact (NL b hb).2.1 e
  .exact (NL b hb).2.2.1 e
 refine⟨⟨ok.mod,hk,ok.glob,ok.blt,hC,?_,?_,?_,λ_=>ok.hd hc,ok.frames,.inl rfl,?_,I.bs,aL ok.Lf I.sz,?_,WE,I.stack,I.tS⟩,rfl,I.bare,Un.kept kp,?_,?_,I.hok.fresh hC,?_,?_,I.hok.kept kp,?_⟩
 .exact L.inj
 .intro x hx
  have HU:(relabel sc X.env).names.lookup x=some .cell\/(relabel sc X.env).names.lookup x=some .free:=hx;refine L.has x ?_;rcases HU with h | h
  .obtain⟨k',hm,e⟩:=nL h
   rcases e with e | ⟨e,_⟩
   .subst e
    exact .inl hm
   .subst e
    exact .inr hm
  .obtain⟨k',hm,e⟩:=nL h
   rcases e with e | ⟨_,e⟩
   .subst e
    exact .inr hm
   .cases e
 .intro x c hf hc
  have hf':sc.names.lookup x=some aO.cell:=by simpa [fR] using hf
  rcases L.sub x c hc with h | h
  .have:=O.fr _ h.2 rfl
   rw[hf'] at this;cases this
  .exact aL hC (dc h.1)
 .intro b hb
  refine⟨aV (aS (PQ b hb) hC),λx c h=>?_⟩;rcases L.sub x c h with h | h
  .exact (NL b hb).2.2.2.2.1 x c h.1
  .exact λz=>bo _ (df (aS (PQ b hb) hC) (z ▸ h.1))
 .intro b o e hb
  rcases (NL b hb).2.2.2.1 with z | z
  .exact ok.E2 b o e z
  .exact absurd (aS (aD (ok.bs b o e).1) z) (bo _)
 .refine⟨m,hn,λj x v e1 e2 e3=>?_⟩
  have Zb:N[j]? = some x:=e1
  have hj:j<mp.length:=by
   rw[O.len];exact (aN.mp Zb).1
  obtain⟨i,hi,hv⟩:∃i,mp[j]? = some (some i)/\σ[i]? = some (some v):=by
   unfold nK at e2;rw[aB] at e2
   cases e:mp[j]? with
   | none=>rw[e] at e2;cases e2
   | some o =>
    rw[e] at e2
    cases o with
    | none=>cases e2
    | some i =>
     refine⟨i,rfl,?_⟩;have Rx:(σ[i]?).join=some v:=Option.some.inj e2
     cases q:σ[i]? with
     | none=>rw[q] at Rx;cases Rx
     | some z =>
      rw[q] at Rx;have:z=some v:=Rx;rw[this]
  obtain⟨hx,hf⟩:=O.map j x i Zb hi;have WG:=PySem.mem_of_lookup hf;obtain⟨mX,hnX,hl⟩:=I.loc
  have vis:DP X.env.scope x:=by
   rcases O.free _ WG rfl with z | z
   .exact .inr (.inl z)
   .exact .inr (.inr z)
  obtain⟨u,r,q⟩:=hl i x v hx hv vis;refine⟨u,r,?_⟩;rcases q with⟨z,_⟩ | ⟨_,c,ec,Tb⟩
  .exfalso
   have z':X.env.scope.names.lookup x=some .local:=z;rcases O.free _ WG rfl with y | y
   .rw[show X.env.scope.names.lookup x=some .cell from y] at z';cases z'
   .rw[show X.env.scope.names.lookup x=some .free from y] at z';cases z'
  .obtain⟨c',E4⟩:=L.has x (.inr WG)
   have R':X.env.cells.lookup x=some c':=by
    rcases L.sub x c' E4 with h | h
    .exact h.1
    .have:=O.cell _ h.2.1 rfl
     rw[hf] at this;cases this
   rw[ec] at R';cases R';refine .inr ⟨ql hf,c,E4,?_⟩;obtain⟨o,ho,hd⟩:=Tb;exact⟨o,kp _ _ ho,hd⟩
 .intro x c h
  rcases L.sub x c h with h | h
  .obtain⟨v,o,ho,hd⟩:=I.cell x c h.1
   exact⟨v,o,kp _ _ ho,hd⟩
  .exact⟨none,h.2.2⟩
 .intro x c h
  rcases L.sub x c h with h | h
  .exact I.freeC x c h.1
  .exact I.hok.fresh (aL hC (dc h.1))
 .intro p hp
  cases hp
 .show (nK mp σ).length=N.length
  unfold nK;rw[ah,O.len]
theorem Inv.D2 {a:Addr}{o:HO}{ob:Obj}(I:Inv X pins σ H s)(ho:s.heap.get? a=some ob)(hn:H a=none)(hL:a≠X.env.locals)(h1:a∈X.ex\/X.s₀.heap.objs.size<=a)(h2:∀x c,X.env.cells.lookup x=some c->c≠a)
  (h3:∀p∈X.pn++pins,p.1≠a) (new:fM X.prog X.w (eM H a o) s.heap a o):Inv X pins σ (eM H a o) s:=by
 have Nt:∀b u,H b=some u->b≠a:=λb u e z=>by rw[z,hn] at e;cases e
 have:=I.step (g':=s.gens) (d':=s.drawn) (t':=s.toks) (h':=s.heap) (H':=eM H a o) (ch:=[a]) (λb hb=>?_) (λb o _ _ _ e _=>e) (λb o _ _ _ e _=>⟨o.slots,e⟩) (λb o hc _ n=>?_)
  (λb o _ e=>⟨o,e⟩) (λb xs e=>?_) (λb u xs e=>?_) (λb ps e=>⟨#[],?_⟩) (λm hm=>hm) (λb u e=>?_) I.bare
 .exact this
 .have e:b=a:=by simpa using hb
  subst e;exact⟨h1,hL,h2,h3⟩
 .rw[dJ (λz=>hc (by simp[z]))];exact n
 .rw[dJ (Nt _ _ e)];exact e
 .rw[dJ (Nt _ _ e)];exact e
 .rw[dJ (Nt _ _ e),e];simp
 .by_cases hb:b=a
  .subst hb;rw[dG] at e;cases e;exact new
  .rw[dJ hb] at e
   exact (I.hok b u e).B7 (λc v _ q=>q) (λc q=>by rw[dJ (Nt _ _ q)];exact q) λc xs q=>by rw[dJ (Nt _ _ q)];exact q
end
theorem zc (I:Nat->aw->Prop)
  (turn:∀n s,I n s->aA (model prog w) A (pyNext it) (λr s₁=>match r with
   | none=>R (.ok .next) s₁
   | some v=>aA (model prog w) A (letOwnedTupleGo target it v) (λ_ s'=>aA (model prog w) A (assign target env v) (λ_ s₂ =>
     aA (model prog w) A (forIn qa true λc r=>if r=true then do let ok <- isTrue c env (eval c env);pure (ForInStep.yield ok) else pure (ForInStep.yield r)) (λok s₃ =>
      if ok=true then aA (model prog w) A (eval rB env) (λx s₄ =>
       aA (model prog w) A (call (.builtin "list.append") [acc,x]) (λ_ s₅=>∃m,m<n/\I m s₅) (λ_ _=>False) s₄) (λ_ _=>False) s₃
      else ∃m,m<n/\I m s₃) (λ_ _=>False) s₂) (λ_ _=>False) s') (λ_ _=>False) s₁) (λ_ _=>False) s)
  (n:Nat) (h:I n s) :
  codeAny (model prog w) A (.compLoop (.ListComp rB [⟨target,iter,qa,0⟩] scope pos) 0 it acc env) R s:=by
 refine codeAny_loop rfl I (λn s hI=>?_) n h;show aA _ A ((compTurn (.ListComp rB [⟨target,iter,qa,0⟩] scope pos) 0 it acc env).onRaise (λx=>do noteFrame x env;theTreesLotGoes x)) _ _ s;refine wpAny_noted ?_;rw[compTurn_list];refine ae (wpAny_standAt (ae (bF (turn n s hI) (λr s₁ h₁=>?_) λ_ _ h'=>h'.elim)))
 cases r with
 | none=>exact ak h₁
 | some v =>
  refine ae (bF h₁ (λ_ s' h'=>ae (bF h' (λ_ s₂ h₂=>ae (bF h₂ (λok s₃ h₃=>?_) λ_ _ h'=>h'.elim)) λ_ _ h'=>h'.elim)) λ_ _ h'=>h'.elim)
  cases ok with
  | false=>exact ak ⟨rfl,h₃⟩
  | true =>
   exact ae (ae (bF h₃ (λx s₄ h₄=>ae (bF h₄ (λ_ s₅ h₅=>ak (ak ⟨rfl,h₅⟩)) λ_ _ h'=>h'.elim)) λ_ _ h'=>h'.elim))
noncomputable def Ry (X:Cx)(qa:List Expr)(t:TT):Prop :=
 ∀(pins:List (Addr × Obj)) (s:aw) (σ:St) (H:Hp) (Q:Bool->Hp->Prop),Inv X pins σ H s->t σ H Q ->
  aA (model X.prog X.w) X.A (forIn qa true λc r=>if r=true then do let ok <- isTrue c X.env (eval c X.env);pure (ForInStep.yield ok) else pure (ForInStep.yield r)) (TP X pins σ Q) X.xe s
noncomputable def NM:TT:=λ_ H Q=>Q true H
theorem LU:Ry X [] NM:=λ_ _ _ H _ I h=>wpAny_tests_nil ⟨H,I,h⟩
theorem LV (h:PT X c t):Ry X [c] t:=λpins s σ H Q I hw=>wpAny_tests_one (h pins s σ H Q I hw)
noncomputable abbrev TC:=St->Hp->(List V->Hp->Prop)->Prop
noncomputable def xF (wi:TI)(mp:List (Option Nat))(g:TG)(tc:TT)(te:TE):TC:=λσ H R=>wi σ H λJ H1=>∃W:Nat->Nat->List V->St->Hp->Prop,(∃m,W 0 m [] (nK mp σ) H1)/\∀i m ys σ' H',W i m ys σ' H' ->
 (J.stop i H'/\ys.length<=av/\R ys H') \/
 (J.go i H'/\ys.length<av/\∀x RA,J.KR i H' x RA->g x σ' RA λσ2 H2=>tc σ2 H2 λb H3 =>
  if b=true then te σ2 H3 λy H4=>∃m',m' < m/\W (i+1) m' (ys++[y]) σ2 H4 else ∃m',m' < m/\W (i+1) m' ys σ2 H3)
section
theorem xG {use:Option (af->Sem Unit)}{Q:af->aw->Prop}(hc:X.calm=true)(hi:PI X tg iter wi)(hk:sc.kind=.function)(O:uX X.N X.env.scope sc N mp)
  (hb:∀(cl:List (Str × Addr)) (C:Addr) (s₂:aw) (H₂:Hp) (fp:List Addr),PG (fR X sc N cl C s₂ H₂ fp) tg g/\Ry (fR X sc N cl C s₂ H₂ fp) qa tc/\PE (fR X sc N cl C s₂ H₂ fp) rB te)
  {pins:List (Addr × Obj)} {s:aw} {σ:St} {H:Hp} {R:List V->Hp->Prop} (I:Inv X pins σ H s) (h:xF wi mp g tc te σ H R)
  (hs:∀x,foldedSetIterable iter X.env x=pure x)
  (WH:∀(D C:Addr) (ys:List V) (H':Hp) (s':aw) (m:Str->Option af),Inv X pins σ (eM H' D (.lst ys)) s'->s'.heap.Ns C m->tG X pins (eM H' D (.lst ys)) C->H' D=none->R ys H' ->
   compPost (model X.prog X.w) X.A X.xe use Q (.ref D) C (.ok .next) s') :
  aA (model X.prog X.w) X.A (comprehension (.ListComp rB [⟨tg,iter,qa,0⟩] sc pos) sc X.env jJ (newList []) false (eval iter X.env) use) Q X.xe s:=by
 have ok:=I.ok;refine wpAny_comprehension_free (g:=⟨tg,iter,qa,0⟩) (gs:=[]) rfl hs (wW (Ag O ok)) hk O.loc (f6 (hi pins s σ H _ I h) λv s1 h1=>f6 h1 λWj s2 h2=>?_);obtain⟨it,fp,tn,J,H2,e,I2,T,So,f2,W,⟨m0,w0⟩,turn⟩:=h2;subst e;refine aW (Cs λzd=>?_);dsimp only at zd ⊢;generalize hP:s2.heap.push { cls:=.type "list",dict:=none,data:=.seq ([]:List af).toArray }=P2 at zd ⊢;have Zc:P2.objs.size=s2.heap.objs.size+1:=by rw[<- hP,bG]
 have WI:s2.heap.objs.size≠P2.objs.size:=by rw[Zc];exact aV (cD _)
 have HV:s2.heap.objs.size<=P2.objs.size:=by rw[Zc];exact bX _
 have L:=LS (C:=P2.objs.size) O I2 (hp:=P2.push { cls:=.type "dict",data:=.dict #[] }) (by rw[bG];omega) (bG ..);generalize NN:pushCells (P2.push { cls:=.type "dict",data:=.dict #[] }) sc.names=h₁ at zd L ⊢;generalize cellsFrom (P2.objs.size+1) sc.names (oW X.env.cells sc.names [])=cl at L ⊢
 have old:∀b o,s2.heap.get? b=some o->h₁.get? b=some o:=λb o e =>
  NN ▸ pushCells_keeps _ _ b o (ai _ (hP ▸ ai _ e))
 have LW:h₁.get? s2.heap.objs.size=some { cls:=.type "list",dict:=none,data:=.seq ([]:List af).toArray } :=
  NN ▸ pushCells_keeps _ _ _ _ (ai _ (hP ▸ aE _ rfl))
 have PQ:∀b∈fp,b<s2.heap.objs.size:=λb hb=>by
  obtain⟨o,e,_⟩:=T.obj _ _ So b hb;exact aD e
 have Zd:s2.heap.objs.size ∉ fp:=λz=>bo _ (PQ _ z)
 have I3:Inv (fR X sc N cl P2.objs.size s2 H2 fp) [] (nK mp σ) H2 { s2 with heap:=h₁ } :=
  HS hc O hk I2 HV old zd f2 PQ L
 obtain⟨hg,ht,he⟩:=hb cl P2.objs.size s2 H2 fp;generalize hX:fR X sc N cl P2.objs.size s2 H2 fp=Y at I3 hg ht he;have yP:Y.prog=X.prog:=by rw[<- hX];rfl
 have yw:Y.w=X.w:=by rw[<- hX];rfl
 have yK:Y.K=X.K:=by rw[<- hX];rfl
 have yA:Y.A=X.A:=by rw[<- hX];rfl
 have yc:Y.calm=true:=by rw[<- hX];rfl
 have yx:Y.xe=λ_ _=>False:=by rw[<- hX];rfl
 have yl:Y.env.locals=P2.objs.size:=by rw[<- hX];rfl
 have Ze:Y.ex=fp:=by rw[<- hX];rfl
 have WJ:Y.s₀=s2:=by rw[<- hX];rfl
 have yH0:Y.H₀=H2:=by rw[<- hX];rfl
 have Zf:Y.pn=[]:=by rw[<- hX];rfl
 have WK:Y.fs=pb X.stack:=by rw[<- hX];rfl
 have Tc:Y.env=compEnvC sc cl P2.objs.size X.env:=by rw[<- hX];rfl
 have Zg:∀x c,Y.env.cells.lookup x=some c->X.env.cells.lookup x=some c\/P2.objs.size<c:=λx c e=>by
  rw[Tc] at e;rcases L.sub x c e with h | h
  .exact .inl h.1
  .exact .inr h.1
 have dne:∀x c,Y.env.cells.lookup x=some c->c≠s2.heap.objs.size:=λx c e z=>by
  rcases Zg x c e with h | h
  .obtain⟨v,o,ho,_⟩:=I2.cell x c h
   exact absurd (aD ho) (by rw[z];exact bo _)
  .exact absurd (cq HV h) (by rw[z];exact bo _)
 have WE:∀b∈fp,b ∉ pb X.stack:=λb hb z=>by
  rcases al.mp (I2.uJ b z) with e | e
  .exact (f2 b hb).2.1 e
  .exact (f2 b hb).2.2.1 e
 have dfs:s2.heap.objs.size ∉ pb X.stack:=λz=>by
  rcases al.mp (I2.uJ _ z) with e | e
  .exact absurd I2.lt (by rw[<- e];exact bo _)
  .exact I2.R5 (ag _) e
 have NL:∀{H':Hp} {o:Obj},(∀b∈fp,H' b=none)->∀b∈fp,tG Y [(s2.heap.objs.size,o)] H' b:=λ{H' o} hn b hb=>by
  refine⟨hn b hb,?_,?_,?_,?_,?_⟩
  .rw[yl];exact aV (aS (PQ b hb) HV)
  .rw[WK];exact WE b hb
  .rw[Ze];exact .inl hb
  .intro x c e
   rcases Zg x c e with h | h
   .exact (f2 b hb).2.2.2.2.1 x c h
   .exact λz=>bo _ (df (aS (PQ b hb) HV) (z ▸ h))
  .intro p hp
   rw[Zf] at hp;have:p=(s2.heap.objs.size,o):=by simpa using hp
   subst this;exact λz=>Zd (by have z':s2.heap.objs.size=b:=z;rw[z'];exact hb)
 have Td:∀{σ':St} {H':Hp} {s':aw} {o:Obj},Inv Y [] σ' H' s'->s'.heap.get? s2.heap.objs.size=some o->(∀v,o.data≠.cell v)->H' s2.heap.objs.size=none->Inv Y [(s2.heap.objs.size,o)] σ' H' s' :=
  λ{σ' H' s' o} J e d hn=>J.tU λp hp=>by
   have:p=(s2.heap.objs.size,o):=by simpa using hp
   subst this;exact⟨e,hn,by rw[yl];exact WI,by rw[WK];exact dfs,d⟩
 have loop:∀s₃:aw,s₃={ s2 with heap:=h₁ } ->
   codeAny (model X.prog X.w) X.A (.compLoop (.ListComp rB [⟨tg,iter,qa,0⟩] sc pos) 0 (.ref it) (.ref s2.heap.objs.size) Y.env)
    (compPost (model X.prog X.w) X.A X.xe use Q (.ref s2.heap.objs.size) P2.objs.size) s₃:=by
  rintro s₃ rfl
  refine zc (λn s'=>∃i ys its c σ' H',Inv Y [(s2.heap.objs.size,({ cls:=.type "list",data:=.seq its.toArray c }:Obj))] σ' H' s'/\eA ys its/\tn i s'.heap/\(∀b∈fp,H' b=none)/\ys.length<=av/\W i n ys σ' H') ?_ m0
   ⟨0,[],[],0,nK mp σ,H2,Td I3 LW (λv z=>by cases z) (I2.hok.fresh (ag _)),.nil,T.keep _ _ _ So (λb _ o e=>old b o e),λb hb=>(f2 b hb).1,bW _,w0⟩
  rintro n s3 ⟨i,ys,its,c,σ3,H3,J3,rv,Sq,Sr,hz,w3⟩;have aae:=J3.pin _ (aU _ (ay.mpr rfl));rcases turn i n ys σ3 H3 w3 with⟨stop,hl,qn⟩ | ⟨go,hl,step⟩
  .have:=T.done Y yP yw yK yc i _ s3 σ3 H3 (λ_ _=>False) J3 (NL Sr) Sq stop
   rw[yA] at this;refine f6 this λr s4 ⟨hr,J4⟩=>?_;subst hr;obtain⟨pe,pn,_,_,_⟩:=J4.pin _ (aU _ (ay.mpr rfl));dsimp only at pe pn;have un:=J4.base;rw[WK,Ze,WJ,yH0] at un;have os4:s4.os=s2.os:=by have:=J4.os;rw[WJ] at this;exact this
   have Te:=J4.hok;rw[yP,yw] at Te;have IX:Inv X pins σ H3 s4:=I2.Nu os4 un Te J4.bare λb hb=>⟨(f2 b hb).2.2.2.1,(f2 b hb).2.1,(f2 b hb).2.2.2.2.1,(f2 b hb).2.2.2.2.2⟩;obtain⟨mC,Zh,_⟩:=J4.loc;rw[yl] at Zh;have dX:tG X pins H3 s2.heap.objs.size:=I2.uO (ag _) pn;have IT:Inv X pins σ (eM H3 s2.heap.objs.size (.lst ys)) s4:=IX.D2 (o:=.lst ys) pe pn dX.2.1 dX.2.2.2.1 dX.2.2.2.2.1 dX.2.2.2.2.2 ⟨hl,its,c,rv,pe⟩;have cn:H3 P2.objs.size=none:=by have:=J4.free;rw[yl] at this;exact this
   have cX:tG X pins (eM H3 s2.heap.objs.size (.lst ys)) P2.objs.size:=I2.uO HV (by rw[dJ WI.symm];exact cn);exact WH _ _ ys H3 s4 mC IT Zh cX pn qn
  .have:=T.item Y yP yw yK yc i _ s3 σ3 H3 (λ_ _=>False) J3 (NL Sr) Sq go
   rw[yA] at this;refine f6 this λr s4 ⟨u,hr,h4⟩=>?_;subst hr;refine f6 h4 λ_ s5 ⟨x,H5,J5,r5,y5,Pa,Wk⟩=>?_;have J5':=J5.pinned (NL Wk) (T.obj _ _ Pa);have ga:=hg _ s5 σ3 H5 x u _ J5' r5 (step x H5 y5);rw[yP,yw,yA,yx] at ga;refine f6 ga λ_ s6 ⟨σ6,H6,J6,q6⟩=>?_;have gt:=ht _ s6 σ6 H6 _ J6 q6;rw[yP,yw,yA,yx] at gt;refine f6 gt λb s7 ⟨H7,J7,q7⟩=>?_
   have NO:∀{σ':St} {H':Hp} {s':aw},Inv Y ([(s2.heap.objs.size,({ cls:=.type "list",data:=.seq its.toArray c }:Obj))]++uQ fp s5.heap) σ' H' s'->tn (i+1) s'.heap/\(∀b∈fp,H' b=none):=λ{σ' H' s'} J=>by
    refine⟨T.keep _ _ _ Pa λb hb o e=>(J.pin (b,o) (aU _ (aU _ (mG hb e)))).1,λb hb=>?_⟩;obtain⟨o,e,d⟩:=T.obj _ _ Pa b hb;exact (J.pin (b,o) (aU _ (aU _ (mG hb e)))).2.1
   cases b with
   | false =>
    have WL:∃m',m' < n/\W (i+1) m' ys σ6 H7:=by simpa using q7
    obtain⟨m',hm,w7⟩:=WL;obtain⟨t7,f7⟩:=NO J7;rw[if_neg ba];exact⟨m',hm,i+1,ys,its,c,σ6,H7,J7.nH,rv,t7,f7,hz,w7⟩
   | true =>
    rw[if_pos rfl];have WL:te σ6 H7 λy H4=>∃m',m' < n/\W (i+1) m' (ys++[y]) σ6 H4:=by simpa using q7
    have ge:=he _ s7 σ6 H7 _ J7 WL;rw[yP,yw,yA,yx] at ge;refine f6 ge λu8 s8 ⟨y,H8,J8,r8,m',hm,w8⟩=>?_;obtain⟨t8,f8⟩:=NO J8;have Zi:=J8.nH;obtain⟨pe,pn,_,_,_⟩:=Zi.pin _ (aU _ (ay.mpr rfl));dsimp only at pe pn;have fk:=rv.length;refine call_meets F.slot_list_append ⟨_,pe,rfl⟩ F.entry_list_append (F.args_list_append_2 _ _) (PySem.list_append s2.heap.objs.size its.toArray c u8 (by rw[aC];omega)) ⟨pe,?_⟩;have qe:=PySem.IsL.update pe (λa=>a.push u8)
    have qe':(s8.heap.update s2.heap.objs.size (Obj.mapSeq λa=>a.push u8)).get? s2.heap.objs.size=some { cls:=.type "list",data:=.seq (its++[u8]).toArray (c+1) }:=by
     simpa using qe
    have J9:Inv Y [] σ6 H8 { s8 with heap:=s8.heap.update s2.heap.objs.size (Obj.mapSeq λa=>a.push u8),toks:=s8.toks }:=by
     have J0:Inv Y [] σ6 H8 s8:=Zi.tU λp hp=>by cases hp
     refine J0.turned (it:=s2.heap.objs.size) (λb o hb e=>(aQ s8.heap _ (Ne.symm hb)).trans e) pn (by rw[yl];exact WI) (.inr (by rw[WJ];exact ag _)) dne (λp hp=>?_);rw[Zf] at hp;cases hp
    refine⟨m',hm,i+1,ys++[y],its++[u8],c+1,σ6,H8,Td J9 qe' (λv z=>by cases z) pn,rv.append (.cons r8 .nil),?_,f8,by rw[au,aT];omega,w8⟩;exact T.keep _ _ _ t8 λb hb o e=>(aQ s8.heap _ (λ(z:s2.heap.objs.size=b)=>Zd (by rw[z];exact hb))).trans e
 have Tf:compEnvC sc cl P2.objs.size X.env=Y.env:=Tc.symm;show codeAny _ _ (.compStart _ 0 (.ref it) (.ref s2.heap.objs.size) (compEnvC sc cl P2.objs.size X.env)) _ _;rw[Tf];exact codeAny_compStart_list (loop _ rfl) (T.self _ 0 _ _ _ (T.keep _ _ _ So λb _ o e=>old b o e) (loop _ rfl))
noncomputable def HW (t:TC):TE:=λσ H Q=>t σ H λys H'=>∀D,H' D=none->Q (.ref D) (eM H' D (.lst ys))
theorem LX (hc:X.calm=true)(hi:PI X tg iter wi)(hk:sc.kind=.function)(hm:iH X.N X.env.scope sc N mp=true)
  (hb:∀(cl:List (Str × Addr)) (C:Addr) (s₂:aw) (H₂:Hp) (fp:List Addr),PG (fR X sc N cl C s₂ H₂ fp) tg g/\Ry (fR X sc N cl C s₂ H₂ fp) qa tc/\PE (fR X sc N cl C s₂ H₂ fp) rB te)
  (hs:∀x,foldedSetIterable iter X.env x=pure x:=by rw[3]):PE X (.ListComp rB [⟨tg,iter,qa,0⟩] sc pos) (HW (xF wi mp g tc te)):=by
 intro pins s σ H Q I h;rw[eval_ListComp];refine xG (use:=none) hc hi hk (xE hm) hb I h hs λD C ys H' s' m I' hn f hD q=>?_;refine⟨m,hn,λh' WM=>?_⟩;obtain⟨f0,f1,_,f3,f4,f5⟩:=f;exact⟨.ref D,_,I'.turned (t':=s'.toks) (it:=C) (λb o hb e=>(WM.2 b hb).trans e) f0 f1 f3 f4 f5,rfl,q D hD⟩
noncomputable def HX (i:Nat)(t:TC):TS:=λD σ H=>t σ H λys H'=>∀l,H' l=none->D.nx (σ.set i (some (.ref l))) (eM H' l (.lst ys))
theorem LY (hN:X.N.Nodup)(PR:X.N[i]? = some x)(hx:X.env.scope.names.lookup x=some .local)(hc:X.calm=true)(hi:PI X tg iter wi)(hk:sc.kind=.function)(hm:iH X.N X.env.scope sc N mp=true)
  (hb:∀(cl:List (Str × Addr)) (C:Addr) (s₂:aw) (H₂:Hp) (fp:List Addr),PG (fR X sc N cl C s₂ H₂ fp) tg g/\Ry (fR X sc N cl C s₂ H₂ fp) qa tc/\PE (fR X sc N cl C s₂ H₂ fp) rB te)
  (LZ:swapsWith (.ListComp rB [⟨tg,iter,qa,0⟩] sc pos) (some (.Name x py)) spos.line X.env=pure true:=by rfl)
  (hs:∀x,foldedSetIterable iter X.env x=pure x:=by rw[3]):PS X (.Assign [.Name x py] (.ListComp rB [⟨tg,iter,qa,0⟩] sc pos) spos) (HX i (xF wi mp g tc te)):=by
 intro pins s σ H D I h;rw[exec_Assign_Name_used _ _ _ _ LZ];refine ae (wpAny_standAt (ae ?_));show aA _ X.A (do let _ <- comprehension (.ListComp rB [⟨tg,iter,qa,0⟩] sc pos) sc X.env _ (newList []) false (eval iter X.env) (some (assign (.Name x py) X.env))) _ _ s;refine ae (f6 (xG (use:=some (assign (.Name x py) X.env)) (Q:=λ_ s'=>SP X pins D .next s') hc hi hk (xE hm) hb I h hs λl C ys H' s' m I' hn f hD q=>?_) λ_ s' hq=>ak (ak hq));obtain⟨f0,f1,f2,f3,f4,f5⟩:=f;show aA _ _ (assign (.Name x py) X.env (.ref l)) _ _ s';refine wpAny_assign_Name (xt (v:=.ref l) I' hN PR (.inl hx) rfl (λPq I'' ⟨a,sb,ea⟩=>?_) (.inr hx))
 have hac:C≠a:=by
  rcases ea with e | e
  .rw[e];exact f1
  .exact λz=>f4 x a e z.symm
 refine⟨m,hn.sameBut sb hac,λh' WM=>?_⟩;exact⟨_,_,I''.turned (t':=Pq.toks) (it:=C) (λb o hb e=>(WM.2 b hb).trans e) f0 f1 f3 f4 f5,q l hD⟩
end
noncomputable def KZ:List (List Int × ad)->List V->List (Key × V)
 | p::kvs,x::xs=>(.inl (p.1.headD 0),x)::KZ kvs xs
 | _,_=>[]
noncomputable def K0:List (List Int × ad)->List V->List (List Key × V)
 | p::kvs,x::xs=>(p.1.map .inl,x)::K0 kvs xs
 | _,_=>[]
noncomputable def zY (t:Bool)(kvs:List (List Int × ad))(xs:List V):HO:=match t with | true=>.dT (K0 kvs xs) | false=>.dK (KZ kvs xs)
theorem qm (h:some (HO.lst ys)=some (zY t kvs xs)):False:=by cases t<;>cases h
theorem D3 (h:some (HO.tup ys)=some (zY t kvs xs)):False:=by cases t<;>cases h
noncomputable def o5 (t:Bool)(kvs:List (List Int × ad)):List (ad × ad):=(.bool t,.none)::kvs.map λp=>(.tuple (p.1.map .int),p.2)
noncomputable def i3 (t:Bool)(kvs:List (List Int × ad)):ad:=.dict (o5 t kvs)
mutual
def eF (S:List Addr)(H:Hp):ad->V->Prop
 | .none,v=>v=.iZ
 | .bool b,v=>v=.bl b
 | .int i,v=>v=.int i
 | .str x,v=>v=.str x
 | .tuple ds,v=>∃a xs,v=.ref a/\H a=some (.tup xs)/\dH S H ds xs
 | .list ds,v=>∃a xs,v=.ref a/\H a=some (.lst xs)/\a ∉ S/\dH S H ds xs
 | .dict l,v=>∃a t kvs xs,v=.ref a/\l=o5 t kvs/\H a=some (zY t kvs xs)/\a ∉ S/\(t=false->∀p∈kvs,p.1.length=1)/\gG S H l (.iZ::xs)
def dH (S:List Addr)(H:Hp):List ad->List V->Prop
 | [],xs=>xs=[]
 | d::ds,xs=>∃x r,xs=x::r/\eF S H d x/\dH S H ds r
def gG (S:List Addr)(H:Hp):List (ad × ad)->List V->Prop
 | [],xs=>xs=[]
 | p::l,xs=>∃x r,xs=x::r/\Ct S H p x/\gG S H l r
def Ct (S:List Addr)(H:Hp):ad × ad->V->Prop
 | (_,d),x=>eF S H d x
end
structure Ext (S:List Addr) (H H':Hp):Prop where
 keep:∀b o,b ∉ S->H b=some o->H' b=some o
 tup:∀b xs,H b=some (.tup xs)->H' b=some (.tup xs)
theorem Ext.refl (S:List Addr)(H:Hp):Ext S H H:=⟨λ_ _ _ e=>e,λ_ _ e=>e⟩
theorem Ext.trans (a:Ext S H H1)(b:Ext S H1 H2):Ext S H H2:=⟨λc o hc e=>b.keep c o hc (a.keep c o hc e),λc xs e=>b.tup c xs (a.tup c xs e)⟩
theorem Ext.mono (a:Ext S H H')(h:∀b∈S,b∈S'):Ext S' H H':=⟨λb o hb e=>a.keep b o (λz=>hb (h b z)) e,a.tup⟩
theorem Ext.new (h:H p=none):Ext S H (eM H p o):=⟨λb u _ e=>by rw[dJ (eE e h)];exact e,λb xs e=>by rw[dJ (eE e h)];exact e⟩
theorem Ext.set (hp:p∈S)(h:H p=some (.lst xs)):Ext S H (eM H p o) :=
 ⟨λb u hb e=>by rw[dJ (λ(z:b=p)=>hb (by rw[z];exact hp))];exact e,λb ys e=>by rw[dJ (λz=>by rw[z,h] at e;cases e)];exact e⟩
theorem Ext.WN {S:List Addr}{H0 H:Hp}{p:Addr}{o:HO}{xs:List V}(a:Ext S H0 H)(h0:H0 p=none)(h:H p=some (.lst xs)):Ext S H0 (eM H p o) :=
 ⟨λb u hb e=>by rw[dJ (λz=>by rw[z,h0] at e;cases e)];exact a.keep b u hb e,λb ys e=>by rw[dJ (λz=>by rw[z,h0] at e;cases e)];exact a.tup b ys e⟩
theorem Ext.fresh (a:Ext S H0 H)(hp:p ∉ S)(h:H p=none):H0 p=none:=by
 cases e:H0 p with
 | none=>rfl
 | some o=>rw[a.keep p o hp e] at h;cases h
mutual
theorem eF.ext {S:List Addr}{H H':Hp}(x:Ext S H H'):∀{d:ad} {v:V},eF S H d v->eF S H' d v
 | .none,_,h=>h
 | .bool _,_,h=>h
 | .int _,_,h=>h
 | .str _,_,h=>h
 | .tuple ds,_,h=>by
  unfold eF at h ⊢;obtain⟨a,xs,e,ha,hr⟩:=h;exact⟨a,xs,e,x.tup a xs ha,dH.ext x hr⟩
 | .list ds,_,h=>by
  unfold eF at h ⊢;obtain⟨a,xs,e,ha,hs,hr⟩:=h;exact⟨a,xs,e,x.keep a _ hs ha,hs,dH.ext x hr⟩
 | .dict l,_,h=>by
  unfold eF at h ⊢;obtain⟨a,t,kvs,xs,e,el,ha,hs,hk,hr⟩:=h;exact⟨a,t,kvs,xs,e,el,x.keep a _ hs ha,hs,hk,gG.ext x hr⟩
theorem dH.ext {S:List Addr}{H H':Hp}(x:Ext S H H'):∀{ds:List ad} {vs:List V},dH S H ds vs->dH S H' ds vs
 | [],_,h=>h
 | d::ds,_,h=>by
  unfold dH at h ⊢;obtain⟨y,r,e,h1,h2⟩:=h;exact⟨y,r,e,eF.ext x h1,dH.ext x h2⟩
theorem gG.ext {S:List Addr}{H H':Hp}(x:Ext S H H'):∀{l:List (ad × ad)} {vs:List V},gG S H l vs->gG S H' l vs
 | [],_,h=>h
 | (_,d)::l,_,h=>by
  unfold gG Ct at h ⊢;obtain⟨y,r,e,h1,h2⟩:=h;exact⟨y,r,e,eF.ext x h1,gG.ext x h2⟩
end
mutual
theorem eF.less {S S':List Addr}{H:Hp}(x:∀b∈S',b∈S):∀{d:ad} {v:V},eF S H d v->eF S' H d v
 | .none,_,h=>h
 | .bool _,_,h=>h
 | .int _,_,h=>h
 | .str _,_,h=>h
 | .tuple ds,_,h=>by
  unfold eF at h ⊢;obtain⟨a,xs,e,ha,hr⟩:=h;exact⟨a,xs,e,ha,dH.less x hr⟩
 | .list ds,_,h=>by
  unfold eF at h ⊢;obtain⟨a,xs,e,ha,hs,hr⟩:=h;exact⟨a,xs,e,ha,λz=>hs (x a z),dH.less x hr⟩
 | .dict l,_,h=>by
  unfold eF at h ⊢;obtain⟨a,t,kvs,xs,e,el,ha,hs,hk,hr⟩:=h;exact⟨a,t,kvs,xs,e,el,ha,λz=>hs (x a z),hk,gG.less x hr⟩
theorem dH.less {S S':List Addr}{H:Hp}(x:∀b∈S',b∈S):∀{ds:List ad} {vs:List V},dH S H ds vs->dH S' H ds vs
 | [],_,h=>h
 | d::ds,_,h=>by
  unfold dH at h ⊢;obtain⟨y,r,e,h1,h2⟩:=h;exact⟨y,r,e,eF.less x h1,dH.less x h2⟩
theorem gG.less {S S':List Addr}{H:Hp}(x:∀b∈S',b∈S):∀{l:List (ad × ad)} {vs:List V},gG S H l vs->gG S' H l vs
 | [],_,h=>h
 | (_,d)::l,_,h=>by
  unfold gG Ct at h ⊢;obtain⟨y,r,e,h1,h2⟩:=h;exact⟨y,r,e,eF.less x h1,gG.less x h2⟩
end
section
theorem dH.nil:dH S H [] []:=by unfold dH;rfl
theorem dH.cons (h:eF S H d x)(t:dH S H ds xs):dH S H (d::ds) (x::xs):=by unfold dH;exact⟨x,xs,rfl,h,t⟩
theorem dH.of_cons (h:dH S H (d::ds) xs):∃x r,xs=x::r/\eF S H d x/\dH S H ds r:=by unfold dH at h;exact h
theorem dH.gc (h:dH S H [] xs):xs=[]:=by unfold dH at h;exact h
theorem dH.length:∀{ds:List ad} {xs:List V},dH S H ds xs->xs.length=ds.length
 | [],_,h=>by rw[h.gc];rfl
 | _::_,_,h=>by
  obtain⟨x,r,e,_,h2⟩:=h.of_cons;subst e;simp[h2.length]
theorem dH.get:∀{ds:List ad} {xs:List V} {i:Nat} {x:V},dH S H ds xs->xs[i]? = some x->∃d,ds[i]? = some d/\eF S H d x
 | [],_,i,x,h,e=>by rw[h.gc] at e;cases e
 | d::ds,_,0,x,h,e=>by
  obtain⟨y,r,e1,h1,h2⟩:=h.of_cons;subst e1;cases e;exact⟨d,rfl,h1⟩
 | d::ds,_,i+1,x,h,e=>by
  obtain⟨y,r,e1,h1,h2⟩:=h.of_cons;subst e1;obtain⟨d',q,h3⟩:=dH.get (i:=i) h2 (by simpa using e);exact⟨d',by simpa using q,h3⟩
theorem dH.at:∀{ds:List ad} {xs:List V} {i:Nat} {d:ad},dH S H ds xs->ds[i]? = some d->∃x,xs[i]? = some x/\eF S H d x
 | [],_,i,d,h,e=>by cases e
 | d::ds,_,0,d',h,e=>by
  obtain⟨y,r,e1,h1,h2⟩:=h.of_cons;subst e1;cases e;exact⟨y,rfl,h1⟩
 | d::ds,_,i+1,d',h,e=>by
  obtain⟨y,r,e1,h1,h2⟩:=h.of_cons;subst e1;obtain⟨x,q,h3⟩:=dH.at (i:=i) h2 (by simpa using e);exact⟨x,by simpa using q,h3⟩
theorem dH.append:∀{ds es:List ad} {xs ys:List V},dH S H ds xs->dH S H es ys->dH S H (ds++es) (xs++ys)
 | [],_,_,_,h,k=>by rw[h.gc];exact k
 | d::ds,_,_,_,h,k=>by
  obtain⟨y,r,e1,h1,h2⟩:=h.of_cons;subst e1;exact .cons h1 (dH.append h2 k)
theorem dH.take:∀{ds:List ad} {xs:List V} (n:Nat),dH S H ds xs->dH S H (ds.take n) (xs.take n)
 | _,_,0,_=>.nil
 | [],_,n+1,h=>by rw[h.gc];exact .nil
 | d::ds,_,n+1,h=>by
  obtain⟨y,r,e1,h1,h2⟩:=h.of_cons;subst e1;exact .cons h1 (dH.take n h2)
theorem dH.drop:∀{ds:List ad} {xs:List V} (n:Nat),dH S H ds xs->dH S H (ds.drop n) (xs.drop n)
 | _,_,0,h=>h
 | [],_,n+1,h=>by rw[h.gc];exact .nil
 | d::ds,_,n+1,h=>by
  obtain⟨y,r,e1,h1,h2⟩:=h.of_cons;subst e1;exact dH.drop n h2
theorem dH.reverse:∀{ds:List ad} {xs:List V},dH S H ds xs->dH S H ds.reverse xs.reverse
 | [],_,h=>by rw[h.gc];exact .nil
 | d::ds,_,h=>by
  obtain⟨y,r,e1,h1,h2⟩:=h.of_cons;subst e1;rw[cz,cz];exact (dH.reverse h2).append (.cons h1 .nil)
theorem dH.ints:∀(ns:List Int),dH S H (ns.map ad.int) (ns.map V.int)
 | []=>.nil
 | n::ns=>.cons (by unfold eF;rfl) (dH.ints ns)
theorem eF.tup (h:H a=some (.tup xs))(r:dH S H ds xs):eF S H (.tuple ds) (.ref a):=by unfold eF;exact⟨a,xs,rfl,h,r⟩
theorem eF.lst (h:H a=some (.lst xs))(hs:a ∉ S)(r:dH S H ds xs):eF S H (.list ds) (.ref a):=by unfold eF;exact⟨a,xs,rfl,h,hs,r⟩
theorem eF.int (i:Int):eF S H (.int i) (.int i):=by unfold eF;rfl
theorem eF.bl (b:Bool):eF S H (.bool b) (.bl b):=by unfold eF;rfl
theorem eF.iZ:eF S H .none .iZ:=by unfold eF;rfl
theorem eF.str (x:Str):eF S H (.str x) (.str x):=by unfold eF;rfl
theorem eF.eX (h:eF S H (.tuple ds) v):∃a xs,v=.ref a/\H a=some (.tup xs)/\dH S H ds xs:=by unfold eF at h;exact h
theorem eF.eY (h:eF S H (.list ds) v):∃a xs,v=.ref a/\H a=some (.lst xs)/\a ∉ S/\dH S H ds xs:=by unfold eF at h;exact h
theorem gG.Fj:∀{l:List (ad × ad)} {xs:List V},gG S H l xs↔dH S H (l.map (·.2)) xs
 | [],xs=>by unfold gG;simp[dH]
 | (_,d)::l,xs=>by
  unfold gG Ct;rw[am,dH];exact⟨λ⟨x,r,e,h1,h2⟩=>⟨x,r,e,h1,gG.Fj.mp h2⟩,λ⟨x,r,e,h1,h2⟩=>⟨x,r,e,h1,gG.Fj.mpr h2⟩⟩
theorem jo (t:Bool)(kvs:List (List Int × ad)):(o5 t kvs).map (·.2)=.none::kvs.map (·.2):=by unfold o5;rw[am,br];rfl
theorem eF.Tg (h:H a=some (zY t kvs xs))(hs:a ∉ S)(hk:t=false->∀p∈kvs,p.1.length=1)(r:dH S H (kvs.map (·.2)) xs):eF S H (i3 t kvs) (.ref a):=by
 unfold i3 eF;exact⟨a,t,kvs,xs,rfl,rfl,h,hs,hk,gG.Fj.mpr (by rw[jo];exact .cons .iZ r)⟩
theorem eF.mJ (h:eF S H (.dict l) v):∃a t kvs xs,v=.ref a/\l=o5 t kvs/\H a=some (zY t kvs xs)/\a ∉ S/\(t=false->∀p∈kvs,p.1.length=1)/\dH S H (kvs.map (·.2)) xs:=by
 unfold eF at h;obtain⟨a,t,kvs,xs,e,rfl,ha,hs,hk,hr⟩:=h;have:=gG.Fj.mp hr;rw[jo] at this;obtain⟨x,r,e2,_,h2⟩:=this.of_cons;injection e2 with _ e3;subst e3;exact⟨a,t,kvs,xs,e,rfl,ha,hs,hk,h2⟩
theorem eF.eK (h:eF S H (.int i) v):v=.int i:=by unfold eF at h;exact h
theorem eF.iq (h:eF S H (.bool b) v):v=.bl b:=by unfold eF at h;exact h
theorem eF.ik (h:eF S H (.str x) v):v=.str x:=by unfold eF at h;exact h
theorem eF.lF (h:eF S H .none v):v=.iZ:=by unfold eF at h;exact h
end
mutual
theorem eF.reads {P:aZ}{w:World}{S:List Addr}{H:Hp}{h:Heap}(ok:lX P w H h):∀{d:ad} {v:V} {u:af},d.canLay0=true->eF S H d v->RelV v u->∃as,Reads h u d as
 | .none,v,u,_,r,q=>by cases r.lF;cases (show u=af.none from q);exact⟨_,.none⟩
 | .bool b,v,u,_,r,q=>by cases r.iq;cases (show u=af.bool b from q);exact⟨_,.bool b⟩
 | .int i,v,u,_,r,q=>by cases r.eK;obtain⟨t,e⟩:=(show ∃t,u=af.int i t from q);cases e;exact⟨_,.int i t⟩
 | .str x,v,u,_,r,q=>by cases r.ik;obtain⟨t,e⟩:=(show ∃t,u=af.str x t from q);cases e;exact⟨_,.str x t⟩
 | .tuple ds,v,u,c0,r,q=>by
  obtain⟨a,xs,rfl,ha,hr⟩:=r.eX;cases (show u=af.ref a from q);obtain⟨_,its,rv,o,e,c,n,d,_⟩:=ok a _ ha;obtain⟨as,ra⟩:=dH.reads ok (by simpa [ad.canLay0] using c0) hr rv;exact⟨_,.tuple e c d (by simpa using ra)⟩
 | .list ds,v,u,c0,r,q=>by
  obtain⟨a,xs,rfl,ha,_,hr⟩:=r.eY;cases (show u=af.ref a from q);obtain⟨_,its,n,rv,e⟩:=ok a _ ha;obtain⟨as,ra⟩:=dH.reads ok (by simpa [ad.canLay0] using c0) hr rv;exact⟨_,.list e rfl rfl (by simpa using ra)⟩
 | .dict _,v,u,c0,r,q=>by simp[ad.canLay0] at c0
theorem dH.reads {P:aZ}{w:World}{S:List Addr}{H:Hp}{h:Heap}(ok:lX P w H h):∀{ds:List ad} {xs:List V} {us:List af},ad.canLayAll0 ds=true->dH S H ds xs->eA xs us->∃as,ReadsAll h us ds as
 | [],xs,us,_,r,q=>by
  cases r.gc;cases q;exact⟨_,.nil⟩
 | d::ds,xs,us,c0,r,q=>by
  simp only[ad.canLayAll0,aK] at c0;obtain⟨x,t,rfl,h1,h2⟩:=r.of_cons
  cases q with
  | cons q1 q2 =>
   obtain⟨as,a1⟩:=eF.reads ok c0.1 h1 q1;obtain⟨bs,b1⟩:=dH.reads ok c0.2 h2 q2;exact⟨_,.cons a1 b1⟩
end
structure Good (d:ad):Prop where
 lay:d.canLay0=true
 HY:d.showable=true
 short:d.leavesShort 60=true
 deep:d.depth<=60
 Ti:d.weight<=200000
theorem Good.nodict (g:Good d):d.hasDict=false:=ad.hasDict_of_canLay d g.lay
theorem Good.fits (g:Good d):d.shown.length<=av:=by
 have h:=ad.shown_le 60 (!2) d g.short;have h2:=g.Ti;rw[sizeLine_eq];omega
section
theorem Cu (hr:gi k X.A):gn X (.builtin "repr") (λxs H Q=>∃S d v,xs=[v]/\eF S H d v/\Good d/\Q (.str d.shown) H):=by
 intro pins s σ H xs us Q I r h;obtain⟨S,d,v,rfl,rp,g,q⟩:=h;obtain⟨u,rfl,ru⟩:=vals1 r;have Fl:=hr.units;have ib:∀(h':Heap) (t:Tok) (tk:Nat),(∀b o,s.heap.get? b=some o->h'.get? b=some o)->EP X pins σ Q (.str d.shown t) { s with heap:=h',toks:=tk }:=λh' t tk kp=>⟨.str d.shown,H,I.kept kp,⟨t,rfl⟩,q⟩;have L1:∀(t:Tok) (tk:Nat),EP X pins σ Q (.str d.shown t) { s with toks:=tk }:=λt tk=>ib s.heap t tk λ_ _ e=>e
 cases d with
 | none=>cases rp.lF;cases (show u=af.none from ru);exact P.repr_of_none (L1 _ _)
 | bool b=>cases rp.iq;cases (show u=af.bool b from ru);exact P.repr_of_bool (L1 _ _)
 | int i=>cases rp.eK;obtain⟨t,e⟩:=(show ∃t,u=af.int i t from ru);cases e;exact P.repr_of_int (by simpa [ad.showable] using g.HY) (L1 _ _)
 | str x=>cases rp.ik;obtain⟨t,e⟩:=(show ∃t,u=af.str x t from ru);cases e;exact P.repr_of_str (L1 _ _) g.fits
 | tuple ds =>
  obtain⟨as,ra⟩:=eF.reads I.hok g.lay rp ru;obtain⟨a,xs,rfl,_⟩:=rp.eX;cases (show u=af.ref a from ru);exact repr_of_reads' ra g.HY (ad.noDict_hsm g.nodict) hr.gd (by have:=g.deep;omega) (λ_ _ e=>e) (λh' t tk kp=>ib h' t tk kp) g.fits
 | list ds =>
  obtain⟨as,ra⟩:=eF.reads I.hok g.lay rp ru;obtain⟨a,xs,rfl,_⟩:=rp.eY;cases (show u=af.ref a from ru);exact repr_of_reads' ra g.HY (ad.noDict_hsm g.nodict) hr.gd (by have:=g.deep;omega) (λ_ _ e=>e) (λh' t tk kp=>ib h' t tk kp) g.fits
 | dict _=>have z:=g.lay;simp[ad.canLay0] at z
theorem HZ:gn X (.builtin "isinstance") (λxs H Q=>∃x t c b,xs=[x,.ty c]/\oV X.K H x (.type t)/\W.kitOne X.K (.type t) (.type c)=some b/\Q (.bl b) H):=by
 intro pins s σ H xs us Q I r h;obtain⟨x,t,c,b,rfl,ty,e,q⟩:=h;obtain⟨u,u2,rfl,rx,rc⟩:=vals2 r;cases (show u2=af.type c from rc);exact Fb I rx ty e λtk=>⟨.bl b,H,I.tok tk,rfl,q⟩
end
noncomputable def WO:ad->String
 | .none => "NoneType"
 | .bool _ => "bool"
 | .int _ => "int"
 | .str _ => "str"
 | .list _ => "list"
 | .tuple _ => "tuple"
 | .dict _ => "dict"
theorem eF.ty {K:W.Frag}{S:List Addr}{H:Hp}{d:ad}{v:V}(h:eF S H d v):oV K H v (.type (WO d)):=by
 cases d with
 | none=>cases h.lF;exact .iZ
 | bool b=>cases h.iq;exact .bl b
 | int i=>cases h.eK;exact .int i
 | str x=>cases h.ik;exact .str x
 | tuple ds=>obtain⟨a,xs,rfl,ha,_⟩:=h.eX;exact .tup ha
 | list ds=>obtain⟨a,xs,rfl,ha,_⟩:=h.eY;exact .lst ha
 | dict _ =>
  obtain⟨a,t,kvs,xs,rfl,_,ha,_⟩:=h.mJ
  cases t with
  | true=>exact .dT ha
  | false=>exact .dK ha
end L2
namespace PySem
open Sem (wp)
open AutoSeq1 (wpAny_loadPart')
section
theorem qo {Q:List af->aw->Prop}{r:Addr}{a b c:Int}{t u v:Tok}{n:Nat}(hh:A.handled=none)(hr:IsRange s.heap r a b c t u v)(PU:Builtin.Range.small a b c=true)
  (hn:Builtin.Range.rangeSize a b c=n) (fk:n<=2 ^ 24)
  (hQ:∀h' tk (acc:Array af),(∀b o,s.heap.get? b=some o->h'.get? b=some o)->ItemsOf (λi v=>∃t,v=.int (a+i * c) t) acc n->Q acc.toList { s with heap:=h',toks:=tk }) :
  aA (model prog w) A (collect (.ref r)) Q E s:=by
 unfold collect;refine ae (wpAny_runValue (codeAny_builtin F.entry_proto_collect ?_));rw[Around.under_plainId F.plain_proto_collect _];show aA _ A.in1 (newList [] >>= λl=>again (.builtin "list.__iadd__" ⟨[l,.ref r],[]⟩)) _ _ s;refine ae (aW ?_);refine ak ⟨plainId_quiet F.plain_list_iadd _,codeAny_builtin F.entry_list_iadd ?_⟩;rw[Around.under_plainId F.plain_list_iadd _];show aA _ A.in1 (Builtin.List.listExtendWith (.ref s.heap.objs.size) (.ref r) (.ref s.heap.objs.size)) _ _ _;have hS:(s.heap.push { cls:=.type "list",data:=.seq ([]:List af).toArray }).get? s.heap.objs.size=some { cls:=.type "list",data:=.seq #[] 0 }:=aE _ rfl
 have H9:∀(h':Heap) (tk:Nat) (acc:Array af) (c':Nat),(∀b o,b≠s.heap.objs.size->(s.heap.push { cls:=.type "list",data:=.seq ([]:List af).toArray }).get? b=some o->h'.get? b=some o) ->
   h'.get? s.heap.objs.size=some { cls:=.type "list",dict:=none,data:=.seq acc c',slots:=#[] }->ItemsOf (λi v=>∃t,v=.int (a+i * c) t) acc n ->
   aA (model prog w) A (match af.ref s.heap.objs.size with
   | af.ref a=>do
    match (<- load a).data with
     | Data.seq xs _=>pure xs.toList
     | _=>unsupported "internal:collect"
   | _=>unsupported "internal:collect") Q E { s with heap:=h',toks:=tk }:=λh' tk acc c' kp e hi=>by
  show aA _ A (load s.heap.objs.size >>= _) _ _ _;refine ae (wpAny_load e ?_);exact ak (hQ h' tk acc (λb o hb=>kp b o (aV (aD hb)) (ai _ hb)) hi)
 refine bF (wpAny_extend_range (A:=A) (R:=λr' s'=>r'=.ok (.ret (.ref s.heap.objs.size))/\∃h' tk acc c',s'={ s with heap:=h',toks:=tk }/\(∀b o,b≠s.heap.objs.size->(s.heap.push { cls:=.type "list",data:=.seq ([]:List af).toArray }).get? b=some o->h'.get? b=some o) /\
   h'.get? s.heap.objs.size=some { cls:=.type "list",dict:=none,data:=.seq acc c',slots:=#[] }/\ItemsOf (λi v=>∃t,v=.int (a+i * c) t) acc n)
  (s:={ s with heap:=s.heap.push { cls:=.type "list",data:=.seq ([]:List af).toArray } }) hh (ai _ hr) PU hn fk s.heap.objs.size (.ref s.heap.objs.size) 0 hS
  λh' tk acc c' kp e hi=>⟨rfl,h',tk,acc,c',rfl,kp,e,hi⟩) (λib s' h=>?_) (λe s' h=>?_)
 .cases ib with
  | done f =>
   obtain⟨e,h',tk,acc,c',rfl,kp,q,hi⟩:=h;cases e;exact H9 h' tk acc c' kp q hi
  | again c'=>exact⟨h.1,codeAny_mono h.2 λr Pq hr=>by obtain⟨rfl,h',tk,acc,c',rfl,kp,q,hi⟩:=hr;exact H9 h' tk acc c' kp q hi⟩
 .exact absurd h.1 (!4)
end
end PySem
namespace L2
open PySem PySem.Spec PyProof.Rows
noncomputable def ph (lo hi:Int):List V:=(List.range (hi - lo).toNat).map λ(k:Nat)=>V.int (lo+k)
section
variable {X:Cx}
theorem Ah:gn X (.type "range") (λxs H Q=>∃j:Int,xs=[.int j]/\∀p,H p=none->Q (.ref p) (eM H p (.Hk 0 j))):=by
 intro pins s σ H xs us Q I r h;obtain⟨j,rfl,q⟩:=h;obtain⟨u,rfl,ru⟩:=vals1 r;obtain⟨t,rfl⟩:=ru;refine call_range_1 ?_;refine⟨.ref s.heap.objs.size,_,I.laid (o:=.Hk 0 j) (λb o e=>ai _ e) (ag _) ⟨_,_,_,aE _ rfl⟩,rfl,q _ (I.hok.fresh (ag _))⟩
theorem rK {lo hi:Int}{acc:Array af}(h:ItemsOf (λi v=>∃t,v=af.int (lo+i * 1) t) acc (hi - lo).toNat):eA (ph lo hi) acc.toList:=by
 obtain⟨hs,D4⟩:=h;unfold ph
 have:∀(l:List af) (k:Nat),(∀j v,l[j]? = some v->∃t,v=af.int (lo+((k+j:Nat):Int)) t)->eA ((List.range' k l.length).map λ(k:Nat)=>V.int (lo+k)) l:=by
  intro l
  induction l with
  | nil=>intro k _;exact .nil
  | cons v l ih =>
   intro k hv;rw[aj,List.range'_succ,am];refine .cons (hv 0 v rfl) (ih (k+1) λj w hw=>?_);obtain⟨t,e⟩:=hv (j+1) w (by simpa using hw);exact⟨t,by rw[e];congr 2;omega⟩
 have q:=this acc.toList 0 λj v hv=>by
  obtain⟨t,e⟩:=D4 j v (by simpa using hv);exact⟨t,by rw[e,Int.mul_one,Nat.zero_add]⟩
 rw[List.range_eq_range',<- hs];simpa using q
theorem Ai (lo hi:Int):Builtin.Range.rangeSize lo hi 1=((hi - lo).toNat:Int):=by rw[rangeSize_one];split<;>omega
theorem wX (hc:X.calm=true):gn X (.type "list") (λxs H Q=>∃p lo hi,xs=[.ref p]/\H p=some (.Hk lo hi)/\(-(2 ^ 62)<=lo/\lo<2 ^ 62/\-(2 ^ 62)<=hi/\hi<2 ^ 62)/\(hi - lo).toNat<=2 ^ 24/\∀l,H l=none->Q (.ref l) (eM H l (.lst (ph lo hi)))):=by
 intro pins s σ H xs us Q I r h;obtain⟨p,lo,hi,rfl,hp,⟨h1,h2,h3,h4⟩,hl,q⟩:=h;obtain⟨u,rfl,ru⟩:=vals1 r;cases ru;obtain⟨t,u,v,e⟩:=I.hok p _ hp;refine call_list_range (I.ok.hd hc) e (small_one h1 h2 h3 h4) (Ai lo hi) hl λh' tk wY c' kp e' D4=>?_;have hv:=rK D4;have fk:=hv.length
 have hr:(ph lo hi).length<=av:=by
  unfold ph;rw[ah,ck,sizeLine_eq];omega
 refine⟨.ref s.heap.objs.size,_,I.laid kp (ag _) (show fM X.prog X.w _ h' _ (.lst (ph lo hi)) from ⟨hr,wY.toList,c',hv,by simpa using e'⟩),rfl,q _ (I.hok.fresh (ag _))⟩
theorem uY (hc:X.calm=true):gn X (.type "tuple") (λxs H Q=>∃p lo hi,xs=[.ref p]/\H p=some (.Hk lo hi)/\(-(2 ^ 62)<=lo/\lo<2 ^ 62/\-(2 ^ 62)<=hi/\hi<2 ^ 62)/\(hi - lo).toNat<=2 ^ 24/\∀l,H l=none->Q (.ref l) (eM H l (.tup (ph lo hi)))):=by
 intro pins s σ H xs us Q I r h;obtain⟨p,lo,hi,rfl,hp,⟨h1,h2,h3,h4⟩,hl,q⟩:=h;obtain⟨u,rfl,ru⟩:=vals1 r;cases ru;obtain⟨t,u,v,e⟩:=I.hok p _ hp;have hd:=I.ok.hd hc
 have hr:(ph lo hi).length<=av:=by
  unfold ph;rw[ah,ck,sizeLine_eq];omega
 refine callType_new F.called_tuple (!2) (F.typeCall_tuple_1 _) (F.newCall_tuple_1 _) (λobj=>F.args_object_init_2 obj _) F.entry_tuple_new
  (S:=λA' R s'=>A'.handled=none/\s'.heap.get? p=some { cls:=.type "range",data:=.fields #[.int lo t,.int hi u,.int 1 v] }/\∀(h':Heap) (tk:Nat) (acc:Array af),(∀b o',s'.heap.get? b=some o'->h'.get? b=some o')->ItemsOf (λi v=>∃t,v=.int (lo+i * 1) t) acc (hi - lo).toNat->R (.ok (.ret (.ref h'.objs.size))) { s' with heap:=h'.push { cls:=.type "tuple",data:=.seq acc },toks:=tk })
  (.of_wp λprog w A R s h=>?_) ⟨hd,e,λh' tk acc kp D4=>?_⟩
 .obtain⟨hp,g,d,tk,os⟩:=s
  obtain⟨yV,ht,h⟩:=h;have ll:=sub_tuple_self;have Zj:=init_tuple_lookup;have hmh:=madeHere_tuple;have hT:aw.TypeIs ⟨hp,g,d,tk,os⟩ (.ref p) "range" := ⟨_,ht,rfl⟩
  wp_walk using AutoSeq1.wpAny_loadPart' ht,wpAny_typeOf hT,qo (A:=A.in1) (show A.in1.handled=none from yV) ht (small_one h1 h2 h3 h4) (Ai lo hi) hl
  intro h' WQ acc kp D4;show aA _ _ (Builtin.Tuple.tupleExact acc.toList.toArray >>= λv=>ret v) _ _ _;unfold Builtin.Tuple.tupleExact
  have hsz:acc.toList.toArray.size<=av:=by
   have:=(rK D4).length;simp at this ⊢;omega
  refine ae (aW ?_ hsz);refine ak ⟨_,rfl,?_⟩;have ea:acc.toList.toArray=acc:=by simp
  rw[ea];exact h h' WQ acc kp D4
 .have hv:=rK D4
  have I1:Inv X pins σ H { s with heap:=h',toks:=tk }:=I.kept kp
  have I2:Inv X pins σ (eM H h'.objs.size (.tup (ph lo hi))) { s with heap:=h'.push { cls:=.type "tuple",data:=.seq acc },toks:=tk } :=
   I1.laid (λb o e=>ai _ e) (ag _) (show fM X.prog X.w _ _ _ (.tup (ph lo hi)) from ⟨hr,acc.toList,hv,by simpa using uI.new _ _⟩)
  exact⟨⟨_,aE _ rfl,rfl⟩,⟨.ref h'.objs.size,_,I2,rfl,q _ (I1.hok.fresh (ag _))⟩⟩
end
section
theorem Tj (T:String)(hg:Gl X x)(hm:X.mg x=none)(hv:bootBuiltins x=some (.type T))(hn:x ≠ "__name__" := by decide)(hd:(x == ("__debug__" : Str))=false:=by decide):PE X (.Name x pos) (tC (.ty T)):=Lg hg hm hv rfl hn hd
noncomputable def Tn (t u:TS):TS:=λD σ H=>∃M:St->Hp->Prop,t { D with nx:=M } σ H/\∀σ' H',M σ' H'->u D σ' H'
theorem L5 {st:Stmt}{rest:List Stmt}{t u:TS}(h1:PS X st t)(h2:B1 X rest u):B1 X (st::rest) (Tn t u):=by
 intro pins s σ H D I h;obtain⟨M,q,k⟩:=h;refine wpAny_execs_cons (f6 (h1 pins s σ H { D with nx:=M } I q) λf s1 e=>?_)
 cases f with
 | next=>obtain⟨σ1,H1,I1,m1⟩:=e;exact h2 pins s1 σ1 H1 D I1 (k σ1 H1 m1)
 | brk=>exact e
 | cont=>exact e
 | ret u=>exact e
theorem PV {α:Type}{xs:List α}{i:Int}(h0:0<=i)(h1:i<xs.length):∃v,lV xs i=some v/\xs[i.toNat]? = some v:=by
 have p8:i.toNat<xs.length:=by omega
 refine⟨xs[i.toNat],?_,by simp[p8]⟩;unfold lV LK;rw[if_pos h0,if_pos h1];simp[p8]
end
noncomputable def fq:Expr->Bool
 | .Starred ..=>false
 | _=>true
theorem fN (h:fq e=true):starEach (e::es) env=(false,eval e env)::starEach es env:=by
 cases e<;>first | rfl | cases h
theorem jq:∀{es:List Expr},es.all fq=true->(backTo pos (starEach es env)).any (·.1)=false
 | [],_=>rfl
 | e::es,h=>by
  rw[cy,aK] at h;rw[fN h.1];show (backTo pos ((false,eval e env)::starEach es env)).any (·.1)=false;have ih:=jq (pos:=pos) (env:=env) h.2;show (false || (backTo pos (starEach es env)).any (·.1))=false;rw[ih];rfl
theorem uZ:∀{es:List Expr},es.all fq=true->(backTo pos (starEach es env)).all (λx=>!x.1)=true
 | [],_=>rfl
 | e::es,h=>by
  rw[cy,aK] at h;rw[fN h.1];have ih:=uZ (pos:=pos) (env:=env) h.2;show (true && (backTo pos (starEach es env)).all (λx=>!x.1))=true;rw[ih];rfl
theorem lp (h:(e::es).all fq=true):fq e=true/\es.all fq=true:=by
 rw[cy,aK] at h;exact h
structure QE (X:Cx) (e:Expr) (t:TE):Prop where run:PE X e t
structure QT (X:Cx) (e:Expr) (t:TT):Prop where run:PT X e t
structure QW (X:Cx) (e:Expr) (t:TT):Prop where run:PW X e t
structure QA (X:Cx) (es:List Expr) (t:TA):Prop where
 run:PA X es t
 ns:es.all fq=true
structure QS (X:Cx) (st:Stmt) (t:TS):Prop where run:PS X st t
structure xH (X:Cx) (st:List Stmt) (t:TS):Prop where run:B1 X st t
structure QG (X:Cx) (e:Expr) (t:TG):Prop where run:PG X e t
structure NP (X:Cx) (es:List Expr) (t:O3):Prop where run:Sk X es t
structure QI (X:Cx) (tg iter:Expr) (t:TI):Prop where run:PI X tg iter t
structure QO (X:Cx) (e:Option Expr) (t:TO):Prop where run:PO X e t
structure QK (X:Cx) (qa:List Expr) (t:TT):Prop where run:Ry X qa t
section
variable {X:Cx}{a b c e o i' tg iter rB:Expr}{es:List Expr}{ta tb tc te to ti:TE}{tA Lh:TT}{t:TA}{pos p jK gL p2:Pos}{k:Nat}{x name:Str}{ps:List Str}{sp:Sp}{id T:String}{rest:List Expr}
theorem qv (i:Nat)(hN:X.N[i]? = some x:=by rfl)(hv:DP X.env.scope x:=by (first | exact Or.inl rfl | exact Or.inr (Or.inl rfl) | exact Or.inr (Or.inr rfl)))(hd:(x == ("__debug__" : Str))=false:=by decide)
  (kG:(x == ("__classdict__" : Str))=false:=by decide):QE X (.Name x pos) (OR i):=⟨OS hN hv hd kG⟩
theorem gw {i j pos}:QE X (.Constant (.int i) j pos) (tC (.int i)):=⟨B8⟩
theorem Ia {b j pos}:QE X (.Constant (.bool b) j pos) (tC (.bl b)):=⟨Sa⟩
theorem PX {j pos}:QE X (.Constant .none j pos) (tC .iZ):=⟨OT⟩
theorem gz {x j pos}:QE X (.Constant (.str x) j pos) (tC (.str x)):=⟨OU⟩
theorem To (T:String)(hg:Gl X x)(hm:X.mg x=none)(hv:bootBuiltins x=some (.type T))(hn:x ≠ "__name__" := by decide)(hd:(x == ("__debug__" : Str))=false:=by decide):QE X (.Name x pos) (tC (.ty T)):=⟨Tj T hg hm hv hn hd⟩
theorem g7 (ho:kr X (binaryOp op) r)(ha:QE X a ta)(hb:QE X b tb):QE X (.BinOp a op b pos) (KU r ta tb):=⟨Ss ho ha.run hb.run⟩
theorem Tp (ho:VD X (unaryOp op) r)(ha:QE X a ta):QE X (.UnaryOp op a pos) (VE r ta):=⟨Hx ho ha.run⟩
theorem ze (ho:kr X (compareOp op) r)(ha:QE X a ta)(hb:QE X b tb)(hm:behindInMarks op b=false):QE X (.Compare a [op] [b] pos) (KU r ta tb):=⟨Lw ho ha.run hb.run hm⟩
theorem tZ (ho:kr X (compareOp op) r)(ha:QE X a ta)(hb:QE X b tb)(hm:behindInMarks op b=false):QT X (.Compare a [op] [b] pos) (NF (KU r ta tb)):=⟨Lx ho ha.run hb.run hm⟩
theorem Ib (ho:kr X (compareOp op) r)(B0:kr X (compareOp NG) r')(ha:QE X a ta)(hb:QE X b tb)(hc:QE X c tc)
  (hm:lastMarks [op,NG] [b,c]=false:=by with_unfolding_all rfl):QE X (.Compare a [op,NG] [b,c] pos) (HA r r' ta tb tc):=⟨HB ho B0 ha.run hb.run hc.run hm⟩
theorem Cv (h:QE X e te)(he:∀o4,isTrue e X.env o4=(do let v <- o4;standAt e.pos;holding [v] (truthy v)):=by rw[3]):QT X e (tB te):=⟨OX h.run he⟩
theorem D5 (ha:QT X a tA):QW X (.BoolOp .And [a] pos) tA:=⟨pw_and1 ha.run⟩
theorem PY (ha:QT X a tA):QW X (.BoolOp .Or [a] pos) tA:=⟨pw_or1 ha.run⟩
theorem Ic (ha:QT X a tA)(hb:QW X (.BoolOp .And (b::rest) pos) Lh):QW X (.BoolOp .And (a::b::rest) pos) (Sb tA Lh):=⟨pw_and ha.run hb.run⟩
theorem Tq (ha:QT X a tA)(hb:QW X (.BoolOp .Or (b::rest) pos) Lh):QW X (.BoolOp .Or (a::b::rest) pos) (Y0 tA Lh):=⟨pw_or ha.run hb.run⟩
theorem QW.pt (h:QW X e tA):QT X e tA:=⟨h.run.pt⟩
theorem PZ (ha:QT X a tA):QT X (.UnaryOp .Not a pos) (Sd tA):=⟨OY ha.run⟩
theorem P0 {op}(h:QE X a ta):QE X (.BoolOp op [a] pos) ta:=⟨OZ h.run⟩
theorem P1 (ha:QE X a ta)(hb:QE X (.BoolOp .And (b::rest) pos) tb):QE X (.BoolOp .And (a::b::rest) pos) (Nw ta tb):=⟨O0 ha.run hb.run⟩
theorem Tr (ha:QE X a ta)(hb:QE X (.BoolOp .Or (b::rest) pos) tb):QE X (.BoolOp .Or (a::b::rest) pos) (Se ta tb):=⟨Sf ha.run hb.run⟩
theorem Cw (ha:QE X a ta):QE X (.UnaryOp .Not a pos) (Nx ta):=⟨O1 ha.run⟩
theorem Ie (hc:QT X c tA)(ha:QE X a ta)(hb:QE X b tb):QE X (.IfExp c a b pos) (Y1 tA ta tb):=⟨Ho hc.run ha.run hb.run⟩
theorem fj:QA X [] Pg:=⟨Ph,rfl⟩
theorem iI (ha:QE X e te)(hr:QA X es t)(hs:fq e=true:=by rfl):QA X (e::es) (HC te t):=⟨Lz ha.run hr.run (fN hs),by rw[cy,hs,hr.ns];rfl⟩
theorem Cy (h:QA X es t):QE X (.List es pos) (SE t):=⟨Pk h.run⟩
theorem P4 {x1}(h:QA X es t):QE X (.Tuple es x1 pos) (SD t):=⟨Pj h.run⟩
theorem Aj (hr:HJ X r)(ha:QE X a ta)(hb:QE X b tb)(hs:tY b):QE X (.Subscript a b pos) (KU r ta tb):=⟨SO hr ha.run hb.run hs⟩
theorem D6:QO X none DZ:=⟨LG⟩
theorem D7 (h:QE X e te):QO X (some e) (NJ te):=⟨LH h.run⟩
theorem u0 {r:V->Option Int->Option Int->Hp->VK->Prop}{lo hi:Option Expr}{tl th:TO}(hr:HG X r)(he:QE X e te)(hl:QO X lo tl)(hu:QO X hi th):QE X (.Subscript e (.Slice lo hi none p2) pos) (Y5 r te tl th):=⟨HH hr he.run hl.run hu.run⟩
theorem u1 (D:dZ X.prog X.w X.K X.mg X.base k x ps sp)(hr:gi k X.A)(ha:QA X (e::es) t)(hg:Gl X x:=by rfl)(nB:(x == ("__debug__" : Str))=false:=by decide) :
  QE X (.Call (.Name x p) (e::es) [] pos) (uW sp t):=⟨HQ D hr ha.run hg nB (fN (lp ha.ns).1) (jq (lp ha.ns).2)⟩
theorem i5 {r:List V->Hp->VK->Prop}(hc:gn X (.builtin id) r)(hg:Gl X x)(hm:X.mg x=none)(hv:bootBuiltins x=some (.builtin id))(ha:QA X (e::es) t)(hn:x ≠ "__name__" := by decide)(nB:(x == ("__debug__" : Str))=false:=by decide) :
  QE X (.Call (.Name x p) (e::es) [] pos) (SJ r t):=⟨HE hc hg hm hv ha.run hn nB (fN (lp ha.ns).1) (jq (lp ha.ns).2)⟩
theorem f' (hc:gn X (.type T) r)(hg:Gl X x)(hm:X.mg x=none)(hv:bootBuiltins x=some (.type T))(ha:QA X (e::es) t)(hn:x ≠ "__name__" := by decide)(nB:(x == ("__debug__" : Str))=false:=by decide) :
  QE X (.Call (.Name x p) (e::es) [] pos) (SJ r t):=⟨Fd hc hg hm hv ha.run hn nB (fN (lp ha.ns).1) (jq (lp ha.ns).2)⟩
theorem NQ {r:V->List V->Hp->VK->Prop}(pa:PlainAttrs T)(slot:Slot T name id)(PB:typeOf (.builtin id)=pure (.type "method_descriptor"))(hm:VH X id r)(ho:QE X o to)(ha:QA X (e::es) t)
  (qj:attributeBase o name X.env (eval o X.env)=eval o X.env:=by rfl) (hl:decide ((e::es).length+0+0<30)=true:=by rfl)
  (qk:(jK.endLine == gL.line)=true:=by rfl):QE X (.Call (.Attribute o name jK) (e::es) [] gL) (Ws X.K T r to t):=by
 refine⟨SU pa slot PB hm ho.run ha.run qj ?_ qk (fN (lp ha.ns).1) (jq (lp ha.ns).2)⟩;rw[uZ ha.ns];exact hl
theorem qp (hN:X.N.Nodup)(hi:X.N[i]? = some x)(hx:Loc X.env.scope x)(hf:X.fn x=true\/X.env.scope.names.lookup x=some .local:=by (first | exact .inl rfl | exact .inr rfl | assumption)):QG X (.Name x pos) (Aa i):=⟨Ll hN hi hx hf⟩
theorem L7:NP X [] Sl:=⟨Lm⟩
theorem Ig (h1:QG X e tt)(h2:NP X es u)(hs:(assignEach (e::es) X.env).map (·.2)=assign e X.env::(assignEach es X.env).map (·.2):=by rfl):NP X (e::es) (NA tt u):=⟨Hr h1.run h2.run hs⟩
theorem P5 (hc:X.calm=true)(h:NP X es tt)(hn:(assignEach es X.env).length=n:=by rfl)(tW:(assignEach es X.env).findIdx? (·.1)=none:=by rfl):QG X (.Tuple es k pos) (Sm X.K n tt):=⟨O4 hc h.run hn tW⟩
theorem L8 (hl:QE X a ta):QI X tg a (Ht X.K ta):=⟨Lp hl.run⟩
theorem P6 (hl:QE X a ta):QI X tg a (O7 X.K ta):=⟨O8 hl.run⟩
theorem xI (hg:Gl X "range")(hm:X.mg "range" = none)(ha:QA X [a] t):QI X tg (.Call (.Name "range" p) [a] [] pos) (NB t):=⟨E5 hg hm ha.run (fN (lp ha.ns).1)⟩
theorem P7:QK X [] NM:=⟨LU⟩
theorem Cz (h:QT X c tA):QK X [c] tA:=⟨LV h.run⟩
variable {st:Stmt}{L9 body Ts:List Stmt}{ts us:TS}{qa:List Expr}{sc:Scope}{N:List Str}{mp:List (Option Nat)}{wi:TI}{g:TG}
theorem D8:xH X [] Ny:=⟨Li⟩
theorem fO (h1:QS X st ts)(h2:xH X L9 us):xH X (st::L9) (Sg ts us):=⟨Hq h1.run h2.run⟩
theorem Ma (h1:QS X st ts)(h2:xH X L9 us):xH X (st::L9) (Tn ts us):=⟨L5 h1.run h2.run⟩
theorem jG (h1:QS X st ts):xH X [st] ts:=⟨Lj h1.run⟩
theorem Mb (he:QE X e te)(hs:swapsWith e none pos.line X.env=pure false:=by rfl):QS X (.Expr e pos) (Nz te):=⟨Lk he.run hs⟩
theorem pj (he:QE X e te):QS X (.Return (some e) pos) (Sh te):=⟨O2 he.run⟩
theorem NR (hc:QT X c tA)(ha:xH X body ts)(hb:xH X Ts us):QS X (.If c body Ts pos) (Si tA ts us):=⟨Sj hc.run ha.run hb.run⟩
theorem jY (hN:X.N.Nodup)(hi:X.N[i]? = some x)(hx:Loc X.env.scope x)(he:QE X e te)(hs:swapsWith e (some (.Name x jJ)) pos.line X.env=pure false:=by rfl)
  (hf:X.fn x=true\/X.env.scope.names.lookup x=some .local:=by (first | exact .inl rfl | exact .inr rfl | assumption)):QS X (.Assign [.Name x jJ] e pos) (O5 te (Aa i)):=⟨O6 hN hi hx he.run hs hf⟩
theorem CA (hp:PassesOwn (model X.prog X.w) X.A X.env X.xe)(hc:X.calm=true)(hi:QI X tg iter wi)(hg:QG X tg g)(hb:xH X body ts)(hs:∀x,foldedSetIterable iter X.env x=pure x:=by rw[3]) :
  QS X (.For tg iter body [] pos) (Sn wi g ts):=⟨O9 hp hc hi.run hg.run hb.run hs⟩
theorem Ak (hp:PassesOwn (model X.prog X.w) X.A X.env X.xe)(hc:QT X c tA)(hb:xH X body ts):QS X (.While c body [] pos) (uN tA ts):=⟨Hs hp hc.run hb.run⟩
theorem zf (hc:X.calm=true)(hi:QI X tg iter wi)(hk:sc.kind=.function)(hm:iH X.N X.env.scope sc N mp=true)
  (hb:∀(cl:List (Str × Addr)) (C:Addr) (s₂:aw) (H₂:Hp) (fp:List Addr),QG (fR X sc N cl C s₂ H₂ fp) tg g/\QK (fR X sc N cl C s₂ H₂ fp) qa tA/\QE (fR X sc N cl C s₂ H₂ fp) rB te)
  (hs:∀x,foldedSetIterable iter X.env x=pure x:=by rw[3]):QE X (.ListComp rB [⟨tg,iter,qa,0⟩] sc pos) (HW (xF wi mp g tA te)) :=
 ⟨LX hc hi.run hk hm (λcl C s₂ H₂ fp=>⟨(hb cl C s₂ H₂ fp).1.run,(hb cl C s₂ H₂ fp).2.1.run,(hb cl C s₂ H₂ fp).2.2.run⟩) hs⟩
theorem Mc (hN:X.N.Nodup)(PR:X.N[i]? = some x)(hx:X.env.scope.names.lookup x=some .local)(hc:X.calm=true)(hi:QI X tg iter wi)(hk:sc.kind=.function)(hm:iH X.N X.env.scope sc N mp=true)
  (hb:∀(cl:List (Str × Addr)) (C:Addr) (s₂:aw) (H₂:Hp) (fp:List Addr),QG (fR X sc N cl C s₂ H₂ fp) tg g/\QK (fR X sc N cl C s₂ H₂ fp) qa tA/\QE (fR X sc N cl C s₂ H₂ fp) rB te)
  (LZ:swapsWith (.ListComp rB [⟨tg,iter,qa,0⟩] sc pos) (some (.Name x py)) spos.line X.env=pure true:=by rfl)
  (hs:∀x,foldedSetIterable iter X.env x=pure x:=by rw[3]):QS X (.Assign [.Name x py] (.ListComp rB [⟨tg,iter,qa,0⟩] sc pos) spos) (HX i (xF wi mp g tA te)) :=
 ⟨LY hN PR hx hc hi.run hk hm (λcl C s₂ H₂ fp=>⟨(hb cl C s₂ H₂ fp).1.run,(hb cl C s₂ H₂ fp).2.1.run,(hb cl C s₂ H₂ fp).2.2.run⟩) LZ hs⟩
end
theorem wK.P8 {P:aZ}{w:World}{K:W.Frag}{mg:Str->Option af}{base:Heap}{x fz:Str}{st:Stmt}{f:Addr}{fd:bq}{N ps:List Str}{k:Nat}{sp:Sp}(F:wK K x fz st f fd)(S:fK N ps (dw st))(len:∀vs H Q E,sp vs H Q E->vs.length=ps.length)
  (uU:∀(fg:af) (A:Around) (outer:List Env) (s:aw) (H:Hp) (vs:List V) (Q:VK) (E:XK),gi k (A.deeper (envOfC fz (dw st) s.heap.objs.size f fg))->sp vs H Q E ->
   ∃t,xH (mI wJ P w K mg base N fz (dw st) f fg A outer s H E).G9 (fW st) t/\t { nx:=λ_ H'=>Q .iZ H',rt:=Q } (start N vs) H):jX P w K mg base wJ (k+1) f fd ps sp :=
 F.ok S len λfg A outer s H vs Q E hr h=>let ⟨t,q,r⟩:=uU fg A outer s H vs Q E hr h;⟨t,q.run,r⟩
section
variable {X:Cx}(K:W.Frag)
theorem ixT (h:X.K=K:=by rfl):HJ X (SR K):=by subst h;exact Px
theorem VJ (h:X.K=K:=by rfl):HJ X (SQ K):=by subst h;exact LM
theorem Zk (h:X.K=K:=by rfl):HG X (SS K):=by subst h;exact LN
theorem P9 (h:X.K=K:=by rfl):gn X (.builtin "len") (λxs H Q=>∃p ys,xs=[.ref p]/\(gY K H p ys\/jl K H p ys)/\Q (.int ys.length) H):=by subst h;exact yZ
theorem WR (h:X.K=K:=by rfl):gn X (.builtin "isinstance") (λxs H Q=>∃x t c b,xs=[x,.ty c]/\oV K H x (.type t)/\W.kitOne K (.type t) (.type c)=some b/\Q (.bl b) H):=by subst h;exact HZ
theorem NS (h:X.K=K:=by rfl):gn X (.type "list") (λxs H Q=>∃p ys,xs=[.ref p]/\(gY K H p ys\/jl K H p ys)/\∀l,H l=none->Q (.ref l) (eM H l (.lst ys))):=by subst h;exact y'
theorem CB (h:X.K=K:=by rfl):gn X (.type "tuple") (λxs H Q=>∃p ys,xs=[.ref p]/\((gY K H p ys/\∀l,H l=none->Q (.ref l) (eM H l (.tup ys)))\/(jl K H p ys/\Q (.ref p) H))):=by subst h;exact wV
variable {a o e tg:Expr}{es:List Expr}{ta to:TE}{t:TA}{jK gL:Pos}{name:Str}{id T:String}
theorem Ih (hl:QE X a ta)(h:X.K=K:=by rfl):QI X tg a (Ht K ta):=by subst h;exact L8 hl
theorem Md (hl:QE X a ta)(h:X.K=K:=by rfl):QI X tg a (O7 K ta):=by subst h;exact P6 hl
theorem P' {r:V->List V->Hp->VK->Prop}(pa:PlainAttrs T)(slot:Slot T name id)(PB:typeOf (.builtin id)=pure (.type "method_descriptor"))(hm:VH X id r)(ho:QE X o to)(ha:QA X (e::es) t)(h:X.K=K:=by rfl)
  (qj:attributeBase o name X.env (eval o X.env)=eval o X.env:=by rfl) (hl:decide ((e::es).length+0+0<30)=true:=by rfl)
  (qk:(jK.endLine == gL.line)=true:=by rfl):QE X (.Call (.Attribute o name jK) (e::es) [] gL) (Ws K T r to t):=by subst h;exact NQ pa slot PB hm ho ha qj hl qk
end
end L2
namespace HT
open PySem PyProof.Rows
section
theorem oX {t sl:Addr}{items:Array af}{vl vu:af}{lo hi:Option Int}{Q:af->aw->Prop}(ht:IsTup s.heap t items)(hs:s.heap.IsSliceOf sl vl vu .none)(pl:IsPart vl lo)(pu:IsPart vu hi)
  (hw:gZ items.size 0 lo=0/\gZ items.size items.size hi=items.size) (h:Q (.ref t) s):aA (model prog w) A (getItem (.ref t) (.ref sl)) Q E s:=by
 obtain⟨os,Fe,LD,KY⟩:=id hs;have SK:s.TypeIs (.ref sl) "slice" := ⟨os,Fe,LD⟩;unfold getItem;try with_reducible refine wpAny_holding ?_
 first | refine ae (ak ?_) | skip
 refine ae (wpAny_sequenceKey ht.typeIs (!2) ?_)
 refine ae (wpAny_callSpecial?_slot (name:=Str.ofString "__getitem__") ht.typeIs PyProof.Rows.slot_tuple_getitem
  (wpAny_call_entry PyProof.Rows.slot_tuple_getitem ht.typeIs entry_tuple_getitem ?_ (args_tuple_getitem _ _)))
 show aA _ _ (Builtin.Tuple.tupleItemsOf (.ref t) >>= _) _ _ s;refine ae (tupleItemsOf_ ht ?_);refine ae (wpAny_typeOf SK ?_);rw[if_pos (!2)];refine ae (lY hs pl pu ?_)
 have WS:((((gZ items.size 0 lo:Nat):Int) == 0 && (1:Int) == 1 && (gZ items.size items.size hi - gZ items.size 0 lo) == items.size)=true):=by
  rw[hw.1,hw.2];simp
 show aA _ _ (if (((gZ items.size 0 lo:Nat):Int) == 0 && (1:Int) == 1 && (gZ items.size items.size hi - gZ items.size 0 lo) == items.size)=true then _ else _) _ _ s;rw[if_pos WS];refine ae ?_;unfold Builtin.Tuple.tupleIsExact;refine ae (wpAny_typeOf ht.typeIs (ak ?_));show aA _ _ (if (af.type "tuple" == af.type "tuple")=true then _ else _) _ _ s;rw[if_pos (!2)];exact ae (wpAny_rule (ak ⟨_,rfl,ak h⟩))
theorem rL {sl:Addr}{tk:Tok}{n:Nat}{Q:Int × Int × Nat->aw->Prop}(hs:s.heap.IsSliceOf sl .none .none (.int (-1) tk))
  (h:Q ((n:Int) - 1,-1,n) s):aA (model prog w) A (Builtin.Slice.sliceApplied (.ref sl) (pure (n:Int))) Q E s:=by
 obtain⟨os,Fe,LD,KY⟩:=id hs;unfold Builtin.Slice.sliceApplied Builtin.Slice.sliceFields;refine ae (ae (wpAny_field Fe KY (x:=.none) rfl (ae (wpAny_field Fe KY (x:=.none) rfl (ae (wpAny_field Fe KY (x:=.int (-1) tk) rfl (ak ?_)))))));refine ae (slicePart_int ?_);show aA _ _ (if ((-1:Int) == 0)=true then _ else _) _ _ s;rw[if_neg (!2)];refine ae (slicePart_none (ae (slicePart_none (ae (ak ?_)))));have e1:Builtin.Slice.sliceAdjust none none (-1) (n:Int)=((n:Int) - 1,-1):=rfl
 have e2:Builtin.Slice.slicePlaces ((n:Int) - 1) (-1) (-1)=n:=by
  unfold Builtin.Slice.slicePlaces;rw[if_neg (!2)];by_cases hn:(n:Int) - 1 > -1
  .rw[if_pos hn]
   have:((n:Int) - 1 - -1 - 1) / (- -1)+1=n:=by
    rw[show (- -1:Int)=1 from rfl,cY];omega
   rw[this];simp
  .rw[if_neg hn]
   omega
 show aA _ _ (match Builtin.Slice.sliceAdjust none none (-1) (n:Int) with | (lo,hi)=>pure (lo,(-1:Int),Builtin.Slice.slicePlaces lo hi (-1))) _ _ s;rw[e1];show aA _ _ (pure ((n:Int) - 1,(-1:Int),Builtin.Slice.slicePlaces ((n:Int) - 1) (-1) (-1))) _ _ s;rw[e2];exact ak h
theorem Ii {α β:Type}{f:α->Option β}{g:α->β}:∀{l:List α},(∀m∈l,f m=some (g m))->l.filterMap f=l.map g
 | [],_=>rfl
 | a::l,h=>by
  rw[bL,h a aq,am,Ii λm hm=>h m (ao _ hm)]
theorem Al (xs:Array af):((List.range xs.size).filterMap λ(m:Nat)=>xs[(((xs.size:Nat):Int) - 1+(m:Int) * -1).toNat]?).toArray=xs.toList.reverse.toArray:=by
 congr 1;apply List.ext_getElem?;intro i
 have key:∀m∈List.range xs.size,(λ(m:Nat)=>xs[(((xs.size:Nat):Int) - 1+(m:Int) * -1).toNat]?) m=some (xs.getD (xs.size - 1 - m) .none):=by
  intro m hm;have S9:=cM.mp hm;have e:(((xs.size:Nat):Int) - 1+(m:Int) * -1).toNat=xs.size - 1 - m:=by omega
  show xs[_]? = _;rw[e];simp[Array.getD,show xs.size - 1 - m<xs.size by omega]
 have e3:(List.range xs.size).filterMap (λ(m:Nat)=>xs[(((xs.size:Nat):Int) - 1+(m:Int) * -1).toNat]?)=(List.range xs.size).map λm=>xs.getD (xs.size - 1 - m) .none:=by
  exact Ii key
 rw[e3,aB];by_cases hi:i<xs.size
 .rw[List.getElem?_range hi,List.getElem?_reverse (by simpa using hi)]
  simp[Array.getD,show xs.size - 1 - i<xs.size by omega]
 .rw[bh (by simp;omega),bh (by simp;omega)]
  rfl
theorem qt (ht:IsTup s.heap t items)(hs:s.heap.IsSliceOf sl .none .none (.int (-1) tk))
  (h:Q (.ref s.heap.objs.size) { s with heap:=s.heap.push { cls:=.type "tuple",data:=.seq items.toList.reverse.toArray } }) (hsz:items.size<=av):aA (model prog w) A (getItem (.ref t) (.ref sl)) Q E s:=by
 obtain⟨os,Fe,LD,KY⟩:=id hs;have SK:s.TypeIs (.ref sl) "slice" := ⟨os,Fe,LD⟩
 have hz:sizeOk (.seq items.toList.reverse.toArray):=by
  show items.toList.reverse.toArray.size<=av;simpa using hsz
 unfold getItem;try with_reducible refine wpAny_holding ?_
 first | refine ae (ak ?_) | skip
 refine ae (wpAny_sequenceKey ht.typeIs (!2) ?_)
 refine ae (wpAny_callSpecial?_slot (name:=Str.ofString "__getitem__") ht.typeIs PyProof.Rows.slot_tuple_getitem
  (wpAny_call_entry PyProof.Rows.slot_tuple_getitem ht.typeIs entry_tuple_getitem ?_ (args_tuple_getitem _ _)))
 show aA _ _ (Builtin.Tuple.tupleItemsOf (.ref t) >>= _) _ _ s;refine ae (tupleItemsOf_ ht ?_);refine ae (wpAny_typeOf SK ?_);rw[if_pos (!2)];refine ae (rL (n:=items.size) hs ?_)
 have SM:¬ ((((items.size:Nat):Int) - 1 == 0 && (-1:Int) == 1 && items.size == items.size)=true):=by
  intro q;rw[aK,aK] at q;exact absurd q.1.2 (!2)
 show aA _ _ (if (((items.size:Nat):Int) - 1 == 0 && (-1:Int) == 1 && items.size == items.size)=true then _ else _) _ _ s;rw[if_neg SM,Al]
 first
  | exact ae (m:=Builtin.Tuple.tupleExact _) (aW (ak ⟨_,rfl,ak h⟩) hz)
  | exact ae (m:=Builtin.Tuple.tupleExact _) (aW (ae (ak (ak ⟨_,rfl,ak h⟩))) hz)
  | exact ae (ae (m:=Builtin.Tuple.tupleExact _) (aW (ak (ak ⟨_,rfl,ak h⟩)) hz))
  | exact ae (ae (m:=Builtin.Tuple.tupleExact _) (aW (ak ⟨_,rfl,ak h⟩) hz))
end
end HT
namespace L2
open PySem PySem.Spec PyProof.Rows
noncomputable def Tt (K:W.Frag):V->Option Int->Option Int->Hp->VK->Prop:=λx lo hi H Q=>∃a xs,x=.ref a/\jl K H a xs/\(qg xs lo hi=xs->Q (.ref a) H)/\∀p,H p=none->Q (.ref p) (eM H p (.tup (qg xs lo hi)))
section
variable (K:W.Frag)
theorem slT (h:X.K=K:=by rfl):HG X (Tt K):=by
 subst h;intro pins s σ H x v vl vu lo hi sl Q I rx hs pl pu h;obtain⟨a,xs,rfl,hx,hw,q⟩:=h;by_cases hc:HT.gZ xs.length 0 lo=0/\HT.gZ xs.length xs.length hi=xs.length
 .cases rx
  obtain⟨its,r,ht,hz⟩:=I.tuple hx;have fk:its.toArray.size=xs.length:=by rw[aC];exact r.length.symm
  refine⟨"tuple",_,PyProof.Rows.slot_tuple_getitem.lookup,ht.typeIs,?_⟩;refine HT.oX ht hs pl pu (by rw[fk];exact hc) ⟨.ref a,H,I,rfl,hw ?_⟩;unfold qg;rw[hc.1,hc.2];simp
 .exact Pw pins s σ H (.ref a) v vl vu lo hi sl Q I rx hs pl pu ⟨a,xs,rfl,hx,hc,q⟩
end
noncomputable def Tu (K:W.Frag):R2:=λx y H Q=>∃a b xs ys,x=.ref a/\y=.ref b/\jl K H a xs/\jl K H b ys/\xs.length+ys.length<=av/\(xs=[]->Q (.ref b) H)/\(ys=[]->Q (.ref a) H)/\∀p,H p=none->Q (.ref p) (eM H p (.tup (xs++ys)))
theorem WT (K:W.Frag)(h:X.K=K:=by rfl):kr X (binaryOp .Add) (Tu K):=by
 subst h;intro pins s σ H x y v u Q I rx ry h;obtain⟨a,b,xs,ys,rfl,rfl,ha,hb,hz,q0,q1,q2⟩:=h;by_cases hx:xs=[]
 .cases rx
  cases ry;obtain⟨its,r1,p1,_⟩:=I.tuple ha;obtain⟨HI,r2,p2,_⟩:=I.tuple hb;have hi:its=[]:=r1.qh.mpr hx;obtain⟨⟨cls,dd,data,sl⟩,ho,hc,n,hd⟩:=id p1;obtain⟨⟨Wo,VG,data2,NI⟩,Pr,Pt,n2,LC⟩:=id p2;simp only at hc hd Pt LC;subst hc hd Pt LC
  exact concat_meets ⟨_,ho,rfl⟩ ⟨_,Pr,rfl⟩ noFill_tuple_add seq_tuple_add PySem.F.slot_tuple_add PySem.F.entry_tuple_add (PySem.F.args_tuple_add_2 _ _)
   (tuple_addW0 a b its.toArray HI.toArray n n2 dd VG sl NI (by simp[hi])) ⟨ho,Pr,⟨.ref b,H,I,rfl,q0 hx⟩⟩
 .exact LJ pins s σ H _ _ v u Q I rx ry ⟨a,b,xs,ys,rfl,rfl,ha,hb,hx,hz,q1,λ_=>q2⟩
end L2
namespace PySem
open Sem (wp)
theorem lZ:fillsNumberSlot (.type "tuple") "mul" = pure false :=
 fillsNumberSlot_seq (id := "tuple.__mul__") (r:=some (.builtin "tuple.__rmul__")) F.slot_tuple_mul.lookup (!3) F.slot_tuple_rmul.lookup (!3)
theorem qu:seqRepeat? (.type "tuple")=pure (some (.builtin "tuple.__mul__")):=by
 unfold seqRepeat?;rw[seqSlot_of (T := "tuple") (name := "__mul__") (id := "tuple.__mul__") F.slot_tuple_mul.lookup (!3),seqSlot_of (T := "tuple") (name := "__rmul__") (id := "tuple.__rmul__") F.slot_tuple_rmul.lookup (!3)];rfl
theorem nM (a:Int)(t:Tok)(l:Addr)(items:Array af)(n:Nat)(dd:Option Addr)(sl:Array (Option af)) :
  Meets (Builtin.«int.__rmul__» ⟨[.int a t,.ref l],[]⟩) (λ_ R s=>s.heap.get? l=some { cls:=.type "tuple",dict:=dd,data:=.seq items n,slots:=sl }/\R (.ok (.ret af.notImplemented)) s) :=
 .of_wp λprog w A R s h=>by obtain⟨hp,g,d,tk,os⟩:=s;obtain⟨hl,h⟩:=h;wp_walk;exact⟨_,rfl,h⟩
theorem wZ (l:Addr)(items:Array af)(n:Nat)(dd:Option Addr)(sl:Array (Option af))(k:Int)(t:Tok)(g6:items.isEmpty=false)(h2:2<=k)(hk:k<2 ^ 40)(hz:items.size * k.toNat<=16000000) :
  Meets (Builtin.«tuple.__mul__» ⟨[.ref l,.int k t],[]⟩) (λ_ R s=>s.heap.get? l=some { cls:=.type "tuple",dict:=dd,data:=.seq items n,slots:=sl }/\R (.ok (.ret (af.ref s.heap.objs.size))) { s with heap:=s.heap.push { cls:=af.type "tuple",data:=Data.seq (de (λx1 x2=>x1++x2) #[] (List.replicate k.toNat items)) },toks:=s.toks }) :=
 .of_wp λprog w A R s h=>by
  obtain⟨hp,g,d,tk,os⟩:=s;obtain⟨hl,h⟩:=h;have f1:=AutoSeq1.idx_int;have c0:¬ (decide (k < -(2 ^ 63)) || decide (k ≥ 2 ^ 63))=true:=by simp;omega
  have c1:¬ (items.isEmpty || k == 1)=true:=by rw[g6];simp;omega
  have c2:¬ (decide (k<=0) || items.isEmpty)=true:=by rw[g6];simp;omega
  wp_walk
  have CC:k=((k.toNat:Nat):Int):=by omega
  have hm:(items.size:Int) * k=((items.size * k.toNat:Nat):Int):=by rw[Int.natCast_mul,<- CC]
  have c3:¬ (items.size:Int) * k > (2 ^ 63 - 1) / 8:=by rw[hm];omega
  have c4:¬ Builtin.Tuple.tupleTooMany ((items.size:Int) * k)=true:=by
   rw[hm];unfold Builtin.Tuple.tupleTooMany;rw[decide_eq_true_eq,show av=16777216 by decide];omega
  have Tv:PyProof.Rows.IsTup hp l items:=⟨_,hl,rfl,n,rfl⟩
  have hsz:(de (λx1 x2=>x1++x2) #[] (List.replicate k.toNat items)).size<=av:=by
   have e:=AutoListH.size_joined items k.toNat #[];have e0:(#[]:Array af).size=0:=rfl;rw[e0,Nat.zero_add,Nat.mul_comm] at e;rw[e];exact aL hz (!2)
  rw[if_neg c0];show aA _ _ (Builtin.Tuple.tupleItemsOf (.ref l) >>= _) _ _ _;refine ae (PyProof.Rows.tupleItemsOf_ Tv ?_);dsimp only;rw[if_neg c1,if_neg c2,if_neg c3,if_neg c4]
  first
   | exact ae (m:=Builtin.Tuple.tupleExact _) (aW (ak ⟨_,rfl,h⟩) hsz)
   | exact ae (m:=Builtin.Tuple.tupleExact _) (aW (ae (ak (ak ⟨_,rfl,h⟩))) hsz)
   | exact ae (ae (m:=Builtin.Tuple.tupleExact _) (aW (ak (ak ⟨_,rfl,h⟩)) hsz))
   | exact ae (ae (m:=Builtin.Tuple.tupleExact _) (aW (ak ⟨_,rfl,h⟩) hsz))
end PySem
namespace L2
open PySem PySem.Spec PyProof.Rows
section
theorem QE.weaken (h:QE X e t)(w:∀σ H Q,t' σ H Q->t σ H Q):QE X e t':=⟨λpins s σ H Q I q=>h.run pins s σ H Q I (w σ H Q q)⟩
theorem QA.weaken (h:QA X es t)(w:∀σ H Q,t' σ H Q->t σ H Q):QA X es t':=⟨λpos pins s σ H Q I q=>h.run pos pins s σ H Q I (w σ H Q q),h.ns⟩
end
section
variable {X:Cx}{us ui:List Nat}{a b e:Expr}{es:List Expr}{pos:Pos}
noncomputable def NT (K:W.Frag):R2:=λx y H Q=>∃a k xs,x=.ref a/\y=.int k/\jl K H a xs/\xs≠[]/\2<=k/\k<2 ^ 40/\xs.length * k.toNat<=16000000/\∀p,H p=none->Q (.ref p) (eM H p (.tup (List.replicate k.toNat xs).flatten))
theorem Me (K:W.Frag)(h:X.K=K:=by rfl):kr X (binaryOp .Mult) (NT K):=by
 subst h;intro pins s σ H x y v u Q I rx ry h;obtain⟨a,k,xs,rfl,rfl,hx,g6,h2,hk,hz,q⟩:=h;cases rx;obtain⟨t,rfl⟩:=ry;obtain⟨its,r,ht,hl⟩:=I.tuple hx;obtain⟨⟨cls,dd,data,sl⟩,ho,hc,n,hd⟩:=id ht;simp only at hc hd;subst hc hd
 have WU:its.toArray.isEmpty=false:=by
  cases its with
  | nil=>exact absurd (r.qh.mp rfl) g6
  | cons _ _=>rfl
 have hsz:its.toArray.size * k.toNat<=16000000:=by rw[aC,<- r.length];exact hz
 refine wpAny_binaryOp_repeat_ref (T := "tuple") (U := "int") (!2) ⟨_,ho,rfl⟩ (λs'=>typeIs_int s' k t) lZ F.fills_int_mul F.slot_int_rmul qu F.slot_int_index.lookup
  (call_meets F.slot_int_rmul (typeIs_int s k t) F.entry_int_rmul (F.args_int_rmul_2 _ _) (nM k t a its.toArray n dd sl)
   ⟨ho,rfl,⟨_,ho,rfl⟩,call_meets F.slot_tuple_mul ⟨_,ho,rfl⟩ F.entry_tuple_mul (F.args_tuple_mul_2 _ _) (wZ a its.toArray n dd sl k t WU h2 hk hsz) ⟨ho,?_⟩⟩)
 have Ac:de (λx1 x2=>x1++x2) #[] (List.replicate k.toNat its.toArray)=(List.replicate k.toNat its).flatten.toArray:=by
  have:=foldl_rep its k.toNat [];rw[az] at this;exact this
 rw[Ac]
 have fk:(List.replicate k.toNat xs).flatten.length<=av:=by
  rw[za,Nat.mul_comm,show av=16777216 by decide];omega
 exact⟨.ref _,_,I.laid (t':=s.toks) (o:=.tup (List.replicate k.toNat xs).flatten) (λb o e=>ai _ e) (ag _) ⟨fk,_,r.rep k.toNat,uI.new _ _⟩,rfl,q _ (I.hok.fresh (ag _))⟩
theorem eA.at' {xs:List V}{us:List af}{i:Nat}{u:af}(r:eA xs us)(h:us[i]? = some u):∃x,xs[i]? = some x/\RelV x u:=by
 have hi:i<us.length:=(aN.mp h).1;have D4:i<xs.length:=by rw[r.length];exact hi
 have e:xs[i]? = some xs[i]:=by simp[D4]
 obtain⟨w,hw,rA⟩:=r.get e;rw[h] at hw;cases hw;exact⟨_,e,rA⟩
theorem Fm (K:W.Frag)(hc:X.calm=true)(hk:X.K=K:=by rfl):gn X (.builtin "all") (λxs H Q=>∃(p:Addr) (bs:List Bool),xs=[.ref p]/\gY K H p (bs.map V.bl)/\Q (.bl (bs.all id)) H):=by
 subst hk;intro pins s σ H xs us Q I r h;obtain⟨p,bs,rfl,hp,q⟩:=h;obtain⟨u,rfl,ru⟩:=vals1 r;cases ru;obtain⟨its,rv,ht,hz⟩:=I.list hp;have hh:=I.ok.hd hc;have mB:p<s.heap.objs.size:=ht.lt;have fk:its.toArray.size=bs.length:=by rw[aC,<- rv.length,ah]
 have key:∀(a:Nat) (v:af),its.toArray[a]? = some v->v=.bool (bs.getD a true):=by
  intro a v e;have e':its[a]? = some v:=by simpa using e
  obtain⟨x,hx,rx⟩:=rv.at' e';rw[aB] at hx
  cases hb:bs[a]? with
  | none=>rw[hb] at hx;cases hx
  | some b =>
   rw[hb] at hx;cases hx;rw[ax,hb];exact rx
 refine call_all_walk (wpAny_pyIter_list ht.isList ⟨s.heap.objs.size,_,_,its.toArray.size,_,_,λa=>bs.getD a true,rfl,Walks.list (A:=X.A.in1) hh _ p (aV mB) its.toArray,⟨⟨_,aE _ rfl,rfl,rfl⟩,ht.isList.at λo e=>ai _ e⟩,?_,?_⟩)
 .intro i v s' Q' E' hP hq
  rw[key i v hP];exact wpAny_truthy_bool hq
 .intro h' tk kp
  have I1:Inv X pins σ H { s with heap:=h',toks:=tk }:=I.kept λb o e=>kp b o (λz=>by
   have e2:b=s.heap.objs.size:=by simpa using z
   rw[e2] at e;exact absurd (aD e) (bo _)) (ai _ e)
  have e:(List.range its.toArray.size).all (λa=>bs.getD a true)=bs.all id:=by
   rw[fk];clear q hp rv fk key hz
   induction bs with
   | nil=>rfl
   | cons b bs ih =>
    rw[aj,List.range_succ_eq_map,cy,List.all_map,cy];have:((λa=>(b::bs).getD a true) ∘ Nat.succ)=λa=>bs.getD a true:=rfl;rw[this,ih];rfl
  rw[e];exact⟨.bl _,H,I1,rfl,q⟩
end
section
variable {κ:Type}[DecidableEq κ]
noncomputable def iU (kvs:List (κ × V))(k:κ):Option V:=(kvs.find? λkv=>decide (kv.1=k)).map (·.2)
noncomputable def kH (kvs:List (κ × V))(k:κ)(v:V):List (κ × V) :=
 if (kvs.any λkv=>decide (kv.1=k))=true then kvs.map (λkv=>if kv.1=k then (kv.1,v) else kv) else kvs++[(k,v)]
theorem gA {p:κ × V}{r:List (κ × V)}{k:κ}(e:p.1=k):iU (p::r) k=some p.2:=by simp[iU,bK,e]
theorem gB {p:κ × V}{r:List (κ × V)}{k:κ}(e:¬ p.1=k):iU (p::r) k=iU r k:=by simp[iU,bK,e]
theorem qw (k:κ):∀kvs:List (κ × V),(kvs.any λkv=>decide (kv.1=k))=(iU kvs k).isSome
 | []=>rfl
 | p::r=>by
  rw[b4];by_cases e:p.1=k
  .simp only[gA e,decide_eq_true e,Bool.true_or,Option.isSome_some]
  .rw[gB e,decide_eq_false e,Bool.false_or];exact qw k r
theorem Am (k j:κ)(y:V):∀kvs:List (κ × V),iU (kvs.map λkv=>if kv.1=k then (kv.1,y) else kv) j=(iU kvs j).map λx=>if j=k then y else x
 | []=>rfl
 | p::r=>by
  have ih:=Am k j y r;rw[am];by_cases h:p.1=k
  .rw[if_pos h]
   by_cases e:p.1=j
   .rw[gA (p:=(p.1,y)) e,gA e,bn,if_pos (e.symm.trans h)]
   .rw[gB (p:=(p.1,y)) e,gB e,ih]
  .rw[if_neg h]
   by_cases e:p.1=j
   .rw[gA (p:=p) e,gA e,bn,if_neg (λz=>h (e.trans z))]
   .rw[gB (p:=p) e,gB e,ih]
theorem xK (k j:κ)(y:V):∀kvs:List (κ × V),iU kvs k=none->iU (kvs++[(k,y)]) j=if j=k then some y else iU kvs j
 | [],_=>by
  by_cases e:k=j
  .rw[if_pos e.symm];exact gA (p:=(k,y)) e
  .rw[if_neg (λz=>e z.symm)];exact gB (p:=(k,y)) e
 | p::r,hn=>by
  rw[aI];have hk:¬ p.1=k:=λz=>by rw[gA z] at hn;cases hn
  rw[gB hk] at hn;have ih:=xK k j y r hn;by_cases e:p.1=j
  .rw[gA e,gA e,if_neg (λz=>hk (e.trans z))]
  .rw[gB e,gB e,ih]
theorem Ij (kvs:List (κ × V))(k j:κ)(y:V):iU (kH kvs k y) j=if j=k then some y else iU kvs j:=by
 unfold kH;by_cases a:(kvs.any λkv=>decide (kv.1=k))=true
 .rw[if_pos a,Am]
  rw[qw] at a;by_cases e:j=k
  .obtain⟨x,hx⟩:=bO.mp a
   rw[if_pos e,e,hx,bn,if_pos rfl]
  .rw[if_neg e]
   cases iU kvs j with
   | none=>rfl
   | some x=>rw[bn,if_neg e]
 .rw[if_neg a]
  refine xK k j y kvs ?_;rw[qw] at a
  cases q:iU kvs k with
  | none=>rfl
  | some x=>rw[q] at a;exact (a rfl).elim
theorem nN (kvs:List (κ × V))(k:κ)(v:V):(kH kvs k v).length<=kvs.length+1:=by
 unfold kH;split
 .rw[ah];omega
 .rw[au,aj,aG];omega
theorem qc.rM (r:qc o u):o.isSome=u.isSome:=by
 cases o with
 | none=>cases u with
  | none=>rfl
  | some _=>exact (show False from r).elim
 | some _=>cases u with
  | none=>exact (show False from r).elim
  | some _=>rfl
theorem qc.getD (r:qc o u)(rd:RelV d d'):RelV (o.getD d) (u.getD d'):=by
 cases o with
 | none=>cases u with
  | none=>exact rd
  | some _=>exact (show False from r).elim
 | some _=>cases u with
  | none=>exact (show False from r).elim
  | some _=>exact r
theorem KV.val {kvs:List (κ × V)}{vs:List (κ × af)}(r:KV kvs vs)(k:κ):qc (iU kvs k) (valueAt vs k):=by
 unfold KV at r
 induction r with
 | nil=>exact True.intro
 | @cons p q ps qs h t ih =>
  obtain⟨h1,h2⟩:=h;by_cases e:p.1=k
  .have e':q.1=k:=h1.symm.trans e
   have b:valueAt (q::qs) k=some q.2:=by simp[valueAt,bK,e']
   rw[gA e,b];exact h2
  .have e':¬ q.1=k:=λz=>e (h1.trans z)
   have b:valueAt (q::qs) k=valueAt qs k:=by simp[valueAt,bK,e']
   rw[gB e,b];exact ih
theorem KV.any (r:KV kvs vs)(k:κ):(kvs.any λkv=>decide (kv.1=k))=vs.any λkv=>decide (kv.1=k):=by
 unfold KV at r
 induction r with
 | nil=>rfl
 | cons h t ih=>rw[b4,b4,ih,h.1]
theorem KV.Qa (r:KV kvs vs)(k:κ)(ry:RelV y u) :
  KV (kvs.map λkv=>if kv.1=k then (kv.1,y) else kv) (vs.map λkv=>if kv.1=k then (kv.1,u) else kv):=by
 unfold KV at r ⊢
 induction r with
 | nil=>exact .nil
 | @cons p q ps qs h t ih =>
  rw[am,am];refine .cons ?_ ih;obtain⟨h1,h2⟩:=h;by_cases e:p.1=k
  .rw[if_pos e,if_pos (h1.symm.trans e)];exact⟨h1,ry⟩
  .rw[if_neg e,if_neg (λz=>e (h1.trans z))];exact⟨h1,h2⟩
theorem KV.put (r:KV kvs vs)(k:κ)(ry:RelV y u):KV (kH kvs k y) (stored vs k u):=by
 unfold kH stored;rw[r.any k];by_cases e:(vs.any λkv=>decide (kv.1=k))=true
 .rw[if_pos e,if_pos e];exact r.Qa k ry
 .rw[if_neg e,if_neg e];exact Paired.snoc r ⟨rfl,ry⟩
theorem KV.keys {kvs:List (κ × V)}{vs:List (κ × af)}(r:KV kvs vs):kvs.map (·.1)=vs.map (·.1):=by
 unfold KV at r
 induction r with
 | nil=>rfl
 | cons h t ih=>rw[am,am,ih,h.1]
theorem KV.length (r:KV kvs vs):kvs.length=vs.length:=Paired.length r
end
theorem xM (r:RelV (kV k) u):(fP P w).is k u=true:=by
 cases k with
 | inl i=>obtain⟨t,e⟩:=(show ∃t,u=af.int i t from r);subst e;exact z6 P w i t
 | inr x=>obtain⟨t,e⟩:=(show ∃t,u=af.str x t from r);subst e;exact z7 P w x t
theorem xN:∀{ks:List Key} {us:List af},eA (ks.map kV) us->ItemsAre (fP P w) ks us
 | [],_,r=>by rw[aX] at r;cases r;exact .nil
 | k::ks,_,r=>by
  rw[am] at r
  cases r with
  | cons h t=>exact .cons (xM h) (xN t)
noncomputable abbrev KT (H:Hp):List (List Key × V)->List (List Key × Addr × af)->Prop:=Paired λp q=>p.1=q.1/\H q.2.1=some (.tup (p.1.map kV))/\RelV p.2 q.2.2
theorem KT.val {H:Hp}{kvs:List (List Key × V)}{xs:List (List Key × Addr × af)}(r:KT H kvs xs)(k:List Key):qc (iU kvs k) ((atKey xs k).map (·.2)):=by
 induction r with
 | nil=>exact True.intro
 | @cons p q ps qs h t ih =>
  obtain⟨h1,_,h2⟩:=h;by_cases e:p.1=k
  .have e':q.1=k:=h1.symm.trans e
   have b:atKey (q::qs) k=some q.2:=by simp[atKey,bK,e']
   rw[gA e,b];exact h2
  .have e':¬ q.1=k:=λz=>e (h1.trans z)
   have b:atKey (q::qs) k=atKey qs k:=by simp[atKey,bK,e']
   rw[gB e,b];exact ih
theorem KT.Qa (r:KT H kvs xs)(k:List Key)(ry:RelV y u) :
  KT H (kvs.map λkv=>if kv.1=k then (kv.1,y) else kv) (xs.map (putAt k u)):=by
 induction r with
 | nil=>exact .nil
 | @cons p q ps qs h t ih =>
  rw[am,am];refine .cons ?_ ih;obtain⟨h1,h2,h3⟩:=h;unfold putAt;by_cases e:p.1=k
  .rw[if_pos e,if_pos (h1.symm.trans e)];exact⟨h1,h2,ry⟩
  .rw[if_neg e,if_neg (λz=>e (h1.trans z))];exact⟨h1,h2,h3⟩
theorem KT.put (r:KT H kvs xs)(k:List Key)(hb:H b=some (.tup (k.map kV)))(ry:RelV y u) :
  KT H (kH kvs k y) (storedH xs k b u):=by
 have e:(kvs.any λkv=>decide (kv.1=k))=(atKey xs k).isSome:=by
  rw[qw,(r.val k).rM,Option.isSome_map]
 unfold kH storedH;rw[e];by_cases q:(atKey xs k).isSome=true
 .rw[if_pos q,if_pos q];exact r.Qa k ry
 .rw[if_neg q,if_neg q];exact Paired.snoc r ⟨rfl,hb,ry⟩
theorem KT.keeps (r:KT H kvs xs)(ht:∀b ys,H b=some (.tup ys)->H' b=some (.tup ys)):KT H' kvs xs :=
 Paired.OO r λ_ _ z=>⟨z.1,ht _ _ z.2.1,z.2.2⟩
section
theorem NU (ok:lX P w H h)(e:Rd H a u):fM P w H h a u:=e.ok ok
theorem xO (ok:lX P w H h)(e:Rd H a (.dK kvs)):kvs.length<=av/\(a == sysModules)=false/\∃vs,KV kvs vs/\h.DictOf (fP P w) a vs :=
 show fM P w H h a (.dK kvs) from NU ok e
theorem NV (ok:lX P w H h)(e:H a=some (.dK kvs)):kvs.length<=av/\(a == sysModules)=false/\∃vs,KV kvs vs/\h.DictOf (fP P w) a vs:=xO ok (.inl e)
theorem u3 {ks:List Key}(ok:lX P w H h)(e:H a=some (.tup (ks.map kV))):(tupleKind (fP P w)).is h ks a:=by
 obtain⟨_,its,r,o,h1,h2,n,h3,_⟩:=(show fM P w H h a (.tup (ks.map kV)) from ok a _ e);exact⟨o,its.toArray,n,h1,h2,h3,by simpa using xN r⟩
theorem xP (ok:lX P w H h)(e:Rd H a (.dT kvs)):kvs.length<=av/\(a == sysModules)=false /\
  ∃xs,KT H kvs xs/\h.DictOfH (tupleKind (fP P w)) a xs:=by
 obtain⟨z,y,xs,r,o,es,ep,h1,h2,h3,h4,h5⟩:=(show fM P w H h a (.dT kvs) from NU ok e);refine⟨z,y,xs,r,o,es,ep,h1,h2,h3,h4,λx hx=>?_,h5⟩
 have all:∀{l:List (List Key × V)} {m:List (List Key × Addr × af)},KT H l m->∀x∈m,(tupleKind (fP P w)).is h x.1 x.2.1:=by
  intro l m q
  induction q with
  | nil=>intro x hx;exact nomatch hx
  | @cons p q ps qs hq t ih =>
   intro x hx;rcases al.mp hx with e | hx
   .subst e
    exact u3 ok (by rw[<- hq.1];exact hq.2.1)
   .exact ih x hx
 exact all r x hx
theorem Tw (ok:lX P w H h)(e:H a=some (.dT kvs)):kvs.length<=av/\(a == sysModules)=false /\
  ∃xs,KT H kvs xs/\h.DictOfH (tupleKind (fP P w)) a xs:=xP ok (.inl e)
end
noncomputable def kl (H:Hp)(a:Addr)(y:V)(r:Option V):Prop :=
 (∃kvs k,Rd H a (.dK kvs)/\y=kV k/\r=iU kvs k)\/∃kvs k b,Rd H a (.dT kvs)/\y=.ref b/\H b=some (.tup (k.map kV))/\r=iU kvs k
noncomputable def qx (H:Hp)(a:Addr)(y v:V)(H':Hp):Prop :=
 (∃kvs k,H a=some (.dK kvs)/\y=kV k/\kvs.length<av/\H'=eM H a (.dK (kH kvs k v))) \/
 ∃kvs k b,H a=some (.dT kvs)/\y=.ref b/\H b=some (.tup (k.map kV))/\kvs.length<av/\H'=eM H a (.dT (kH kvs k v))
theorem kl.k {H:Hp}{a:Addr}{kvs:List (Key × V)}{k:Key}(e:H a=some (.dK kvs)):kl H a (kV k) (iU kvs k):=.inl ⟨kvs,k,.inl e,rfl,rfl⟩
theorem kl.t {H:Hp}{a b:Addr}{kvs:List (List Key × V)}{k:List Key}(e:H a=some (.dT kvs))(eb:H b=some (.tup (k.map kV))):kl H a (.ref b) (iU kvs k):=.inr ⟨kvs,k,b,.inl e,rfl,eb,rfl⟩
theorem qx.k {H:Hp}{a:Addr}{kvs:List (Key × V)}{k:Key}{v:V}(e:H a=some (.dK kvs))(hl:kvs.length<av):qx H a (kV k) v (eM H a (.dK (kH kvs k v))):=.inl ⟨kvs,k,e,rfl,hl,rfl⟩
theorem qx.t {H:Hp}{a b:Addr}{kvs:List (List Key × V)}{k:List Key}{v:V}(e:H a=some (.dT kvs))(eb:H b=some (.tup (k.map kV)))(hl:kvs.length<av) :
  qx H a (.ref b) v (eM H a (.dT (kH kvs k v))):=.inr ⟨kvs,k,b,e,rfl,eb,hl,rfl⟩
section
theorem Inv.big (I:Inv X pins σ H s):sysModules<s.heap.objs.size:=by
 have h:aY<s.heap.objs.size:=(I.mod.glob.keeps I.bk).lt;exact df (!2) h
theorem Fn {Q:af->aw->Prop}(hu:A.units+1<cLine)(I:Inv X pins σ H s)(g:kl H a y (some v))(ry:RelV y u)(h:∀w' s',Inv X pins σ H s'->RelV v w'->Q w' s') :
  aA (model X.prog X.w) A (getItem (.ref a) u) Q E s:=by
 rcases g with⟨kvs,k,e,ey,l⟩ | ⟨kvs,k,b,e,ey,eb,l⟩
 .subst ey
  obtain⟨z,hd,vs,tI,dd⟩:=xO I.hok e;obtain⟨w',hw,rA⟩:=qc.some_of (v:=v) (o:=valueAt vs k) (by rw[l];exact tI.val k);exact wpAny_getItem_of (xM ry) dd.mapOf hw (h w' _ (I.tok _) rA)
 .subst ey
  cases (show u=af.ref b from ry);obtain⟨z,hd,xs,tI,dd⟩:=xP I.hok e;obtain⟨w',hw,rA⟩:=qc.some_of (v:=v) (o:=(atKey xs k).map (·.2)) (by rw[l];exact tI.val k);obtain⟨p,hp,NW⟩:=cr.mp hw;refine wpAny_getItem_heap (tupleKind_room_in1 hu) (u3 I.hok eb) dd hp ?_;rw[NW];exact h w' _ (I.tok _) rA
theorem WV {Q:af->aw->Prop}(hu:A.units+1<cLine)(I:Inv X pins σ H s)(g:kl H a y o)(ry:RelV y u)(h:∀s',Inv X pins σ H s'->Q (.bool o.isSome) s') :
  aA (model X.prog X.w) A (compareOp .In u (.ref a)) Q E s:=by
 rcases g with⟨kvs,k,e,ey,l⟩ | ⟨kvs,k,b,e,ey,eb,l⟩
 .subst ey
  obtain⟨z,hd,vs,tI,dd⟩:=xO I.hok e;refine wpAny_in_of (xM ry) hd dd.mapOf ?_;rw[<- (tI.val k).rM,<- l];exact h _ (I.tok _)
 .subst ey
  cases (show u=af.ref b from ry);obtain⟨z,hd,xs,tI,dd⟩:=xP I.hok e;refine wpAny_in_heap (tupleKind_room_in1 hu) (u3 I.hok eb) hd dd ?_;have q:=(tI.val k).rM;rw[Option.isSome_map] at q;rw[<- q,<- l];exact h _ (I.tok _)
theorem zg {h':Heap}{t':Nat}{ob:HO}(I:Inv X pins σ H s)(mu:R0 (H a))(hs:Heap.SameBut a s.heap h')(he:∃q,h'.get? a=some q)(new:fM X.prog X.w (eM H a ob) h' a ob) :
  Inv X pins σ (eM H a ob) { s with heap:=h',toks:=t' } :=
 I.write (x:=a) (e:=a) mu (.inl rfl) (λb q hb z=>(hs.2 b hb).trans z) he new
theorem Ik (z:kvs.length<=av)(hd:(a == sysModules)=false)(tI:KV kvs vs)(dd:h'.DictOf (fP P w) a vs) :
  fM P w H' h' a (.dK kvs):=⟨z,hd,vs,tI,dd⟩
theorem Fp {H':Hp}{Q:Unit->aw->Prop}(hu:A.units+1<cLine)(I:Inv X pins σ H s)(g:qx H a y v H')(ry:RelV y u)(rv:RelV v r)(h:∀s',Inv X pins σ H' s'->Q () s') :
  aA (model X.prog X.w) A (setItem (.ref a) u r) Q E s:=by
 rcases g with⟨kvs,k,e,ey,l,eH⟩ | ⟨kvs,k,b,e,ey,eb,l,eH⟩
 .subst ey eH
  obtain⟨z,hd,vs,tI,dd⟩:=NV I.hok e;have hz:vs.length<=av:=by rw[<- tI.length];exact z
  have hl:(kH kvs k v).length<=av:=by have:=nN kvs k v;omega
  refine wpAny_setItem_pairs (hsz:=hz) (xM ry) dd λh' Qb hs=>h _ ?_;have he:∃q,h'.get? a=some q:=let ⟨q,_,_,hq,_⟩:=Qb;⟨q,hq⟩;exact zg I (by rw[e];exact True.intro) hs he (Ik hl hd (tI.put k rv) Qb)
 .subst ey eH
  cases (show u=af.ref b from ry);obtain⟨z,hd,xs,tI,dd⟩:=Tw I.hok e;have hz:xs.length<=av:=by rw[<- Paired.length tI];exact z
  have hl:(kH kvs k v).length<=av:=by have:=nN kvs k v;omega
  refine wpAny_setItem_heap (hsz:=hz) (tupleKind_room_in1 hu) (u3 I.hok eb) dd λh' Qb hs=>h _ ?_;obtain⟨q,es,ep,hq,h2,h3,h4,_,h5⟩:=Qb;refine zg I (by rw[e];exact True.intro) hs ⟨q,hq⟩ ⟨hl,hd,_,(tI.put k eb rv).keeps λc ys ec=>?_,q,es,ep,hq,h2,h3,h4,h5⟩;rw[dJ (RZ ec e (λz=>nomatch z))];exact ec
end
noncomputable def Il (i:Expr):Prop:=∀ov iv,subscripted i false ov iv=operate [ov,iv] (getItem ov iv)
theorem Mf {prog:aZ}{w:World}{A:Around}{E:af->aw->Prop}{s:aw}{env:Env}{value slice:Expr}{pos:Pos}{T id:String}{Q:af->aw->Prop}
  (hl:typeLookup (.type T) "__getitem__" = pure (some (.builtin id))) (hs:Il slice)
  (h:aA (model prog w) A (eval value env) (λo s₁=>aA (model prog w) A (eval slice env) (λi s₂=>s₂.TypeIs o T/\aA (model prog w) A (getItem o i) Q E s₂) E s₁) E s) :
  aA (model prog w) A (eval (.Subscript value slice pos) env) Q E s:=by
 refine Subscript_ (bF h (λo s₁ h₁=>bF h₁ (λi s₂ h₂=>?_) λ_ _ x=>x) λ_ _ x=>x);obtain⟨hT,h₂⟩:=h₂;unfold subscriptTail;refine ae ?_;rw[getitemInPython_of_ne hT.not_modules];refine ae (wpAny_specialOf hT hl ?_)
 have ib:aA (model prog w) A (subscripted slice false o i) (λr s₃=>aA (model prog w) A (letTemporaryGo value o r >>= λ_=>pure r) Q E s₃) E s₂:=by
  rw[hs o i];exact wpAny_operating (bF h₂ (λr s₃ h₃=>ae (wpAny_letTemporaryGo (ak h₃))) λ_ _ x=>x)
 first
  | exact ak (ae ib)
  | exact ae (ak (ae ib))
  | exact ae ib
theorem An (I:Inv X pins σ H s)(g:kl H a y o):s.TypeIs (.ref a) "dict" := by
 rcases g with⟨kvs,k,e,_,_⟩ | ⟨kvs,k,b,e,_,_,_⟩
 .obtain⟨_,_,vs,_,dd⟩:=xO I.hok e
  exact dd.typeIs
 .obtain⟨_,_,xs,_,dd⟩:=xP I.hok e
  exact dd.typeIs
noncomputable def NY (td ty:TE):TE:=λσ H Q=>td σ H λx H1=>ty σ H1 λy H2=>∃a v,x=.ref a/\kl H2 a y (some v)/\Q v H2
noncomputable def WW (ty td:TE):TE:=λσ H Q=>ty σ H λy H1=>td σ H1 λx H2=>∃a o,x=.ref a/\kl H2 a y o/\Q (.bl o.isSome) H2
noncomputable def NZ (td ty tv:TE):TS:=λD σ H=>tv σ H λv H1=>td σ H1 λx H2=>ty σ H2 λy H3=>∃a H4,x=.ref a/\qx H3 a y v H4/\D.nx σ H4
section
theorem Mg (hu:X.A.units+1<cLine)(ho:PE X o td)(hi:PE X i ty)(hs:Il i):PE X (.Subscript o i pos) (NY td ty):=by
 intro pins s σ H Q I h;refine Mf PySem.F.slot_dict_getitem.lookup hs (f6 (ho pins s σ H _ I h) λu s1 ⟨x,H1,I1,rx,q1⟩=>f6 (hi pins s1 σ H1 _ I1 q1) λiv s2 ⟨y,H2,I2,ry,a,v,ex,g,q2⟩=>?_);subst ex;obtain rfl:u=af.ref a:=rx;exact⟨An I2 g,Fn hu I2 g ry λw' s3 I3 rA=>⟨v,H2,I3,rA,q2⟩⟩
theorem Im (hu:X.A.units+1<cLine)(hi:PE X i ty)(ho:PE X o td):PC X .In i o (WW ty td):=by
 intro pins s σ H Q I h;refine f6 (hi pins s σ H _ I h) λiv s1 ⟨y,H1,I1,ry,q1⟩=>f6 (ho pins s1 σ H1 _ I1 q1) λu s2 ⟨x,H2,I2,rx,a,ov,ex,g,q2⟩=>?_;subst ex;obtain rfl:u=af.ref a:=rx;exact WV hu I2 g ry λs3 I3=>⟨.bl ov.isSome,H2,I3,rfl,q2⟩
theorem Mh (hu:X.A.units+1<cLine)(ho:PE X o td)(hi:PE X i ty)(hv:PE X value tv)(hs:swapsWith value (some (.Subscript o i jJ)) pos.line X.env=pure false) :
  PS X (.Assign [.Subscript o i jJ] value pos) (NZ td ty tv):=by
 intro pins s σ H D I h;refine wpAny_Assign_Subscript (f6 (hv pins s σ H _ I h) λr s1 ⟨v,H1,I1,rv,q1⟩=>f6 (ho pins s1 σ H1 _ I1 q1) λu s2 ⟨x,H2,I2,rx,q2⟩=>f6 (hi pins s2 σ H2 _ I2 q2) λiv s3 ⟨y,H3,I3,ry,a,H4,ex,g,q3⟩=>?_) hs;subst ex;obtain rfl:u=af.ref a:=rx;exact Fp hu I3 g ry rv λs4 I4=>⟨σ,H4,I4,q3⟩
end
theorem Ao (h:Heap)(hb:sysModules<h.objs.size):fM P w H (h.push { cls:=.type "dict",data:=.dict #[] }) h.objs.size (.dK []) :=
 ⟨bW _,beq_eq_false_iff_ne.mpr (Ne.symm (aV hb)),[],.nil,Heap.DictOf.new h⟩
noncomputable def Io:TE:=λ_ H Q=>∀p,H p=none->Q (.ref p) (eM H p (.dK []))
section
theorem Ip:PE X (.Dict [] [] pos) Io:=λpins s σ H Q I h =>
 wpAny_Dict_empty ⟨.ref s.heap.objs.size,_,I.laid (a:=s.heap.objs.size) (o:=.dK []) (t':=s.toks) (λ_ _ q=>ai _ q) (ag _) (Ao s.heap I.big),rfl,h _ (I.hok.fresh (ag _))⟩
end
noncomputable def CD:List (TE × TE)->St->Hp->(List (V × V)->Hp->Prop)->Prop
 | [],_,H,Q=>Q [] H
 | (tk,tv)::r,σ,H,Q=>tk σ H λx H1=>tv σ H1 λy H2=>CD r σ H2 λps H3=>Q ((x,y)::ps) H3
noncomputable abbrev VV:List (V × V)->List (af × af)->Prop:=Paired λp q=>RelV p.1 q.1/\RelV p.2 q.2
noncomputable def Tx (X:Cx)(pos:Pos)(keys:List (Option Expr))(values:List Expr)(Fq:List (TE × TE)):Prop :=
 ∀(pins:List (Addr × Obj)) (s:aw) (σ:St) (H:Hp) (Q:List (V × V)->Hp->Prop),Inv X pins σ H s->CD Fq σ H Q ->
  aA (model X.prog X.w) X.A (evalPairs (pairTrees keys values X.env pos)) (λvs s'=>∃ps H',Inv X pins σ H' s'/\VV ps vs/\Q ps H') X.xe s
theorem Mi:Tx X pos [] [] []:=λpins s σ H Q I h=>pairTrees_nil_walk ⟨[],H,I,.nil,h⟩
theorem Iq (hk:PE X k tk)(hv:PE X v tv)(hr:Tx X pos ks vs Fq) :
  Tx X pos (some k::ks) (v::vs) ((tk,tv)::Fq):=λpins s σ H Q I h =>
 pairTrees_cons_walk (f6 (hk pins s σ H _ I h) λu s1 ⟨x,H1,I1,rx,q1⟩=>f6 (hv pins s1 σ H1 _ I1 q1) λw2 s2 ⟨y,H2,I2,ry,q2⟩ =>
  f6 (hr pins s2 σ H2 _ I2 q2) λws s3 ⟨ps,H3,I3,tI,q3⟩=>⟨(x,y)::ps,H3,I3,.cons ⟨rx,ry⟩ tI,q3⟩)
noncomputable def u4 (kvs more:List (Key × V)):List (Key × V):=more.foldl (λacc kv=>kH acc kv.1 kv.2) kvs
theorem KV.merge:∀{more:List (Key × V)} {rs:List (Key × af)} {kvs:List (Key × V)} {vs:List (Key × af)},KV more rs->KV kvs vs->KV (u4 kvs more) (merged vs rs):=by
 intro more rs kvs vs r;unfold KV at r
 induction r generalizing kvs vs with
 | nil=>intro q;exact q
 | @cons p q ps qs h t ih =>
  intro r0
  have e:KV (kH kvs p.1 p.2) (stored vs q.1 q.2):=by
   have:=r0.put p.1 h.2;rw[<- h.1];exact this
  exact ih e
theorem o6:∀(more kvs:List (Key × V)),(u4 kvs more).length<=kvs.length+more.length
 | [],kvs=>by show kvs.length<=kvs.length+0;omega
 | p::r,kvs=>by
  have h1:=o6 r (kH kvs p.1 p.2);have h2:=nN kvs p.1 p.2;show (u4 (kH kvs p.1 p.2) r).length<=_;rw[aj];omega
theorem u5:∀{kvs:List (Key × V)} {ws:List (af × af)},VV (kvs.map λkv=>(kV kv.1,kv.2)) ws->∃rs,Carries (fP P w) ws rs/\KV kvs rs
 | [],_,r=>by rw[aX] at r;cases r;exact⟨[],True.intro,.nil⟩
 | p::kvs,_,r=>by
  rw[am] at r
  cases r with
  | @cons a b as bs h t =>
   obtain⟨rs,c,q⟩:=u5 (P:=P) (w:=w) t;obtain⟨b1,b2⟩:=b;exact⟨(p.1,b2)::rs,⟨xM h.1,rfl,c⟩,.cons ⟨rfl,h.2⟩ q⟩
noncomputable def N5 (Fq:List (TE × TE)):TE:=λσ H Q=>∀p,H p=none->CD Fq σ (eM H p (.dK [])) λps H2=>H2 p=some (.dK [])/\∃kvs:List (Key × V),ps=kvs.map (λkv=>(kV kv.1,kv.2))/\kvs.length<=15/\Q (.ref p) (eM H2 p (.dK (u4 [] kvs)))
theorem Mj (h:Tx X pos keys values Fq)(Co:keys.all (·.isSome)=true)(hl:keys.length=values.length)(h0:keys≠[])
  (WX:keys.length<=15):PE X (.Dict keys values pos) (N5 Fq):=by
 intro pins s σ H Q I q;have hn:=I.hok.fresh (ag s.heap.objs.size);have I1:=I.laid (a:=s.heap.objs.size) (o:=.dK []) (h':=s.heap.push { cls:=.type "dict",data:=.dict #[] }) (t':=s.toks) (λ_ _ q=>ai _ q) (ag _) (Ao s.heap I.big);refine wpAny_Dict_walk (knd:=fP X.prog X.w) Co hl h0 WX (f6 (h pins _ σ _ _ I1 (q _ hn)) λws s2 ⟨ps,H2,I2,tI,e,kvs,ep,lk,q2⟩=>?_);subst ep;obtain⟨rs,c,rk⟩:=u5 (P:=X.prog) (w:=X.w) tI;obtain⟨z,hd,vs0,r0,dd⟩:=NV I2.hok e;cases r0;refine⟨rs,c,dd,λh' Qb hs=>⟨.ref s.heap.objs.size,_,?_,rfl,q2⟩⟩
 have hz:(u4 [] kvs).length<=av:=by
  have h1:=o6 kvs [];rw[aG] at h1;rw[sizeLine_eq];omega
 have he:∃q,h'.get? s.heap.objs.size=some q:=let ⟨q,_,_,hq,_⟩:=Qb;⟨q,hq⟩;exact zg I2 (by rw[e];exact True.intro) hs he (Ik hz hd (rk.merge .nil) Qb)
structure M2 (X:Cx) (o:Expr) (m:Str) (jK:Pos) (e f:Expr) (gL:Pos):Prop where
 base:attributeBase o m X.env (eval o X.env)=eval o X.env
 few:((backTo gL (starEach [e,f] X.env)).all (λx=>!x.1) && (backToKw gL (keywordEach [] X.env)).all (λx=>x.1.isSome)
  && decide (([e,f]:List Expr).length+([]:List Keyword).length+(if ([]:List Keyword).isEmpty then 0 else 1)<30))=true
 line:(jK.endLine == gL.line)=true
 trees:backTo gL (starEach [e,f] X.env)=[(false,eval e X.env),(false,eval f X.env)]
noncomputable def Zl (H:Hp)(a:Addr):Prop:=(∃kvs,Rd H a (.dK kvs))\/∃kvs,Rd H a (.dT kvs)
theorem Qc (I:Inv X pins σ H s)(d:Zl H a) :
  s.TypeIs (.ref a) "dict" /\ (∀b,af.ref a=.ref b->∃ob,s.heap.get? b=some ob/\ob.dict=none)/\(a == sysModules)=false:=by
 rcases d with⟨kvs,e⟩ | ⟨kvs,e⟩
 .obtain⟨_,hd,vs,_,dd⟩:=xO I.hok e
  refine⟨dd.typeIs,λb q=>?_,hd⟩;cases q;obtain⟨ob,_,_,h1,h2,_⟩:=dd;exact⟨ob,h1,h2.2.1⟩
 .obtain⟨_,hd,xs,_,dd⟩:=xP I.hok e
  refine⟨dd.typeIs,λb q=>?_,hd⟩;cases q;obtain⟨ob,_,_,h1,h2,_⟩:=dd;exact⟨ob,h1,h2.2.1⟩
section
theorem Qd {Q:af->aw->Prop}(hu:A.units+1<cLine)(I:Inv X pins σ H s)(g:kl H a y o)(ry:RelV y u)(rd:RelV d r)(h:∀w' s',Inv X pins σ H s'->RelV (o.getD d) w'->Q w' s') :
  aA (model X.prog X.w) A (call (.builtin "dict.get") [.ref a,u,r]) Q E s:=by
 rcases g with⟨kvs,k,e,ey,l⟩ | ⟨kvs,k,b,e,ey,eb,l⟩
 .subst ey
  obtain⟨z,hd,vs,tI,dd⟩:=xO I.hok e;refine call_meetsIn PySem.F.slot_dict_get dd.typeIs PySem.F.entry_dict_get (PySem.F.args_dict_get_3 _ _ _) (meets_dict_get_default (fP X.prog X.w) a (xM ry) hd r) ⟨_,dd.mapOf,h _ _ (I.tok _) ?_⟩;rw[l];exact (tI.val k).getD rd
 .subst ey
  cases (show u=af.ref b from ry);obtain⟨z,hd,xs,tI,dd⟩:=xP I.hok e;refine call_meetsIn PySem.F.slot_dict_get dd.typeIs PySem.F.entry_dict_get (PySem.F.args_dict_get_3 _ _ _) (meetsH_dict_get_default (tupleKind (fP X.prog X.w)) a b hd r) ⟨tupleKind_room_in1 hu,k,xs,u3 I.hok eb,dd,h _ _ (I.tok _) ?_⟩;rw[l];exact (tI.val k).getD rd
end
noncomputable def Ir (td ty tx:TE):TE:=λσ H Q=>td σ H λx H1=>∃a,x=.ref a/\Zl H1 a/\ty σ H1 λy H2=>tx σ H2 λz H3=>∃o,kl H3 a y o/\Q (o.getD z) H3
section
theorem Iu (hu:X.A.units+1<cLine)(ho:PE X o td)(he:PE X e ty)(hf:PE X f tx)(m:M2 X o "get" jK e f gL):PE X (.Call (.Attribute o "get" jK) [e,f] [] gL) (Ir td ty tx):=by
 intro pins s σ H Q I h;refine wpAny_Call_method m.base m.few m.line PySem.F.plainAttrs_dict PySem.F.slot_dict_get PySem.F.type_dict_get (f6 (ho pins s σ H _ I h) λu s1 ⟨x,H1,I1,rx,a,ex,d,q1⟩=>?_);subst ex;obtain rfl:u=af.ref a:=rx;obtain⟨t1,t2,_⟩:=Qc I1 d;refine⟨t1,t2,?_⟩;rw[m.trees]
 refine Calls.callWith_builtin rfl (Calls.evalArgs_plain (Calls.spliced_cons (f6 (he pins s1 σ H1 _ I1 q1) λiv s2 ⟨y,H2,I2,ry,q2⟩ =>
  Calls.spliced_cons (f6 (hf pins s2 σ H2 _ I2 q2) λfv s3 ⟨z,H3,I3,rz,ov,g,q3⟩=>Calls.spliced_nil ?_))))
 exact Qd hu I3 g ry rz λw' s4 I4 rA=>⟨_,H3,I4,rA,q3⟩
end
end L2
namespace PySem
open Sem (wp)
open AutoSeq1 (wpAny_loadPart')
end PySem
namespace L2
open PySem PySem.Spec PyProof.Rows
section
variable {X:Cx}{o i e f value:Expr}{td ty tv tx to ti te:TE}{pos jJ jK gL:Pos}
theorem u6:QE X (.Dict [] [] pos) Io:=⟨Ip⟩
theorem gJ (hu:X.A.units+1<cLine)(ho:QE X o td)(hi:QE X i ty)(hs:Il i):QE X (.Subscript o i pos) (NY td ty):=⟨Mg hu ho.run hi.run hs⟩
theorem Ap (hu:X.A.units+1<cLine)(ho:QE X o td)(he:QE X e ty)(hf:QE X f tx)(m:M2 X o "get" jK e f gL):QE X (.Call (.Attribute o "get" jK) [e,f] [] gL) (Ir td ty tx):=⟨Iu hu ho.run he.run hf.run m⟩
theorem mK (hu:X.A.units+1<cLine)(ho:QE X o td)(hi:QE X i ty)(hv:QE X value tv)(hs:swapsWith value (some (.Subscript o i jJ)) pos.line X.env=pure false:=by rfl):QS X (.Assign [.Subscript o i jJ] value pos) (NZ td ty tv):=⟨Mh hu ho.run hi.run hv.run hs⟩
theorem IntsAre.qy:∀{ns:List Int} {us:List af},eA (ns.map V.int) us->IntsAre us ns
 | [],us,h=>by cases h;exact .nil
 | n::ns,us,h=>by
  cases h with
  | cons r t =>
   obtain⟨tk,rfl⟩:=r;exact .cons n tk (IntsAre.qy t)
theorem eA.zh:∀{ns:List Int} {us:List af},IntsAre us ns->eA (ns.map V.int) us
 | _,_,.nil=>.nil
 | _,_,.cons n t r=>.cons ⟨t,rfl⟩ (eA.zh r)
theorem jL (ns:List Int):∀j,j<=ns.length->preSum (λa=>ns.getD a 0) j=(ns.take j).sum
 | 0,_=>by simp[preSum]
 | j+1,h=>by
  rw[preSum,jL ns j (!1),cO,List.sum_append];have:ns[j]? = some ns[j]:=by simp
  rw[ax,this];simp
theorem qz (K:W.Frag)(hk:X.K=K:=by rfl):gn X (.builtin "sorted") (λxs H Q=>∃(p:Addr) (ns:List Int),xs=[.ref p]/\gY K H p (ns.map V.int)/\ns.length<64/\∀(l:Addr) (ms:List Int),ms.Perm ns->ms.Pairwise (·<=·)->H l=none->Q (.ref l) (eM H l (.lst (ms.map V.int)))):=by
 subst hk;intro pins s σ H xs us Q I r h;obtain⟨p,ns,rfl,hp,RB,q⟩:=h;obtain⟨u,rfl,ru⟩:=vals1 r;cases ru;obtain⟨its,rv,ht,hz⟩:=I.list hp;have hl:=rv.length;rw[ah] at hl;refine sorted_ints ht.isList (IntsAre.qy rv) (!1) λout ms h1 h2 h3=>?_;have hm:=h2.length_eq;have hv:eA (ms.map V.int) out.toList:=eA.zh h1;have hsz:(ms.map V.int).length<=av:=by rw[ah,show av=16777216 by decide];omega
 have kp:∀b o,s.heap.get? b=some o->(sortedAll s.heap its out).get? b=some o:=λb o e=>sortedAll_old e;have nw:=sortedAll_at s.heap its out;obtain⟨n,nw⟩:=nw;refine⟨.ref (s.heap.objs.size+1),_,I.laid (t':=s.toks) (o:=.lst (ms.map V.int)) kp (bX _) ⟨hsz,out.toList,n,hv,by simpa using nw⟩,rfl,q _ ms h2 h3 (I.hok.fresh (bX _))⟩
end
noncomputable def Tz (o:Obj)(a:Addr)(kvs:List (Key × V)):It :=
 ⟨λi H=>H a=some (.uH o (.dK kvs))/\i<kvs.length,λi H x H'=>H'=H/\∃k v,kvs[i]? = some (k,v)/\x=kV k,λi H=>H a=some (.uH o (.dK kvs))/\kvs.length<=i⟩
theorem Mk (h:(fP P w).is k u=true):RelV (kV k) u:=by
 rcases fZ (show uG k u=true from h) with⟨i,t,rfl,rfl⟩ | ⟨x,t,rfl,rfl⟩
 .exact⟨t,rfl⟩
 .exact⟨t,rfl⟩
theorem Iv (I:Inv X pins σ H s)(h:H a=some (.uH o (.dK kvs)))(hd:o.data=.dict es ep) :
  (a == sysModules)=false/\∃vs,KV kvs vs/\s.heap.DictAt (fP X.prog X.w) a vs ep:=by
 obtain⟨e,z,y,vs,r,ob,kF,VB,e',c,d,k,p,n⟩:=I.hok a _ h;rw[e] at e';cases e';rw[hd] at d;cases d;exact⟨y,vs,r,o,es,e,c,hd,k,p,n⟩
theorem TB {kvs:List (Key × V)}{vs:List (Key × af)}(r:KV kvs vs){i:Nat}{k:Key}{v:V}(h:kvs[i]? = some (k,v)):∃u,vs[i]? = some (k,u):=by
 have hk:=r.keys;have hl:=r.length;have hi:i<kvs.length:=(aN.mp h).1;have D4:i<vs.length:=by omega
 have e1:(kvs.map (·.1))[i]? = some k:=by rw[aB,h];rfl
 have e2:vs[i]? = some vs[i]:=by simp[D4]
 rw[hk,aB,e2] at e1;have e3:vs[i].1=k:=Option.some.inj e1;refine⟨vs[i].2,?_⟩;rw[e2,<- e3]
theorem Fs {P:aZ}{w:World}{K:W.Frag}{tg:Expr}(a it:Addr){o:Obj}{kvs:List (Key × V)}{es:Array DictEntry}{ep:Nat}(hd:o.data=.dict es ep):B9 P w K tg (Tz o a kvs) [it] it (λi h=>h.IsKeyIter it a i kvs.length ep) where
 mem:=by simp
 obj:=λi h st b hb=>by
  have e:b=it:=by simpa using hb
  subst e;obtain⟨o,e,c,d⟩:=st;exact⟨o,e,λv z=>by rw[d] at z;cases z⟩
 keep:=λi h h' st k=>st.at λo e=>k it (!4) o e
 item:=by
  intro X hP hw hK hc i pins s σ H E I hf st hg;subst hP hw hK;obtain⟨hg,hi⟩:=hg;obtain⟨_,vs,r,da⟩:=Iv I hg hd;have hx:kvs[i]? = some kvs[i]:=by simp[hi]
  obtain⟨u,hu⟩:=TB r (k:=kvs[i].1) (v:=kvs[i].2) hx;obtain⟨f0,f1,f2,f3,f4,f5⟩:=hf it (!4);have hl:=r.length;rw[hl] at st;refine wpAny_pyNext_dict_item st da hu λkey h' Pf Ca sb=>?_;have I1:Inv X pins σ H { s with heap:=h' }:=I.turned (t':=s.toks) (λb o hb e=>(sb.2 b hb).trans e) f0 f1 f3 f4 f5;obtain⟨o',e,c,d⟩:=id Ca;exact⟨key,rfl,DS (s:={ s with heap:=h' }) e c d (!2) ⟨kV kvs[i].1,H,I1,Mk Pf,⟨rfl,_,_,hx,rfl⟩,by rw[hl];exact Ca,λb hb=>(hf b hb).1⟩⟩
 done:=by
  intro X hP hw hK hc i pins s σ H E I hf st hg;subst hP hw hK;obtain⟨hg,hi⟩:=hg;obtain⟨_,vs,r,da⟩:=Iv I hg hd;obtain⟨f0,f1,f2,f3,f4,f5⟩:=hf it (!4);have hl:=r.length;rw[hl] at st;exact wpAny_pyNext_dict_end (I.ok.hd hc) st da (by simp;omega) λh' eb=>⟨rfl,I.turned (t':=s.toks) (λb o hb e=>eb b o hb e) f0 f1 f3 f4 f5⟩
 self:=λ_ _ _ _ _ st h=>wpAny_pyIter_keyiter st h
section
variable {X:Cx}{tg:Expr}
theorem Inv.freeze {pins:List (Addr × Obj)}{s:aw}{σ:St}{H:Hp}{a:Addr}{kvs:List (Key × V)}(I:Inv X pins σ H s)(h:H a=some (.dK kvs)) :
  ∃o es ep,o.data=.dict es ep/\Inv X pins σ (eM H a (.uH o (.dK kvs))) s/\(a == sysModules)=false/\∃vs,KV kvs vs/\s.heap.DictAt (fP X.prog X.w) a vs ep:=by
 obtain⟨z,y,vs,r,o,es,ep,e,c,d,k,p,n⟩:=I.hok a _ h;refine⟨o,es,ep,d,?_,y,vs,r,o,es,e,c,d,k,p,n⟩;have:=I.write (x:=a) (e:=a) (h':=s.heap) (t':=s.toks) (o:=.uH o (.dK kvs)) (by rw[h];exact trivial) (.inl rfl) (λb u _ q=>q) ⟨o,e⟩ ⟨e,z,y,vs,r,o,es,ep,e,c,d,k,p,n⟩;exact this
noncomputable def TF (tl:TE):TI:=λσ H R=>tl σ H λx H1=>∃a kvs,x=.ref a/\H1 a=some (.dK kvs)/\∀o,R (Tz o a kvs) (eM H1 a (.uH o (.dK kvs)))
theorem D9 {l:Expr}{tl:TE}(hl:QE X l tl):QI X tg l (TF tl):=by
 refine⟨λpins s σ H R I h=>?_⟩;refine f6 (hl.run pins s σ H _ I h) λv s1 ⟨x,H1,I1,r1,q1⟩=>?_;obtain⟨a,kvs,e,ha,q⟩:=q1;subst e;cases r1;obtain⟨o,es,ep,hd,I2,hy,vs,tI,da⟩:=I1.freeze ha;refine wpAny_pyIter_dict hy da ?_;have fk:=tI.length;refine⟨s1.heap.objs.size,[s1.heap.objs.size],_,_,_,rfl,I2.kept (t':=s1.toks) λb o e=>ai _ e,Fs a _ hd,⟨_,aE _ rfl,rfl,by rw[fk];rfl⟩,λb hb=>?_,q o⟩;have e:b=s1.heap.objs.size:=by simpa using hb
 subst e;exact I2.uO (ag _) (I2.hok.fresh (ag _))
theorem xQ {mp:List (Option Nat)}{g:TG}{tc:TT}{te:TE}{σ:St}{H:Hp}{R:List V->Hp->Prop}{o:Obj}{a:Addr}{kvs:List (Key × V)}(Pv:Nat->List V->St->Hp->Prop)(h0:Pv 0 [] (nK mp σ) H)
  (hl:∀i ys σ' H',Pv i ys σ' H'->H' a=some (.uH o (.dK kvs)))
  (hs:∀i k v ys σ' H',kvs[i]? = some (k,v)->Pv i ys σ' H'->ys.length<av/\g (kV k) σ' H' λσ2 H2=>tc σ2 H2 λb H3=>if b=true then te σ2 H3 λy H4=>Pv (i+1) (ys++[y]) σ2 H4 else Pv (i+1) ys σ2 H3)
  (hd:∀ys σ' H',Pv kvs.length ys σ' H'->ys.length<=av/\R ys H') :
  ∃W:Nat->Nat->List V->St->Hp->Prop,(∃m,W 0 m [] (nK mp σ) H)/\∀i m ys σ' H',W i m ys σ' H' ->
   ((Tz o a kvs).stop i H'/\ys.length<=av/\R ys H') \/
   ((Tz o a kvs).go i H'/\ys.length<av/\∀x RA,(Tz o a kvs).KR i H' x RA->g x σ' RA λσ2 H2=>tc σ2 H2 λb H3 =>
    if b=true then te σ2 H3 λy H4=>∃m',m' < m/\W (i+1) m' (ys++[y]) σ2 H4 else ∃m',m' < m/\W (i+1) m' ys σ2 H3):=by
 refine⟨λi m ys σ H=>m=kvs.length - i/\i<=kvs.length/\Pv i ys σ H,⟨kvs.length,!4,bW _,h0⟩,?_⟩;rintro i m ys σ' H' ⟨rfl,hi,p⟩;have q0:=hl i ys σ' H' p;by_cases p8:i<kvs.length
 .have e:∀ys σ H,(∃m',m' < kvs.length - i/\m'=kvs.length - (i+1)/\i+1<=kvs.length/\Pv (i+1) ys σ H)=Pv (i+1) ys σ H:=λys σ H=>propext ⟨λ⟨_,_,_,_,z⟩=>z,λz=>⟨_,!1,rfl,p8,z⟩⟩
  have hx:kvs[i]? = some kvs[i]:=by simp[p8]
  refine .inr ⟨⟨q0,p8⟩,(hs i kvs[i].1 kvs[i].2 ys σ' H' hx p).1,λx RA y=>?_⟩;obtain⟨e1,k,v,hk,ex⟩:=y;subst e1 ex;simp only[e];exact (hs i k v ys σ' _ hk p).2
 .have e:i=kvs.length:=by omega
  subst e;obtain⟨Iw,q⟩:=hd ys σ' H' p;exact .inl ⟨⟨q0,ag _⟩,Iw,q⟩
end
end L2
namespace PySem
open Sem (wp)
end PySem
namespace L2
open PySem PySem.Spec PyProof.Rows
end L2
namespace PySem
open Sem (wp)
open AutoSeq1 (wpAny_loadPart')
section
theorem CF {it t:Addr}{i:Nat}{xs:Array af}{x:af}{Q:af->aw->Prop}(hi:s.heap.IsTupleIter it t i)(ht:s.heap.IsTuple t xs)(hx:xs[i]? = some x)
  (q:∀h',h'.IsTupleIter it t (i+1)->Heap.SameBut it s.heap h'->Q x { s with heap:=h' }):aA (model prog w) A (Builtin.SmallTypes.nextOf (.ref it)) Q E s:=by
 obtain⟨ob,e1,c1,d1⟩:=id hi;obtain⟨ot,e2,_,n2,d2⟩:=ht;have nn:¬ ((af.ref t == af.none)=true):=ba;unfold Builtin.SmallTypes.nextOf;refine ae (wpAny_callSpecial?_slot (name:=Str.ofString "__next__") hi.typeIs F.slot_tuple_iterator_next (wpAny_call_entry F.slot_tuple_iterator_next hi.typeIs F.entry_tuple_iterator_next ?_ (F.args_tuple_iterator_next_1 _)));show aA _ _ (field (.ref it) 0 >>= _) _ _ _;refine ae (wpAny_field e1 d1 (x:=.ref t) rfl ?_);show aA _ _ (if (af.ref t == af.none)=true then _ else _) _ _ _;rw[if_neg nn];show aA _ _ (field (.ref it) 1 >>= _) _ _ _;refine ae (wpAny_field e1 d1 (x:=.int i 0) rfl (ae (wpAny_seqItems e2 d2 ?_)));simp only[bj,hx];refine ae (wpAny_setField e1 d1 (!4) (ak ⟨x,rfl,ak (q _ ?_ (Heap.SameBut.update ..))⟩));refine⟨_,bi _ e1 (Obj.isFreed_of_fields (Obj.data_mapFields d1 _)),(Obj.cls_mapFields ..).trans c1,?_⟩;rw[Obj.data_mapFields d1];simp[rawInt]
theorem Ft (hh:A.handled=none)(hi:s.heap.IsTupleIter it t i)(ht:s.heap.IsTuple t xs)(hx:xs[i]? = none)
  (q:∀h' e,Heap.ExtBut it s.heap h'->(∃o,h'.get? e=some o/\o.cls=.type "StopIteration")->E (.ref e) { s with heap:=h' }):aA (model prog w) A (Builtin.SmallTypes.nextOf (.ref it)) Q E s:=by
 obtain⟨ob,e1,c1,d1⟩:=id hi;obtain⟨ot,e2,_,n2,d2⟩:=ht;have nn:¬ ((af.ref t == af.none)=true):=ba;unfold Builtin.SmallTypes.nextOf;refine ae (wpAny_callSpecial?_slot (name:=Str.ofString "__next__") hi.typeIs F.slot_tuple_iterator_next (wpAny_call_entry F.slot_tuple_iterator_next hi.typeIs F.entry_tuple_iterator_next ?_ (F.args_tuple_iterator_next_1 _)));show aA _ _ (field (.ref it) 0 >>= _) _ _ _;refine ae (wpAny_field e1 d1 (x:=.ref t) rfl ?_);show aA _ _ (if (af.ref t == af.none)=true then _ else _) _ _ _;rw[if_neg nn];show aA _ _ (field (.ref it) 1 >>= _) _ _ _;refine ae (wpAny_field e1 d1 (x:=.int i 0) rfl (ae (wpAny_seqItems e2 d2 ?_)));simp only[bj,hx];refine ae (wpAny_rule (ae (wpAny_setField e1 d1 (!4) (ae ?_))));simp only[newExc,newTuple];refine ae (aW (ae (m:=firstArgMember _ _) (wpAny_of_eq (a:=af.none) (by first | rfl | (simp only[firstArgMember];rfl)) (aW ?_ (by size_fits)))) (by size_fits));simp only[raiseNew];refine ae (wpAny_handled ?_);first | rw[show A.in1.handled=none from hh] | rw[hh]
 exact ae (ak (wpAny_throw (q _ _ (((Heap.SameBut.update ..).extBut.push _).push _) ⟨_,aE _ rfl,rfl⟩)))
theorem CG {e it t:Addr}{i:Nat}{xs:Array af}{x old:af}{Q:af->aw->Prop}(he:IsEnum s.heap e it i old)(hi:s.heap.IsTupleIter it t i)(ht:s.heap.IsTuple t xs)(hx:xs[i]? = some x)(g6:e≠it)
  (q:∀h',IsEnumOut h' e it ((i:Int)+1) x s.heap.objs.size->h'.IsTupleIter it t (i+1)->h'.get? s.heap.objs.size=some { cls:=.type "tuple",data:=.seq #[.int i s.toks,x] } ->
   (∀b o,b≠e->b≠it->s.heap.get? b=some o->h'.get? b=some o)->Q (.ref s.heap.objs.size) { s with heap:=h',toks:=s.toks+1 }) :
  aA (model prog w) A (Builtin.«enumerate.__next__» ⟨[.ref e],[]⟩) (λib s'=>∃v,ib=.done (.ret v)/\Q v s') E s:=by
 obtain⟨hp,g,d,tk,os⟩:=s;show aA _ _ (field (.ref e) 2 >>= _) _ _ _;refine ae (wpAny_field he rfl (x:=.ref it) rfl (ae (CF hi ht hx λk1 i1 (b1:Heap.SameBut it hp k1)=>?_)));have e1:IsEnum k1 e it i old:=(b1.2 e g6).trans he;refine ae (wpAny_field e1 rfl (x:=rawInt i) rfl (ae (wpAny_field e1 rfl (x:=.none) rfl ?_)));show aA _ _ (mkInt i >>= _) _ _ ⟨k1,g,d,tk,os⟩;refine ae (wpAny_mkInt (ae (wpAny_setField_rec (x:=rawInt ((i:Int)+1)) e1 (!4) λk2 e2 b2=>?_)));replace b2:Heap.SameBut e k1 k2:=b2;replace e2:IsEnum k2 e it ((i:Int)+1) old:=e2;refine ae (wpAny_setField_rec (x:=.none) e2 (!4) λk3 e3 b3=>?_);replace b3:Heap.SameBut e k2 k3:=b3;replace e3:IsEnum k3 e it ((i:Int)+1) old:=e3;show aA _ _ (newTuple [.int i tk,x] >>= _) _ _ ⟨k3,g,d,tk+1,os⟩;refine ae (wpAny_newTuple ?_);have sz:k3.objs.size=hp.objs.size:=by rw[b3.1,b2.1,b1.1]
 have el:hp.objs.size≠e:=cg (aD he);have e4:IsEnum (k3.push { cls:=.type "tuple",data:=.seq #[.int i tk,x] }) e it ((i:Int)+1) old:=ai _ e3;have t4:(k3.push { cls:=.type "tuple",data:=.seq #[.int i tk,x] }).get? hp.objs.size=some { cls:=.type "tuple",data:=.seq #[.int i tk,x] }:=by rw[<- sz];exact aE _ rfl
 have TH:∀b o,b≠e->b≠it->hp.get? b=some o->(k3.push { cls:=.type "tuple",data:=.seq #[.int i tk,x] }).get? b=some o:=λb o h1 h2 h3=>ai _ (b3.extBut b o h1 (b2.extBut b o h1 (b1.extBut b o h2 h3)))
 have i4:(k3.push { cls:=.type "tuple",data:=.seq #[.int i tk,x] }).IsTupleIter it t (i+1):=by
  obtain⟨o,ho,r⟩:=i1;exact⟨o,ai _ (b3.extBut it o (Ne.symm g6) (b2.extBut it o (Ne.symm g6) ho)),r⟩
 rw[sz];generalize k3.push { cls:=.type "tuple",data:=.seq #[.int i tk,x] }=k4 at e4 t4 TH i4 ⊢;show aA _ _ (Builtin.SmallTypes.ownedTupleIsFree (.ref e) >>= _) _ _ ⟨k4,g,d,tk+1,os⟩;refine ae ?_;unfold Builtin.SmallTypes.ownedTupleIsFree;refine ae (wpAny_field e4 rfl (x:=.none) rfl (ak ?_));simp only[if_true];refine ae (wpAny_rule (ae (wpAny_field e4 rfl (x:=old) rfl (ae (wpAny_setField_rec (x:=x) e4 (!4) λk5 e5 b5=>?_)))));replace b5:Heap.SameBut e k4 k5:=b5;replace e5:IsEnum k5 e it ((i:Int)+1) x:=e5;show aA _ _ (Builtin.SmallTypes.ownedTupleHandOut (.ref e) (.ref hp.objs.size) >>= _) _ _ ⟨k5,g,d,tk+1,os⟩;refine ae ?_;unfold Builtin.SmallTypes.ownedTupleHandOut;refine ae (wpAny_setField_rec (x:=rawInt (hp.objs.size:Nat)) e5 (!4) λk6 e6 b6=>?_);replace b6:Heap.SameBut e k5 k6:=b6;replace e6:IsEnumOut k6 e it ((i:Int)+1) x hp.objs.size:=e6;refine wpAny_setField_rec e6 (!4) λk7 e7 b7=>?_;replace b7:Heap.SameBut e k6 k7:=b7;have Qe:∀b o,b≠e->k4.get? b=some o->k7.get? b=some o:=λb o h1 h2=>b7.extBut b o h1 (b6.extBut b o h1 (b5.extBut b o h1 h2));refine ae (wpAny_letGo (ak ⟨_,rfl,q k7 e7 ?_ (Qe _ _ el t4) λb o h1 h2 h3=>Qe b o h1 (TH b o h1 h2 h3)⟩));obtain⟨o,ho,r⟩:=i4;exact⟨o,Qe it o (Ne.symm g6) ho,r⟩
theorem zi {e it t:Addr}{i:Nat}{xs:Array af}{x old:af}{Q:Option af->aw->Prop}(he:IsEnum s.heap e it i old)(hi:s.heap.IsTupleIter it t i)(ht:s.heap.IsTuple t xs)(hx:xs[i]? = some x)(g6:e≠it)
  (q:∀h',IsEnumOut h' e it ((i:Int)+1) x s.heap.objs.size->h'.IsTupleIter it t (i+1)->h'.get? s.heap.objs.size=some { cls:=.type "tuple",data:=.seq #[.int i s.toks,x] } ->
   (∀b o,b≠e->b≠it->s.heap.get? b=some o->h'.get? b=some o)->Q (some (.ref s.heap.objs.size)) { s with heap:=h',toks:=s.toks+1 }) :
  aA (model prog w) A (pyNext (.ref e)) Q E s:=by
 have ty:s.TypeIs (.ref e) "enumerate" := ⟨_,he,rfl⟩;unfold pyNext;refine ae (wpAny_attempt (wpAny_callSpecial?_slot (name:=Str.ofString "__next__") ty F.slot_enumerate_next (wpAny_call_entry F.slot_enumerate_next ty F.entry_enumerate_next ?_ (F.args_enumerate_next_1 _))));exact CG he hi ht hx g6 λh' a b c k=>ak (q h' a b c k)
theorem rN {e it t:Addr}{i:Nat}{xs:Array af}{old:af}{Q:Option af->aw->Prop}(hh:A.handled=none)(he:IsEnum s.heap e it i old)(hi:s.heap.IsTupleIter it t i)(ht:s.heap.IsTuple t xs)(hx:xs[i]? = none)
  (q:∀h',Heap.ExtBut it s.heap h'->Q none { s with heap:=h' }):aA (model prog w) A (pyNext (.ref e)) Q E s:=by
 have ty:s.TypeIs (.ref e) "enumerate" := ⟨_,he,rfl⟩;unfold pyNext;refine ae (wpAny_attempt (wpAny_callSpecial?_slot (name:=Str.ofString "__next__") ty F.slot_enumerate_next (wpAny_call_entry F.slot_enumerate_next ty F.entry_enumerate_next ?_ (F.args_enumerate_next_1 _))));show aA _ _ (field (.ref e) 2 >>= _) _ _ _;refine ae (wpAny_field he rfl (x:=.ref it) rfl (ae (Ft hh hi ht hx λh' x ex ⟨o,ho,hc⟩=>?_)));exact ae (wpAny_isInstance (T := "StopIteration") (b:=true) ⟨o,ho,hc⟩ isSubtype_stop (ak (q _ ex)))
theorem Fu (l:Addr)(items:Array af)(n:Nat)(Tg:Option Addr)(sl:Array (Option af)) :
  Meets (Builtin.«enumerate.__new__» ⟨[.type "enumerate",.ref l],[]⟩) (λ_ R s=>s.heap.get? l=some { cls:=.type "tuple",dict:=Tg,data:=.seq items n,slots:=sl } /\
   R (.ok (.ret (.ref (s.heap.push { cls:=.type "tuple_iterator",data:=.fields #[.ref l,.int 0 0] }).objs.size)))
    { s with heap:=(s.heap.push { cls:=.type "tuple_iterator",data:=.fields #[.ref l,.int 0 0] }).push { cls:=.type "enumerate",data:=.fields #[.none,.bool false,.ref s.heap.objs.size,rawInt 0,.none,.none] } }) :=
 .of_wp λprog w A R s h=>by
  obtain⟨hp,g,d,tk,os⟩:=s;obtain⟨hl,h⟩:=h;have ll:=sub_enumerate;have Ml:Heap.IsTuple (aw.heap ⟨hp,g,d,tk,os⟩) l items:=⟨_,hl,rfl,n,rfl⟩
  wp_walk using wpAny_loadPart' hl
  refine wpAny_stack_any λ_=>ak ?_;split
  .rename_i c _ _ _ _ _
   cases (c == af.type "enumerate")<;>(wp_walk using wpAny_loadPart' hl,wpAny_pyIter_tuple Ml;exact⟨_,rfl,h⟩)
  .wp_walk using wpAny_loadPart' hl,wpAny_pyIter_tuple Ml
   exact⟨_,rfl,h⟩
theorem CH (ht:s.heap.IsTuple l items)
  (q:∀h',IsEnum h' (s.heap.objs.size+1) s.heap.objs.size 0 .none->h'.IsTupleIter s.heap.objs.size l 0->h'.objs.size=s.heap.objs.size+2->(∀b o,s.heap.get? b=some o->h'.get? b=some o)->Q (.ref (s.heap.objs.size+1)) { s with heap:=h' }) :
  aA (model prog w) A (call (.type "enumerate") [.ref l]) Q E s:=by
 obtain⟨⟨c,Tg,dt,sl⟩,hl,hc,n,hd⟩:=ht;replace hc:c=.type "tuple" := hc;replace hd:dt=.seq items n:=hd;subst hc hd;refine callType_new F.called_enumerate (!2) (F.typeCall_enumerate_1 _) (F.newCall_enumerate_1 _) (λobj=>F.args_object_init_2 obj _) F.entry_enumerate_new (Fu l items n Tg sl) ⟨hl,?_⟩;have z1:(s.heap.push { cls:=.type "tuple_iterator",data:=.fields #[.ref l,.int 0 0] }).objs.size=s.heap.objs.size+1:=bG ..;have g1:=aE (s.heap.push { cls:=.type "tuple_iterator",data:=.fields #[.ref l,.int 0 0] }) (o:={ cls:=.type "enumerate",data:=.fields #[.none,.bool false,.ref s.heap.objs.size,rawInt 0,.none,.none] }) rfl;rw[z1] at g1;show _/\_;rw[z1];exact⟨⟨_,g1,rfl⟩,q _ g1 ⟨_,ai _ (aE _ rfl),rfl,rfl⟩ (by rw[bG,z1]) λb o x=>ai _ (ai _ x)⟩
end
end PySem
namespace L2
open PySem PySem.Spec PyProof.Rows
noncomputable def TJ (K:W.Frag)(a:Addr):It :=
 ⟨λi H=>∃xs x,jl K H a xs/\xs[i]? = some x,λi H x H'=>∃T xi,x=.ref T/\H T=none/\H'=eM H T (.tup [.int (i:Nat),xi])/\∀xs,jl K H a xs->xs[i]? = some xi,λi H=>∃xs,jl K H a xs/\xs.length<=i⟩
theorem CI {P:aZ}{w:World}{K:W.Frag}{Aq:List Expr}{k:Nat}{pos:Pos}(a e it:Addr)(g6:e≠it):B9 P w K (.Tuple Aq k pos) (TJ K a) [e,it] e (λi h=>(∃old,IsEnum h e it (i:Nat) old)/\h.IsTupleIter it a i) where
 mem:=by simp
 obj:=λi h st b hb=>by
  obtain⟨⟨old,he⟩,o,ho,hc,hd⟩:=st;rcases al.mp hb with z | z
  .subst z
   exact⟨_,he,λv z=>by cases z⟩
  .have z':b=it:=by simpa using z
   subst z';exact⟨o,ho,λv z=>by rw[hd] at z;cases z⟩
 keep:=λi h h' st kp=>by
  obtain⟨⟨old,he⟩,hi⟩:=st;exact⟨⟨old,kp e (!4) _ he⟩,hi.at λo q=>kp it (!4) o q⟩
 item:=by
  intro X hP hw hK hc i pins s σ H E I hf st hg;subst hP hw hK;obtain⟨⟨old,he⟩,hi⟩:=st;obtain⟨xs,x,hq,hx⟩:=hg;obtain⟨its,rv,p,hz⟩:=I.tuple hq;obtain⟨u,hu,ru⟩:=rv.get hx;refine zi he hi (show s.heap.IsTuple a its.toArray from p) (x:=u) (by simpa using hu) g6 λh1 eo i1 t1 kp=>⟨_,rfl,wpAny_letOwnedTupleGo_enum eo λh2 en sb=>?_⟩;have rB:e<s.heap.objs.size:=aD he;have WY:it<s.heap.objs.size:=by obtain⟨_,q,_⟩:=hi;exact aD q
  have TK:∀b o,b≠e->b≠it->s.heap.get? b=some o->h2.get? b=some o:=λb o n1 n2 q=>(sb.2 b n1).trans (kp b o n1 n2 q);have i2:h2.IsTupleIter it a (i+1):=i1.at λo q=>(sb.2 it (Ne.symm g6)).trans q;have t2:h2.get? s.heap.objs.size=some { cls:=.type "tuple",data:=.seq #[.int i s.toks,u] }:=(sb.2 _ (cg rB)).trans t1;obtain⟨f0,f1,f2,f3,f4,f5⟩:=hf it (!4);obtain⟨g0,g1,g2,g3,g4,g5⟩:=hf e (!4);obtain⟨oi,WZ,hci,W0⟩:=id i2;obtain⟨o0,W2,_⟩:=id hi;have m1:(s.heap.update it λ_=>oi).get? it=some oi:=bi (λ_=>oi) W2 (Obj.isFreed_of_fields W0);have I1:Inv X pins σ H { s with heap:=s.heap.update it λ_=>oi,toks:=s.toks+1 }:=I.turned (λb o hb q=>(aQ _ _ (Ne.symm hb)).trans q) f0 f1 f3 f4 f5
  have W3:∀b o,b≠e->(s.heap.update it λ_=>oi).get? b=some o->h2.get? b=some o:=λb o hb q=>by
   by_cases N6:b=it
   .subst N6
    rw[m1] at q;cases q;exact WZ
   .exact TK b o hb N6 ((aQ _ _ (Ne.symm N6)).symm.trans q)
  have I2:Inv X pins σ H { s with heap:=h2,toks:=s.toks+1 }:=Inv.turned (s:={ s with heap:=s.heap.update it λ_=>oi,toks:=s.toks+1 }) (h':=h2) (t':=s.toks+1) I1 W3 g0 g1 g3 g4 g5;obtain⟨p0,p1,p2,p3,p4,p5⟩:=I.uO (ag s.heap.objs.size) (I.hok.fresh (ag _))
  have I3:Inv X pins σ (eM H s.heap.objs.size (.tup [.int (i:Nat),x])) { s with heap:=h2,toks:=s.toks+1 } :=
   I2.D2 (o:=.tup [.int (i:Nat),x]) t2 p0 p1 p3 p4 p5 ⟨by show 2<=av;decide,[.int i s.toks,u],.cons ⟨_,rfl⟩ (.cons ru .nil),⟨_,t2,rfl,_,rfl,rfl⟩⟩
  refine⟨.ref s.heap.objs.size,_,I3,rfl,⟨_,x,rfl,p0,rfl,λys hy=>by rw[I.xu hy hq];exact hx⟩,⟨⟨u,by simpa using en⟩,i2⟩,λb hb=>?_⟩
  have TL:b≠s.heap.objs.size:=by
   rcases al.mp hb with z | z
   .rw[z];exact aV rB
   .have z':b=it:=by simpa using z
    rw[z'];exact aV WY
  rw[dJ TL];exact (hf b hb).1
 done:=by
  intro X hP hw hK hc i pins s σ H E I hf st hg;subst hP hw hK;obtain⟨⟨old,he⟩,hi⟩:=st;obtain⟨xs,hq,hx⟩:=hg;obtain⟨its,rv,p,hz⟩:=I.tuple hq;obtain⟨f0,f1,f2,f3,f4,f5⟩:=hf it (!4);have hl:=rv.length;exact rN (I.ok.hd hc) he hi (show s.heap.IsTuple a its.toArray from p) (by simp;omega) λh' eb=>⟨rfl,I.turned (t':=s.toks) (λb o hb q=>eb b o hb q) f0 f1 f3 f4 f5⟩
 self:=λ_ _ _ _ _ st h=>by
  obtain⟨⟨old,he⟩,_⟩:=st;exact wpAny_pyIter_enum he h
end L2
namespace PySem
namespace SetTable
theorem u7 (xs:Array Nat)(j:Nat):∀(f lo hi:Nat),hi - lo<=f->lo<=hi->hi<=xs.size->xs.toList.Pairwise (· < ·)->(∀(k:Nat) (v:Nat),k<lo->xs[k]? = some v->v<j) ->
  (∀(k:Nat) (v:Nat),hi<=k->xs[k]? = some v->j<=v)->below.go xs j f lo hi<=xs.size/\(∀(k:Nat) (v:Nat),k<below.go xs j f lo hi->xs[k]? = some v->v<j)/\(∀(k:Nat) (v:Nat),below.go xs j f lo hi<=k->xs[k]? = some v->j<=v)
 | 0,lo,hi,hf,h1,h2,_,hl,hh=>by
  unfold below.go;have e:lo=hi:=by omega
  subst e;exact⟨h2,hl,hh⟩
 | f+1,lo,hi,hf,h1,h2,hs,hl,hh=>by
  unfold below.go;by_cases c:lo<hi
  .rw[if_pos c]
   dsimp only;have hm:(lo+hi) / 2<xs.size:=by omega
   have eg:xs.getD ((lo+hi) / 2) j=xs[(lo+hi) / 2]:=by simp[Array.getD,hm]
   rw[eg]
   have hr:∀(a b:Nat) (va vb:Nat),a<b->xs[a]? = some va->xs[b]? = some vb->va<vb:=by
    intro a b va vb Ar ea eb
    have la:a<xs.toList.length:=by
     rcases cE a xs.toList.length with q | q
     .exact q
     .rw[bp] at q;rw[cu q] at ea;cases ea
    have lb:b<xs.toList.length:=by
     rcases cE b xs.toList.length with q | q
     .exact q
     .rw[bp] at q;rw[cu q] at eb;cases eb
    have:=cF.mp hs a b la lb Ar;rw[<- bA,aR la] at ea;rw[<- bA,aR lb] at eb;cases ea;cases eb;exact this
   have em:xs[(lo+hi) / 2]? = some xs[(lo+hi) / 2]:=by simp[hm]
   by_cases d:xs[(lo+hi) / 2] < j
   .rw[if_pos d]
    refine u7 xs j f _ hi (!1) (!1) h2 hs (λk v hk e=>?_) hh;by_cases q:k=(lo+hi) / 2
    .subst q;rw[em] at e;cases e;exact d
    .exact df (hr k _ v _ (!1) e em) d
   .rw[if_neg d]
    refine u7 xs j f lo _ (!1) (!1) (!1) hs hl λk v hk e=>?_;by_cases q:k=(lo+hi) / 2
    .subst q;rw[em] at e;cases e;omega
    .have:=hr _ k _ v (!1) em e
     omega
  .rw[if_neg c]
   have e:lo=hi:=by omega
   subst e;exact⟨h2,hl,hh⟩
theorem pk (j:Nat)(hs:xs.toList.Pairwise (· < ·)):below xs j<=xs.size/\(∀(k:Nat) (v:Nat),k<below xs j->xs[k]? = some v->v<j)/\(∀(k:Nat) (v:Nat),below xs j<=k->xs[k]? = some v->j<=v) :=
 u7 xs j xs.size 0 xs.size (!1) (!1) (ag _) hs (λk v h=>absurd h (!1)) (λk v h e=>by rw[cu h] at e;cases e)
theorem CJ (hs:xs.toList.Pairwise (· < ·)):below xs 0=0:=by
 obtain⟨a,b,c⟩:=pk 0 hs;rcases Nat.eq_zero_or_pos (below xs 0) with h | h
 .exact h
 .have:0<xs.size:=by omega
  exact absurd (b 0 xs[0] h (by simp[this])) (!1)
theorem CK (hs:xs.toList.Pairwise (· < ·))(e:xs[i]? = some j):below xs (j+1)=i+1:=by
 obtain⟨a,b,c⟩:=pk (j+1) hs
 have hi:i<xs.size:=by
  rcases cE i xs.size with q | q
  .exact q
  .rw[cu q] at e;cases e
 have h1:i<below xs (j+1):=by
  rcases cE i (below xs (j+1)) with q | q
  .exact q
  .exact absurd (c i j q e) (!1)
 rcases cE (i+1) (below xs (j+1)) with q | q
 .exfalso
  have l2:i+1<xs.size:=by omega
  have e2:xs[i+1]? = some xs[i+1]:=by simp[l2]
  have:=b (i+1) _ q e2;have la:i<xs.toList.length:=by simpa using hi
  have lb:i+1<xs.toList.length:=by simpa using l2
  have hr:=cF.mp hs i (i+1) la lb (!1);rw[<- bA,aR la] at e;cases e;have:xs.toList[i+1]=xs[i+1]:=by simp
  omega
 .omega
theorem w4 (hs:xs.toList.Pairwise (· < ·))(hn:xs[below xs j]? ≠ some j):(insertAt xs (below xs j) j).toList.Pairwise (· < ·):=by
 obtain⟨a,b,c⟩:=pk j hs;rw[toList_insertAt]
 have ht:∀v∈xs.toList.take (below xs j),v<j:=by
  intro v hv;obtain⟨k,hk,e⟩:=b9 hv;rw[bf] at hk;rw[List.getElem_take] at e;exact b k v (!1) (by rw[<- bA,aR (!1)];rw[e])
 have hd:∀v∈xs.toList.drop (below xs j),j<v:=by
  intro v hv;obtain⟨k,hk,e⟩:=b9 hv;rw[bQ] at hk;rw[List.getElem_drop] at e;have e':xs[below xs j+k]? = some v:=by rw[<- bA,aR (!1)];rw[e]
  have h1:=c (below xs j+k) v (!1) e';rcases Nat.lt_or_eq_of_le h1 with q | q
  .exact q
  .subst q
   exfalso;rcases Nat.eq_zero_or_pos k with z | z
   .subst z;exact hn e'
   .have l0:below xs j<xs.toList.length:=by omega
    have:=cF.mp hs (below xs j) (below xs j+k) l0 (!1) (!1);rw[e] at this;have h2:=c (below xs j) _ (ag _) (by rw[<- bA,aR l0]);omega
 rw[List.pairwise_append];refine⟨hs.sublist (List.take_sublist _ _),bZ.mpr ⟨hd,hs.sublist (List.drop_sublist _ _)⟩,λx hx y hy=>?_⟩;rcases al.mp hy with rfl | hy
 .exact ht x hx
 .exact df (ht x hx) (hd y hy)
theorem pq (t:SetTable)(f:Nat->Int)(h:Int):∀(n:Nat) (p:Probe) (j:Nat) (d:Option Nat),(∀k,p.dummy=some k->t.place[below t.place k]? ≠ some k) ->
  probe.go t f h n p=some (.empty j d)->t.place[below t.place (d.getD j)]? ≠ some (d.getD j)
 | 0,p,j,d,_,e=>by unfold probe.go at e;cases e
 | n+1,p,j,d,hp,e=>by
  unfold probe.go at e;have Zm:∀p:Probe,(t.advance p).dummy=p.dummy:=λp=>by unfold advance;split<;>rfl
  have nl:∀k,(∀i,t.slot k≠.live i)->t.place[below t.place k]? ≠ some k:=λk q z=>q (below t.place k) (by unfold slot;dsimp only;rw[z];simp)
  cases hs:t.slot p.j with
  | empty =>
   rw[hs] at e;cases e
   cases hd:p.dummy with
   | none=>exact nl p.j λi z=>by rw[hs] at z;cases z
   | some k=>exact hp k hd
  | dummy =>
   rw[hs] at e;refine pq t f h n _ j d (λk hk=>?_) e;rw[Zm] at hk;cases hk;exact nl _ λi z=>by rw[hs] at z;cases z
  | live i =>
   rw[hs] at e;dsimp only at e;split at e
   .cases e
   .exact pq t f h n _ j d (λk hk=>hp k (by rw[Zm] at hk;exact hk)) e
noncomputable def Good (b:Bool)(t:SetTable):Prop:=t.led=b/\(t.plain=true->t.place.toList.Pairwise (· < ·))
theorem Good.D' (g:Good b t)(n:Nat):Good b (t.standIn n):=⟨g.1,λz=>by cases z⟩
theorem Good.or (g:Good b t)(n:Nat):Good b (t.orStandIn n):=by
 unfold orStandIn;split
 .exact g
 .exact g.D' n
theorem Good.off (g:Good b t):Good b { t with plain:=false }:=⟨g.1,λz=>by cases z⟩
end SetTable
open SetTable in
theorem As {b:Bool}{t:SetTable}(g:Good b t)(es:Array (Int × af))(h:Int)(x:af):Good b (layNew t es h x).2.1:=by
 unfold layNew
 cases e:t.freeSlot h with
 | none=>exact g.D' _
 | some q =>
  obtain⟨slot,W4⟩:=q;dsimp only;refine Good.or (t:=(t.put slot).1) ⟨g.1,λz=>?_⟩ _;have hs:=g.2 z;refine w4 hs ?_;unfold freeSlot at e;unfold probe at e;split at e
  .rename_i j d hp
   cases e;exact pq t _ h _ _ j d (λk hk=>by cases hk) hp
  .cases e
open SetTable in
theorem w5 {b:Bool}{t:SetTable}(g:Good b t)(es:Array (Int × af))(n:Nat):Good b (relayAll t es n).2.1:=by
 unfold relayAll
 cases e:t.relaid (es.map (·.1)) n with
 | none=>exact g.D' _
 | some q =>
  obtain⟨t',o⟩:=q;dsimp only;split
  .unfold relaid laid at e
   cases hl:layClean (sizeAbove n - 1) (es.map (·.1)) with
   | none=>rw[hl] at e;cases e
   | some ow =>
    rw[hl] at e;simp only[Option.bind_eq_bind,cb,Option.pure_def,Option.some.injEq,Prod.mk.injEq] at e;obtain⟨rfl,_⟩:=e;refine⟨g.1,λ_=>?_⟩;simp only[c6];refine List.Pairwise.filterMap (R:=(· < ·)) _ (λa a' h c hc c' E4=>?_) List.pairwise_lt_range
    cases h1:ow.getD a none with
    | none=>rw[h1] at hc;cases hc
    | some u =>
     rw[h1] at hc
     cases h2:ow.getD a' none with
     | none=>rw[h2] at E4;cases E4
     | some u'=>rw[h2] at E4;cases hc;cases E4;exact h
  .exact g.D' _
theorem sQ {α:Type}{l:List α}{i:Nat}(h:i<l.length):([l[i]]++l.eraseIdx i).Perm l:=by
 rw[List.eraseIdx_eq_take_drop_succ];have e:l=l.take i++l[i]::l.drop (i+1):=by simp
 conv=>rhs;rw[e]
 rw[List.singleton_append];exact List.perm_middle.symm
theorem lq {α:Type}(next:Nat->Nat):∀(f k:Nat) (l:List α) (out:Array α),f=l.length->(pickOrder.go next f k l out).toList.Perm (out.toList++l)
 | 0,k,l,out,e=>by
  have:l=[]:=List.length_eq_zero_iff.mp e.symm;subst this;unfold pickOrder.go;simp
 | f+1,k,l,out,e=>by
  unfold pickOrder.go;have hl:next k % l.length<l.length:=Nat.mod_lt _ (!1)
  rw[aR hl];dsimp only;refine (lq next f (k+1) _ _ (by rw[List.length_eraseIdx_of_lt hl];omega)).trans ?_;rw[Array.toList_push,bM];refine List.Perm.append_left _ ?_;exact sQ hl
theorem u9 {α:Type}(next:Nat->Nat)(xs:Array α):(pickOrder next xs).toList.Perm xs.toList:=by
 unfold pickOrder;have:=lq next xs.size 0 xs.toList #[] (!4)
 simpa using this
end PySem
namespace PySem
open Sem (wp)
open PyProof.Rows
noncomputable def l3 (w:World):Bool:=w.params.followText "set-order"
noncomputable def Fv (e:Int × af):Option Int:=match e.2 with | .int k _=>some k | _=>none
noncomputable def zj (es:List (Int × af)):Prop:=∀e∈es,∃k t,e=(hashInt k,af.int k t)
noncomputable def iV (w:World)(a:Addr)(ns:List Int)(h:Heap):Prop :=
 ∃o es ep t,h.get? a=some o/\o.ExactSet/\o.data=.set es ep t/\zj es.toList/\(es.toList.filterMap Fv).Perm ns/\es.size<scanBound/\t.fits es.size=true/\SetTable.Good (!l3 w) t
section
variable {prog:aZ}{w:World}{A:Around}{E:af->aw->Prop}{s:aw}
theorem zj.elems (h:zj es):ElemsOf (intKind prog w) es:=λe he=>by
 obtain⟨k,t,rfl⟩:=h e he;exact⟨⟨k,intKind_is _ _ _ _,rfl⟩,rfl⟩
theorem zj.perm (h:zj l)(p:l'.Perm l):zj l':=λe he=>h e (p.mem_iff.mp he)
theorem zj.len:zj l->(l.filterMap Fv).length=l.length:=by
 induction l with
 | nil=>intro _;rfl
 | cons e l ih =>
  intro h;obtain⟨k,t,rfl⟩:=h e (!4);have:=ih λe he=>h e (by simp[he]);simp[Fv] at this ⊢;exact this
theorem zj.has (h:zj l):k∈l.filterMap Fv↔∃e∈l,(intKind prog w).is k e.2=true:=by
 rw[cp];constructor
 .rintro⟨e,he,q⟩
  obtain⟨j,t,rfl⟩:=h e he;cases q;exact⟨_,he,intKind_is _ _ _ _⟩
 .rintro⟨e,he,q⟩
  obtain⟨j,t,rfl⟩:=h e he;have:k=j:=(intKind prog w).inj _ _ _ q (intKind_is _ _ j t);subst this;exact⟨_,he,rfl⟩
theorem iV.keep (x:iV w a ns h)(k:∀o,h.get? a=some o->h'.get? a=some o):iV w a ns h':=by
 obtain⟨o,es,ep,t,e,r⟩:=x;exact⟨o,es,ep,t,k o e,r⟩
theorem iV.type (x:iV w a ns s.heap):s.TypeIs (.ref a) "set" := by
 obtain⟨o,es,ep,t,e,c,_⟩:=x;exact⟨o,e,c.1⟩
theorem iV.put {h:Heap}{a:Addr}{o:Obj}{es kF:Array (Int × af)}{ep:Nat}{t t':SetTable}{ns:List Int}(ho:h.get? a=some o)(x:o.ExactSet)(hd:o.data=.set es ep t)(h1:zj kF.toList)
  (h2:(kF.toList.filterMap Fv).Perm ns) (h3:kF.size<scanBound) (h4:t'.fits kF.size=true) (h5:SetTable.Good (!l3 w) t') :
  (h.update a (Obj.putSet kF t')).get? a=some { o with data:=.set kF (ep+1) t' }/\iV w a ns (h.update a (Obj.putSet kF t')):=by
 have g:=bi (Obj.putSet kF t') ho (by rw[putSet_of kF t' hd];rfl);rw[putSet_of kF t' hd] at g;exact⟨g,_,kF,ep+1,t',g,x,rfl,h1,h2,h3,h4,h5⟩
theorem xR {g:Bool->Sem Unit}(hg:∀(b:Bool) (z:aw) (R:Unit->aw->Prop),R () z->aA (model prog w) A (g b) R E z){a:Addr}{o:Obj}{es:Array (Int × af)}{ep:Nat}{t:SetTable}(ho:s.heap.get? a=some o)
  (x:o.ExactSet) (hd:o.data=.set es ep t) {kF:Array (Int × af)} {t':SetTable} {ns:List Int} (h1:zj kF.toList) (h2:(kF.toList.filterMap Fv).Perm ns) (h3:kF.size<scanBound) (h4:t'.fits kF.size=true) (h5:SetTable.Good (!l3 w) t')
  {W4:Bool} {R:Option Bool->aw->Prop} (h:∀h',Heap.SameBut a s.heap h'->iV w a ns h'->R (some true) { s with heap:=h' }) :
  aA (model prog w) A (storeSet a kF t' >>= λ_=>if (!W4 && t'.tooFull)=true then (g (relayAll t' kF (SetTable.grown kF.size)).2.2 >>= λ_=>storeSet a (relayAll t' kF (SetTable.grown kF.size)).1 (relayAll t' kF (SetTable.grown kF.size)).2.1 >>= λ_=>pure (some true)) else pure (some true)) R E s:=by
 refine ae (wpAny_storeSet_of ho hd ?_ (fits_of_scanBound h3));obtain⟨p1,p2⟩:=iV.put (w:=w) ho x hd h1 h2 h3 h4 h5;have b1:=Heap.SameBut.update s.heap a (Obj.putSet kF t');split
 .have q1:=relayAll_perm t' kF (SetTable.grown kF.size)
  have q2:=relayAll_fits t' kF (SetTable.grown kF.size);have q3:=w5 h5 kF (SetTable.grown kF.size);generalize relayAll t' kF (SetTable.grown kF.size)=z at q1 q2 q3 ⊢;obtain⟨ez,tz,bz⟩:=z;dsimp only at q1 q2 q3 ⊢;have q4:ez.size=kF.size:=by have:=q1.length_eq;simpa using this
  refine ae (hg _ _ _ ?_);refine ae (wpAny_storeSet_of p1 rfl ?_ (fits_of_scanBound (by rw[q4];exact h3)));obtain⟨_,p4⟩:=iV.put (w:=w) p1 x rfl (h1.perm q1) ((q1.filterMap Fv).trans h2) (by rw[q4];exact h3) q2 q3;exact ak (h _ (b1.trans (Heap.SameBut.update _ a _)) p4)
 .exact ak (h _ b1 p2)
noncomputable def w6 (ns:List Int)(k:Int):List Int:=if k∈ns then ns else ns++[k]
theorem Iy {a:Addr}{ns:List Int}{k:Int}{tk:Tok}{Q:Bool->aw->Prop}(hS:iV w a ns s.heap)(hr:ns.length+1<scanBound)
  (h:∀r h',Heap.SameBut a s.heap h'->iV w a (w6 ns k) h'->Q r { s with heap:=h' }):aA (model prog w) A (setAddHashed a (.int k tk) (hashInt k)) Q E s:=by
 obtain⟨o,es,ep,t,ho,x,hd,h1,h2,h3,h4,h5⟩:=hS;have e1:ElemsOf (intKind prog w) es.toList:=h1.elems;have hki:(intKind prog w).is k (.int k tk)=true:=intKind_is _ _ _ _;unfold setAddHashed setAddHashedIn;refine wpAny_holding (ae (wpAny_setState_of ho hd h4 ?_));dsimp only;rw[byScan_of (knd:=intKind prog w) (x:=.int k tk) rfl h3 e1];simp only[↓reduceIte];unfold setAddByScan;refine ae (ae (wpAny_rule (ae (wpAny_setScan_of (knd:=intKind prog w) hki ho hd h4 e1 ?_))))
 have fk:es.size=ns.length:=by
  have a1:=h2.length_eq;rw[h1.len,bp] at a1;exact a1
 cases hf:List.findIdx? (λe=>(intKind prog w).is k e.2) es.toList with
 | some j =>
  dsimp only;obtain⟨hj,hpj,_⟩:=List.findIdx?_eq_some_iff_getElem.mp hf;have hk:k∈ns:=h2.mem_iff.mp (h1.has.mpr ⟨_,cc hj,hpj⟩);refine ak (ak ?_);have:=h false s.heap (Heap.SameBut.refl a s.heap) (by unfold w6;rw[if_pos hk];exact⟨o,es,ep,t,ho,x,hd,h1,h2,h3,h4,h5⟩);exact this
 | none =>
  dsimp only
  have hk:¬ k∈ns:=λz=>by
   obtain⟨e,he,q⟩:=(h1.has (prog:=prog) (w:=w)).mp (h2.mem_iff.mpr z);have:=List.findIdx?_eq_none_iff.mp hf e he;rw[q] at this;cases this
  have q1:=layNew_perm t es (hashInt k) (.int k tk);have q2:=layNew_fits t es (hashInt k) (.int k tk);have q3:=As h5 es (hashInt k) (.int k tk)
  have W5:∀(b:Bool) (z:aw) (R:Unit->aw->Prop),R () z->aA (model prog w) A (match b with | true=>rule "set.scan.the-table-gave-way" | false=>pure ()) R E z :=
   λb z R hq=>by cases b<;>first | exact ak hq | exact wpAny_rule hq
  show aA _ _ ((match (layNew t es (hashInt k) (.int k tk)).2.2.2 with | true=>rule "set.scan.the-table-gave-way" | false=>pure ()) >>= _) _ _ _;generalize hz:layNew t es (hashInt k) (.int k tk)=z at q1 q2 q3 ⊢;obtain⟨ez,tz,W4,aaf⟩:=z;dsimp only at q1 q2 q3 ⊢;have p0:ez.toList.Perm (es.toList++[(hashInt k,af.int k tk)]):=by rw[Array.toList_push] at q1;exact q1
  have p1:zj ez.toList:=zj.perm (λe he=>by
   rcases aH.mp he with he | he
   .exact h1 e he
   .have:e=(hashInt k,af.int k tk):=by simpa using he
    exact⟨k,tk,this⟩) p0
  have p2:(ez.toList.filterMap Fv).Perm (w6 ns k):=by
   refine (p0.filterMap Fv).trans ?_;unfold w6;rw[if_neg hk,List.filterMap_append];exact List.Perm.append_right _ h2
  have p3:ez.size<scanBound:=by
   have:=p0.length_eq;rw[bp,au,bp] at this;simp at this;omega
  refine ae (W5 _ _ _ ?_);have ib:∀h',Heap.SameBut a s.heap h'->iV w a (w6 ns k) h'->Q true { s with heap:=h' }:=λh'=>h true h';split
  .refine ae ?_
   rw[hashByValue_scannable 8 (x:=.int k tk) rfl];refine ak ?_;refine xR (g:=λb=>match b with | true=>rule "set.scan.the-table-gave-way" | false=>pure ()) W5 ho x hd p1 p2 p3 ?_ ?_ ?_
   .split
    .exact q2
    .exact SetTable.fits_plain_off q2
   .split
    .exact q3
    .exact q3.off
   .intro h' a1 a2;dsimp only;exact ak (ib h' a1 a2)
  .refine ae (ak ?_)
   simp only[↓reduceIte];refine xR (g:=λb=>match b with | true=>rule "set.scan.the-table-gave-way" | false=>pure ()) W5 ho x hd p1 p2 p3 q2 q3 ?_;intro h' a1 a2;dsimp only;exact ak (ib h' a1 a2)
end
open PyProof.Rows
section
noncomputable def jm (val:Nat->Int):Nat->List Int
 | 0=>[]
 | i+1=>w6 (jm val i) (val i)
theorem rO (val:Nat->Int):∀i,(jm val i).length<=i
 | 0=>ag _
 | i+1=>by
  have:=rO val i;unfold jm w6;split
  .omega
  .simp;omega
theorem Au (val:Nat->Int):∀i,(jm val i).Nodup
 | 0=>List.nodup_nil
 | i+1=>by
  have ih:=Au val i;unfold jm w6;split
  .exact ih
  .rename_i h
   rw[bU];refine⟨ih,!4,λa ha b hb=>?_⟩;have e:b=val i:=by simpa using hb
   subst e;exact λz=>h (z ▸ ha)
theorem xT (val:Nat->Int)(k:Int):∀i,k∈jm val i↔∃j,j<i/\val j=k
 | 0=>⟨λh=>absurd h (by simp[jm]),λ⟨j,h,_⟩=>absurd h (!1)⟩
 | i+1=>by
  have ih:=xT val k i
  have key:k∈jm val (i+1)↔k∈jm val i\/k=val i:=by
   show k∈w6 (jm val i) (val i)↔_;unfold w6;split
   .rename_i h
    exact⟨.inl,λz=>z.elim id λe=>e ▸ h⟩
   .simp
  rw[key,ih];constructor
  .rintro (⟨j,h,e⟩ | rfl)
   .exact⟨j,!1,e⟩
   .exact⟨i,!1,rfl⟩
  .rintro⟨j,h,e⟩
   by_cases q:j=i
   .subst q;exact .inr e.symm
   .exact .inl ⟨j,!1,e⟩
theorem Fw {I:Addr}{fp wr:List Addr}{G:Array GenState->Array GenState->Prop}{n:Nat}{P:Nat->af->Prop}{St:Nat->aw->Prop}(W:WalksS prog w A.in1 I fp wr G n P St)(S:Addr)(TM:S ∉ fp)
  (val:Nat->Int) (Fy:∀i v,P i v->∃t,v=.int (val i) t) (hb:n+1<scanBound):∀(m i:Nat) (z:aw),n - i=m->i<=n->St i z->iV w S (jm val i) z.heap ->
   (∀z',Moved (S::wr) G z z'->iV w S (jm val n) z'.heap->R (.ok (.ret .none)) z')->codeAny (model prog w) A (.builtin "set.update.loop" ⟨[.ref S,.ref I],[]⟩) R z:=by
 have sw:S ∉ wr:=λq=>TM (W.sub _ q);have sb:∀b∈wr,b∈S::wr:=λb q=>ao _ q;intro m
 induction m with
 | zero =>
  intro i z e1 e2 st x q;have:i=n:=by omega
  subst this;refine codeAny_builtin PyProof.Rows.F.entry_set_update_loop ?_;rw[Around.under_plainId PyProof.Rows.F.plain_set_update_loop _];show aA _ A.in1 (pyNext (.ref I) >>= _) _ _ z;refine ae (W.done z _ _ st λz' mv=>?_);exact ak (q z' (mv.mono sb) (x.keep λo e=>mv.heap S _ sw e))
 | succ m ih =>
  intro i z e1 e2 st x q;refine codeAny_builtin PyProof.Rows.F.entry_set_update_loop ?_;rw[Around.under_plainId PyProof.Rows.F.plain_set_update_loop _];show aA _ A.in1 (pyNext (.ref I) >>= _) _ _ z;refine ae (W.item i z _ _ (!1) st λv z' hv Ca mv=>?_);obtain⟨t,rfl⟩:=Fy i v hv;have x':=x.keep (h':=z'.heap) λo e=>mv.heap S _ sw e;show aA _ A.in1 (holding [af.int (val i) t] (setAdd S (.int (val i) t)) >>= _) _ _ z';refine ae (wpAny_holding ?_);unfold setAdd;refine wpAny_holding (ae ((intKind prog w).pyHash (k:=val i) (intKind_is _ _ _ _) ?_));refine Iy (s:={ z' with toks:=z'.toks+1 }) x' (by have:=rO val i;omega) λr h' a1 a2=>?_;refine ak ⟨plainId_quiet PyProof.Rows.F.plain_set_update_loop _,ih (i+1) _ (!1) (!1) (W.frame _ z' _ _ Ca (bX _) λb hb o e=>?_) a2 λz'' mv' x''=>?_⟩
  .rw[a1.2 b λh:b=S=>TM (h ▸ hb)];exact e
  .refine q z'' (Moved.trans W.gtrans ((mv.mono sb).then_heap (bX _) λb o hb e=>?_) mv') x''
   rw[a1.2 b λh:b=S=>hb (by rw[h];exact aq)];exact e
theorem Fz (a:af)(h:Q (.ref s.heap.objs.size) { s with heap:=s.heap.push { cls:=.type "set",dict:=none,data:=.set #[] 0 (.fresh 0 0 (!l3 w)) } }) :
  codeAny (model prog w) A (.call (.builtin "set.__new__") ⟨[.type "set",a],[]⟩) (wants Q E) s:=by
 refine codeAny_of_tree ?_;show aA _ A.in1 (checkBuiltinCall "set.__new__" ⟨[.type "set",a],[]⟩ >>= λ_=>again (.builtin "set.__new__" ⟨[.type "set",a],[]⟩)) _ _ s;refine ae (wpAny_of_eq (F.newCall_set_1 a) (ak ⟨plainId_quiet F.plain_set_new _,codeAny_builtin F.entry_set_new ?_⟩));rw[Around.under_plainId F.plain_set_new _];unfold Builtin.«set.__new__» Builtin.Frozenset.newClass;have q:=sub_set_self;obtain⟨hp,g,d,tk,os⟩:=s;dsimp only
 wp_walk
 refine wpAny_askSetting (ak ?_);dsimp only;simp only[newObj];exact ae (wpAny_alloc (ak (ak h)))
set_option maxHeartbeats 3200000 in
theorem xU {l:Addr}{T:String}{items:Array af}{od:Option Addr}{nl:Nat}{os:Array (Option af)}{ns:List Int}{ob:Obj}{Q:af->aw->Prop}(Zn:s.heap.get? l=some { cls:=.type T,dict:=od,data:=.seq items nl,slots:=os })
  (aag:isSubtype (.type T) (.type "set")=pure false) (aah:isSubtype (.type T) (.type "frozenset")=pure false) (g6:(af.type T == af.type "dict")=false) (hi:IntsAre items.toList ns) (hb:items.size+1<scanBound) {St:Nat->Heap->Prop}
  (iter:∀{A':Around} {E':af->aw->Prop} {Q':af->aw->Prop} {z:aw},z.heap.get? l=some { cls:=.type T,dict:=od,data:=.seq items nl,slots:=os }->Q' (.ref z.heap.objs.size) { z with heap:=z.heap.push ob }->aA (model prog w) A' (pyIter (.ref l)) Q' E' z)
  (W:Walks prog w A.in1.in1.in1 (s.heap.objs.size+1) [s.heap.objs.size+1,l] [s.heap.objs.size+1] items.size (λi v=>items[i]? = some v) St)
  (tW:∀z:Heap,z.objs.size=s.heap.objs.size+1->z.get? l=some { cls:=.type T,dict:=od,data:=.seq items nl,slots:=os }->St 0 (z.push ob))
  (h:∀(h':Heap) (tk:Nat),iV w s.heap.objs.size (jm (λi=>ns.getD i 0) items.size) h'->(∀b o,s.heap.get? b=some o->h'.get? b=some o)->Q (.ref s.heap.objs.size) { s with heap:=h',toks:=tk }) :
  aA (model prog w) A (call (.type "set") [.ref l]) Q E s:=by
 obtain⟨c,tl,aai⟩:=F.called_set.mro;have Zo:=F.called_set.made;have ll:=F.called_set.sub;refine wpAny_call (codeAny_of_tree ?_);show aA _ _ (callAny (.type "set") _) _ _ _;refine ak ⟨Code.quiet_builtin _ (!3),codeAny_builtin F.entry_type_call ?_⟩;rw[Around.under_plain (weight_type_call_type "set" [.ref l] []) rfl];have g1:=F.called_set.notType;have g2:=F.called_set.canCreate;have g3:=F.typeCall_set_1 (.ref l);repeat (any_goals (first | assumption | wp_step))
 refine codeAny_mono (Fz (.ref l) (E:=E) (Q:=λx z=>x=.ref s.heap.objs.size/\z={ s with heap:=s.heap.push { cls:=.type "set",dict:=none,data:=.set #[] 0 (.fresh 0 0 (!l3 w)) } }) ⟨rfl,rfl⟩) λr z hr=>?_
 cases r with
 | error e=>exact hr
 | ok fl =>
  cases fl with
  | ret x =>
   obtain⟨rfl,rfl⟩:=hr;have kp:∀b o,s.heap.get? b=some o->(s.heap.push { cls:=.type "set",dict:=none,data:=.set #[] 0 (.fresh 0 0 (!l3 w)) }).get? b=some o:=λb o e=>ai _ e;have hS:(s.heap.push { cls:=.type "set",dict:=none,data:=.set #[] 0 (.fresh 0 0 (!l3 w)) }).get? s.heap.objs.size=some { cls:=.type "set",dict:=none,data:=.set #[] 0 (.fresh 0 0 (!l3 w)) }:=aE _ rfl;have hz:(s.heap.push { cls:=.type "set",dict:=none,data:=.set #[] 0 (.fresh 0 0 (!l3 w)) }).objs.size=s.heap.objs.size+1:=by rw[bG]
   have Qf:=kp l _ Zn;have hlS:l<s.heap.objs.size:=aD Zn;generalize s.heap.push { cls:=.type "set",dict:=none,data:=.set #[] 0 (.fresh 0 0 (!l3 w)) }=h1 at hS kp hz Qf ⊢;have hT:aw.TypeIs { s with heap:=h1 } (.ref s.heap.objs.size) "set" := ⟨_,hS,rfl⟩;have hli:=F.called_set.init.lookup;have N6:=F.called_set.init.bind (.ref s.heap.objs.size);repeat (any_goals (first | assumption | wp_step))
   refine codeAny_mono (codeAny_call_builtin (R:=wants (λr z=>r=.none/\∃h' tk,z={ s with heap:=h',toks:=tk }/\iV w s.heap.objs.size (jm (λi=>ns.getD i 0) items.size) h'/\(∀b o,s.heap.get? b=some o->h'.get? b=some o)) E)
    F.called_set.init.plain F.entry_set_init (check_set_init_1 hT ?_)) λr₂ s₂ Iz=>?_
   .unfold Builtin.«set.__init__» noKeywords Builtin.Frozenset.updateFrom
    generalize hPI:pyIter=PI
    wp_walk
    subst hPI;refine iter Qf ?_;refine ae (wpAny_runValue ?_);have Fy:∀(i:Nat) (v:af),items[i]? = some v->∃t,v=.int ((λi=>ns.getD i 0) i) t:=λi v hv=>IntsAre.int_at hi i v (by rw[bA];exact hv)
    have hS1:s.heap.objs.size ∉ [s.heap.objs.size+1,l]:=λq=>by
     rcases al.mp q with q | q
     .exact absurd q (aV (cD _))
     .exact absurd (ay.mp q) (cg hlS)
    show codeAny _ _ (.builtin "set.update.loop" ⟨[.ref s.heap.objs.size,.ref h1.objs.size],[]⟩) _ _;rw[hz];refine Fw (A:=A.in1.in1) W.toS s.heap.objs.size hS1 (λi=>ns.getD i 0) Fy hb (items.size - 0) 0 _ (!1) (bW _) (tW h1 hz Qf) ?hS0 ?hR
    case hS0=>exact⟨_,#[],0,_,ai _ hS,⟨rfl,rfl,rfl⟩,rfl,λe he=>by simp at he,by simp[jm],!2,by rfl,rfl,λ_=>by simp[SetTable.fresh]⟩
    case hR =>
     intro z' mv x;obtain⟨h',g',d',WQ,Wn⟩:=z';have eg:g'=s.gens:=mv.gens;have ed:d'=s.drawn:=mv.drawn;have eo:Wn=s.os:=mv.os;subst eg ed eo;show aA _ _ _ _ _ _;refine ak ?_;show aA _ _ (ret af.none) _ _ _;refine ak ⟨rfl,h',WQ,rfl,x,λb o e=>?_⟩;have VL:=aD e
     have K1:b ∉ s.heap.objs.size::[s.heap.objs.size+1]:=λq=>by
      rcases al.mp q with q | q
      .exact absurd q (aV VL)
      .exact absurd (ay.mp q) (aV (cA VL))
     exact mv.heap b o K1 (ai _ (kp b o e))
   .cases r₂ with
    | error e=>exact Iz
    | ok TN =>
     cases TN with
     | ret r =>
      obtain⟨rfl,h',tk,rfl,x,kq⟩:=Iz;repeat (any_goals (first | assumption | wp_step))
      exact h _ _ x kq
     | _=>exact Iz.elim
  | _=>exact hr.elim
end
open PyProof.Rows
theorem l4:Slot "set_iterator" "__next__" "set_iterator.__next__" :=
 Slot.of (owner := "set_iterator") (n := "__next__") (by rw[typeLookup_type,builtinLookup_eq_fast];kernel_rfl) (!3) (!3)
  (!3) (by first | exact .inl (!3) | exact .inr (!3)) (by rw[isSubtype_type];kernel_rfl)
theorem xV:entryFor table "set_iterator.__next__" = some Builtin.«set_iterator.__next__»:=entryFor_of_tree (by kernel_rfl)
theorem Av (a:af):argsOk "set_iterator.__next__" ⟨[a],[]⟩:=by unfold argsOk;kernel_rfl
theorem Aw:entryFor table "set.__iter__" = some Builtin.«frozenset.__iter__»:=entryFor_alias (id' := "frozenset.__iter__") (by kernel_rfl) rfl (!3) (by kernel_rfl)
section
variable {prog:aZ}{w:World}{A:Around}{E:af->aw->Prop}{s:aw}
theorem w9 (hn:0<n)(h:∀i d,i<n->Q i { s with drawn:=d }):aA M A (choose src n) Q E s:=λΓ p hΓ=>by
 unfold choose;rw[Sem.wp_choose];refine⟨cg hn,?_⟩;rw[Sem.wp_pure];exact h _ _ (Nat.mod_lt _ hn)
theorem ny {M:Model}{α:Type}:∀(n:Nat) (xs:List α) {s:aw} {Q:List α->aw->Prop},n=xs.length->(∀ys d,ys.Perm xs->Q ys { s with drawn:=d })->aA M A (drawOrder n xs) Q E s
 | 0,[],s,Q,_,h=>by unfold drawOrder;exact ak (h [] s.drawn .nil)
 | 0,_::_,s,Q,e,_=>by cases e
 | n+1,[],s,Q,e,_=>by cases e
 | n+1,x::xs,s,Q,e,h=>by
  unfold drawOrder;refine ae (w9 (!4) λi d hi=>?_);rw[aR hi];dsimp only;refine ae (ny n ((x::xs).eraseIdx i) (by rw[List.length_eraseIdx_of_lt hi];omega) λys d' p=>ak ?_);exact h _ _ ((List.Perm.cons _ p).trans (by have:=sQ hi;rwa [List.singleton_append] at this))
noncomputable def xa (t:SetTable):Nat->Nat
 | 0=>0
 | i+1=>t.place.getD i 0+1
noncomputable def IA (w:World)(a it pl:Addr)(es:Array (Int × af))(ep:Nat)(t:SetTable)(out:List af)(i:Nat)(first:af)(h:Heap):Prop :=
 (l3 w=true/\first=.int 0 0/\out=(pickOrder (w.params.setOrder a ep) es).toList.map (·.2)) \/
 (l3 w=false/\(!t.plain && decide (es.size > 1))=false/\t.place.toList.Pairwise (· < ·)/\first=.int (xa t i:Nat) 0/\out=es.toList.map (·.2)) \/
 (l3 w=false/\first=.ref pl/\pl≠it/\∃ord:List Nat,h.IsTuple pl (ord.map λi:Nat=>rawInt i).toArray/\ord.Perm (List.range es.size)/\out=ord.map λi=>((es[i]?).map (·.2)).getD .none)
noncomputable def Hb (w:World)(a it pl:Addr)(o:Obj)(es:Array (Int × af))(ep:Nat)(t:SetTable)(out:List af)(i:Nat)(h:Heap):Prop :=
 h.get? a=some o/\out.length=es.size/\∃first,h.get? it=some { cls:=.type "set_iterator",data:=.fields #[first,.int i 0,.ref a,.int es.size 0,.int ep 0] }/\IA w a it pl es ep t out i first h
structure CL (w:World) (o:Obj) (es:Array (Int × af)) (ep:Nat) (t:SetTable):Prop where
 ex:o.ExactSet
 dat:o.data=.set es ep t
 fit:t.fits es.size=true
 led:t.led=!l3 w
theorem Hb.frame (x:Hb w a it pl o es ep t out i h)(k:∀b∈[it,a,pl],∀o,h.get? b=some o->h'.get? b=some o):Hb w a it pl o es ep t out i h':=by
 obtain⟨x1,x2,f,x3,m⟩:=x;refine⟨k a (!4) _ x1,x2,f,k it (!4) _ x3,?_⟩;rcases m with m | m | ⟨m1,m2,m3,ord,m4,m5⟩
 .exact .inl m
 .exact .inr (.inl m)
 .exact .inr (.inr ⟨m1,m2,m3,ord,m4.at λo e=>k pl (!4) o e,m5⟩)
theorem Hb.type (x:Hb w a it pl o es ep t out i s.heap):s.TypeIs (.ref it) "set_iterator" := by
 obtain⟨_,_,f,e,_⟩:=x;exact⟨_,e,rfl⟩
theorem xW {t:SetTable}{n:Nat}(h:t.fits n=true):t.place.size=n:=by
 simp only[SetTable.fits,aK,beq_iff_eq] at h;exact h.1
theorem vc (F:CL w o es ep t)(x:s.heap.get? a=some o)(m:l3 w=true)
  (q:Q ((((pickOrder (w.params.setOrder a ep) es).toList.map (·.2))[i]?).map λv=>(v,sl)) s):aA (model prog w) A (setNext a sl i ep) Q E s:=by
 unfold setNext;refine ae (wpAny_setState_of x F.dat F.fit ?_);dsimp only;unfold setsByText;refine ae (ae (wpAny_askSetting (ak ?_)));refine wpAny_ite_split (λ_=>?_) (λz=>absurd m z);rw[if_neg (!4)];unfold setWalk;refine ae (ae (wpAny_setState_of x F.dat F.fit ?_));dsimp only;unfold setsByText;refine ae (ae (wpAny_askSetting (ak ?_)));refine wpAny_ite_split (λ_=>?_) (λz=>absurd m z);refine ae (wpAny_askSetting (ak ?_));refine ak ?_
 have e:((pickOrder (w.params.setOrder a ep) es)[i]?).map (λe:Int × af=>(e.2,sl))=(((pickOrder (w.params.setOrder a ep) es).toList.map (·.2))[i]?).map λv=>(v,sl):=by
  rw[aB,bA,Option.map_map];rfl
 rw[<- e] at q;exact q
theorem vd {a:Addr}{o:Obj}{es:Array (Int × af)}{ep i:Nat}{t:SetTable}{Q:Option (af × Nat)->aw->Prop}(F:CL w o es ep t)(x:s.heap.get? a=some o)(m:l3 w=false)(m2:(!t.plain && decide (es.size > 1))=false)
  (m3:t.place.toList.Pairwise (· < ·)) (hi:i<=es.size) (q:Q (((es.toList.map (·.2))[i]?).map λv=>(v,xa t (i+1))) s):aA (model prog w) A (setNext a (xa t i) i ep) Q E s:=by
 have hz:=xW F.fit;unfold setNext;refine ae (wpAny_setState_of x F.dat F.fit ?_);dsimp only;unfold setsByText;refine ae (ae (wpAny_askSetting (ak ?_)));refine wpAny_ite_split (λz=>absurd ((show l3 w=true from z).symm.trans m) (!2)) (λ_=>?_);refine wpAny_ite_split (λz=>absurd ((show (!t.plain && decide (es.size > 1))=true from z).symm.trans m2) (!2)) (λ_=>?_);show aA _ _ ((if (!t.led && !es.isEmpty)=true then unsupported "set:maker-not-led" else pure ()) >>= _) _ _ _;rw[F.led,m];rw[if_neg (!4)];refine ae (ak (ak ?_))
 have e:SetTable.below t.place (xa t i)=i:=by
  cases i with
  | zero=>exact SetTable.CJ m3
  | succ j =>
   have hj:j<t.place.size:=by omega
   have:xa t (j+1)=t.place[j] + 1:=by unfold xa;simp[hj]
   rw[this];exact SetTable.CK m3 (by simp[hj])
 rw[e];rcases cE i es.size with hl | hl
 .have e1:es[i]? = some (es[i].1,es[i].2):=by simp[hl]
  have e2:t.place[i]? = some t.place[i]:=by simp[hz,hl]
  rw[e1,e2];have e3:(es.toList.map (·.2))[i]? = some es[i].2:=by rw[aB,bA,e1];rfl
  rw[e3] at q;have e4:xa t (i+1)=t.place[i] + 1:=by unfold xa;simp[hz,hl]
  rw[e4] at q;exact q
 .have e1:es[i]? = none:=by simp[hl]
  have e3:(es.toList.map (·.2))[i]? = none:=by rw[aB,bA,e1];rfl
  rw[e3] at q;rw[e1];exact q
theorem zk {h:Heap}{it:Addr}{vs:Array af}(f:Array af->Array af)(ho:h.get? it=some { cls:=.type "set_iterator",data:=.fields vs }):(h.update it (Obj.mapFields f)).get? it=some { cls:=.type "set_iterator",data:=.fields (f vs) }:=by
 have:=bi (Obj.mapFields f) ho (Obj.isFreed_of_fields (Obj.data_mapFields rfl _));exact this
theorem CM {a it pl:Addr}{o:Obj}{es:Array (Int × af)}{ep:Nat}{t:SetTable}{out:List af}{i:Nat}{v:af}{Q:Option af->aw->Prop}(F:CL w o es ep t)(x:Hb w a it pl o es ep t out i s.heap)(g6:a≠it)
  (hv:out[i]? = some v) (q:∀h',Hb w a it pl o es ep t out (i+1) h'->Heap.SameBut it s.heap h'->Q (some v) { s with heap:=h' }):aA (model prog w) A (pyNext (.ref it)) Q E s:=by
 have ty:=x.type;obtain⟨x1,x2,first,x3,m⟩:=x
 have hi:i<out.length:=by
  rcases cE i out.length with z | z
  .exact z
  .rw[bh z] at hv;cases hv
 unfold pyNext;refine ae (wpAny_attempt (wpAny_callSpecial?_slot (name:=Str.ofString "__next__") ty l4 (wpAny_call_entry l4 ty xV ?_ (Av _))));show aA _ _ (fieldsOf (.ref it) >>= _) _ _ s;refine ae (wpAny_fieldsOf x3 rfl ?_);show aA _ _ (setEntries a >>= _) _ _ s;refine ae (wpAny_setEntries_of x1 F.dat F.fit ?_);rw[if_neg (!4)];have ot:∀(f:Obj->Obj) (h:Heap) (b:Addr) (ob:Obj),b≠it->h.get? b=some ob->(h.update it f).get? b=some ob:=λf h b ob hb e=>(aQ _ _ (Ne.symm hb)).trans e
 have go:∀(sl nx:Nat),s.heap.get? it=some { cls:=.type "set_iterator",data:=.fields #[.int sl 0,.int i 0,.ref a,.int es.size 0,.int ep 0] }->(∀h',IA w a it pl es ep t out (i+1) (.int nx 0) h') ->
   (∀Q':Option (af × Nat)->aw->Prop,∀E',Q' ((out[i]?).map λv=>(v,nx)) s->aA (model prog w) A.in1 (setNext a sl i ep) Q' E' s) ->
   ∀{E':af->aw->Prop},aA (model prog w) A.in1 (setNext a ((sl:Int).toNat) ((i:Int).toNat) ((ep:Int).toNat) >>= λr=>match r with
    | some (y,next)=>setField (.ref it) 0 (rawInt next) >>= λ_=>setField (.ref it) 1 (rawInt ((i:Int)+1)) >>= λ_=>ret y
    | none=>setField (.ref it) 2 af.none >>= λ_=>newExc (af.type "StopIteration") [] >>= λe=>raiseNew e) (λib s'=>∃v,ib=.done (.ret v)/\Q (some v) s') E' s:=by
  intro sl nx x3 md nxt E';simp only[bj];refine ae (nxt _ _ ?_);rw[hv];dsimp only [Option.map];refine ae (wpAny_setField x3 rfl (!4) (ae ?_));have y1:=zk (·.setIfInBounds 0 (rawInt nx)) x3;refine wpAny_setField (s:={ s with heap:=s.heap.update it (Obj.mapFields (·.setIfInBounds 0 (rawInt nx))) }) y1 rfl (!4) (ak ⟨v,rfl,?_⟩);have y2:=zk (·.setIfInBounds 1 (rawInt ((i:Int)+1))) y1;exact q _ ⟨ot _ _ a o g6 (ot _ _ a o g6 x1),x2,.int nx 0,by rw[y2];simp[rawInt],md _⟩ ((Heap.SameBut.update ..).trans (Heap.SameBut.update ..))
 rcases m with⟨m1,rfl,m2⟩ | ⟨m1,m2,m3,rfl,m4⟩ | ⟨m1,rfl,m2,ord,⟨W6,t1,t2,nt,t3⟩,m4,m5⟩
 .exact bF (go 0 0 x3 (λh'=>.inl ⟨m1,rfl,m2⟩) λQ' E' q'=>vc F x1 m1 (by rw[<- m2];exact q')) (λib s' ⟨v,e,h⟩=>⟨v,e,ak h⟩) λe s' h=>h
 .exact bF (go (xa t i) (xa t (i+1)) x3 (λh'=>.inr (.inl ⟨m1,m2,m3,rfl,m4⟩)) λQ' E' q'=>vd F x1 m1 m2 m3 (!1) (by rw[<- m4];exact q')) (λib s' ⟨v,e,h⟩=>⟨v,e,ak h⟩) λe s' h=>h
 .show aA _ _ (seqItems? (.ref pl) >>= _) _ _ s
  refine ae (wpAny_seqItems t1 t3 ?_);rw[m5,aB] at hv
  cases ho:ord[i]? with
  | none=>rw[ho] at hv;cases hv
  | some j =>
   rw[ho] at hv
   have hj:j<es.size:=by
    have:j∈List.range es.size:=m4.mem_iff.mp (bC ho);exact cM.mp this
   have ej:es[j]? = some (es[j].1,es[j].2):=by simp[hj]
   have ev:v=es[j].2:=by simp only[bn,ej] at hv;cases hv;rfl
   have RC:((ord.map λi:Nat=>rawInt i).toArray)[(i:Int).toNat]? = some (.int j 0):=by
    rw[List.getElem?_toArray,bj,aB,ho];rfl
   dsimp only;rw[RC];dsimp only;refine ae ?_;unfold setNextDrawn;refine ae (wpAny_setState_of x1 F.dat F.fit ?_);dsimp only;rw[if_neg (!4),bj,ej];dsimp only;refine ak ?_;refine ae (wpAny_setField x3 rfl (!4) (ak ⟨_,rfl,ak ?_⟩));have y2:=zk (·.setIfInBounds 1 (rawInt ((i:Int)+1))) x3;rw[<- ev];exact q _ ⟨ot _ _ a o g6 x1,x2,.ref pl,by rw[y2];simp[rawInt],.inr (.inr ⟨m1,rfl,m2,ord,⟨W6,ot _ _ pl W6 m2 t1,t2,nt,t3⟩,m4,m5⟩)⟩ (Heap.SameBut.update ..)
theorem vf {a it pl:Addr}{o:Obj}{es:Array (Int × af)}{ep:Nat}{t:SetTable}{out:List af}{Q:Option af->aw->Prop}(hh:A.handled=none)(F:CL w o es ep t)(x:Hb w a it pl o es ep t out out.length s.heap)
  (q:∀h',Heap.ExtBut it s.heap h'->Q none { s with heap:=h' }):aA (model prog w) A (pyNext (.ref it)) Q E s:=by
 have ty:=x.type;obtain⟨x1,x2,first,x3,m⟩:=x;unfold pyNext;refine ae (wpAny_attempt (wpAny_callSpecial?_slot (name:=Str.ofString "__next__") ty l4 (wpAny_call_entry l4 ty xV ?_ (Av _))));show aA _ _ (fieldsOf (.ref it) >>= _) _ _ s;refine ae (wpAny_fieldsOf x3 rfl ?_);show aA _ _ (setEntries a >>= _) _ _ s;refine ae (wpAny_setEntries_of x1 F.dat F.fit ?_);rw[if_neg (!4)]
 have ib:∀{α:Type} (h1:Heap) (B:Around) (Q':α->aw->Prop),B.handled=none->Heap.ExtBut it s.heap h1->aA (model prog w) B (newExc (af.type "StopIteration") [] >>= λe=>raiseNew e)
   Q' (λe s'=>aA (model prog w) A (isInstance e (af.type "StopIteration") >>= λb=>if b=true then pure none else throw e) Q E s') { s with heap:=h1 }:=by
  intro α h1 B Q' hB k1;refine ae ?_;simp only[newExc,newTuple];refine ae (aW (ae (m:=firstArgMember _ _) (wpAny_of_eq (a:=af.none) (by first | rfl | (simp only[firstArgMember];rfl)) (aW ?_ (by size_fits)))) (by size_fits));simp only[raiseNew];refine ae (wpAny_handled ?_);rw[hB];refine ae (ak (wpAny_throw ?_));refine ae (wpAny_isInstance (T := "StopIteration") (b:=true) ⟨_,aE _ rfl,rfl⟩ isSubtype_stop (ak ?_));exact q _ ((k1.push _).push _)
 have no:out[out.length]? = none:=by simp
 rcases m with⟨m1,rfl,m2⟩ | ⟨m1,m2,m3,rfl,m4⟩ | ⟨m1,rfl,m2,ord,⟨W6,t1,t2,nt,t3⟩,m4,m5⟩
 .show aA _ _ (setNext a _ _ _ >>= _) _ _ s
  simp only[bj];refine ae (vc F x1 m1 ?_);rw[<- m2,no];dsimp only [Option.map];exact ae (wpAny_setField x3 rfl (!4) (ib _ _ _ hh (Heap.SameBut.update ..).extBut))
 .show aA _ _ (setNext a _ _ _ >>= _) _ _ s
  simp only[bj];refine ae (vd F x1 m1 m2 m3 (!1) ?_);rw[<- m4,no];dsimp only [Option.map];exact ae (wpAny_setField x3 rfl (!4) (ib _ _ _ hh (Heap.SameBut.update ..).extBut))
 .show aA _ _ (seqItems? (.ref pl) >>= _) _ _ s
  refine ae (wpAny_seqItems t1 t3 ?_);have ol:ord.length=out.length:=by rw[m5,ah]
  have RC:((ord.map λi:Nat=>rawInt i).toArray)[((out.length:Nat):Int).toNat]? = none:=by
   rw[List.getElem?_toArray,bj,aB,bh (!1)];rfl
  dsimp only;rw[RC];dsimp only;refine ae (wpAny_setField x3 rfl (!4) (ae ?_));have y1:=zk (·.setIfInBounds 0 (rawInt 0)) x3;exact wpAny_setField (s:={ s with heap:=s.heap.update it (Obj.mapFields (·.setIfInBounds 0 (rawInt 0))) }) y1 rfl (!4) (ib _ _ _ hh ((Heap.SameBut.update ..).trans (Heap.SameBut.update ..)).extBut)
end
open PyProof.Rows
theorem xX:Slot "set_iterator" "__iter__" "set_iterator.__iter__" :=
 Slot.of (owner := "set_iterator") (n := "__iter__") (by rw[typeLookup_type,builtinLookup_eq_fast];kernel_rfl) (!3) (!3)
  (!3) (by first | exact .inl (!3) | exact .inr (!3)) (by rw[isSubtype_type];kernel_rfl)
theorem CN:entryFor table "set_iterator.__iter__" = some Builtin.«dict_keyiterator.__iter__»:=entryFor_alias (id' := "dict_keyiterator.__iter__") (by kernel_rfl) rfl (!3) (by kernel_rfl)
theorem FA (a:af):argsOk "set_iterator.__iter__" ⟨[a],[]⟩:=by unfold argsOk;kernel_rfl
section
theorem zj.ints:zj l->IntsAre (l.map (·.2)) (l.filterMap Fv):=by
 induction l with
 | nil=>intro _;exact .nil
 | cons e l ih =>
  intro h;obtain⟨k,t,rfl⟩:=h e (!4);exact .cons k t (ih λe he=>h e (by simp[he]))
theorem Ax (es:Array (Int × af)):∀(l:List Nat),(∀j∈l,j<es.size)->(l.map λi=>((es[i]?).map (·.2)).getD af.none)=(l.filterMap λi=>es[i]?).map (·.2)
 | [],_=>rfl
 | j::l,h=>by
  have hj:=h j (!4);have e:es[j]? = some es[j]:=by simp[hj]
  rw[am,bL,e,Ax es l λi hi=>h i (by simp[hi])];rfl
theorem Ay (x:iV w a ns s.heap) (q:∀h' d' it pl o es ep t out ms,CL w o es ep t->Hb w a it pl o es ep t out 0 h'->(∀b ob,s.heap.get? b=some ob->h'.get? b=some ob) ->
   s.heap.objs.size<=it->s.heap.objs.size<=pl->IntsAre out ms->ms.Perm ns->Q (.ref it) { s with heap:=h',drawn:=d' }):aA (model prog w) A (pyIter (.ref a)) Q E s:=by
 have ty:=x.type;obtain⟨o,es,ep,t,ho,ex,hd,h1,h2,h3,h4,h5,h6⟩:=x;have F:CL w o es ep t:=⟨ex,hd,h4,h5⟩;have hz:=xW h4;refine wpAny_pyIter_slot ty PySem.F.slot_set_iter (wpAny_call_entry PySem.F.slot_set_iter ty Aw ?_ (PySem.F.args_set_iter_1 _));unfold Builtin.«frozenset.__iter__» Builtin.Frozenset.slot0 slotArgs;simp only[List.isEmpty_nil,bB,bH,↓reduceIte,bind_assoc,aG,bne_self_eq_false];unfold Builtin.Frozenset.addrOf Builtin.Frozenset.sizeOf;refine ae (ak ?_);try dsimp only
 refine ae (ak ?_);refine ae (ae (wpAny_setEntries_of ho hd h4 (ak ?_)));unfold setDrawn;refine ae (ae (wpAny_setState_of ho hd h4 ?_));dsimp only;unfold setsByText;refine ae (ae (wpAny_askSetting (ak (ak ?_))))
 have ib:∀(h':Heap) (d':_) (pl:Addr) (first:af) (out:List af) (ms:List Int),(∀b ob,s.heap.get? b=some ob->h'.get? b=some ob)->s.heap.objs.size<=h'.objs.size->s.heap.objs.size<=pl ->
   IA w a h'.objs.size pl es ep t out 0 first (h'.push { cls:=.type "set_iterator",data:=.fields #[first,.int 0 0,.ref a,.int es.size 0,.int ep 0] })->out.length=es.size->IntsAre out ms->ms.Perm ns ->
   aA (model prog w) A.in1 (setEpoch a >>= λe=>newFields "set_iterator" [first,rawInt 0,.ref a,rawInt es.size,rawInt e] >>= λv=>ret v)
    (λib s'=>∃v,ib=.done (.ret v)/\∃T' r,s'.TypeIs v T'/\typeLookup (.type T') "__next__" = pure (some r)/\Q v s') E { s with heap:=h',drawn:=d' }:=by
  intro h' d' pl first out ms kp z1 z2 md ol ia pm
  refine ae (wpAny_setEpoch_of (s:={ s with heap:=h',drawn:=d' }) (kp a o ho) hd h4 ?_);unfold newFields;refine ae (aW (ak ⟨_,rfl, "set_iterator",_,⟨_,aE _ rfl,rfl⟩,l4.lookup,?_⟩));have g:(h'.push { cls:=.type "set_iterator",data:=.fields #[first,.int 0 0,.ref a,.int es.size 0,.int ep 0] }).get? h'.objs.size=some { cls:=.type "set_iterator",data:=.fields #[first,.int 0 0,.ref a,.int es.size 0,.int ep 0] }:=aE _ rfl;exact q _ d' h'.objs.size pl o es ep t out ms F ⟨ai _ (kp a o ho),ol,first,g,md⟩ (λb ob e=>ai _ (kp b ob e)) z1 z2 ia pm
 cases hb:l3 w with
 | true =>
  refine wpAny_ite_split (λz=>?_) (λ_=>?_)
  .exfalso
   have:(!l3 w && (!t.plain && decide (es.size > 1)))=true:=z;rw[hb] at this;cases this
  .refine ae (ak ?_)
   have p1:=u9 (w.params.setOrder a ep) es;refine ib s.heap s.drawn s.heap.objs.size (.int 0 0) _ _ (λ_ _ e=>e) (ag _) (ag _) (.inl ⟨hb,rfl,rfl⟩) ?_ (zj.ints (h1.perm p1)) ((p1.filterMap Fv).trans h2);rw[ah,p1.length_eq,bp]
 | false =>
  refine wpAny_ite_split (λz=>?_) (λz=>?_)
  .refine ae (ny es.size (List.range es.size) (!4) λord d' p=>?_)
   refine ae (wpAny_newTuple ?_ ?_)
   .have lt:∀j∈ord,j<es.size:=λj hj=>cM.mp (p.mem_iff.mp hj)
    have p1:(ord.filterMap λi=>es[i]?).Perm es.toList:=(p.filterMap _).trans (by rw[filterMap_getElem?_range]);have g:(s.heap.push { cls:=.type "tuple",data:=.seq (ord.map λi:Nat=>rawInt i).toArray }).get? s.heap.objs.size=some { cls:=.type "tuple",data:=.seq (ord.map λi:Nat=>rawInt i).toArray }:=aE _ rfl;refine ib _ d' s.heap.objs.size (.ref s.heap.objs.size) (ord.map λi=>((es[i]?).map (·.2)).getD .none) ((ord.filterMap λi=>es[i]?).filterMap Fv) (λb ob e=>ai _ e) (by rw[bG];exact bX _) (ag _) ?_ ?_ ?_ ((p1.filterMap Fv).trans h2)
    .refine .inr (.inr ⟨hb,rfl,by rw[bG];exact aV (cD _),ord,⟨_,ai _ g,rfl,0,rfl⟩,p,rfl⟩)
    .rw[ah,p.length_eq,ck]
    .rw[Ax es ord lt]
     exact zj.ints (h1.perm p1)
   .have:ord.length=es.size:=by rw[p.length_eq,ck]
    have hb:scanBound=4096:=rfl;simp only[ah,this];rw[sizeLine_eq];omega
  .refine ae (ak ?_)
   have z':(!t.plain && decide (es.size > 1))=false:=by
    have:¬ (!l3 w && (!t.plain && decide (es.size > 1)))=true:=z;rw[hb] at this;simpa using this
   refine ib s.heap s.drawn s.heap.objs.size (.int 0 0) _ _ (λ_ _ e=>e) (ag _) (ag _) (.inr (.inl ⟨hb,z',?_,rfl,rfl⟩)) ?_ (zj.ints h1) h2
   .cases hp:t.plain with
    | true=>exact h6 hp
    | false =>
     rw[hp] at z';have:t.place.toList.length<=1:=by rw[bp,hz];simpa using z'
     match t.place.toList,this with
     | [],_=>exact .nil
     | [a],_=>exact List.pairwise_singleton _ _
     | _::_::_,h=>exact absurd h (!4)
   .rw[ah,bp]
theorem CO (x:Hb w a it pl o es ep t out i s.heap)(q:Q (.ref it) s):aA (model prog w) A (pyIter (.ref it)) Q E s:=by
 have ty:=x.type;refine wpAny_pyIter_slot ty xX (wpAny_call_entry xX ty CN ?_ (FA _));show aA _ _ (ret (.ref it)) _ _ s;exact ak ⟨_,rfl, "set_iterator",_,ty,l4.lookup,q⟩
theorem FC (out:List af)(hh:A.handled=none)(F:CL w o es ep t)(g6:a≠it) :
  Walks prog w A it [it,a,pl] [it] out.length (λi v=>out[i]? = some v) (Hb w a it pl o es ep t out) where
 sub:=λb hb=>by simp at hb;simp[hb]
 frame:=λ_ _ _ st k=>st.frame k
 item:=λi s Q E hi st hQ=>by
  have e:out[i]? = some out[i]:=by simp[hi]
  exact CM F st g6 e λh' Ca sb=>hQ _ h' s.toks e Ca λb ob hb e=>sb.extBut b ob (λh=>hb (by simp[h])) e
 done:=λs Q E st hQ=>vf hh F st λh' ex=>hQ h' s.toks λb ob hb e=>ex b ob (λh=>hb (by simp[h])) e
 self:=λ_ _ _ _ st hQ=>CO st hQ
end
open PyProof.Rows
section
theorem IB (x:iV w d ns s.heap)(h:∀b,Q b s):aA (model prog w) A (Builtin.List.listLengthHint (.ref d)) Q E s:=by
 have ty:=x.type;unfold Builtin.List.listLengthHint;refine ae (wpAny_specialOf ty F.slot_set_len.lookup ?_);generalize hj:("set.__len__" : String)=j0
 wp_delta
 rw[show splitId j0=some ("set", "__len__") from by subst hj;decide +kernel];subst hj;refine ae (wpAny_isInstance (T := "set") (b:=true) ty (by rw[isSubtype_type];kernel_rfl) ?_);refine wpAny_ite_split (λz=>absurd z (!2)) (λ_=>?_);refine wpAny_ite_split (λ_=>?_) (λz=>absurd (!3) z);exact ae (wpAny_typeOf ty (ak (h _)))
theorem CP (hh:A.handled=none)(x:iV w d ns s.heap)(fk:ns.length<=av)(S:Addr)(res:af)(c₀:Nat)(hS:s.heap.get? S=some { cls:=.type "list",data:=.seq #[] c₀ })
  (hR:∀h' tk d' wY c' ms,(∀b o,b≠S->s.heap.get? b=some o->h'.get? b=some o)->h'.get? S=some { cls:=.type "list",dict:=none,data:=.seq wY c',slots:=#[] }->IntsAre wY.toList ms->ms.Perm ns ->
   R (.ok (.ret res)) { s with heap:=h',toks:=tk,drawn:=d' }) :
  aA (model prog w) A.in1 (Builtin.List.listExtendWith (.ref S) (.ref d) res)
   (λib s'=>match ib with | .done f=>R (.ok f) s' | .again c'=>c'.quiet=true/\codeAny (model prog w) A c' R s') (λe s'=>R (.error e) s') s:=by
 have ty:=x.type;have RD:d<s.heap.objs.size:=by obtain⟨o,es,ep,t,e,_⟩:=id x;exact aD e
 have Zp:S<s.heap.objs.size:=aD hS
 have Zq:S≠d:=λz=>by
  obtain⟨o,e,c⟩:=ty;rw[<- z,hS] at e;cases e;exact absurd (show af.type "list" = af.type "set" from c) (!2)
 unfold Builtin.List.listExtendWith;refine ae (wpAny_typeOf ty ?_);have n1:Builtin.List.listSameRef (.ref S) (.ref d)=false:=by simp[Builtin.List.listSameRef,Zq]
 have n2:(af.type "set" == af.type "list")=false:=by decide
 have n3:(af.type "set" == af.type "tuple")=false:=by decide
 simp only[n1,n2,n3,Bool.or_false,bH,if_false];refine ae (Ay x λh1 d1 it pl o es ep t out ms Fx st Ea Tv mB ia pm=>?_);have g6:d≠it:=aV (aS RD Tv);have hSI:S≠it:=aV (aS Zp Tv);have hSp:S≠pl:=aV (aS Zp mB)
 have TM:S ∉ [it,d,pl]:=λz=>by
  rcases al.mp z with z | z
  .exact hSI z
  .rcases al.mp z with z | z
   .exact Zq z
   .exact hSp (ay.mp z)
 have W:=(FC (prog:=prog) (w:=w) (A:=A.in1) (a:=d) (it:=it) (pl:=pl) out hh Fx g6).toS;have ol:out.length=ns.length:=by rw[<- pm.length_eq];exact IntsAre.length ia
 have run:∀(h:Heap) (c₁ tk:Nat),Hb w d it pl o es ep t out 0 h->(∀b o,b≠S->s.heap.get? b=some o->h.get? b=some o) ->
   h.get? S=some { cls:=.type "list",data:=.seq #[] c₁ }->codeAny (model prog w) A (.builtin "list.extend.loop" ⟨[.ref S,.ref it,res],[]⟩) R { s with heap:=h,toks:=tk,drawn:=d1 }:=by
  intro h c₁ tk st1 hk Az;refine codeAny_extend_loopS W (!1) S TM res out.length 0 _ #[] c₁ rfl (bW _) st1 Az (ItemsOf.nil _) λs' wY c' mv hS' LW=>?_;have kF:=Moved.eq_with mv
  have Qg:wY.toList=out:=by
   refine List.ext_getElem? λj=>?_;rw[bA];rcases cE j wY.size with hj | hj
   .have e:wY[j]? = some wY[j]:=by simp[hj]
    rw[e,LW.2 j _ e]
   .rw[cu hj,bh (by have:=LW.1;omega)]
  rw[kF];refine hR s'.heap s'.toks d1 wY c' ms (λb o hb e=>mv.heap b o (λz=>?_) (hk b o hb e)) hS' (by rw[Qg];exact ia) pm;rcases al.mp z with z | z
  .exact hb z
  .have:b=it:=by simpa using z
   exact absurd (aS (aD e) Tv) (by rw[this];exact bo _)
 have Az:=Ea S _ hS;refine ae (wpAny_holding (IB (s:={ s with heap:=h1,drawn:=d1 }) (x.keep λo e=>Ea _ o e) λb=>?_));refine wpAny_ite_split (λ_=>?_) (λ_=>ak ⟨plainId_quiet F.plain_extend_loop _,run h1 c₀ s.toks st (λb o _ e=>Ea b o e) Az⟩);refine ae (wpAny_rule (ae ?_));show aA _ _ (updateSeq S (·.push .none) >>= λ_=>updateSeq S (·.pop)) _ _ { s with heap:=h1,drawn:=d1 };refine ae (wpAny_updateSeq Az rfl ?_);have Oa:=bi (Obj.mapSeq (·.push af.none)) Az rfl;refine wpAny_updateSeq (hz:=by seq_fits) Oa rfl ?_;have TQ:=bi (Obj.mapSeq (·.pop)) Oa rfl
 have Ob:∀b o,b≠S->h1.get? b=some o->((h1.update S (Obj.mapSeq (·.push af.none))).update S (Obj.mapSeq (·.pop))).get? b=some o:=λb o hb e =>
  (aQ _ _ (Ne.symm hb)).trans ((aQ _ _ (Ne.symm hb)).trans e)
 refine ak ⟨plainId_quiet F.plain_extend_loop _,run _ _ s.toks (st.frame λb hb o e=>Ob _ o (λz=>TM (z ▸ hb)) e) (λb o hb e=>Ob b o hb (Ea b o e)) TQ⟩
theorem AA (hh:A.handled=none)(x:iV w d ns s.heap)(fk:ns.length<=av)
  (hQ:∀h' tk d' acc ms,(∀b o,s.heap.get? b=some o->h'.get? b=some o)->IntsAre acc ms->ms.Perm ns->Q acc { s with heap:=h',toks:=tk,drawn:=d' }):aA (model prog w) A (collect (.ref d)) Q E s:=by
 unfold collect;refine ae (wpAny_runValue (codeAny_builtin F.entry_proto_collect ?_));rw[Around.under_plainId F.plain_proto_collect _];show aA _ A.in1 (newList [] >>= λl=>again (.builtin "list.__iadd__" ⟨[l,.ref d],[]⟩)) _ _ s;refine ae (aW (ak ⟨plainId_quiet F.plain_list_iadd _,codeAny_builtin F.entry_list_iadd ?_⟩));rw[Around.under_plainId F.plain_list_iadd _];show aA _ A.in1 (Builtin.List.listExtendWith (.ref s.heap.objs.size) (.ref d) (.ref s.heap.objs.size)) _ _ _;have hS:(s.heap.push { cls:=.type "list",data:=.seq ([]:List af).toArray }).get? s.heap.objs.size=some { cls:=.type "list",data:=.seq #[] 0 }:=aE _ rfl;have k0:∀b o,s.heap.get? b=some o->(s.heap.push { cls:=.type "list",data:=.seq ([]:List af).toArray }).get? b=some o:=λb o e=>ai _ e;generalize s.heap.push { cls:=.type "list",data:=.seq ([]:List af).toArray }=h0 at hS k0 ⊢
 have H9:∀(h':Heap) (tk:Nat) (d':Drawn) (acc:Array af) (c':Nat) (ms:List Int),(∀b o,b≠s.heap.objs.size->h0.get? b=some o->h'.get? b=some o) ->
   h'.get? s.heap.objs.size=some { cls:=.type "list",dict:=none,data:=.seq acc c',slots:=#[] }->IntsAre acc.toList ms->ms.Perm ns ->
   aA (model prog w) A (match af.ref s.heap.objs.size with
   | af.ref a=>do
    match (<- load a).data with
     | Data.seq xs _=>pure xs.toList
     | _=>unsupported "internal:collect"
   | _=>unsupported "internal:collect") Q E { s with heap:=h',toks:=tk,drawn:=d' }:=λh' tk d' acc c' ms kp e hi pm=>by
  show aA _ A (load s.heap.objs.size >>= _) _ _ _;refine ae (wpAny_load e ?_);exact ak (hQ h' tk d' acc.toList ms (λb o hb=>kp b o (aV (aD hb)) (k0 b o hb)) hi pm)
 refine bF (CP (A:=A) (R:=λr' s'=>r'=.ok (.ret (.ref s.heap.objs.size))/\∃h' tk d' acc c' ms,s'={ s with heap:=h',toks:=tk,drawn:=d' }/\(∀b o,b≠s.heap.objs.size->h0.get? b=some o->h'.get? b=some o) /\
   h'.get? s.heap.objs.size=some { cls:=.type "list",dict:=none,data:=.seq acc c',slots:=#[] }/\IntsAre acc.toList ms/\ms.Perm ns)
  (s:={ s with heap:=h0 }) hh (x.keep λo e=>k0 _ o e) fk s.heap.objs.size (.ref s.heap.objs.size) 0 hS λh' tk d' acc c' ms kp e hi pm=>⟨rfl,h',tk,d',acc,c',ms,rfl,kp,e,hi,pm⟩) (λib s' h=>?_) (λe s' h=>?_)
 .cases ib with
  | done f =>
   obtain⟨e,h',tk,d',acc,c',ms,rfl,kp,q,hi,pm⟩:=h;cases e;exact H9 h' tk d' acc c' ms kp q hi pm
  | again c'=>exact⟨h.1,codeAny_mono h.2 λr Pq hr=>by obtain⟨rfl,h',tk,d',acc,c',ms,rfl,kp,q,hi,pm⟩:=hr;exact H9 h' tk d' acc c' ms kp q hi pm⟩
 .exact absurd h.1 (!4)
end
end PySem
namespace L2
open PySem PySem.Spec PyProof.Rows
section
variable {X:Cx}
theorem Eb {z:Heap}{n:Nat}{ob:Obj}(h:z.objs.size=n)(hf:ob.isFreed=false):(z.push ob).get? n=some ob:=h ▸ aE _ hf
theorem Inv.drawn (I:Inv X pins σ H s)(d:Drawn):Inv X pins σ H { s with drawn:=d } :=
 { ok:=I.ok,os:=I.os,bare:=I.bare,base:=I.base,loc:=I.loc,cell:=I.cell,free:=I.free,freeC:=I.freeC,pin:=I.pin,hok:=I.hok,len:=I.len }
theorem zl (w:World)(hc:X.calm=true)(hw:X.w=w:=by rfl):gn X (.builtin "sorted") (λxs H Q=>∃(p:Addr) (ns:List Int),xs=[.ref p]/\H p=some (.ext (iV w p ns))/\ns.length<64 /\
  ∀(l:Addr) (ms:List Int),ms.Perm ns->ms.Pairwise (·<=·)->H l=none->Q (.ref l) (eM H l (.lst (ms.map V.int)))):=by
 subst hw;intro pins s σ H xs us Q I r h;obtain⟨p,ns,rfl,hp,RB,q⟩:=h;obtain⟨u,rfl,ru⟩:=vals1 r;cases ru;obtain⟨x,_,_⟩:=I.hok p _ hp;refine Calls.call_function_entry kind_sorted plain_sorted entry_sorted (args_sorted1 _) ?_;unfold Builtin.«sorted»;refine ae (m:=checkCount "sorted" 1 1 _) (ak ?_);refine ae (AA (A:=X.A.in1) (I.ok.hd hc) x (by rw[show av=16777216 by decide];omega) λh1 tk d1 acc ms TR hI Qh=>?_)
 have Qg:acc.length<64:=by
  rw[IntsAre.length hI,Qh.length_eq];exact RB
 refine ae (wpAny_newList ?_);have R9:(h1.push (seqObj "list" acc.toArray 0)).get? h1.objs.size=some (seqObj "list" acc.toArray 0):=aE _ rfl;show aA _ _ _ _ _ { s with heap:=h1.push (seqObj "list" acc.toArray 0),toks:=tk,drawn:=d1 };refine ae (wpAny_holding (wpAny_call_entry slot_list_sort ⟨_,R9,rfl⟩ entry_list_sort (list_sort_tree R9 hI Qg λout RE a1 a2 a3=>⟨_,rfl,?_⟩) (args_list_sort _)));refine ak ⟨_,rfl,?_⟩;have hm:=a2.length_eq;have B2:=Qh.length_eq;have hv:eA (RE.map V.int) out.toList:=eA.zh a1;have hsz:(RE.map V.int).length<=av:=by rw[ah,show av=16777216 by decide];omega
 have I1:Inv X pins σ H { s with heap:=h1,toks:=tk,drawn:=d1 }:=(I.kept (t':=tk) TR).drawn d1
 have TK:∀b ob,h1.get? b=some ob->(sortedHeap (h1.push (seqObj "list" acc.toArray 0)) h1.objs.size acc out).get? b=some ob:=by
  intro b ob e;have hb:h1.objs.size≠b:=cg (aD e);unfold sortedHeap;rw[aQ _ _ hb];refine ai _ (ai _ ?_);rw[aQ _ _ hb];exact ai _ e
 have nw:∃n,(sortedHeap (h1.push (seqObj "list" acc.toArray 0)) h1.objs.size acc out).get? h1.objs.size=some { cls:=.type "list",data:=.seq out n }:=by
  have g2:=bi (Obj.mapSeq λ_=>(#[]:Array af)) R9 rfl;have g3:=ai (seqObj "list" #[] 0) (ai (seqObj "tuple" acc.toArray 0) g2);have g4:=bi (Obj.mapSeq λ_=>out) g3 rfl;exact⟨_,g4⟩
 obtain⟨n,nw⟩:=nw;exact⟨.ref h1.objs.size,_,I1.laid (t':=tk) (o:=.lst (RE.map V.int)) TK (ag _) ⟨hsz,out.toList,n,hv,by simpa using nw⟩,rfl,q _ RE (a2.trans Qh) a3 (I1.hok.fresh (ag _))⟩
theorem xY (K:W.Frag)(w:World)(hc:X.calm=true)(hk:X.K=K:=by rfl)(hw:X.w=w:=by rfl):gn X (.type "set") (λxs H Q=>∃(p:Addr) (ns:List Int),xs=[.ref p]/\(gY K H p (ns.map V.int)\/jl K H p (ns.map V.int))/\ns.length<4000 /\
  ∀(l:Addr) (ms:List Int),ms.Nodup->(∀k,k∈ms↔k∈ns)->ms.length<=ns.length->H l=none->Q (.ref l) (eM H l (.ext (iV w l ms)))):=by
 subst hk hw;intro pins s σ H xs us Q I r h;obtain⟨p,ns,rfl,hp,p8,q⟩:=h;obtain⟨u,rfl,ru⟩:=vals1 r;cases ru
 have mem:∀(n:Nat) (k:Int),n=ns.length->(k∈jm (λi=>ns.getD i 0) n↔k∈ns):=by
  intro n k e;subst e;rw[xT,List.mem_iff_getElem];constructor
  .rintro⟨j,hj,e⟩
   exact⟨j,hj,by rw[<- e];simp[hj]⟩
  .rintro⟨j,hj,e⟩
   exact⟨j,hj,by rw[<- e];simp[hj]⟩
 have ib:∀(n:Nat) (h':Heap) (tk:Nat),n=ns.length->iV X.w s.heap.objs.size (jm (λi=>ns.getD i 0) n) h'->(∀b o,s.heap.get? b=some o->h'.get? b=some o)->EP X pins σ Q (.ref s.heap.objs.size) { s with heap:=h',toks:=tk }:=by
  intro n h' tk e x kp;have ol:=rO (λi=>ns.getD i 0) n;refine⟨.ref s.heap.objs.size,_,I.laid (t':=tk) (o:=.ext (iV X.w s.heap.objs.size (jm (λi=>ns.getD i 0) n))) kp (ag _) ⟨x,?_,λh1 h2 x k=>x.keep k⟩,rfl,q _ _ (Au _ _) (λk=>mem n k e) (!1) (I.hok.fresh (ag _))⟩;obtain⟨o,_,_,_,e,_⟩:=x;exact⟨o,e⟩
 have RG:∀B:Around,B.handled=none->B.in1.in1.in1.handled=none:=λB h=>by simp[h]
 rcases hp with hp | hp
 .obtain⟨its,rv,pl,hz⟩:=I.list hp
  obtain⟨o,ho,K2,n,hd⟩:=pl.isList;obtain⟨oc,odi,oda,DW⟩:=o;simp only at K2 hd;subst K2 hd;have hl:=rv.length;rw[ah] at hl;have mB:p<s.heap.objs.size:=aD ho
  exact xU (s:=s) (ns:=ns) ho PySem.F.sub_list_set PySem.F.sub_list_frozenset (!2) (by simpa using IntsAre.qy rv) (by rw[show scanBound=4096 from rfl,aC];omega)
   (λ{A' E' Q' z} e h=>wpAny_pyIter_list ⟨_,e,rfl,_,rfl⟩ h) (Walks.list (RG _ (I.ok.hd hc)) _ p (aV (cA mB)) its.toArray)
   (λz hz e=>⟨⟨_,Eb hz rfl,rfl,rfl⟩,⟨_,ai _ e,rfl,_,rfl⟩⟩) λh' tk x kp=>ib _ h' tk (by rw[aC];omega) x kp
 .obtain⟨its,rv,pl,hz⟩:=I.tuple hp
  obtain⟨o,ho,K2,n,hd⟩:=pl;obtain⟨oc,odi,oda,DW⟩:=o;simp only at K2 hd;subst K2 hd;have hl:=rv.length;rw[ah] at hl;have mB:p<s.heap.objs.size:=aD ho
  exact xU (s:=s) (ns:=ns) ho PySem.F.sub_tuple_set PySem.F.sub_tuple_frozenset (!2) (by simpa using IntsAre.qy rv) (by rw[show scanBound=4096 from rfl,aC];omega)
   (λ{A' E' Q' z} e h=>wpAny_pyIter_tuple ⟨_,e,rfl,_,rfl⟩ h) (Walks.tuple (RG _ (I.ok.hd hc)) _ p (aV (cA mB)) its.toArray)
   (λz hz e=>⟨⟨_,Eb hz rfl,rfl,rfl⟩,⟨_,ai _ e,rfl,_,rfl⟩⟩) λh' tk x kp=>ib _ h' tk (by rw[aC];omega) x kp
end
noncomputable def TU (K:W.Frag)(a:Addr):It :=
 ⟨λi H=>∃xs x,gY K H a xs/\xs[i]? = some x,λi H x H'=>∃T xi,x=.ref T/\H T=none/\H'=eM H T (.tup [.int (i:Nat),xi])/\∀xs,gY K H a xs->xs[i]? = some xi,λi H=>∃xs,gY K H a xs/\xs.length<=i⟩
theorem CQ {P:aZ}{w:World}{K:W.Frag}{Aq:List Expr}{k:Nat}{pos:Pos}(a e it:Addr)(g6:e≠it):B9 P w K (.Tuple Aq k pos) (TU K a) [e,it] e (λi h=>(∃old,IsEnum h e it (i:Nat) old)/\h.IsListIter it a i) where
 mem:=by simp
 obj:=λi h st b hb=>by
  obtain⟨⟨old,he⟩,o,ho,hc,hd⟩:=st;rcases al.mp hb with z | z
  .subst z
   exact⟨_,he,λv z=>by cases z⟩
  .have z':b=it:=by simpa using z
   subst z';exact⟨o,ho,λv z=>by rw[hd] at z;cases z⟩
 keep:=λi h h' st kp=>by
  obtain⟨⟨old,he⟩,hi⟩:=st;exact⟨⟨old,kp e (!4) _ he⟩,hi.at λo q=>kp it (!4) o q⟩
 item:=by
  intro X hP hw hK hc i pins s σ H E I hf st hg;subst hP hw hK;obtain⟨⟨old,he⟩,hi⟩:=st;obtain⟨xs,x,hq,hx⟩:=hg;obtain⟨its,rv,p,hz⟩:=I.list hq;obtain⟨u,hu,ru⟩:=rv.get hx;refine wpAny_pyNext_enum_item he hi p.isList (x:=u) (by simpa using hu) g6 λh1 eo i1 t1 _ kp=>⟨_,rfl,wpAny_letOwnedTupleGo_enum eo λh2 en sb=>?_⟩;have rB:e<s.heap.objs.size:=aD he;have WY:it<s.heap.objs.size:=by obtain⟨_,q,_⟩:=hi;exact aD q
  have TK:∀b o,b≠e->b≠it->s.heap.get? b=some o->h2.get? b=some o:=λb o n1 n2 q=>(sb.2 b n1).trans (kp b o n1 n2 q);have i2:h2.IsListIter it a (i+1):=i1.at λo q=>(sb.2 it (Ne.symm g6)).trans q;have t2:h2.get? s.heap.objs.size=some { cls:=.type "tuple",data:=.seq #[.int i s.toks,u] }:=(sb.2 _ (cg rB)).trans t1;obtain⟨f0,f1,f2,f3,f4,f5⟩:=hf it (!4);obtain⟨g0,g1,g2,g3,g4,g5⟩:=hf e (!4);obtain⟨oi,WZ,hci,W0⟩:=id i2;obtain⟨o0,W2,_⟩:=id hi;have m1:(s.heap.update it λ_=>oi).get? it=some oi:=bi (λ_=>oi) W2 (Obj.isFreed_of_fields W0);have I1:Inv X pins σ H { s with heap:=s.heap.update it λ_=>oi,toks:=s.toks+1 }:=I.turned (λb o hb q=>(aQ _ _ (Ne.symm hb)).trans q) f0 f1 f3 f4 f5
  have W3:∀b o,b≠e->(s.heap.update it λ_=>oi).get? b=some o->h2.get? b=some o:=λb o hb q=>by
   by_cases N6:b=it
   .subst N6
    rw[m1] at q;cases q;exact WZ
   .exact TK b o hb N6 ((aQ _ _ (Ne.symm N6)).symm.trans q)
  have I2:Inv X pins σ H { s with heap:=h2,toks:=s.toks+1 }:=Inv.turned (s:={ s with heap:=s.heap.update it λ_=>oi,toks:=s.toks+1 }) (h':=h2) (t':=s.toks+1) I1 W3 g0 g1 g3 g4 g5;obtain⟨p0,p1,p2,p3,p4,p5⟩:=I.uO (ag s.heap.objs.size) (I.hok.fresh (ag _))
  have I3:Inv X pins σ (eM H s.heap.objs.size (.tup [.int (i:Nat),x])) { s with heap:=h2,toks:=s.toks+1 } :=
   I2.D2 (o:=.tup [.int (i:Nat),x]) t2 p0 p1 p3 p4 p5 ⟨by show 2<=av;decide,[.int i s.toks,u],.cons ⟨_,rfl⟩ (.cons ru .nil),⟨_,t2,rfl,_,rfl,rfl⟩⟩
  refine⟨.ref s.heap.objs.size,_,I3,rfl,⟨_,x,rfl,p0,rfl,λys hy=>by rw[I.z9 hy hq];exact hx⟩,⟨⟨u,by simpa using en⟩,i2⟩,λb hb=>?_⟩
  have TL:b≠s.heap.objs.size:=by
   rcases al.mp hb with z | z
   .rw[z];exact aV rB
   .have z':b=it:=by simpa using z
    rw[z'];exact aV WY
  rw[dJ TL];exact (hf b hb).1
 done:=by
  intro X hP hw hK hc i pins s σ H E I hf st hg;subst hP hw hK;obtain⟨⟨old,he⟩,hi⟩:=st;obtain⟨xs,hq,hx⟩:=hg;obtain⟨its,rv,p,hz⟩:=I.list hq;obtain⟨f0,f1,f2,f3,f4,f5⟩:=hf it (!4);have hl:=rv.length;exact wpAny_pyNext_enum_end (I.ok.hd hc) he hi p.isList (by simp;omega) λh' eb=>⟨rfl,I.turned (t':=s.toks) (λb o hb q=>eb b o hb q) f0 f1 f3 f4 f5⟩
 self:=λ_ _ _ _ _ st h=>by
  obtain⟨⟨old,he⟩,_⟩:=st;exact wpAny_pyIter_enum he h
section
variable {X:Cx}{Aq:List Expr}{k:Nat}{Mm:Pos}
noncomputable def IC (K:W.Frag)(te:TE):TE:=λσ H Q=>te σ H λx H1=>∃(p:Addr) (ns:List Int),x=.ref p/\(gY K H1 p (ns.map V.int)\/jl K H1 p (ns.map V.int))/\ns.length<64 /\
 ∀(l:Addr) (ms:List Int) (H2:Hp),Ext [] H1 H2->H1 l=none->H2 l=some (.lst (ms.map V.int))->ms.Pairwise (· < ·)->(∀k,k∈ms↔k∈ns)->ms.length<=ns.length->Q (.ref l) H2
noncomputable def TV (te:TE):TE:=λσ H Q=>∃D:VK,te σ H D/\∀x H1,D x H1->Q x H1
theorem QE.mono (he:QE X e te):QE X e (TV te):=⟨λpins s σ H Q I ⟨D,h,k⟩=>f6 (he.run pins s σ H D I h) λv s1 ⟨x,H1,I1,r1,q1⟩=>⟨x,H1,I1,r1,k x H1 q1⟩⟩
theorem sR {l:List Int}(h:l.Pairwise (·<=·))(d:l.Nodup):l.Pairwise (· < ·):=by
 have:=h.and d;exact this.imp λ{a b} ⟨h1,h2⟩=>by omega
theorem zm (K:W.Frag){e:Expr}{te:TE}{p1 p2 q1 q2:Pos}(hc:X.calm=true)(g1:Gl X "sorted")(m1:X.mg "sorted" = none)(g2:Gl X "set")(m2:X.mg "set" = none)(he:QE X e te)(hk:X.K=K:=by rfl)(hs:fq e=true:=by rfl) :
  QE X (.Call (.Name "sorted" p1) [.Call (.Name "set" p2) [e] [] q2] [] q1) (IC K te):=by
 have ID:=f' (p:=p2) (pos:=q2) (xY K X.w hc hk rfl) g2 m2 (!3) (iI he.mono fj hs);have outer:=i5 (p:=p1) (pos:=q1) (zl X.w hc rfl) g1 m1 (!3) (iI ID fj);refine outer.weaken λσ H Q h=>?_;refine⟨_,h,λx H1 ⟨p,ns,e1,e2,e3,q⟩=>⟨p,ns,by rw[e1],e2,!1,λl ms nd mm ml hl=>⟨l,ms,rfl,dG,!1,λl2 ms2 pm ps h2=>?_⟩⟩⟩;refine q l2 ms2 _ (Ext.trans (.new hl) (.new h2)) ?_ dG (sR ps (pm.nodup_iff.mpr nd)) (λk=>(pm.mem_iff).trans (mm k)) (by rw[pm.length_eq];exact ml)
 cases z:H1 l2 with
 | none=>rfl
 | some o=>exact absurd h2 (by rw[(Ext.new (S:=[]) hl).keep l2 o (!4) z];simp)
end
section
theorem FD (w:World)(hw:X.w=w:=by rfl):gn X (.builtin "len") (λxs H Q=>∃(l:Addr) (ms:List Int),xs=[.ref l]/\H l=some (.ext (iV w l ms))/\Q (.int ms.length) H):=by
 subst hw;intro pins s σ H xs us Q I r h;obtain⟨l,ms,rfl,hl,q⟩:=h;obtain⟨u,rfl,ru⟩:=vals1 r;obtain rfl:u=af.ref l:=ru;obtain⟨o,es,ep,t,e,ex,hd,ie,pm,sb,ft,g⟩:=(show fM X.prog X.w H s.heap l (.ext (iV X.w l ms)) from I.hok _ _ hl).1;have hs:es.size=ms.length:=by rw[<- pm.length_eq,ie.len,bp]
 have hb:scanBound=4096:=rfl;refine call_len_set e ex hd ft (!1) ?_;rw[hs];exact⟨.int ms.length,H,I.tok _,⟨_,rfl⟩,q⟩
end
theorem fF:∀{ms ns:List Int},ms.Nodup->(∀k∈ms,k∈ns)->ms.length<=ns.length
 | [],_,_,_=>bW _
 | m::ms,ns,nd,h=>by
  have hm:=h m (aq ..);obtain⟨n1,n2⟩:=bJ.mp nd;have ih:=fF (ms:=ms) (ns:=ns.erase m) n2 λk hk=>(List.mem_erase_of_ne (λ(z:k=m)=>n1 (z ▸ hk))).mpr (h k (ao _ hk));rw[List.length_erase_of_mem hm] at ih;have:=List.length_pos_of_mem hm;simp only[aj];omega
theorem xZ:∀{ns ms:List Int},ms.Nodup->(∀k,k∈ms↔k∈ns)->ms.length=ns.length->ns.Nodup
 | [],_,_,_,_=>List.nodup_nil
 | a::t,ms,nd,h,hl=>by
  have ha:a ∉ t:=λVM=>by
   have:=fF (ns:=t) nd λk hk=>by
    rcases al.mp ((h k).mp hk) with z | z
    .exact z ▸ VM
    .exact z
   simp only[aj] at hl;omega
  have hma:a∈ms:=(h a).mpr (aq ..);refine bJ.mpr ⟨ha,xZ (ms:=ms.erase a) (nd.erase a) (λk=>?_) ?_⟩
  .constructor
   .intro hk
    have K3:=(List.Nodup.mem_erase_iff nd).mp hk;exact (al.mp ((h k).mp K3.2)).resolve_left K3.1
   .intro hk
    exact (List.Nodup.mem_erase_iff nd).mpr ⟨λz=>ha (z ▸ hk),(h k).mpr (ao _ hk)⟩
  .rw[List.length_erase_of_mem hma]
   simp only[aj] at hl;omega
theorem vg {ms ns:List Int}(nd:ms.Nodup)(mem:∀k,k∈ms↔k∈ns):(ms.length=ns.length)↔ns.Nodup :=
 ⟨xZ nd mem,λh=>Nat.le_antisymm (fF nd λk hk=>(mem k).mp hk) (fF h λk hk=>(mem k).mpr hk)⟩
section
variable {X:Cx}
noncomputable def Mn:V->List V->Hp->VK->Prop:=λx vs H Q=>∃(l:Addr) (ns:List Int) (k:Int) (j:Nat),x=.ref l/\vs=[.int k]/\H l=some (.lst (ns.map V.int))/\ns[j]? = some k/\(∀i,i<j->ns[i]? ≠ some k)/\Q (.int j) H
theorem FE:Y7 X "list.index" Mn:=by
 intro pins s σ H x vs v us Q I rx rv h;obtain⟨l,ns,k,j,rfl,rfl,hH,hj,SM,q⟩:=h;cases rx;obtain⟨u,rfl,ru⟩:=rv.one;obtain⟨t,rfl⟩:=ru;obtain⟨z,its,n,r',hl,e⟩:=I.HK hH;have hI:IntsAre its ns:=IntsAre.qy r';have len:=IntsAre.length hI;have Qi:j<ns.length:=(aN.mp hj).1
 have at':∀(m:Nat) (hm:m<its.toArray.size),∃t,its.toArray[m]=af.int (ns.getD m 0) t:=by
  intro m hm;rw[aC] at hm;have h2:its[m]? = some its[m]:=by simp[hm]
  obtain⟨t,ht⟩:=IntsAre.int_at hI m _ h2;exact⟨t,by simpa using ht⟩
 have Zr:∀m,m<ns.length->ns[m]? = some (ns.getD m 0):=λm hm=>by simp[List.getD,hm]
 have hz2:its.length<=av:=by rw[<- hl];exact z
 rw[show av=16777216 by decide] at hz2
 refine call_meets F.slot_list_index ⟨_,e,rfl⟩ F.entry_list_index (F.args_list_index_2 _ _)
  (PySem.MeetsSeq.list_index l its.toArray n (.int k t) (λy=>match y with | .int a _=>a == k | _=>false) (λy hy=>?_) j (by rw[aC];omega) (!1) ?_ λm hm hmj=>?_) ⟨e,?_⟩
 .obtain⟨m,hm,rfl⟩:=Array.getElem_of_mem hy
  obtain⟨t2,Ec⟩:=at' m hm;rw[Ec];exact PySem.MeetsSeq.EqGives.int _ _ _ _
 .obtain⟨t2,Ec⟩:=at' j (by rw[aC];omega)
  rw[Ec];have:=Zr j Qi;rw[hj] at this;have e3:=Option.some.inj this;show (ns.getD j 0 == k)=true;rw[<- e3];simp
 .obtain⟨t2,Ec⟩:=at' m hm
  rw[Ec];have h3:=SM m hmj;rw[aC] at hm;rw[Zr m (!1)] at h3;have:ns.getD m 0≠k:=λz=>h3 (by rw[z]);simpa using this
 .exact⟨.int j,H,I.tok _,⟨_,rfl⟩,q⟩
end
end L2
namespace L2
open PySem
mutual
theorem eF.more {S:List Addr}{H:Hp}{p:Addr}(hp:H p=none):∀{d:ad} {v:V},eF S H d v->eF (p::S) H d v
 | .none,_,h=>h
 | .bool _,_,h=>h
 | .int _,_,h=>h
 | .str _,_,h=>h
 | .tuple ds,_,h=>by
  unfold eF at h ⊢;obtain⟨a,xs,e,ha,hr⟩:=h;exact⟨a,xs,e,ha,dH.more hp hr⟩
 | .list ds,_,h=>by
  unfold eF at h ⊢;obtain⟨a,xs,e,ha,hs,hr⟩:=h;refine⟨a,xs,e,ha,λz=>?_,dH.more hp hr⟩;rcases al.mp z with z | z
  .rw[z,hp] at ha;cases ha
  .exact hs z
 | .dict l,_,h=>by
  unfold eF at h ⊢;obtain⟨a,t,kvs,xs,e,el,ha,hs,hk,hr⟩:=h;refine⟨a,t,kvs,xs,e,el,ha,λz=>?_,hk,gG.more hp hr⟩;rcases al.mp z with z | z
  .rw[z,hp] at ha;cases ha
  .exact hs z
theorem dH.more {S:List Addr}{H:Hp}{p:Addr}(hp:H p=none):∀{ds:List ad} {vs:List V},dH S H ds vs->dH (p::S) H ds vs
 | [],_,h=>h
 | d::ds,_,h=>by
  unfold dH at h ⊢;obtain⟨y,r,e,h1,h2⟩:=h;exact⟨y,r,e,eF.more hp h1,dH.more hp h2⟩
theorem gG.more {S:List Addr}{H:Hp}{p:Addr}(hp:H p=none):∀{l:List (ad × ad)} {vs:List V},gG S H l vs->gG (p::S) H l vs
 | [],_,h=>h
 | (_,d)::l,_,h=>by
  unfold gG Ct at h ⊢;obtain⟨y,r,e,h1,h2⟩:=h;exact⟨y,r,e,eF.more hp h1,gG.more hp h2⟩
end
end L2
namespace L2
open PySem PySem.Spec PyProof.Rows
section
variable {X:Cx}
noncomputable def CS (t:TT):TT:=λσ H Q=>∃D:Bool->Hp->Prop,t σ H D/\∀b H1,D b H1->Q b H1
theorem QT.mono (he:QT X e t):QT X e (CS t):=⟨λpins s σ H Q I ⟨D,h,k⟩=>f6 (he.run pins s σ H D I h) λb s1 ⟨H1,I1,q1⟩=>⟨H1,I1,k b H1 q1⟩⟩
theorem FF (hp:PassesOwn (model X.prog X.w) X.A X.env X.xe)(hc:QT X c tA)(hb:xH X body ts):QS X (.While c body [] pos) (uN (CS tA) ts):=Ak hp hc.mono hb
end
theorem Mo (Pv:St->Hp->Prop)(μ:St->Hp->Nat)(h0:Pv σ H)
  (hs:∀σ H,Pv σ H->c σ H λb H1=>if b=true then tb { D with nx:=λσ' H'=>Pv σ' H'/\μ σ' H' < μ σ H,ct:=λσ' H'=>Pv σ' H'/\μ σ' H' < μ σ H,bk:=D.nx } σ H1 else D.nx σ H1):uN (CS c) tb D σ H :=
 Hw Pv μ h0 (λσ H p=>⟨_,hs σ H p,λ_ _ h=>h⟩) (λ_ _ _ _ h ⟨D,a,b⟩=>⟨D,a,λx H1 z=>h _ _ (b _ _ z)⟩)
structure ExcAt (h:Heap) (x:Addr) (cls:af) (od tb:Option Addr):Prop where
 obj:∃oe vs,h.get? x=some oe/\oe.cls=cls/\oe.dict=od/\oe.data=.fields vs/\vs[1]? = some (tb.elim af.none af.ref)
 hd:∀T,tb=some T->T≠x/\∃oT ts,h.get? T=some oT/\oT.data=.fields ts/\ts[3]? = some .none
structure AB (fs:List Addr) (x:Addr) (tb:Option Addr) (h h':Heap):Prop where
 keep:∀b o,h.get? b=some o->b≠x->tb≠some b->b ∉ fs->h'.get? b=some o
 slot:∀b o,h.get? b=some o->b∈fs->∃sl,h'.get? b=some { o with slots:=sl }
 there:∀b o,h.get? b=some o->∃o',h'.get? b=some o'
section
variable {M:Model}{A:Around}{E:af->aw->Prop}{s:aw}
theorem rP {h base:Heap}{l:List Env}(hl:h.FunFrames base l){b:Addr}{o:Obj}{vs:Array af}(ho:h.get? b=some o)(hd:o.data=.fields vs):b ∉ pb l:=λhm=>by
 obtain⟨_,o',B0,hn⟩:=hl.mem hm;rw[ho] at B0;cases B0;exact hn vs hd
theorem qA {base:Heap}{env:Env}{outer:List Env}{L x:Addr}{oe:Obj}{vs:Array af}{head:af}{TX:Bool}{Q:Unit->aw->Prop}
  (FG:A.frames=some (env::outer)) (hl:s.heap.FunFrames base (env::outer)) (hf:env.frame=some L) (he:s.heap.get? x=some oe) (hd:oe.data=.fields vs) (hsz:1<vs.size)
  (h:∀h' T,s.heap.objs.size<=T->AB (pb (env::outer)) x none s.heap h'->ExcAt h' x oe.cls oe.dict (some T)->Q () { s with heap:=h' }) :
  aA M A (do setField (.ref x) 1 (<- EntryCells.newEntry head (<- frameOf env) .none (rawInt L) .none (<- entryPlaceOf L TX))) (λ_ s'=>aA M A (setFlight (.ref x) none) Q E s') E s:=by
 have Zs:x ∉ pb (env::outer):=rP hl he hd;refine ae (wpAny_frameOf_fun FG hl hf λg hg=>ae (wpAny_entryPlaceOf λpl mB=>?_));unfold EntryCells.newEntry newFields;refine ae (aW ?_ (mB.sizeOk5 _ _ _ _ _));have TY:g.get? x=some oe:=(hg.2.1 x Zs).trans he;generalize Ac:([head,af.ref L,.none,rawInt L,.none]++(if pl.isEmpty then List.replicate 6 af.none else pl)).toArray=Oc
 have h3:3<Oc.size:=by
  rw[<- Ac];simp only[aC,au,aj];omega
 have Mp:=ai (h:=g) { cls:=.type "traceback",dict:=none,data:=.fields Oc } TY;have W7:(g.push { cls:=.type "traceback",dict:=none,data:=.fields Oc }).get? g.objs.size=some { cls:=.type "traceback",dict:=none,data:=.fields Oc }:=aE g rfl;have Od:g.objs.size≠x:=cg (aD TY);refine wpAny_setField Mp hd hsz ?_;have RG:=Obj.data_mapFields hd (·.setIfInBounds 1 (af.ref g.objs.size));have VN:=bi (Obj.mapFields (·.setIfInBounds 1 (af.ref g.objs.size))) Mp (Obj.isFreed_of_fields RG);have W8:=(aQ (g.push { cls:=.type "traceback",dict:=none,data:=.fields Oc }) (Obj.mapFields (·.setIfInBounds 1 (af.ref g.objs.size))) Od.symm).trans W7;have VO:∀b,b≠x->((g.push { cls:=.type "traceback",dict:=none,data:=.fields Oc }).update x (Obj.mapFields (·.setIfInBounds 1 (af.ref g.objs.size)))).get? b=(g.push { cls:=.type "traceback",dict:=none,data:=.fields Oc }).get? b:=λb hb=>aQ _ _ (Ne.symm hb);have v1:(vs.setIfInBounds 1 (af.ref g.objs.size))[1]? = some (af.ref g.objs.size):=by simp[hsz]
 have TZ:(Obj.mapFields (·.setIfInBounds 1 (af.ref g.objs.size)) oe).dict=oe.dict:=by
  unfold Obj.mapFields;split<;>rfl
 generalize (g.push { cls:=.type "traceback",dict:=none,data:=.fields Oc }).update x (Obj.mapFields (·.setIfInBounds 1 (af.ref g.objs.size)))=g3 at VN W8 VO ⊢;unfold setFlight;refine ae (wpAny_field VN RG (x:=.ref g.objs.size) v1 ?_);rw[if_pos (show (af.ref g.objs.size != af.none)=true by simp)];refine wpAny_setField W8 rfl h3 ?_
 have ya:s.heap.get? g.objs.size=none:=by
  rw[hg.1];exact Heap.get?_none_of_le (ag _)
 refine h _ g.objs.size (Nat.le_of_eq hg.1.symm) ⟨λb o hb K4 _ K5=>?_,λb o hb K5=>?_,λb o hb=>?_⟩ ⟨⟨_,_,(aQ _ _ Od).trans VN,Obj.cls_mapFields _ _,TZ,RG,v1⟩,λT eT=>?_⟩
 .have K6:g.objs.size≠b:=λz=>by rw[<- z,ya] at hb;cases hb
  have:g.get? b=some o:=(hg.2.1 b K5).trans hb;exact (aQ _ _ K6).trans ((VO b K4).trans (ai _ this))
 .have K6:g.objs.size≠b:=λz=>by rw[<- z,ya] at hb;cases hb
  have K4:b≠x:=λz=>Zs (z ▸ K5);obtain⟨sl,e⟩:=hg.2.2 b o hb;exact⟨sl,(aQ _ _ K6).trans ((VO b K4).trans (ai _ e))⟩
 .have K6:g.objs.size≠b:=λz=>by rw[<- z,ya] at hb;cases hb
  obtain⟨sl,e⟩:=hg.2.2 b o hb;by_cases K4:b=x
  .exact⟨_,(aQ _ _ K6).trans (K4 ▸ VN)⟩
  .exact⟨_,(aQ _ _ K6).trans ((VO b K4).trans (ai _ e))⟩
 .cases eT
  exact⟨Od,_,_,bi _ W8 (Obj.isFreed_of_fields (Obj.data_mapFields rfl _)),Obj.data_mapFields rfl _,by simp[h3]⟩
theorem sS {base:Heap}{env:Env}{outer:List Env}{L x:Addr}{cls:af}{od tb:Option Addr}{Q:Unit->aw->Prop}
  (FG:A.frames=some (env::outer)) (hl:s.heap.FunFrames base (env::outer)) (hf:env.frame=some L) (e:ExcAt s.heap x cls od tb)
  (h:∀h' T,s.heap.objs.size<=T->AB (pb (env::outer)) x tb s.heap h'->ExcAt h' x cls od (some T)->Q () { s with heap:=h' }) :
  aA M A (noteFrame (.ref x) env) (λ_ s'=>aA M A (setFlight (.ref x) none) Q E s') E s:=by
 obtain⟨⟨oe,vs,he,rfl,rfl,hd,h1⟩,ht⟩:=e;have hsz:1<vs.size:=(cZ.mp h1).1;unfold noteFrame;simp only[hf];refine ae (wpAny_field he hd h1 ?_)
 cases tb with
 | none =>
  rw[if_neg (show ¬ ((none:Option Addr).elim af.none af.ref != af.none)=true by decide)];exact qA FG hl hf he hd hsz h
 | some T =>
  obtain⟨Od,oT,ts,hT,K7,h3⟩:=ht T rfl;have VP:3<ts.size:=(cZ.mp h3).1;rw[if_pos (show ((some T:Option Addr).elim af.none af.ref != af.none)=true by simp)];refine ae (wpAny_field hT K7 h3 ?_);rw[if_neg (show ¬ (af.none == rawInt L)=true by simp[rawInt])];refine ae (wpAny_setField hT K7 VP ?_);have ot:∀b,b≠T->(s.heap.update T (Obj.mapFields (·.setIfInBounds 3 af.none))).get? b=s.heap.get? b:=λb hb=>aQ _ _ (Ne.symm hb);have T1:=bi (Obj.mapFields (·.setIfInBounds 3 af.none)) hT (Obj.isFreed_of_fields (Obj.data_mapFields K7 _));have W9:T ∉ pb (env::outer):=rP hl hT K7;have T3:(s.heap.update T (Obj.mapFields (·.setIfInBounds 3 af.none))).objs.size=s.heap.objs.size:=Heap.size_after_update ..;generalize hg:s.heap.update T (Obj.mapFields (·.setIfInBounds 3 af.none))=g at ot T1 T3 ⊢;have Iw:g.FunFrames base (env::outer):=hl.of_keeps λb o hb hn=>⟨o,(ot b λz=>by rw[z,hT] at hb;cases hb;exact hn ts K7).trans hb,rfl⟩;refine qA (s:={ s with heap:=g }) FG Iw hf ((ot x Od.symm).trans he) hd hsz λh' T' hn nt ea=>h h' T' (T3 ▸ hn) ⟨λb o hb K4 K6 K5=>?_,λb o hb K5=>?_,λb o hb=>?_⟩ ea
  .have:b≠T:=λz=>K6 (by rw[z])
   exact nt.keep b o ((ot b this).trans hb) K4 (!4) K5
  .have:b≠T:=λz=>W9 (z ▸ K5)
   exact nt.slot b o ((ot b this).trans hb) K5
  .by_cases z:b=T
   .subst z
    exact nt.there b _ T1
   .exact nt.there b o ((ot b z).trans hb)
end
noncomputable def oY (x:Addr)(cls:af)(od:Option Addr):Heap->Prop:=λh=>∃oe vs,h.get? x=some oe/\oe.cls=cls/\oe.dict=od/\oe.data=.fields vs
theorem ExcAt.W' (e:ExcAt h x cls od tb):oY x cls od h:=let ⟨oe,vs,a,b,c,d,_⟩:=e.obj;⟨oe,vs,a,b,c,d⟩
theorem Ed (r:oY x cls od h):fM P w H h x (.ext (oY x cls od)):=by
 refine⟨r,let ⟨oe,_,e,_⟩:=r;⟨oe,e⟩,λh1 h2 ⟨oe,vs,e,r⟩ k=>⟨oe,vs,k _ e,r⟩⟩
noncomputable def Mq (P:aZ)(w:World):G':=λouter H s E e s'=>∃(x:Addr) (cls:af) (od:Option Addr) (T:Addr) (H':Hp),e=.ref x/\s'.os=s.os/\AllBare s'.gens/\Un (pb outer) [] H H' s.heap s'.heap/\lX P w H' s'.heap /\
 H' x=some (.ext (oY x cls od))/\H' T=none/\s.heap.objs.size<=x/\s.heap.objs.size<=T/\ExcAt s'.heap x cls od (some T)/\E cls od H'
noncomputable def XP (X:Cx)(pins:List (Addr × Obj))(σ:St)(E:XK)(e:af)(s':aw):Prop:=∃(x:Addr) (cls:af) (od tb:Option Addr) (H':Hp),e=.ref x/\Inv X pins σ H' s'/\H' x=some (.ext (oY x cls od))/\X.s₀.heap.objs.size<=x/\(∀p∈X.pn++pins,p.1≠x) /\
 (∀T,tb=some T->H' T=none/\X.s₀.heap.objs.size<=T/\∀p∈X.pn++pins,p.1≠T)/\ExcAt s'.heap x cls od tb/\E cls od H'
noncomputable def vh (X:Cx)(E:XK):Prop:=∀(pins:List (Addr × Obj)) (σ:St) (e:af) (s':aw),XP X pins σ E e s'->X.xe e s'
section
theorem T4 (I:Inv X pins σ H s)(h:Mq X.prog X.w X.stack H s E e s'):XP X pins σ E e s':=by
 obtain⟨x,cls,od,T,H',rfl,os,bare,un,hok,nx,nT,sx,sT,ea,q⟩:=h;have sz:=I.sz;have lt:∀p∈X.pn++pins,p.1<s.heap.objs.size:=λp hp=>aD (I.pin p hp).1;refine⟨x,cls,od,some T,H',rfl,I.Nu os un hok bare (λb z=>absurd z (!4)),nx,aL sz sx,λp hp z=>absurd (z ▸ lt p hp) (dg.mpr sx),λT' eT=>?_,ea,q⟩;cases eT;exact⟨nT,aL sz sT,λp hp z=>absurd (z ▸ lt p hp) (dg.mpr sT)⟩
theorem Mr (hf:env.frame=some L)(h:b∈pb (env::outer)):b=L\/b∈pb outer:=by
 unfold pb at *;rw[bL,hf] at h;exact al.mp h
theorem Ms (h:b∈pb outer):b∈pb (env::outer):=by
 unfold pb at *;rw[bL];split
 .exact h
 .exact ao _ h
theorem lX.AD {P:aZ}{w:World}{h h':Heap}{fs:List Addr}{x:Addr}{cls:af}{od tb:Option Addr}(ok:lX P w H h)(nt:AB fs x tb h h')(nx:H x=some (.ext (oY x cls od)))(fl:oY x cls od h')(nT:∀T,tb=some T->H T=none)(nf:∀b∈fs,H b=none):lX P w H h':=λa o e=>by
 have key:∀b (u:HO),b≠x->H b=some u->∀v,h.get? b=some v->h'.get? b=some v:=λb u K4 hb v hv =>
  nt.keep b v hv K4 (λz=>by rw[nT b z] at hb;cases hb) λz=>by rw[nf b z] at hb;cases hb
 by_cases Zt:a=x
 .subst Zt
  rw[nx] at e;cases e;exact Ed fl
 .refine (ok a o e).B7 (λb v hb q=>?_) (λb q=>q) λb xs q=>q
  rcases hb with rfl | hb
  .exact key b o Zt e v q
  .exact key b _ (λz=>by rw[z,nx] at hb;cases hb) hb v q
end
theorem FH {P:aZ}{w:World}{K:W.Frag}{mg:Str->Option af}{base:Heap}{N:List Str}{fz:Str}{scope:Scope}{f:Addr}{cd:af}{A:Around}{outer:List Env}{s:aw}{H:Hp}{E:XK} :
  vh (mI (Mq P w) P w K mg base N fz scope f cd A outer s H E) E:=by
 rintro pins σ e s' ⟨x,cls,od,tb,H',rfl,I,nx,sx,px,hT,ea,q⟩;have frames:=I.ok.frames;have stack:=I.stack;have free:=I.tS;show aA _ _ (leaving _ _) _ _ _;unfold leaving;have bs:Un (pb outer) [] H H' s.heap s'.heap:=I.base;have above:s.heap.objs.size<=s.heap.objs.size:=ag _;refine ae (sS frames stack rfl ea λh' T' hn nt Zu=>⟨x,cls,od,T',H',rfl,I.os,I.bare,?_,I.hok.AD nt nx Zu.W' (λT e=>(hT T e).1) free,nx,?_,sx,?_,Zu,q⟩)
 .have out:∀b (o:Obj),s.heap.get? b=some o->b≠x/\tb≠some b/\b≠s.heap.objs.size:=λb o hb=>by
   have lt:=aD hb;exact⟨λz=>absurd (z ▸ lt) (dg.mpr sx),λz=>absurd lt (dg.mpr (hT b z).2.1),λz=>absurd (z ▸ lt) (bo _)⟩
  refine⟨λb o hb n hf hx=>?_,λb o hb n hf hx=>?_,bs.free,λb o hb hx=>?_,bs.yS,bs.wR,bs.yT⟩
  .obtain⟨o1,o2,o3⟩:=out b o hb
   exact nt.keep b o (bs.keep b o hb n hf hx) o1 o2 λz=>(Mr rfl z).elim o3 hf
  .obtain⟨sl,e1⟩:=bs.slot b o hb n hf hx
   obtain⟨We,e2⟩:=nt.slot b _ e1 (Ms hf);exact⟨We,e2⟩
  .obtain⟨o',e1⟩:=bs.there b o hb hx
   exact nt.there b o' e1
 .exact I.hok.fresh hn
 .exact aL I.sz hn
section
variable {P:aZ}{w:World}{K:W.Frag}{mg:Str->Option af}{base:Heap}
theorem wK.okX {x fz:Str}{st:Stmt}{f:Addr}{fd:bq}{N ps:List Str}{k:Nat}{sp:Sp}(F:wK K x fz st f fd)(S:fK N ps (dw st))(len:∀vs H Q E,sp vs H Q E->vs.length=ps.length)
  (uU:∀(fg:af) (A:Around) (outer:List Env) (s:aw) (H:Hp) (vs:List V) (Q:VK) (E:XK),gi k (A.deeper (envOfC fz (dw st) s.heap.objs.size f fg))->sp vs H Q E ->
   ∃t,xH (mI (Mq P w) P w K mg base N fz (dw st) f fg A outer s H E) (fW st) t/\t { nx:=λ_ H'=>Q .iZ H',rt:=Q } (start N vs) H):jX P w K mg base (Mq P w) (k+1) f fd ps sp:=by
 obtain⟨oc,od,kV,uT,pm,an,fg,ct,DW,rfl,lk,kG⟩:=F.ex;refine NH lk kG S len λA outer s H vs Q E hr zX=>?_;obtain⟨t,h,q⟩:=uU fg A outer s H vs Q E hr zX;exact⟨t,h.run,q⟩
structure IE (P:aZ) (w:World) (K:W.Frag) (mg:Str->Option af) (base:Heap) (k:Nat) (x:Str) (ps:List Str) (sp:Sp):Prop where
 ex:∃(f:Addr) (fd:bq),jX P w K mg base (Mq P w) k f fd ps sp/\mg x=some (.ref f)/\W.keepIn K (.ref f)=true/\Binds K fd ps []
end
noncomputable def Qj (sp:Sp)(E:XK)(t:TA):TE:=λσ H Q=>t σ H λvs H1=>sp vs H1 Q E
structure FI (K:W.Frag) (C:Addr):Prop where
 ga:W.findIn K (.ref C) "__getattribute__" = some (some (.builtin "BaseException.__getattribute__"))
 gh:W.findIn K (.ref C) "__getattr__" = some none
 sa:W.findIn K (.ref C) "__setattr__" = some (some (.builtin "object.__setattr__"))
 hd:W.hasDictIn K C=true
 isx:W.mroIn K C (.type "BaseException")=some true
 iso:W.mroIn K C (.type "object")=some true
section
variable {prog:aZ}{w:World}{A:Around}{E:af->aw->Prop}{K:W.Frag}{x C dx:Addr}{o:Obj}{mA:Str->Option af}{name:Str}{v:af}
noncomputable def nO:List af->Bool
 | [.type a,.type b,.type c,.type d]=>a == "ValueError" && b == "Exception" && c == "BaseException" && d == "object"
 | .ref _::r=>nO r
 | _=>false
theorem yb (self:af):∀{l:List af},nO l=true->refuseLoop self "__setattr__" l=pure ()
 | [.type a,.type b,.type c,.type d],e=>by
  simp only[nO,aK,beq_iff_eq] at e;obtain⟨⟨⟨rfl,rfl⟩,rfl⟩,rfl⟩:=e;exact PySem.F.store_ValueError.passes self
 | .ref c::r,e=>by
  rw[refuseLoop_ref];exact yb self (by cases r<;>first | exact e | cases e)
theorem sU (X:K.In s.heap)(c:FI K C)(kG:W.clsIn K C=some cd)(Mt:nO cd.mro=true)(I:W.InstAt s.heap x o C od)(na:W.findIn K (.ref C) name=some none)
  (q:aA (model prog w) A.in1 (Builtin.ObjectAttr.storeInOwnDict (.ref x) (.ref C) (.str name tk) name v false) (λib s'=>match ib with | .done f=>R (.ok f) s' | .again c'=>c'.quiet=true/\codeAny (model prog w) A c' R s') (λe s'=>R (.error e) s') s) :
  codeAny (model prog w) A (.call (.builtin "object.__setattr__") ⟨[.ref x,.str name tk,v],[]⟩) R s:=by
 have SF:=PySem.F.store_object;have L0:=I.type (M:=model prog w);have L3:=W.looks_findIn (M:=model prog w) X na;have L4:=W.looks_mroIn (M:=model prog w) X c.iso;have L6:W.Looks (model prog w) s.heap (mroOf (.ref C)) cd.mro:=(W.looks_clsIn X kG).andThen .now;refine codeAny_call_builtin SF.slot.plain SF.entry ?_;refine @W.check_slot (model prog w) _ _ s "object.__setattr__" "object" "__setattr__" (.ref x) [.str name tk,v] [] _ SF.kind SF.split (L0.andThen L4) (SF.args (.ref x) (.str name tk) v) ?_;show aA _ _ (Builtin.«object.__setattr__» ⟨[.ref x,.str name tk,v],[]⟩) _ _ _;rw[W.osa_eq,refuse_eq];refine ae (ae (L0.here (ae (L6.here ?_))));rw[yb _ Mt];refine ak (ae (L0.here (ae (L3.here ?_))));exact ae (ak q)
theorem CT {s:aw}{Q:Unit->aw->Prop}{cd:ClassData}{vs:Array af}(X:K.In s.heap)(c:FI K C)(kG:W.clsIn K C=some cd)(Mt:nO cd.mro=true)(hx:s.heap.get? x=some o)(hc:o.cls=.ref C)(hd:o.dict=none)(hf:o.data=.fields vs)(na:W.findIn K (.ref C) name=some none)
  (q:∀h' tk,h'.get? x=some { o with dict:=some s.heap.objs.size }->h'.Ns1 s.heap.objs.size (λy=>if y=name then some v else none)->(∀b u,b≠x->s.heap.get? b=some u->h'.get? b=some u)->Q () { s with heap:=h',toks:=tk }) :
  aA (model prog w) A (setAttr (.ref x) name v) Q E s:=by
 have I:W.InstAt s.heap x o C none:=⟨hx,hc,by unfold W.notCls;rw[hf],by rw[hd];trivial⟩
 have Xa:cd.hasDict=true:=by
  obtain⟨cd',e1,e2⟩:=W.any_some c.hd;rw[kG] at e1;cases e1;exact e2
 have T5:x≠s.heap.objs.size:=aV (aD hx);refine W.set_plain X I c.sa (sU (s:={ s with toks:=s.toks+1 }) X c kG Mt I na ?_);unfold Builtin.ObjectAttr.storeInOwnDict;refine ae (ak ?_);show aA _ _ (Builtin.ObjectAttr.ownDictForStores (.ref x) >>= _) _ _ _;refine ae ?_;show aA _ _ (instanceDict x true) _ _ _;unfold instanceDict;refine ae (wpAny_loadPart hx ?_);rw[hc,hd,hf];refine ae (W.Looks.here (s:={ s with toks:=s.toks+1 }) (W.looks_clsIn X kG) ?_);rw[Xa];show aA _ _ (alloc { cls:=.type "dict",data:=.dict #[] } >>= _) _ _ _;have TY:(s.heap.push { cls:=.type "dict",data:=.dict #[] }).get? x=some o:=ai _ hx;have DR:({ o with dict:=some s.heap.objs.size }:Obj).isFreed=false:=Obj.isFreed_of_fields (vs:=vs) hf;refine ae (wpAny_alloc' ?_);refine ae (wpAny_update' TY ?_);refine ak ?_;have Qk:((s.heap.push { cls:=.type "dict",data:=.dict #[] }).update x (λo=>{ o with dict:=some s.heap.objs.size })).get? s.heap.objs.size=some { cls:=.type "dict",data:=.dict #[] }:=(Heap.get?_update_ne _ _ _ _ T5.symm).trans (Heap.get?_push_at rfl rfl);have Mp:=bi (λo=>{ o with dict:=some s.heap.objs.size }) TY DR;have ot:∀b u,b≠x->s.heap.get? b=some u->((s.heap.push { cls:=.type "dict",data:=.dict #[] }).update x (λo=>{ o with dict:=some s.heap.objs.size })).get? b=some u:=λb u hb hu=>(Heap.get?_update_ne _ _ _ _ hb).trans (ai _ hu);generalize (s.heap.push { cls:=.type "dict",data:=.dict #[] }).update x (λo=>{ o with dict:=some s.heap.objs.size })=g at Qk Mp ot ⊢;have Oe:g.Ns s.heap.objs.size (λ_=>none):=⟨_,#[],_,Qk,rfl,λe he=>absurd he (!4),λ_=>rfl⟩;show aA _ _ (Builtin.ObjectAttr.storeInDict s.heap.objs.size (.str name s.toks) name v) _ _ _;unfold Builtin.ObjectAttr.storeInDict Builtin.ObjectAttr.newKeyGuard;refine ae (ak (ae (wpAny_nsSet1 (Heap.Ns1.of_empty Oe) λh' E3 hs=>?_)));obtain⟨oD,esD,epD,Xb,Xd,Xe⟩:=E3.count (PySem.Within.cons name v PySem.Within.nil);refine ae (wpAny_lookBehind Xb (by rw[Xd];exact pastItsLine_dict (aL Xe (by rw[aj,aG,sizeLine_eq];omega))) ?_);refine ak ?_;exact q h' _ ((hs.2 x T5).trans Mp) E3 λb u hb hu=>(hs.2 b (aV (aD hu))).trans (ot b u hb hu)
theorem AE {s:aw}{Q:Unit->aw->Prop}{cd:ClassData}{vs:Array af}{ns:List Str}(X:K.In s.heap)(c:FI K C)(kG:W.clsIn K C=some cd)(Mt:nO cd.mro=true)(hx:s.heap.get? x=some o)(hc:o.cls=.ref C)(hd:o.dict=some dx)(hf:o.data=.fields vs)(hn:s.heap.Ns1 dx mA)(na:W.findIn K (.ref C) name=some none)
  (hw:PySem.Within mA ns) (hz:ns.length<=1000) (q:∀h' tk,h'.Ns1 dx (λy=>if y=name then some v else mA y)->Heap.SameBut dx s.heap h'->Q () { s with heap:=h',toks:=tk }) :
  aA (model prog w) A (setAttr (.ref x) name v) Q E s:=by
 obtain⟨od,sV,_⟩:=xw hn;have I:W.InstAt s.heap x o C (some od):=⟨hx,hc,by unfold W.notCls;rw[hf],by rw[hd];exact sV⟩
 have Xa:cd.hasDict=true:=by
  obtain⟨cd',e1,e2⟩:=W.any_some c.hd;rw[kG] at e1;cases e1;exact e2
 refine W.set_plain X I c.sa (sU (s:={ s with toks:=s.toks+1 }) X c kG Mt I na ?_);unfold Builtin.ObjectAttr.storeInOwnDict;refine ae (ak ?_);show aA _ _ (Builtin.ObjectAttr.ownDictForStores (.ref x) >>= _) _ _ _;refine ae ?_;show aA _ _ (instanceDict x true) _ _ _;unfold instanceDict;refine ae (wpAny_loadPart hx ?_);rw[hc,hd,hf];refine ae (W.Looks.here (s:={ s with toks:=s.toks+1 }) (W.looks_clsIn X kG) ?_);rw[Xa];refine ak (a:=some dx) ?_;show aA _ _ (Builtin.ObjectAttr.storeInDict dx (.str name s.toks) name v) _ _ _;unfold Builtin.ObjectAttr.storeInDict Builtin.ObjectAttr.newKeyGuard;refine ae (ak (ae (wpAny_nsSet1 (s:={ s with toks:=s.toks+1 }) hn λh' E3 hs=>?_)));obtain⟨oD,esD,epD,Xb,Xd,Xe⟩:=E3.count (PySem.Within.cons name v hw);refine ae (wpAny_lookBehind Xb (by rw[Xd];exact pastItsLine_dict (aL Xe (by rw[aj,sizeLine_eq];omega))) ?_);exact ak (q h' _ E3 hs)
end
noncomputable abbrev sW:List af:=[.type "ValueError",.type "Exception",.type "BaseException",.type "object"]
section
noncomputable abbrev qB (u:Heap)(C:Addr)(us:List af):Heap:=(u.push { cls:=.type "tuple",data:=.seq us.toArray }).push { cls:=.ref C,data:=.fields #[.ref u.objs.size,.none,.none,.none,.bool false,.none] }
theorem mL (h:u.get? b=some o):(qB u C us).get? b=some o:=ai _ (ai _ h)
theorem AF:(qB u C us).get? (u.objs.size+1)=some { cls:=.ref C,data:=.fields #[.ref u.objs.size,.none,.none,.none,.bool false,.none] }:=by heap_get
theorem CU (hK:u.get? C=some (excClassObj nm qn C N bs bm vi sn sub ab IF dd k0 k1 k2 k3 k5 "ValueError.__new__"))(tl:OwnTail u sW bm)(LI:W.Looks (model prog w) u (typeLookup (.ref C) "__init__") (some (.ref fI)))(LF:W.Looks (model prog w) u (typeOf (.ref fI)) (.type "function"))(hl:us.length<=av)
  (q:aA (model prog w) A (call (.ref fI) (.ref (u.objs.size+1)::us)) (λr s'=>r=.none/\Q (.done (.ret (.ref (u.objs.size+1)))) s') E ⟨qB u C us,gs,dr,tk,T6⟩) :
  aA (model prog w) A (Builtin.«type.__call__» ⟨.ref C::us,[]⟩) Q E ⟨u,gs,dr,tk,T6⟩:=by
 have F:=PySem.F.excBase_ValueError;have hK1:(qB u C us).get? C=some (excClassObj nm qn C N bs bm vi sn sub ab IF dd k0 k1 k2 k3 k5 "ValueError.__new__"):=mL hK;have LI1:=LI.keeps (h':=qB u C us) λb o hb=>mL hb;have LF1:=LF.keeps (h':=qB u C us) λb o hb=>mL hb;have hCC:(af.ref C::bm).contains (.ref C)=true:=by simp
 have hX:=AF (u:=u) (C:=C) (us:=us);repeat (first | (with_reducible refine wpAny_loadPart_at hK ?_) | (with_reducible refine wpAny_madeBy_exc hK ?_) | wp_step)
 refine codeAny_call_builtin_code (Code.quiet_builtin _ F.quiet) ?_;refine wpAny_check_new_subT F tl hK (codeAny_exc_new_subT F tl hK ?_ hl);show aA _ _ _ _ _ ⟨qB u C us,gs,dr,tk,T6⟩;unfold isInstance;repeat (first | (with_reducible refine wpAny_loadPart_at hX ?_) | ((with_reducible refine wpAny_isSubtype_exc hK1 ?_);rw[hCC]) | wp_step)
 show aA _ _ (typeLookup (.ref C) "__init__") _ _ _;refine LI1.at (wpAny_holding (ae ?_));unfold bindSpecial;refine ae (LF1.at ?_);rw[if_pos (!2)];refine ak (ae (bF q (λr s' hr=>?_) λ_ _ z=>z));obtain⟨rfl,hQ⟩:=hr
 wp_walk
 exact hQ
theorem CV (hK:u.get? C=some (excClassObj nm qn C N bs bm vi sn sub ab IF dd k0 k1 k2 k3 k5 "ValueError.__new__"))(tl:OwnTail u sW bm)(LI:W.Looks (model prog w) u (typeLookup (.ref C) "__init__") (some (.ref fI)))(LF:W.Looks (model prog w) u (typeOf (.ref fI)) (.type "function"))(hl:us.length<=av)
  (q:aA (model prog w) (A.under (.builtin "type.__call__" ⟨.ref C::us,[]⟩)) (call (.ref fI) (.ref (u.objs.size+1)::us)) (λr s'=>r=.none/\Q (.ref (u.objs.size+1)) s') E ⟨qB u C us,gs,dr,tk,T6⟩) :
  aA (model prog w) A (call (.ref C) us) Q E ⟨u,gs,dr,tk,T6⟩:=by
 have g1:=tc_lookup;have g2:=tc_bind (.ref C);have hTy:(⟨u,gs,dr,tk,T6⟩:aw).TypeIs (.ref C) "type" := ⟨_,hK,rfl⟩;refine wpAny_call (codeAny_of_tree ?_);show aA _ _ (callAny (.ref C) _) _ _ _;repeat (any_goals (first | assumption | (with_reducible refine wpAny_loadPart_at hK ?_) | wp_step))
 refine⟨rfl,codeAny_call_builtin_at (Code.quiet_builtin _ (!3)) entry_typeCall ?_⟩;exact wpAny_check_type_call_sub hK (CU hK tl LI LF hl q)
end
noncomputable def mM (x C:Addr)(od:Option Addr):Heap->Prop:=λh=>∃(oe:Obj) (t:Addr),h.get? x=some oe/\oe.cls=.ref C/\oe.dict=od/\oe.data=.fields #[.ref t,.none,.none,.none,.bool false,.none]
noncomputable def nz (d:Addr)(fs:List (Str × V)):Heap->Prop:=λh=>∃mA,h.Ns1 d mA/\∀g,qc (fs.lookup g) (mA g)
theorem Ee (r:mM x C od h):fM P w H h x (.ext (mM x C od)):=by
 refine⟨r,let ⟨oe,_,e,_⟩:=r;⟨oe,e⟩,λh1 h2 ⟨oe,vs,e,r⟩ k=>⟨oe,vs,k _ e,r⟩⟩
theorem AG (r:nz d fs h):fM P w H h d (.ext (nz d fs)):=by
 refine⟨r,let ⟨_,⟨o,_,_,e,_⟩,_⟩:=r;⟨o,e⟩,λh1 h2 ⟨mA,⟨o,es,ep,e,c⟩,r⟩ k=>⟨mA,⟨o,es,ep,k _ e,c⟩,r⟩⟩
theorem vj (ok:lX P w H h)(e:H a=some (.ext φ)):φ h:=(show fM P w H h a (.ext φ) from ok a _ e).1
structure zo (K:W.Frag) (C:Addr):Prop where
 cls:FI K C
 ve:∃cd,W.clsIn K C=some cd/\nO cd.mro=true
 ty:∃o,K.lookup C=some o/\o.cls=.type "type"
section
theorem IG (I:Inv X pins σ H s)(c:zo X.K C)(na:W.findIn X.K (.ref C) f=some none)(e:H x=some (.ext (mM x C none)))(r:RelV y v)
  (q:∀d s',H d=none->d≠x->Inv X pins σ (eM (eM H x (.ext (mM x C (some d)))) d (.ext (nz d [(f,y)]))) s'->Q () s'):aA (model X.prog X.w) X.A (setAttr (.ref x) f v) Q X.xe s:=by
 obtain⟨oe,t,hx,hc,hd,hf⟩:=vj I.hok e;obtain⟨cd,kG,Mt⟩:=c.ve;have T5:s.heap.objs.size≠x:=cg (aD hx);have FG:H s.heap.objs.size=none:=I.hok.fresh (ag _);refine CT I.rF c.cls kG Mt hx hc hd hf na λh' tk HU E3 kp=>q s.heap.objs.size _ FG T5 ?_;have raw:mM x C (some s.heap.objs.size) h':=⟨_,t,HU,hc,rfl,hf⟩
 have I1:Inv X pins σ (eM H x (.ext (mM x C (some s.heap.objs.size)))) { s with heap:=h',toks:=tk } :=
  I.write (x:=x) (e:=x) (by rw[e];trivial) (.inl rfl) (λb u hb hu=>kp b u hb hu) ⟨_,HU⟩ (Ee raw)
 obtain⟨od,es,ep,sV,rest⟩:=id E3;have sz:=I.sz;refine I1.D2 (a:=s.heap.objs.size) sV ?_ (cg I.lt) (.inr sz) (λz cl hz e'=>?_) (λp hp e'=>?_) (AG ⟨_,E3,λg=>?_⟩)
 .rw[dJ T5]
  exact FG
 .obtain⟨vv,ob,hb,_⟩:=I.cell z cl hz
  exact absurd (e' ▸ aD hb) (bo _)
 .exact absurd (e' ▸ aD (I.pin p hp).1) (bo _)
 .by_cases hg:g=f
  .subst hg
   simp only[bD,beq_self_eq_true,if_true];exact r
  .have hb:(g == f)=false:=by simpa using hg
   simp only[bD,hb,if_neg hg,List.lookup_nil];trivial
theorem FJ (I:Inv X pins σ H s)(c:zo X.K C)(na:W.findIn X.K (.ref C) f=some none)(e:H x=some (.ext (mM x C (some dx))))(ed:H dx=some (.ext (nz dx fs)))(hl:fs.length<=900)(r:RelV y v)
  (q:∀s',Inv X pins σ (eM H dx (.ext (nz dx (E9 f y fs)))) s'->Q () s'):aA (model X.prog X.w) X.A (setAttr (.ref x) f v) Q X.xe s:=by
 obtain⟨oe,t,hx,hc,hd,hf⟩:=vj I.hok e;obtain⟨mA,hn,rm⟩:=vj I.hok ed;obtain⟨cd,kG,Mt⟩:=c.ve
 have hw:PySem.Within mA (fs.map (·.1)):=λg hg=>by
  cases hk:fs.lookup g with
  | none =>
   have:=rm g;rw[hk] at this
   cases hm:mA g with
   | none=>exact absurd hm hg
   | some u=>rw[hm] at this;exact this.elim
  | some z=>exact bg.mpr ⟨(g,z),PySem.mem_of_lookup hk,rfl⟩
 refine AE I.rF c.cls kG Mt hx hc hd hf hn na hw (by rw[ah];omega) λh' tk E3 sb=>q _ ?_;obtain⟨od,es,ep,sV,rest⟩:=id E3;refine I.write (x:=dx) (e:=dx) (by rw[ed];trivial) (.inl rfl) (λb u hb hu=>(sb.2 b hb).trans hu) ⟨_,sV⟩ (AG ⟨_,E3,λg=>?_⟩);rw[sO];by_cases hg:g=f
 .rw[if_pos hg,if_pos hg];exact r
 .rw[if_neg hg,if_neg hg];exact rm g
noncomputable def T7 (K:W.Frag)(C:Addr)(ta tv:TE)(f:Str):TS:=λD σ H=>tv σ H λy H1=>ta σ H1 λu H2=>∃x,u=.ref x/\zo K C/\W.findIn K (.ref C) f=some none /\
 ((H2 x=some (.ext (mM x C none))/\∀d,H2 d=none->d≠x->D.nx σ (eM (eM H2 x (.ext (mM x C (some d)))) d (.ext (nz d [(f,y)])))) \/
 ∃dx fs,H2 x=some (.ext (mM x C (some dx)))/\H2 dx=some (.ext (nz dx fs))/\fs.length<=900/\D.nx σ (eM H2 dx (.ext (nz dx (E9 f y fs)))))
theorem Mu (K:W.Frag)(C:Addr)(ha:QE X oe ta)(hv:QE X value tv)(hs:swapsWith value (some (.Attribute oe f jJ)) pos.line X.env=pure false:=by rfl)(hk:X.K=K:=by rfl):QS X (.Assign [.Attribute oe f jJ] value pos) (T7 K C ta tv f):=by
 subst hk;refine⟨λpins s σ H D I h=>?_⟩;refine plainObj_wpAny_Assign_Attribute (f6 (hv.run pins s σ H _ I h) λu s1 ⟨y,H1,I1,ry,q⟩=>f6 (ha.run pins s1 σ H1 _ I1 q) λov s2 ⟨z,H2,I2,rz,x,ez,c,na,way⟩=>?_) hs;subst ez;obtain rfl:ov=af.ref x:=rz;rcases way with⟨e,q2⟩ | ⟨dx,fs,e,ed,hl,q2⟩
 .exact IG I2 c na e ry λd s3 hd T8 I3=>⟨σ,_,I3,q2 d hd T8⟩
 .exact FJ I2 c na e ed hl ry λs3 I3=>⟨σ,_,I3,q2⟩
end
noncomputable def IH (C:Addr)(f:Str):Sp:=λvs H Q _=>∃(x:Addr) (a:V),vs=[.ref x,a]/\H x=some (.ext (mM x C none))/\∀d,H d=none->d≠x->Q .iZ (eM (eM H x (.ext (mM x C (some d)))) d (.ext (nz d [(f,a)])))
structure Ql (K:W.Frag) (J:Addr):Prop where
 ex:∃c0 dd cd sl c1 d1 es n Zv,K.lookup J=some ⟨c0,dd,.cls cd,sl⟩/\K.lookup cd.ns=some ⟨c1,d1,.dict es n,Zv⟩/\StrKeys es/\nsFind es "__init__" = none
theorem Ql.tail {K:W.Frag}{J:Addr}{h:Heap}(j:Ql K J)(X:K.In h):OwnTail h sW (.ref J::sW):=by
 obtain⟨c0,dd,cd,sl,c1,d1,es,n,Zv,e1,e2,e3,e4⟩:=j.ex;exact .own (X _ _ e1) ⟨_,es,n,X _ _ e2,rfl,e3,λ_=>rfl⟩ e4 .base
structure RH (K:W.Frag) (C fI:Addr):Prop where
 obj:∃J nm qn N bs vi sn sub ab IF dd k0 k1 k2 k3 k5,K.lookup C=some (excClassObj nm qn C N bs (.ref J::sW) vi sn sub ab IF dd k0 k1 k2 k3 k5 "ValueError.__new__")/\Ql K J
 init:W.findIn K (.ref C) "__init__" = some (some (.ref fI))
 fn:W.isFn K (.ref fI)=true
 kp:W.keepIn K (.ref C)=true
 cls:FI K C
theorem RH.ec {K:W.Frag}{C fI:Addr}(m:RH K C fI):zo K C:=by
 obtain⟨J,nm,qn,N,bs,vi,sn,sub,ab,IF,dd,k0,k1,k2,k3,k5,e,_⟩:=m.obj;refine⟨m.cls,⟨{ name:=nm,bases:=bs,mro:=.ref C::.ref J::sW,ns:=N,qualname:=qn,hasDict:=vi,slotNames:=sn,subclasses:=sub,abstract:=ab,collection:=IF,hasDel:=false },?_,by simp[nO]⟩,_,e,rfl⟩;unfold W.clsIn;rw[e]
section
theorem Inv.T9 (I:Inv X pins σ H s):Inv X pins σ (eM H (s.heap.objs.size+1) (.ext (mM (s.heap.objs.size+1) C none))) { s with heap:=qB s.heap C us }:=by
 have sz:(s.heap.push { cls:=.type "tuple",data:=.seq us.toArray }).objs.size=s.heap.objs.size+1:=bG _ _;exact I.laid (a:=s.heap.objs.size+1) (t':=s.toks) (λb u q=>mL q) (bX _) (Ee ⟨_,_,AF,rfl,rfl,rfl⟩)
theorem FK {R:Hp->Prop}{us:List af}{vs:List V}(M:RH X.K C fI)(F:jX X.prog X.w X.K X.mg X.base wJ k fI fd ps sp)(hr:gi (k+1) X.A)(hb:Binds X.K fd ps [])(I:Inv X pins σ H s)(r:eA vs us)(hl:vs.length<=100)
  (hq:sp (.ref (s.heap.objs.size+1)::vs) (eM H (s.heap.objs.size+1) (.ext (mM (s.heap.objs.size+1) C none))) (λv H2=>v=.iZ/\R H2) E0) :
  aA (model X.prog X.w) X.A (call (.ref C) us) (λu s'=>u=.ref (s.heap.objs.size+1)/\∃H',Inv X pins σ H' s'/\R H') X.xe s:=by
 have I2:=Inv.T9 (C:=C) (us:=us) I;have r2:eA (V.ref (s.heap.objs.size+1)::vs) (af.ref (s.heap.objs.size+1)::us):=.cons rfl r
 have hps:((af.ref (s.heap.objs.size+1)::us)++[]).length=ps.length:=by
  rw[bt,<- r2.length];exact F.len _ _ _ _ hq
 obtain⟨J,nm,qn,N,bs,vi,sn,sub,ab,IF,dd,k0,k1,k2,k3,k5,e,hj⟩:=M.obj;have X0:=I.rF;have hul:us.length<=av:=by rw[<- r.length];exact aL hl (!2)
 have Qm:=hb _ (af.ref (s.heap.objs.size+1)::us) I2.rF hps;rw[bt] at Qm;refine CV (X0 _ _ e) (hj.tail X0) (W.looks_findIn X0 M.init) (W.looks_typeIn X0 (beq_iff_eq.mp M.fn)) hul ?_;refine wpAny_call (codeAny_mono (F.run _ X.stack _ _ ⟨af.ref (s.heap.objs.size+1)::us,[]⟩ (af.ref (s.heap.objs.size+1)::us) _ (λv H2=>v=.iZ/\R H2) E0 (hr.make C us []) (I2.Pm.make C us []) Qm r2 hq) λrr s' II=>?_)
 cases rr with
 | error e=>exact False.elim II
 | ok fl =>
  cases fl with
  | ret u =>
   obtain⟨v,H',I3,rv,ev,q3⟩:=I2.after II;subst ev;exact⟨rv,rfl,_,I3,q3⟩
  | next=>exact False.elim II
  | brk=>exact False.elim II
  | cont=>exact False.elim II
noncomputable def IJ (C:Addr)(sp:Sp)(E:XK)(t:TA):TS:=λ_ σ H=>t σ H λvs H1=>vs.length<=100/\∀x,H1 x=none->sp (.ref x::vs) (eM H1 x (.ext (mM x C none))) (λv H2=>v=.iZ/\∃od,H2 x=some (.ext (mM x C od))/\E (.ref C) od (eM H2 x (.ext (oY x (.ref C) od)))) E0
theorem IK (E:XK)(M:RH X.K C fI)(F:jX X.prog X.w X.K X.mg X.base wJ k fI fd ps sp)(hr:gi (k+1) X.A)(hm:X.mg x=some (.ref C))(hb:Binds X.K fd ps [])(RI:vh X E)(hc:X.calm=true)(ha:QA X (e::es) t)(hg:Gl X x:=by rfl)(nB:(x == ("__debug__" : Str))=false:=by decide) :
  QS X (.Raise (some (.Call (.Name x p) (e::es) [] gL)) none pos) (IJ C sp E t):=by
 refine⟨λpins s σ H D I h=>?_⟩;rw[arm_exec_Raise];show aA _ _ (standAt pos >>= λ_=>raiseStmt X.env (some (eval (.Call (.Name x p) (e::es) [] gL) X.env >>= λv=>standAt pos >>= λ_=>pure v)) none) _ _ _;refine ae (wpAny_standAt ?_);unfold raiseStmt
 have ev:aA (model X.prog X.w) X.A (eval (.Call (.Name x p) (e::es) [] gL) X.env) (λu s2=>∃(a:Addr) (H2:Hp) (od:Option Addr),u=.ref a/\X.s₀.heap.objs.size<=a/\(∀p∈X.pn++pins,p.1≠a)/\Inv X pins σ H2 s2/\H2 a=some (.ext (mM a C od))/\E (.ref C) od (eM H2 a (.ext (oY a (.ref C) od)))) X.xe s:=by
  refine wpAny_Call_Name_kw (tV I hg hm ?_ nB);refine W.callWith_K (h₀:=X.base) I.ok.mod.R3 M.kp (f6 (ha.run gL pins s σ H _ I h) λus s1 ⟨vs,H1,I1,r,hl,q⟩=>⟨I1.rF,?_⟩) (fN (lp ha.ns).1) (jq (lp ha.ns).2);refine f6 (FK M F hr hb I1 r hl (q (s1.heap.objs.size+1) (I1.hok.fresh (bX _)))) λu s2 ⟨eu,H2,I2,od,e2,q2⟩=>⟨_,H2,od,eu,aL I1.sz (bX _),λp hp z=>?_,I2,e2,q2⟩;exact absurd (z ▸ aD (I1.pin p hp).1) (dg.mpr (bX _))
 refine ae (ae (f6 ev λu s1 ⟨a,H1,od,eu,sa,pa,I1,ex,q⟩=>ae (wpAny_standAt (ak ?_))));subst eu;obtain⟨oe,t,hx,K2,sV,Xf⟩:=vj I1.hok ex;have L:=W.looks_mroIn (M:=model X.prog X.w) I1.rF M.cls.isx;obtain⟨oC,hoC,hoT⟩:=M.ec.ty;have hC:=I1.rF _ _ hoC;obtain⟨oc,Xg,odt,DW⟩:=oe;dsimp only at K2 sV Xf;subst K2 sV Xf
 have ib:X.xe (.ref a) s1:=by
  have I2:Inv X pins σ (eM H1 a (.ext (oY a (.ref C) Xg))) s1 :=
   I1.write (x:=a) (e:=a) (h':=s1.heap) (t':=s1.toks) (o:=.ext (oY a (.ref C) Xg)) (by rw[ex];trivial) (.inl rfl) (λb u _ hu=>hu) ⟨_,hx⟩ (Ed ⟨_,_,hx,rfl,rfl,rfl⟩)
  exact RI pins σ _ s1 ⟨a,.ref C,Xg,none,_,rfl,I2,dG,sa,pa,(λT e=>nomatch e),⟨⟨_,_,hx,rfl,rfl,rfl,rfl⟩,λT e=>nomatch e⟩,q⟩
 have hh:=I1.ok.hd hc;obtain⟨hp,g,d,tk,os⟩:=s1;repeat (first | (with_reducible refine wpAny_loadPart_at hx ?_) | ((with_reducible refine wpAny_loadPart_at hC ?_);rw[hoT]) | (with_reducible refine L.at ?_) | wp_step)
 exact wpAny_raiseNew_none hh ib
end
structure Ua (K:W.Frag) (C:Addr):Prop where
 cx:FI K C
 ha:W.findIn K (.ref C) "__class__" = some (some (.builtin "object.__class__"))
 hn:W.specialIn K (.builtin "object.__class__") "__get__" = some (some (.builtin "getset_descriptor.__get__"))
 tk:W.takesIn K (.builtin "object.__class__")=some true
structure Zw (X:Cx) (e:Expr) (t:XK->TE):Prop where
 run:∀(E:XK) (pins:List (Addr × Obj)) (s:aw) (σ:St) (H:Hp) (Q:VK),Inv X pins σ H s->t E σ H Q->aA (model X.prog X.w) X.A (eval e X.env) (EP X pins σ Q) (XP X pins σ E) s
section
theorem Mv (F:jX X.prog X.w X.K X.mg X.base (Mq X.prog X.w) k f fd ps sp)(hr:gi k X.A)(hb:Binds X.K fd ps [])(I:Inv X pins σ H s)(r:eA vs us)(h:sp vs H Q E) :
  aA (model X.prog X.w) X.A (call (.ref f) us) (EP X pins σ Q) (XP X pins σ E) s:=by
 have hl:(us++[]).length=ps.length:=by rw[bt,<- r.length];exact F.len _ _ _ _ h
 have Qm:=hb s us I.rF hl;rw[bt] at Qm;refine wpAny_call (codeAny_mono (F.run X.A X.stack s H ⟨us,[]⟩ us vs Q E hr I.Pm Qm r h) λrr s' hq=>?_)
 cases rr with
 | error e=>exact T4 I hq
 | ok fl =>
  cases fl with
  | ret u=>exact I.after hq
  | next=>exact False.elim hq
  | brk=>exact False.elim hq
  | cont=>exact False.elim hq
theorem Mw (D:IE X.prog X.w X.K X.mg X.base k x ps sp)(hr:gi k X.A)(ha:∀Ex,QA (X.rG Ex) (e::es) t)(hg:Gl X x:=by rfl)(nB:(x == ("__debug__" : Str))=false:=by decide) :
  Zw X (.Call (.Name x p) (e::es) [] pos) (λE=>Qj sp E t):=by
 obtain⟨f,fd,F,hm,hk,hb⟩:=D.ex;refine⟨λE pins s σ H Q I h=>wpAny_Call_Name_kw (tV I hg hm ?_ nB)⟩;have hA:=ha (XP X pins σ E);refine W.callWith_K (h₀:=X.base) I.ok.mod.R3 hk (f6 (hA.run pos pins s σ H _ (I.rG _) h) λus s1 ⟨vs,H1,I1,r,q⟩=>⟨I1.lE.rF,?_⟩) (fN (lp hA.ns).1) (jq (lp hA.ns).2);exact Mv F hr hb I1.lE r q
theorem Ef {x:Addr}{cls:af}{od:Option Addr}(I:Inv X pins σ H s)(f:oY x cls od s.heap):x≠X.env.locals/\∀y c,X.env.cells.lookup y=some c->c≠x:=by
 obtain⟨oe,vs,hx,_,_,hd⟩:=f;refine⟨λz=>?_,λy c hc z=>?_⟩
 .obtain⟨m,⟨o,es,ep,ho,yV,_⟩,_⟩:=I.loc
  rw[<- z,hx] at ho;cases ho;rw[hd] at yV;cases yV
 .obtain⟨v,o,ho,yV⟩:=I.cell y c hc
  rw[z,hx] at ho;cases ho;rw[hd] at yV;cases yV
theorem Inv.AD (I:Inv X pins σ H s)(nt:AB (pb X.stack) x tb s.heap h')(ex:H x=some (.ext (oY x cls od)))(fl:oY x cls od h')(sx:X.s₀.heap.objs.size<=x)(px:∀p∈X.pn++pins,p.1≠x)
  (hT:∀T,tb=some T->H T=none/\X.s₀.heap.objs.size<=T/\∀p∈X.pn++pins,p.1≠T) (tT:∀T,tb=some T->∃oT ts,s.heap.get? T=some oT/\oT.data=.fields ts):Inv X pins σ H { s with heap:=h' }:=by
 have fx:=Ef I (vj I.hok ex);refine I.call (g':=s.gens) (t':=s.toks) (d':=s.drawn) (ch:=x::tb.toList) ⟨λb o hb n hf hc=>?_,λb o hb n hf hc=>nt.slot b o hb hf,λb o hb n _=>n,λb o hb _=>nt.there b o hb,λ_ _ e=>e,λ_ _ _ e=>e,λb ps e=>⟨#[],by rw[e];simp⟩⟩ (I.hok.AD nt ex fl (λT e=>(hT T e).1) I.tS) I.bare λb hb=>?_
 .refine nt.keep b o hb (λz=>hc (by rw[z];exact aq ..)) (λz=>hc (ao _ (by rw[z];simp))) hf
 .rcases al.mp hb with rfl | hb
  .exact⟨.inr sx,fx.1,fx.2,px⟩
  .have e:tb=some b:=by
    cases tb with
    | none=>cases hb
    | some T=>simp at hb;rw[hb]
   obtain⟨oT,ts,h1,h2⟩:=tT b e;have fT:=Ef (x:=b) (cls:=oT.cls) (od:=oT.dict) I ⟨oT,ts,h1,rfl,rfl,h2⟩;exact⟨.inr (hT b e).2.1,fT.1,fT.2,(hT b e).2.2⟩
end
noncomputable def zp (X:Cx)(x:Addr):Cx:={ X with A:=X.A.mark (some (.ref x)),calm:=false,xe:=λ_ _=>False }
theorem Inv.zp (I:Inv X pins σ H s)(x:Addr):Inv (zp X x) pins σ H s :=
 ⟨⟨I.ok.mod,I.ok.kind,I.ok.glob,I.ok.blt,I.ok.above,I.ok.inj,I.ok.has,I.ok.Rw,λz=>(by cases z),I.ok.frames,I.ok.R4,I.ok.Wc,I.ok.bs,I.ok.Lf,I.ok.E2,I.ok.Hm,I.ok.rE,I.ok.Nq⟩,I.os,I.bare,I.base,I.loc,I.cell,I.free,I.freeC,I.pin,I.hok,I.len⟩
theorem Inv.zq (ok:X.Ok)(I:Inv (L2.zp X x) pins σ H s):Inv X pins σ H s :=
 ⟨ok,I.os,I.bare,I.base,I.loc,I.cell,I.free,I.freeC,I.pin,I.hok,I.len⟩
theorem flight_again (hl:s.heap.FunFrames base l)(ea:ExcAt s.heap x cls od (some T))
  (h:∀h',AB (pb l) x (some T) s.heap h'->ExcAt h' x cls od (some T)->Q () { s with heap:=h' }):aA M A (setFlight (.ref x) none) Q Ex s:=by
 obtain⟨⟨oe,vs,he,hc,sV,hd,h1⟩,ht⟩:=ea;obtain⟨Od,oT,ts,hT,K7,h3⟩:=ht T rfl;have VP:3<ts.size:=(cZ.mp h3).1;unfold setFlight;refine ae (wpAny_field he hd h1 ?_);rw[if_pos (show ((some T:Option Addr).elim af.none af.ref != af.none)=true by simp)];refine wpAny_setField hT K7 VP ?_;have ot:∀b,b≠T->(s.heap.update T (Obj.mapFields (·.setIfInBounds 3 ((none:Option Addr).elim af.none λf=>rawInt f)))).get? b=s.heap.get? b:=λb hb=>aQ _ _ (Ne.symm hb);have T1:=bi (Obj.mapFields (·.setIfInBounds 3 ((none:Option Addr).elim af.none λf=>rawInt f))) hT (Obj.isFreed_of_fields (Obj.data_mapFields K7 _));have W9:T ∉ pb l:=rP hl hT K7;refine h _ ⟨λb o hb _ K6 _=>?_,λb o hb K5=>?_,λb o hb=>?_⟩ ⟨⟨oe,vs,(ot x Od.symm).trans he,hc,sV,hd,h1⟩,λT' e=>?_⟩
 .exact (ot b λz=>K6 (by rw[z])).trans hb
 .exact⟨o.slots,(ot b λz=>W9 (z ▸ K5)).trans hb⟩
 .by_cases z:b=T
  .subst z
   exact⟨_,T1⟩
  .exact⟨o,(ot b z).trans hb⟩
 .cases e
  exact⟨Od,_,_,T1,Obj.data_mapFields K7 _,by simp[VP]⟩
section
variable {X:Cx}{pins:List (Addr × Obj)}{σ:St}{H:Hp}{s:aw}{D:Ends}{th:TS}{cn n:Str}{C0:Addr}{np AH:Pos}{b0:Stmt}{sX:List Stmt}{j:Nat}{e:af}
noncomputable def qC (K:W.Frag)(C0:Addr)(th:TS)(D:Ends)(σ:St):XK:=λcls od H'=>W.exmOne K cls (.ref C0)=some true/\th D σ H'
theorem FN (ea:ExcAt h x cls od tb):W.Looks M h (typeOf (.ref x)) cls:=by
 obtain⟨oe,vs,hx,hc,_⟩:=ea.obj;exact hc ▸ (W.Looks.ld hx).andThen .now
theorem FO (tW:X.stack=X.env::X.outer)(FG:X.env.frame=some X.env.locals)(hm:X.mg cn=some (.ref C0))(hg:Gl X cn)(nB:(cn == ("__debug__" : Str))=false)(hs:∀x,xH (zp X x) (b0::sX) th)(h:XP X pins σ (qC X.K C0 th D σ) e s) :
  aA (model X.prog X.w) X.A (noteFrame e X.env) (λ_ s₂=>aA (model X.prog X.w) X.A (setFlight e none) (λ_ s₃=>aA (model X.prog X.w) X.A (handleBy e X.env [.ExceptHandler (some (.Name cn np)) none (b0::sX) AH]) (SP X pins D) X.xe s₃) X.xe s₂) X.xe s:=by
 obtain⟨x,cls,od,tb,H',rfl,I,ex,sx,px,hT,ea,he,q⟩:=h;have frames:=I.ok.frames;have stack:=I.stack;rw[tW] at frames stack;refine sS frames stack FG ea λh2 T2 hsz nt VQ=>?_;have I2:Inv X pins σ H' { s with heap:=h2 }:=I.AD (by rw[tW];exact nt) ex VQ.W' sx px hT λT eT=>let ⟨_,oT,ts,a,b,_⟩:=ea.hd T eT;⟨oT,ts,a,b⟩
 have W7:∀T,some T2=some T->H' T=none/\X.s₀.heap.objs.size<=T/\∀p∈X.pn++pins,p.1≠T:=λT eT=>by
  cases eT;exact⟨I.hok.fresh hsz,aL I.sz hsz,λp hp z=>absurd (z ▸ aD (I.pin p hp).1) (dg.mpr hsz)⟩
 refine wpAny_handleBy_cons (codeAny_handlers_test ?_) (by intro z;cases z);refine tV (X:=zp X x) (I2.zp x) hg hm ?_ nB;refine (W.exm_one (h:=h2) I2.rF (FN VQ) he).here ?_;show codeAny _ _ (.handlers (.ref x) [.ExceptHandler none none (b0::sX) AH] X.env) _ _;refine codeAny_handlers_suite ?_;have Qn:=I2.stack;refine flight_again (T:=T2) Qn VQ λh3 nt3 ea3=>?_;have I3:Inv X pins σ H' { s with heap:=h3 }:=I2.AD nt3 ex ea3.W' sx px W7 λT eT=>let ⟨_,oT,ts,a,b,_⟩:=VQ.hd T eT;⟨oT,ts,a,b⟩;refine bF ((hs x).run pins _ σ H' D (I3.zp x) q) (λf s5 zX=>?_) λ_ _ z=>z.elim
 cases f with
 | next=>obtain⟨σ5,H5,I5,q5⟩:=zX;exact⟨σ5,H5,Inv.zq I.ok I5,q5⟩
 | brk=>obtain⟨σ5,H5,I5,q5⟩:=zX;exact⟨σ5,H5,Inv.zq I.ok I5,q5⟩
 | cont=>obtain⟨σ5,H5,I5,q5⟩:=zX;exact⟨σ5,H5,Inv.zq I.ok I5,q5⟩
 | ret u=>obtain⟨v,σ5,H5,I5,r5,q5⟩:=zX;exact⟨v,σ5,H5,Inv.zq I.ok I5,r5,q5⟩
noncomputable def IL (K:W.Frag)(C0:Addr)(i:Nat)(te:XK->TE)(th:TS):TS:=λD σ H=>te (qC K C0 th D σ) σ H λv H1=>D.nx (σ.set i (some v)) H1
theorem CW (K:W.Frag)(hm:X.mg cn=some (.ref C0))(hN:X.N.Nodup)(hi:X.N[i]? = some x)(hx:Loc X.env.scope x)(he:Zw X ex te)(hs:∀x,xH (zp X x) (b0::sX) th)
  (tW:X.stack=X.env::X.outer:=by rfl) (FG:X.env.frame=some X.env.locals:=by rfl) (hg:Gl X cn:=by rfl) (nB:(cn == ("__debug__" : Str))=false:=by decide) (LZ:swapsWith ex (some (.Name x px)) jK.line X.env=pure false:=by rfl) (hf:X.fn x=true\/X.env.scope.names.lookup x=some .local:=by (first | exact .inl rfl | exact .inr rfl | assumption)) (hk:X.K=K:=by rfl) :
  QS X (.Try [.Assign [.Name x px] ex jK] [.ExceptHandler (some (.Name cn np)) none (b0::sX) AH] [] [] pos) (IL K C0 i te th):=by
 subst hk;refine⟨λpins s σ H D I h=>wpAny_Try_except (wpAny_execs_cons (bF (wpAny_Assign_Name (E:=XP X pins σ (qC X.K C0 th D σ)) (f6 (he.run _ pins s σ H _ I h) λv s1 ⟨y,H1,I1,r1,q1⟩=>uK I1 hN hi hx r1 (λs2 I2=>?_) hf) LZ) (λf s1 q=>q) λe s1 q=>FO tW FG hm hg nB hs q))⟩;exact wpAny_execs_nil (wpAny_execs_nil ⟨_,H1,I2,q1⟩)
end
structure oF (P:aZ) (w:World) (K:W.Frag) (mg:Str->Option af) (base:Heap) (x:Str) (C:Addr) (sp:Sp):Prop where
 ex:∃(fI:Addr) (fd:bq) (ps:List Str),RH K C fI/\jX P w K mg base wJ 1 fI fd ps sp/\mg x=some (.ref C)/\Binds K fd ps []
theorem FP (E:XK)(R:oF X.prog X.w X.K X.mg X.base x C sp)(hr:gi 2 X.A)(RI:vh X E)(hc:X.calm=true)(ha:QA X (e::es) t)(hg:Gl X x:=by rfl)(nB:(x == ("__debug__" : Str))=false:=by decide) :
  QS X (.Raise (some (.Call (.Name x p) (e::es) [] gL)) none pos) (IJ C sp E t):=by
 obtain⟨fI,fd,ps,M,F,hm,hb⟩:=R.ex;exact IK E M F hr hm hb RI hc ha hg nB
noncomputable def Mx (C:Addr)(f:Str)(a:V)(H:Hp)(E:XK):Prop:=∀d H',H' d=some (.ext (nz d [(f,a)]))->Ext [] H H'->E (.ref C) (some d) H'
theorem Qo (r:Mx C f a H0 E)(x0:Ext [] H0 H)(hx:H x=none):IH C f [.ref x,a] (eM H x (.ext (mM x C none))) (λv H2=>v=.iZ/\∃od,H2 x=some (.ext (mM x C od))/\E (.ref C) od (eM H2 x (.ext (oY x (.ref C) od)))) E0:=by
 refine⟨x,a,rfl,dG,λd hd T8=>⟨rfl,some d,?_,r d _ ?_ ?_⟩⟩
 .rw[dJ T8.symm,dG]
 .rw[dJ T8,dG]
 .have Zx:H d=none:=by rw[dJ T8] at hd;exact hd
  refine x0.trans ⟨λb o _ hb=>?_,λb xs hb=>?_⟩
  .rw[dJ (eE hb hx),dJ (eE hb Zx),dJ (eE hb hx),dJ (eE hb hx)]
   exact hb
  .rw[dJ (eE hb hx),dJ (eE hb Zx),dJ (eE hb hx),dJ (eE hb hx)]
   exact hb
noncomputable def yd (s:Stmt)(i:Nat):Stmt:=match s with
 | .ClassDef _ _ _ b _ _ _ _ _ _ _=>b.getD i (.Pass ⟨0,0,0,0⟩)
 | _=>.Pass ⟨0,0,0,0⟩
structure FQ (K:W.Frag) (mg:Str->Option af) (x:Str) (D:Addr):Prop where
 nm:mg x=some (.ref D)
 ty:W.typeIn K (.ref D)=some (.type "type")
 cl:(W.clsIn K D).isSome=true
structure xb (K:W.Frag) (C J:Addr):Prop where
 ci:Ua K C
 own:W.mroIn K C (.ref C)=some true
 val:W.mroIn K C (.type "ValueError")=some true
 up:W.mroIn K C (.ref J)=some true
 jx:W.mroIn K J (.type "BaseException")=some true
section
variable {K:W.Frag}{mg:Str->Option af}{x:Str}{C D J:Addr}{b:Bool}
theorem FQ.Xh (o:FQ K mg x D):W.kitCls K (.ref C) (.ref D)=W.mroIn K C (.ref D):=by
 show (if ((W.clsIn K D).isSome && W.typeIn K (.ref D) == some (.type "type"))=true then W.subIn K (.ref C) (.ref D) else none)=_;rw[o.cl,o.ty];rw[if_pos (!4)];rfl
theorem xb.Xi (e:xb K C J)(o:FQ K mg x J):W.exmOne K (.ref C) (.ref J)=some true:=by
 unfold W.exmOne;have h:W.subIn K (.ref J) (.type "BaseException")=some true:=e.jx;rw[h,if_pos (!4),o.Xh];exact e.up
theorem xb.one (e:xb K C J)(o:FQ K mg x D)(h:W.mroIn K C (.ref D)=some b):W.kitOne K (.ref C) (.ref D)=some b:=by
 unfold W.kitOne;by_cases q:C=D
 .subst q
  have:=e.own;rw[h] at this;rw[if_pos (!4),<- this]
 .rw[if_neg (by simpa using q),o.Xh]
  exact h
theorem xb.isVal (e:xb K C J):W.kitOne K (.ref C) (.type "ValueError")=some true:=by
 unfold W.kitOne;rw[if_neg (!4)];show (if W.kitMeta "ValueError" = true then W.subIn K (.ref C) (.type "ValueError") else none)=_;rw[if_pos (!3)];exact e.val
end
noncomputable def AI (es:Array DictEntry):Bool:=es.toList.all λe=>match e.key with | .str _ _=>true | _=>false
theorem CY (h:AI es=true):StrKeys es:=λe he=>by
 have:=ca.mp h e (by simpa using he);revert this;cases e.key<;>simp
theorem IM {K:W.Frag}{h:Heap}{mg:Str->Option af}{x:Str}{D:Addr}{cd:ClassData}(X:K.In h)(G:h.Ns aY mg)(a:W.nsIn K aY x=some (some (.ref D)))(t:W.typeIn K (.ref D)=some (.type "type"))(c:W.clsIn K D=some cd):FQ K mg x D :=
 ⟨W.mg_of X G a,t,by rw[c];rfl⟩
structure RF (K:W.Frag) (C J fI:Addr):Prop where
 obj:∃nm qn N bs vi sn sub ab IF dd k0 k1 k2 k3 k5,K.lookup C=some (excClassObj nm qn C N bs (.ref J::sW) vi sn sub ab IF dd k0 k1 k2 k3 k5 "ValueError.__new__")
 init:W.findIn K (.ref C) "__init__" = some (some (.ref fI))
 fn:W.isFn K (.ref fI)=true
 kp:W.keepIn K (.ref C)=true
 ei:xb K C J
theorem RF.mk' {K:W.Frag}{C J fI:Addr}(r:RF K C J fI)(j:Ql K J):RH K C fI :=
 let ⟨nm,qn,N,bs,vi,sn,sub,ab,IF,dd,k0,k1,k2,k3,k5,e⟩:=r.obj
 ⟨⟨J,nm,qn,N,bs,vi,sn,sub,ab,IF,dd,k0,k1,k2,k3,k5,e,j⟩,r.init,r.fn,r.kp,r.ei.ci.cx⟩
section
variable {P:aZ}{w:World}{K:W.Frag}{mg:Str->Option af}{base:Heap}{C J fI:Addr}{fd:bq}{x q f g:Str}{st:Stmt}{sp:Sp}{ps:List Str}
theorem IP (r:RF K C J fI)(j:Ql K J)(m:mg x=some (.ref C))(F:jX P w K mg base wJ 1 fI fd ps sp)(b:Binds K fd ps []):oF P w K mg base x C sp:=⟨fI,fd,ps,r.mk' j,F,m,b⟩
end
structure VR (X:Cx) (pos:Pos) (keys:List (Option Expr)) (values:List Expr) (Fq:List (TE × TE)):Prop where
 run:Tx X pos keys values Fq
section
variable {X:Cx}{pos:Pos}
theorem My:VR X pos [] [] []:=⟨Mi⟩
theorem Eg (hk:QE X k tk)(hv:QE X v tv)(hr:VR X pos ks vs Fq):VR X pos (some k::ks) (v::vs) ((tk,tv)::Fq):=⟨Iq hk.run hv.run hr.run⟩
theorem Mz (h:VR X pos keys values Fq)(Co:keys.all (·.isSome)=true)(hl:keys.length=values.length)(h0:keys.isEmpty=false)
  (WX:keys.length<=15):QE X (.Dict keys values pos) (N5 Fq):=⟨Mj h.run Co hl (λz=>by rw[z] at h0;cases h0) WX⟩
end
end L2
namespace PySem
theorem xg (l:Addr)(items:Array af)(n:Nat)(dd:Option Addr)(sl:Array (Option af))(t:Tok) :
  Meets (Builtin.«tuple.__mul__» ⟨[.ref l,.int 1 t],[]⟩) (λ_ R s=>s.heap.get? l=some { cls:=.type "tuple",dict:=dd,data:=.seq items n,slots:=sl }/\R (.ok (.ret (af.ref l))) s) :=
 .of_wp λprog w A R s h=>by
  obtain⟨hp,g,d,tk,os⟩:=s;obtain⟨hl,h⟩:=h;have f1:=AutoSeq1.idx_int
  wp_walk
  exact⟨_,rfl,h⟩
end PySem
namespace L2
open PySem PySem.Spec PyProof.Rows
variable {X:Cx}
noncomputable def Qq (K:W.Frag):R2:=λx y H Q=>(∃a xs,x=.ref a/\y=.int 1/\jl K H a xs/\Q (.ref a) H)\/NT K x y H Q
theorem IQ (K:W.Frag)(h:X.K=K:=by rfl):kr X (binaryOp .Mult) (Qq K):=by
 subst h;intro pins s σ H x y v u Q I rx ry h;rcases h with h | h
 .obtain⟨a,xs,rfl,rfl,hx,q⟩:=h
  cases rx;obtain⟨t,rfl⟩:=ry;obtain⟨its,r,ht,hl⟩:=I.tuple hx;obtain⟨⟨cls,dd,data,sl⟩,ho,hc,n,hd⟩:=id ht;simp only at hc hd;subst hc hd
  exact wpAny_binaryOp_repeat_ref (T := "tuple") (U := "int") (!2) ⟨_,ho,rfl⟩ (λs'=>typeIs_int s' 1 t) lZ F.fills_int_mul F.slot_int_rmul qu F.slot_int_index.lookup
   (call_meets F.slot_int_rmul (typeIs_int s 1 t) F.entry_int_rmul (F.args_int_rmul_2 _ _) (nM 1 t a its.toArray n dd sl)
    ⟨ho,rfl,⟨_,ho,rfl⟩,call_meets F.slot_tuple_mul ⟨_,ho,rfl⟩ F.entry_tuple_mul (F.args_tuple_mul_2 _ _) (xg a its.toArray n dd sl t) ⟨ho,⟨.ref a,H,I,rfl,q⟩⟩⟩)
 .exact Me X.K rfl pins s σ H x y v u Q I rx ry h
inductive nG where
 | s (d:ad)
 | o (ds:List ad)
 | x (c:Str) (as:List ad)
 | d (a:Addr) (t:Bool) (kvs:List (List Int × ad))
structure Xc where
 cl:Str->Addr
 fl:Str->List Str
noncomputable abbrev eU:=List (Option nG)
structure Fr where
 G:Hp->Int->Prop
 gs:List Addr
 S0:List Addr
 H0:Hp
 fa:V
 fd:List Nat
 xc:Xc
 iW:∀{S:List Addr} {H H':Hp} {n:Int},G H n->Ext S H H'->(∀a∈S,H0 a=none)->G H' n
 AJ:∀{H:Hp} {n:Int},G H n->∀a∈gs,H a≠none
 Zy:∀{H:Hp} {n:Int},G H n->∀a∈gs,∀φ,H a≠some (.ext φ)
 VS:∀a∈gs,a∈S0
 AK:∀a∈S0,H0 a≠none
noncomputable def vk (M:Fr)(S:List Addr)(H:Hp):nG->V->Prop
 | .s d,v=>eF S H d v
 | .o ds,v=>∃a xs,v=.ref a/\H a=some (.lst xs)/\dH S H ds xs/\a∈S/\M.H0 a=none
 | .x c as,v=>∃a dx vs,v=.ref a/\H a=some (.ext (oY a (.ref (M.xc.cl c)) (some dx)))/\H dx=some (.ext (nz dx ((M.xc.fl c).zip vs)))/\dH S H as vs/\a ∉ M.gs/\dx ∉ M.gs
 | .d a t kvs,v=>v=.ref a/\∃xs,H a=some (zY t kvs xs)/\dH S H (kvs.map (·.2)) xs/\(t=false->∀p∈kvs,p.1.length=1)/\a∈S/\M.H0 a=none
structure dQ (M:Fr) (env:eU) (pn:List (ad × V)) (σ:St) (S:List Addr) (H:Hp) (n:Int):Prop where
 val:∀(i:Nat) (e:nG),env[i]? = some (some e)->∃v,σ[i]? = some (some v)/\vk M S H e v
 ne:∀(i j:Nat) (ds es:List ad) (a:Addr),env[i]? = some (some (.o ds))->env[j]? = some (some (.o es))->σ[i]? = some (some (.ref a))->σ[j]? = some (some (.ref a))->i=j
 len:env.length=σ.length
 IS:∀i∈M.fd,σ[i]? = some (some M.fa)
 gd:M.G H n
 ext:Ext M.gs M.H0 H
 s0:∀a∈M.S0,a∈S
 sn:∀a∈S,a∈M.S0\/M.H0 a=none
 has:∀a∈S,H a≠none
 pin:∀p∈pn,eF S H p.1 p.2
section
theorem Fr.out (M:Fr)(h:M.H0 a=none):a ∉ M.gs:=λz=>M.AK a (M.VS a z) h
theorem dQ.wL (ok:dQ M env pn σ S H n):∀a∈M.gs,a∈S:=λa h=>ok.s0 a (M.VS a h)
theorem Ext.some (x:Ext S H H')(ha:a ∉ S)(h:H a≠none):H' a≠none:=by
 cases e:H a with
 | none=>exact absurd e h
 | some o=>rw[x.keep a o ha e];simp
theorem vk.step (hg:∀a∈M.gs,a∈S)(h:vk M S H e v)(x:Ext M.gs H H'):vk M S H' e v:=by
 cases e with
 | s d=>exact eF.ext (x.mono hg) h
 | o ds =>
  obtain⟨a,xs,e,ha,r,hs,h0⟩:=h;exact⟨a,xs,e,x.keep _ _ (M.out h0) ha,r.ext (x.mono hg),hs,h0⟩
 | x c as =>
  obtain⟨a,dx,vs,e,ha,hd,r,g1,g2⟩:=h;exact⟨a,dx,vs,e,x.keep _ _ g1 ha,x.keep _ _ g2 hd,r.ext (x.mono hg),g1,g2⟩
 | d a t kvs =>
  obtain⟨e,xs,ha,r,hk,hs,h0⟩:=h;exact⟨e,xs,x.keep _ _ (M.out h0) ha,r.ext (x.mono hg),hk,hs,h0⟩
theorem dQ.step (ok:dQ M env pn σ S H n)(x:Ext M.gs H H')(g:M.G H' n'):dQ M env pn σ S H' n':=by
 refine⟨λi e he=>?_,ok.ne,ok.len,ok.IS,g,ok.ext.trans x,ok.s0,ok.sn,λa ha=>?_,λp hp=>(ok.pin p hp).ext (x.mono ok.wL)⟩
 .obtain⟨v,hv,r⟩:=ok.val i e he
  exact⟨v,hv,r.step ok.wL x⟩
 .by_cases z:a∈M.gs
  .exact M.AJ g a z
  .exact x.some z (ok.has a ha)
theorem dQ.fresh (ok:dQ M env pn σ S H n)(h:H a=none):a ∉ S:=λz=>ok.has a z h
theorem dQ.grow (ok:dQ M env pn σ S H n)(x:Ext [] H H'):M.G H' n:=M.iW ok.gd x (!4)
end
theorem eF.fresh (ha:H a=none)(h:eF S H d v):eF (a::S) H d v:=eF.more ha h
theorem dH.fresh (ha:H a=none)(h:dH S H ds vs):dH (a::S) H ds vs:=dH.more ha h
noncomputable def l6 (H:Hp):Prop:=∀a xs,H a=some (.lst xs)\/H a=some (.tup xs)->xs.length<=av
theorem lX.l7 (ok:lX P w H h):l6 H:=λa xs e=>by
 rcases e with e | e
 .exact (ok a _ e).1
 .exact (ok a _ e).1
noncomputable def fA (gs S:List Addr)(H:Hp)(d:ad)(v:V):Prop:=eF S H d v\/(∃ds a xs,d=.list ds/\v=.ref a/\H a=some (.lst xs)/\dH S H ds xs/\a ∉ gs)\/∃t kvs a xs,d=i3 t kvs/\v=.ref a/\H a=some (zY t kvs xs)/\dH S H (kvs.map (·.2)) xs/\(t=false->∀p∈kvs,p.1.length=1)/\a ∉ gs
section
theorem fA.ext (h:fA gs S H d v)(hg:∀a∈gs,a∈S)(x:Ext gs H H'):fA gs S H' d v:=by
 rcases h with h | ⟨ds,a,xs,e1,e2,e3,r,ha⟩ | ⟨t,kvs,a,xs,e1,e2,e3,r,hk,ha⟩
 .exact .inl (h.ext (x.mono hg))
 .exact .inr (.inl ⟨ds,a,xs,e1,e2,x.keep _ _ ha e3,r.ext (x.mono hg),ha⟩)
 .exact .inr (.inr ⟨t,kvs,a,xs,e1,e2,x.keep _ _ ha e3,r.ext (x.mono hg),hk,ha⟩)
theorem fA.eY (h:fA gs S H (.list ds) v):∃a xs,v=.ref a/\H a=some (.lst xs)/\dH S H ds xs:=by
 rcases h with h | ⟨wM,a,xs,e1,e2,e3,r,_⟩ | ⟨t,kvs,a,xs,e1,_⟩
 .obtain⟨a,xs,e,ha,_,r⟩:=h.eY
  exact⟨a,xs,e,ha,r⟩
 .cases e1
  exact⟨a,xs,e2,e3,r⟩
 .cases e1
theorem fA.mJ (h:fA gs S H (.dict l) v):∃a t kvs xs,v=.ref a/\l=o5 t kvs/\H a=some (zY t kvs xs)/\(t=false->∀p∈kvs,p.1.length=1)/\dH S H (kvs.map (·.2)) xs:=by
 rcases h with h | ⟨wM,a,xs,e1,_⟩ | ⟨t,kvs,a,xs,e1,e2,e3,r,hk,_⟩
 .obtain⟨a,t,kvs,xs,e,el,ha,_,hk,r⟩:=h.mJ
  exact⟨a,t,kvs,xs,e,el,ha,hk,r⟩
 .cases e1
 .cases e1
  exact⟨a,t,kvs,xs,e2,rfl,e3,hk,r⟩
theorem fA.rep (h:fA gs S H d v)(hd:∀ds,d≠.list ds)(LC:∀l,d≠.dict l:=by intro _ z;cases z):eF S H d v:=by
 rcases h with h | ⟨ds,a,xs,e1,_⟩ | ⟨t,kvs,a,xs,e1,_⟩
 .exact h
 .exact absurd e1 (hd ds)
 .exact absurd e1 (LC _)
theorem fA.eX (h:fA gs S H (.tuple ds) v):∃a xs,v=.ref a/\H a=some (.tup xs)/\dH S H ds xs:=(h.rep (by intro _ z;cases z)).eX
theorem fA.eK (h:fA gs S H (.int i) v):v=.int i:=(h.rep (by intro _ z;cases z)).eK
theorem fA.iq (h:fA gs S H (.bool i) v):v=.bl i:=(h.rep (by intro _ z;cases z)).iq
theorem fA.ik (h:fA gs S H (.str i) v):v=.str i:=(h.rep (by intro _ z;cases z)).ik
theorem fA.lF (h:fA gs S H .none v):v=.iZ:=(h.rep (by intro _ z;cases z)).lF
end
noncomputable abbrev UX:=eU->Int->(ad->Int->Prop)->Prop
noncomputable abbrev UT:=eU->Int->(Bool->Int->Prop)->Prop
noncomputable abbrev UA:=eU->Int->(List ad->Int->Prop)->Prop
structure qD where
 nx:eU->Int->Prop
 rt:ad->Int->Prop
noncomputable abbrev US:=qD->eU->Int->Prop
noncomputable def Ub (M:Fr)(u:UX):TE:=λσ H R=>∃env pn S n Q,dQ M env pn σ S H n/\u env n Q/\∀v H' d n',eF S H' d v->Ext M.gs H H'->M.G H' n'->l6 H'->Q d n'->R v H'
noncomputable def AL (M:Fr)(u:UX):TE:=λσ H R=>∃env pn S n Q,dQ M env pn σ S H n/\u env n Q/\∀v H' d n',fA M.gs S H' d v->Ext M.gs H H'->M.G H' n'->l6 H'->Q d n'->R v H'
noncomputable def Uc (M:Fr)(u:eU->Int->(List ad->Int->Prop)->Prop):TE:=λσ H R=>∃env pn S n Q,dQ M env pn σ S H n/\u env n Q /\
 ∀a xs H' ds n',H a=none->H' a=some (.lst xs)->dH (a::S) H' ds xs->Ext M.gs H H'->M.G H' n'->l6 H'->Q ds n'->R (.ref a) H'
noncomputable def liftT (M:Fr)(u:UT):TT:=λσ H R=>∃env pn S n Q,dQ M env pn σ S H n/\u env n Q/\∀b H' n',Ext M.gs H H'->M.G H' n'->Q b n'->R b H'
noncomputable def Ud (M:Fr)(k:Nat)(u:UA):TA:=λσ H R=>∃env pn S n Q,dQ M env pn σ S H n/\u env n Q/\∀vs H' ds n',vs.length=k->dH S H' ds vs->Ext M.gs H H'->M.G H' n'->l6 H'->Q ds n'->R vs H'
noncomputable def nP (gs S:List Addr)(H:Hp):List ad->List V->Prop
 | [],vs=>vs=[]
 | d::ds,vs=>∃v r,vs=v::r/\fA gs S H d v/\nP gs S H ds r
noncomputable def IU (M:Fr)(u:UA):TA:=λσ H R=>∃env pn S n Q,dQ M env pn σ S H n/\u env n Q/\∀vs H' ds n',nP M.gs S H' ds vs->Ext M.gs H H'->M.G H' n'->l6 H'->Q ds n'->R vs H'
noncomputable def Eh (M:Fr)(u:US):TS:=λD σ H=>∃env pn S n E,dQ M env pn σ S H n/\u E env n/\(∀d5 σ' S' H' n',dQ M d5 pn σ' S' H' n'->E.nx d5 n'->D.nx σ' H') /\
 (∀v H' d n',eF M.S0 H' d v->Ext M.gs M.H0 H'->M.G H' n'->E.rt d n'->D.rt v H')
structure KE (X:Cx) (M:Fr) (e:Expr) (u:UX):Prop where run:QE X e (Ub M u)
structure KL (X:Cx) (M:Fr) (e:Expr) (u:UX):Prop where run:QE X e (AL M u)
structure KN (X:Cx) (M:Fr) (e:Expr) (u:eU->Int->(List ad->Int->Prop)->Prop):Prop where run:QE X e (Uc M u)
structure KB (X:Cx) (M:Fr) (e:Expr) (u:UT):Prop where run:QT X e (liftT M u)
structure KW (X:Cx) (M:Fr) (e:Expr) (u:UT):Prop where run:QW X e (liftT M u)
structure KA (X:Cx) (M:Fr) (es:List Expr) (u:UA):Prop where run:QA X es (Ud M es.length u)
structure Qr (X:Cx) (M:Fr) (es:List Expr) (u:UA):Prop where run:QA X es (IU M u)
structure KS (X:Cx) (M:Fr) (st:Stmt) (u:US):Prop where run:QS X st (Eh M u)
structure zZ (X:Cx) (M:Fr) (st:List Stmt) (u:US):Prop where run:xH X st (Eh M u)
section
variable {X:Cx}{M:Fr}{e:Expr}{es:List Expr}{t:TE}{tT:TT}{ta:TA}{u:UX}
theorem Hc {A B C D E:Type}{P:A->B->C->D->E->Prop}{r:Prop}(h:∃a b c d e,P a b c d e)(k:∀a b c d e,P a b c d e->r):r:=by
 obtain⟨a,b,c,d,e,p⟩:=h;exact k a b c d e p
theorem VT {A B C D E F:Type}{P:A->B->C->D->E->F->Prop}{r:Prop}(h:∃a b c d e f,P a b c d e f)(k:∀a b c d e f,P a b c d e f->r):r:=by
 obtain⟨a,b,c,d,e,f,p⟩:=h;exact k a b c d e f p
theorem QE.l7 (h:QE X e t):QE X e (λσ H R=>t σ H λv H1=>l6 H1->R v H1) :=
 ⟨λpins s σ H Q I q=>f6 (h.run pins s σ H _ I q) λv s1 ⟨x,H1,I1,r1,q1⟩=>⟨x,H1,I1,r1,q1 I1.hok.l7⟩⟩
theorem QA.l7 (h:QA X es ta):QA X es (λσ H R=>ta σ H λv H1=>l6 H1->R v H1) :=
 ⟨λpos pins s σ H Q I q=>f6 (h.run pos pins s σ H _ I q) λv s1 ⟨x,H1,I1,r1,q1⟩=>⟨x,H1,I1,r1,q1 I1.hok.l7⟩,h.ns⟩
theorem KE.of (h:QE X e t)(k:∀σ H R env pn S n Q,dQ M env pn σ S H n->u env n Q->(∀v H' d n',eF S H' d v->Ext M.gs H H'->M.G H' n'->Q d n'->R v H')->t σ H R):KE X M e u :=
 ⟨h.l7.weaken λσ H R h=>Hc h λenv pn S n Q h=>k σ H _ env pn S n Q h.1 h.2.1 λv H' d n' r x g qq sz=>h.2.2 v H' d n' r x g sz qq⟩
theorem KL.of (h:QE X e t)(k:∀σ H R env pn S n Q,dQ M env pn σ S H n->u env n Q->(∀v H' d n',fA M.gs S H' d v->Ext M.gs H H'->M.G H' n'->Q d n'->R v H')->t σ H R):KL X M e u :=
 ⟨h.l7.weaken λσ H R h=>Hc h λenv pn S n Q h=>k σ H _ env pn S n Q h.1 h.2.1 λv H' d n' r x g qq sz=>h.2.2 v H' d n' r x g sz qq⟩
theorem KN.of {u:eU->Int->(List ad->Int->Prop)->Prop}(h:QE X e t)(k:∀σ H R env pn S n Q,dQ M env pn σ S H n->u env n Q->(∀a xs H' ds n',H a=none->H' a=some (.lst xs)->dH (a::S) H' ds xs->Ext M.gs H H'->M.G H' n'->Q ds n'->R (.ref a) H')->t σ H R):KN X M e u :=
 ⟨h.l7.weaken λσ H R h=>Hc h λenv pn S n Q h=>k σ H _ env pn S n Q h.1 h.2.1 λa xs H' ds n' h0 h1 r x g qq sz=>h.2.2 a xs H' ds n' h0 h1 r x g sz qq⟩
theorem KA.of {u:UA}(h:QA X es ta)(k:∀σ H R env pn S n Q,dQ M env pn σ S H n->u env n Q->(∀v H' d n',v.length=es.length->dH S H' d v->Ext M.gs H H'->M.G H' n'->Q d n'->R v H')->ta σ H R):KA X M es u :=
 ⟨h.l7.weaken λσ H R h=>Hc h λenv pn S n Q h=>k σ H _ env pn S n Q h.1 h.2.1 λv H' d n' hl r x g qq sz=>h.2.2 v H' d n' hl r x g sz qq⟩
theorem Qr.of {u:UA}(h:QA X es ta)(k:∀σ H R env pn S n Q,dQ M env pn σ S H n->u env n Q->(∀v H' d n',nP M.gs S H' d v->Ext M.gs H H'->M.G H' n'->Q d n'->R v H')->ta σ H R):Qr X M es u :=
 ⟨h.l7.weaken λσ H R h=>Hc h λenv pn S n Q h=>k σ H _ env pn S n Q h.1 h.2.1 λv H' d n' r x g qq sz=>h.2.2 v H' d n' r x g sz qq⟩
theorem QT.weaken {t t':TT}(h:QT X e t)(w:∀σ H Q,t' σ H Q->t σ H Q):QT X e t':=⟨λpins s σ H Q I q=>h.run pins s σ H Q I (w σ H Q q)⟩
theorem QW.weaken {t t':TT}(h:QW X e t)(w:∀σ H Q,t' σ H Q->t σ H Q):QW X e t':=⟨λwh pins s σ H Q I q=>h.run wh pins s σ H Q I (w σ H Q q)⟩
theorem QS.weaken {st:Stmt}{t t':TS}(h:QS X st t)(w:∀D σ H,t' D σ H->t D σ H):QS X st t':=⟨λpins s σ H D I q=>h.run pins s σ H D I (w D σ H q)⟩
theorem xH.weaken {st:List Stmt}{t t':TS}(h:xH X st t)(w:∀D σ H,t' D σ H->t D σ H):xH X st t':=⟨λpins s σ H D I q=>h.run pins s σ H D I (w D σ H q)⟩
theorem KB.of {u:UT}(h:QT X e tT)(k:∀σ H R env pn S n Q,dQ M env pn σ S H n->u env n Q->(∀b H' n',Ext M.gs H H'->M.G H' n'->Q b n'->R b H')->tT σ H R):KB X M e u :=
 ⟨h.weaken λσ H R h=>Hc h λenv pn S n Q h=>k σ H _ env pn S n Q h.1 h.2.1 h.2.2⟩
theorem KW.of {u:UT}(h:QW X e tT)(k:∀σ H R env pn S n Q,dQ M env pn σ S H n->u env n Q->(∀b H' n',Ext M.gs H H'->M.G H' n'->Q b n'->R b H')->tT σ H R):KW X M e u :=
 ⟨h.weaken λσ H R h=>Hc h λenv pn S n Q h=>k σ H _ env pn S n Q h.1 h.2.1 h.2.2⟩
theorem KE.loose (h:KE X M e u):KL X M e u:=.of h.run λσ H R env pn S n Q ok hu k=>⟨env,pn,S,n,Q,ok,hu,λv H' d n' r x g _ q=>k v H' d n' (.inl r) x g q⟩
noncomputable def uL (u:eU->Int->(List ad->Int->Prop)->Prop):UX:=λenv n Q=>u env n λds n'=>Q (.list ds) n'
theorem KN.data {u:eU->Int->(List ad->Int->Prop)->Prop}(h:KN X M e u):KE X M e (uL u):=.of h.run λσ H R env pn S n Q ok hu k =>
 ⟨env,pn,S,n,_,ok,hu,λa xs H' ds n' h0 h1 r x g _ q=>k _ H' _ n' (.lst h1 (ok.fresh h0) (r.less λ_ h=>ao _ h)) x g q⟩
end
noncomputable def mD {α:Type}(o:Option α)(Q:α->Prop):Prop:=∃d,o=some d/\Q d
@[simp] theorem dj {α:Type} (d:α) (Q:α->Prop):mD (some d) Q=Q d:=by simp[mD]
@[simp] theorem IV {α:Type} (Q:α->Prop):mD (none:Option α) Q=False:=by simp[mD]
noncomputable def dA (i:Nat):UX:=λenv n Q=>match env[i]? with | some (some (.s d))=>Q d n | _=>False
noncomputable def di (i:Nat):UX:=λenv n Q=>match env[i]? with | some (some (.s d))=>Q d n | some (some (.o ds))=>Q (.list ds) n | some (some (.d _ t kvs))=>Q (i3 t kvs) n | _=>False
noncomputable def uC (d:ad):UX:=λ_ n Q=>Q d n
section
theorem fE (i:Nat)(hN:X.N[i]? = some x:=by rfl)(hv:DP X.env.scope x:=by (first | exact Or.inl rfl | exact Or.inr (Or.inl rfl) | exact Or.inr (Or.inr rfl)))(hd:(x == ("__debug__" : Str))=false:=by decide)
  (kG:(x == ("__classdict__" : Str))=false:=by decide):KE X M (.Name x pos) (dA i):=.of (qv i hN hv hd kG) λσ H R env pn S n Q ok hu k=>by
 unfold dA at hu
 cases e:env[i]? with
 | none=>rw[e] at hu;exact hu.elim
 | some o =>
  cases o with
  | none=>rw[e] at hu;exact hu.elim
  | some en =>
   cases en with
   | o ds=>rw[e] at hu;exact hu.elim
   | x c as=>rw[e] at hu;exact hu.elim
   | d a t kvs=>rw[e] at hu;exact hu.elim
   | s d =>
    rw[e] at hu;obtain⟨v,hv,r⟩:=ok.val i _ e;exact⟨v,hv,k v H d n r (.refl _ _) ok.gd hu⟩
theorem dN (i:Nat)(hN:X.N[i]? = some x:=by rfl)(hv:DP X.env.scope x:=by (first | exact Or.inl rfl | exact Or.inr (Or.inl rfl) | exact Or.inr (Or.inr rfl)))(hd:(x == ("__debug__" : Str))=false:=by decide)
  (kG:(x == ("__classdict__" : Str))=false:=by decide):KL X M (.Name x pos) (di i):=.of (qv i hN hv hd kG) λσ H R env pn S n Q ok hu k=>by
 unfold di at hu
 cases e:env[i]? with
 | none=>rw[e] at hu;exact hu.elim
 | some o =>
  cases o with
  | none=>rw[e] at hu;exact hu.elim
  | some en =>
   rw[e] at hu;obtain⟨v,hv,r⟩:=ok.val i _ e
   cases en with
   | o ds =>
    obtain⟨a,xs,rfl,ha,r,hs,h0⟩:=r;exact⟨_,hv,k _ H _ n (.inr (.inl ⟨ds,a,xs,rfl,rfl,ha,r,M.out h0⟩)) (.refl _ _) ok.gd hu⟩
   | s d=>exact⟨v,hv,k v H d n (.inl r) (.refl _ _) ok.gd hu⟩
   | x c as=>exact hu.elim
   | d a t kvs =>
    obtain⟨rfl,xs,ha,r,hk,hs,h0⟩:=r;exact⟨_,hv,k _ H _ n (.inr (.inr ⟨t,kvs,a,xs,rfl,rfl,ha,r,hk,M.out h0⟩)) (.refl _ _) ok.gd hu⟩
theorem VU (h:QE X e (tC v))(r:∀S H,eF S H d v):KE X M e (uC d):=.of h λσ H R env pn S n Q ok hu k=>k v H d n (r S H) (.refl _ _) ok.gd hu
theorem dk {i j pos}:KE X M (.Constant (.int i) j pos) (uC (.int i)):=VU gw λ_ _=>.int i
theorem jM {i j pos}:KE X M (.Constant (.bool i) j pos) (uC (.bool i)):=VU Ia λ_ _=>.bl i
theorem ye {j pos}:KE X M (.Constant .none j pos) (uC .none):=VU PX λ_ _=>.iZ
theorem ir {x j pos}:KE X M (.Constant (.str x) j pos) (uC (.str x)):=VU gz λ_ _=>.str x
end
noncomputable def dm:UA:=λ_ n Q=>Q [] n
noncomputable def dh (u:UX)(r:UA):UA:=λenv n Q=>u env n λd n1=>r env n1 λds n2=>Q (d::ds) n2
section
variable {X:Cx}{M:Fr}{e a b:Expr}{es:List Expr}{u ua ub:UX}{ur:UA}{pos:Pos}
theorem dn:KA X M [] dm:=.of fj λσ H R env pn S n Q ok hu k=>k [] H [] n rfl .nil (.refl _ _) ok.gd hu
theorem dq (h:KE X M e u)(hr:KA X M es ur)(hs:fq e=true:=by rfl):KA X M (e::es) (dh u ur):=.of (iI h.run hr.run hs) λσ H R env pn S n Q ok hu k =>
 ⟨env,pn,S,n,_,ok,hu,λv H1 d n1 r1 x1 g1 _ q1=>⟨env,pn,S,n1,_,ok.step x1 g1,q1,λvs H2 ds n2 hl r2 x2 g2 _ q2=>k _ H2 _ n2 (by simp[hl]) (.cons (r1.ext (x2.mono ok.wL)) r2) (x1.trans x2) g2 q2⟩⟩
theorem dR:Qr X M [] dm:=.of fj λσ H R env pn S n Q ok hu k=>k [] H [] n rfl (.refl _ _) ok.gd hu
theorem eI (h:KL X M e u)(hr:Qr X M es ur)(hs:fq e=true:=by rfl):Qr X M (e::es) (dh u ur):=.of (iI h.run hr.run hs) λσ H R env pn S n Q ok hu k =>
 ⟨env,pn,S,n,_,ok,hu,λv H1 d n1 r1 x1 g1 _ q1=>⟨env,pn,S,n1,_,ok.step x1 g1,q1,λvs H2 ds n2 r2 x2 g2 _ q2=>k _ H2 (d::ds) n2 ⟨_,_,rfl,r1.ext ok.wL x2,r2⟩ (x1.trans x2) g2 q2⟩⟩
noncomputable def eG (ur:UA):UX:=λenv n Q=>ur env n λds n1=>Q (.tuple ds) n1
theorem eJ {x1}(h:KA X M es ur)(hl:es.length<=av:=by decide):KE X M (.Tuple es x1 pos) (eG ur) :=
 .of (P4 h.run) λσ H R env pn S n Q ok hu k=>⟨env,pn,S,n,_,ok,hu,λvs H1 ds n1 el r1 x1 g1 sz q1=>⟨by rw[el];exact hl,λp hp =>
  have x2:=Ext.new (S:=[]) (o:=.tup vs) hp
  k _ _ _ n1 (.tup dG (r1.ext (x2.mono (!4)))) (x1.trans (x2.mono (!4))) (M.iW g1 x2 (!4)) q1⟩⟩
theorem gk (h:KA X M es ur)(hl:es.length<=av:=by decide):KN X M (.List es pos) ur :=
 .of (Cy h.run) λσ H R env pn S n Q ok hu k=>⟨env,pn,S,n,_,ok,hu,λvs H1 ds n1 el r1 x1 g1 sz q1=>⟨by rw[el];exact hl,λp hp =>
  have x2:=Ext.new (S:=[]) (o:=.lst vs) hp
  have pv:H p=none:=by
   by_cases z:p∈M.gs
   .exact absurd hp (M.AJ g1 p z)
   .exact x1.fresh z hp
  k p vs _ _ n1 pv dG ((r1.fresh hp).ext (x2.mono (!4))) (x1.trans (x2.mono (!4))) (M.iW g1 x2 (!4)) q1⟩⟩
end
theorem RelV.one (h:RelV v u)(k:RelV w u):v=w:=by
 cases v<;>cases w<;>simp only[RelV] at h k<;>first | rfl | (obtain⟨t,rfl⟩:=h;obtain⟨t',e⟩:=k;cases e;rfl) | (subst h;cases k;rfl) | (subst h;obtain⟨t',e⟩:=k;cases e) | (obtain⟨t,rfl⟩:=h;obtain⟨t',e⟩:=k;cases e;done) | (obtain⟨t,rfl⟩:=h;cases k;done) | (subst h;cases k;done)
theorem Ei:∀{kvs jZ:List (List Int × ad)} {xs qE:List V},xs.length=kvs.length->qE.length=jZ.length->KZ kvs xs=KZ jZ qE->xs=qE/\kvs.map (λp=>p.1.headD 0)=jZ.map (λp=>p.1.headD 0)
 | [],[],[],[],_,_,_=>⟨rfl,rfl⟩
 | [],[],_::_,_,h,_,_=>by simp at h
 | [],[],[],_::_,_,h,_=>by simp at h
 | [],p::_,_,[],_,h,_=>by simp at h
 | [],p::_,[],_::_,_,_,h=>by simp[KZ] at h
 | [],p::_,_::_,_::_,h,_,_=>by simp at h
 | p::_,[],[],_,h,_,_=>by simp at h
 | p::_,[],_::_,[],_,_,h=>by simp[KZ] at h
 | p::_,[],_::_,_::_,_,h,_=>by simp at h
 | p::_,q::_,[],_,h,_,_=>by simp at h
 | p::_,q::_,_::_,[],_,h,_=>by simp at h
 | p::kvs,q::jZ,x::xs,y::ys,h1,h2,h=>by
  rw[KZ,KZ] at h;injection h with e1 e2;injection e1 with e3 e4;injection e3 with e3;obtain⟨a,b⟩:=Ei (by simpa using h1) (by simpa using h2) e2;rw[e4,a,am,am,b];exact⟨rfl,by rw[e3]⟩
theorem Ej:∀{a b:List Int},(a.map Sum.inl:List Key)=b.map Sum.inl->a=b
 | [],[],_=>rfl
 | [],_::_,h=>by cases h
 | _::_,[],h=>by cases h
 | x::a,y::b,h=>by
  rw[am,am] at h;injection h with h1 h2;injection h1 with h1;rw[h1,Ej h2]
theorem Ek:∀{kvs jZ:List (List Int × ad)} {xs qE:List V},xs.length=kvs.length->qE.length=jZ.length->K0 kvs xs=K0 jZ qE->xs=qE/\kvs.map (λp=>p.1)=jZ.map (λp=>p.1)
 | [],[],[],[],_,_,_=>⟨rfl,rfl⟩
 | [],[],_::_,_,h,_,_=>by simp at h
 | [],[],[],_::_,_,h,_=>by simp at h
 | [],p::_,_,[],_,h,_=>by simp at h
 | [],p::_,[],_::_,_,_,h=>by simp[K0] at h
 | [],p::_,_::_,_::_,h,_,_=>by simp at h
 | p::_,[],[],_,h,_,_=>by simp at h
 | p::_,[],_::_,[],_,_,h=>by simp[K0] at h
 | p::_,[],_::_,_::_,_,h,_=>by simp at h
 | p::_,q::_,[],_,h,_,_=>by simp at h
 | p::_,q::_,_::_,[],_,h,_=>by simp at h
 | p::kvs,q::jZ,x::xs,y::ys,h1,h2,h=>by
  rw[K0,K0] at h;injection h with e1 e2;injection e1 with e3 e4;obtain⟨a,b⟩:=Ek (by simpa using h1) (by simpa using h2) e2;rw[e4,a,am,am,b];exact⟨rfl,by rw[Ej e3]⟩
theorem El:∀{l l':List (List Int × ad)},l.map (λp=>p.1)=l'.map (λp=>p.1)->l.map (·.2)=l'.map (·.2)->l=l'
 | [],[],_,_=>rfl
 | [],_::_,h,_=>by cases h
 | _::_,[],h,_=>by cases h
 | (a,b)::l,(c,d)::l',h,k=>by
  rw[am,am] at h k;injection h with h1 h2;injection k with k1 k2;have h1:a=c:=h1;have k1:b=d:=k1;rw[El h2 k2,h1,k1]
theorem yf {l:List (List Int × ad)}(h:∀p∈l,p.1.length=1):l.map (λp=>p.1)=(l.map λp=>p.1.headD 0).map λi=>[i]:=by
 rw[br];refine cH λp hp=>?_
 match p,h p hp with
 | ([i],_),_=>rfl
theorem MA {t t':Bool}{kvs jZ:List (List Int × ad)}{xs qE:List V}(h1:xs.length=kvs.length)(h2:qE.length=jZ.length)(k1:t=false->∀p∈kvs,p.1.length=1)(k2:t'=false->∀p∈jZ,p.1.length=1)(h:zY t kvs xs=zY t' jZ qE):t=t'/\xs=qE/\kvs.map (λp=>p.1)=jZ.map (λp=>p.1):=by
 cases t with
 | true=>cases t' with
  | true =>
   injection h with h;exact⟨rfl,Ek h1 h2 h⟩
  | false=>cases h
 | false=>cases t' with
  | true=>cases h
  | false =>
   injection h with h;obtain⟨a,b⟩:=Ei h1 h2 h;exact⟨rfl,a,by rw[yf (k1 rfl),yf (k2 rfl),b]⟩
mutual
theorem eF.one {S:List Addr}{H:Hp}:∀{d d':ad} {v:V},eF S H d v->eF S H d' v->d=d'
 | .none,d',v,h,k=>by cases h.lF;cases d'<;>simp[eF] at k;rfl
 | .bool b,d',v,h,k=>by cases h.iq;cases d'<;>simp[eF] at k;rw[k]
 | .int b,d',v,h,k=>by cases h.eK;cases d'<;>simp[eF] at k;rw[k]
 | .str b,d',v,h,k=>by cases h.ik;cases d'<;>simp[eF] at k;rw[k]
 | .tuple ds,d',v,h,k=>by
  obtain⟨a,xs,rfl,ha,r⟩:=h.eX
  cases d' with
  | tuple es =>
   obtain⟨b,ys,e,hb,r'⟩:=k.eX;cases e;rw[ha] at hb;cases hb;rw[dH.one r r']
  | list es=>obtain⟨b,ys,e,hb,_⟩:=k.eY;cases e;rw[ha] at hb;cases hb
  | dict es=>obtain⟨b,t,kvs,ys,e,_,hb,_⟩:=k.mJ;cases e;rw[ha] at hb;exact (D3 hb).elim
  | _=>simp[eF] at k
 | .list ds,d',v,h,k=>by
  obtain⟨a,xs,rfl,ha,_,r⟩:=h.eY
  cases d' with
  | list es =>
   obtain⟨b,ys,e,hb,_,r'⟩:=k.eY;cases e;rw[ha] at hb;cases hb;rw[dH.one r r']
  | tuple es=>obtain⟨b,ys,e,hb,_⟩:=k.eX;cases e;rw[ha] at hb;cases hb
  | dict es=>obtain⟨b,t,kvs,ys,e,_,hb,_⟩:=k.mJ;cases e;rw[ha] at hb;exact (qm hb).elim
  | _=>simp[eF] at k
 | .dict l,d',v,h,k=>by
  have h':=h;unfold eF at h';obtain⟨a,t,kvs,xs,rfl,rfl,ha,hs,hk,hr⟩:=h';have hl:xs.length=kvs.length:=by have:=(gG.Fj.mp hr).length;rw[jo,aj,aj,ah] at this;omega
  cases d' with
  | tuple es=>obtain⟨b,ys,e,hb,_⟩:=k.eX;cases e;rw[ha] at hb;exact (D3 hb.symm).elim
  | list es=>obtain⟨b,ys,e,hb,_⟩:=k.eY;cases e;rw[ha] at hb;exact (qm hb.symm).elim
  | dict l' =>
   unfold eF at k;obtain⟨b,t',jZ,ys,e,rfl,hb,_,K3,Zz⟩:=k;cases e;rw[ha] at hb;have Iw:ys.length=jZ.length:=by have:=(gG.Fj.mp Zz).length;rw[jo,aj,aj,ah] at this;omega
   obtain⟨rfl,rfl,RJ⟩:=MA hl Iw hk K3 (Option.some.inj hb);have:=gG.one hr Zz;rw[jo,jo] at this;injection this with _ this;rw[El RJ this]
  | _=>simp[eF] at k
theorem dH.one {S:List Addr}{H:Hp}:∀{ds wM:List ad} {vs:List V},dH S H ds vs->dH S H wM vs->ds=wM
 | [],wM,vs,h,k=>by
  cases h.gc
  cases wM with
  | nil=>rfl
  | cons d ds=>obtain⟨x,r,e,_⟩:=k.of_cons;cases e
 | d::ds,wM,vs,h,k=>by
  obtain⟨x,r,rfl,h1,h2⟩:=h.of_cons
  cases wM with
  | nil=>cases k.gc
  | cons d' wM =>
   obtain⟨x',r',e,k1,k2⟩:=k.of_cons;cases e;rw[eF.one h1 k1,dH.one h2 k2]
theorem gG.one {S:List Addr}{H:Hp}:∀{l l':List (ad × ad)} {vs:List V},gG S H l vs->gG S H l' vs->l.map (·.2)=l'.map (·.2)
 | [],l',vs,h,k=>by
  unfold gG at h;subst h
  cases l' with
  | nil=>rfl
  | cons p l=>unfold gG at k;obtain⟨x,r,e,_⟩:=k;cases e
 | (_,d)::l,l',vs,h,k=>by
  unfold gG Ct at h;obtain⟨x,r,rfl,h1,h2⟩:=h
  cases l' with
  | nil=>unfold gG at k;cases k
  | cons p l' =>
   unfold gG at k;obtain⟨x',r',e,k1,k2⟩:=k;cases e;have k1':eF S H p.2 x:=by cases p;unfold Ct at k1;exact k1
   rw[am,am,gG.one h2 k2];show d::_=p.2::_;rw[eF.one h1 k1']
end
structure t9 (X:Cx) (f:af->af->Sem af) (op:ad->ad->Option ad):Prop where
 ex:∃r,kr X f r/\∀gs S H dx dy x y d (R:VK),(∀a∈S,H a≠none)->l6 H->fA gs S H dx x->fA gs S H dy y->op dx dy=some d->(∀v H',eF S H' d v->Ext [] H H'->R v H')->r x y H R
noncomputable def dB (f:ad->ad->Option ad)(ua ub:UX):UX:=λenv n Q=>ua env n λx n1=>ub env n1 λy n2=>mD (f x y) λd=>Q d n2
noncomputable def RK (d:ad)(Q:Bool->Prop):Prop:=match d with | .bool b=>Q b | _=>False
@[simp] theorem dD (b:Bool) (Q:Bool->Prop):RK (.bool b) Q=Q b:=rfl
noncomputable def dM (u:UX):UT:=λenv n Q=>u env n λd n'=>RK d λb=>Q b n'
section
variable {X:Cx}{M:Fr}{a b c e:Expr}{ua ub uc:UX}{pos:Pos}{f:ad->ad->Option ad}
theorem Em
  (hr:∀gs S H dx dy x y d (R:VK),(∀a∈S,H a≠none)->l6 H->fA gs S H dx x->fA gs S H dy y->f dx dy=some d->(∀v H',eF S H' d v->Ext [] H H'->R v H')->r x y H R)
  (ok:dQ M env pn σ S H n) (hu:dB f ua ub env n Q) (k:∀v H' d n',eF S H' d v->Ext M.gs H H'->M.G H' n'->Q d n'->R v H'):KU r (AL M ua) (AL M ub) σ H R :=
 ⟨env,pn,S,n,_,ok,hu,λx H1 dx n1 r1 x1 g1 _ q1=>⟨env,pn,S,n1,_,ok.step x1 g1,q1,λy H2 dy n2 r2 x2 g2 sz q2=>by
  obtain⟨d,e,q⟩:=q2;exact hr M.gs S H2 dx dy x y d R ((ok.step x1 g1).step x2 g2).has sz (r1.ext ok.wL x2) r2 e λv H3 r3 x3=>k v H3 d n2 r3 ((x1.trans x2).trans (x3.mono (!4))) (M.iW g2 x3 (!4)) q⟩⟩
theorem fV (ho:t9 X (binaryOp op) f)(ha:KL X M a ua)(hb:KL X M b ub):KE X M (.BinOp a op b pos) (dB f ua ub):=by
 obtain⟨r,h1,h2⟩:=ho.ex;exact .of (g7 h1 ha.run hb.run) λσ H R env pn S n Q ok hu k=>Em h2 ok hu k
theorem ic (ho:t9 X (compareOp op) f)(ha:KL X M a ua)(hb:KL X M b ub)(hm:behindInMarks op b=false:=by first | exact mH _ | rfl):KE X M (.Compare a [op] [b] pos) (dB f ua ub):=by
 obtain⟨r,h1,h2⟩:=ho.ex;exact .of (ze h1 ha.run hb.run hm) λσ H R env pn S n Q ok hu k=>Em h2 ok hu k
theorem eR (ho:t9 X (compareOp op) f)(ha:KL X M a ua)(hb:KL X M b ub)(hm:behindInMarks op b=false:=by first | exact mH _ | rfl):KB X M (.Compare a [op] [b] pos) (dM (dB f ua ub)):=by
 obtain⟨r,h1,h2⟩:=ho.ex;refine .of (tZ h1 ha.run hb.run hm) λσ H R env pn S n Q ok hu k=>Em (R:=λx H'=>∃k,x=.bl k/\R k H') h2 ok hu λv H' d n' r x g q=>?_
 cases d with
 | bool b=>exact⟨b,r.iq,k b H' n' x g q⟩
 | _=>exact False.elim q
noncomputable def Qs (f g:ad->ad->Option ad)(ua ub uc:UX):UX:=λenv n Q=>ua env n λx n1=>ub env n1 λy n2=>mD (f x y) λd=>RK d λb=>if b=true then uc env n2 λz n3=>mD (g y z) λd=>Q d n3 else Q (.bool false) n2
theorem gT (h:KE X M e ua)(he:∀o4,isTrue e X.env o4=(do let v <- o4;standAt e.pos;holding [v] (truthy v)):=by rw[3]):KB X M e (dM ua) :=
 .of (Cv h.run he) λσ H R env pn S n Q ok hu k=>⟨env,pn,S,n,_,ok,hu,λv H' d n' r x g _ q=>by
  cases d with
  | bool b=>exact⟨b,r.iq,k b H' n' x g q⟩
  | _=>exact False.elim q⟩
noncomputable def mN (u w:UT):UT:=λenv n Q=>u env n λb n1=>if b=true then w env n1 Q else Q false n1
noncomputable def lj (u w:UT):UT:=λenv n Q=>u env n λb n1=>if b=true then Q true n1 else w env n1 Q
noncomputable def iu (u:UT):UT:=λenv n Q=>u env n λb n1=>Q (!b) n1
variable {u w:UT}{rest:List Expr}
theorem rQ (h:KB X M a u):KW X M (.BoolOp .And [a] pos) u:=⟨D5 h.run⟩
theorem nQ (h:KB X M a u):KW X M (.BoolOp .Or [a] pos) u:=⟨PY h.run⟩
theorem w_and (ha:KB X M a u)(hb:KW X M (.BoolOp .And (b::rest) pos) w):KW X M (.BoolOp .And (a::b::rest) pos) (mN u w) :=
 .of (Ic ha.run hb.run) λσ H R env pn S n Q ok hu k=>⟨env,pn,S,n,_,ok,hu,λc H1 n1 x1 g1 q=>by
  cases c with
  | true=>exact⟨env,pn,S,n1,Q,ok.step x1 g1,q,λb H2 n2 x2 g2 q2=>k b H2 n2 (x1.trans x2) g2 q2⟩
  | false=>exact k false H1 n1 x1 g1 q⟩
theorem w_or (ha:KB X M a u)(hb:KW X M (.BoolOp .Or (b::rest) pos) w):KW X M (.BoolOp .Or (a::b::rest) pos) (lj u w) :=
 .of (Tq ha.run hb.run) λσ H R env pn S n Q ok hu k=>⟨env,pn,S,n,_,ok,hu,λc H1 n1 x1 g1 q=>by
  cases c with
  | false=>exact⟨env,pn,S,n1,Q,ok.step x1 g1,q,λb H2 n2 x2 g2 q2=>k b H2 n2 (x1.trans x2) g2 q2⟩
  | true=>exact k true H1 n1 x1 g1 q⟩
theorem KW.kb (h:KW X M e u):KB X M e u:=⟨h.run.pt⟩
theorem kc (h:KB X M a u):KB X M (.UnaryOp .Not a pos) (iu u):=.of (PZ h.run) λσ H R env pn S n Q ok hu k=>⟨env,pn,S,n,_,ok,hu,λc H1 n1 x1 g1 q=>k _ H1 n1 x1 g1 q⟩
noncomputable def ig (ua ub:UX):UX:=λenv n Q=>ua env n λx n1=>RK x λb=>if b=true then ub env n1 Q else Q (.bool false) n1
noncomputable def Qt (ua ub:UX):UX:=λenv n Q=>ua env n λx n1=>RK x λb=>if b=true then Q (.bool true) n1 else ub env n1 Q
noncomputable def Eo (ua:UX):UX:=λenv n Q=>ua env n λx n1=>RK x λb=>Q (.bool (!b)) n1
theorem k_one {op}(h:KE X M a ua):KE X M (.BoolOp op [a] pos) ua:=⟨P0 h.run⟩
theorem l8 (ha:KE X M a ua)(hb:KE X M (.BoolOp .And (b::rest) pos) ub):KE X M (.BoolOp .And (a::b::rest) pos) (ig ua ub) :=
 .of (P1 ha.run hb.run) λσ H R env pn S n Q ok hu k=>⟨env,pn,S,n,_,ok,hu,λv H1 d n1 r1 x1 g1 _ q=>by
  cases d with
  | bool c =>
   refine⟨c,r1.iq,?_⟩
   cases c with
   | true=>exact⟨env,pn,S,n1,Q,ok.step x1 g1,q,λv H2 d n2 r2 x2 g2 _ q2=>k v H2 d n2 r2 (x1.trans x2) g2 q2⟩
   | false=>exact k _ H1 _ n1 (.bl false) x1 g1 q
  | _=>exact False.elim q⟩
theorem Xj (ha:KE X M a ua)(hb:KE X M (.BoolOp .Or (b::rest) pos) ub):KE X M (.BoolOp .Or (a::b::rest) pos) (Qt ua ub) :=
 .of (Tr ha.run hb.run) λσ H R env pn S n Q ok hu k=>⟨env,pn,S,n,_,ok,hu,λv H1 d n1 r1 x1 g1 _ q=>by
  cases d with
  | bool c =>
   refine⟨c,r1.iq,?_⟩
   cases c with
   | false=>exact⟨env,pn,S,n1,Q,ok.step x1 g1,q,λv H2 d n2 r2 x2 g2 _ q2=>k v H2 d n2 r2 (x1.trans x2) g2 q2⟩
   | true=>exact k _ H1 _ n1 (.bl true) x1 g1 q
  | _=>exact False.elim q⟩
theorem k_not (ha:KE X M a ua):KE X M (.UnaryOp .Not a pos) (Eo ua) :=
 .of (Cw ha.run) λσ H R env pn S n Q ok hu k=>⟨env,pn,S,n,_,ok,hu,λv H1 d n1 r1 x1 g1 _ q=>by
  cases d with
  | bool c=>exact⟨c,r1.iq,k _ H1 _ n1 (.bl _) x1 g1 q⟩
  | _=>exact False.elim q⟩
noncomputable def MB (t:UT)(ua ub:UX):UX:=λenv n Q=>t env n λc n1=>if c=true then ua env n1 Q else ub env n1 Q
theorem MC (hc:KB X M c u)(ha:KE X M a ua)(hb:KE X M b ub):KE X M (.IfExp c a b pos) (MB u ua ub) :=
 .of (Ie hc.run ha.run hb.run) λσ H R env pn S n Q ok hu k=>⟨env,pn,S,n,_,ok,hu,λc H1 n1 x1 g1 q=>by
  cases c with
  | true=>exact⟨env,pn,S,n1,Q,ok.step x1 g1,q,λv H2 d n2 r2 x2 g2 _ q2=>k v H2 d n2 r2 (x1.trans x2) g2 q2⟩
  | false=>exact⟨env,pn,S,n1,Q,ok.step x1 g1,q,λv H2 d n2 r2 x2 g2 _ q2=>k v H2 d n2 r2 (x1.trans x2) g2 q2⟩⟩
noncomputable def iK:ad->Option ad | .int i=>some (.int (-i)) | _=>none
noncomputable def vm (f:ad->Option ad)(ua:UX):UX:=λenv n Q=>ua env n λx n1=>mD (f x) λd=>Q d n1
theorem kI (ha:KE X M a ua):KE X M (.UnaryOp .USub a pos) (vm iK ua) :=
 .of (Tp Cd ha.run) λσ H R env pn S n Q ok hu k=>⟨env,pn,S,n,_,ok,hu,λv H1 d n1 r1 x1 g1 _ q=>by
  obtain⟨d',e,q⟩:=q
  cases d with
  | int i=>cases e;exact⟨i,r1.eK,k _ H1 _ n1 (.int _) x1 g1 q⟩
  | _=>cases e⟩
end
noncomputable def fw:ad->ad->Option ad
 | .int i,.int j=>some (.int (i+j))
 | .tuple xs,.tuple ys=>if xs.length+ys.length<=av then some (.tuple (xs++ys)) else none
 | .list xs,.list ys=>if xs.length+ys.length<=av then some (.list (xs++ys)) else none
 | .str x,.str y=>if x.length+y.length<=av then some (.str (x++y)) else none
 | _,_=>none
noncomputable def vn:ad->ad->Option ad | .int i,.int j=>some (.int (i - j)) | _,_=>none
instance (i j:Int):Decidable (Cc i j):=by unfold Cc;infer_instance
instance (i j:Int):Decidable (Lu i j):=by unfold Lu;infer_instance
instance (i j:Int):Decidable (Pc i j):=by unfold Pc;infer_instance
noncomputable def rR:ad->ad->Option ad
 | .int i,.int j=>if Cc i j then some (.int (i * j)) else none
 | .list xs,.int k=>if -(2 ^ 63)<=k/\k<2 ^ 63/\xs.length * k.toNat<=av then some (.list (List.replicate k.toNat xs).flatten) else none
 | .tuple xs,.int k=>if 1<=k/\k<2 ^ 40/\xs≠[]/\xs.length * k.toNat<=16000000 then some (.tuple (List.replicate k.toNat xs).flatten) else none
 | _,_=>none
noncomputable def vo:ad->ad->Option ad | .int i,.int j=>if 0<j then some (.int (i % j)) else none | _,_=>none
noncomputable def IW:ad->ad->Option ad | .int i,.int j=>if Lu i j then some (.int (i ^ j.toNat)) else none | _,_=>none
noncomputable def RL:ad->ad->Option ad | .int i,.int j=>some (.bool (decide (i<j))) | _,_=>none
noncomputable def Qu:ad->ad->Option ad | .int i,.int j=>some (.bool (decide (i<=j))) | _,_=>none
noncomputable def CZ:ad->ad->Option ad | .int i,.int j=>some (.bool (decide (j<i))) | _,_=>none
noncomputable def l9 (x y:ad):Option ad:=if x.canLay0=true/\y.canLay0=true/\x.depth<=60 then some (.bool (ad.eqv x y)) else none
noncomputable def yg (x y:ad):Option ad:=if x.canLay0=true/\y.canLay0=true/\x.depth<=60 then some (.bool (!PyData.eqv x y)) else none
noncomputable def qF (x:ad):Bool:=match x with | .none=>true | _=>false
noncomputable def MD (x y:ad):Option ad:=match y with | .none=>some (.bool (!qF x)) | _=>none
noncomputable def Ep (x:ad)(ds:List ad):Option Bool:=if x.canLay0=true/\ad.canLayAll0 ds=true/\x.depth<=60 then some (ds.any λd=>ad.eqv d x) else none
noncomputable def inD (x y:ad):Option ad:=match y with | .tuple ds=>(Ep x ds).map .bool | .list ds=>(Ep x ds).map .bool | _=>none
noncomputable def vp (x y:ad):Option ad:=match y with | .tuple ds=>(Ep x ds).map λb=>.bool (!b) | .list ds=>(Ep x ds).map λb=>.bool (!b) | _=>none
section
variable {X:Cx}
theorem Er {f:af->af->Sem af}{g:Int->Int->ad}{gv:Int->Int->V}{op:ad->ad->Option ad}(h:kr X f (Lr gv))(hg:∀i j S H,eF S H (g i j) (gv i j))(ho:∀x y d,op x y=some d->∃i j,x=.int i/\y=.int j/\d=g i j):t9 X f op :=
 ⟨_,h,λgs S H dx dy x y d R _ _ r1 r2 e k=>by
  obtain⟨i,j,rfl,rfl,rfl⟩:=ho _ _ _ e;exact⟨i,j,r1.eK,r2.eK,k _ H (hg i j S H) (.refl _ _)⟩⟩
theorem Ue {f:af->af->Sem af}{C:Int->Int->Prop}{g:Int->Int->ad}{gv:Int->Int->V}{op:ad->ad->Option ad}(h:kr X f (rI C gv))(hg:∀i j S H,eF S H (g i j) (gv i j))(ho:∀x y d,op x y=some d->∃i j,x=.int i/\y=.int j/\C i j/\d=g i j):t9 X f op :=
 ⟨_,h,λgs S H dx dy x y d R _ _ r1 r2 e k=>by
  obtain⟨i,j,rfl,rfl,hc,rfl⟩:=ho _ _ _ e;exact⟨i,j,r1.eK,r2.eK,hc,k _ H (hg i j S H) (.refl _ _)⟩⟩
theorem yh:t9 X (binaryOp .Sub) vn:=Er (g:=λi j=>.int (i - j)) Pd (λ_ _ _ _=>.int _) λx y d e=>by
 cases x<;>cases y<;>simp[vn] at e;exact⟨_,_,rfl,rfl,e.symm⟩
theorem Ug:t9 X (compareOp .Lt) RL:=Er (g:=λi j=>.bool (decide (i<j))) NC (λ_ _ _ _=>.bl _) λx y d e=>by
 cases x<;>cases y<;>simp[RL] at e;exact⟨_,_,rfl,rfl,e.symm⟩
theorem Uh:t9 X (compareOp .LtE) Qu:=Er (g:=λi j=>.bool (decide (i<=j))) Sy (λ_ _ _ _=>.bl _) λx y d e=>by
 cases x<;>cases y<;>simp[Qu] at e;exact⟨_,_,rfl,rfl,e.symm⟩
theorem IY:t9 X (compareOp .Gt) CZ:=Er (g:=λi j=>.bool (decide (j<i))) ND (λ_ _ _ _=>.bl _) λx y d e=>by
 cases x<;>cases y<;>simp[CZ] at e;exact⟨_,_,rfl,rfl,e.symm⟩
theorem vq:t9 X (binaryOp .Mod) vo:=Ue (g:=λi j=>.int (i % j)) pd (λ_ _ _ _=>.int _) λx y d e=>by
 cases x<;>cases y<;>simp[vo] at e;exact⟨_,_,rfl,rfl,e.1,e.2.symm⟩
theorem Ui:t9 X (binaryOp .Pow) IW:=Ue (g:=λi j=>.int (i ^ j.toNat)) Hy (λ_ _ _ _=>.int _) λx y d e=>by
 cases x<;>cases y<;>simp[IW] at e;exact⟨_,_,rfl,rfl,e.1,e.2.symm⟩
theorem ME (r:eF S H d v):qF d=decide (v=.iZ):=by
 cases d with
 | none=>cases r.lF;rfl
 | bool b=>cases r.iq;rfl
 | int b=>cases r.eK;rfl
 | str b=>cases r.ik;rfl
 | tuple b=>obtain⟨a,xs,rfl,_⟩:=r.eX;rfl
 | list b=>obtain⟨a,xs,rfl,_⟩:=r.eY;rfl
 | dict b=>obtain⟨a,t,kvs,xs,rfl,_⟩:=r.mJ;rfl
theorem fA.isN (r:fA gs S H d v):qF d=decide (v=.iZ):=by
 rcases r with r | ⟨ds,a,xs,rfl,rfl,_⟩ | ⟨t,kvs,a,xs,rfl,rfl,_⟩
 .exact ME r
 .rfl
 .rfl
theorem Uj:t9 X (compareOp .IsNot) MD:=⟨_,Lv,λgs S H dx dy x y d R _ _ r1 r2 e k=>by
 cases dy with
 | none=>cases e;exact⟨r2.lF,r1.isN ▸ k _ H (.bl _) (.refl _ _)⟩
 | _=>cases e⟩
theorem fA.reads (r:fA gs S H d v)(c0:d.canLay0=true)(ok:lX P w H h)(rv:RelV v u):∃as,Reads h u d as:=by
 rcases r with r | ⟨ds,a,xs,rfl,rfl,ha,rs,_⟩ | ⟨t,kvs,a,xs,rfl,_⟩
 .exact eF.reads ok c0 r rv
 .cases (show u=af.ref a from rv)
  obtain⟨_,its,n,rv,e⟩:=ok a _ ha;obtain⟨as,ra⟩:=dH.reads ok (by simpa [ad.canLay0] using c0) rs rv;exact⟨_,.list e rfl rfl (by simpa using ra)⟩
 .simp[i3,ad.canLay0] at c0
noncomputable def Uk (neg:Bool):R2:=λx y H Q=>∃gs S dx dy,fA gs S H dx x/\fA gs S H dy y/\dx.canLay0=true/\dy.canLay0=true/\dx.depth<=60/\Q (.bl (if neg then !PyData.eqv dx dy else ad.eqv dx dy)) H
theorem Qv (Fl:X.A.units+64<cLine):kr X (compareOp .Eq) (Uk false):=by
 intro pins s σ H x y v u Q I rx ry h;obtain⟨gs,S,dx,dy,h1,h2,c1,c2,d1,q⟩:=h;obtain⟨as,ra⟩:=h1.reads c1 I.hok rx;obtain⟨bs,rb⟩:=h2.reads c2 I.hok ry;exact SeqAt.compareEq_reads ra rb c1 c2 (!1) ⟨.bl _,H,I,rfl,q⟩
theorem Qw (Fl:X.A.units+64<cLine):kr X (compareOp .NotEq) (Uk true):=by
 intro pins s σ H x y v u Q I rx ry h;obtain⟨gs,S,dx,dy,h1,h2,c1,c2,d1,q⟩:=h;obtain⟨as,ra⟩:=h1.reads c1 I.hok rx;obtain⟨bs,rb⟩:=h2.reads c2 I.hok ry;exact SeqAt.compareNe_reads ra rb c1 c2 (!1) ⟨.bl _,H,I,rfl,q⟩
theorem i6 (Fl:X.A.units+64<cLine):t9 X (compareOp .Eq) l9:=⟨_,Qv Fl,λgs S H dx dy x y d R _ _ r1 r2 e k=>by
 unfold l9 at e;split at e
 .rename_i hc
  cases e;exact⟨gs,S,dx,dy,r1,r2,hc.1,hc.2.1,hc.2.2,k _ H (.bl _) (.refl _ _)⟩
 .cases e⟩
theorem zr (Fl:X.A.units+64<cLine):t9 X (compareOp .NotEq) yg:=⟨_,Qw Fl,λgs S H dx dy x y d R _ _ r1 r2 e k=>by
 unfold yg at e;split at e
 .rename_i hc
  cases e;exact⟨gs,S,dx,dy,r1,r2,hc.1,hc.2.1,hc.2.2,k _ H (.bl _) (.refl _ _)⟩
 .cases e⟩
end
section
variable {X:Cx}
theorem fA.K8 {K:W.Frag}{gs S:List Addr}{H:Hp}{ds:List ad}{v:V}(h:fA gs S H (.tuple ds) v):∃a xs,v=.ref a/\jl K H a xs/\H a=some (.tup xs)/\dH S H ds xs:=let ⟨a,xs,e,ha,r⟩:=h.eX;⟨a,xs,e,jl.of ha,ha,r⟩
theorem fA.Of {K:W.Frag}{gs S:List Addr}{H:Hp}{ds:List ad}{v:V}(h:fA gs S H (.list ds) v):∃a xs,v=.ref a/\gY K H a xs/\H a=some (.lst xs)/\dH S H ds xs:=let ⟨a,xs,e,ha,r⟩:=h.eY;⟨a,xs,e,gY.of ha,ha,r⟩
theorem qG {S:List Addr}{H:Hp}{ds:List ad}{xs:List V}{p:Addr}(hp:H p=none)(r:dH S H ds xs):eF S (eM H p (.tup xs)) (.tuple ds) (.ref p):=.tup dG (r.ext (.new hp))
theorem qH (has:∀a∈S,H a≠none)(hp:H p=none)(r:dH S H ds xs):eF S (eM H p (.lst xs)) (.list ds) (.ref p):=.lst dG (λz=>has p z hp) (r.ext (.new hp))
theorem dH.flat (r:dH S H ds xs)(k:Nat):dH S H (List.replicate k ds).flatten (List.replicate k xs).flatten:=by
 induction k with
 | zero=>exact .nil
 | succ k ih=>rw[aF,aF,cj,cj];exact r.append ih
theorem f9:t9 X (binaryOp .Add) fw:=⟨_,((uR.or (WT X.K)).or Cn).or Ce,λgs S H dx dy x y d R has sz r1 r2 e k=>by
 cases dx with
 | int i=>cases dy with
  | int j=>cases e;exact .inl (.inl (.inl ⟨i,j,r1.eK,r2.eK,k _ H (.int _) (.refl _ _)⟩))
  | _=>cases e
 | str i=>cases dy with
  | str j =>
   simp only[fw] at e;split at e
   .rename_i hz
    cases e;exact .inr ⟨i,j,r1.ik,r2.ik,hz,k _ H (.str _) (.refl _ _)⟩
   .cases e
  | _=>cases e
 | tuple ds=>cases dy with
  | tuple es =>
   simp only[fw] at e;split at e
   .rename_i hz
    cases e;obtain⟨a,xs,rfl,s1,h1,q1⟩:=r1.K8 (K:=X.K);obtain⟨b,ys,rfl,s2,h2,q2⟩:=r2.K8 (K:=X.K);refine .inl (.inl (.inr ⟨a,b,xs,ys,rfl,rfl,s1,s2,by rw[q1.length,q2.length];exact hz,λe=>?_,λe=>?_,λp hp=>k _ _ (qG hp (q1.append q2)) (.new hp)⟩))
    .subst e
     cases ds with
     | nil=>exact k _ H (.tup h2 q2) (.refl _ _)
     | cons d ds=>have:=q1.length;simp at this
    .subst e
     cases es with
     | nil=>rw[bt] at k;exact k _ H (.tup h1 q1) (.refl _ _)
     | cons d ds=>have:=q2.length;simp at this
   .cases e
  | _=>cases e
 | list ds=>cases dy with
  | list es =>
   simp only[fw] at e;split at e
   .rename_i hz
    cases e;obtain⟨a,xs,rfl,h1,q1⟩:=r1.eY;obtain⟨b,ys,rfl,h2,q2⟩:=r2.eY;exact .inl (.inr ⟨a,b,xs,ys,rfl,rfl,h1,h2,by rw[q1.length,q2.length];exact hz,λp hp=>k _ _ (qH has hp (q1.append q2)) (.new hp)⟩)
   .cases e
  | _=>cases e
 | _=>cases dy<;>cases e⟩
theorem Es:t9 X (binaryOp .Mult) rR:=⟨_,(rH.or HM).or (IQ X.K),λgs S H dx dy x y d R has sz r1 r2 e k=>by
 cases dx with
 | int i=>cases dy with
  | int j =>
   simp only[rR] at e;split at e
   .rename_i hz
    cases e;exact .inl (.inl ⟨i,j,r1.eK,r2.eK,hz,k _ H (.int _) (.refl _ _)⟩)
   .cases e
  | _=>cases e
 | list ds=>cases dy with
  | int j =>
   simp only[rR] at e;split at e
   .rename_i hz
    cases e;obtain⟨a,xs,rfl,h1,q1⟩:=r1.eY;exact .inl (.inr ⟨a,j,xs,rfl,r2.eK,h1,hz.1,hz.2.1,by rw[q1.length];exact hz.2.2,λp hp=>k _ _ (qH has hp (q1.flat _)) (.new hp)⟩)
   .cases e
  | _=>cases e
 | tuple ds=>cases dy with
  | int j =>
   simp only[rR] at e;split at e
   .rename_i hz
    cases e;obtain⟨a,xs,rfl,s1,h1,q1⟩:=r1.K8 (K:=X.K);by_cases h:j=1
    .subst h
     refine .inr (.inl ⟨a,xs,rfl,r2.eK,s1,k _ H ?_ (.refl _ _)⟩);simpa using eF.tup h1 q1
    .refine .inr (.inr ⟨a,j,xs,rfl,r2.eK,s1,λz=>?_,!1,hz.2.1,by rw[q1.length];exact hz.2.2.2,λp hp=>k _ _ (qG hp (q1.flat _)) (.new hp)⟩)
     subst z;have:=q1.length;exact hz.2.2.1 (by simpa using this.symm)
   .cases e
  | _=>cases e
 | _=>cases dy<;>cases e⟩
noncomputable def Ul (neg:Bool):R2:=λx y H Q=>∃gs S dx ds p xs,fA gs S H dx x/\y=.ref p/\(H p=some (.lst xs)\/H p=some (.tup xs))/\dH S H ds xs/\dx.canLay0=true/\ad.canLayAll0 ds=true/\dx.depth<=60/\Q (.bl (if neg then !(ds.any λd=>ad.eqv d dx) else ds.any λd=>ad.eqv d dx)) H
open Classical in
noncomputable def B3 (S:List Addr)(H:Hp)(xs:List V)(dx:ad)(y:af):Bool:=decide (∃v d,RelV v y/\eF S H d v/\ad.eqv d dx=true)
open Classical in
theorem IZ {S:List Addr}{H:Hp}{xs:List V}{dx d:ad}{v:V}{y:af}(h1:RelV v y)(h2:eF S H d v):B3 S H xs dx y=ad.eqv d dx:=by
 unfold B3
 cases e:ad.eqv d dx with
 | true=>exact decide_eq_true ⟨v,d,h1,h2,e⟩
 | false =>
  refine decide_eq_false λ⟨v',d',k1,k2,k3⟩=>?_;cases RelV.one h1 k1;cases eF.one h2 k2;rw[e] at k3;cases k3
theorem qI:∀{ds:List ad} {xs:List V} {us:List af},dH S H ds xs->eA xs us->us.any (B3 S H zs dx)=ds.any λd=>ad.eqv d dx
 | [],_,_,h,r=>by cases h.gc;cases r;rfl
 | d::ds,_,_,h,r=>by
  obtain⟨x,t,rfl,h1,h2⟩:=h.of_cons
  cases r with
  | cons q1 q2=>rw[b4,b4,qI h2 q2,IZ q1 h1]
theorem vt (ok:lX P w H s.heap)(rx:fA gs S H dx x)(rv:RelV x v)(c1:dx.canLay0=true)(hu:A.units+60<cLine)(hd:dx.depth<=60) :
  ∀{ds:List ad} {xs:List V} {us:List af},ad.canLayAll0 ds=true->dH S H ds xs->eA xs us->∀u∈us,SeqAt.EqAt A s u v (B3 S H zs dx u)
 | [],_,_,_,h,r=>by cases h.gc;cases r;intro u hu;cases hu
 | d::ds,_,_,hc,h,r=>by
  obtain⟨y,t,rfl,h1,h2⟩:=h.of_cons;simp only[ad.canLayAll0,aK] at hc
  cases r with
  | cons q1 q2 =>
   intro u Xk;rcases al.mp Xk with rfl | Xk
   .rw[IZ q1 h1]
    obtain⟨as,ra⟩:=eF.reads ok hc.1 h1 q1;obtain⟨bs,rb⟩:=rx.reads c1 ok rv;exact SeqAt.eqAt_reads d dx A s _ v as bs ra rb hc.1 c1 (by have:min d.depth dx.depth<=60:=(!1);omega)
   .exact vt ok rx rv c1 hu hd hc.2 h2 q2 u Xk
theorem Qx (Fl:X.A.units+64<cLine):kr X (compareOp .In) (Ul false):=by
 intro pins s σ H x y v u Q I rx ry h;obtain⟨gs,S,dx,ds,p,xs,r1,rfl,hq,rs,c1,c2,hd,q⟩:=h;cases ry;have C1:X.A.in1.units+60<cLine:=by show X.A.units+1+60<cLine;omega
 rcases hq with hq | hq
 .obtain⟨its,r,pl,hz⟩:=I.list (gY.of (K:=X.K) hq)
  refine SeqAt.in_listAt (B3 S H xs dx) pl.isList (λw hw=>vt I.hok r1 rx c1 C1 hd c2 rs r w (by simpa using hw)) ⟨.bl _,H,I,rfl,?_⟩;rw[show its.toArray.any (B3 S H xs dx)=its.any (B3 S H xs dx) by simp,qI rs r];exact q
 .obtain⟨its,r,pl,hz⟩:=I.tuple (jl.of (K:=X.K) hq)
  refine SeqAt.in_tupleAt (B3 S H xs dx) pl (λw hw=>vt I.hok r1 rx c1 C1 hd c2 rs r w (by simpa using hw)) ⟨.bl _,H,I,rfl,?_⟩;rw[show its.toArray.any (B3 S H xs dx)=its.any (B3 S H xs dx) by simp,qI rs r];exact q
theorem MF (Fl:X.A.units+64<cLine):kr X (compareOp .NotIn) (Ul true):=by
 intro pins s σ H x y v u Q I rx ry h;obtain⟨gs,S,dx,ds,p,xs,r1,rfl,hq,rs,c1,c2,hd,q⟩:=h;cases ry;have C1:X.A.in1.units+60<cLine:=by show X.A.units+1+60<cLine;omega
 rcases hq with hq | hq
 .obtain⟨its,r,pl,hz⟩:=I.list (gY.of (K:=X.K) hq)
  refine SeqAt.notIn_listAt (B3 S H xs dx) pl.isList (λw hw=>vt I.hok r1 rx c1 C1 hd c2 rs r w (by simpa using hw)) ⟨.bl _,H,I,rfl,?_⟩;rw[show its.toArray.any (B3 S H xs dx)=its.any (B3 S H xs dx) by simp,qI rs r];exact q
 .obtain⟨its,r,pl,hz⟩:=I.tuple (jl.of (K:=X.K) hq)
  refine SeqAt.notIn_tupleAt (B3 S H xs dx) pl (λw hw=>vt I.hok r1 rx c1 C1 hd c2 rs r w (by simpa using hw)) ⟨.bl _,H,I,rfl,?_⟩;rw[show its.toArray.any (B3 S H xs dx)=its.any (B3 S H xs dx) by simp,qI rs r];exact q
theorem zt (h:Ep x ds=some b):x.canLay0=true/\ad.canLayAll0 ds=true/\x.depth<=60/\(ds.any λd=>ad.eqv d x)=b:=by
 unfold Ep at h;split at h
 .rename_i hc
  cases h;exact⟨hc.1,hc.2.1,hc.2.2,rfl⟩
 .cases h
theorem xh (Fl:X.A.units+64<cLine):t9 X (compareOp .In) inD:=⟨_,Qx Fl,λgs S H dx dy x y d R _ _ r1 r2 e k=>by
 cases dy with
 | tuple ds =>
  obtain⟨b,hb,rfl⟩:=cr.mp (show (Ep dx ds).map ad.bool=some d from e);obtain⟨c1,c2,c3,rfl⟩:=zt hb;obtain⟨a,xs,rfl,ha,rs⟩:=r2.eX;exact⟨gs,S,dx,ds,a,xs,r1,rfl,.inr ha,rs,c1,c2,c3,k _ H (.bl _) (.refl _ _)⟩
 | list ds =>
  obtain⟨b,hb,rfl⟩:=cr.mp (show (Ep dx ds).map ad.bool=some d from e);obtain⟨c1,c2,c3,rfl⟩:=zt hb;obtain⟨a,xs,rfl,ha,rs⟩:=r2.eY;exact⟨gs,S,dx,ds,a,xs,r1,rfl,.inl ha,rs,c1,c2,c3,k _ H (.bl _) (.refl _ _)⟩
 | _=>cases e⟩
theorem AM (Fl:X.A.units+64<cLine):t9 X (compareOp .NotIn) vp:=⟨_,MF Fl,λgs S H dx dy x y d R _ _ r1 r2 e k=>by
 cases dy with
 | tuple ds =>
  obtain⟨b,hb,rfl⟩:=cr.mp (show (Ep dx ds).map (λb=>ad.bool (!b))=some d from e);obtain⟨c1,c2,c3,rfl⟩:=zt hb;obtain⟨a,xs,rfl,ha,rs⟩:=r2.eX;exact⟨gs,S,dx,ds,a,xs,r1,rfl,.inr ha,rs,c1,c2,c3,k _ H (.bl _) (.refl _ _)⟩
 | list ds =>
  obtain⟨b,hb,rfl⟩:=cr.mp (show (Ep dx ds).map (λb=>ad.bool (!b))=some d from e);obtain⟨c1,c2,c3,rfl⟩:=zt hb;obtain⟨a,xs,rfl,ha,rs⟩:=r2.eY;exact⟨gs,S,dx,ds,a,xs,r1,rfl,.inl ha,rs,c1,c2,c3,k _ H (.bl _) (.refl _ _)⟩
 | _=>cases e⟩
end
noncomputable def d7 (x y:ad):Option ad:=match x,y with | .tuple ds,.int i=>lV ds i | .list ds,.int i=>lV ds i | _,_=>none
theorem AO (r:dH S H ds xs)(h:lV ds i=some d):∃v,lV xs i=some v/\eF S H d v:=by
 unfold lV at h ⊢;rw[r.length]
 cases e:LK ds.length i with
 | none=>rw[e] at h;cases h
 | some j =>
  rw[e] at h;obtain⟨x,hx,rx⟩:=r.at (show ds[j]? = some d from h);exact⟨x,hx,rx⟩
section
variable {X:Cx}{M:Fr}{a b e:Expr}{ua ub:UX}{pos p2:Pos}
theorem dP (ha:KL X M a ua)(hb:KL X M b ub)(hs:tY b:=by exact λ_ _=>rfl):KE X M (.Subscript a b pos) (dB d7 ua ub) :=
 .of (Aj ((ixT X.K).or (VJ X.K)) ha.run hb.run hs) λσ H R env pn S n Q ok hu k=>Em (λgs S H dx dy x y d R _ _ r1 r2 e k=>by
  cases dx with
  | tuple ds=>cases dy with
   | int i =>
    obtain⟨a,xs,rfl,sq,_,rs⟩:=r1.K8 (K:=X.K);obtain⟨v,hv,rv⟩:=AO rs (show lV ds i=some d from e);exact .inl ⟨a,xs,i,v,rfl,r2.eK,sq,hv,k v H rv (.refl _ _)⟩
   | _=>cases e
  | list ds=>cases dy with
   | int i =>
    obtain⟨a,xs,rfl,sq,_,rs⟩:=r1.Of (K:=X.K);obtain⟨v,hv,rv⟩:=AO rs (show lV ds i=some d from e);exact .inr ⟨a,xs,i,v,rfl,r2.eK,sq,hv,k v H rv (.refl _ _)⟩
   | _=>cases e
  | _=>cases dy<;>cases e) ok hu k
noncomputable abbrev UO:=eU->Int->(Option Int->Int->Prop)->Prop
structure KO (X:Cx) (M:Fr) (e:Option Expr) (u:UO):Prop where run:∃t,QO X e t/\∀σ H R env pn S n Q,dQ M env pn σ S H n->u env n Q->(∀o H' n',Ext M.gs H H'->M.G H' n'->Q o n'->R o H')->t σ H R
noncomputable def ku:UO:=λ_ n Q=>Q none n
noncomputable def j2 (u:UX):UO:=λenv n Q=>u env n λd n1=>match d with | .int i=>Q (some i) n1 | _=>False
theorem eO:KO X M none ku:=⟨_,D6,λσ H R env pn S n Q ok hu k=>k none H n (.refl _ _) ok.gd hu⟩
theorem eP (h:KE X M e ua):KO X M (some e) (j2 ua):=⟨_,D7 h.run,λσ H R env pn S n Q ok hu k=>⟨env,pn,S,n,_,ok,hu,λv H1 d n1 r1 x1 g1 _ q=>by
 cases d with
 | int i=>exact⟨i,r1.eK,k _ H1 n1 x1 g1 q⟩
 | _=>exact False.elim q⟩⟩
noncomputable def jk {α:Type}(xs:List α)(lo hi:Option Int):List α:=(xs.drop (HT.gZ xs.length 0 lo)).take (HT.gZ xs.length xs.length hi - HT.gZ xs.length 0 lo)
noncomputable def Et (d:ad)(lo hi:Option Int):Option ad:=match d with | .tuple ds=>some (.tuple (jk ds lo hi)) | .list ds=>some (.list (jk ds lo hi)) | _=>none
noncomputable def mE (u:UX)(ul uh:UO):UX:=λenv n Q=>u env n λd n1=>ul env n1 λlo n2=>uh env n2 λhi n3=>mD (Et d lo hi) λd=>Q d n3
theorem vw (r:dH S H ds xs)(lo hi:Option Int):dH S H (jk ds lo hi) (qg xs lo hi):=by
 unfold jk qg;rw[r.length];exact (r.drop _).take _
theorem FR {S:List Addr}{H:Hp}{ds:List ad}{xs:List V}(r:dH S H ds xs){lo hi:Option Int}(h:qg xs lo hi=xs):jk ds lo hi=ds:=by
 have:=vw r lo hi;rw[h] at this;exact dH.one this r
theorem mO {lo hi:Option Expr}{ul uh:UO}(he:KL X M e ua)(hl:KO X M lo ul)(hu:KO X M hi uh):KE X M (.Subscript e (.Slice lo hi none p2) pos) (mE ua ul uh):=by
 obtain⟨tl,q1,l1⟩:=hl.run;obtain⟨th,q2,l2⟩:=hu.run;refine .of (u0 ((slT X.K).or (Zk X.K)) he.run q1 q2) λσ H R env pn S n Q ok hu k=>⟨env,pn,S,n,_,ok,hu,λv H1 d n1 r1 x1 g1 _ q=>?_⟩;refine l1 σ H1 _ env pn S n1 _ (ok.step x1 g1) q λlo H2 n2 x2 g2 q=>?_;refine l2 σ H2 _ env pn S n2 _ ((ok.step x1 g1).step x2 g2) q λhi H3 n3 x3 g3 q=>?_;obtain⟨d',e,q⟩:=q;have Og:=((ok.step x1 g1).step x2 g2).step x3 g3;have r3:=(r1.ext ok.wL x2).ext ok.wL x3;have Qy:=(x1.trans x2).trans x3
 cases d with
 | tuple ds =>
  cases e;obtain⟨a,xs,rfl,sq,ha,rs⟩:=r3.K8 (K:=X.K);refine .inl ⟨a,xs,rfl,sq,λh=>?_,λp hp=>k _ _ _ n3 (qG hp (vw rs lo hi)) (Qy.trans (.new hp)) (M.iW g3 (.new (S:=[]) hp) (!4)) q⟩;have:=FR rs h;exact k _ H3 _ n3 (.tup ha (by rw[this];exact rs)) Qy g3 q
 | list ds =>
  cases e;obtain⟨a,xs,rfl,sq,ha,rs⟩:=r3.Of (K:=X.K);exact .inr ⟨a,xs,rfl,sq,λp hp=>k _ _ _ n3 (qH Og.has hp (vw rs lo hi)) (Qy.trans (.new hp)) (M.iW g3 (.new (S:=[]) hp) (!4)) q⟩
 | _=>cases e
end
structure nR (X:Cx) (fv:af) (f:List ad->Option ad):Prop where
 ex:∃r,gn X fv r/\∀gs S H ds vs d (R:VK),(∀a∈S,H a≠none)->l6 H->nP gs S H ds vs->f ds=some d->(∀v H',eF S H' d v->Ext [] H H'->R v H')->r vs H R
noncomputable def gM (f:List ad->Option ad)(ua:UA):UX:=λenv n Q=>ua env n λds n1=>mD (f ds) λd=>Q d n1
section
variable {X:Cx}{M:Fr}{e:Expr}{es:List Expr}{ua:UA}{p pos:Pos}{f:List ad->Option ad}{id T:String}{x:Str}
theorem Oh (hr:∀gs S H ds vs d (R:VK),(∀a∈S,H a≠none)->l6 H->nP gs S H ds vs->f ds=some d->(∀v H',eF S H' d v->Ext [] H H'->R v H')->r vs H R)(ok:dQ M env pn σ S H n)(hu:gM f ua env n Q)(k:∀v H' d n',eF S H' d v->Ext M.gs H H'->M.G H' n'->Q d n'->R v H'):SJ r (IU M ua) σ H R :=
 ⟨env,pn,S,n,_,ok,hu,λvs H1 ds n1 r1 x1 g1 sz q=>by
  obtain⟨d,e,q⟩:=q;exact hr M.gs S H1 ds vs d R (ok.step x1 g1).has sz r1 e λv H2 r2 x2=>k v H2 d n1 r2 (x1.trans (x2.mono (!4))) (M.iW g1 x2 (!4)) q⟩
theorem h9 (hc:nR X (.builtin id) f)(hm:X.mg x=none)(ha:Qr X M (e::es) ua)(hg:Gl X x:=by rfl)(hv:bootBuiltins x=some (.builtin id):=by decide +kernel)(hn:x ≠ "__name__" := by decide)(nB:(x == ("__debug__" : Str))=false:=by decide) :
  KE X M (.Call (.Name x p) (e::es) [] pos) (gM f ua):=by
 obtain⟨r,h1,h2⟩:=hc.ex;exact .of (i5 h1 hg hm hv ha.run hn nB) λσ H R env pn S n Q ok hu k=>Oh h2 ok hu k
theorem tJ (hc:nR X (.type T) f)(hm:X.mg x=none)(ha:Qr X M (e::es) ua)(hg:Gl X x:=by rfl)(hv:bootBuiltins x=some (.type T):=by decide +kernel)(hn:x ≠ "__name__" := by decide)(nB:(x == ("__debug__" : Str))=false:=by decide) :
  KE X M (.Call (.Name x p) (e::es) [] pos) (gM f ua):=by
 obtain⟨r,h1,h2⟩:=hc.ex;exact .of (f' h1 hg hm hv ha.run hn nB) λσ H R env pn S n Q ok hu k=>Oh h2 ok hu k
end
theorem nP.one (h:nP gs S H [d] vs):∃v,vs=[v]/\fA gs S H d v:=let ⟨v,r,e,h1,h2⟩:=h;⟨v,by rw[e,show r=[] from h2],h1⟩
theorem nP.two (h:nP gs S H [d,e] vs):∃v w,vs=[v,w]/\fA gs S H d v/\fA gs S H e w:=let ⟨v,r,e,h1,h2⟩:=h;let ⟨w,e2,h3⟩:=nP.one h2;⟨v,w,by rw[e,e2],h1,h3⟩
noncomputable def eB:List ad->Option ad | [.tuple ds]=>some (.int ds.length) | [.list ds]=>some (.int ds.length) | _=>none
noncomputable def sY:List ad->Option ad | [.int i,.int j]=>some (.int (if j<i then j else i)) | _=>none
noncomputable def sZ:List ad->Option ad | [.int i,.int j]=>some (.int (if j > i then j else i)) | _=>none
noncomputable def intD:List ad->Option ad | [.int i]=>some (.int i) | [.bool b]=>some (.int (if b then 1 else 0)) | _=>none
noncomputable def fX:List ad->Option ad | [.tuple ds]=>some (.tuple ds) | [.list ds]=>some (.tuple ds) | _=>none
section
variable {X:Cx}
theorem gU:nR X (.builtin "len") eB:=⟨_,P9 X.K,λgs S H ds vs d R _ _ rs e k=>by
 rcases ds with _ | ⟨d1,_ | ⟨d2,l⟩⟩
 .cases e
 .obtain⟨v,rfl,r⟩:=rs.one
  cases d1 with
  | tuple ds =>
   cases e;obtain⟨a,xs,rfl,sq,_,rr⟩:=r.K8 (K:=X.K);refine⟨a,xs,rfl,.inr sq,?_⟩;rw[rr.length];exact k _ H (.int _) (.refl _ _)
  | list ds =>
   cases e;obtain⟨a,xs,rfl,sq,_,rr⟩:=r.Of (K:=X.K);refine⟨a,xs,rfl,.inl sq,?_⟩;rw[rr.length];exact k _ H (.int _) (.refl _ _)
  | _=>cases e
 .cases d1<;>cases e⟩
theorem AQ {f:List ad->Option ad}(hf:∀ds d,f ds=some d->∃i j,ds=[.int i,.int j]){gs S:List Addr}{H:Hp}{ds:List ad}{vs:List V}{d:ad}(rs:nP gs S H ds vs)(e:f ds=some d):∃i j,ds=[.int i,.int j]/\vs=[.int i,.int j]:=by
 obtain⟨i,j,rfl⟩:=hf _ _ e;obtain⟨v,w,rfl,r,r2⟩:=rs.two;exact⟨i,j,rfl,by rw[r.eK,r2.eK]⟩
theorem MG (ds:List ad)(d:ad)(e:sY ds=some d):∃i j,ds=[.int i,.int j]:=by
 unfold sY at e;split at e
 .exact⟨_,_,rfl⟩
 .cases e
theorem MH (ds:List ad)(d:ad)(e:sZ ds=some d):∃i j,ds=[.int i,.int j]:=by
 unfold sZ at e;split at e
 .exact⟨_,_,rfl⟩
 .cases e
theorem I0 (hc:X.calm=true):nR X (.builtin "min") sY:=⟨_,E8 hc,λgs S H ds vs d R _ _ rs e k=>by
 obtain⟨i,j,rfl,rfl⟩:=AQ MG rs e;cases e;exact⟨i,j,rfl,k _ H (.int _) (.refl _ _)⟩⟩
theorem I8 (hc:X.calm=true):nR X (.builtin "max") sZ:=⟨_,E7 hc,λgs S H ds vs d R _ _ rs e k=>by
 obtain⟨i,j,rfl,rfl⟩:=AQ MH rs e;cases e;exact⟨i,j,rfl,k _ H (.int _) (.refl _ _)⟩⟩
theorem Um:nR X (.type "int") intD:=⟨_,rJ,λgs S H ds vs d R _ _ rs e k=>by
 rcases ds with _ | ⟨d1,_ | ⟨d2,l⟩⟩
 .cases e
 .obtain⟨v,rfl,r⟩:=rs.one
  cases d1 with
  | int i=>cases e;exact .inl ⟨i,by rw[r.eK],k _ H (.int _) (.refl _ _)⟩
  | bool i=>cases e;exact .inr ⟨i,by rw[r.iq],k _ H (.int _) (.refl _ _)⟩
  | _=>cases e
 .cases d1<;>cases e⟩
theorem i7:nR X (.type "tuple") fX:=⟨_,CB X.K,λgs S H ds vs d R _ _ rs e k=>by
 rcases ds with _ | ⟨d1,_ | ⟨d2,l⟩⟩
 .cases e
 .obtain⟨v,rfl,r⟩:=rs.one
  cases d1 with
  | tuple ds =>
   cases e;obtain⟨a,xs,rfl,sq,ha,rr⟩:=r.K8 (K:=X.K);exact⟨a,xs,rfl,.inr ⟨sq,k _ H (.tup ha rr) (.refl _ _)⟩⟩
  | list ds =>
   cases e;obtain⟨a,xs,rfl,sq,_,rr⟩:=r.Of (K:=X.K);exact⟨a,xs,rfl,.inl ⟨sq,λl hl=>k _ _ (qG hl rr) (.new hl)⟩⟩
  | _=>cases e
 .cases d1<;>cases e⟩
end
section
theorem fY {α:Type}{l:List (Option α)}{i j:Nat}{x:α}{y:Option α}(h:(l.set i y)[j]? = some (some x)):(i=j/\y=some x)\/(i≠j/\l[j]? = some (some x)):=by
 by_cases e:i=j
 .subst e
  by_cases hl:i<l.length
  .rw[cN hl] at h;exact .inl ⟨rfl,Option.some.inj h⟩
  .rw[bh (by rw[bu];omega)] at h;cases h
 .rw[be e] at h;exact .inr ⟨e,h⟩
theorem oG {α:Type}{l:List (Option α)}{i:Nat}{y:Option α}(h:i<l.length):(l.set i y)[i]? = some y:=cN h
theorem dQ.set (ok:dQ M env pn σ S H n)(r:eF S H d v)(hi:i ∉ M.fd):dQ M (env.set i (some (.s d))) pn (σ.set i (some v)) S H n:=by
 refine⟨λj e he=>?_,λj k ds es a h1 h2 h3 h4=>?_,by rw[bu,bu,ok.len],λj hj=>?_,ok.gd,ok.ext,ok.s0,ok.sn,ok.has,ok.pin⟩
 .have hl:i<env.length->i<σ.length:=λz=>by rw[<- ok.len];exact z
  rcases fY he with⟨rfl,e1⟩ | ⟨ne,e1⟩
  .cases e1
   have:i<env.length:=by
    by_cases z:i<env.length
    .exact z
    .rw[bh (by rw[bu];omega)] at he;cases he
   exact⟨v,oG (hl this),r⟩
  .obtain⟨v',hv,rv⟩:=ok.val j e e1
   exact⟨v',by rw[be ne];exact hv,rv⟩
 .rcases fY h1 with⟨_,e1⟩ | ⟨n1,e1⟩
  .cases e1
  .rcases fY h2 with⟨_,e2⟩ | ⟨n2,e2⟩
   .cases e2
   .rw[be n1] at h3
    rw[be n2] at h4;exact ok.ne j k ds es a e1 e2 h3 h4
 .have:i≠j:=λz=>hi (z ▸ hj)
  rw[be this];exact ok.IS j hj
theorem dQ.anew (ok:dQ M env pn σ S H n)(h0:H a=none):M.H0 a=none:=by
 by_cases z:a∈M.gs
 .exact absurd h0 (M.AJ ok.gd a z)
 .exact ok.ext.fresh z h0
theorem vk.fresh (h:vk M S H e v)(h0:H a=none):vk M (a::S) H e v:=by
 cases e with
 | s d=>exact eF.fresh h0 h
 | o ds =>
  obtain⟨b,xs,e,hb,r,hs,h1⟩:=h;exact⟨b,xs,e,hb,r.fresh h0,ao _ hs,h1⟩
 | x c as =>
  obtain⟨b,dx,vs,e,ha,hd,r,g1,g2⟩:=h;exact⟨b,dx,vs,e,ha,hd,r.fresh h0,g1,g2⟩
 | d b t kvs =>
  obtain⟨e,xs,hb,r,hk,hs,h1⟩:=h;exact⟨e,xs,hb,r.fresh h0,hk,ao _ hs,h1⟩
theorem dQ.Uo (ok:dQ M env pn σ S H n)(h0:H a=none)(h1:H' a=some (.lst xs))(r:dH (a::S) H' ds xs)(x:Ext M.gs H H')(g:M.G H' n')(hi:i ∉ M.fd) :
  dQ M (env.set i (some (.o ds))) pn (σ.set i (some (.ref a))) (a::S) H' n':=by
 have hg:∀b∈M.gs,b∈a::S:=λb hb=>ao _ (ok.wL b hb)
 have ZA:∀(j:Nat) (es:List ad) (b:Addr),env[j]? = some (some (.o es))->σ[j]? = some (some (.ref b))->b≠a:=λj es b e1 e2 z=>by
  obtain⟨v',hv,rv⟩:=ok.val j _ e1;obtain⟨c,xs,e,hc,_,hs,_⟩:=rv;subst e;rw[e2] at hv;cases hv;rw[z] at hs;exact ok.has _ hs h0
 have qb:=ok.step x g;refine⟨λj e he=>?_,λj k wM es b h2 h3 h4 h5=>?_,by rw[bu,bu,ok.len],λj hj=>?_,g,qb.ext,λb hb=>ao _ (ok.s0 b hb),λb hb=>?_,λb hb=>?_,λp hp=>?_⟩
 .rcases fY he with⟨rfl,e1⟩ | ⟨ne,e1⟩
  .cases e1
   have:i<env.length:=by
    by_cases z:i<env.length
    .exact z
    .rw[bh (by rw[bu];omega)] at he;cases he
   exact⟨.ref a,oG (by rw[<- ok.len];exact this),a,xs,rfl,h1,r,aq ..,ok.anew h0⟩
  .obtain⟨v',hv,rv⟩:=ok.val j e e1
   exact⟨v',by rw[be ne];exact hv,(rv.fresh h0).step hg x⟩
 .rcases fY h2 with⟨rfl,e1⟩ | ⟨n1,e1⟩
  .have Xl:i<σ.length:=by
    by_cases z:i<σ.length
    .exact z
    .rw[bh (by rw[bu];omega)] at h4;cases h4
   rw[oG Xl] at h4;cases h4;rcases fY h3 with⟨e3,_⟩ | ⟨n2,e2⟩
   .exact e3
   .rw[be n2] at h5
    exact absurd rfl (ZA k _ _ e2 h5)
  .rw[be n1] at h4
   rcases fY h3 with⟨rfl,e2⟩ | ⟨n2,e2⟩
   .have Xl:i<σ.length:=by
     by_cases z:i<σ.length
     .exact z
     .rw[bh (by rw[bu];omega)] at h5;cases h5
    rw[oG Xl] at h5;cases h5;exact absurd rfl (ZA j _ _ e1 h4)
   .rw[be n2] at h5
    exact ok.ne j k _ _ b e1 e2 h4 h5
 .have:i≠j:=λz=>hi (z ▸ hj)
  rw[be this];exact ok.IS j hj
 .rcases al.mp hb with z | z
  .rw[z];exact .inr (ok.anew h0)
  .exact ok.sn b z
 .rcases al.mp hb with z | z
  .rw[z,h1];simp
  .exact qb.has b z
 .exact ((ok.pin p hp).fresh h0).ext (x.mono hg)
theorem dQ.put (ok:dQ M env pn σ S H n){ds es:List ad}{a:Addr}{xs ys:List V}(he:env[i]? = some (some (.o ds)))(hv:σ[i]? = some (some (.ref a)))(ha:H a=some (.lst xs))(r:dH S H es ys):dQ M (env.set i (some (.o es))) pn σ S (eM H a (.lst ys)) n:=by
 obtain⟨v',Qz,a',qE,e',lW,_,hs,h0⟩:=ok.val i _ he;subst e';rw[hv] at Qz;cases Qz;have x:Ext [a] H (eM H a (.lst ys)):=.set (!4) ha;have xS:Ext S H (eM H a (.lst ys)):=x.mono (by simpa using hs);refine⟨λj e hj=>?_,λj k wM kF b h2 h3 h4 h5=>?_,by rw[bu,ok.len],ok.IS,M.iW ok.gd x (by simpa using h0),ok.ext.WN h0 ha,ok.s0,ok.sn,λb hb=>?_,λp hp=>(ok.pin p hp).ext xS⟩
 .rcases fY hj with⟨rfl,e1⟩ | ⟨ne,e1⟩
  .cases e1
   exact⟨_,hv,a,ys,rfl,dG,r.ext xS,hs,h0⟩
  .obtain⟨w,hw,rA⟩:=ok.val j e e1
   refine⟨w,hw,?_⟩
   cases e with
   | s d=>exact eF.ext xS rA
   | o kF =>
    obtain⟨b,zs,e2,hb,r2,I9,Ja⟩:=rA;subst e2;have:b≠a:=λz=>ne (ok.ne i j _ _ a he e1 hv (z ▸ hw));exact⟨b,zs,rfl,by rw[dJ this];exact hb,r2.ext xS,I9,Ja⟩
   | x c as =>
    obtain⟨b,dx,vs,e2,hb,hd,r2,g1,g2⟩:=rA;exact⟨b,dx,vs,e2,by rw[dJ (λz=>by rw[z,ha] at hb;cases hb)];exact hb,by rw[dJ (λz=>by rw[z,ha] at hd;cases hd)];exact hd,r2.ext xS,g1,g2⟩
   | d b t kvs =>
    obtain⟨e2,zs,hb,r2,CC,I9,Ja⟩:=rA;exact⟨e2,zs,by rw[dJ (λz=>by rw[z,ha] at hb;exact qm hb)];exact hb,r2.ext xS,CC,I9,Ja⟩
 .have g1:∃l,env[j]? = some (some (.o l)):=by
   rcases fY h2 with⟨rfl,_⟩ | ⟨_,e1⟩
   .exact⟨_,he⟩
   .exact⟨_,e1⟩
  have g2:∃l,env[k]? = some (some (.o l)):=by
   rcases fY h3 with⟨rfl,_⟩ | ⟨_,e1⟩
   .exact⟨_,he⟩
   .exact⟨_,e1⟩
  obtain⟨l1,g1⟩:=g1;obtain⟨l2,g2⟩:=g2;exact ok.ne j k _ _ b g1 g2 h4 h5
 .by_cases z:b=a
  .rw[z,dG];simp
  .rw[dJ z];exact ok.has b hb
theorem dQ.freeze (ok:dQ M env pn σ S H n){ds:List ad}(he:env[i]? = some (some (.o ds))):∃a xs S',σ[i]? = some (some (.ref a))/\H a=some (.lst xs)/\eF S' H (.list ds) (.ref a)/\dQ M (env.set i (some (.s (.list ds)))) pn σ S' H n:=by
 obtain⟨v',hv,a,xs,rfl,ha,r,hs,h0⟩:=ok.val i _ he;have less:∀b∈S.filter (·≠a),b∈S:=λb hb=>(aJ.mp hb).1;have hr:eF (S.filter (·≠a)) H (.list ds) (.ref a):=.lst ha (!4) (r.less less);refine⟨a,xs,S.filter (·≠a),hv,ha,hr,λj e hj=>?_,λj k wM kF b h2 h3 h4 h5=>?_,by rw[bu,ok.len],ok.IS,ok.gd,ok.ext,λb hb=>?_,λb hb=>ok.sn b (less b hb),λb hb=>ok.has b (less b hb),λp hp=>(ok.pin p hp).less less⟩
 .rcases fY hj with⟨rfl,e1⟩ | ⟨ne,e1⟩
  .cases e1
   exact⟨_,hv,hr⟩
  .obtain⟨w,hw,rA⟩:=ok.val j e e1
   refine⟨w,hw,?_⟩
   cases e with
   | s d=>exact eF.less less rA
   | o kF =>
    obtain⟨b,zs,e2,hb,r2,I9,Ja⟩:=rA;subst e2;have:b≠a:=λz=>ne (ok.ne i j _ _ a he e1 hv (z ▸ hw));exact⟨b,zs,rfl,hb,r2.less less,aJ.mpr ⟨I9,by simpa using this⟩,Ja⟩
   | x c as =>
    obtain⟨b,dx,vs,e2,hb,hd,r2,g1,g2⟩:=rA;exact⟨b,dx,vs,e2,hb,hd,r2.less less,g1,g2⟩
   | d b t kvs =>
    obtain⟨e2,zs,hb,r2,CC,I9,Ja⟩:=rA;have:b≠a:=λz=>by rw[z,ha] at hb;exact qm hb
    exact⟨e2,zs,hb,r2.less less,CC,aJ.mpr ⟨I9,by simpa using this⟩,Ja⟩
 .rcases fY h2 with⟨_,e1⟩ | ⟨_,e1⟩
  .cases e1
  .rcases fY h3 with⟨_,e2⟩ | ⟨_,e2⟩
   .cases e2
   .exact ok.ne j k _ _ b e1 e2 h4 h5
 .refine aJ.mpr ⟨ok.s0 b hb,?_⟩
  have:b≠a:=λz=>M.AK b hb (z ▸ h0);simpa using this
theorem dQ.pins (ok:dQ M env pn σ S H n)(h:∀p∈qn,p∈pn):dQ M env qn σ S H n:=⟨ok.val,ok.ne,ok.len,ok.IS,ok.gd,ok.ext,ok.s0,ok.sn,ok.has,λp hp=>ok.pin p (h p hp)⟩
theorem dQ.Jb (ok:dQ M env pn σ S H n)(h:eF S H d v):dQ M env ((d,v)::pn) σ S H n:=⟨ok.val,ok.ne,ok.len,ok.IS,ok.gd,ok.ext,ok.s0,ok.sn,ok.has,λp hp=>by
 rcases al.mp hp with rfl | hp
 .exact h
 .exact ok.pin p hp⟩
end
noncomputable abbrev UG:=ad->eU->(eU->Prop)->Prop
noncomputable def gO (i:Nat):UG:=λd env Q=>Q (env.set i (some (.s d)))
noncomputable def AR:List UG->List ad->eU->(eU->Prop)->Prop
 | [],[],env,Q=>Q env
 | u::us,d::ds,env,Q=>u d env λd5=>AR us ds d5 Q
 | _,_,_,_=>False
noncomputable def Hd (us:List UG):UG:=λd env Q=>match d with | .tuple ds=>AR us ds env Q | _=>False
noncomputable def Oi (M:Fr)(u:UG):TG:=λv σ H R=>∃env pn S n d N,dQ M env pn σ S H n/\eF S H d v/\u d env N/\∀d5 σ',dQ M d5 pn σ' S H n->N d5->R σ' H
noncomputable def QB (M:Fr)(us:List UG):O3:=λvs σ H R=>∃env pn S n ds N,dQ M env pn σ S H n/\dH S H ds vs/\AR us ds env N/\∀d5 σ',dQ M d5 pn σ' S H n->N d5->R σ' H
structure KG (X:Cx) (M:Fr) (e:Expr) (u:UG):Prop where run:QG X e (Oi M u)
structure VW (X:Cx) (M:Fr) (es:List Expr) (us:List UG):Prop where run:NP X es (QB M us)
theorem QG.weaken (h:QG X e t)(w:∀v σ H Q,t' v σ H Q->t v σ H Q):QG X e t':=⟨λpins s σ H v u D I r q=>h.run pins s σ H v u D I r (w _ σ H _ q)⟩
theorem NP.weaken (h:NP X es t)(w:∀v σ H Q,t' v σ H Q->t v σ H Q):NP X es t':=⟨λpins s σ H v u D I r q=>h.run pins s σ H v u D I r (w _ σ H _ q)⟩
section
theorem g_n (hN:X.N.Nodup)(hx:Loc X.env.scope x)(hi:X.N[i]? = some x:=by rfl)(hf:X.fn x=true\/X.env.scope.names.lookup x=some .local:=by (first | exact .inl rfl | exact .inr rfl | assumption))(hfd:i ∉ M.fd:=by decide):KG X M (.Name x pos) (gO i) :=
 ⟨(qp hN hi hx hf).weaken λv σ H R h=>VT h λenv pn S n d N h=>h.2.2.2 _ _ (h.1.set h.2.1 hfd) h.2.2.1⟩
theorem rS:VW X M [] []:=⟨L7.weaken λvs σ H R h=>VT h λenv pn S n ds N h=>by
 obtain⟨ok,r,hu,k⟩:=h
 cases ds with
 | nil=>exact⟨r.gc,k _ _ ok hu⟩
 | cons d ds=>exact False.elim hu⟩
theorem tK (h:KG X M e u)(hr:VW X M es us)(hs:(assignEach (e::es) X.env).map (·.2)=assign e X.env::(assignEach es X.env).map (·.2):=by rfl):VW X M (e::es) (u::us) :=
 ⟨(Ig h.run hr.run hs).weaken λvs σ H R h=>VT h λenv pn S n ds N h=>by
  obtain⟨ok,r,hu,k⟩:=h
  cases ds with
  | nil=>exact False.elim hu
  | cons d ds =>
   obtain⟨x,t,rfl,r1,r2⟩:=r.of_cons;exact⟨x,t,rfl,env,pn,S,n,d,_,ok,r1,hu,λd5 σ' qb q=>⟨d5,pn,S,n,ds,N,qb,r2,q,k⟩⟩⟩
theorem AS:∀{us:List UG} {ds:List ad} {env:eU} {Q:eU->Prop},AR us ds env Q->(∀u∈us,∀d env (Q:eU->Prop),u d env Q->∃d5,Q d5)->ds.length=us.length
 | [],[],_,_,_,_=>rfl
 | [],_::_,_,_,h,_=>False.elim h
 | _::_,[],_,_,h,_=>False.elim h
 | u::us,d::ds,env,Q,h,k=>by
  obtain⟨d5,h'⟩:=k u (aq ..) d env _ h;simp only[aj];rw[AS h' λw hw=>k w (ao _ hw)]
theorem Up:∀d env (Q:eU->Prop),gO i d env Q->∃d5,Q d5:=λ_ _ _ h=>⟨_,h⟩
theorem RN (hc:X.calm=true)(h:VW X M es us)(hu:∀u∈us,∀d env (Q:eU->Prop),u d env Q->∃d5,Q d5)(hl:us.length=n')(hn:(assignEach es X.env).length=n':=by rfl)(tW:(assignEach es X.env).findIdx? (·.1)=none:=by rfl):KG X M (.Tuple es k pos) (Hd us) :=
 ⟨(P5 hc h.run hn tW).weaken λv σ H R h=>VT h λenv pn S n d N h=>by
  obtain⟨ok,r,hh,k⟩:=h
  cases d with
  | tuple ds =>
   obtain⟨a,xs,rfl,ha,rs⟩:=r.eX;exact⟨a,xs,rfl,jl.of ha,by rw[rs.length,AS hh hu,hl],env,pn,S,n,ds,N,ok,rs,hh,k⟩
  | _=>exact False.elim hh⟩
end
structure B4 (S:List Addr) (J:It) (its:List ad) (H:Hp):Prop where
 go:∀i,i<its.length->J.go i H
 KR:∀i x H',i<its.length->J.KR i H x H'->∃d,its[i]? = some d/\Ext [] H H'/\eF S H' d x
 stop:∀i,its.length<=i->J.stop i H
noncomputable abbrev UI:=eU->Int->(List ad->eU->Int->Prop)->Prop
noncomputable abbrev UJ:=eU->Int->(List ad->Int->Prop)->Prop
theorem QI.l7 (h:QI X tg iter wi):QI X tg iter (λσ H R=>wi σ H λJ H1=>l6 H1->R J H1) :=
 ⟨λpins s σ H R I q=>f6 (h.run pins s σ H _ I q) λv s1 q1=>f6 q1 λit s2 ⟨a,fp,tn,J,H',e,I2,t,t0,f,r⟩=>⟨a,fp,tn,J,H',e,I2,t,t0,f,r I2.hok.l7⟩⟩
structure KI (X:Cx) (M:Fr) (tg iter:Expr) (u:UI):Prop where
 ex:∃wi,QI X tg iter wi/\∀σ H R env pn S n Q,dQ M env pn σ S H n->u env n Q ->
  (∀J H' its d5 S' n' p,dQ M d5 (p++pn) σ S' H' n'->(∀S2 H2,(∀q∈p,eF S2 H2 q.1 q.2)->B4 S2 J its H2)->Q its d5 n'->R J H')->wi σ H R
structure KJ (X:Cx) (M:Fr) (tg iter:Expr) (u:UJ):Prop where
 ex:∃wi,QI X tg iter wi/\∀σ H R env pn S n Q,dQ M env pn σ S H n->u env n Q ->
  (∀J H' its n',Ext M.gs H H'->M.G H' n'->(∀H2,Ext M.gs H' H2->B4 S J its H2)->its.length<=av->Q its n'->R J H')->wi σ H R
theorem C2 {K:W.Frag}{S:List Addr}{H:Hp}{a:Addr}{xs:List V}{ds:List ad}(ha:H a=some (.tup xs))(r:dH S H ds xs):B4 S (Lo K a) ds H :=
 ⟨λi hi=>⟨xs,xs[i]'(by rw[r.length];exact hi),jl.of ha,!4⟩,λi x H' _ ⟨e,y⟩=>by
  subst e;obtain⟨d,hd,rd⟩:=r.get (y xs (jl.of ha));exact⟨d,hd,.refl _ _,rd⟩,λi hi=>⟨xs,jl.of ha,by rw[r.length];exact hi⟩⟩
theorem zu {K:W.Frag}{S:List Addr}{H:Hp}{a:Addr}{xs:List V}{ds:List ad}(ha:H a=some (.lst xs))(r:dH S H ds xs):B4 S (Ln K a) ds H :=
 ⟨λi hi=>⟨xs,xs[i]'(by rw[r.length];exact hi),gY.of ha,!4⟩,λi x H' _ ⟨e,y⟩=>by
  subst e;obtain⟨d,hd,rd⟩:=r.get (y xs (gY.of ha));exact⟨d,hd,.refl _ _,rd⟩,λi hi=>⟨xs,gY.of ha,by rw[r.length];exact hi⟩⟩
noncomputable def iw (ds:List ad):List ad:=ds.zipIdx.map λp=>.tuple [.int (p.2:Nat),p.1]
theorem kx (ds:List ad):(iw ds).length=ds.length:=by simp[iw]
theorem AU {ds:List ad}{i:Nat}{d:ad}(h:ds[i]? = some d):(iw ds)[i]? = some (.tuple [.int (i:Nat),d]):=by
 unfold iw;rw[aB,List.getElem?_zipIdx,h];simp
theorem AV {K:W.Frag}{S:List Addr}{H:Hp}{a:Addr}{xs:List V}{ds:List ad}(ha:H a=some (.tup xs))(r:dH S H ds xs):B4 S (TJ K a) (iw ds) H :=
 ⟨λi hi=>⟨xs,xs[i]'(by rw[r.length,<- kx];exact hi),jl.of ha,!4⟩,λi x H' _ ⟨T,xi,e1,hT,e2,Xm⟩=>by
  subst e1 e2;obtain⟨d,hd,rd⟩:=r.get (Xm xs (jl.of ha));exact⟨_,AU hd,.new hT,.tup dG (.cons (.int _) (.cons (rd.ext (.new hT)) .nil))⟩,λi hi=>⟨xs,jl.of ha,by rw[r.length,<- kx];exact hi⟩⟩
theorem AW {K:W.Frag}{S:List Addr}{H:Hp}{a:Addr}{xs:List V}{ds:List ad}(ha:H a=some (.lst xs))(r:dH S H ds xs):B4 S (TU K a) (iw ds) H :=
 ⟨λi hi=>⟨xs,xs[i]'(by rw[r.length,<- kx];exact hi),gY.of ha,!4⟩,λi x H' _ ⟨T,xi,e1,hT,e2,Xm⟩=>by
  subst e1 e2;obtain⟨d,hd,rd⟩:=r.get (Xm xs (gY.of ha));exact⟨_,AU hd,.new hT,.tup dG (.cons (.int _) (.cons (rd.ext (.new hT)) .nil))⟩,λi hi=>⟨xs,gY.of ha,by rw[r.length,<- kx];exact hi⟩⟩
noncomputable def nC (lo:Int)(n:Nat):List ad:=(List.range n).map λ(k:Nat)=>.int (lo+k)
theorem Jc {S:List Addr}{H:Hp}{lo:Int}{n:Nat}:B4 S (VC lo n) (nC lo n) H :=
 have hl:(nC lo n).length=n:=by simp[nC]
 ⟨λi hi=>by rw[hl] at hi;exact hi,λi x H' hi ⟨e1,e2⟩=>by
  subst e1 e2;rw[hl] at hi;exact⟨.int (lo+(i:Nat)),by simp[nC,List.getElem?_range hi],.refl _ _,.int _⟩,λi hi=>by rw[hl] at hi;exact hi⟩
noncomputable def MI (i:Nat):UI:=λenv n Q=>match env[i]? with | some (some (.s (.tuple ds)))=>Q ds env n | some (some (.s (.list ds)))=>Q ds env n | some (some (.o ds))=>Q ds (env.set i (some (.s (.list ds)))) n | _=>False
noncomputable def jr (d:ad):Option (List ad):=match d with | .tuple ds=>some ds | .list ds=>some ds | _=>none
noncomputable def Jd (u:UX):UI:=λenv n Q=>u env n λd n1=>mD (jr d) λds=>Q ds env n1
noncomputable def vx (u:UX):UJ:=λenv n Q=>u env n λd n1=>mD (jr d) λds=>Q ds n1
noncomputable def MJ (u:UX):UJ:=λenv n Q=>u env n λd n1=>mD (jr d) λds=>Q (iw ds) n1
noncomputable def Uq (u:UX):UI:=λenv n Q=>u env n λd n1=>mD (jr d) λds=>Q (iw ds) env n1
noncomputable def FT (u:UX):UJ:=λenv n Q=>u env n λd n1=>match d with | .int j=>(-(2 ^ 62)<=j/\j<=16777216)/\Q (nC 0 j.toNat) n1 | _=>False
noncomputable def MK (u:UX):UI:=λenv n Q=>u env n λd n1=>match d with | .int j=>-(2 ^ 62)<=j/\j<2 ^ 62/\Q (nC 0 j.toNat) env n1 | _=>False
noncomputable def Xn (u w:UX):UJ:=λenv n Q=>u env n λd n1=>w env n1 λe n2=>match d,e with | .int i,.int j=>(-(2 ^ 62)<=i/\i<2 ^ 62/\-(2 ^ 62)<=j/\j<2 ^ 62)/\j - i<=16777216/\Q (nC i (j - i).toNat) n2 | _,_=>False
noncomputable def Xo (u w:UX):UI:=λenv n Q=>u env n λd n1=>w env n1 λe n2=>match d,e with | .int i,.int j=>(-(2 ^ 62)<=i/\i<2 ^ 62/\-(2 ^ 62)<=j/\j<2 ^ 62)/\Q (nC i (j - i).toNat) env n2 | _,_=>False
noncomputable def Xq (K:W.Frag)(te:TE):TI:=λσ H R=>te σ H λx H1=>∃a,x=.ref a/\(((∃xs,gY K H1 a xs)/\R (Ln K a) H1)\/((∃xs,jl K H1 a xs)/\R (Lo K a) H1))
noncomputable def Xr (K:W.Frag)(ta:TA):TI:=λσ H R=>ta σ H λvs H1=>∃a,vs=[.ref a]/\(((∃xs,gY K H1 a xs)/\R (TU K a) H1)\/((∃xs,jl K H1 a xs)/\R (TJ K a) H1))
section
variable {X:Cx}{M:Fr}{tg e a b:Expr}{u w:UX}{p pos Mm:Pos}{Aq:List Expr}{k:Nat}
theorem C3 (h:QE X e te):QI X tg e (Xq X.K te):=by
 refine⟨λpins s σ H R I q=>f6 (h.run pins s σ H _ I q) λv s1 ⟨x,H1,I1,r1,q1⟩=>?_⟩;obtain⟨a,e,q1⟩:=q1;subst e;cases r1;rcases q1 with⟨⟨xs,hq⟩,q⟩ | ⟨⟨xs,hq⟩,q⟩
 .obtain⟨its,rv,p,hz⟩:=I1.list hq
  refine wpAny_pyIter_list p.isList ?_;refine⟨s1.heap.objs.size,[s1.heap.objs.size],_,_,H1,rfl,I1.kept (t':=s1.toks) λb o e=>ai _ e,xv a _,⟨_,aE _ rfl,rfl,rfl⟩,λb hb=>?_,q⟩;have e:b=s1.heap.objs.size:=by simpa using hb
  subst e;exact I1.uO (ag _) (I1.hok.fresh (ag _))
 .obtain⟨its,rv,p,hz⟩:=I1.tuple hq
  refine wpAny_pyIter_tuple (show s1.heap.IsTuple a its.toArray from p) ?_;refine⟨s1.heap.objs.size,[s1.heap.objs.size],_,_,H1,rfl,I1.kept (t':=s1.toks) λb o e=>ai _ e,uP a _,⟨_,aE _ rfl,rfl,rfl⟩,λb hb=>?_,q⟩;have e:b=s1.heap.objs.size:=by simpa using hb
  subst e;exact I1.uO (ag _) (I1.hok.fresh (ag _))
theorem Je (hg:Gl X "enumerate")(hm:X.mg "enumerate" = none)(ha:QA X [a] ta):QI X (.Tuple Aq k Mm) (.Call (.Name "enumerate" p) [a] [] pos) (Xr X.K ta):=by
 refine⟨λpins s σ H R I h=>?_⟩;have hs:=fN (env:=X.env) (es:=[]) (lp ha.ns).1;refine Call_ (uM I hg hm (by decide +kernel:bootBuiltins "enumerate" = some (.type "enumerate")) (PyProof.Rows.callWith_type1 (f6 (ha.run pos pins s σ H _ I h) λus s1 ⟨vs,H1,I1,r1,q1⟩=>?_) hs rfl));obtain⟨t,e,q1⟩:=q1;subst e
 have ZC:∀b∈[s1.heap.objs.size+1,s1.heap.objs.size],tG X pins H1 b:=λb hb=>by
  have C4:s1.heap.objs.size<=b:=by
   rcases al.mp hb with z | z
   .rw[z];exact bX _
   .have z':b=s1.heap.objs.size:=by simpa using z
    rw[z'];exact ag _
  obtain⟨p0,p1,p2,p3,p4,p5⟩:=I1.uO C4 (I1.hok.fresh C4);exact⟨p0,p1,p2,p3,p4,p5⟩
 cases r1 with
 | cons r rr =>
  cases rr;cases (show _=af.ref t from r);rcases q1 with⟨⟨xs,hq⟩,q⟩ | ⟨⟨xs,hq⟩,q⟩
  .obtain⟨its,rv,pp,hz⟩:=I1.list hq
   refine call_enumerate_list pp.isList λh' en Xs sz kp=>?_;refine wpAny_pyIter_enum en ?_;have I2:Inv X pins σ H1 { s1 with heap:=h' }:=I1.kept (t':=s1.toks) kp;exact⟨s1.heap.objs.size+1,[s1.heap.objs.size+1,s1.heap.objs.size],_,_,H1,rfl,I2,CQ t _ _ (Nat.succ_ne_self _),⟨⟨_,en⟩,Xs⟩,ZC,q⟩
  .obtain⟨its,rv,pp,hz⟩:=I1.tuple hq
   refine CH (show s1.heap.IsTuple t its.toArray from pp) λh' en Xs sz kp=>?_;refine wpAny_pyIter_enum en ?_;have I2:Inv X pins σ H1 { s1 with heap:=h' }:=I1.kept (t':=s1.toks) kp;exact⟨s1.heap.objs.size+1,[s1.heap.objs.size+1,s1.heap.objs.size],_,_,H1,rfl,I2,CI t _ _ (Nat.succ_ne_self _),⟨⟨_,en⟩,Xs⟩,ZC,q⟩
theorem fA.its {K:W.Frag}{gs S:List Addr}{H:Hp}{d:ad}{v:V}{ds:List ad}(r:fA gs S H d v)(e:jr d=some ds)(hg:∀a∈gs,a∈S):∃a,v=.ref a /\
  (((∃xs,H a=some (.lst xs)/\xs.length=ds.length)/\∀H2,Ext gs H H2->B4 S (Ln K a) ds H2/\B4 S (TU K a) (iw ds) H2)\/((∃xs,H a=some (.tup xs)/\xs.length=ds.length)/\∀H2,Ext gs H H2->B4 S (Lo K a) ds H2/\B4 S (TJ K a) (iw ds) H2)):=by
 cases d with
 | tuple es =>
  cases e;obtain⟨a,xs,rfl,ha,rs⟩:=r.eX;exact⟨a,rfl,.inr ⟨⟨xs,ha,rs.length⟩,λH2 x=>⟨C2 (x.tup _ _ ha) (rs.ext (x.mono hg)),AV (x.tup _ _ ha) (rs.ext (x.mono hg))⟩⟩⟩
 | list es =>
  cases e;have r0:=r;obtain⟨a,xs,rfl,ha,rs⟩:=r.eY;refine⟨a,rfl,.inl ⟨⟨xs,ha,rs.length⟩,λH2 x=>?_⟩⟩;obtain⟨a',qE,e',lW,B5⟩:=(r0.ext hg x).eY;cases e';exact⟨zu lW B5,AW lW B5⟩
 | _=>cases e
theorem ma (h:KL X M e u):KJ X M tg e (vx u):=⟨_,(C3 h.run).l7,λσ H R env pn S n Q ok hu k=>⟨env,pn,S,n,_,ok,hu,λv H1 d n1 r1 x1 g1 sz q=>by
 obtain⟨ds,e,q⟩:=q;obtain⟨a,rfl,h⟩:=r1.its (K:=X.K) e ok.wL;rcases h with⟨⟨xs,ha,hl⟩,h⟩ | ⟨⟨xs,ha,hl⟩,h⟩
 .exact⟨a,rfl,.inl ⟨⟨xs,gY.of ha⟩,λsz=>k _ H1 ds n1 x1 g1 (λH2 x2=>(h H2 x2).1) (by rw[<- hl];exact sz a xs (.inl ha)) q⟩⟩
 .exact⟨a,rfl,.inr ⟨⟨xs,jl.of ha⟩,λsz=>k _ H1 ds n1 x1 g1 (λH2 x2=>(h H2 x2).1) (by rw[<- hl];exact sz a xs (.inr ha)) q⟩⟩⟩⟩
theorem zv (hm:X.mg "enumerate" = none)(h:KL X M a u)(hs:fq a=true:=by rfl)(hg:Gl X "enumerate" := by rfl):KJ X M (.Tuple Aq k Mm) (.Call (.Name "enumerate" p) [a] [] pos) (MJ u) :=
 ⟨_,(Je hg hm (iI h.run fj hs)).l7,λσ H R env pn S n Q ok hu k=>⟨env,pn,S,n,_,ok,hu,λv H1 d n1 r1 x1 g1 sz q=>by
  obtain⟨ds,e,q⟩:=q;obtain⟨a,rfl,h⟩:=r1.its (K:=X.K) e ok.wL;rcases h with⟨⟨xs,ha,hl⟩,h⟩ | ⟨⟨xs,ha,hl⟩,h⟩
  .exact⟨a,rfl,.inl ⟨⟨xs,gY.of ha⟩,λsz=>k _ H1 _ n1 x1 g1 (λH2 x2=>(h H2 x2).2) (by rw[kx,<- hl];exact sz a xs (.inl ha)) q⟩⟩
  .exact⟨a,rfl,.inr ⟨⟨xs,jl.of ha⟩,λsz=>k _ H1 _ n1 x1 g1 (λH2 x2=>(h H2 x2).2) (by rw[kx,<- hl];exact sz a xs (.inr ha)) q⟩⟩⟩⟩
theorem Jf (lo:Int)(n:Nat):(nC lo n).length=n:=by simp[nC]
theorem oH (hm:X.mg "range" = none)(h:KE X M a u)(hs:fq a=true:=by rfl)(hg:Gl X "range" := by rfl):KJ X M tg (.Call (.Name "range" p) [a] [] pos) (FT u) :=
 ⟨_,xI hg hm (iI h.run fj hs),λσ H R env pn S n Q ok hu k=>⟨env,pn,S,n,_,ok,hu,λv H1 d n1 r1 x1 g1 sz q=>by
  cases d with
  | int j =>
   have hsz:av=16777216:=by decide
   exact⟨j,by rw[r1.eK],q.1.1,by have:=q.1.2;omega,k _ H1 _ n1 x1 g1 (λH2 _=>Jc) (by rw[Jf,hsz];have:=q.1.2;omega) q.2⟩
  | _=>exact False.elim q⟩⟩
theorem Eu {K:W.Frag}{d:ad}{v:V}{ds:List ad}(e:jr d=some ds){S:List Addr}{H:Hp}(r:eF S H d v):∃a,v=.ref a /\
  (((∃xs,H a=some (.lst xs))/\∀S2 H2,(∀q∈[(d,v)],eF S2 H2 q.1 q.2)->B4 S2 (Ln K a) ds H2/\B4 S2 (TU K a) (iw ds) H2)\/((∃xs,H a=some (.tup xs))/\∀S2 H2,(∀q∈[(d,v)],eF S2 H2 q.1 q.2)->B4 S2 (Lo K a) ds H2/\B4 S2 (TJ K a) (iw ds) H2)):=by
 cases d with
 | tuple es =>
  cases e;obtain⟨a,xs,rfl,ha,rs⟩:=r.eX;refine⟨a,rfl,.inr ⟨⟨xs,ha⟩,λS2 H2 h=>?_⟩⟩;obtain⟨a',qE,e',lW,B5⟩:=(h _ (ay.mpr rfl)).eX;cases e';exact⟨C2 lW B5,AV lW B5⟩
 | list es =>
  cases e;obtain⟨a,xs,rfl,ha,_,rs⟩:=r.eY;refine⟨a,rfl,.inl ⟨⟨xs,ha⟩,λS2 H2 h=>?_⟩⟩;obtain⟨a',qE,e',lW,_,B5⟩:=(h _ (ay.mpr rfl)).eY;cases e';exact⟨zu lW B5,AW lW B5⟩
 | _=>cases e
theorem AX (h:KE X M e u):KI X M tg e (Jd u):=⟨_,C3 h.run,λσ H R env pn S n Q ok hu k=>⟨env,pn,S,n,_,ok,hu,λv H1 d n1 r1 x1 g1 sz q=>by
 obtain⟨ds,e,q⟩:=q;have rC:=(ok.step x1 g1).Jb r1;obtain⟨a,rfl,h⟩:=Eu (K:=X.K) e r1;rcases h with⟨⟨xs,ha⟩,h⟩ | ⟨⟨xs,ha⟩,h⟩
 .exact⟨a,rfl,.inl ⟨⟨xs,gY.of ha⟩,k _ H1 ds env S n1 [_] rC (λS2 H2 hh=>(h S2 H2 hh).1) q⟩⟩
 .exact⟨a,rfl,.inr ⟨⟨xs,jl.of ha⟩,k _ H1 ds env S n1 [_] rC (λS2 H2 hh=>(h S2 H2 hh).1) q⟩⟩⟩⟩
theorem Jg (hm:X.mg "enumerate" = none)(h:KE X M a u)(hs:fq a=true:=by rfl)(hg:Gl X "enumerate" := by rfl):KI X M (.Tuple Aq k Mm) (.Call (.Name "enumerate" p) [a] [] pos) (Uq u) :=
 ⟨_,Je hg hm (iI h.run fj hs),λσ H R env pn S n Q ok hu k=>⟨env,pn,S,n,_,ok,hu,λv H1 d n1 r1 x1 g1 sz q=>by
  obtain⟨ds,e,q⟩:=q;have rC:=(ok.step x1 g1).Jb r1;obtain⟨a,rfl,h⟩:=Eu (K:=X.K) e r1;rcases h with⟨⟨xs,ha⟩,h⟩ | ⟨⟨xs,ha⟩,h⟩
  .exact⟨a,rfl,.inl ⟨⟨xs,gY.of ha⟩,k _ H1 _ env S n1 [_] rC (λS2 H2 hh=>(h S2 H2 hh).2) q⟩⟩
  .exact⟨a,rfl,.inr ⟨⟨xs,jl.of ha⟩,k _ H1 _ env S n1 [_] rC (λS2 H2 hh=>(h S2 H2 hh).2) q⟩⟩⟩⟩
theorem uf (hm:X.mg "range" = none)(h:KE X M a u)(hs:fq a=true:=by rfl)(hg:Gl X "range" := by rfl):KI X M tg (.Call (.Name "range" p) [a] [] pos) (MK u) :=
 ⟨_,xI hg hm (iI h.run fj hs),λσ H R env pn S n Q ok hu k=>⟨env,pn,S,n,_,ok,hu,λv H1 d n1 r1 x1 g1 sz q=>by
  cases d with
  | int j=>exact⟨j,by rw[r1.eK],q.1,q.2.1,k _ H1 _ env S n1 [] (ok.step x1 g1) (λS2 H2 _=>Jc) q.2.2⟩
  | _=>exact False.elim q⟩⟩
theorem Ur (i:Nat)(hN:X.N[i]? = some x:=by rfl)(hv:DP X.env.scope x:=by (first | exact Or.inl rfl | exact Or.inr (Or.inl rfl) | exact Or.inr (Or.inr rfl)))(hd:(x == ("__debug__" : Str))=false:=by decide)
  (kG:(x == ("__classdict__" : Str))=false:=by decide):KI X M tg (.Name x pos) (MI i):=⟨_,C3 (qv i hN hv hd kG),λσ H R env pn S n Q ok hu k=>by
 unfold MI at hu;split at hu
 .rename_i ds he
  obtain⟨v,hv,r⟩:=ok.val i _ he;obtain⟨a,xs,rfl,ha,rs⟩:=eF.eX r;refine⟨_,hv,a,rfl,.inr ⟨⟨xs,jl.of ha⟩,k _ H ds env S n [(.tuple ds,.ref a)] (ok.Jb r) (λS2 H2 hh=>?_) hu⟩⟩;obtain⟨a',qE,e',lW,B5⟩:=(hh _ (ay.mpr rfl)).eX;cases e';exact C2 lW B5
 .rename_i ds he
  obtain⟨v,hv,r⟩:=ok.val i _ he;obtain⟨a,xs,rfl,ha,_,rs⟩:=eF.eY r;refine⟨_,hv,a,rfl,.inl ⟨⟨xs,gY.of ha⟩,k _ H ds env S n [(.list ds,.ref a)] (ok.Jb r) (λS2 H2 hh=>?_) hu⟩⟩;obtain⟨a',qE,e',lW,_,B5⟩:=(hh _ (ay.mpr rfl)).eY;cases e';exact zu lW B5
 .rename_i ds he
  obtain⟨a,xs,S',hv,ha,r,qb⟩:=ok.freeze he;refine⟨_,hv,a,rfl,.inl ⟨⟨xs,gY.of ha⟩,k _ H ds _ S' n [(.list ds,.ref a)] (qb.Jb r) (λS2 H2 hh=>?_) hu⟩⟩;obtain⟨a',qE,e',lW,_,B5⟩:=(hh _ (ay.mpr rfl)).eY;cases e';exact zu lW B5
 .exact hu.elim⟩
end
noncomputable def dv (u w:US):US:=λE env n=>u { E with nx:=w E } env n
noncomputable def FU (u w:US):US:=λE env n=>∃C:eU->Int->Prop,u { E with nx:=C } env n/\∀d5 n',C d5 n'->w E d5 n'
noncomputable def d8:US:=λE env n=>E.nx env n
noncomputable def eQ (c:UT)(u w:US):US:=λE env n=>c env n λb n1=>if b=true then u E env n1 else w E env n1
noncomputable def dW (u:UX):US:=λE env n=>u env n E.rt
noncomputable def qJ (i:Nat):US:=λE env n=>match env[i]? with | some (some (.s d))=>E.rt d n | some (some (.o ds))=>E.rt (.list ds) n | some (some (.d _ t kvs))=>E.rt (i3 t kvs) n | _=>False
noncomputable def Us:US:=λE _ n=>E.rt .none n
noncomputable def dS (i:Nat)(u:UX):US:=λE env n=>u env n λd n1=>E.nx (env.set i (some (.s d))) n1
noncomputable def nD (i:Nat)(u:eU->Int->(List ad->Int->Prop)->Prop):US:=λE env n=>u env n λds n1=>E.nx (env.set i (some (.o ds))) n1
noncomputable def Xt (u:UX)(g:UG):US:=λE env n=>u env n λd n1=>g d env λd5=>E.nx d5 n1
noncomputable def Ut (u:UX):US:=λE env n=>u env n λ_ n1=>E.nx env n1
section
variable {X:Cx}{M:Fr}{st:Stmt}{L9 body Ts:List Stmt}{u w:US}{e c tg iter a b:Expr}{ue ua ub:UX}{uc:UT}{pos:Pos}
theorem KS.of (h:QS X st t)(k:∀D σ H env pn S n E,dQ M env pn σ S H n->u E env n->(∀d5 σ' S' H' n',dQ M d5 pn σ' S' H' n'->E.nx d5 n'->D.nx σ' H')->(∀v H' d n',eF M.S0 H' d v->Ext M.gs M.H0 H'->M.G H' n'->E.rt d n'->D.rt v H')->t D σ H):KS X M st u :=
 ⟨h.weaken λD σ H h=>Hc h λenv pn S n E h=>k D σ H env pn S n E h.1 h.2.1 h.2.2.1 h.2.2.2⟩
theorem fi:zZ X M [] d8:=⟨D8.weaken λD σ H h=>Hc h λenv pn S n E h=>h.2.2.1 _ _ _ _ _ h.1 h.2.1⟩
theorem dC (h:KS X M st u):zZ X M [st] u:=⟨jG h.run⟩
theorem dO (h:KS X M st u)(hr:zZ X M L9 w):zZ X M (st::L9) (dv u w):=⟨(fO h.run hr.run).weaken λD σ H h=>Hc h λenv pn S n E h =>
 ⟨env,pn,S,n,_,h.1,h.2.1,λd5 σ' S' H' n' qb q=>⟨d5,pn,S',n',E,qb,q,h.2.2.1,h.2.2.2⟩,h.2.2.2⟩⟩
theorem Jh (h:KS X M st u)(hr:zZ X M L9 w):zZ X M (st::L9) (FU u w):=⟨(fO h.run hr.run).weaken λD σ H h=>Hc h λenv pn S n E h=>Exists.elim h.2.1 λC hC =>
 ⟨env,pn,S,n,_,h.1,hC.1,λd5 σ' S' H' n' qb q=>⟨d5,pn,S',n',E,qb,hC.2 _ _ q,h.2.2.1,h.2.2.2⟩,h.2.2.2⟩⟩
theorem km (hc:KB X M c uc)(ha:zZ X M body u)(hb:zZ X M Ts w):KS X M (.If c body Ts pos) (eQ uc u w):=.of (NR hc.run ha.run hb.run) λD σ H env pn S n E ok hu k1 k2 =>
 ⟨env,pn,S,n,_,ok,hu,λb H1 n1 x1 g1 q=>by
  cases b with
  | true=>exact⟨env,pn,S,n1,E,ok.step x1 g1,q,k1,k2⟩
  | false=>exact⟨env,pn,S,n1,E,ok.step x1 g1,q,k1,k2⟩⟩
theorem d9 (h:KE X M e ue):KS X M (.Return (some e) pos) (dW ue):=.of (pj h.run) λD σ H env pn S n E ok hu k1 k2 =>
 ⟨env,pn,S,n,_,ok,hu,λv H1 d n1 r1 x1 g1 _ q=>k2 v H1 d n1 (r1.less ok.s0) (ok.step x1 g1).ext g1 q⟩
theorem Ji (i:Nat)(hN:X.N[i]? = some x:=by rfl)(hv:DP X.env.scope x:=by (first | exact Or.inl rfl | exact Or.inr (Or.inl rfl) | exact Or.inr (Or.inr rfl)))(hd:(x == ("__debug__" : Str))=false:=by decide)
  (kG:(x == ("__classdict__" : Str))=false:=by decide):KS X M (.Return (some (.Name x jJ)) pos) (qJ i):=.of (pj (qv i hN hv hd kG)) λD σ H env pn S n E ok hu k1 k2=>by
 unfold qJ at hu;split at hu
 .rename_i d he
  obtain⟨v,hv,r⟩:=ok.val i _ he;exact⟨v,hv,k2 v H d n (eF.less ok.s0 r) ok.ext ok.gd hu⟩
 .rename_i ds he
  obtain⟨v,hv,a,xs,rfl,ha,r,hs,h0⟩:=ok.val i _ he;exact⟨_,hv,k2 _ H _ n (.lst ha (λz=>M.AK a z h0) (r.less ok.s0)) ok.ext ok.gd hu⟩
 .rename_i a t kvs he
  obtain⟨v,hv,rfl,xs,ha,r,hk,hs,h0⟩:=ok.val i _ he;exact⟨_,hv,k2 _ H _ n (.Tg ha (λz=>M.AK a z h0) hk (r.less ok.s0)) ok.ext ok.gd hu⟩
 .exact hu.elim
theorem Uu (hN:X.N.Nodup)(hx:Loc X.env.scope x)(h:KE X M e ue)(hi:X.N[i]? = some x:=by rfl)(hs:swapsWith e (some (.Name x jJ)) pos.line X.env=pure false:=by rfl)
  (hf:X.fn x=true\/X.env.scope.names.lookup x=some .local:=by (first | exact .inl rfl | exact .inr rfl | assumption)) (hfd:i ∉ M.fd:=by decide):KS X M (.Assign [.Name x jJ] e pos) (dS i ue):=.of (jY hN hi hx h.run hs hf) λD σ H env pn S n E ok hu k1 k2 =>
 ⟨env,pn,S,n,_,ok,hu,λv H1 d n1 r1 x1 g1 _ q=>k1 _ _ _ _ _ ((ok.step x1 g1).set r1 hfd) q⟩
theorem Uv (hN:X.N.Nodup)(hx:Loc X.env.scope x)(h:KN X M e un)(hi:X.N[i]? = some x:=by rfl)(hs:swapsWith e (some (.Name x jJ)) pos.line X.env=pure false:=by rfl)
  (hf:X.fn x=true\/X.env.scope.names.lookup x=some .local:=by (first | exact .inl rfl | exact .inr rfl | assumption)) (hfd:i ∉ M.fd:=by decide):KS X M (.Assign [.Name x jJ] e pos) (nD i un):=.of (jY hN hi hx h.run hs hf) λD σ H env pn S n E ok hu k1 k2 =>
 ⟨env,pn,S,n,_,ok,hu,λa xs H1 ds n1 h0 h1 r1 x1 g1 _ q=>k1 _ _ _ _ _ (ok.Uo h0 h1 r1 x1 g1 hfd) q⟩
noncomputable def Xu (i j:Nat)(ua:UA):US:=λE env n=>ua env n λds n1=>match ds with | [d,e]=>E.nx ((env.set i (some (.s d))).set j (some (.s e))) n1 | _=>False
noncomputable def ix (ug:UG)(ub:US)(E:qD):List ad->eU->Int->Prop
 | [],env,n=>E.nx env n
 | d::ds,env,n=>ug d env λd5=>ub { nx:=ix ug ub E ds,rt:=E.rt } d5 n
noncomputable def kJ (ui:UI)(ug:UG)(ub:US):US:=λE env n=>ui env n λits Jj n1=>ix ug ub E its Jj n1
noncomputable def pw (c:UT)(ub:US):US:=λE env n=>∃W:Nat->eU->Int->Prop,(∃m,W m env n)/\∀m env n,W m env n->c env n λb n1=>if b=true then ub { nx:=λd5 n'=>∃m',m' < m/\W m' d5 n',rt:=E.rt } env n1 else E.nx env n1
theorem nA (hp:PassesOwn (model X.prog X.w) X.A X.env X.xe)(hc:X.calm=true)(hi:KI X M tg iter ui)(hg:KG X M tg ug)(hb:zZ X M body u)(hs:∀x,foldedSetIterable iter X.env x=pure x:=by rw[3]):KS X M (.For tg iter body [] pos) (kJ ui ug u):=by
 obtain⟨wi,qi,Oj⟩:=hi.ex;refine .of (CA hp hc qi hg.run hb.run hs) λD σ H env pn S n E ok hu k1 k2=>Oj σ H _ env pn S n _ ok hu λJ H1 its Jj S1 n1 p rC hJ q=>?_;refine⟨λi m σ' H'=>m=its.length - i/\i<=its.length/\∃d5 S' n',dQ M d5 (p++pn) σ' S' H' n'/\ix ug u E (its.drop i) d5 n',⟨its.length,!4,bW _,Jj,S1,n1,rC,q⟩,?_⟩;rintro i m σ' H' ⟨rfl,hle,d5,S',n',qb,q'⟩;have it:=hJ S' H' λr hr=>qb.pin r (bP _ hr);by_cases p8:i<its.length
 .refine .inr ⟨it.go i p8,λσ2 H2=>∃C5 S2 n2,dQ M C5 (p++pn) σ2 S2 H2 n2/\ix ug u E (its.drop (i+1)) C5 n2,λσ2 H2 h=>⟨its.length - (i+1),!1,rfl,p8,h⟩,λx H2 hy=>?_⟩
  obtain⟨d,hd,x2,rd⟩:=it.KR i x H2 p8 hy
  have e:its.drop i=d::its.drop (i+1):=by
   rw[cG p8];congr;exact (aN.mp hd).2
  rw[e] at q';have He:=qb.step (x2.mono (!4)) (M.iW qb.gd x2 (!4));exact⟨d5,p++pn,S',n',d,_,He,rd,q',λFV σ3 Og q3=>⟨FV,p++pn,S',n',_,Og,q3,λXv σ4 S4 H4 n4 Xw q4=>⟨Xv,S4,n4,Xw,q4⟩,k2⟩⟩
 .refine .inl ⟨it.stop i (!1),?_⟩
  rw[cP (!1)] at q';exact k1 _ _ _ _ _ (qb.pins λr hr=>aU _ hr) q'
theorem zw (hp:PassesOwn (model X.prog X.w) X.A X.env X.xe)(hc:KB X M c uc)(hb:zZ X M body u):KS X M (.While c body [] pos) (pw uc u) :=
 .of (Ak hp hc.run hb.run) λD σ H env pn S n E ok ⟨W,⟨m,hm⟩,hW⟩ k1 k2=>by
  refine⟨λm σ' H'=>∃d5 S' n',dQ M d5 pn σ' S' H' n'/\W m d5 n',⟨m,env,S,n,ok,hm⟩,?_⟩;rintro m σ' H' ⟨d5,S',n',qb,hw⟩;refine⟨d5,pn,S',n',_,qb,hW m d5 n' hw,λb H1 n1 x1 g1 q=>?_⟩
  cases b with
  | true=>exact⟨λσ2 H2=>∃m',m' < m/\∃C5 S2 n2,dQ M C5 pn σ2 S2 H2 n2/\W m' C5 n2,λσ2 H2 h=>h,d5,pn,S',n1,_,qb.step x1 g1,q,λC5 σ2 S2 H2 n2 He ⟨m',S9,Uw⟩=>⟨m',S9,C5,S2,n2,He,Uw⟩,k2⟩
  | false=>exact k1 _ _ _ _ _ (qb.step x1 g1) q
end
noncomputable def vy (mp:List (Option Nat))(env:eU):eU:=mp.map λo=>match o with | none=>none | some i=>(env[i]?).join
noncomputable def Fr.sub (M:Fr)(fd:List Nat):Fr:={ M with fd:=fd }
noncomputable def fB (ug:UG)(uc:UT)(ue:UX)(Q:List ad->Int->Prop):List ad->List ad->eU->Int->Prop
 | [],acc,_,n=>Q acc n
 | d::ds,acc,env,n=>ug d env λd5=>uc d5 n λb n1=>if b=true then ue d5 n1 λy n2=>fB ug uc ue Q ds (acc++[y]) d5 n2 else fB ug uc ue Q ds acc d5 n1
noncomputable def ff (ui:UJ)(mp:List (Option Nat))(ug:UG)(uc:UT)(ue:UX):eU->Int->(List ad->Int->Prop)->Prop:=λenv n Q=>ui env n λits n1=>fB ug uc ue Q its [] (vy mp env) n1
noncomputable def nE:UT:=λ_ n Q=>Q true n
structure KK (X:Cx) (M:Fr) (qa:List Expr) (u:UT):Prop where run:QK X qa (liftT M u)
section
theorem dQ.nK (ok:dQ M env pn σ S H n)(hfd:∀j∈fd,∃i∈M.fd,mp[j]? = some (some i))(Hf:(mp.filterMap id).Nodup):dQ (M.sub fd) (vy mp env) pn (nK mp σ) S H n:=by
 have at':∀(j:Nat) (e:nG),(vy mp env)[j]? = some (some e)->∃i,mp[j]? = some (some i)/\env[i]? = some (some e):=λj e he=>by
  unfold vy at he;rw[aB] at he
  cases hm:mp[j]? with
  | none=>rw[hm] at he;cases he
  | some o =>
   rw[hm] at he
   cases o with
   | none=>cases he
   | some i =>
    refine⟨i,rfl,?_⟩;have ML:(env[i]?).join=some e:=Option.some.inj he
    cases hv:env[i]? with
    | none=>rw[hv] at ML;cases ML
    | some z=>rw[hv] at ML;exact congrArg some (show z=some e from ML)
 have Xx:∀(j i:Nat) (v:V),mp[j]? = some (some i)->σ[i]? = some (some v)->(L2.nK mp σ)[j]? = some (some v):=λj i v h1 h2=>by
  unfold L2.nK;rw[aB,h1];simp[h2]
 have Xy:∀(j i:Nat) (v:V),mp[j]? = some (some i)->(L2.nK mp σ)[j]? = some (some v)->σ[i]? = some (some v):=λj i v h1 h2=>by
  unfold L2.nK at h2;rw[aB,h1] at h2;have ML:(σ[i]?).join=some v:=Option.some.inj h2
  cases hv:σ[i]? with
  | none=>rw[hv] at ML;cases ML
  | some z=>rw[hv] at ML;exact congrArg some (show z=some v from ML)
 refine⟨λj e he=>?_,λj k ds es a h1 h2 h3 h4=>?_,by simp[vy,L2.nK],λj hj=>?_,ok.gd,ok.ext,ok.s0,ok.sn,ok.has,ok.pin⟩
 .obtain⟨i,hm,hv⟩:=at' j e he
  obtain⟨v,Qz,r⟩:=ok.val i e hv;exact⟨v,Xx j i v hm Qz,r⟩
 .obtain⟨i,hm,hv⟩:=at' j _ h1
  obtain⟨i2,B2,QC⟩:=at' k _ h2;have e:=ok.ne i i2 _ _ a hv QC (Xy _ _ _ hm h3) (Xy _ _ _ B2 h4);subst e;have hj:j<mp.length:=(aN.mp hm).1;have hk:k<mp.length:=(aN.mp B2).1;clear h1 h2 h3 h4 at' Xx Xy hfd
  induction mp generalizing j k with
  | nil=>cases hm
  | cons o mp ih =>
   have nd:∀{i:Nat},i∈mp.filterMap id->o≠some i:=λ{i} hi z=>by
    subst z;simp only[bL,id] at Hf;exact (bJ.mp Hf).1 hi
   have Xz:(mp.filterMap id).Nodup:=by
    cases o with
    | none=>simpa using Hf
    | some z=>simp only[bL,id] at Hf;exact (bJ.mp Hf).2
   have mem:∀{k:Nat},mp[k]? = some (some i)->i∈mp.filterMap id:=λ{k} hk=>cp.mpr ⟨some i,bC hk,rfl⟩
   cases j with
   | zero=>cases k with
    | zero=>rfl
    | succ k =>
     have h1:o=some i:=by simpa using hm
     have h2:mp[k]? = some (some i):=by simpa using B2
     exact absurd h1 (nd (mem h2))
   | succ j=>cases k with
    | zero =>
     have h1:o=some i:=by simpa using B2
     have h2:mp[j]? = some (some i):=by simpa using hm
     exact absurd h1 (nd (mem h2))
    | succ k=>rw[ih Xz j k (by simpa using hm) (by simpa using B2) (by simpa using hj) (by simpa using hk)]
 .obtain⟨i,hi,hm⟩:=hfd j hj
  exact Xx j i _ hm (ok.IS i hi)
theorem lG:KK X M [] nE:=⟨⟨λpins s σ H Q I h=>Hc h λenv pn S n R h=>P7.run pins s σ H Q I (h.2.2 true H n (.refl _ _) h.1.gd h.2.1)⟩⟩
theorem js (h:KB X M c uc):KK X M [c] uc:=⟨Cz h.run⟩
theorem zx (Oj:∀σ H R env pn S n Q,dQ M env pn σ S H n->ui env n Q ->
  (∀J H' its n',Ext M.gs H H'->M.G H' n'->(∀H2,Ext M.gs H' H2->B4 S J its H2)->its.length<=av->Q its n'->R J H')->wi σ H R)
  (hfd:∀j∈fd,∃i∈M.fd,mp[j]? = some (some i)) (Hf:(mp.filterMap id).Nodup) (ok:dQ M env pn σ S H n) (hu:ff ui mp ug uc ue env n Q)
  (k:∀ys H' ds n',dH S H' ds ys->Ext M.gs H H'->M.G H' n'->Q ds n'->R ys H'):xF wi mp (Oi (M.sub fd) ug) (liftT (M.sub fd) uc) (Ub (M.sub fd) ue) σ H R:=by
 refine Oj σ H _ env pn S n _ ok hu λJ H1 its n1 x1 g1 hJ hl q=>?_;have rC:=ok.step x1 g1
 refine⟨λi m ys σ' H'=>m=its.length - i/\i<=its.length/\∃d5 n' acc,dQ (M.sub fd) d5 pn σ' S H' n'/\dH S H' acc ys/\acc.length<=i/\Ext M.gs H1 H'/\fB ug uc ue Q (its.drop i) acc d5 n',
  ⟨its.length,!4,bW _,_,n1,[],rC.nK hfd Hf,.nil,ag _,.refl _ _,q⟩,?_⟩
 rintro i m ys σ' H' ⟨rfl,hle,d5,n',acc,qb,ra,ha,x',q'⟩;have it:=hJ H' x';by_cases p8:i<its.length
 .refine .inr ⟨it.go i p8,by rw[ra.length];omega,λx H2 hy=>?_⟩
  obtain⟨d,hd,x2,rd⟩:=it.KR i x H2 p8 hy
  have e:its.drop i=d::its.drop (i+1):=by
   rw[cG p8];congr;exact (aN.mp hd).2
  rw[e] at q';have He:dQ (M.sub fd) d5 pn σ' S H2 n':=qb.step (x2.mono (!4)) (M.iW qb.gd x2 (!4));refine⟨d5,pn,S,n',d,_,He,rd,q',λFV σ3 Og q3=>⟨FV,pn,S,n',_,Og,q3,λb H4 n4 x4 g4 q4=>?_⟩⟩;have VX:Ext M.gs H' H4:=(x2.mono (!4)).trans x4
  cases b with
  | true=>exact⟨FV,pn,S,n4,_,Og.step x4 g4,q4,λy H5 dy n5 r5 x5 g5 _ q5=>⟨its.length - (i+1),!1,rfl,p8,FV,n5,acc++[dy],(Og.step x4 g4).step x5 g5,(ra.ext ((VX.trans x5).mono ok.wL)).append (.cons r5 .nil),by simp;omega,x'.trans (VX.trans x5),q5⟩⟩
  | false=>exact⟨its.length - (i+1),!1,rfl,p8,FV,n4,acc,Og.step x4 g4,ra.ext (VX.mono ok.wL),!1,x'.trans VX,q4⟩
 .refine .inl ⟨it.stop i (!1),by rw[ra.length];omega,?_⟩
  rw[cP (!1)] at q';exact k ys H' acc n' ra (x1.trans x') qb.gd q'
theorem g8 (fd:List Nat)(hc:X.calm=true)(hi:KJ X M tg iter ui)(hk:sc.kind=.function)(hm:iH X.N X.env.scope sc N mp=true)
  (hb:∀(cl:List (Str × Addr)) (C:Addr) (s₂:aw) (H₂:Hp) (fp:List Addr),KG (fR X sc N cl C s₂ H₂ fp) (M.sub fd) tg ug/\KK (fR X sc N cl C s₂ H₂ fp) (M.sub fd) qa uc/\KE (fR X sc N cl C s₂ H₂ fp) (M.sub fd) rB ue)
  (hfd:∀j∈fd,∃i∈M.fd,mp[j]? = some (some i):=by decide) (Hf:(mp.filterMap id).Nodup:=by decide) (hs:∀x,foldedSetIterable iter X.env x=pure x:=by rw[3]):KN X M (.ListComp rB [⟨tg,iter,qa,0⟩] sc pos) (ff ui mp ug uc ue):=by
 obtain⟨wi,qi,Oj⟩:=hi.ex;refine .of (zf hc qi hk hm (λcl C s₂ H₂ fp=>⟨(hb cl C s₂ H₂ fp).1.run,(hb cl C s₂ H₂ fp).2.1.run,(hb cl C s₂ H₂ fp).2.2.run⟩) hs) λσ H R env pn S n Q ok hu k=>?_;refine zx Oj hfd Hf ok hu λys H' ds n' r x g q D hD=>?_;have qb:=ok.step x g
 have XA:H D=none:=by
  by_cases z:D∈M.gs
  .exact absurd hD (M.AJ g D z)
  .exact x.fresh z hD
 exact k D ys _ ds n' XA dG ((r.fresh hD).ext (.new hD)) (x.trans (.new hD)) (M.iW g (.new (S:=[]) hD) (!4)) q
theorem rT (own:Bool)(fd:List Nat)(hN:X.N.Nodup)(hc:X.calm=true)(hi:KJ X M tg iter ui)(hk:sc.kind=.function)(hm:iH X.N X.env.scope sc N mp=true)
  (hb:∀(cl:List (Str × Addr)) (C:Addr) (s₂:aw) (H₂:Hp) (fp:List Addr),KG (fR X sc N cl C s₂ H₂ fp) (M.sub fd) tg ug/\KK (fR X sc N cl C s₂ H₂ fp) (M.sub fd) qa uc/\KE (fR X sc N cl C s₂ H₂ fp) (M.sub fd) rB ue)
  (PR:X.N[i]? = some x:=by rfl) (hx:X.env.scope.names.lookup x=some .local:=by rfl)
  (hfd:∀j∈fd,∃i∈M.fd,mp[j]? = some (some i):=by decide) (Hf:(mp.filterMap id).Nodup:=by decide) (hfi:i ∉ M.fd:=by decide)
  (LZ:swapsWith (.ListComp rB [⟨tg,iter,qa,0⟩] sc pos) (some (.Name x py)) spos.line X.env=pure true:=by rfl) (hs:∀x,foldedSetIterable iter X.env x=pure x:=by rw[3]) :
  KS X M (.Assign [.Name x py] (.ListComp rB [⟨tg,iter,qa,0⟩] sc pos) spos) (if own then nD i (ff ui mp ug uc ue) else dS i (uL (ff ui mp ug uc ue))):=by
 obtain⟨wi,qi,Oj⟩:=hi.ex;have q:=Mc (i:=i) (py:=py) (spos:=spos) (pos:=pos) hN PR hx hc qi hk hm (λcl C s₂ H₂ fp=>⟨(hb cl C s₂ H₂ fp).1.run,(hb cl C s₂ H₂ fp).2.1.run,(hb cl C s₂ H₂ fp).2.2.run⟩) LZ hs
 cases own with
 | true =>
  refine .of q λD σ H env pn S n E ok hu k1 k2=>zx Oj hfd Hf ok hu λys H' ds n' r x g q D hD=>?_
  have XA:H D=none:=by
   by_cases z:D∈M.gs
   .exact absurd hD (M.AJ g D z)
   .exact x.fresh z hD
  exact k1 _ _ _ _ _ (ok.Uo XA dG ((r.fresh hD).ext (.new hD)) (x.trans (.new hD)) (M.iW g (.new (S:=[]) hD) (!4)) hfi) q
 | false =>
  refine .of q λD σ H env pn S n E ok hu k1 k2=>zx Oj hfd Hf ok hu λys H' ds n' r x g q D hD=>?_;have qb:=ok.step x g;exact k1 _ _ _ _ _ ((qb.step (.new hD) (M.iW g (.new (S:=[]) hD) (!4))).set (qH qb.has hD r) hfi) q
end
noncomputable def kf (i:Nat)(f:List ad->List ad->Option (List ad))(ua:UA):US:=λE env n=>match env[i]? with | some (some (.o ds))=>ua env n λas n1=>mD (f ds as) λwM=>E.nx (env.set i (some (.o wM))) n1 | _=>False
noncomputable def gV (ds as:List ad):Option (List ad):=match as with | [d]=>if ds.length<av then some (ds++[d]) else none | _=>none
structure ZD (X:Cx) (id:String) (f:List ad->List ad->Option (List ad)):Prop where
 ex:∃r,VH X id r/\∀S H a xs ds as vs wM (R:VK),H a=some (.lst xs)->dH S H ds xs->dH S H as vs->f ds as=some wM->(∀ys v,dH S H wM ys->R v (eM H a (.lst ys)))->r (.ref a) vs H R
section
variable {X:Cx}{M:Fr}{e o:Expr}{es:List Expr}{ua:UA}{pos jK gL:Pos}{name:Str}{id:String}{f:List ad->List ad->Option (List ad)}
theorem kK:ZD X "list.append" gV:=⟨_,Ff,λS H a xs ds as vs wM R ha r ra e k=>by
 obtain⟨d,rfl⟩:∃d,as=[d]:=by
  unfold gV at e;split at e
  .exact⟨_,rfl⟩
  .cases e
 simp only[gV] at e;split at e
 .rename_i hl
  cases e;obtain⟨v,t,rfl,r1,r2⟩:=ra.of_cons;cases r2.gc;exact⟨a,xs,v,rfl,rfl,ha,by rw[r.length];exact hl,k _ _ (r.append (.cons r1 .nil))⟩
 .cases e⟩
theorem pz (i:Nat)(pa:PlainAttrs "list")(slot:Slot "list" name id)(PB:typeOf (.builtin id)=pure (.type "method_descriptor"))(hm:ZD X id f)(ha:KA X M (e::es) ua)
  (hN:X.N[i]? = some x:=by rfl) (hv:DP X.env.scope x:=by (first | exact Or.inl rfl | exact Or.inr (Or.inl rfl) | exact Or.inr (Or.inr rfl))) (hd:(x == ("__debug__" : Str))=false:=by decide) (kG:(x == ("__classdict__" : Str))=false:=by decide)
  (qj:attributeBase (.Name x p) name X.env (eval (.Name x p) X.env)=eval (.Name x p) X.env:=by rfl) (hl:decide ((e::es).length+0+0<30)=true:=by rfl) (qk:(jK.endLine == gL.line)=true:=by rfl)
  (hs:swapsWith (.Call (.Attribute (.Name x p) name jK) (e::es) [] gL) none pos.line X.env=pure false:=by rfl):KS X M (.Expr (.Call (.Attribute (.Name x p) name jK) (e::es) [] gL) pos) (kf i f ua):=by
 obtain⟨r,h1,h2⟩:=hm.ex;refine .of (Mb (P' X.K pa slot PB h1 (qv i hN hv hd kG) ha.run rfl qj hl qk) hs) λD σ H env pn S n E ok hu k1 k2=>?_;unfold kf at hu;split at hu
 .rename_i ds he
  obtain⟨v,hv,a,xs,rfl,ha,ra,hs,h0⟩:=ok.val i _ he;refine⟨_,hv,.inl ⟨rfl,xs,gY.of ha⟩,env,pn,S,n,_,ok,hu,λvs H1 as n1 el r1 x1 g1 _ q=>?_⟩;obtain⟨wM,e',q⟩:=q;have rC:=ok.step x1 g1;obtain⟨v',Qz,a',qE,e'',lW,ra',_,_⟩:=rC.val i _ he;subst e'';rw[hv] at Qz;cases Qz;exact h2 S H1 a qE ds as vs wM _ lW ra' r1 e' λys w ry=>k1 _ _ _ _ _ (rC.put he hv lW ry) q
 .exact hu.elim
noncomputable def Ux (i:Nat)(ui ue:UX):US:=λE env n=>match env[i]? with | some (some (.o ds))=>ue env n λd n1=>ui env n1 λk n2=>(match k with | .int k=>mD (LK ds.length k) λj=>E.nx (env.set i (some (.o (ds.set j d)))) n2 | _=>False) | _=>False
noncomputable def Uy (i:Nat)(g:Int->Int->Int)(ui ue:UX):US:=λE env n=>match env[i]? with | some (some (.o ds))=>ui env n λk n1=>(match k with | .int k=>0<=k/\(match ds[k.toNat]? with | some (.int a)=>ue env n1 λd n2=>(match d with | .int b=>E.nx (env.set i (some (.o (ds.set k.toNat (.int (g a b)))))) n2 | _=>False) | _=>False) | _=>False) | _=>False
noncomputable def XB (i:Nat)(g:Int->Int->Int)(ue:UX):US:=λE env n=>match env[i]? with | some (some (.s (.int a)))=>ue env n λd n1=>(match d with | .int b=>E.nx (env.set i (some (.s (.int (g a b))))) n1 | _=>False) | _=>False
end
noncomputable abbrev XQ:=Str->List ad->Prop
noncomputable abbrev UF:=List ad->Int->(ad->Int->Prop)->XQ->Prop
noncomputable def K9:XQ:=λ_ _=>False
noncomputable def Rz (C:Xc)(S gs:List Addr)(H:Hp)(E:XK)(c:Str)(as:List ad):Prop:=∀(dx:Addr) (H':Hp) (vs:List V),dH S H' as vs->H' dx=some (.ext (nz dx ((C.fl c).zip vs)))->Ext gs H H'->E (.ref (C.cl c)) (some dx) H'
noncomputable def mF (C:Xc)(F:UF):Sp:=λvs H Q E=>∃S ds n Qp Xp,dH S H ds vs/\(∀a∈S,H a≠none)/\F ds n Qp Xp/\(∀d v H',eF S H' d v->Ext [] H H'->Qp d n->Q v H')/\∀c as,Xp c as->Rz C S [] H E c as
structure wN where
 jt:Hp->Addr->Addr->Int->Prop
 ext:∀{S:List Addr} {H H':Hp} {fa sa:Addr} {n:Int},jt H fa sa n->Ext S H H'->fa ∉ S->sa ∉ S->jt H' fa sa n
 fa:∀{H:Hp} {fa sa:Addr} {n:Int},jt H fa sa n->H fa≠none
 sa:∀{H:Hp} {fa sa:Addr} {n:Int},jt H fa sa n->H sa≠none
 nx:∀{H:Hp} {fa sa:Addr} {n:Int},jt H fa sa n->∀φ,H fa≠some (.ext φ)
noncomputable def nS (Y:wN)(F:UF):Sp:=λvs H Q E=>∃fa sa us S ds n Qp,vs=.ref fa::us/\Y.jt H fa sa n/\fa∈S/\dH S H ds us/\(∀a∈S,H a≠none)/\F ds n Qp K9/\(∀d n' v H',eF S H' d v->Y.jt H' fa sa n'->Ext [fa] H H'->Qp d n'->Q v H')
noncomputable def Fr.pure (C:Xc)(n0:Int)(S:List Addr)(H:Hp)(has:∀a∈S,H a≠none):Fr where
 G:=λ_ n=>n=n0
 gs:=[]
 S0:=S
 H0:=H
 fa:=.iZ
 fd:=[]
 xc:=C
 iW:=λh _ _=>h
 AJ:=λ_ a h=>by cases h
 Zy:=λ_ a h=>by cases h
 VS:=λa h=>by cases h
 AK:=has
noncomputable def Fr.feed (C:Xc)(Y:wN)(i:Nat)(fa sa:Addr)(n0:Int)(S:List Addr)(H:Hp)(hf:Y.jt H fa sa n0)(hS:fa∈S)(has:∀a∈S,H a≠none):Fr where
 G:=λH n=>Y.jt H fa sa n
 gs:=[fa]
 S0:=S
 H0:=H
 fa:=.ref fa
 fd:=[i]
 xc:=C
 iW:=λh x k=>Y.ext h x (λz=>Y.fa hf (k _ z)) (λz=>Y.sa hf (k _ z))
 AJ:=λh a ha=>by have e:=ay.mp ha;subst e;exact Y.fa h
 Zy:=λh a ha=>by have e:=ay.mp ha;subst e;exact Y.nx h
 VS:=λa ha=>by have e:=ay.mp ha;subst e;exact hS
 AK:=has
noncomputable def envOf (N:Nat)(ds:List ad):eU:=ds.map (λd=>some (.s d))++List.replicate (N - ds.length) none
noncomputable def iX (N np:Nat)(u:XQ->US):UF:=λds n Q Ex=>ds.length=np/\u Ex { nx:=λ_ n'=>Q .none n',rt:=Q } (envOf N ds) n
noncomputable def g9 (N np:Nat)(u:XQ->US):UF:=λds n Q Ex=>ds.length+1=np/\u Ex { nx:=λ_ n'=>Q .none n',rt:=Q } (none::envOf (N - 1) ds) n
theorem yi (h0:M.H0=H)(hS:M.S0=S)(r:dH S H ds vs)(hfd:M.fd=[])(g:M.G H n):dQ M (envOf N.length ds) [] (start N vs) S H n:=by
 subst h0 hS;have hl:=r.length
 have key:∀(i:Nat) (e:nG),(envOf N.length ds)[i]? = some (some e)->∃d,ds[i]? = some d/\e=.s d:=λi e h=>by
  unfold envOf at h;by_cases hi:i<ds.length
  .rw[bY (by simpa using hi),aB] at h
   cases hd:ds[i]? with
   | none=>rw[hd] at h;cases h
   | some d=>rw[hd] at h;exact⟨d,rfl,(Option.some.inj (Option.some.inj h)).symm⟩
  .rw[ce (by simp;omega),cm] at h
   split at h<;>cases h
 refine⟨λi e h=>?_,λi j a b c h1=>?_,?_,(by rw[hfd];intro i hi;cases hi),g,.refl _ _,λa h=>h,λa h=>.inl h,M.AK,λp hp=>by cases hp⟩
 .obtain⟨d,hd,rfl⟩:=key i e h
  obtain⟨v,hv,rv⟩:=r.at hd;refine⟨v,?_,rv⟩;unfold start;rw[bY (by rw[ah];exact (aN.mp hv).1),aB,hv];rfl
 .obtain⟨d,_,e⟩:=key _ _ h1
  cases e
 .unfold envOf start
  simp[hl]
theorem C6 (h0:M.H0=H)(hS:M.S0=S)(r:dH S H ds vs)(hfd:M.fd=[0])(Jk:M.fa=.ref fa)(hN:1<=N.length)(g:M.G H n):dQ M (none::envOf (N.length - 1) ds) [] (start N (.ref fa::vs)) S H n:=by
 subst h0 hS;have hl:=r.length
 have key:∀(i:Nat) (e:nG),(none::envOf (N.length - 1) ds)[i]? = some (some e)->∃j d,i=j+1/\ds[j]? = some d/\e=.s d:=λi e h=>by
  cases i with
  | zero=>cases h
  | succ i =>
   rw[ac] at h;unfold envOf at h;by_cases hi:i<ds.length
   .rw[bY (by simpa using hi),aB] at h
    cases hd:ds[i]? with
    | none=>rw[hd] at h;cases h
    | some d=>rw[hd] at h;exact⟨i,d,rfl,hd,(Option.some.inj (Option.some.inj h)).symm⟩
   .rw[ce (by simp;omega),cm] at h
    split at h<;>cases h
 refine⟨λi e h=>?_,λi j a b c h1=>?_,?_,?_,g,.refl _ _,λa h=>h,λa h=>.inl h,M.AK,λp hp=>by cases hp⟩
 .obtain⟨j,d,rfl,hd,rfl⟩:=key i e h
  obtain⟨v,hv,rv⟩:=r.at hd;refine⟨v,?_,rv⟩;unfold start;have Qi:j<vs.length:=(aN.mp hv).1;rw[bY (by rw[ah,aj];omega),am,ac,aB,hv];rfl
 .obtain⟨j,d,_,_,e⟩:=key _ _ h1
  cases e
 .unfold envOf start
  simp[hl];omega
 .rw[hfd,Jk]
  intro i hi;have e:=ay.mp hi;subst e;unfold start;simp
section
variable {P:aZ}{w:World}{K:W.Frag}{mg:Str->Option af}{base:Heap}{f:Addr}{fd:bq}{x:Str}{fz:Str}{st:Stmt}{N ps:List Str}{k:Nat}{C:Xc}{u:XQ->US}{Y:wN}
theorem XD (F:wK K x fz st f fd)(hm:mg x=some (.ref f))(sc:fK N ps (dw st))(hb:Binds K fd ps [])
  (body:∀(fg:af) (A:Around) (outer:List Env) (s:aw) (H:Hp) (E:XK) (n0:Int) (S:List Addr) (has:∀a∈S,H a≠none),gi k (A.deeper (envOfC fz (dw st) s.heap.objs.size f fg))->zZ (mI wJ P w K mg base N fz (dw st) f fg A outer s H E).G9 (Fr.pure C n0 S H has) (fW st) (u K9)) :
  dZ P w K mg base (k+1) x ps (mF C (iX N.length ps.length λ_=>u K9)):=by
 refine⟨f,fd,F.P8 sc (λvs H Q E h=>?_) (λfg A outer s H vs Q E hr h=>?_),hm,F.kp,hb⟩
 .obtain⟨S,ds,n,Qp,Xp,r,_,hF,_⟩:=h
  rw[r.length];exact hF.1
 .obtain⟨S,ds,n,Qp,Xp,r,has,hF,hq,hx⟩:=h
  refine⟨_,(body fg A outer s H E n S has hr).run,envOf N.length ds,[],S,n,_,yi rfl rfl r rfl rfl,hF.2,λd5 σ' S' H' n' ok q=>?_,λv H' d n' rv x g q=>?_⟩
  .have e:n'=n:=ok.gd
   subst e;exact hq _ _ H' .iZ ok.ext q
  .have e:n'=n:=g
   subst e;exact hq d v H' rv x q
theorem XE (F:wK K x fz st f fd)(hm:mg x=some (.ref f))(sc:fK N ps (dw st))(hb:Binds K fd ps [])
  (body:∀(fg:af) (A:Around) (outer:List Env) (s:aw) (H:Hp) (E:XK) (n0:Int) (S:List Addr) (has:∀a∈S,H a≠none) (Ex:XQ),(∀c as,Ex c as->Rz C S [] H E c as)->gi k (A.deeper (envOfC fz (dw st) s.heap.objs.size f fg)) ->
   zZ (mI (Mq P w) P w K mg base N fz (dw st) f fg A outer s H E) (Fr.pure C n0 S H has) (fW st) (u Ex)) :
  IE P w K mg base (k+1) x ps (mF C (iX N.length ps.length u)):=by
 refine⟨f,fd,F.okX sc (λvs H Q E h=>?_) (λfg A outer s H vs Q E hr h=>?_),hm,F.kp,hb⟩
 .obtain⟨S,ds,n,Qp,Xp,r,_,hF,_⟩:=h
  rw[r.length];exact hF.1
 .obtain⟨S,ds,n,Qp,Xp,r,has,hF,hq,hx⟩:=h
  refine⟨_,(body fg A outer s H E n S has Xp hx hr).run,envOf N.length ds,[],S,n,_,yi rfl rfl r rfl rfl,hF.2,λd5 σ' S' H' n' ok q=>?_,λv H' d n' rv x g q=>?_⟩
  .have e:n'=n:=ok.gd
   subst e;exact hq _ _ H' .iZ ok.ext q
  .have e:n'=n:=g
   subst e;exact hq d v H' rv x q
theorem XG (F:wK K x fz st f fd)(hm:mg x=some (.ref f))(sc:fK N ps (dw st))(hb:Binds K fd ps [])(hN:1<=N.length)
  (body:∀(fg:af) (A:Around) (outer:List Env) (s:aw) (H:Hp) (E:XK) (fa sa:Addr) (n0:Int) (S:List Addr) (hf:Y.jt H fa sa n0) (hS:fa∈S) (has:∀a∈S,H a≠none),gi k (A.deeper (envOfC fz (dw st) s.heap.objs.size f fg)) ->
   zZ (mI wJ P w K mg base N fz (dw st) f fg A outer s H E).G9 (Fr.feed C Y 0 fa sa n0 S H hf hS has) (fW st) (u K9)) :
  dZ P w K mg base (k+1) x ps (nS Y (g9 N.length ps.length λ_=>u K9)):=by
 refine⟨f,fd,F.P8 sc (λvs H Q E h=>?_) (λfg A outer s H vs Q E hr h=>?_),hm,F.kp,hb⟩
 .obtain⟨fa,sa,us,S,ds,n,Qp,rfl,_,_,r,_,hF,_⟩:=h
  rw[aj,r.length];exact hF.1
 .obtain⟨fa,sa,us,S,ds,n,Qp,rfl,fe,hS,r,has,hF,hq⟩:=h
  refine⟨_,(body fg A outer s H E fa sa n S fe hS has hr).run,none::envOf (N.length - 1) ds,[],S,n,_,C6 rfl rfl r rfl rfl hN fe,hF.2,λd5 σ' S' H' n' ok q=>?_,λv H' d n' rv x g q=>?_⟩
  .exact hq _ n' _ H' .iZ ok.gd ok.ext q
  .exact hq d n' v H' rv g x q
end
noncomputable def du (F:UF)(ua:UA):UX:=λenv n Q=>ua env n λds n1=>F ds n1 Q K9
noncomputable def QD (F:UF)(Ex:XQ)(ua:UA):UX:=λenv n Q=>ua env n λds n1=>F ds n1 Q Ex
mutual
def Ol:ad->Bool
 | .list _=>false
 | .tuple ds=>Jl ds
 | .dict _=>false
 | _=>true
def Jl:List ad->Bool
 | []=>true
 | d::ds=>Ol d && Jl ds
end
noncomputable def QF (F:UF)(ua:UA):UX:=λenv n Q=>ua env n λds n1=>F ds n1 (λd n'=>Ol d=true/\Q d n') K9
section
theorem dY (D:dZ X.prog X.w X.K X.mg X.base k x ps (mF C F))(hr:gi k X.A)(ha:KA X M (e::es) ua)(hg:Gl X x:=by rfl)(nB:(x == ("__debug__" : Str))=false:=by decide):KE X M (.Call (.Name x p) (e::es) [] pos) (du F ua) :=
 .of (u1 D hr ha.run hg nB) λσ H R env pn S n Q ok hu k=>⟨env,pn,S,n,_,ok,hu,λvs H1 ds n1 el r1 x1 g1 _ q=>⟨S,ds,n1,Q,K9,r1,(ok.step x1 g1).has,q,λd v H2 r2 x2 q2=>k v H2 d n1 r2 (x1.trans (x2.mono (!4))) (M.iW g1 x2 (!4)) q2,λc as z=>z.elim⟩⟩
theorem ef (i:Nat){y:Str}{p2:Pos}{fa sa:Addr}(D:dZ X.prog X.w X.K X.mg X.base k x ps (nS Y F))(hr:gi k X.A)(ha:KA X M es ua)
  (hG:M.G=λH n=>Y.jt H fa sa n:=by rfl) (Jk:M.fa=.ref fa:=by rfl) (T3:M.gs=[fa]:=by rfl) (hfd:i∈M.fd:=by decide)
  (hN:X.N[i]? = some y:=by rfl) (hv:DP X.env.scope y:=by (first | exact Or.inl rfl | exact Or.inr (Or.inl rfl) | exact Or.inr (Or.inr rfl))) (hd:(y == ("__debug__" : Str))=false:=by decide) (kG:(y == ("__classdict__" : Str))=false:=by decide)
  (hg:Gl X x:=by rfl) (nB:(x == ("__debug__" : Str))=false:=by decide):KE X M (.Call (.Name x p) (.Name y p2::es) [] pos) (du F ua) :=
 .of (u1 D hr (iI (qv i hN hv hd kG) ha.run rfl) hg nB) λσ H R env pn S n Q ok hu k=>⟨_,ok.IS i hfd,env,pn,S,n,_,ok,hu,λvs H1 ds n1 el r1 x1 g1 _ q=>by
  have rC:=ok.step x1 g1;refine⟨fa,sa,vs,S,ds,n1,Q,by rw[Jk],by rw[hG] at g1;exact g1,ok.wL fa (by rw[T3];simp),r1,rC.has,q,λd n2 v H2 r2 f2 x2 q2=>k v H2 d n2 r2 (x1.trans (by rw[T3];exact x2)) (by rw[hG];exact f2) q2⟩⟩
noncomputable def vz (Ex:XQ)(c:Str)(ua:UA):US:=λ_ env n=>ua env n λas _=>Ex c as
theorem AY (E:XK)(Ex:XQ)(C:Xc)(R:oF X.prog X.w X.K X.mg X.base x (C.cl x) (IH (C.cl x) f))(hf:C.fl x=[f])(hr:gi 2 X.A)(hl:vh X E)(hc:X.calm=true)(hx:∀c as,Ex c as->Rz C M.S0 M.gs M.H0 E c as)(ha:KA X M [e] ua)(hg:Gl X x:=by rfl)(nB:(x == ("__debug__" : Str))=false:=by decide) :
  KS X M (.Raise (some (.Call (.Name x p) [e] [] gL)) none pos) (vz Ex x ua):=.of (FP E R hr hl hc ha.run hg nB) λD σ H env pn S n En ok hu k1 k2=>⟨env,pn,S,n,_,ok,hu,λvs H1 as n1 el r1 x1 g1 _ q=>by
 have hv:∃v,vs=[v]:=by
  match vs,el with
  | [v],_=>exact⟨v,rfl⟩
 obtain⟨v,rfl⟩:=hv;refine⟨by show 1<=100;decide,λy hy=>Qo (H0:=H1) (λdx H' hd x'=>?_) (.refl _ _) hy⟩;refine hx x as q dx H' [v] ((r1.ext (x'.mono (!4))).less ok.s0) (by rw[hf];exact hd) ((ok.step x1 g1).ext.trans (x'.mono (!4)))⟩
end
section
theorem FW (K:W.Frag)(hc:X.calm=true)(hk:X.K=K:=by rfl):gn X (.builtin "sum") (λxs H Q=>∃(p:Addr) (ns:List Int),xs=[.ref p]/\gY K H p (ns.map V.int)/\(∀n∈ns,-500000000000<=n/\n<=500000000000)/\Q (.int ns.sum) H):=by
 subst hk;intro pins s σ H xs us Q I r h;obtain⟨p,ns,rfl,hp,hb,q⟩:=h;obtain⟨u,rfl,ru⟩:=vals1 r;cases ru;obtain⟨its,rv,ht,hz⟩:=I.list hp;have hh:=I.ok.hd hc;have mB:p<s.heap.objs.size:=ht.lt;have fk:its.toArray.size=ns.length:=by rw[aC,<- rv.length,ah]
 rw[ah] at hz;have hsz:av=16777216:=by decide
 have XH:∀l:List Int,(∀n∈l,-500000000000<=n/\n<=500000000000)->-(500000000000 * (l.length:Int))<=l.sum/\l.sum<=500000000000 * l.length:=by
  intro l
  induction l with
  | nil=>intro _;simp
  | cons a l ih =>
   intro hl;have h1:=ih λn hn=>hl n (ao _ hn);have h2:=hl a (aq ..);rw[List.sum_cons,aj];omega
 refine call_sum_walk (wpAny_pyIter_list ht.isList ⟨s.heap.objs.size,_,_,its.toArray.size,_,_,λa=>ns.getD a 0,rfl,Walks.list (A:=X.A.in1) hh _ p (aV mB) its.toArray,⟨⟨_,aE _ rfl,rfl,rfl⟩,ht.isList.at λo e=>ai _ e⟩,?_,?_,?_,?_⟩)
 .intro b C4
  rw[bG];rcases al.mp C4 with e | C4
  .rw[e];exact cD _
  .have e:b=p:=by simpa using C4
   rw[e];exact cA mB
 .intro a v e
  have e':its[a]? = some v:=by simpa using e
  obtain⟨x,hx,rx⟩:=rv.at' e';rw[aB] at hx
  cases hn:ns[a]? with
  | none=>rw[hn] at hx;cases hx
  | some b =>
   rw[hn] at hx;cases hx;obtain⟨t,rfl⟩:=rx;refine⟨t,?_⟩;show af.int b t=af.int (ns.getD a 0) t;rw[ax,hn];rfl
 .intro j hj
  rw[fk] at hj
  have hm:ns.getD j 0∈ns:=by
   have:ns[j]? = some ns[j]:=by simp[hj]
   rw[ax,this];exact cc hj
  have h1:=hb _ hm;have h2:=XH (ns.take (j+1)) λn hn=>hb n (b8 hn);rw[bf] at h2;show InLong (ns.getD j 0)/\InLong (preSum (λa=>ns.getD a 0) (j+1));unfold InLong;rw[jL ns (j+1) (!1)];have h3:(min (j+1) ns.length:Nat)<=16777216:=by omega
  constructor<;>constructor<;>omega
 .intro h' tk t' kp
  have I1:Inv X pins σ H { s with heap:=h',toks:=tk }:=I.kept λb o e=>kp b o (λz=>by
   have e2:b=s.heap.objs.size:=by simpa using z
   rw[e2] at e;exact absurd (aD e) (bo _)) (ai _ e)
  have e:preSum (λa=>ns.getD a 0) its.toArray.size=ns.sum:=by rw[fk,jL ns _ (ag _),List.take_length]
  rw[e];exact⟨.int _,H,I1,⟨_,rfl⟩,q⟩
end
noncomputable def jO (c:String)(d:ad):Bool:=match c,d with
 | "int",.int _=>true | "int",.bool _=>true | "bool",.bool _=>true | "tuple",.tuple _=>true | "list",.list _=>true | "str",.str _=>true | _,_=>false
noncomputable def kL (c:String)(u:UX):UX:=λenv n Q=>u env n λd n1=>Q (.bool (jO c d)) n1
theorem XI {K:W.Frag}{c:String}(hc:c = "int" \/ c = "bool" \/ c = "tuple" \/ c = "list" \/ c = "str")(d:ad):W.kitOne K (.type (WO d)) (.type c)=some (jO c d):=by
 rcases hc with rfl | rfl | rfl | rfl | rfl<;>cases d<;>rfl
theorem fA.ty {K:W.Frag}{gs S:List Addr}{H:Hp}{d:ad}{v:V}(h:fA gs S H d v):oV K H v (.type (WO d)):=by
 rcases h with h | ⟨ds,a,xs,rfl,rfl,ha,_⟩ | ⟨t,kvs,a,xs,rfl,rfl,ha,_⟩
 .exact h.ty
 .exact .lst ha
 .cases t with
  | true=>exact .dT ha
  | false=>exact .dK ha
section
variable {X:Cx}{M:Fr}{e a b:Expr}{u w:UX}{p p2 q2 pos:Pos}{c:String}{x:Str}
theorem kM (hm:X.mg "isinstance" = none)(hx:X.mg x=none)(h:KL X M e u)(hc:c = "int" \/ c = "bool" \/ c = "tuple" \/ c = "list" \/ c = "str" := by decide)(hv:bootBuiltins x=some (.type c):=by decide +kernel)(hg:Gl X "isinstance" := by rfl)(hgx:Gl X x:=by rfl)(hs:fq e=true:=by rfl)(hn:x ≠ "__name__" := by decide)(nB:(x == ("__debug__" : Str))=false:=by decide) :
  KE X M (.Call (.Name "isinstance" p) [e,.Name x p2] [] pos) (kL c u) :=
 .of (i5 (WR X.K) hg hm (!3) (iI h.run (iI (To c hgx hx hv hn nB) fj rfl) hs)) λσ H R env pn S n Q ok hu k=>⟨env,pn,S,n,_,ok,hu,λv H1 d n1 r1 x1 g1 _ q=>⟨v,_,c,_,rfl,r1.ty,XI hc d,k _ H1 _ n1 (.bl _) x1 g1 q⟩⟩
noncomputable def yj (u:UX):eU->Int->(List ad->Int->Prop)->Prop:=λenv n Q=>u env n λd n1=>mD (jr d) λds=>Q ds n1
theorem zy (ok:dQ M env pn σ S H n)(x:Ext M.gs H H')(g:M.G H' n')(h:H' l=none):H l=none:=by
 by_cases z:l∈M.gs
 .exact absurd h (M.AJ g l z)
 .exact x.fresh z h
theorem C7 (hm:X.mg "list" = none)(h:KL X M e u)(hg:Gl X "list" := by rfl)(hs:fq e=true:=by rfl):KN X M (.Call (.Name "list" p) [e] [] pos) (yj u) :=
 .of (f' (NS X.K) hg hm (!3) (iI h.run fj hs)) λσ H R env pn S n Q ok hu k=>⟨env,pn,S,n,_,ok,hu,λv H1 d n1 r1 x1 g1 _ q=>by
  obtain⟨ds,e,q⟩:=q;have ib:∀xs,dH S H1 ds xs->∀l,H1 l=none->R (.ref l) (eM H1 l (.lst xs)):=λxs rs l hl=>k l xs _ ds n1 (zy ok x1 g1 hl) dG ((rs.fresh hl).ext (.new hl)) (x1.trans (.new hl)) (M.iW g1 (.new (S:=[]) hl) (!4)) q
  cases d with
  | tuple es =>
   cases e;obtain⟨a,xs,rfl,ha,rs⟩:=r1.eX;exact⟨a,xs,rfl,.inr (jl.of ha),ib xs rs⟩
  | list es =>
   cases e;obtain⟨a,xs,rfl,ha,rs⟩:=r1.eY;exact⟨a,xs,rfl,.inl (gY.of ha),ib xs rs⟩
  | _=>cases e⟩
noncomputable def AZ (u:UX):eU->Int->(List ad->Int->Prop)->Prop:=λenv n Q=>u env n λd n1=>match d with | .int j=>(-(2 ^ 62)<=j/\j<=16777216)/\Q (nC 0 j.toNat) n1 | _=>False
theorem A0 (j:Int):dH S H (nC 0 j.toNat) (ph 0 j):=by
 unfold nC ph;rw[Int.sub_zero];generalize j.toNat=m
 induction m with
 | zero=>exact .nil
 | succ m ih =>
  rw[List.range_succ,bc,bc];exact ih.append (.cons (.int _) .nil)
theorem MM (hm:X.mg "list" = none)(B2:X.mg "range" = none)(hc:X.calm=true)(h:KE X M e u)(hg:Gl X "list" := by rfl)(Ew:Gl X "range" := by rfl)(hs:fq e=true:=by rfl):KN X M (.Call (.Name "list" p) [.Call (.Name "range" p2) [e] [] q2] [] pos) (AZ u) :=
 .of (f' (wX hc) hg hm (!3) (iI (f' Ah Ew B2 (!3) (iI h.run fj hs)) fj)) λσ H R env pn S n Q ok hu k=>⟨env,pn,S,n,_,ok,hu,λv H1 d n1 r1 x1 g1 _ q=>by
  cases d with
  | int j =>
   refine⟨j,by rw[r1.eK],λr hr=>⟨r,0,j,rfl,dG,⟨!2,!2,q.1.1,by have:=q.1.2;omega⟩,by have:=q.1.2;omega,λl hl=>?_⟩⟩;have x2:Ext [] H1 (eM H1 r (.Hk 0 j)):=.new hr;have x3:Ext [] (eM H1 r (.Hk 0 j)) _:=.new (o:=.lst (ph 0 j)) hl;have Uz:=x2.trans x3;exact k l _ _ _ n1 (zy ok (x1.trans (x2.mono (!4))) (M.iW g1 x2 (!4)) hl) dG (A0 j) (x1.trans (Uz.mono (!4))) (M.iW g1 Uz (!4)) q.2
  | _=>exact False.elim q⟩
noncomputable def Jm (u:eU->Int->(List ad->Int->Prop)->Prop):UX:=λenv n Q=>u env n λds n'=>Q (.tuple ds) n'
theorem QH (hm:X.mg "tuple" = none)(B2:X.mg "range" = none)(hc:X.calm=true)(h:KE X M e u)(hg:Gl X "tuple" := by rfl)(Ew:Gl X "range" := by rfl)(hs:fq e=true:=by rfl):KE X M (.Call (.Name "tuple" p) [.Call (.Name "range" p2) [e] [] q2] [] pos) (Jm (AZ u)) :=
 .of (f' (uY hc) hg hm (!3) (iI (f' Ah Ew B2 (!3) (iI h.run fj hs)) fj)) λσ H R env pn S n Q ok hu k=>⟨env,pn,S,n,_,ok,hu,λv H1 d n1 r1 x1 g1 _ q=>by
  cases d with
  | int j =>
   refine⟨j,by rw[r1.eK],λr hr=>⟨r,0,j,rfl,dG,⟨!2,!2,q.1.1,by have:=q.1.2;omega⟩,by have:=q.1.2;omega,λl hl=>?_⟩⟩;have x2:Ext [] H1 (eM H1 r (.Hk 0 j)):=.new hr;have x3:Ext [] (eM H1 r (.Hk 0 j)) _:=.new (o:=.tup (ph 0 j)) hl;have Uz:=x2.trans x3;exact k _ _ _ n1 (.tup dG (A0 j)) (x1.trans (Uz.mono (!4))) (M.iW g1 Uz (!4)) q.2
  | _=>exact False.elim q⟩
noncomputable def yk:ad->Option Int | .int i=>some i | _=>none
noncomputable def eV (ds:List ad):Option (List Int):=ds.mapM yk
@[simp] theorem eh (ns:List Int):eV (ns.map .int)=some ns:=by
 unfold eV
 induction ns with
 | nil=>rfl
 | cons n ns ih=>rw[am,cQ,ih];rfl
theorem gC:∀{ds:List ad} {ns:List Int},eV ds=some ns->ds=ns.map .int
 | [],ns,h=>by cases h;rfl
 | d::ds,ns,h=>by
  unfold eV at h;rw[cQ] at h
  cases d with
  | int i =>
   cases e:ds.mapM yk with
   | none=>simp[yk,e] at h
   | some ms =>
    simp[yk,e] at h;subst h;rw[gC (ds:=ds) e];rfl
  | _=>simp[yk] at h
theorem gD:∀{ns:List Int} {xs:List V},dH S H (ns.map .int) xs->xs=ns.map V.int
 | [],_,r=>r.gc
 | n::ns,_,r=>by
  obtain⟨x,t,rfl,r1,r2⟩:=r.of_cons;rw[r1.eK,gD r2];rfl
noncomputable def vA:List ad->Option ad | [.list ds]=>(eV ds).bind λns=>if ∀n∈ns,-500000000000<=n/\n<=500000000000 then some (.int ns.sum) else none | _=>none
theorem UB (hc:X.calm=true):nR X (.builtin "sum") vA:=⟨_,FW X.K hc,λgs S H ds vs d R _ _ rs e k=>by
 obtain⟨ds,rfl⟩:∃l,ds=[.list l]:=by
  unfold vA at e;split at e
  .exact⟨_,rfl⟩
  .cases e
 obtain⟨v,rfl,r⟩:=rs.one;obtain⟨a,xs,rfl,sq,_,rr⟩:=r.Of (K:=X.K);simp only[vA] at e
 cases ei:eV ds with
 | none=>rw[ei] at e;cases e
 | some ns =>
  rw[ei] at e;simp only[cb] at e;split at e
  .rename_i hb
   cases e;rw[gC ei] at rr;rw[gD rr] at sq;exact⟨a,ns,rfl,sq,hb,k _ H (.int _) (.refl _ _)⟩
  .cases e⟩
noncomputable def insI (a:Int):List Int->List Int | []=>[a] | b::l=>if a<=b then a::b::l else b::insI a l
noncomputable def sortI:List Int->List Int | []=>[] | a::l=>insI a (sortI l)
theorem insI_perm (a:Int):∀l,(insI a l).Perm (a::l)
 | []=>.refl _
 | b::l=>by
  unfold insI;split
  .exact .refl _
  .exact ((insI_perm a l).cons b).trans (.swap a b l)
theorem sortI_perm:∀l,(sortI l).Perm l
 | []=>.refl _
 | a::l=>(insI_perm a (sortI l)).trans ((sortI_perm l).cons a)
theorem s9 (a:Int):∀l:List Int,l.Pairwise (·<=·)->(insI a l).Pairwise (·<=·)
 | [],_=>by simp[insI]
 | b::l,h=>by
  unfold insI;obtain⟨h1,h2⟩:=bZ.mp h;split
  .rename_i Ar
   exact bZ.mpr ⟨λc hc=>by rcases al.mp hc with rfl | hc;exact Ar;exact Int.le_trans Ar (h1 c hc),h⟩
  .rename_i Ar
   refine bZ.mpr ⟨λc hc=>?_,s9 a l h2⟩;rcases al.mp ((insI_perm a l).mem_iff.mp hc) with rfl | hc
   .omega
   .exact h1 c hc
theorem qK:∀l,(sortI l).Pairwise (·<=·)
 | []=>.nil
 | a::l=>s9 a _ (qK l)
theorem C8 {l m:List Int}(h:l.Perm m)(hl:l.Pairwise (·<=·))(hm:m.Pairwise (·<=·)):l=m:=h.eq_of_pairwise (λa b _ _ h1 h2=>Int.le_antisymm h1 h2) hl hm
noncomputable def jP:List Int->List Int | []=>[] | a::l=>if a∈l then jP l else a::jP l
theorem gP:∀{l:List Int},k∈jP l↔k∈l
 | []=>Iff.rfl
 | a::l=>by
  unfold jP;split
  .rename_i h
   rw[gP,al];exact⟨.inr,λz=>z.elim (λe=>e ▸ h) id⟩
  .rw[al,gP,al]
theorem hV:∀l:List Int,(jP l).Nodup
 | []=>List.nodup_nil
 | a::l=>by
  unfold jP;split
  .exact hV l
  .rename_i h
   exact bJ.mpr ⟨λz=>h (gP.mp z),hV l⟩
noncomputable def kN (l:List Int):List Int:=sortI (jP l)
theorem ju:k∈kN l↔k∈l:=((sortI_perm _).mem_iff).trans gP
theorem me (l:List Int):(kN l).Pairwise (· < ·):=sR (qK _) ((sortI_perm _).nodup_iff.mpr (hV l))
theorem Jn:∀{l m:List Int},l.Pairwise (· < ·)->m.Pairwise (· < ·)->(∀k,k∈l↔k∈m)->l=m:=λ{l m} hl hm h=>by
 have nl:l.Nodup:=hl.imp λh=>by omega
 have nm:m.Nodup:=hm.imp λh=>by omega
 exact C8 ((cf nl nm).mpr h) (hl.imp λh=>by omega) (hm.imp λh=>by omega)
noncomputable def UC (u:UX):eU->Int->(List ad->Int->Prop)->Prop:=λenv n Q=>u env n λd n1=>mD (jr d) λds=>mD (eV ds) λns=>ns.length<64/\Q ((sortI ns).map .int) n1
noncomputable def rV (u:UX):eU->Int->(List ad->Int->Prop)->Prop:=λenv n Q=>u env n λd n1=>mD (jr d) λds=>mD (eV ds) λns=>ns.length<64/\Q ((kN ns).map .int) n1
theorem Ey (hm:X.mg "sorted" = none)(B2:X.mg "set" = none)(hc:X.calm=true)(h:KL X M e u)(hg:Gl X "sorted" := by rfl)(Ew:Gl X "set" := by rfl)(hs:fq e=true:=by rfl):KN X M (.Call (.Name "sorted" p) [.Call (.Name "set" p2) [e] [] q2] [] pos) (rV u) :=
 .of (zm X.K hc hg hm Ew B2 h.run rfl hs) λσ H R env pn S n Q ok hu k=>⟨env,pn,S,n,_,ok,hu,λv H1 d n1 r1 x1 g1 _ q=>by
  obtain⟨ds,e,ns,ei,hl,q⟩:=q;have e2:=gC ei;subst e2
  have ib:∀(l:Addr) (ms:List Int) (H2:Hp),Ext [] H1 H2->H1 l=none->H2 l=some (.lst (ms.map V.int))->ms.Pairwise (· < ·)->(∀k,k∈ms↔k∈ns)->ms.length<=ns.length->R (.ref l) H2:=λl ms H2 x2 hl h2 hp hm _=>by
   have em:ms=kN ns:=Jn hp (me ns) λk=>(hm k).trans ju.symm;subst em;exact k l _ H2 _ n1 (zy ok x1 g1 hl) h2 (.ints _) (x1.trans (x2.mono (!4))) (M.iW g1 x2 (!4)) q
  cases d with
  | tuple es =>
   cases e;obtain⟨a,xs,rfl,sq,_,rs⟩:=r1.K8 (K:=X.K);rw[gD rs] at sq;exact⟨a,ns,rfl,.inr sq,hl,ib⟩
  | list es =>
   cases e;obtain⟨a,xs,rfl,sq,_,rs⟩:=r1.Of (K:=X.K);rw[gD rs] at sq;exact⟨a,ns,rfl,.inl sq,hl,ib⟩
  | _=>cases e⟩
noncomputable def iP (u:UX):UX:=λenv n Q=>u env n λd n1=>Good d/\Q (.str d.shown) n1
theorem rW (hr:gi kk X.A)(hm:X.mg "repr" = none)(h:KE X M e u)(hg:Gl X "repr" := by rfl)(hs:fq e=true:=by rfl):KE X M (.Call (.Name "repr" p) [e] [] pos) (iP u) :=
 .of (i5 (Cu hr) hg hm (!3) (iI h.run fj hs)) λσ H R env pn S n Q ok hu k=>⟨env,pn,S,n,_,ok,hu,λv H1 d n1 r1 x1 g1 _ q=>⟨S,d,v,rfl,r1,q.1,k _ H1 _ n1 (.str _) x1 g1 q.2⟩⟩
noncomputable def vB:ad->Option Bool | .bool i=>some i | _=>none
noncomputable def oI (ds:List ad):Option (List Bool):=ds.mapM vB
@[simp] theorem A1 (ns:List Bool):oI (ns.map .bool)=some ns:=by
 unfold oI
 induction ns with
 | nil=>rfl
 | cons n ns ih=>rw[am,cQ,ih];rfl
theorem vC:∀{ds:List ad} {ns:List Bool},oI ds=some ns->ds=ns.map .bool
 | [],ns,h=>by cases h;rfl
 | d::ds,ns,h=>by
  unfold oI at h;rw[cQ] at h
  cases d with
  | bool i =>
   cases e:ds.mapM vB with
   | none=>simp[vB,e] at h
   | some ms =>
    simp[vB,e] at h;subst h;rw[vC (ds:=ds) e];rfl
  | _=>simp[vB] at h
theorem vD:∀{ns:List Bool} {xs:List V},dH S H (ns.map .bool) xs->xs=ns.map V.bl
 | [],_,r=>r.gc
 | n::ns,_,r=>by
  obtain⟨x,t,rfl,r1,r2⟩:=r.of_cons;rw[r1.iq,vD r2];rfl
noncomputable def Jo:List ad->Option ad | [.list ds]=>(oI ds).map λbs=>.bool (bs.all id) | _=>none
theorem UD (hc:X.calm=true):nR X (.builtin "all") Jo:=⟨_,Fm X.K hc,λgs S H ds vs d R _ _ rs e k=>by
 obtain⟨ds,rfl⟩:∃l,ds=[.list l]:=by
  unfold Jo at e;split at e
  .exact⟨_,rfl⟩
  .cases e
 obtain⟨v,rfl,r⟩:=rs.one;obtain⟨a,xs,rfl,sq,_,rr⟩:=r.Of (K:=X.K);simp only[Jo] at e
 cases ei:oI ds with
 | none=>rw[ei] at e;cases e
 | some ns =>
  rw[ei] at e;cases e;rw[vC ei] at rr;rw[vD rr] at sq;exact⟨a,ns,rfl,sq,k _ H (.bl _) (.refl _ _)⟩⟩
end
theorem nf (i:Nat)(l:List Nat)(h:l.contains i=false:=by rfl):i ∉ l:=λz=>by
 have:l.contains i=true:=List.contains_iff_mem.mpr z;rw[h] at this;cases this
theorem ym {P:Nat->Prop}:∀j∈([]:List Nat),P j:=λj h=>by cases h
theorem XJ {i j:Nat}{mp:List (Option Nat)}(h:mp[j]? = some (some i)):∀j'∈[j],∃i'∈[i],mp[j']? = some (some i'):=λj' hj=>by
 have e:=ay.mp hj;subst e;exact⟨i,ay.mpr rfl,h⟩
noncomputable def XM (u:UX):eU->Int->(List ad->Int->Prop)->Prop:=λenv n Q=>u env n λd n1=>match d with | .list ds=>mD (eV ds) λns=>ns.length<64/\Q ((sortI ns).map .int) n1 | _=>False
noncomputable def XN (ua ub:UX):eU->Int->(List ad->Int->Prop)->Prop:=λenv n Q=>ua env n λx n1=>ub env n1 λy n2=>match x,y with | .list xs,.int k=>(-(2 ^ 63)<=k/\k<2 ^ 63/\xs.length * k.toNat<=av)/\Q (List.replicate k.toNat xs).flatten n2 | _,_=>False
noncomputable def MN (ua ub:UX):eU->Int->(List ad->Int->Prop)->Prop:=λenv n Q=>ua env n λx n1=>ub env n1 λy n2=>match x,y with | .list xs,.list ys=>xs.length+ys.length<=av/\Q (xs++ys) n2 | _,_=>False
noncomputable def XO (u:UX)(ul uh:UO):eU->Int->(List ad->Int->Prop)->Prop:=λenv n Q=>u env n λd n1=>ul env n1 λlo n2=>uh env n2 λhi n3=>match d with | .list ds=>Q (jk ds lo hi) n3 | _=>False
section
variable {X:Cx}{M:Fr}{e a b:Expr}{u ua ub:UX}{p p2 q2 pos:Pos}
theorem UE (ha:KL X M a ua)(hb:KL X M b ub):KN X M (.BinOp a .Add b pos) (MN ua ub) :=
 .of (g7 Cn ha.run hb.run) λσ H R env pn S n Q ok hu k=>⟨env,pn,S,n,_,ok,hu,λx H1 dx n1 r1 x1 g1 _ q1=>⟨env,pn,S,n1,_,ok.step x1 g1,q1,λy H2 dy n2 r2 x2 g2 sz q=>by
  cases dx with
  | list xs=>cases dy with
   | list ys =>
    obtain⟨l,vs,rfl,hl,rs⟩:=(r1.ext ok.wL x2).eY;obtain⟨l2,ws,rfl,NK,ZE⟩:=r2.eY;exact⟨l,l2,vs,ws,rfl,rfl,hl,NK,by rw[rs.length,ZE.length];exact q.1,λp hp=>k p _ _ _ n2 (zy ok (x1.trans x2) g2 hp) dG (((rs.append ZE).fresh hp).ext (.new hp)) ((x1.trans x2).trans (.new hp)) (M.iW g2 (.new (S:=[]) hp) (!4)) q.2⟩
   | _=>exact False.elim q
  | _=>cases dy<;>exact False.elim q⟩⟩
theorem UH (ho:t9 X (compareOp op) f)(B0:t9 X (compareOp NG) g)(ha:KL X M a ua)(hb:KL X M b ub)(hc:KL X M c uc)(hm:lastMarks [op,NG] [b,c]=false:=by with_unfolding_all rfl) :
  KE X M (.Compare a [op,NG] [b,c] pos) (Qs f g ua ub uc):=by
 obtain⟨r,h1,h2⟩:=ho.ex;obtain⟨r',RO,UK⟩:=B0.ex;refine .of (Ib h1 RO ha.run hb.run hc.run hm) λσ H R env pn S n Q ok hu k=>⟨env,pn,S,n,_,ok,hu,λx H1 dx n1 r1 x1 g1 _ q1=>⟨env,pn,S,n1,_,ok.step x1 g1,q1,λy H2 dy n2 r2 x2 g2 sz q=>?_⟩⟩;obtain⟨d,e,q⟩:=q;have He:=(ok.step x1 g1).step x2 g2;refine h2 M.gs S H2 dx dy x y d _ He.has sz (r1.ext ok.wL x2) r2 e λv H3 r3 x3=>?_;have g3:=M.iW g2 x3 (!4);have UL:Ext M.gs H2 H3:=x3.mono (!4)
 cases d with
 | bool bb =>
  refine⟨bb,r3.iq,?_⟩
  cases bb with
  | true =>
   refine⟨env,pn,S,n2,_,He.step UL g3,q,λz H4 dz n4 r4 x4 g4 sz4 q4=>?_⟩;obtain⟨d4,e4,q4⟩:=q4;have Xw:=(He.step UL g3).step x4 g4;exact UK M.gs S H4 dy dz y z d4 _ Xw.has sz4 ((r2.ext ok.wL UL).ext ok.wL x4) r4 e4 λv5 H5 r5 x5=>k v5 H5 d4 n4 r5 ((((x1.trans x2).trans UL).trans x4).trans (x5.mono (!4))) (M.iW g4 x5 (!4)) q4
  | false=>exact k _ H3 _ n2 (.bl _) ((x1.trans x2).trans UL) g3 q
 | _=>exact False.elim q
noncomputable def qL (u:UX):UX:=λenv n Q=>u env n λd n1=>mD (jr d) λds=>mD (eV ds) λns=>ns.length<4000/\Q (.int (jP ns).length) n1
theorem Jp {ms ns:List Int}(nd:ms.Nodup)(mem:∀k,k∈ms↔k∈ns):ms.length=(jP ns).length :=
 Nat.le_antisymm (fF nd λk hk=>gP.mpr ((mem k).mp hk)) (fF (hV ns) λk hk=>(mem k).mpr (gP.mp hk))
theorem A2 (hm:X.mg "len" = none)(B2:X.mg "set" = none)(hc:X.calm=true)(h:KL X M e u)(hg:Gl X "len" := by rfl)(Ew:Gl X "set" := by rfl)(hs:fq e=true:=by rfl):KE X M (.Call (.Name "len" p) [.Call (.Name "set" p2) [e] [] q2] [] pos) (qL u):=by
 have ID:=f' (p:=p2) (pos:=q2) (xY X.K X.w hc rfl rfl) Ew B2 (!3) (iI h.run fj hs);refine .of (i5 (FD X.w rfl) hg hm (!3) (iI ID fj)) λσ H R env pn S n Q ok hu k=>⟨env,pn,S,n,_,ok,hu,λv H1 d n1 r1 x1 g1 _ q=>?_⟩;obtain⟨ds,e,ns,ei,hl,q⟩:=q;have e2:=gC ei;subst e2
 have ib:∀(l:Addr) (ms:List Int),ms.Nodup->(∀k,k∈ms↔k∈ns)->ms.length<=ns.length->H1 l=none->∃(l':Addr) (ZF:List Int),[V.ref l]=[.ref l']/\(eM H1 l (.ext (iV X.w l ms))) l'=some (.ext (iV X.w l' ZF))/\R (.int ZF.length) (eM H1 l (.ext (iV X.w l ms))):=λl ms nd mm _ hl=>by
  refine⟨l,ms,rfl,dG,?_⟩;rw[Jp nd mm];exact k _ _ _ n1 (.int _) (x1.trans (.new hl)) (M.iW g1 (.new (S:=[]) hl) (!4)) q
 cases d with
 | tuple es =>
  cases e;obtain⟨a,xs,rfl,sq,_,rs⟩:=r1.K8 (K:=X.K);rw[gD rs] at sq;exact⟨a,ns,rfl,.inr sq,hl,ib⟩
 | list es =>
  cases e;obtain⟨a,xs,rfl,sq,_,rs⟩:=r1.Of (K:=X.K);rw[gD rs] at sq;exact⟨a,ns,rfl,.inl sq,hl,ib⟩
 | _=>cases e
end
structure XF (K:W.Frag) (mg:Str->Option af) (C:Xc) (Hg all:List Str):Prop where
 nm:∀c∈all,mg c=some (.ref (C.cl c))
 Xi:∀c∈Hg,∀h,(h=c\/h = "JoinError")->W.exmOne K (.ref (C.cl c)) (.ref (C.cl h))=some true
 isi:∀c∈Hg,∀h∈all,W.kitOne K (.ref (C.cl c)) (.ref (C.cl h))=some (decide (h=c\/h = "JoinError"))
 val:∀c∈Hg,W.kitOne K (.ref (C.cl c)) (.type "ValueError")=some true
 ci:∀c∈Hg,Ua K (C.cl c)
 fld:∀c∈Hg,∀f∈C.fl c,W.findIn K (.ref (C.cl c)) f=some none
section
variable {X:Cx}{M:Fr}{C:Xc}{Hg all:List Str}{e:Expr}{es:List Expr}{ua:UA}{F:UF}{k i j:Nat}{x f cn nm:Str}{ps:List Str}{b0:Stmt}{sX:List Stmt}{uh:US}{p pos jK px np AH gL:Pos}
noncomputable def Jq (i:Nat)(F:UF)(cn:Str)(Hg:List Str)(ua:UA)(uh:US):US:=λE env n=>ua env n λds n1=>F ds n1 (λd n'=>E.nx (env.set i (some (.s d))) n') (λc as=>(c∈Hg/\(cn=c\/cn = "JoinError"))/\uh E env n1)
theorem FX (hM:M.xc=C)(xf:XF X.K X.mg C Hg all)(ok:dQ M env pn σ S H n)(x1:Ext M.gs H H1)(g1:M.G H1 n1)
  (k1:∀d5 σ' S' H' n',dQ M d5 pn σ' S' H' n'->E.nx d5 n'->D.nx σ' H') (k2:∀v H' d n',eF M.S0 H' d v->Ext M.gs M.H0 H'->M.G H' n'->E.rt d n'->D.rt v H')
  (q:(c∈Hg/\(cn=c\/cn = "JoinError"))/\uh E env n1):Rz C S [] H1 (qC X.K (C.cl cn) (Eh M uh) D σ) c as:=λdx H' vs rv hd x' =>
 ⟨xf.Xi c q.1.1 cn q.1.2,env,pn,S,n1,E,(ok.step x1 g1).step (x'.mono (!4)) (M.iW g1 x' (!4)),q.2,k1,k2⟩
theorem QJ (hM:M.xc=C)(xf:XF X.K X.mg C Hg all)(hcn:cn∈all)(D:IE X.prog X.w X.K X.mg X.base k f ps (mF C F))(hr:gi k X.A)(hN:X.N.Nodup)(hx:Loc X.env.scope x)(ha:∀Ex,KA (X.rG Ex) M (e::es) ua)(hs:∀x,zZ (zp X x) M (b0::sX) uh)
  (hi:X.N[i]? = some x:=by rfl) (hfd:i ∉ M.fd) (tW:X.stack=X.env::X.outer:=by rfl) (FG:X.env.frame=some X.env.locals:=by rfl) (hg:Gl X cn:=by rfl) (nB:(cn == ("__debug__" : Str))=false:=by decide) (hgf:Gl X f:=by rfl) (PH:(f == ("__debug__" : Str))=false:=by decide)
  (LZ:swapsWith (.Call (.Name f p) (e::es) [] gL) (some (.Name x px)) jK.line X.env=pure false:=by rfl) (hf:X.fn x=true\/X.env.scope.names.lookup x=some .local:=by (first | exact .inl rfl | exact .inr rfl | assumption)) :
  KS X M (.Try [.Assign [.Name x px] (.Call (.Name f p) (e::es) [] gL) jK] [.ExceptHandler (some (.Name cn np)) none (b0::sX) AH] [] [] pos) (Jq i F cn Hg ua uh) :=
 .of (CW X.K (xf.nm cn hcn) hN hi hx (Mw D hr (λEx=>(ha Ex).run) hgf PH) (λy=>(hs y).run) tW FG hg nB LZ hf) λD σ H env pn S n E ok hu k1 k2=>⟨env,pn,S,n,_,ok,hu,λvs H1 ds n1 el r1 x1 g1 _ q =>
  ⟨S,ds,n1,_,_,r1,(ok.step x1 g1).has,q,λd v H2 r2 x2 q2=>k1 _ _ _ _ _ (((ok.step x1 g1).step (x2.mono (!4)) (M.iW g1 x2 (!4))).set r2 hfd) q2,λc as z=>FX hM xf ok x1 g1 k1 k2 z⟩⟩
end
noncomputable def jQ:Int:=1099511627776
noncomputable def fG:UF:=λds n Q _=>match ds with | [.int m]=>(0<m/\m<1073741824/\n<jQ)/\∀r:Int,0<=r->r<m->Q (.int r) (n+1) | _=>False
noncomputable def Ez (Y:wN):Sp:=λvs H Q _=>∃(fa sa:Addr) (n many:Int),vs=[.ref fa,.int many]/\Y.jt H fa sa n/\0<many/\many<1073741824/\n<jQ/\∀(r:Int) (H':Hp),0<=r->r<many->Y.jt H' fa sa (n+1)->Ext [fa] H H'->Q (.int r) H'
noncomputable def uj (Y:wN)(K:W.Frag):Sp:=λvs H Q _=>∃(a:Addr) (ns:List Int),vs=[.ref a]/\gY K H a (ns.map V.int)/\∀(fa sa:Addr) (H':Hp),Y.jt H' fa sa 0->Ext [] H H'->H fa=none->H sa=none->Q (.ref fa) H'
noncomputable def A3 (K:W.Frag):Sp:=λvs H Q _=>∃(a:Addr) (ns:List Int),vs=[.ref a]/\gY K H a (ns.map V.int)/\ns.length<=63/\∀H',Q (.bl true) H'
section
variable {P:aZ}{w:World}{K:W.Frag}{mg:Str->Option af}{base:Heap}{f:Addr}{fd:bq}{x:Str}{ps:List Str}{k:Nat}{C:Xc}{u:US}{Y:wN}{st ZG:Stmt}{rest:List Stmt}{N:List Str}{sn:Str}
theorem dZ.imp {sp SG:Sp}(D:dZ P w K mg base k x ps sp)(h:∀vs H Q E,SG vs H Q E->sp vs H Q E):dZ P w K mg base k x ps SG:=let ⟨f,fd,F,r⟩:=D.ex;⟨f,fd,F.imp h,r⟩
theorem dZ.up {sp:Sp}{k':Nat}(D:dZ P w K mg base k x ps sp)(h:k<=k'):dZ P w K mg base k' x ps sp:=let ⟨f,fd,F,r⟩:=D.ex;⟨f,fd,F.mono h,r⟩
theorem dZ.draw (D:dZ P w K mg base k x ps (Ez Y)):dZ P w K mg base k x ps (nS Y fG):=D.imp λvs H Q E h=>by
 obtain⟨fa,sa,us,S,ds,n,Qp,rfl,fe,hS,r,has,hF,hq⟩:=h;unfold fG at hF;split at hF
 .rename_i m
  obtain⟨⟨h1,h2,h3⟩,h4⟩:=hF;obtain⟨v,t,rfl,r1,r2⟩:=r.of_cons;cases r2.gc;cases r1.eK;exact⟨fa,sa,n,m,rfl,fe,h1,h2,h3,λr H' r0 r1 fe' x=>hq _ _ _ H' (.int r) fe' x (h4 r r0 r1)⟩
 .exact hF.elim
theorem XR (F:wK K "law" "law" st f fd)(sc:fK N [sn] (dw st))(hN:2<=N.length)
  (body:∀(fg:af) (A:Around) (outer:List Env) (s:aw) (H:Hp) (E:XK),gi k (A.deeper (envOfC "law" (dw st) s.heap.objs.size f fg)) ->
   QS (mI wJ P w K mg base N "law" (dw st) f fg A outer s H E).G9 ZG (O5 (uW (uj Y K) (HC (OR 0) Pg)) (Aa 1)) /\
   ∀(fa sa:Addr) (n0:Int) (S:List Addr) (H1:Hp) (hf:Y.jt H1 fa sa n0) (hS:fa∈S) (has:∀a∈S,H1 a≠none),zZ (mI wJ P w K mg base N "law" (dw st) f fg A outer s H E).G9 (Fr.feed C Y 1 fa sa n0 S H1 hf hS has) rest u)
  (hb:fW st=ZG::rest) (hu:u { nx:=λ_ _=>False,rt:=λd _=>d=.bool true } (List.replicate N.length none) 0):jX P w K mg base wJ (k+1) f fd [sn] (A3 K):=by
 refine F.P8 sc (λvs H Q E h=>?_) (λfg A outer s H vs Q E hr h=>?_)
 .obtain⟨a,ns,rfl,_⟩:=h
  rfl
 .obtain⟨a,ns,rfl,hs,_,q⟩:=h
  obtain⟨q0,qr⟩:=body fg A outer s H E hr
  have UM:xH (mI wJ P w K mg base N "law" (dw st) f fg A outer s H E).G9 rest (λD σ H'=>∃fa sa n0 S H1 hf hS has,Eh (Fr.feed C Y 1 fa sa n0 S H1 hf hS has) u D σ H') :=
   ⟨λpins s σ H D I ⟨fa,sa,n0,S,H1,hf,hS,has,h⟩=>(qr fa sa n0 S H1 hf hS has).run.run pins s σ H D I h⟩
  rw[hb];have tW:start N [V.ref a]=some (.ref a)::List.replicate (N.length - 1) none:=rfl;refine⟨_,fO q0 UM,_,by rw[tW];rfl,a,ns,rfl,hs,λfa sa H1 fe x1 Jk hsa=>?_⟩;have has:∀b∈[fa],H1 b≠none:=λb hb=>by have e:=ay.mp hb;subst e;exact Y.fa fe
  refine⟨fa,sa,0,[fa],H1,fe,ay.mpr rfl,has,List.replicate N.length none,[],[fa],0,_,⟨λi e he=>?_,λi j ds es b h1=>?_,?_,?_,fe,.refl _ _,λb hb=>hb,λb hb=>.inl hb,has,λp hp=>by cases hp⟩,hu,λ_ _ _ _ _ _ z=>z.elim,λv H' d n' r _ _ e=>?_⟩
  .rw[cm] at he
   split at he<;>cases he
  .rw[cm] at h1
   split at h1<;>cases h1
  .rw[bu,tW,aj,cR,cR]
   omega
  .intro i hi
   have e:i=1:=ay.mp hi;subst e;rw[tW];exact oG (by rw[aj,cR];omega)
  .subst e
   rw[r.iq];exact q H'
end
noncomputable def UN:UF:=λ_ _ _ _=>False
section
variable {P:aZ}{w:World}{K:W.Frag}{mg:Str->Option af}{base:Heap}{f:Addr}{fd:bq}{x fz:Str}{st:Stmt}{ps:List Str}{k:Nat}{Y:wN}{C:Xc}
theorem UP (F:wK K x fz st f fd)(hm:mg x=some (.ref f))(hb:Binds K fd ps []):dZ P w K mg base k x ps (nS Y UN) :=
 ⟨f,fd,⟨λvs H Q E ⟨_,_,_,_,_,_,_,_,_,_,_,_,h,_⟩=>h.elim,λ_ _ _ _ _ _ _ _ _ _ _ _ _ ⟨_,_,_,_,_,_,_,_,_,_,_,_,h,_⟩=>h.elim⟩,hm,F.kp,hb⟩
end
theorem xb.XS {K:W.Frag}{mg:Str->Option af}{x:Str}{C J:Addr}(e:xb K C J)(o:FQ K mg x C)(bx:W.mroIn K C (.type "BaseException")=some true):W.exmOne K (.ref C) (.ref C)=some true:=by
 unfold W.exmOne;have h:W.subIn K (.ref C) (.type "BaseException")=some true:=bx;rw[h,if_pos (!4),o.Xh];exact e.own
end L2
namespace L2
open PySem
mutual
def Gd (B:Nat):ad->Prop
 | .none=>True
 | .bool _=>True
 | .int i=>i.natAbs<=B
 | .str x=>(∀c∈x.cps.toList,c<1114112)/\x.cps.size<=60
 | .tuple ds=>Om B ds
 | .list ds=>Om B ds
 | .dict _=>False
def Om (B:Nat):List ad->Prop
 | []=>True
 | d::ds=>Gd B d/\Om B ds
end
theorem UQ:(10:Nat) ^ 50<2 ^ 1920:=by decide +kernel
mutual
theorem zz:∀d:ad,Gd (10 ^ 50) d->d.canLay0=true/\d.showable=true/\d.leavesShort 60=true
 | .none,_=>⟨rfl,rfl,rfl⟩
 | .bool _,_=>⟨rfl,rfl,rfl⟩
 | .int i,g=>by
  simp only[Gd] at g;refine⟨rfl,?_,?_⟩
  .simp only[ad.showable,decide_eq_true_eq]
   by_cases h:i.natAbs=0
   .rw[h];decide
   .exact (Nat.log2_lt h).mpr (cq g UQ)
  .simp only[ad.leavesShort,decide_eq_true_eq]
   have e:=int_text_length_le10 (k:=51) (!2) (cq g (by decide +kernel:(10:Nat) ^ 50<10 ^ 51));show (Str.ofString (toString i)).length<=60;rw[ofString_length];omega
 | .str x,g=>by
  simp only[Gd] at g;refine⟨?_,rfl,?_⟩
  .show ad.strOk x=true
   unfold ad.strOk;rw[Array.all_eq_true'];intro c hc;exact decide_eq_true (g.1 c (by simpa using hc))
  .simp only[ad.leavesShort,ca,decide_eq_true_eq]
   intro c hc;exact aS (g.1 c hc) (!2)
 | .tuple ds,g=>by simp only[Gd] at g;simpa only [ad.canLay0,ad.showable,ad.leavesShort] using zA ds g
 | .list ds,g=>by simp only[Gd] at g;simpa only [ad.canLay0,ad.showable,ad.leavesShort] using zA ds g
 | .dict _,g=>by simp only[Gd] at g
theorem zA:∀ds:List ad,Om (10 ^ 50) ds->ad.canLayAll0 ds=true/\ad.showableAll ds=true/\ad.leavesShortAll 60 ds=true
 | [],_=>⟨rfl,rfl,rfl⟩
 | d::ds,g=>by
  simp only[Om] at g;obtain⟨a1,a2,a3⟩:=zz d g.1;obtain⟨b1,b2,b3⟩:=zA ds g.2;simp only[ad.canLayAll0,ad.showableAll,ad.leavesShortAll,a1,a2,a3,b1,b2,b3];exact⟨rfl,rfl,rfl⟩
end
theorem MO (g:Gd (10 ^ 50) d)(hd:d.depth<=60)(hw:d.weight<=200000):Good d:=⟨(zz d g).1,(zz d g).2.1,(zz d g).2.2,hd,hw⟩
theorem oJ:∀xs ys:List ad,ad.weightAll (xs++ys)=ad.weightAll xs+ad.weightAll ys
 | [],ys=>by simp[ad.weightAll]
 | x::xs,ys=>by simp only[aI,ad.weightAll,oJ xs ys];omega
theorem oK:∀xs ys:List ad,ad.depthAll (xs++ys)=max (ad.depthAll xs) (ad.depthAll ys)
 | [],ys=>by simp[ad.depthAll]
 | x::xs,ys=>by simp only[aI,ad.depthAll,oK xs ys];exact (Nat.max_assoc _ _ _).symm
theorem vE (xs:List ad)(n:Nat):ad.weightAll xs=ad.weightAll (xs.take n)+ad.weightAll (xs.drop n):=by rw[<- oJ,List.take_append_drop]
theorem A4 (xs:List ad)(n:Nat):ad.depthAll xs=max (ad.depthAll (xs.take n)) (ad.depthAll (xs.drop n)):=by rw[<- oK,List.take_append_drop]
theorem Jr:∀xs:List ad,ad.weightAll xs.reverse=ad.weightAll xs
 | []=>rfl
 | x::xs=>by rw[cz,oJ,Jr xs];simp only[ad.weightAll];omega
theorem Js:∀xs:List ad,ad.depthAll xs.reverse=ad.depthAll xs
 | []=>rfl
 | x::xs=>by rw[cz,oK,Js xs];simp only[ad.depthAll];omega
theorem Oo (h:i.natAbs<2 ^ k):ad.weight (.int i)<=k:=by
 simp only[ad.weight];split
 .omega
 .rename_i g6
  have:i.natAbs≠0:=λz=>g6 (by simp;omega);have:=(Nat.log2_lt this).mpr h;omega
theorem Jt:∀{ds:List ad} {d:ad},d∈ds->d.depth<=ad.depthAll ds
 | e::es,d,h=>by
  simp only[ad.depthAll];rcases al.mp h with rfl | h
  .omega
  .have:=Jt h;omega
theorem Ju:∀{ds:List ad} {d:ad},d∈ds->d.weight+1<=ad.weightAll ds
 | e::es,d,h=>by
  simp only[ad.weightAll];rcases al.mp h with rfl | h
  .omega
  .have:=Ju h;omega
mutual
def Gq (B L:Nat):ad->Prop
 | .none=>True
 | .bool _=>True
 | .int i=>i.natAbs<=B
 | .str x=>(∀c∈x.cps.toList,c<1114112)/\x.cps.size<=L
 | .tuple ds=>A5 B L ds
 | .list ds=>A5 B L ds
 | .dict _=>False
def A5 (B L:Nat):List ad->Prop
 | []=>True
 | d::ds=>Gq B L d/\A5 B L ds
end
theorem i8:∀{ds:List ad},A5 B L ds↔∀d∈ds,Gq B L d
 | []=>by simp[A5]
 | d::ds=>by simp[A5,i8 (ds:=ds)]
mutual
theorem zB {B L B' L':Nat}(h:B<=B')(k:L<=L'):∀d:ad,Gq B L d->Gq B' L' d
 | .none,_=>by simp[Gq]
 | .bool _,_=>by simp[Gq]
 | .int i,g=>by simp only[Gq] at g ⊢;omega
 | .str x,g=>by simp only[Gq] at g ⊢;exact⟨g.1,!1⟩
 | .tuple ds,g=>by simp only[Gq] at g ⊢;exact mf h k ds g
 | .list ds,g=>by simp only[Gq] at g ⊢;exact mf h k ds g
 | .dict _,g=>by simp only[Gq] at g
theorem mf {B L B' L':Nat}(h:B<=B')(k:L<=L'):∀ds:List ad,A5 B L ds->A5 B' L' ds
 | [],_=>by simp[A5]
 | d::ds,g=>by simp only[A5] at g ⊢;exact⟨zB h k d g.1,mf h k ds g.2⟩
end
mutual
theorem Oq:∀d:ad,Gq (10 ^ 50) 60 d->Gd (10 ^ 50) d
 | .none,_=>by simp[Gd]
 | .bool _,_=>by simp[Gd]
 | .int i,g=>by simp only[Gq] at g;simp only[Gd];exact g
 | .str x,g=>by simp only[Gq] at g;simp only[Gd];exact g
 | .tuple ds,g=>by simp only[Gq] at g;simp only[Gd];exact C9 ds g
 | .list ds,g=>by simp only[Gq] at g;simp only[Gd];exact C9 ds g
 | .dict _,g=>by simp only[Gq] at g
theorem C9:∀ds:List ad,A5 (10 ^ 50) 60 ds->Om (10 ^ 50) ds
 | [],_=>by simp[Om]
 | d::ds,g=>by simp only[A5] at g;simp only[Om];exact⟨Oq d g.1,C9 ds g.2⟩
end
structure Sz (B L w p:Nat) (d:ad):Prop where
 gq:Gq B L d
 wt:d.weight<=w
 dp:d.depth<=p
structure gR (B L w p:Nat) (ds:List ad):Prop where
 gq:A5 B L ds
 wt:ad.weightAll ds<=w
 dp:ad.depthAll ds<=p
section
variable {B L B' L' w w' p p':Nat}{d:ad}{ds es:List ad}
theorem Sz.mono (h:Sz B L w p d)(hB:B<=B')(hL:L<=L')(hw:w<=w')(hp:p<=p'):Sz B' L' w' p' d:=⟨zB hB hL d h.gq,aL h.wt hw,aL h.dp hp⟩
theorem gR.mono (h:gR B L w p ds)(hB:B<=B')(hL:L<=L')(hw:w<=w')(hp:p<=p'):gR B' L' w' p' ds:=⟨mf hB hL ds h.gq,aL h.wt hw,aL h.dp hp⟩
theorem Sz.gd (h:Sz B L w p d)(hB:B<=10 ^ 50)(hL:L<=60):Gd (10 ^ 50) d:=Oq d (zB hB hL d h.gq)
theorem Sz.good (h:Sz B L w p d)(hB:B<=10 ^ 50)(hL:L<=60)(hw:w<=200000)(hp:p<=60):Good d:=MO (h.gd hB hL) (aL h.dp hp) (aL h.wt hw)
mutual
theorem Jv:∀d:ad,Gq B L d->d.canLay0=true
 | .none,_=>rfl
 | .bool _,_=>rfl
 | .int i,_=>rfl
 | .str x,g=>by
  simp only[Gq] at g;show ad.strOk x=true;unfold ad.strOk;rw[Array.all_eq_true'];intro c hc;exact decide_eq_true (g.1 c (by simpa using hc))
 | .tuple ds,g=>by simp only[Gq] at g;simpa only [ad.canLay0] using zC ds g
 | .list ds,g=>by simp only[Gq] at g;simpa only [ad.canLay0] using zC ds g
 | .dict _,g=>by simp only[Gq] at g
theorem zC:∀ds:List ad,A5 B L ds->ad.canLayAll0 ds=true
 | [],_=>rfl
 | d::ds,g=>by
  simp only[A5] at g;simp only[ad.canLayAll0,Jv d g.1,zC ds g.2];rfl
end
theorem Sz.lay (h:Sz B L w p d):d.canLay0=true:=Jv d h.gq
theorem gR.nil:gR B L 0 0 []:=⟨by simp[A5],by simp[ad.weightAll],by simp[ad.depthAll]⟩
theorem gR.cons (h:Sz B L w p d)(t:gR B L w' p' ds):gR B L (w+1+w') (max p p') (d::ds):=by
 refine⟨by simp only[A5];exact⟨h.gq,t.gq⟩,?_,?_⟩
 .simp only[ad.weightAll];have:=h.wt;have:=t.wt;omega
 .simp only[ad.depthAll];have:=h.dp;have:=t.dp;omega
theorem gR.append (h:gR B L w p ds)(t:gR B L w' p' es):gR B L (w+w') (max p p') (ds++es):=by
 refine⟨i8.mpr λd hd=>?_,?_,?_⟩
 .rcases aH.mp hd with hd | hd
  .exact i8.mp h.gq d hd
  .exact i8.mp t.gq d hd
 .rw[oJ];have:=h.wt;have:=t.wt;omega
 .rw[oK];have:=h.dp;have:=t.dp;omega
theorem gR.take (h:gR B L w p ds)(n:Nat):gR B L w p (ds.take n):=by
 refine⟨i8.mpr λd hd=>i8.mp h.gq d (b8 hd),?_,?_⟩
 .have:=vE ds n;have:=h.wt;omega
 .have:=A4 ds n;have:=h.dp;omega
theorem gR.drop (h:gR B L w p ds)(n:Nat):gR B L w p (ds.drop n):=by
 refine⟨i8.mpr λd hd=>i8.mp h.gq d (cC hd),?_,?_⟩
 .have:=vE ds n;have:=h.wt;omega
 .have:=A4 ds n;have:=h.dp;omega
theorem gR.rev (h:gR B L w p ds):gR B L w p ds.reverse:=⟨i8.mpr λd hd=>i8.mp h.gq d (List.mem_reverse.mp hd),by rw[Jr];exact h.wt,by rw[Js];exact h.dp⟩
theorem Sz.tup (h:gR B L w p ds):Sz B L w (p+1) (.tuple ds):=⟨by simp only[Gq];exact h.gq,by simp only[ad.weight];exact h.wt,by simp only[ad.depth];have:=h.dp;omega⟩
theorem Sz.lst (h:gR B L w p ds):Sz B L w (p+1) (.list ds):=⟨by simp only[Gq];exact h.gq,by simp only[ad.weight];exact h.wt,by simp only[ad.depth];have:=h.dp;omega⟩
theorem Sz.eX (h:Sz B L w p (.tuple ds)):gR B L w (p - 1) ds:=⟨by have:=h.gq;simpa only [Gq] using this,by have:=h.wt;simpa only [ad.weight] using this,by have:=h.dp;simp only[ad.depth] at this;omega⟩
theorem Sz.iZ:Sz B L 0 0 .none:=⟨by simp[Gq],by simp[ad.weight],by simp[ad.depth]⟩
theorem Sz.bl (b:Bool):Sz B L 0 0 (.bool b):=⟨by simp[Gq],by simp[ad.weight],by simp[ad.depth]⟩
theorem Sz.int (h:i.natAbs<=B)(hB:B<=10 ^ 50):Sz B L 168 0 (.int i):=⟨by simpa only [Gq] using h,Oo (cq (aL h hB) (!3)),by simp[ad.depth]⟩
theorem Sz.small (h:i.natAbs<1024)(hB:1023<=B):Sz B L 10 0 (.int i):=⟨by simp only[Gq];omega,Oo h,by simp[ad.depth]⟩
theorem Sz.str (h:(x.cps.toList.all (λc=>decide (c<1114112)) && decide (x.cps.size<=L))=true):Sz B L L 0 (.str x):=by
 rw[aK,ca] at h;have h2:=of_decide_eq_true h.2;exact⟨by simp only[Gq];exact⟨λc hc=>of_decide_eq_true (h.1 c hc),h2⟩,by simp only[ad.weight];exact h2,by simp[ad.depth]⟩
theorem gR.ints (hB:1023<=B):∀{ns:List Int},(∀i∈ns,i.natAbs<1024)->gR B L (11 * ns.length) 0 (ns.map .int)
 | [],_=>gR.nil
 | n::ns,h=>by
  have t:=gR.ints (ns:=ns) hB λi hi=>h i (ao _ hi);have:=gR.cons (Sz.small (h n (aq ..)) hB) t;rw[am,aj];exact this.mono (ag _) (ag _) (!1) (!4)
theorem gR.all:∀{ds:List ad},(∀d∈ds,Sz B L w p d)->gR B L ((w+1) * ds.length) p ds
 | [],_=>gR.nil.mono (ag _) (ag _) (!4) (bW _)
 | d::ds,h=>by
  have t:=gR.all (ds:=ds) λi hi=>h i (ao _ hi);refine (gR.cons (h d (aq ..)) t).mono (ag _) (ag _) ?_ (!4);rw[aj,Nat.mul_succ];omega
end
section
variable {i j:Int}{ns ms:List Int}{x y:ad}
theorem kO (ns:List Int):ad.canLayAll0 (ns.map .int)=true:=by
 induction ns with
 | nil=>rfl
 | cons n ns ih=>simpa [ad.canLayAll0,ad.canLay0] using ih
theorem vF (ns:List Int):ad.depthAll (ns.map .int)=0:=by
 induction ns with
 | nil=>rfl
 | cons n ns ih=>simpa [ad.depthAll,ad.depth] using ih
theorem qM:∀ns ms:List Int,ad.eqvAll (ns.map .int) (ms.map .int)=decide (ns=ms)
 | [],[]=>rfl
 | [],m::ms=>rfl
 | n::ns,[]=>rfl
 | n::ns,m::ms=>by
  simp only[am,ad.eqvAll,ad.eqv,qM ns ms,List.cons.injEq];by_cases h:n=m<;>simp[h]
theorem vG (hx:x.canLay0=true)(hy:y.canLay0=true)(hd:x.depth<=60):l9 x y=some (.bool (ad.eqv x y)):=if_pos ⟨hx,hy,hd⟩
theorem vH (hx:x.canLay0=true)(hy:y.canLay0=true)(hd:x.depth<=60):yg x y=some (.bool (!PyData.eqv x y)):=if_pos ⟨hx,hy,hd⟩
theorem fc:l9 (.int i) (.int j)=some (.bool (decide (i=j))):=by
 rw[vG rfl rfl (by simp[ad.depth])];simp only[ad.eqv];congr
theorem zD:yg (.int i) (.int j)=some (.bool (!decide (i=j))):=by
 rw[vH rfl rfl (by simp[ad.depth])];simp only[ad.eqv];congr
theorem Jw:l9 (.bool a) (.bool b)=some (.bool (a == b)):=by
 rw[vG rfl rfl (by simp[ad.depth])];simp only[ad.eqv]
theorem A6:yg (.bool a) (.bool b)=some (.bool (!(a == b))):=by
 rw[vH rfl rfl (by simp[ad.depth])];simp only[ad.eqv]
theorem FY:l9 (.tuple (ns.map .int)) (.tuple (ms.map .int))=some (.bool (decide (ns=ms))):=by
 rw[vG (show ad.canLay0 (.tuple _)=true from kO ns) (show ad.canLay0 (.tuple _)=true from kO ms) (by simp[ad.depth,vF])];simp only[ad.eqv,qM]
theorem FZ:yg (.tuple (ns.map .int)) (.tuple (ms.map .int))=some (.bool (!decide (ns=ms))):=by
 rw[vH (show ad.canLay0 (.tuple _)=true from kO ns) (show ad.canLay0 (.tuple _)=true from kO ms) (by simp[ad.depth,vF])];simp only[ad.eqv,qM]
theorem yn:yg (.list (ns.map .int)) (.list (ms.map .int))=some (.bool (!decide (ns=ms))):=by
 rw[vH (show ad.canLay0 (.list _)=true from kO ns) (show ad.canLay0 (.list _)=true from kO ms) (by simp[ad.depth,vF])];simp only[ad.eqv,qM]
theorem MP:ad.eqvAll ds []=ds.isEmpty:=by cases ds<;>rfl
theorem any_ints (i:Int)(ns:List Int):((ns.map ad.int).any λd=>ad.eqv d (.int i))=decide (i∈ns):=by
 induction ns with
 | nil=>rfl
 | cons n ns ih =>
  rw[am,b4,ih];simp only[ad.eqv,al];by_cases h:n=i
  .simp[h]
  .have h':¬ i=n:=λz=>h z.symm
   simp[h,h']
theorem vI:Ep (.int i) (ns.map .int)=some (decide (i∈ns)):=by
 unfold Ep;rw[if_pos ⟨rfl,kO ns,by simp[ad.depth]⟩,any_ints]
theorem ky:inD (.int i) (.tuple (ns.map .int))=some (.bool (decide (i∈ns))):=by simp only[inD,vI,bn]
theorem vJ:vp (.int i) (.tuple (ns.map .int))=some (.bool (!decide (i∈ns))):=by simp only[vp,vI,bn]
theorem pA:vp (.int i) (.list (ns.map .int))=some (.bool (!decide (i∈ns))):=by simp only[vp,vI,bn]
theorem A7 {a b:Int}:inD (.int i) (.tuple [.int a,.int b])=some (.bool (decide (i=a\/i=b))):=by
 have:=ky (i:=i) (ns:=[a,b]);simpa using this
end
section
variable {α:Type}
theorem lH (h0:0<=i)(h1:i<xs.length):lV xs i=xs[i.toNat]? := by
 unfold lV LK;rw[if_pos h0,if_pos h1];rfl
theorem eZ (a:α)(l:List α):lV (a::l) 0=some a:=by rw[lH (!2) (by simp only[aj];omega)];rfl
theorem eW (a b:α)(l:List α):lV (a::b::l) 1=some b:=by rw[lH (!2) (by simp only[aj];omega)];rfl
theorem kg (a b c:α)(l:List α):lV (a::b::c::l) 2=some c:=by rw[lH (!2) (by simp only[aj];omega)];rfl
theorem um (h:xs.getLast? = some x):lV xs (-1)=some x:=by
 have hl:0<xs.length:=by
  cases xs with
  | nil=>cases h
  | cons a l=>simp
 unfold lV LK;rw[if_neg (!2),if_pos (!1)];show xs[(-1+(xs.length:Int)).toNat]? = some x;rw[show (-1+(xs.length:Int)).toNat=xs.length - 1 by omega,<- List.getLast?_eq_getElem?];exact h
theorem A8 (xs:List α)(x:α):lV (xs++[x]) (-1)=some x:=um (!4)
theorem iy {xs:List α}{i:Int}(h0:0<=i)(h1:i<xs.length):∃x,lV xs i=some x/\x∈xs:=by
 have:i.toNat<xs.length:=by omega
 exact⟨xs[i.toNat],by rw[lH h0 h1];simp[this],cc _⟩
theorem mP (xs:List α)(k:Int)(h:0<=k):jk xs none (some k)=xs.take k.toNat:=by
 unfold jk;rw[show k=((k.toNat:Nat):Int) by omega,HT.tX,HT.qd];simp only[List.drop_zero,Nat.sub_zero,bj];by_cases hc:k.toNat<=xs.length
 .rw[Nat.min_eq_left hc]
 .rw[Nat.min_eq_right (!1),bV (ag _),bV (!1)]
theorem kz (xs:List α)(k:Int)(h:0<=k):jk xs (some k) none=xs.drop k.toNat:=by
 unfold jk;rw[show k=((k.toNat:Nat):Int) by omega,HT.tX,HT.qd];simp only[bj];by_cases hc:k.toNat<=xs.length
 .rw[Nat.min_eq_left hc,bV (by rw[bQ];exact ag _)]
 .rw[Nat.min_eq_right (!1),cP (ag _),cP (!1)]
  simp
end
theorem ee:d7 (.tuple ds) (.int i)=lV ds i:=rfl
theorem lr:d7 (.list ds) (.int i)=lV ds i:=rfl
theorem fC (h0:0<m)(h1:m<1073741824)(h2:n<jQ)(h:∀r:Int,0<=r->r<m->Q (.int r) (n+1)):fG [.int m] n Q X:=⟨⟨h0,h1,h2⟩,h⟩
section
variable {i j:Nat}{ue:UX}{uc:UT}{Q:List ad->Int->Prop}{env:eU}
theorem comp_map (f:ad->ad):∀(its acc:List ad) (n:Int) (env:eU),(∀d∈its,∀n Q,ue (env.set i (some (.s d))) n Q=Q (f d) n)->fB (gO i) nE ue Q its acc env n=Q (acc++its.map f) n
 | [],acc,n,env,_=>by simp[fB]
 | d::ds,acc,n,env,h=>by
  have ih:=λacc=>comp_map f ds acc n (env.set i (some (.s d))) λe he n Q=>by rw[List.set_set];exact h e (ao _ he) n Q
  simp only[fB,gO,nE,if_true,h d (aq ..),ih,am,bM,List.singleton_append]
theorem tf (f:ad->ad)(p:ad->Bool):∀(its acc:List ad) (n:Int) (env:eU),(∀d∈its,∀n Q,ue (env.set i (some (.s d))) n Q=Q (f d) n)->(∀d∈its,∀n Q,uc (env.set i (some (.s d))) n Q=Q (p d) n)->fB (gO i) uc ue Q its acc env n=Q (acc++(its.filter p).map f) n
 | [],acc,n,env,_,_=>by simp[fB]
 | d::ds,acc,n,env,h,k=>by
  have ih:=λacc=>tf f p ds acc n (env.set i (some (.s d))) (λe he n Q=>by rw[List.set_set];exact h e (ao _ he) n Q) (λe he n Q=>by rw[List.set_set];exact k e (ao _ he) n Q);simp only[fB,gO,k d (aq ..),h d (aq ..),ih]
  cases hp:p d with
  | true=>simp[hp]
  | false=>simp[hp]
end
theorem kP (Inv:List ad->List ad->eU->Int->Prop) :
  ∀(its pre:List ad) (env:eU) (n:Int),(∀pre d post env n (E':qD),E'.rt=E.rt->Inv pre (d::post) env n->(∀d5 n',Inv (pre++[d]) post d5 n'->E'.nx d5 n')->ug d env λJj=>ub E' Jj n)->Inv pre its env n->(∀pre env n,Inv pre [] env n->E.nx env n)->ix ug ub E its env n
 | [],pre,env,n,_,h0,hd=>hd pre env n h0
 | d::ds,pre,env,n,hb,h0,hd=>hb pre d ds env n { nx:=ix ug ub E ds,rt:=E.rt } rfl h0 λd5 n' h'=>kP Inv ds (pre++[d]) d5 n' hb h' hd
theorem zE (h:Cc i j):rR (.int i) (.int j)=some (.int (i * j)):=if_pos h
theorem Jx:rR (.int c) (.int (if b=true then 1 else 0))=some (.int (if b=true then c else 0)):=by
 cases b with
 | true=>rw[if_pos rfl,if_pos rfl,zE (.inr ⟨!2,!2⟩),Int.mul_one]
 | false=>rw[if_neg (!2),if_neg (!2),zE (.inr ⟨!2,!2⟩),Int.mul_zero]
theorem vK (h:xs.length+ys.length<=16777216):fw (.tuple xs) (.tuple ys)=some (.tuple (xs++ys)):=if_pos (by rw[show av=16777216 by decide];exact h)
theorem rX (h:xs.length+ys.length<=16777216):fw (.list xs) (.list ys)=some (.list (xs++ys)):=if_pos (by rw[show av=16777216 by decide];exact h)
theorem jv (h:ds.length<16777216):gV ds [d]=some (ds++[d]):=if_pos (by rw[show av=16777216 by decide];exact h)
theorem qN (h:0<j):vo (.int i) (.int j)=some (.int (i % j)):=if_pos h
noncomputable def fS (lo:Int)(n:Nat):List Int:=(List.range n).map λ(k:Nat)=>lo+(k:Int)
theorem i9 (lo:Int)(n:Nat):nC lo n=(fS lo n).map .int:=by unfold nC fS;rw[br];rfl
theorem e8:i∈fS lo n↔lo<=i/\i<lo+n:=by
 unfold fS;rw[bg];constructor
 .rintro⟨k,hk,rfl⟩
  have:=cM.mp hk;omega
 .intro h
  exact⟨(i - lo).toNat,cM.mpr (!1),!1⟩
theorem e9 (lo:Int)(n:Nat):(fS lo n).length=n:=by simp[fS]
theorem A9 (p:ad->Bool)(ns:List Int):(ns.map ad.int).filter p=(ns.filter λi=>p (.int i)).map .int:=by rw[List.filter_map];rfl
theorem Jy (f:ad->ad)(ns:List Int):(ns.map ad.int).map f=ns.map λi=>f (.int i):=by rw[br];rfl
section
variable {ns:List Int}
theorem Jz:yg (.list (ns.map .int)) (.list [])=some (.bool (!decide (ns=[]))):=yn (ms:=[])
theorem Ba {i:Int}(h0:0<=i)(h1:i<ns.length):∃k,lV (ns.map ad.int) i=some (.int k)/\k∈ns/\ns[i.toNat]? = some k:=by
 have hl:i.toNat<ns.length:=by omega
 refine⟨ns[i.toNat],?_,cc _,by simp[hl]⟩;rw[lH h0 (by simpa using h1),aB];simp[hl]
end
theorem mh (f:Int->ad)(p:Int->Bool)(ns:List Int)(acc:List ad)(n:Int)(env:eU)(h:∀k∈ns,∀n Q,ue (env.set i (some (.s (.int k)))) n Q=Q (f k) n)(hp:∀k∈ns,∀n Q,uc (env.set i (some (.s (.int k)))) n Q=Q (p k) n) :
  fB (gO i) uc ue Q (ns.map .int) acc env n=Q (acc++(ns.filter p).map f) n:=by
 rw[tf (λd=>match d with | .int k=>f k | _=>.none) (λd=>match d with | .int k=>p k | _=>false) _ _ _ _ (λd hd n Q=>?_) (λd hd n Q=>?_),A9,Jy]
 .obtain⟨k,hk,rfl⟩:=bg.mp hd
  exact h k hk n Q
 .obtain⟨k,hk,rfl⟩:=bg.mp hd
  exact hp k hk n Q
noncomputable def xj (x y:ad):Option ad:=match x,y with | .str a,.str b=>some (.bool (!decide (a=b))) | _,_=>none
theorem JA:decide (V.str a=V.str b)=decide (a=b):=by
 rw[decide_eq_decide];exact⟨λh=>by cases h;rfl,λh=>by rw[h]⟩
theorem fA.EA (r:fA gs S H (.str x) v):v=.str x:=by
 rcases r with r | ⟨ds,a,xs,h,_⟩ | ⟨t,kvs,a,xs,h,_⟩
 .exact r.ik
 .cases h
 .cases h
section
theorem JB:t9 X (compareOp .NotEq) xj:=⟨_,Sx,λgs S H dx dy x y d R _ _ r1 r2 e k=>by
 unfold xj at e;split at e
 .rename_i a b
  cases e;have e1:=r1.EA;have e2:=r2.EA;subst e1 e2;refine⟨rfl,?_⟩;rw[JA];exact k _ H (.bl _) (.refl _ _)
 .cases e⟩
end
end L2
namespace L2
open PySem PySem.Spec PyProof.Rows
noncomputable def QL (x y:ad):Option ad:=match x,y with
 | .tuple ds,.int k=>(eV ds).map λns=>.int (ns.count k:Nat)
 | .list ds,.int k=>(eV ds).map λns=>.int (ns.count k:Nat)
 | _,_=>none
noncomputable def JC (x:ad):Prop:=match x with | .tuple _=>True | .list _=>True | _=>False
noncomputable def XT (uo ue:UX):UX:=λenv n Q=>uo env n λx n1=>JC x/\ue env n1 λy n2=>mD (QL x y) λd=>Q d n2
noncomputable def MQ:ad->Option ad | .list ds=>some (.tuple ds.reverse) | _=>none
noncomputable def MR (u:UX):UX:=λenv n Q=>u env n λx n1=>mD (MQ x) λd=>Q d n1
section
variable {X:Cx}
theorem yo:∀l:List Int,(∀n∈l,-500000000000<=n/\n<=500000000000)->-(500000000000 * (l.length:Int))<=l.sum/\l.sum<=500000000000 * l.length
 | [],_=>by simp
 | a::l,hl=>by
  have h1:=yo l λn hn=>hl n (ao _ hn);have h2:=hl a (aq ..);rw[List.sum_cons,aj];omega
theorem F0 (K:W.Frag)(hc:X.calm=true)(hk:X.K=K:=by rfl):gn X (.builtin "sum") (λxs H Q=>∃(p:Addr) (ns:List Int),xs=[.ref p]/\jl K H p (ns.map V.int)/\(∀n∈ns,-500000000000<=n/\n<=500000000000)/\Q (.int ns.sum) H):=by
 subst hk;intro pins s σ H xs us Q I r h;obtain⟨p,ns,rfl,hp,hb,q⟩:=h;obtain⟨u,rfl,ru⟩:=vals1 r;cases ru;obtain⟨its,rv,ht,hz⟩:=I.tuple hp;have Ml:s.heap.IsTuple p its.toArray:=ht;have mB:p<s.heap.objs.size:=let ⟨o,e,_⟩:=Ml;aD e;have fk:its.toArray.size=ns.length:=by rw[aC,<- rv.length,ah]
 rw[ah] at hz;have hsz:av=16777216:=by decide
 refine call_sum_walk (wpAny_pyIter_tuple Ml ⟨s.heap.objs.size,_,_,its.toArray.size,_,_,λa=>ns.getD a 0,rfl,Walks.tuple (A:=X.A.in1) (I.ok.hd hc) _ p (aV mB) its.toArray,⟨⟨_,aE _ rfl,rfl,rfl⟩,Ml.at λo e=>ai _ e⟩,?_,?_,?_,?_⟩)
 .intro b C4
  rw[bG];rcases al.mp C4 with e | C4
  .rw[e];exact cD _
  .rw[show b=p by simpa using C4];exact cA mB
 .intro a v e
  obtain⟨x,hx,rx⟩:=rv.at' (show its[a]? = some v by simpa using e);rw[aB] at hx
  cases hn:ns[a]? with
  | none=>rw[hn] at hx;cases hx
  | some b =>
   rw[hn] at hx;cases hx;obtain⟨t,rfl⟩:=rx;exact⟨t,by show af.int b t=af.int (ns.getD a 0) t;rw[show ns.getD a 0=b by rw[ax,hn];rfl]⟩
 .intro j hj
  rw[fk] at hj;have h1:=hb (ns.getD j 0) (by rw[ax,show ns[j]? = some ns[j] by simp[hj]];exact cc hj);have h2:=yo (ns.take (j+1)) λn hn=>hb n (b8 hn);rw[bf] at h2;show InLong (ns.getD j 0)/\InLong (preSum (λa=>ns.getD a 0) (j+1));unfold InLong;rw[jL ns (j+1) (!1)];have h3:(min (j+1) ns.length:Nat)<=16777216:=by omega
  constructor<;>constructor<;>omega
 .intro h' tk t' kp
  have I1:Inv X pins σ H { s with heap:=h',toks:=tk }:=I.kept λb o e=>kp b o (λz=>by
   rw[show b=s.heap.objs.size by simpa using z] at e;exact absurd (aD e) (bo _)) (ai _ e)
  rw[show preSum (λa=>ns.getD a 0) its.toArray.size=ns.sum by rw[fk,jL ns _ (ag _),List.take_length]];exact⟨.int _,H,I1,⟨_,rfl⟩,q⟩
noncomputable def o7 (ds:List ad):Option ad:=match ds with | [.tuple ds]=>vA [.list ds] | ds=>vA ds
theorem Dc (hc:X.calm=true):nR X (.builtin "sum") o7:=by
 obtain⟨r,hr,hd⟩:=(UB (X:=X) hc).ex;refine⟨_,(show gn X (.builtin "sum") λxs H Q=>(∃(p:Addr) (ns:List Int),xs=[.ref p]/\jl X.K H p (ns.map V.int)/\(∀n∈ns,-500000000000<=n/\n<=500000000000)/\Q (.int ns.sum) H)\/r xs H Q from λpins s σ H xs us Q I rv h=>h.elim (F0 X.K hc rfl pins s σ H xs us Q I rv) (hr pins s σ H xs us Q I rv)),λgs S H ds vs d R hs hz rs e k=>?_⟩;unfold o7 at e;split at e
 .rename_i ds
  obtain⟨v,rfl,rl⟩:=rs.one;obtain⟨a,xs,rfl,sq,_,rr⟩:=rl.K8 (K:=X.K);simp only[vA] at e
  cases ei:eV ds with
  | none=>rw[ei] at e;cases e
  | some ns =>
   rw[ei] at e;simp only[cb] at e;split at e
   .rename_i hb
    cases e;rw[gC ei] at rr;rw[gD rr] at sq;exact .inl ⟨a,ns,rfl,sq,hb,k _ H (.int _) (.refl _ _)⟩
   .cases e
 .exact .inr (hd gs S H ds vs d R hs hz rs e k)
end
theorem QM {α:Type}{us:List α}{n:Nat}(h:us.length=n+1):∃a r,us=a::r/\r.length=n:=by
 cases us with
 | nil=>cases h
 | cons a r=>exact⟨a,r,rfl,Nat.succ.inj h⟩
theorem F1 {α:Type}{us:List α}(h:us.length=1):∃a,us=[a]:=by
 obtain⟨a,r,rfl,k⟩:=QM (n:=0) h;rw[cU k];exact⟨_,rfl⟩
theorem JD {α:Type}{us:List α}(h:us.length=2):∃a b,us=[a,b]:=by
 obtain⟨a,r,rfl,k⟩:=QM (n:=1) h;obtain⟨b,rfl⟩:=F1 k;exact⟨_,_,rfl⟩
theorem MS {α:Type}{us:List α}(h:us.length=3):∃a b c,us=[a,b,c]:=by
 obtain⟨a,r,rfl,k⟩:=QM (n:=2) h;obtain⟨b,c,rfl⟩:=JD k;exact⟨_,_,_,rfl⟩
noncomputable def XU (i:Nat)(u:US):US:=λE env n=>match env[i]? with
 | some (some (.o ds))=>u E (env.set i (some (.s (.list ds)))) n
 | _=>u E env n
theorem F3 (xs:Array af):slicePick xs none none (some (-1))=xs.toList.reverse.toArray:=by
 have e0:sliceBounds none none (some (-1)) xs.size=((xs.size:Int) - 1,-1,-1):=rfl
 have e1:sliceRange ((xs.size:Int) - 1) (-1) (-1)=(List.range xs.size).map λ(k:Nat)=>(((xs.size:Nat):Int) - 1+(k:Int) * -1).toNat:=by
  have ec:((if (-1:Int) > 0 then (if (xs.size:Int) - 1 < -1 then (-1 - ((xs.size:Int) - 1) + -1 - 1) / -1 else 0) else (if (xs.size:Int) - 1 > -1 then ((xs.size:Int) - 1 - -1 - -1 - 1) / (- -1) else 0)).toNat)=xs.size:=by
   rw[if_neg (!2),show (- -1:Int)=1 from rfl,cY];split<;>omega
  unfold sliceRange;simp only[];rw[ec];apply cH;intro k _;congr 1;omega
 unfold slicePick;rw[e0];simp only[];rw[e1,List.filterMap_map];exact HT.Al xs
section
variable {X:Cx}{M:Fr}{e:Expr}{ua:UX}{te:TE}{pos p2 p3 p4:Pos}{k':Nat}
noncomputable def UR (K:W.Frag)(te:TE):TE:=λσ H Q=>te σ H λx H1=>∃a xs,x=.ref a/\((jl K H1 a xs/\∀p,H1 p=none->Q (.ref p) (eM H1 p (.tup xs.reverse)))\/(gY K H1 a xs/\∀p,H1 p=none->Q (.ref p) (eM H1 p (.lst xs.reverse))))
theorem MT (he:QE X e te):QE X (.Subscript e (.Slice none none (some (.UnaryOp .USub (.Constant (.int 1) k' p4) p3)) p2) pos) (UR X.K te):=by
 refine⟨λpins s σ H Q I h=>?_⟩;have tW:PE X (.UnaryOp .USub (.Constant (.int 1) k' p4) p3) (VE (rU λi=>.int (-i)) (tC (.int 1))):=Hx Cd B8;refine Subscript_ (f6 (he.run pins s σ H _ I h) λv s1 ⟨x,H1,I1,r1,a,xs,ex,hx⟩=>?_);subst ex;cases r1;refine wpAny_Slice ?_;rw[evalPart_none];refine ak (ak ?_);rw[evalPart_some];refine f6 (tW pins s1 σ H1 (λz H2=>z=.int (-1)/\H2=H1) I1 ⟨1,rfl,rfl,rfl⟩) λu s3 ⟨z,H3,I3,r3,ez,eH⟩=>?_;subst ez eH;obtain⟨tk,rfl⟩:=r3;have I4:Inv X pins σ H3 { s3 with heap:=s3.heap.push { cls:=.type "slice",data:=.fields #[.none,.none,.int (-1) tk] } }:=I3.kept (t':=s3.toks) λb ob q=>ai _ q;show aA (model X.prog X.w) X.A (subscriptTail e (.Slice none none (some (.UnaryOp .USub (.Constant (.int 1) k' p4) p3)) p2) (.ref a) (.ref s3.heap.objs.size)) (EP X pins σ Q) X.xe { s3 with heap:=s3.heap.push { cls:=.type "slice",data:=.fields #[.none,.none,.int (-1) tk] } };rcases hx with⟨hx,q⟩ | ⟨hx,q⟩
 .obtain⟨its,r,ht,hz⟩:=I4.tuple hx
  refine tail_any (ops:=[.ref a,.ref s3.heap.objs.size]) ht.typeIs PyProof.Rows.slot_tuple_getitem.lookup (HT.qt ht (Heap.IsSliceOf.new ..) ?_ (by rw[aC,<- r.length];exact hz)) (by with_unfolding_all rfl);refine⟨.ref _,_,I4.laid (t':=s3.toks) (o:=.tup xs.reverse) (λb ob q=>ai _ q) (ag _) ?_,rfl,q _ (I4.hok.fresh (ag _))⟩;exact⟨by rw[List.length_reverse];exact hz,_,by simpa using r.reverse,uI.new _ _⟩
 .obtain⟨its,r,ht,hz⟩:=I4.list hx
  refine tail_any (ops:=[.ref a,.ref s3.heap.objs.size]) ht.isList.typeIs PySem.slot_list_getitem.lookup (wpAny_getItem_list_slice ht.isList (Heap.IsSliceOf.new ..) .none .none (.int (-1) tk) (!4) ?_ (by rw[aC,<- r.length];exact hz)) (by with_unfolding_all rfl);rw[F3];refine⟨.ref _,_,I4.laid (t':=s3.toks) (o:=.lst xs.reverse) (λb ob q=>ai _ q) (ag _) ?_,rfl,q _ (I4.hok.fresh (ag _))⟩;exact⟨by rw[List.length_reverse];exact hz,its.reverse,0,r.reverse,aE _ rfl⟩
noncomputable def JE (d:ad):Option ad:=match d with | .tuple ds=>some (.tuple ds.reverse) | .list ds=>some (.list ds.reverse) | _=>none
theorem QN (he:KL X M e ua):KE X M (.Subscript e (.Slice none none (some (.UnaryOp .USub (.Constant (.int 1) k' p4) p3)) p2) pos) (vm JE ua) :=
 .of (MT he.run) λσ H R env pn S n Q ok hu k=>⟨env,pn,S,n,_,ok,hu,λv H1 d n1 r1 x1 g1 _ q=>by
  obtain⟨d',e,q⟩:=q
  cases d with
  | tuple ds =>
   cases e;obtain⟨a,xs,rfl,ha,rs⟩:=r1.eX;exact⟨a,xs,rfl,.inl ⟨jl.of ha,λp hp=>k _ _ _ n1 (qG hp rs.reverse) (x1.trans (.new hp)) (M.iW g1 (.new (S:=[]) hp) (!4)) q⟩⟩
  | list ds =>
   cases e;obtain⟨a,xs,rfl,ha,rs⟩:=r1.eY;exact⟨a,xs,rfl,.inr ⟨gY.of ha,λp hp=>k _ _ _ n1 (qH (ok.step x1 g1).has hp rs.reverse) (x1.trans (.new hp)) (M.iW g1 (.new (S:=[]) hp) (!4)) q⟩⟩
  | _=>cases e⟩
end
noncomputable def zF (x y:ad):Option ad:=match x,y with
 | .list ds,.int k=>(eV ds).bind λns=>if k∈ns then some (.int (ns.idxOf k:Nat)) else none
 | _,_=>none
noncomputable def JF (x:ad):Prop:=match x with | .list _=>True | _=>False
noncomputable def QP (uo ue:UX):UX:=λenv n Q=>uo env n λx n1=>JF x/\ue env n1 λy n2=>mD (zF x y) λd=>Q d n2
section
theorem MU (ho:KL X M o uo)(he:KE X M e ue)(hse:fq e=true:=by rfl)(qj:attributeBase o "index" X.env (eval o X.env)=eval o X.env:=by rfl)(qk:(jK.endLine == gL.line)=true:=by rfl) :
  KE X M (.Call (.Attribute o "index" jK) [e] [] gL) (QP uo ue):=by
 refine .of (NQ PySem.F.plainAttrs_list PySem.F.slot_list_index PySem.F.type_list_index FE ho.run (iI he.run fj hse) qj rfl qk) λσ H R env pn S n Q ok hu k =>
  ⟨env,pn,S,n,_,ok,hu,λx H1 dx n1 r1 x1 g1 _ q1=>?_⟩
 obtain⟨hsq,q1⟩:=q1
 cases dx with
 | list ds =>
  obtain⟨a,xs,rfl,ha,rs⟩:=r1.eY;refine⟨.inl ⟨rfl,xs,gY.of ha⟩,env,pn,S,n1,_,ok.step x1 g1,q1,λy H2 dy n2 r2 x2 g2 sz q2=>?_⟩;obtain⟨d,e,q⟩:=q2
  cases dy with
  | int j =>
   simp only[zF] at e
   cases hd:eV ds with
   | none=>rw[hd] at e;cases e
   | some ns =>
    rw[hd] at e;simp only[cb] at e;split at e
    .rename_i hj
     cases e;have e3:=gC hd;subst e3;obtain⟨a',qE,e4,lW,B5⟩:=(r1.ext ok.wL x2).eY;cases e4;have e5:=gD B5;subst e5;have p8:=cB hj
     exact⟨a,ns,j,ns.idxOf j,rfl,by rw[r2.eK],lW,by rw[aR p8,List.getElem_idxOf],λi hi z=>by
      have h2:i<ns.length:=by omega
      rw[aR h2] at z;have:=List.not_of_lt_findIdx (p:=(· == j)) (xs:=ns) (i:=i) hi;simp[Option.some.inj z] at this,k _ H2 _ n2 (.int _) (x1.trans x2) g2 q⟩
    .cases e
  | _=>cases e
 | _=>exact hsq.elim
end
noncomputable def UU (u:UX):eU->Int->(List ad->Int->Prop)->Prop:=λenv n Q=>u env n λd n1=>mD (jr d) λds=>mD (eV ds) λns=>ns.length<64/\Q ((sortI ns).map .int) n1
theorem RM (hr:gi k A)(h:d<=k:=by decide):gi d A:=hr.mono h
theorem nd (N:List Str)(h:N.Nodup:=by decide +kernel):N.Nodup:=h
theorem co (N:List Str)(s:Scope)(h:iH N s sc N' mp=true:=by decide +kernel):iH N s sc N' mp=true:=h
theorem zG (h:sc.names.lookup x=some aO.cell):(relabel sc env).names.lookup x=some aO.cell:=by
 show (sc.names.map _).lookup x=_;generalize sc.names=l at h
 induction l with
 | nil=>cases h
 | cons p r ih =>
  obtain⟨n,k⟩:=p;rw[am];dsimp only;by_cases hc:(k == aO.free && env.scope.kind == .function && env.kindOf n == some .cell)=true
  .rw[if_pos hc,bD]
   cases e:x == n with
   | true=>rfl
   | false =>
    rw[bD,e] at h;exact ih h
  .rw[if_neg hc,bD]
   cases e:x == n with
   | true =>
    rw[bD,e] at h;exact h
   | false =>
    rw[bD,e] at h;exact ih h
theorem UW {N N':List Str}{s0 sc:Scope}{env:Env}{mp:List (Option Nat)}(h:iH N s0 sc N' mp=true):iH N (relabel s0 env) sc N' mp=true:=by
 unfold iH at h ⊢;simp only[aK,ca] at h ⊢;obtain⟨⟨⟨⟨⟨h1,h2⟩,h3⟩,h6⟩,h4⟩,h5⟩:=h;refine⟨⟨⟨⟨⟨h1,h2⟩,λp hp=>?_⟩,h6⟩,h4⟩,h5⟩;have:=h3 p hp;rw[Bool.or_eq_true] at this ⊢;refine this.imp id λh=>?_;rw[Bool.or_eq_true,beq_iff_eq,beq_iff_eq] at h ⊢;rcases h with h | h
 .exact .inl (zG h)
 .exact ql h
theorem RP (h1:s.kind=.function:=by rfl)(h2:s.isCoroutine=false:=by rfl)(h3:s.isGenerator=false:=by rfl)(h4:N.Nodup:=by decide +kernel)(h5:N.take ps.length=ps:=by rfl)
  (h6:∀x∈ps,s.names.lookup x=some .local\/s.names.lookup x=some .cell:=by decide +kernel) (h7:∀y∈s.names,y.2≠.free:=by decide +kernel):fK N ps s:=⟨h1,h2,h3,h4,h5,h6,h7⟩
theorem RQ (is:List Nat)(h:us=is.map gO:=by rfl):∀u∈us,∀d env (Q:eU->Prop),u d env Q->∃d5,Q d5:=λu hu=>by
 subst h;obtain⟨i,_,rfl⟩:=bg.mp hu;exact Up
section
theorem mi (i:Nat)(hN:X.N.Nodup)(hx:Loc X.env.scope x:=by exact Or.inl rfl)(hi:X.N[i]? = some x:=by rfl)(hf:X.fn x=true\/X.env.scope.names.lookup x=some .local:=by (first | exact .inl rfl | exact .inr rfl | assumption))(hfd:i ∉ M.fd:=by exact nf _ _ rfl):KG X M (.Name x pos) (gO i):=g_n hN hx hi hf hfd
theorem gb (i:Nat)(hN:X.N.Nodup)(h:KE X M e ue)(hx:Loc X.env.scope x:=by exact Or.inl rfl)(hi:X.N[i]? = some x:=by rfl)(hs:swapsWith e (some (.Name x jJ)) pos.line X.env=pure false:=by rfl)
  (hf:X.fn x=true\/X.env.scope.names.lookup x=some .local:=by (first | exact .inl rfl | exact .inr rfl | assumption)) (hfd:i ∉ M.fd:=by exact nf _ _ rfl):KS X M (.Assign [.Name x jJ] e pos) (dS i ue):=Uu hN hx h hi hs hf hfd
theorem Bb (i:Nat)(hN:X.N.Nodup)(h:KN X M e un)(hx:Loc X.env.scope x:=by exact Or.inl rfl)(hi:X.N[i]? = some x:=by rfl)(hs:swapsWith e (some (.Name x jJ)) pos.line X.env=pure false:=by rfl)
  (hf:X.fn x=true\/X.env.scope.names.lookup x=some .local:=by (first | exact .inl rfl | exact .inr rfl | assumption)) (hfd:i ∉ M.fd:=by exact nf _ _ rfl):KS X M (.Assign [.Name x jJ] e pos) (nD i un):=Uv hN hx h hi hs hf hfd
end
structure FM (K:W.Frag) (mg:Str->Option af) (x:Str) (st:Stmt):Prop where
 ex:∃f fd,wK K x x st f fd/\mg x=some (.ref f)
structure Ot (K:W.Frag) (x:Str) (st:Stmt):Prop where
 ex:∃f fd,wK K x x st f fd/\W.nsIn K aY x=some (some (.ref f))
theorem Ot.of {K:W.Frag}{x:Str}{st:Stmt}{f:Addr}{oc:af}{od an:Option Addr}{DW:Array (Option af)}{kV uT pm fg ct:af}(a:W.nsIn K aY x=some (some (.ref f)))(l:K.lookup f=some ⟨oc,od,.func (W.fnOf x x (kj st) (fW st) (dw st) .none kV uT pm an fg ct),DW⟩)
  (c:W.codeIn K fg x=true) (k:W.keepIn K (.ref f)=true):Ot K x st:=⟨f,_,Cp l c k,a⟩
theorem Ot.m {K:W.Frag}{x:Str}{st:Stmt}{h:Heap}{mg:Str->Option af}(a:Ot K x st)(X:K.In h)(G:h.Ns aY mg):FM K mg x st :=
 let ⟨f,fd,F,n⟩:=a.ex;⟨f,fd,F,W.mg_of X G n⟩
noncomputable def F4 (K:W.Frag)(t:Nat->Stmt):List (Str × Nat)->Prop
 | []=>True
 | (x,i)::r=>Ot K x (t i)/\F4 K t r
theorem Bc {K:W.Frag}{t:Nat->Stmt}:F4 K t []:=trivial
theorem JG {K:W.Frag}{t:Nat->Stmt}{x:Str}{i:Nat}{r:List (Str × Nat)}(h:Ot K x (t i))(hr:F4 K t r):F4 K t ((x,i)::r):=⟨h,hr⟩
noncomputable def BD (x:Str)(st:Stmt)(ps:List Str):Prop:=∀(kV uT pm:af) (an:Option Addr) (fg ct:af) (us:List af),us.length=ps.length->bindArgs (W.fnOf x x (kj st) (fW st) (dw st) .none kV uT pm an fg ct) ⟨us,[]⟩=pure (ps.zip us)
section
variable {P:aZ}{w:World}{K:W.Frag}{mg:Str->Option af}{base:Heap}{x:Str}{st:Stmt}{N ps:List Str}{k:Nat}{C:Xc}{Y:wN}
theorem gf (u:US)(N:List Str)(F:FM K mg x st)
  (body:fK N ps (dw st)->∀(f:Addr) (fg:af) (A:Around) (outer:List Env) (s:aw) (H:Hp) (E:XK) (n0:Int) (S:List Addr) (has:∀a∈S,H a≠none),gi k (A.deeper (envOfC x (dw st) s.heap.objs.size f fg))->(A.deeper (envOfC x (dw st) s.heap.objs.size f fg)).units+64<cLine->zZ (mI wJ P w K mg base N x (dw st) f fg A outer s H E).G9 (Fr.pure C n0 S H has) (fW st) u)
  (sc:fK N ps (dw st):=by exact RP) (hb:BD x st ps:=by rw[999]) :
  dZ P w K mg base (k+1) x ps (mF C (iX N.length ps.length λ_=>u)) :=
 let ⟨f,_,F,hm⟩:=F.ex;XD (u:=λ_=>u) F hm sc (F.binds hb) λfg A outer s H E n0 S has hr=>body sc f fg A outer s H E n0 S has hr hr.units
theorem UY (u:XQ->US)(N:List Str)(F:FM K mg x st)
  (body:fK N ps (dw st)->∀(f:Addr) (fg:af) (A:Around) (outer:List Env) (s:aw) (H:Hp) (E:XK) (n0:Int) (S:List Addr) (has:∀a∈S,H a≠none) (Ex:XQ),(∀c as,Ex c as->Rz C S [] H E c as)->gi k (A.deeper (envOfC x (dw st) s.heap.objs.size f fg))->(A.deeper (envOfC x (dw st) s.heap.objs.size f fg)).units+64<cLine->vh (mI (Mq P w) P w K mg base N x (dw st) f fg A outer s H E) E ->
   zZ (mI (Mq P w) P w K mg base N x (dw st) f fg A outer s H E) (Fr.pure C n0 S H has) (fW st) (u Ex))
  (sc:fK N ps (dw st):=by exact RP) (hb:BD x st ps:=by rw[999]) :
  IE P w K mg base (k+1) x ps (mF C (iX N.length ps.length u)) :=
 let ⟨f,_,F,hm⟩:=F.ex;XE F hm sc (F.binds hb) λfg A outer s H E n0 S has Ex hx hr=>body sc f fg A outer s H E n0 S has Ex hx hr hr.units FH
theorem tj (u:US)(N:List Str)(F:FM K mg x st)
  (body:fK N ps (dw st)->∀(f:Addr) (fg:af) (A:Around) (outer:List Env) (s:aw) (H:Hp) (E:XK) (fa sa:Addr) (n0:Int) (S:List Addr) (hf:Y.jt H fa sa n0) (hS:fa∈S) (has:∀a∈S,H a≠none),gi k (A.deeper (envOfC x (dw st) s.heap.objs.size f fg))->(A.deeper (envOfC x (dw st) s.heap.objs.size f fg)).units+64<cLine ->
   zZ (mI wJ P w K mg base N x (dw st) f fg A outer s H E).G9 (Fr.feed C Y 0 fa sa n0 S H hf hS has) (fW st) u)
  (sc:fK N ps (dw st):=by exact RP) (hN:1<=N.length:=by decide) (hb:BD x st ps:=by rw[999]) :
  dZ P w K mg base (k+1) x ps (nS Y (g9 N.length ps.length λ_=>u)) :=
 let ⟨f,_,F,hm⟩:=F.ex;XG (u:=λ_=>u) F hm sc (F.binds hb) hN λfg A outer s H E fa sa n0 S hf hS has hr=>body sc f fg A outer s H E fa sa n0 S hf hS has hr hr.units
end
section
variable {X:Cx}{M:Fr}{a b e:Expr}{ua ub:UX}{pos p p2:Pos}
noncomputable def XW:V->Option Int->Option Int->Hp->VK->Prop:=λx lo hi H Q=>∃z,x=.str z/\z.length<=av/\Q (.str (Txt.slice z lo hi)) H
theorem QQ:HG X XW:=by
 intro pins s σ H x v vl vu lo hi sl Q I rx hs pl pu h;obtain⟨z,rfl,hz,q⟩:=h;obtain⟨t,rfl⟩:=rx
 have go:∀(l u:Option (Int × Tok)),vl=partValue l->vu=partValue u->l.map (·.1)=lo->u.map (·.1)=hi->∃T id,typeLookup (.type T) "__getitem__" = pure (some (.builtin id))/\s.TypeIs (.str z t) T/\aA (model X.prog X.w) X.A (getItem (.str z t) (.ref sl)) (EP X pins σ Q) X.xe s:=by
  intro l u e1 e2 e3 e4;subst e1 e2 e3 e4;refine⟨"str",_,F.slot_str_getitem.lookup,typeIs_str _ _ _,wpAny_getItem_str_slice (l:=l) (u:=u) (st:=none) hs rfl ?_⟩;cases l<;>cases u<;>exact post_val_or_str ⟨aL (Txt.slice_le z _ _) hz,λt' k=>⟨.str _,H,I.tok _,⟨_,rfl⟩,q⟩⟩
 cases pl with
 | none=>cases pu with
  | none=>exact go none none rfl rfl rfl rfl
  | int j u=>exact go none (some (j,u)) rfl rfl rfl rfl
 | int i t=>cases pu with
  | none=>exact go (some (i,t)) none rfl rfl rfl rfl
  | int j u=>exact go (some (i,t)) (some (j,u)) rfl rfl rfl rfl
noncomputable def vL (u:UX)(ul uh:UO):UX:=λenv n Q=>u env n λd n1=>ul env n1 λlo n2=>uh env n2 λhi n3=>∃z,d=.str z/\z.length<=av/\Q (.str (Txt.slice z lo hi)) n3
theorem tm {lo hi:Option Expr}{ul uh:UO}(he:KL X M e ua)(hl:KO X M lo ul)(hu:KO X M hi uh):KE X M (.Subscript e (.Slice lo hi none p2) pos) (vL ua ul uh):=by
 obtain⟨tl,q1,l1⟩:=hl.run;obtain⟨th,q2,l2⟩:=hu.run;refine .of (u0 QQ he.run q1 q2) λσ H R env pn S n Q ok hu k=>⟨env,pn,S,n,_,ok,hu,λv H1 d n1 r1 x1 g1 _ q=>?_⟩;refine l1 σ H1 _ env pn S n1 _ (ok.step x1 g1) q λlo H2 n2 x2 g2 q=>?_;refine l2 σ H2 _ env pn S n2 _ ((ok.step x1 g1).step x2 g2) q λhi H3 n3 x3 g3 q=>?_;obtain⟨z,rfl,hz,q⟩:=q;exact⟨z,r1.ik,hz,k _ H3 _ n3 (.str _) ((x1.trans x2).trans x3) g3 q⟩
noncomputable def QR (ua ub:UX):UX:=λenv n Q=>ua env n λx n1=>ub env n1 λy n2=>∃d,(∃z i c,x=.str z/\y=.int i/\z.length<=av/\lV z.cps.toList i=some c/\d=.str ⟨#[c]⟩)/\Q d n2
theorem QU {r:R2}{R:VK}{σ:St}{H:Hp}{env:eU}{pn:List (ad × V)}{S:List Addr}{n:Int}{Q:ad->Int->Prop}{P:ad->ad->ad->Prop}
  (hr:∀gs S H dx dy x y d (R:VK),fA gs S H dx x->fA gs S H dy y->P dx dy d->(∀v,eF S H d v->R v H)->r x y H R)
  (ok:dQ M env pn σ S H n) (hu:ua env n λx n1=>ub env n1 λy n2=>∃d,P x y d/\Q d n2) (k:∀v H' d n',eF S H' d v->Ext M.gs H H'->M.G H' n'->Q d n'->R v H'):KU r (AL M ua) (AL M ub) σ H R :=
 ⟨env,pn,S,n,_,ok,hu,λv1 H1 d1 n1 r1 x1 g1 _ q1=>⟨env,pn,S,n1,_,ok.step x1 g1,q1,λv2 H2 d2 n2 r2 x2 g2 _ ⟨d,hd,q2⟩=>hr M.gs S H2 d1 d2 v1 v2 d _ (r1.ext ok.wL x2) r2 hd λv rv=>k v H2 d n2 rv (x1.trans x2) g2 q2⟩⟩
theorem UZ (ha:KL X M a ua)(hb:KL X M b ub)(hs:tY b:=by exact λ_ _=>rfl):KE X M (.Subscript a b pos) (QR ua ub) :=
 .of (Aj Py ha.run hb.run hs) λσ H R env pn S n Q ok hu k=>QU (λgs S H dx dy x y d R r1 r2 ⟨z,i,c,e1,e2,hz,hc,e3⟩ k=>by
   subst e1 e2 e3;exact⟨z,i,c,r1.ik,r2.eK,hz,hc,k _ (.str _)⟩) ok hu k
noncomputable def yp:List ad->Option ad | [.str z]=>if z.length<=av then some (.int z.length) else none | _=>none
theorem JH:nR X (.builtin "len") yp:=⟨_,y6,λgs S H ds vs d R _ _ rs e k=>by
 rcases ds with _ | ⟨d1,_ | ⟨d2,l⟩⟩
 .cases e
 .obtain⟨v,rfl,r⟩:=rs.one
  cases d1 with
  | str z =>
   simp only[yp] at e;split at e
   .rename_i hz
    cases e;exact⟨z,by rw[r.ik],hz,k _ H (.int _) (.refl _ _)⟩
   .cases e
  | _=>cases e
 .cases d1<;>cases e⟩
noncomputable def zH (x:ad):Bool:=match x with | .bool b=>b | _=>false
noncomputable def Be (x y:ad):Option ad:=match y with | .bool true=>some (.bool (!zH x)) | _=>none
theorem vM {M:Model}{A:Around}{E:af->aw->Prop}{s:aw}{Q:af->aw->Prop}{v:af}(hv:∀f,v≠.builtin f)(h:Q (.bool (!(v == .bool true))) s):aA M A (compareOp .IsNot v (.bool true)) Q E s:=by
 cases v with
 | builtin f=>exact absurd rfl (hv f)
 | _=>exact ak h
noncomputable def Bf:V->Bool | .iZ=>true | .bl _=>true | .int _=>true | .str _=>true | .ref _=>true | _=>false
theorem vN (hx:Bf x=true)(r:RelV x v):∀f,v≠.builtin f:=λf=>by
 cases x<;>first
  | (cases hx;done)
  | (cases r;intro z;cases z;done)
  | (obtain⟨t,rfl⟩:=r;intro z;cases z)
theorem MV:kr X (compareOp .IsNot) (λx y H Q=>y=.bl true/\Bf x=true/\Q (.bl (!decide (x=.bl true))) H):=by
 intro pins s σ H x y v u Q I rx ry h;obtain⟨rfl,hx,q⟩:=h;cases ry;refine vM (vN hx rx) (eN I q ?_)
 cases x<;>first
  | (cases hx;done)
  | (rename_i b;cases rx;cases b<;>rfl)
  | (cases rx;rfl)
  | (obtain⟨t,rfl⟩:=rx;rfl)
theorem JI:∀{d:ad} {v:V},eF S H d v->(zH d=decide (v=.bl true)/\Bf v=true)
 | .none,_,h=>by rw[h.lF];exact⟨rfl,rfl⟩
 | .bool b,_,h=>by rw[h.iq];cases b<;>exact⟨rfl,rfl⟩
 | .int i,_,h=>by rw[h.eK];exact⟨rfl,rfl⟩
 | .str i,_,h=>by rw[h.ik];exact⟨rfl,rfl⟩
 | .tuple ds,_,h=>by obtain⟨a,_,rfl,_⟩:=h.eX;exact⟨rfl,rfl⟩
 | .list ds,_,h=>by obtain⟨a,_,rfl,_⟩:=h.eY;exact⟨rfl,rfl⟩
 | .dict _,_,h=>by obtain⟨a,_,_,_,rfl,_⟩:=h.mJ;exact⟨rfl,rfl⟩
theorem fA.Ml (r:fA gs S H d v):zH d=decide (v=.bl true)/\Bf v=true:=by
 rcases r with r | ⟨ds,a,xs,rfl,rfl,_⟩ | ⟨t,kvs,a,xs,rfl,rfl,_⟩
 .exact JI r
 .exact⟨rfl,rfl⟩
 .exact⟨rfl,rfl⟩
theorem QV:t9 X (compareOp .IsNot) Be:=⟨_,MV,λgs S H dx dy x y d R _ _ r1 r2 e k=>by
 unfold Be at e;split at e
 .cases e;exact⟨r2.iq,r1.Ml.2,r1.Ml.1 ▸ k _ H (.bl _) (.refl _ _)⟩
 .cases e⟩
end
noncomputable def pB (z:Str):Str:=⟨((Builtin.Str.strSliceIndices none none (-1) z.length).filterMap (z.cps[·]?)).toArray⟩
theorem yq (z:Str):(pB z).length<=z.length:=by
 have h:(Builtin.Str.strSliceIndices none none (-1) z.length).length<=z.length:=by
  unfold Builtin.Str.strSliceIndices sliceRange;simp only[ah,ck,show ¬ ((-1:Int) > 0) by decide,if_false];rw[show - -(1:Int)=1 from rfl,cY];split<;>omega
 show (((Builtin.Str.strSliceIndices none none (-1) z.length).filterMap (z.cps[·]?)).toArray).size<=_;rw[aC];exact aL (List.length_filterMap_le _ _) h
theorem Dd (h:c∈(pB z).cps.toList):c∈z.cps.toList:=by
 have h:c∈(Builtin.Str.strSliceIndices none none (-1) z.length).filterMap (z.cps[·]?):=by simpa [pB] using h
 obtain⟨i,_,hi⟩:=cp.mp h;exact Array.mem_toList_iff.mpr (Array.mem_of_getElem? hi)
section
variable {X:Cx}{M:Fr}{e:Expr}{ua:UX}{te:TE}{pos p2 p3 p4:Pos}{k':Nat}
noncomputable def U0 (te:TE):TE:=λσ H Q=>te σ H λx H1=>∃z,x=.str z/\z.length<=av/\Q (.str (pB z)) H1
theorem MW (he:QE X e te):QE X (.Subscript e (.Slice none none (some (.UnaryOp .USub (.Constant (.int 1) k' p4) p3)) p2) pos) (U0 te):=by
 refine⟨λpins s σ H Q I h=>?_⟩;have tW:PE X (.UnaryOp .USub (.Constant (.int 1) k' p4) p3) (VE (rU λi=>.int (-i)) (tC (.int 1))):=Hx Cd B8;refine Subscript_ (f6 (he.run pins s σ H _ I h) λv s1 ⟨x,H1,I1,r1,z,ex,hz,q⟩=>?_);subst ex;obtain⟨t,rfl⟩:=r1;refine wpAny_Slice ?_;rw[evalPart_none];refine ak (ak ?_);rw[evalPart_some];refine f6 (tW pins s1 σ H1 (λz H2=>z=.int (-1)/\H2=H1) I1 ⟨1,rfl,rfl,rfl⟩) λu s3 ⟨z',H3,I3,r3,ez,eH⟩=>?_;subst ez eH;obtain⟨tk,rfl⟩:=r3;have I4:Inv X pins σ H3 { s3 with heap:=s3.heap.push { cls:=.type "slice",data:=.fields #[.none,.none,.int (-1) tk] } }:=I3.kept (t':=s3.toks) λb ob q=>ai _ q;show aA (model X.prog X.w) X.A (subscriptTail e (.Slice none none (some (.UnaryOp .USub (.Constant (.int 1) k' p4) p3)) p2) (.str z t) (.ref s3.heap.objs.size)) (EP X pins σ Q) X.xe { s3 with heap:=s3.heap.push { cls:=.type "slice",data:=.fields #[.none,.none,.int (-1) tk] } };refine tail_any (ops:=[.str z t,.ref s3.heap.objs.size]) (typeIs_str _ _ _) F.slot_str_getitem.lookup (wpAny_getItem_str_slice (l:=none) (u:=none) (st:=some (-1,tk)) ⟨_,aE _ rfl,rfl,rfl⟩ rfl ?_) (by with_unfolding_all rfl);exact⟨aL (yq z) hz,.str _,H3,I4.tok _,⟨_,rfl⟩,q⟩
noncomputable def JJ (u:UX):UX:=λenv n Q=>u env n λd n1=>∃z,d=.str z/\z.length<=av/\Q (.str (pB z)) n1
theorem QX (he:KL X M e ua):KE X M (.Subscript e (.Slice none none (some (.UnaryOp .USub (.Constant (.int 1) k' p4) p3)) p2) pos) (JJ ua) :=
 .of (MW he.run) λσ H R env pn S n Q ok hu k=>⟨env,pn,S,n,_,ok,hu,λv H1 d n1 r1 x1 g1 _ q=>by
  obtain⟨z,rfl,hz,q⟩:=q;exact⟨z,r1.ik,hz,k _ H1 _ n1 (.str _) x1 g1 q⟩⟩
end
section
variable {X:Cx}
noncomputable def qO (x:ad):Bool:=match x with | .bool b=>!b | _=>false
noncomputable def F5 (x y:ad):Option ad:=match y with | .bool false=>some (.bool (qO x)) | _=>none
noncomputable def Bg (x y:ad):Option ad:=match y with | .bool false=>some (.bool (!qO x)) | _=>none
theorem zI (hv:∀f,v≠.builtin f)(h:Q (.bool (v == .bool false)) s):aA M A (compareOp .Is v (.bool false)) Q E s:=by
 cases v with
 | builtin f=>exact absurd rfl (hv f)
 | _=>exact ak h
theorem tL (hv:∀f,v≠.builtin f)(h:Q (.bool (!(v == .bool false))) s):aA M A (compareOp .IsNot v (.bool false)) Q E s:=by
 cases v with
 | builtin f=>exact absurd rfl (hv f)
 | _=>exact ak h
theorem QY:kr X (compareOp .Is) (λx y H Q=>y=.bl false/\Bf x=true/\Q (.bl (decide (x=.bl false))) H):=by
 intro pins s σ H x y v u Q I rx ry h;obtain⟨rfl,hx,q⟩:=h;cases ry;refine zI (vN hx rx) (eN I q ?_)
 cases x<;>first
  | (cases hx;done)
  | (rename_i b;cases rx;cases b<;>rfl)
  | (cases rx;rfl)
  | (obtain⟨t,rfl⟩:=rx;rfl)
theorem MX:kr X (compareOp .IsNot) (λx y H Q=>y=.bl false/\Bf x=true/\Q (.bl (!decide (x=.bl false))) H):=by
 intro pins s σ H x y v u Q I rx ry h;obtain⟨rfl,hx,q⟩:=h;cases ry;refine tL (vN hx rx) (eN I q ?_)
 cases x<;>first
  | (cases hx;done)
  | (rename_i b;cases rx;cases b<;>rfl)
  | (cases rx;rfl)
  | (obtain⟨t,rfl⟩:=rx;rfl)
theorem F6:∀{d:ad} {v:V},eF S H d v->(qO d=decide (v=.bl false)/\Bf v=true)
 | .none,_,h=>by rw[h.lF];exact⟨rfl,rfl⟩
 | .bool b,_,h=>by rw[h.iq];cases b<;>exact⟨rfl,rfl⟩
 | .int i,_,h=>by rw[h.eK];exact⟨rfl,rfl⟩
 | .str i,_,h=>by rw[h.ik];exact⟨rfl,rfl⟩
 | .tuple ds,_,h=>by obtain⟨a,_,rfl,_⟩:=h.eX;exact⟨rfl,rfl⟩
 | .list ds,_,h=>by obtain⟨a,_,rfl,_⟩:=h.eY;exact⟨rfl,rfl⟩
 | .dict _,_,h=>by obtain⟨a,_,_,_,rfl,_⟩:=h.mJ;exact⟨rfl,rfl⟩
theorem fA.VY (r:fA gs S H d v):qO d=decide (v=.bl false)/\Bf v=true:=by
 rcases r with r | ⟨ds,a,xs,rfl,rfl,_⟩ | ⟨t,kvs,a,xs,rfl,rfl,_⟩
 .exact F6 r
 .exact⟨rfl,rfl⟩
 .exact⟨rfl,rfl⟩
theorem U1:t9 X (compareOp .Is) F5:=⟨_,QY,λgs S H dx dy x y d R _ _ r1 r2 e k=>by
 unfold F5 at e;split at e
 .cases e;exact⟨r2.iq,r1.VY.2,r1.VY.1 ▸ k _ H (.bl _) (.refl _ _)⟩
 .cases e⟩
theorem QZ:t9 X (compareOp .IsNot) Bg:=⟨_,MX,λgs S H dx dy x y d R _ _ r1 r2 e k=>by
 unfold Bg at e;split at e
 .cases e;exact⟨r2.iq,r1.VY.2,r1.VY.1 ▸ k _ H (.bl _) (.refl _ _)⟩
 .cases e⟩
end
end L2
namespace PySem
open Sem (wp)
open PyProof.Rows Builtin Builtin.Frozenset
end PySem
namespace L2
open PySem PySem.Spec PyProof.Rows
open PySem.W (KasT kas_asc kas_desc kas_tail3 kas_descPart kas_count kas_place kas_bin kas_sort kas_rev kas_ask kas_item kat_run kat_snds KatTups KatLex KatGo kat_cons kat_nil kat_go kat_yes kat_no kat_one kat_lt kas_mapM kas_first_eq)
theorem eA.at:∀{xs:List V} {us:List af},eA xs us->∀j,j<us.length->RelV (xs.getD j .iZ) (us.getD j af.none)
 | _,[],_,j,hj=>absurd hj (Nat.not_lt_zero _)
 | _,u::us,q,j,hj=>by
  cases q with
  | cons q1 q2 =>
   cases j with
   | zero=>exact q1
   | succ j=>exact eA.at q2 j (Nat.lt_of_succ_lt_succ hj)
noncomputable abbrev lI:=List (List Int × ad)
noncomputable def F7 (t:Bool)(d:ad):Option (List Int):=match t,d with | false,.int i=>some [i] | true,.tuple ds=>eV ds | _,_=>none
noncomputable def fu (kvs:lI)(k:List Int):Option ad:=(kvs.find? λp=>decide (p.1=k)).map (·.2)
noncomputable def kQ (kvs:lI)(k:List Int)(d:ad):lI:=if (kvs.any λp=>decide (p.1=k))=true then kvs.map (λp=>if p.1=k then (p.1,d) else p) else kvs++[(k,d)]
section
variable {κ:Type}[DecidableEq κ]{S:List Addr}{H:Hp}{f:List Int->κ}
noncomputable def pC (f:List Int->κ):lI->List V->List (κ × V)
 | p::kvs,x::xs=>(f p.1,x)::pC f kvs xs
 | _,_=>[]
theorem zJ (f:List Int->κ):∀{kvs:lI} {xs:List V},dH S H (kvs.map (·.2)) xs->(pC f kvs xs).length=kvs.length
 | [],_,r=>by cases r.gc;rfl
 | p::kvs,_,r=>by
  obtain⟨x,t,rfl,r1,r2⟩:=r.of_cons;rw[pC,aj,zJ f r2,aj]
theorem zK:∀{kvs:lI} {xs:List V},dH S H (kvs.map (·.2)) xs->(∀p∈kvs,f p.1=f k->p.1=k)->(fu kvs k=none/\iU (pC f kvs xs) (f k)=none)\/∃d v,fu kvs k=some d/\iU (pC f kvs xs) (f k)=some v/\eF S H d v
 | [],_,r,_=>by cases r.gc;exact .inl ⟨rfl,rfl⟩
 | p::kvs,_,r,inj=>by
  obtain⟨x,t,rfl,r1,r2⟩:=r.of_cons;by_cases e:p.1=k
  .refine .inr ⟨p.2,x,?_,?_,r1⟩
   .unfold fu;rw[bK,decide_eq_true e];rfl
   .rw[pC,gA (by rw[e])]
  .have e2:¬ f p.1=f k:=λz=>e (inj p (aq ..) z)
   have ih:=zK r2 λq hq=>inj q (ao _ hq);have h1:fu (p::kvs) k=fu kvs k:=by unfold fu;rw[bK,decide_eq_false e]
   rw[h1,pC,gB (p:=(f p.1,x)) e2];exact ih
theorem EB:∀{kvs:lI} {xs:List V},dH S H (kvs.map (·.2)) xs->(∀p∈kvs,f p.1=f k->p.1=k)->((pC f kvs xs).any λkv=>decide (kv.1=f k))=kvs.any λp=>decide (p.1=k)
 | [],_,r,_=>by cases r.gc;rfl
 | p::kvs,_,r,inj=>by
  obtain⟨x,t,rfl,r1,r2⟩:=r.of_cons;rw[pC,b4,b4,EB r2 λq hq=>inj q (ao _ hq)];congr 1;rw[decide_eq_decide];exact⟨inj p (aq ..),λz=>by rw[z]⟩
theorem EC (rv:eF S H d v):∀{kvs:lI} {xs:List V},dH S H (kvs.map (·.2)) xs->(∀p∈kvs,f p.1=f k->p.1=k) ->
  ∃ys,(pC f kvs xs).map (λkv=>if kv.1=f k then (kv.1,v) else kv)=pC f (kvs.map λp=>if p.1=k then (p.1,d) else p) ys/\dH S H ((kvs.map λp=>if p.1=k then (p.1,d) else p).map (·.2)) ys
 | [],_,r,_=>⟨[],by cases r.gc;rfl,.nil⟩
 | p::kvs,_,r,inj=>by
  obtain⟨x,t,rfl,r1,r2⟩:=r.of_cons;obtain⟨ys,h1,h2⟩:=EC rv r2 λq hq=>inj q (ao _ hq);by_cases e:p.1=k
  .refine⟨v::ys,?_,?_⟩
   .rw[pC,am,am,h1,if_pos e,pC,if_pos (by rw[e])]
   .rw[am,am,if_pos e]
    exact .cons rv h2
  .have e2:¬ f p.1=f k:=λz=>e (inj p (aq ..) z)
   refine⟨x::ys,?_,?_⟩
   .rw[pC,am,am,h1,if_neg e,pC,if_neg e2]
   .rw[am,am,if_neg e]
    exact .cons r1 h2
theorem Bh:∀{kvs:lI} {xs:List V} (d:ad),dH S H (kvs.map (·.2)) xs->pC f kvs xs++[(f k,v)]=pC f (kvs++[(k,d)]) (xs++[v])
 | [],_,d,r=>by cases r.gc;rfl
 | p::kvs,_,d,r=>by
  obtain⟨x,t,rfl,r1,r2⟩:=r.of_cons;rw[pC,aI,Bh d r2];rfl
theorem ED (rv:eF S H d v)(r:dH S H (kvs.map (·.2)) xs)(inj:∀p∈kvs,f p.1=f k->p.1=k) :
  ∃ys,kH (pC f kvs xs) (f k) v=pC f (kQ kvs k d) ys/\dH S H ((kQ kvs k d).map (·.2)) ys:=by
 unfold kH kQ;rw[EB r inj];split
 .exact EC rv r inj
 .refine⟨xs++[v],Bh d r,?_⟩
  rw[bc];exact r.append (.cons rv .nil)
end
theorem De:∀(kvs:lI) (xs:List V),KZ kvs xs=pC (λk=>(Sum.inl (k.headD 0):Key)) kvs xs
 | [],xs=>by cases xs<;>rfl
 | p::kvs,[]=>rfl
 | p::kvs,x::xs=>by rw[KZ,pC,De kvs xs]
theorem Df:∀(kvs:lI) (xs:List V),K0 kvs xs=pC (λk=>(k.map Sum.inl:List Key)) kvs xs
 | [],xs=>by cases xs<;>rfl
 | p::kvs,[]=>rfl
 | p::kvs,x::xs=>by rw[K0,pC,Df kvs xs]
theorem EE:∀{a b:List Int},(a.map Sum.inl:List Key)=b.map Sum.inl->a=b
 | [],[],_=>rfl
 | [],_::_,h=>by cases h
 | _::_,[],h=>by cases h
 | x::a,y::b,h=>by
  rw[am,am] at h;injection h with h1 h2;injection h1 with h1;rw[h1,EE h2]
theorem one_inj {a b:List Int}(ha:a.length=1)(hb:b.length=1)(h:(Sum.inl (a.headD 0):Key)=Sum.inl (b.headD 0)):a=b:=by
 match a,b,ha,hb with
 | [x],[y],_,_=>injection h with h;simpa using h
theorem qP {gs S:List Addr}{H:Hp}{t:Bool}{d:ad}{v:V}{k:List Int}(r:fA gs S H d v)(e:F7 t d=some k):(t=false->k.length=1) /\
  (∀(a:Addr) (kvs:lI) (xs:List V),H a=some (zY t kvs xs)->dH S H (kvs.map (·.2)) xs->(t=false->∀p∈kvs,p.1.length=1) ->
   ((fu kvs k=none/\kl H a v none)\/∃d v',fu kvs k=some d/\kl H a v (some v')/\eF S H d v') /\
   ∀(d':ad) (v':V),eF S H d' v'->kvs.length<av->∃ys,qx H a v v' (eM H a (zY t (kQ kvs k d') ys))/\dH S H ((kQ kvs k d').map (·.2)) ys):=by
 cases t with
 | false =>
  obtain⟨i,rfl⟩:∃i,d=.int i:=by
   cases d with
   | int i=>exact⟨i,rfl⟩
   | _=>cases e
  cases e;rw[r.eK];refine⟨λ_=>rfl,λa kvs xs ha rr hk=>?_⟩;have lW:H a=some (.dK (pC (λk=>(Sum.inl (k.headD 0):Key)) kvs xs)):=by rw[<- De];exact ha
  have inj:∀p∈kvs,(Sum.inl (p.1.headD 0):Key)=Sum.inl (([i]:List Int).headD 0)->p.1=[i]:=λp hp h=>one_inj (hk rfl p hp) rfl h;refine⟨?_,λd' v' rv hl=>?_⟩
  .have hg:kl H a (.int i) (iU (pC (λk=>(Sum.inl (k.headD 0):Key)) kvs xs) (Sum.inl i)):=kl.k (k:=Sum.inl i) lW
   rcases zK (f:=λk=>(Sum.inl (k.headD 0):Key)) (k:=[i]) rr inj with⟨h1,h2⟩ | ⟨d,v,h1,h2,h3⟩
   .have UK:iU (pC (λk=>(Sum.inl (k.headD 0):Key)) kvs xs) (Sum.inl i)=none:=h2
    rw[UK] at hg;exact .inl ⟨h1,hg⟩
   .have UK:iU (pC (λk=>(Sum.inl (k.headD 0):Key)) kvs xs) (Sum.inl i)=some v:=h2
    rw[UK] at hg;exact .inr ⟨d,v,h1,hg,h3⟩
  .obtain⟨ys,h1,h2⟩:=ED (f:=λk=>(Sum.inl (k.headD 0):Key)) (k:=[i]) rv rr inj
   refine⟨ys,?_,h2⟩;have hp:=qx.k (k:=Sum.inl i) (v:=v') lW (by rw[zJ _ rr];exact hl);have RO:kH (pC (λk=>(Sum.inl (k.headD 0):Key)) kvs xs) (Sum.inl i) v'=pC (λk=>(Sum.inl (k.headD 0):Key)) (kQ kvs [i] d') ys:=h1;rw[RO,<- De] at hp;exact hp
 | true =>
  obtain⟨ds,rfl⟩:∃ds,d=.tuple ds:=by
   cases d with
   | tuple ds=>exact⟨ds,rfl⟩
   | _=>cases e
  have e':ds=k.map .int:=gC e;subst e';obtain⟨b,ys,rfl,hb,rb⟩:=r.eX;rw[gD rb] at hb;have C4:H b=some (.tup ((k.map (Sum.inl:Int->Key)).map kV)):=by rw[br];exact hb
  refine⟨(λz=>by cases z),λa kvs xs ha rr hk=>?_⟩;have lW:H a=some (.dT (pC (λk=>(k.map Sum.inl:List Key)) kvs xs)):=by rw[<- Df];exact ha
  have inj:∀p∈kvs,(p.1.map Sum.inl:List Key)=k.map Sum.inl->p.1=k:=λp _ h=>EE h;refine⟨?_,λd' v' rv hl=>?_⟩
  .have hg:=kl.t lW C4
   rcases zK (f:=λk=>(k.map Sum.inl:List Key)) (k:=k) rr inj with⟨h1,h2⟩ | ⟨d,v,h1,h2,h3⟩
   .rw[h2] at hg
    exact .inl ⟨h1,hg⟩
   .rw[h2] at hg
    exact .inr ⟨d,v,h1,hg,h3⟩
  .obtain⟨ys,h1,h2⟩:=ED (f:=λk=>(k.map Sum.inl:List Key)) (k:=k) rv rr inj
   refine⟨ys,?_,h2⟩;have hp:=qx.t (v:=v') lW C4 (by rw[zJ _ rr];exact hl);rw[h1,<- Df] at hp;exact hp
theorem Ext.XX (hp:p∈S)(h:H p=Option.some (zY t kvs xs)):Ext S H (eM H p o) :=
 ⟨λb u hb e=>by rw[dJ (λ(z:b=p)=>hb (by rw[z];exact hp))];exact e,λb ys e=>by rw[dJ (λz=>by rw[z,h] at e;cases t<;>cases e)];exact e⟩
theorem Ext.U2 (a:Ext S H0 H)(h0:H0 p=none):Ext S H0 (eM H p o) :=
 ⟨λb u hb e=>by rw[dJ (λz=>by rw[z,h0] at e;cases e)];exact a.keep b u hb e,λb ys e=>by rw[dJ (λz=>by rw[z,h0] at e;cases e)];exact a.tup b ys e⟩
noncomputable def Q0 (env:eU)(i:Nat)(a:Addr):Prop:=∀j t kvs,j≠i->env[j]? ≠ some (some (.d a t kvs))
section
theorem dQ.Q1 (ok:dQ M env pn σ S H n)(h0:H a=none)(h1:H' a=some (zY t kvs xs))(r:dH (a::S) H' (kvs.map (·.2)) xs)(hk:t=false->∀p∈kvs,p.1.length=1)(x:Ext M.gs H H')(g:M.G H' n')(hi:i ∉ M.fd) :
  dQ M (env.set i (some (.d a t kvs))) pn (σ.set i (some (.ref a))) (a::S) H' n':=by
 have hg:∀b∈M.gs,b∈a::S:=λb hb=>ao _ (ok.wL b hb);have qb:=ok.step x g;refine⟨λj e he=>?_,λj k ds es b h2 h3 h4 h5=>?_,by rw[bu,bu,ok.len],λj hj=>?_,g,qb.ext,λb hb=>ao _ (ok.s0 b hb),λb hb=>?_,λb hb=>?_,λp hp=>?_⟩
 .rcases fY he with⟨rfl,e1⟩ | ⟨ne,e1⟩
  .cases e1
   have:i<env.length:=by
    by_cases z:i<env.length
    .exact z
    .rw[bh (by rw[bu];omega)] at he;cases he
   exact⟨.ref a,oG (by rw[<- ok.len];exact this),rfl,xs,h1,r,hk,aq ..,ok.anew h0⟩
  .obtain⟨v',hv,rv⟩:=ok.val j e e1
   exact⟨v',by rw[be ne];exact hv,(rv.fresh h0).step hg x⟩
 .rcases fY h2 with⟨_,e1⟩ | ⟨n1,e1⟩
  .cases e1
  .rcases fY h3 with⟨_,e2⟩ | ⟨n2,e2⟩
   .cases e2
   .rw[be n1] at h4
    rw[be n2] at h5;exact ok.ne j k ds es b e1 e2 h4 h5
 .have:i≠j:=λz=>hi (z ▸ hj)
  rw[be this];exact ok.IS j hj
 .rcases al.mp hb with z | z
  .rw[z];exact .inr (ok.anew h0)
  .exact ok.sn b z
 .rcases al.mp hb with z | z
  .rw[z,h1];simp
  .exact qb.has b z
 .exact ((ok.pin p hp).fresh h0).ext (x.mono hg)
theorem dQ.only (ok:dQ M env pn σ S H n)(h0:H a=none)(j:Nat)(t:Bool)(kvs:lI):env[j]? ≠ some (some (.d a t kvs)):=λz=>by
 obtain⟨v,_,_,xs,ha,_,_,hs,_⟩:=ok.val j _ z;exact ok.has a hs h0
theorem dQ.putD (ok:dQ M env pn σ S H n)(he:env[i]? = some (some (.d a t kvs)))(ho:Q0 env i a)(r:dH S H (jZ.map (·.2)) ys)(hk:t=false->∀p∈jZ,p.1.length=1) :
  dQ M (env.set i (some (.d a t jZ))) pn σ S (eM H a (zY t jZ ys)) n:=by
 obtain⟨v',hv,rfl,xs,ha,_,_,hs,h0⟩:=ok.val i _ he;have x:Ext [a] H (eM H a (zY t jZ ys)):=.XX (!4) ha;have xS:Ext S H (eM H a (zY t jZ ys)):=x.mono (by simpa using hs);refine⟨λj e hj=>?_,λj k wM kF b h2 h3 h4 h5=>?_,by rw[bu,ok.len],ok.IS,M.iW ok.gd x (by simpa using h0),ok.ext.U2 h0,ok.s0,ok.sn,λb hb=>?_,λp hp=>(ok.pin p hp).ext xS⟩
 .rcases fY hj with⟨rfl,e1⟩ | ⟨ne,e1⟩
  .cases e1
   exact⟨_,hv,rfl,ys,dG,r.ext xS,hk,hs,h0⟩
  .obtain⟨w,hw,rA⟩:=ok.val j e e1
   refine⟨w,hw,?_⟩
   cases e with
   | s d=>exact eF.ext xS rA
   | o kF =>
    obtain⟨b,zs,e2,hb,r2,I9,Ja⟩:=rA;subst e2;exact⟨b,zs,rfl,by rw[dJ (λz=>by rw[z,ha] at hb;exact qm hb.symm)];exact hb,r2.ext xS,I9,Ja⟩
   | x c as =>
    obtain⟨b,dx,vs,e2,hb,hd,r2,g1,g2⟩:=rA;exact⟨b,dx,vs,e2,by rw[dJ (λz=>by rw[z,ha] at hb;cases t<;>cases hb)];exact hb,by rw[dJ (λz=>by rw[z,ha] at hd;cases t<;>cases hd)];exact hd,r2.ext xS,g1,g2⟩
   | d b t2 kv2 =>
    obtain⟨e2,zs,hb,r2,CC,I9,Ja⟩:=rA;have XY:b≠a:=λz=>ho j t2 kv2 (λz2=>ne z2.symm) (z ▸ e1);exact⟨e2,zs,by rw[dJ XY];exact hb,r2.ext xS,CC,I9,Ja⟩
 .rcases fY h2 with⟨_,e1⟩ | ⟨n1,e1⟩
  .cases e1
  .rcases fY h3 with⟨_,e2⟩ | ⟨n2,e2⟩
   .cases e2
   .exact ok.ne j k wM kF b e1 e2 h4 h5
 .by_cases z:b=a
  .rw[z,dG];simp
  .rw[dJ z];exact ok.has b hb
end
theorem C1 {X:Cx}(h:X.A.units+64<cLine):X.A.units+1<cLine:=by omega
noncomputable def JK (i:Nat)(t:Bool):US:=λE env n=>∀a:Addr,(∀(j:Nat) (t':Bool) (kv:lI),env[j]? ≠ some (some (nG.d a t' kv)))->E.nx (env.set i (some (.d a t []))) n
noncomputable def yr (i:Nat)(uk uv:UX):US:=λE env n=>uv env n λd n1=>match env[i]? with | some (some (.d a t kvs))=>uk env n1 λk n2=>mD (F7 t k) λkk=>(kvs.length<av/\Q0 env i a)/\E.nx (env.set i (some (.d a t (kQ kvs kk d)))) n2 | _=>False
noncomputable def Bi (i:Nat)(uk:UX):UX:=λenv n Q=>match env[i]? with | some (some (.d a t kvs))=>uk env n λk n1=>mD (F7 t k) λkk=>mD (fu kvs kk) λd=>Q d n1 | _=>False
noncomputable def zL (i:Nat)(uk:UX):UX:=λenv n Q=>uk env n λk n1=>match env[i]? with | some (some (.d a t kvs))=>mD (F7 t k) λkk=>Q (.bool (fu kvs kk).isSome) n1 | _=>False
theorem MY (hk:t=false->∀p∈kvs,p.1.length=1)(h1:t=false->k.length=1):t=false->∀p∈kQ kvs k d,p.1.length=1:=λht p hp=>by
 unfold kQ at hp;split at hp
 .obtain⟨q,hq,rfl⟩:=bg.mp hp
  split
  .exact hk ht q hq
  .exact hk ht q hq
 .rcases aH.mp hp with hp | hp
  .exact hk ht p hp
  .rw[ay.mp hp];exact h1 ht
section
theorem MZ (hN:X.N.Nodup)(hx:Loc X.env.scope x)(hi:X.N[i]? = some x:=by rfl)(hs:swapsWith (.Dict [] [] p) (some (.Name x jJ)) pos.line X.env=pure false:=by rfl)
  (hf:X.fn x=true\/X.env.scope.names.lookup x=some .local:=by (first | exact .inl rfl | exact .inr rfl | assumption)) (hfd:i ∉ M.fd:=by decide):KS X M (.Assign [.Name x jJ] (.Dict [] [] p) pos) (JK i false):=.of (jY hN hi hx u6 hs hf) λD σ H env pn S n E ok hu k1 k2 a ha =>
 k1 _ _ _ _ _ (ok.Q1 (t:=false) (kvs:=[]) (xs:=[]) ha dG .nil (!4) (.new ha) (ok.grow (.new ha)) hfd) (hu a λj t kv=>ok.only ha j t kv)
theorem JL (i:Nat)(hu:X.A.units+1<cLine)(hk:KL X M ke uk)(hv:KE X M ve uv)(hN:X.N[i]? = some x:=by rfl)(Q2:DP X.env.scope x:=by (first | exact Or.inl rfl | exact Or.inr (Or.inl rfl) | exact Or.inr (Or.inr rfl)))(hd:(x == ("__debug__" : Str))=false:=by decide)(kG:(x == ("__classdict__" : Str))=false:=by decide)
  (hs:swapsWith ve (some (.Subscript (.Name x p) ke jJ)) pos.line X.env=pure false:=by rfl):KS X M (.Assign [.Subscript (.Name x p) ke jJ] ve pos) (yr i uk uv):=.of (mK hu (qv i hN Q2 hd kG) hk.run hv.run hs) λD σ H env pn S n E ok Hh k1 k2=>by
 refine⟨env,pn,S,n,_,ok,Hh,λv H1 d n1 r1 x1 g1 _ q=>?_⟩;have rC:=ok.step x1 g1;split at q
 .rename_i a t kvs he
  obtain⟨v0,M0,rfl,xs,ha,rr,RJ,hsS,h0⟩:=rC.val i _ he;refine⟨_,M0,env,pn,S,n1,_,rC,q,λy H3 kd n2 r2 x2 g2 _ q2=>?_⟩;obtain⟨kk,ek,⟨hl,ho⟩,q2⟩:=q2;have He:=rC.step x2 g2;obtain⟨v0',XZ,e',qE,lW,Q3,Bj,_,_⟩:=He.val i _ he;obtain⟨h1,h2⟩:=qP r2 ek;obtain⟨ys,hp,hr⟩:=(h2 a kvs qE lW Q3 Bj).2 d v (r1.ext (x2.mono rC.wL)) hl;exact⟨a,_,rfl,hp,k1 _ _ _ _ _ (He.putD he ho hr (MY Bj h1)) q2⟩
 .exact q.elim
theorem Q4 (i:Nat)(hu:X.A.units+1<cLine)(hk:KL X M ke uk)(hN:X.N[i]? = some x:=by rfl)(Q2:DP X.env.scope x:=by (first | exact Or.inl rfl | exact Or.inr (Or.inl rfl) | exact Or.inr (Or.inr rfl)))(hd:(x == ("__debug__" : Str))=false:=by decide)(kG:(x == ("__classdict__" : Str))=false:=by decide)
  (hs:Il ke:=by exact λ_ _=>rfl):KE X M (.Subscript (.Name x p) ke pos) (Bi i uk):=.of (gJ hu (qv i hN Q2 hd kG) hk.run hs) λσ H R env pn S n Q ok Hh k=>by
 unfold Bi at Hh;split at Hh
 .rename_i a t kvs he
  obtain⟨v0,M0,rfl,xs,ha,rr,RJ,hsS,h0⟩:=ok.val i _ he;refine⟨_,M0,env,pn,S,n,_,ok,Hh,λy H1 kd n1 r1 x1 g1 _ q=>?_⟩;obtain⟨kk,ek,d,ed,q⟩:=q;have rC:=ok.step x1 g1;obtain⟨v0',XZ,e',qE,lW,Q3,Bj,_,_⟩:=rC.val i _ he;rcases ((qP r1 ek).2 a kvs qE lW Q3 Bj).1 with⟨z,_⟩ | ⟨d',v',z,hg,hr⟩
  .rw[z] at ed;cases ed
  .rw[z] at ed
   cases ed;exact⟨a,v',rfl,hg,k v' H1 _ n1 hr x1 g1 q⟩
 .exact Hh.elim
theorem Ou (i:Nat)(hu:X.A.units+1<cLine)(hk:KL X M ke uk)(hN:X.N[i]? = some x:=by rfl)(Q2:DP X.env.scope x:=by (first | exact Or.inl rfl | exact Or.inr (Or.inl rfl) | exact Or.inr (Or.inr rfl)))(hd:(x == ("__debug__" : Str))=false:=by decide)(kG:(x == ("__classdict__" : Str))=false:=by decide)
  (hm:behindInMarks .In (.Name x p)=false:=by first | exact mH _ | rfl):KE X M (.Compare ke [.In] [.Name x p] pos) (zL i uk):=.of (⟨OV (Im hu hk.run.run (qv i hN Q2 hd kG).run) hm⟩:QE X _ _) λσ H R env pn S n Q ok Hh k=>by
 refine⟨env,pn,S,n,_,ok,Hh,λy H1 kd n1 r1 x1 g1 _ q=>?_⟩;have rC:=ok.step x1 g1;split at q
 .rename_i a t kvs he
  obtain⟨kk,ek,q⟩:=q;obtain⟨v0,M0,rfl,qE,lW,Q3,Bj,_,_⟩:=rC.val i _ he;rcases ((qP r1 ek).2 a kvs qE lW Q3 Bj).1 with⟨z,hg⟩ | ⟨d',v',z,hg,hr⟩
  .rw[z] at q
   exact⟨_,M0,a,_,rfl,hg,k _ H1 _ n1 (.bl _) x1 g1 q⟩
  .rw[z] at q
   exact⟨_,M0,a,_,rfl,hg,k _ H1 _ n1 (.bl _) x1 g1 q⟩
 .exact q.elim
theorem U3 (i:Nat)(hu:X.A.units+1<cLine)(hk:KL X M ke uk)(hN:X.N[i]? = some x:=by rfl)(Q2:DP X.env.scope x:=by (first | exact Or.inl rfl | exact Or.inr (Or.inl rfl) | exact Or.inr (Or.inr rfl)))(hd:(x == ("__debug__" : Str))=false:=by decide)(kG:(x == ("__classdict__" : Str))=false:=by decide)
  (hm:behindInMarks .In (.Name x p)=false:=by first | exact mH _ | rfl):KB X M (.Compare ke [.In] [.Name x p] pos) (dM (zL i uk)):=.of (⟨OW (Im hu hk.run.run (qv i hN Q2 hd kG).run) hm⟩:QT X _ _) λσ H R env pn S n Q ok Hh k=>by
 refine⟨env,pn,S,n,_,ok,Hh,λy H1 kd n1 r1 x1 g1 _ q=>?_⟩;have rC:=ok.step x1 g1;split at q
 .rename_i a t kvs he
  obtain⟨kk,ek,q⟩:=q;obtain⟨v0,M0,rfl,qE,lW,Q3,Bj,_,_⟩:=rC.val i _ he;rcases ((qP r1 ek).2 a kvs qE lW Q3 Bj).1 with⟨z,hg⟩ | ⟨d',v',z,hg,hr⟩
  .rw[z] at q
   exact⟨_,M0,a,_,rfl,hg,_,rfl,k _ H1 n1 x1 g1 q⟩
  .rw[z] at q
   exact⟨_,M0,a,_,rfl,hg,_,rfl,k _ H1 n1 x1 g1 q⟩
 .exact q.elim
end
noncomputable def qQ (p:ad × ad):Option (List Int × ad):=match p.1 with | .tuple ks=>(eV ks).map λk=>(k,p.2) | _=>none
noncomputable def RR (d:ad):Option (Bool × lI):=match d with | .dict ((.bool t,.none)::l)=>(l.mapM qQ).map λkvs=>(t,kvs) | _=>none
theorem JM:∀kvs:lI,(kvs.map λp=>(ad.tuple (p.1.map .int),p.2)).mapM qQ=some kvs
 | []=>rfl
 | p::kvs=>by
  have e:qQ (ad.tuple (p.1.map .int),p.2)=some p:=by
   unfold qQ;simp only[eh];rfl
  rw[am,cQ,JM kvs,e];rfl
theorem Dg (t:Bool)(kvs:lI):RR (i3 t kvs)=some (t,kvs):=by
 unfold i3 o5 RR;simp only[JM,bn]
theorem Bk:∀{l:List (ad × ad)} {kvs:lI},l.mapM qQ=some kvs->l=kvs.map λp=>(ad.tuple (p.1.map .int),p.2)
 | [],kvs,h=>by cases h;rfl
 | p::l,kvs,h=>by
  rw[cQ] at h
  cases hp:qQ p with
  | none=>rw[hp] at h;cases h
  | some q =>
   cases hl:l.mapM qQ with
   | none=>rw[hp,hl] at h;cases h
   | some r =>
    rw[hp,hl] at h;cases h;rw[am,<- Bk hl];congr 1;unfold qQ at hp;split at hp
    .rename_i ks he
     cases ha:eV ks with
     | none=>rw[ha] at hp;cases hp
     | some k =>
      rw[ha] at hp;cases hp;rw[<- gC ha];cases p;simp only at he;rw[he]
    .cases hp
theorem JN (h:RR d=some (t,kvs)):d=i3 t kvs:=by
 unfold RR at h;split at h
 .rename_i t' l
  cases hl:l.mapM qQ with
  | none=>rw[hl] at h;cases h
  | some r =>
   rw[hl] at h;cases h;rw[i3,o5,<- Bk hl]
 .cases h
theorem JO (h:o5 t kvs=o5 t' jZ):t=t'/\kvs=jZ:=by
 have h1:=Dg t kvs;rw[i3,h,<- i3,Dg] at h1;cases h1;exact⟨rfl,rfl⟩
theorem fA.U4 (r:fA gs S H d v)(e:RR d=some (t,kvs)):∃a xs,v=.ref a/\H a=some (zY t kvs xs)/\dH S H (kvs.map (·.2)) xs/\(t=false->∀p∈kvs,p.1.length=1):=by
 rw[JN e] at r;obtain⟨a,t',jZ,xs,e1,e2,ha,hk,hr⟩:=fA.mJ r;obtain⟨rfl,rfl⟩:=JO e2;exact⟨a,xs,e1,ha,hr,hk⟩
noncomputable def yt (ud uk:UX):UX:=λenv n Q=>ud env n λd n1=>mD (RR d) λtk=>uk env n1 λk n2=>mD (F7 tk.1 k) λkk=>mD (fu tk.2 kk) λx=>Q x n2
section
variable {X:Cx}{M:Fr}{o e ke ve:Expr}{uk uv ud:UX}{pos jJ p p2:Pos}
theorem Dh (hu:X.A.units+1<cLine)(ho:KL X M o ud)(hk:KL X M ke uk)(hs:Il ke:=by exact λ_ _=>rfl):KE X M (.Subscript o ke pos) (yt ud uk):=.of (gJ hu ho.run hk.run hs) λσ H R env pn S n Q ok Hh k=>by
 refine⟨env,pn,S,n,_,ok,Hh,λv H1 d n1 r1 x1 g1 _ q=>?_⟩;obtain⟨⟨t,kvs⟩,e,q⟩:=q;have rC:=ok.step x1 g1;refine⟨env,pn,S,n1,_,rC,q,λy H2 kd n2 r2 x2 g2 _ q2=>?_⟩;obtain⟨kk,ek,x,ex,q2⟩:=q2;obtain⟨a,xs,rfl,ha,rr,RJ⟩:=(r1.ext rC.wL x2).U4 e;rcases ((qP r2 ek).2 a kvs xs ha rr RJ).1 with⟨z,_⟩ | ⟨d',v',z,hg,hr⟩
 .rw[z] at ex;cases ex
 .rw[z] at ex
  cases ex;exact⟨a,v',rfl,hg,k v' H2 _ n2 hr (x1.trans x2) g2 q2⟩
end
end L2
open PySem
namespace Odj
end Odj
open PySem
namespace Odj
noncomputable abbrev wO:=List (Int × Bool)
noncomputable def iz (o:wO)(k:Int):Bool:=((o.find? λp=>decide (p.1=k)).map (·.2)).getD false
noncomputable def gp (o:wO)(k:Int):wO:=if o.any (λp=>decide (p.1=k)) then o.map (λp=>if p.1=k then (p.1,!(iz o k)) else p) else o++[(k,!(iz o k))]
noncomputable def d6 (row:List Int):wO:=row.foldl gp []
noncomputable def lu (o:wO):List Int:=(o.filter (·.2)).map (·.1)
noncomputable def fH (o:wO):List Int:=o.map (·.1)
theorem yu (o:wO)(k:Int):fH (gp o k)=if k∈fH o then fH o else fH o++[k]:=by
 unfold gp fH;by_cases h:k∈o.map (·.1)
 .have h':o.any (λp=>decide (p.1=k))=true:=by
   obtain⟨p,hp,e⟩:=bg.mp h;exact cS.mpr ⟨p,hp,decide_eq_true e⟩
  rw[if_pos h',if_pos h,br];apply cH;intro p _;simp only[Function.comp];split<;>rfl
 .have h':¬ o.any (λp=>decide (p.1=k))=true:=by
   intro z;obtain⟨p,hp,e⟩:=cS.mp z;exact h (bg.mpr ⟨p,hp,of_decide_eq_true e⟩)
  rw[if_neg h',if_neg h,bc];rfl
theorem Di (h:(fH o).Nodup):(fH (gp o k)).Nodup:=by
 rw[yu];split
 .exact h
 .rename_i hk
  rw[bU];refine⟨h,!4,λa ha b hb=>?_⟩;have:b=k:=by simpa using hb
  subst this;intro z;subst z;exact hk ha
theorem JP (o:wO)(k:Int):(gp o k).length<=o.length+1:=by
 unfold gp;split
 .simp
 .simp
theorem JQ (h:x∈fH (gp o k)):x=k\/x∈fH o:=by
 rw[yu] at h;split at h
 .exact .inr h
 .rcases aH.mp h with z | z
  .exact .inr z
  .exact .inl (by simpa using z)
theorem JR {o:wO}(h:(fH o).Nodup){i:Nat}{p:Int × Bool}(hp:o[i]? = some p):iz o p.1=p.2:=by
 induction o generalizing i with
 | nil=>cases hp
 | cons q o ih =>
  unfold fH at h;rw[am,bJ] at h
  cases i with
  | zero =>
   have:q=p:=by simpa using hp
   subst this;simp[iz]
  | succ i =>
   have F8:o[i]? = some p:=by simpa using hp
   have hm:p.1∈o.map (·.1):=bg.mpr ⟨p,bC F8,rfl⟩;have g6:¬ q.1=p.1:=λz=>h.1 (z ▸ hm);have:=ih h.2 F8;unfold iz at this ⊢;rw[bK];simp only[g6,decide_false];exact this
end Odj
open PySem
namespace Odj
theorem vO:∀{l1 l2:List Int},l1.Pairwise (· < ·)->l2.Pairwise (· < ·)->(∀k,k∈l1↔k∈l2)->l1=l2
 | [],[],_,_,_=>rfl
 | [],b::l2,_,_,h=>absurd ((h b).mpr (aq ..)) (!4)
 | a::l1,[],_,_,h=>absurd ((h a).mp (aq ..)) (!4)
 | a::l1,b::l2,h1,h2,h=>by
  obtain⟨q1,r1⟩:=bZ.mp h1;obtain⟨q2,r2⟩:=bZ.mp h2
  have e:a=b:=by
   rcases al.mp ((h a).mp (aq ..)) with z | z
   .exact z
   .rcases al.mp ((h b).mpr (aq ..)) with y | y
    .exact y.symm
    .have:=q2 a z
     have:=q1 b y;omega
  subst e;rw[vO r1 r2 λk=>?_];constructor
  .intro hk
   rcases al.mp ((h k).mp (ao _ hk)) with z | z
   .have:=q1 k hk
    omega
   .exact z
  .intro hk
   rcases al.mp ((h k).mpr (ao _ hk)) with z | z
   .have:=q2 k hk
    omega
   .exact z
noncomputable def Dj (row ns:List Int):Prop:=ns.Pairwise (· < ·)/\∀k,k∈ns↔row.count k % 2=1
end Odj
namespace Odj
open PySem L2
noncomputable def iA (row:List Int):List Int:=kN (row.filter λk=>decide (row.count k % 2=1))
noncomputable def jw:UF:=λds n Q _=>match ds with
 | [.list es]=>mD (eV es) λrow=>((jP row).length<=60/\row.length<=100000)/\Q (.tuple ((iA row).map .int)) n
 | [.tuple es]=>mD (eV es) λrow=>((jP row).length<=60/\row.length<=100000)/\Q (.tuple ((iA row).map .int)) n
 | _=>False
noncomputable def K':List Str:=["NoWalk"]
noncomputable def M1:List Str:=["JoinError", "NoWalk"]
noncomputable def FL (c:Str):List Str:=(([("NoWalk",["number"])]:List (Str × List Str)).lookup c).getD []
noncomputable abbrev XC (cl:Str->Addr):Xc:=⟨cl,FL⟩
noncomputable def pD:US:=(dW (ig (kL "int" (di 0)) (Eo (kL "bool" (di 0)))))
noncomputable def jy:UF:=iX 1 1 (λ_=>pD)
noncomputable def lK:US:=(dW (ig (kL "tuple" (di 0)) (dB l9 (gM eB (dh (di 0) dm)) (di 1))))
noncomputable def gQ:UF:=iX 2 2 (λ_=>lK)
noncomputable def nU:US:=(dv (eQ (iu (dM (kL "tuple" (di 0)))) (dW (uC (.bool false))) d8)
 (dv (dS 1 (vm iK (uC (.int 1))))
 (dv (kJ (MI 0) (gO 2)
 (dv (eQ (lj (iu (dM (du jy (dh (dA 2) dm)))) (dM (dB Qu (di 2) (di 1)))) (dW (uC (.bool false))) d8)
 (dS 1 (dA 2))))
 (dW (uC (.bool true))))))
noncomputable def lx:UF:=iX 3 1 (λ_=>nU)
noncomputable def ja:US:=(dW (ig (du lx (dh (dA 0) dm)) (Qt (dB l9 (gM eB (dh (di 0) dm)) (uC (.int 0))) (dB RL (dB d7 (di 0) (vm iK (uC (.int 1)))) (di 1)))))
noncomputable def gr:UF:=iX 2 2 (λ_=>ja)
noncomputable def mQ:US:=(dW (dB l9 (qL (di 0)) (gM eB (dh (di 0) dm))))
noncomputable def kn:UF:=iX 1 1 (λ_=>mQ)
noncomputable def rY:US:=(dW (du gr (dh (dA 1) (dh (dB d7 (di 0) (uC (.int 0))) dm))))
noncomputable def oM:UF:=iX 2 2 (λ_=>rY)
noncomputable def vP:US:=(dW (du gr (dh (dA 1) (dh (gM eB (dh (dB d7 (di 0) (uC (.int 1))) dm)) dm))))
noncomputable def qR:UF:=iX 2 2 (λ_=>vP)
noncomputable def j3:US:=(dW (du qR (dh (dA 0) (dh (eG (dh (dA 1) dm)) dm))))
noncomputable def iF:UF:=iX 2 2 (λ_=>j3)
noncomputable def pE:US:=(dW (du jw (dh (dB fw (di 0) (di 1)) dm)))
noncomputable def iL:UF:=iX 2 2 (λ_=>pE)
noncomputable def pF:US:=(dW (Jm (AZ (gM eB (dh (dB d7 (di 0) (uC (.int 1))) dm)))))
noncomputable def kR:UF:=iX 1 1 (λ_=>pF)
noncomputable def pG:US:=(dW (gM o7 (dh (uL (ff (vx (di 1)) [none,some 0] (gO 0) nE (dB d7 (dB d7 (dB d7 (di 1) (uC (.int 1))) (di 0)) (uC (.int 2))))) dm)))
noncomputable def kS:UF:=iX 2 2 (λ_=>pG)
noncomputable def vQ:US:=(dW (gM fX (dh (uL (ff (MJ (dB d7 (di 0) (uC (.int 1)))) [none,none,some 1] (Hd [(gO 0),(gO 1)]) (dM (dB yg (dB inD (dB d7 (di 1) (uC (.int 0))) (di 2)) (dB inD (dB d7 (di 1) (uC (.int 1))) (di 2)))) (dA 0))) dm)))
noncomputable def qS:UF:=iX 2 2 (λ_=>vQ)
noncomputable def nV:US:=(dW (gM fX (dh (uL (ff (MJ (di 0)) [none,none,some 1] (Hd [(gO 1),(gO 0)]) (dM (dB l9 (di 0) (di 2))) (dA 1))) dm)))
noncomputable def jR:UF:=iX 2 2 (λ_=>nV)
noncomputable def pH:US:=(dv (dS 1 (uL (AZ (dB d7 (di 0) (uC (.int 0))))))
 (dv (kJ (Jd (dB d7 (di 0) (uC (.int 1)))) (gO 2)
 (dv (dS 3 (gM sY (dh (dB d7 (di 1) (dB d7 (di 2) (uC (.int 0)))) (dh (dB d7 (di 1) (dB d7 (di 2) (uC (.int 1)))) dm))))
 (dv (dS 4 (gM sZ (dh (dB d7 (di 1) (dB d7 (di 2) (uC (.int 0)))) (dh (dB d7 (di 1) (dB d7 (di 2) (uC (.int 1)))) dm))))
 (dS 1 (uL (ff (vx (di 1)) [none,some 3,some 4] (gO 0) nE (MB (dM (dB l9 (di 0) (di 2))) (dA 1) (dA 0))))))))
 (dW (gM fX (dh (uL (ff (vx (uL (rV (di 1)))) [none,some 1] (gO 0) nE (du jR (dh (dA 1) (dh (dA 0) dm))))) dm)))))
noncomputable def mR:UF:=iX 5 1 (λ_=>pH)
noncomputable def nW:US:=(dW (MB (dM (dB l9 (dB d7 (di 0) (uC (.int 0))) (di 1))) (dB d7 (di 0) (uC (.int 1))) (dB d7 (di 0) (uC (.int 0)))))
noncomputable def gH:UF:=iX 2 2 (λ_=>nW)
noncomputable def rZ:US:=(dW (ig (du iF (dh (dA 0) (dh (dA 2) dm))) (dB inD (di 1) (mE (dB d7 (dB d7 (di 0) (uC (.int 1))) (di 2)) ku (j2 (uC (.int 2)))))))
noncomputable def kA:UF:=iX 3 3 (λ_=>rZ)
noncomputable def iG (Ex:XQ):US:=(dv (eQ (iu (dM (kL "tuple" (di 2)))) (vz Ex "NoWalk" (dh (vm iK (uC (.int 1))) dm)) d8)
 (dv (nD 3 (dh (dA 1) dm))
 (dv (kJ (Uq (dA 2)) (Hd [(gO 4),(gO 5)])
 (dv (eQ (iu (dM (du kA (dh (dA 0) (dh (dB d7 (di 3) (vm iK (uC (.int 1)))) (dh (dA 5) dm)))))) (vz Ex "NoWalk" (dh (dA 4) dm)) d8)
 (kf 3 gV (dh (du gH (dh (dB d7 (dB d7 (di 0) (uC (.int 1))) (di 5)) (dh (dB d7 (di 3) (vm iK (uC (.int 1)))) dm))) dm))))
 (qJ 3))))
noncomputable def gm:UF:=iX 6 3 (iG)
noncomputable def kT:US:=(dv (eQ (lj (iu (dM (du gQ (dh (dA 1) (dh (uC (.int 2)) dm))))) (iu (dM (du jy (dh (dB d7 (di 1) (uC (.int 0))) dm))))) (dW (uC .none)) d8)
 (dv (Jq 2 gm "NoWalk" K' (dh (dA 0) (dh (dB d7 (di 1) (uC (.int 0))) (dh (dB d7 (di 1) (uC (.int 1))) dm)))
 (dW (uC .none)))
 (dW (MB (dM (dB l9 (dB d7 (di 2) (vm iK (uC (.int 1)))) (dB d7 (di 2) (uC (.int 0))))) (dA 2) (uC .none)))))
noncomputable def jb:UF:=iX 3 2 (λ_=>kT)
noncomputable def pI:US:=(dv (dS 2 (du jb (dh (dA 0) (dh (dA 1) dm))))
 (dW (ig (dB MD (di 2) (uC .none)) (ig (dB CZ (gM eB (dh (di 2) dm)) (uC (.int 1))) (du kn (dh (dB d7 (di 1) (uC (.int 1))) dm))))))
noncomputable def mS:UF:=iX 3 2 (λ_=>pI)
noncomputable def nX:US:=(dW (du kS (dh (dA 0) (dh (du qS (dh (dA 0) (dh (dA 1) dm))) dm))))
noncomputable def ly:UF:=iX 2 2 (λ_=>nX)
noncomputable def r9:US:=(dW (dB vn (du kS (dh (dA 0) (dh (du kR (dh (dA 0) dm)) dm))) (du ly (dh (dA 0) (dh (dA 1) dm)))))
noncomputable def oN:UF:=iX 2 2 (λ_=>r9)
noncomputable def lL:US:=(dv (nD 2 (dh (dB d7 (dB d7 (dB d7 (di 0) (uC (.int 1))) (dB d7 (di 1) (uC (.int 0)))) (uC (.int 0))) dm))
 (dv (nD 3 dm)
 (dv (pw (dM (dB vp (dB d7 (di 2) (vm iK (uC (.int 1)))) (mE (di 2) ku (j2 (vm iK (uC (.int 1)))))))
 (dv (dS 4 (dB d7 (uL (ff (vx (di 1)) [none,some 3,some 0,some 2] (gO 0) (mN (dM (dB vp (di 0) (di 1))) (dM (du kA (dh (dA 2) (dh (dB d7 (di 3) (vm iK (uC (.int 1)))) (dh (dA 0) dm)))))) (dA 0))) (uC (.int 0))))
 (dv (kf 3 gV (dh (dA 4) dm))
 (kf 2 gV (dh (du gH (dh (dB d7 (dB d7 (di 0) (uC (.int 1))) (di 4)) (dh (dB d7 (di 2) (vm iK (uC (.int 1)))) dm))) dm)))))
 (dv (dS 5 (QP (di 2) (dB d7 (di 2) (vm iK (uC (.int 1))))))
 (dW (eG (dh (dB d7 (di 2) (vm iK (uC (.int 1)))) (dh (gM fX (dh (mE (di 3) (j2 (dA 5)) ku) dm)) dm))))))))
noncomputable def jH:UF:=iX 6 2 (λ_=>lL)
noncomputable def pJ:US:=(dv (nD 2 dm)
 (dv (dS 3 (uL (yj (di 1))))
 (dv (pw (dM (dB CZ (gM eB (dh (di 3) dm)) (uC (.int 0))))
 (dv (dS 4 (du jH (dh (dA 0) (dh (dA 3) dm))))
 (dv (kf 2 gV (dh (dA 4) dm))
 (dS 3 (uL (ff (vx (di 3)) [none,some 4] (gO 0) (dM (dB vp (di 0) (dB d7 (di 1) (uC (.int 1))))) (dA 0)))))))
 (dW (gM fX (dh (di 2) dm))))))
noncomputable def mT:UF:=iX 5 2 (λ_=>pJ)
noncomputable def nY:US:=(dv (JK 1 false)
 (dv (kJ (Jd (du mR (dh (dA 0) dm))) (gO 2)
 (yr 1 (dB d7 (di 2) (uC (.int 0))) (eG dm)))
 (dv (dS 3 (uC (.bool true)))
 (dv (pw (dM (dA 3))
 (dv (dS 3 (uC (.bool false)))
 (kJ (Uq (dB d7 (di 0) (uC (.int 1)))) (Hd [(gO 4),(gO 5)])
 (eQ (dM (dB yg (zL 1 (dB d7 (di 5) (uC (.int 0)))) (zL 1 (dB d7 (di 5) (uC (.int 1)))))) (dv (dS 6 (MB (dM (zL 1 (dB d7 (di 5) (uC (.int 0))))) (dB d7 (di 5) (uC (.int 0))) (dB d7 (di 5) (uC (.int 1)))))
 (dv (yr 1 (du gH (dh (dA 5) (dh (dA 6) dm))) (du iL (dh (Bi 1 (di 6)) (dh (eG (dh (dA 4) dm)) dm))))
 (dS 3 (uC (.bool true))))) d8))))
 (qJ 1)))))
noncomputable def jS:UF:=iX 7 1 (λ_=>nY)
noncomputable def mU:US:=(dv (dS 2 (uL (ff (MJ (dB d7 (di 0) (uC (.int 1)))) [none,none,some 1] (Hd [(gO 0),(gO 1)]) nE (du iL (dh (eG (dh (dA 0) dm)) (dh (du iL (dh (yt (di 2) (dB d7 (di 1) (uC (.int 0)))) (dh (yt (di 2) (dB d7 (di 1) (uC (.int 1)))) dm))) dm))))))
 (dW (uL (ff (vx (di 2)) [none] (gO 0) (dM (dB yg (di 0) (eG dm))) (dA 0)))))
noncomputable def ko:UF:=iX 3 2 (λ_=>mU)
noncomputable def sd:US:=(dv (dS 2 (du jS (dh (dA 0) dm)))
 (dW (gM fX (dh (uL (ff (FT (dB d7 (di 0) (uC (.int 0)))) [none,some 2,some 1] (gO 0) (dM (dB l9 (dB vo (gM eB (dh (uL (ff (vx (yt (di 1) (di 0))) [none,some 2] (gO 0) (dM (dB inD (di 0) (di 1))) (dA 0))) dm)) (uC (.int 2))) (uC (.int 1)))) (dA 0))) dm))))
noncomputable def oO:UF:=iX 3 2 (λ_=>sd)
noncomputable def jc:US:=(dW (ig (du gQ (dh (dA 2) (dh (uC (.int 2)) dm))) (ig (dB l9 (dB d7 (di 2) (uC (.int 0))) (di 1)) (du oM (dh (dA 0) (dh (dB d7 (di 2) (uC (.int 1))) dm))))))
noncomputable def gE:UF:=iX 3 3 (λ_=>jc)
noncomputable def se:US:=(dv (dS 2 (gM fX (dh (uL (ff (FT (gM eB (dh (dB d7 (di 0) (uC (.int 1))) dm))) [none,some 1] (gO 0) (dM (dB vp (di 0) (di 1))) (dA 0))) dm)))
 (dW (eG (dh (eG (dh (dB d7 (di 0) (uC (.int 0))) (dh (gM fX (dh (uL (ff (vx (di 2)) [none,some 0] (gO 0) nE (dB d7 (dB d7 (di 1) (uC (.int 1))) (di 0)))) dm)) dm))) (dh (dA 2) dm)))))
noncomputable def oP:UF:=iX 3 2 (λ_=>se)
noncomputable def lM:US:=(dv (dS 1 (uL (ff (MJ (dB d7 (di 0) (uC (.int 1)))) [none,none] (Hd [(gO 0),(gO 1)]) (dM (dB l9 (dB d7 (di 1) (uC (.int 2))) (uC (.int 0)))) (dA 0))))
 (dv (dS 2 (du oP (dh (dA 0) (dh (dA 1) dm))))
 (dv (dS 3 (uL (ff (vx (du ko (dh (dB d7 (di 2) (uC (.int 0))) (dh (du jS (dh (dB d7 (di 2) (uC (.int 0))) dm)) dm)))) [none] (gO 0) (dM (dB l9 (dB vo (gM eB (dh (di 0) dm)) (uC (.int 2))) (uC (.int 1)))) (dA 0))))
 (dv (eQ (dM (dB l9 (gM eB (dh (di 3) dm)) (uC (.int 0)))) (dW (eG (dh (uC (.str "halves")) (dh (du oO (dh (dB d7 (di 2) (uC (.int 0))) (dh (du kR (dh (dB d7 (di 2) (uC (.int 0))) dm)) dm))) dm)))) d8)
 (dv (dS 4 (dB d7 (du mT (dh (dB d7 (di 2) (uC (.int 0))) (dh (dB d7 (di 3) (uC (.int 0))) dm))) (uC (.int 0))))
 (dW (eG (dh (uC (.str "odd")) (dh (dB d7 (di 4) (uC (.int 0))) (dh (gM fX (dh (uL (ff (vx (dB d7 (di 4) (uC (.int 1)))) [none,some 2] (gO 0) nE (dB d7 (dB d7 (di 1) (uC (.int 1))) (di 0)))) dm)) dm))))))))))
noncomputable def iB:UF:=iX 5 1 (λ_=>lM)
noncomputable def iC:US:=(dv (eQ (dM (du gE (dh (dA 0) (dh (uC (.str "halves")) (dh (dA 1) dm))))) (dW (dB l9 (du oN (dh (dA 0) (dh (dB d7 (di 1) (uC (.int 1))) dm))) (uC (.int 0)))) d8)
 (dv (eQ (lj (iu (dM (du gQ (dh (dA 1) (dh (uC (.int 3)) dm))))) (lj (dM (dB yg (dB d7 (di 1) (uC (.int 0))) (uC (.str "odd")))) (iu (dM (du mS (dh (dA 0) (dh (mE (di 1) (j2 (uC (.int 1))) ku) dm))))))) (dW (uC (.bool false))) d8)
 (dW (ig (dB l9 (dB vo (gM eB (dh (dB d7 (di 1) (uC (.int 2))) dm)) (uC (.int 2))) (uC (.int 1))) (gM Jo (dh (uL (ff (vx (dB d7 (di 1) (uC (.int 2)))) [none,some 0] (gO 0) nE (dB CZ (dB d7 (dB d7 (dB d7 (di 1) (uC (.int 1))) (di 0)) (uC (.int 2))) (uC (.int 0))))) dm))))))
noncomputable def dU:UF:=iX 2 2 (λ_=>iC)
noncomputable def nZ:US:=(dW (dB d7 (uL (dh (uC (.int 0)) (dh (uC (.int 1)) (dh (uC (.int 2)) (dh (uC (.int 3)) (dh (dB fw (uC (.int 1)) (du fG (dh (uC (.int 9)) dm))) (dh (du fG (dh (uC (.int 100)) dm)) dm))))))) (du fG (dh (uC (.int 6)) dm))))
noncomputable def lz:UF:=g9 1 1 (λ_=>nZ)
noncomputable def sf:US:=(dv (dS 3 (dB fw (uC (.int 1)) (du fG (dh (dA 1) dm))))
 (dv (nD 4 dm)
 (dv (kJ (MK (dB rR (du fG (dh (dB fw (di 2) (uC (.int 1))) dm)) (gM intD (dh (dB CZ (di 3) (uC (.int 1))) dm)))) (gO 5)
 (dv (dS 6 (du fG (dh (dA 3) dm)))
 (dv (dS 7 (dB vo (dB fw (dB fw (di 6) (uC (.int 1))) (du fG (dh (dB vn (di 3) (uC (.int 1))) dm))) (di 3)))
 (kf 4 gV (dh (eG (dh (gM sY (dh (di 6) (dh (di 7) dm))) (dh (gM sZ (dh (di 6) (dh (di 7) dm))) (dh (du lz dm) dm)))) dm)))))
 (dW (eG (dh (dA 3) (dh (gM fX (dh (di 4) dm)) dm)))))))
noncomputable def oQ:UF:=g9 8 3 (λ_=>sf)
noncomputable def sg:US:=(dv (dS 2 (uL (dh (uC .none) (dh (uC (.bool true)) (dh (uC (.bool false)) (dh (vm iK (uC (.int 1))) (dh (uC (.int 0)) (dh (uC (.int 1)) (dh (uC (.int 2)) (dh (uC (.int 7)) (dh (dB IW (uC (.int 10)) (uC (.int 39))) (dh (uC (.str "")) (dh (uC (.str "cut")) (dh (uC (.str "odd")) (dh (eG dm) (dh (uL dm) (dh (eG (dh (uC (.int 0)) dm)) (dh (eG (dh (uC (.int 0)) (dh (uC (.int 1)) dm))) (dh (eG (dh (uC (.int 1)) (dh (uC (.int 0)) dm))) dm)))))))))))))))))))
 (dv (dS 2 (dB fw (di 2) (uL (dh (eG (dh (uC (.bool true)) dm)) (dh (eG (dh (eG (dh (uC (.int 0)) dm)) dm)) dm)))))
 (FU (eQ (dM (kL "tuple" (di 1))) (dS 2 (dB fw (di 2) (dB rR (uL (dh (uL (yj (di 1))) (dh (dB fw (di 1) (eG (dh (uC (.int 0)) dm))) (dh (mE (di 1) ku (j2 (vm iK (uC (.int 1))))) (dh (mE (di 1) (j2 (uC (.int 1))) ku) (dh (dB fw (di 1) (mE (di 1) ku (j2 (uC (.int 1))))) (dh (eG (dh (dA 1) dm)) (dh (vm JE (di 1)) dm)))))))) (uC (.int 5))))) d8)
 (FU (eQ (mN (dM (kL "int" (di 1))) (iu (dM (kL "bool" (di 1))))) (dS 2 (dB fw (di 2) (dB rR (uL (dh (dB fw (di 1) (uC (.int 1))) (dh (dB vn (di 1) (uC (.int 1))) (dh (dB rR (di 1) (uC (.int 2))) dm)))) (uC (.int 5))))) d8)
 (dW (dB d7 (di 2) (du fG (dh (gM eB (dh (di 2) dm)) dm))))))))
noncomputable def mj:UF:=g9 3 2 (λ_=>sg)
noncomputable def pK (Rc:UF):US:=(FU (eQ (lj (iu (dM (kL "tuple" (di 1)))) (lj (dM (dB l9 (gM eB (dh (di 1) dm)) (uC (.int 0)))) (lj (dM (dB l9 (di 2) (uC (.int 0)))) (dM (dB l9 (du fG (dh (uC (.int 6)) dm)) (uC (.int 0))))))) (dW (du mj (dh (dA 1) dm))) d8)
 (dv (dS 3 (du fG (dh (gM eB (dh (di 1) dm)) dm)))
 (dW (dB fw (dB fw (mE (di 1) ku (j2 (dA 3))) (eG (dh (du Rc (dh (dB d7 (di 1) (di 3)) (dh (dB vn (di 2) (uC (.int 1))) dm))) dm))) (mE (di 1) (j2 (dB fw (di 3) (uC (.int 1)))) ku)))))
noncomputable def pL (Rc:UF):UF:=g9 4 3 (λ_=>pK Rc)
noncomputable def jT:Nat->UF
 | 0=>UN
 | d+1=>pL (jT d)
noncomputable def jz:UF:=jT 10
noncomputable def n6:US:=(dW (ig (kL "int" (di 0)) (ig (Eo (kL "bool" (di 0))) (Qs Qu RL (uC (.int 0)) (di 0) (di 1)))))
noncomputable def hZ:UF:=iX 2 2 (λ_=>n6)
noncomputable def sh:US:=(dv (eQ (lj (iu (dM (kL "tuple" (di 1)))) (lj (dM (dB l9 (gM eB (dh (di 1) dm)) (uC (.int 0)))) (iu (dM (kL "str" (dB d7 (di 1) (uC (.int 0)))))))) (dW (uC (.bool false))) d8)
 (dv (eQ (mN (dM (dB l9 (dB d7 (di 1) (uC (.int 0))) (uC (.str "halves")))) (mN (dM (dB l9 (gM eB (dh (di 1) dm)) (uC (.int 2)))) (dM (kL "tuple" (dB d7 (di 1) (uC (.int 1))))))) (dv (dS 2 (dB d7 (di 1) (uC (.int 1))))
 (dv (eQ (lj (dM (dB inD (uC (.bool false)) (uL (ff (vx (di 2)) [none,some 0] (gO 0) nE (du hZ (dh (dA 0) (dh (dB d7 (di 1) (uC (.int 0))) dm))))))) (dM (dB yg (uL (rV (di 2))) (uL (yj (di 2)))))) (dW (uC (.bool false))) d8)
 (dW (dB l9 (uL (ff (vx (dB d7 (di 0) (uC (.int 1)))) [none,some 2] (gO 0) (mN (dM (dB CZ (dB d7 (di 0) (uC (.int 2))) (uC (.int 0)))) (dM (dB l9 (dB inD (dB d7 (di 0) (uC (.int 0))) (di 1)) (dB inD (dB d7 (di 0) (uC (.int 1))) (di 1))))) (dA 0))) (uL dm))))) d8)
 (dv (eQ (lj (dM (dB yg (dB d7 (di 1) (uC (.int 0))) (uC (.str "odd")))) (lj (dM (dB yg (gM eB (dh (di 1) dm)) (uC (.int 3)))) (lj (iu (dM (du hZ (dh (dB d7 (di 1) (uC (.int 1))) (dh (dB d7 (di 0) (uC (.int 0))) dm))))) (iu (dM (kL "tuple" (dB d7 (di 1) (uC (.int 2))))))))) (dW (uC (.bool false))) d8)
 (dv (dS 3 (dB d7 (di 1) (uC (.int 1))))
 (dv (kJ (Jd (dB d7 (di 1) (uC (.int 2)))) (gO 4)
 (dv (eQ (lj (iu (dM (du hZ (dh (dA 4) (dh (gM eB (dh (dB d7 (di 0) (uC (.int 1))) dm)) dm))))) (lj (dM (dB vp (di 3) (mE (dB d7 (dB d7 (di 0) (uC (.int 1))) (di 4)) ku (j2 (uC (.int 2)))))) (dM (dB l9 (dB d7 (dB d7 (dB d7 (di 0) (uC (.int 1))) (di 4)) (uC (.int 2))) (uC (.int 0)))))) (dW (uC (.bool false))) d8)
 (dS 3 (dB vn (gM o7 (dh (mE (dB d7 (dB d7 (di 0) (uC (.int 1))) (di 4)) ku (j2 (uC (.int 2)))) dm)) (di 3)))))
 (dW (ig (dB l9 (di 3) (dB d7 (di 1) (uC (.int 1)))) (ig (dB l9 (dB vo (gM eB (dh (dB d7 (di 1) (uC (.int 2))) dm)) (uC (.int 2))) (uC (.int 1))) (dB l9 (qL (dB d7 (di 1) (uC (.int 2)))) (gM eB (dh (dB d7 (di 1) (uC (.int 2))) dm)))))))))))
noncomputable def iQ:UF:=iX 5 2 (λ_=>sh)
noncomputable def pM:US:=(dv (dS 2 (dB l9 (du fG (dh (uC (.int 2)) dm)) (uC (.int 0))))
 (dv (dS 3 (du fG (dh (dB d7 (di 1) (uC (.int 0))) dm)))
 (dv (dS 4 (dA 3))
 (dv (dS 5 (eG dm))
 (dv (kJ (MK (dB fw (uC (.int 1)) (du fG (dh (uC (.int 7)) dm)))) (gO 6)
 (dv (dS 7 (uL (ff (FT (gM eB (dh (dB d7 (di 1) (uC (.int 1))) dm))) [none,some 4,some 1] (gO 0) (dM (dB inD (di 1) (mE (dB d7 (dB d7 (di 2) (uC (.int 1))) (di 0)) ku (j2 (uC (.int 2)))))) (dA 0))))
 (eQ (mN (dM (dB yg (di 7) (uL dm))) (lj (dM (dA 2)) (lj (dM (dB l9 (di 5) (eG dm))) (dM (dB yg (di 4) (di 3)))))) (dv (dS 5 (dB fw (di 5) (eG (dh (dB d7 (di 7) (du fG (dh (gM eB (dh (di 7) dm)) dm))) dm))))
 (dS 4 (dB vn (gM o7 (dh (mE (dB d7 (dB d7 (di 1) (uC (.int 1))) (dB d7 (di 5) (vm iK (uC (.int 1))))) ku (j2 (uC (.int 2)))) dm)) (di 4)))) d8)))
 (dW (eG (dh (uC (.str "odd")) (dh (dA 3) (dh (dA 5) dm))))))))))
noncomputable def kU:UF:=g9 8 2 (λ_=>pM)
noncomputable def lO:US:=(dv (dS 1 (dB fw (uC (.int 1)) (du fG (dh (uC (.int 9)) dm))))
 (dv (dS 2 (eG (dh (uC (.int 4)) (dh (eG (dh (eG (dh (uC (.int 0)) (dh (uC (.int 1)) (dh (dA 1) dm)))) (dh (eG (dh (uC (.int 0)) (dh (uC (.int 1)) (dh (uC (.int 1)) dm)))) (dh (eG (dh (uC (.int 0)) (dh (uC (.int 2)) (dh (dA 1) dm)))) (dh (eG (dh (uC (.int 0)) (dh (uC (.int 3)) (dh (uC (.int 2)) dm)))) (dh (eG (dh (uC (.int 2)) (dh (uC (.int 3)) (dh (uC (.int 1)) dm)))) dm)))))) dm))))
 (dv (dS 3 (dB d7 (uL (dh (eG (dh (uC (.int 0)) (dh (uC (.int 1)) (dh (uC (.int 2)) (dh (uC (.int 4)) (dh (uC (.int 3)) dm)))))) (dh (eG (dh (uC (.int 3)) (dh (uC (.int 4)) (dh (uC (.int 2)) (dh (uC (.int 1)) (dh (uC (.int 0)) dm)))))) (dh (eG (dh (uC (.int 2)) (dh (uC (.int 4)) (dh (uC (.int 3)) (dh (uC (.int 0)) (dh (uC (.int 1)) dm)))))) dm)))) (du fG (dh (uC (.int 3)) dm))))
 (dv (eQ (lj (dM (dB Be (du dU (dh (dA 2) (dh (eG (dh (uC (.str "odd")) (dh (uC (.int 0)) (dh (dA 3) dm)))) dm))) (uC (.bool true)))) (dM (dB Bg (du dU (dh (dA 2) (dh (eG (dh (uC (.str "odd")) (dh (uC (.int 0)) (dh (mE (di 3) ku (j2 (uC (.int 2)))) dm)))) dm))) (uC (.bool false))))) (dW (uC (.bool false))) d8)
 (dW (dB F5 (du dU (dh (dA 2) (dh (eG (dh (uC (.str "odd")) (dh (uC (.int 0)) (dh (dB fw (mE (di 3) (j2 (uC (.int 1))) ku) (mE (di 3) ku (j2 (uC (.int 1))))) dm)))) dm))) (uC (.bool false))))))))
noncomputable def jI:UF:=g9 4 1 (λ_=>lO)
noncomputable def kW:US:=(dv (dS 2 (du fG (dh (gM yp (dh (di 1) dm)) dm)))
 (dv (dS 3 (uC (.str "abcdefghijklmnopqrstuvwxyzADHO _")))
 (dv (dS 4 (QR (di 3) (du fG (dh (gM yp (dh (di 3) dm)) dm))))
 (dv (dS 5 (uL (dh (dB fw (dB fw (vL (di 1) ku (j2 (dA 2))) (di 4)) (vL (di 1) (j2 (dA 2)) ku)) (dh (dB fw (di 1) (di 4)) (dh (dB fw (vL (di 1) ku (j2 (dA 2))) (vL (di 1) (j2 (dB fw (di 2) (uC (.int 1)))) ku)) (dh (dB fw (dB fw (vL (di 1) ku (j2 (dA 2))) (di 4)) (vL (di 1) (j2 (dB fw (di 2) (uC (.int 1)))) ku)) dm))))))
 (dW (dB d7 (dB fw (di 5) (uL (dh (dB fw (vL (di 1) (j2 (dA 2)) ku) (vL (di 1) ku (j2 (dA 2)))) (dh (JJ (di 1)) dm)))) (du fG (dh (uC (.int 6)) dm))))))))
noncomputable def jd:UF:=g9 6 2 (λ_=>kW)
noncomputable def n8:US:=(dv (kJ (MK (uC (.int 4))) (gO 3)
 (dv (dS 4 (dB d7 (di 2) (du fG (dh (gM eB (dh (di 2) dm)) dm))))
 (dv (dS 5 (dB fw (eG (dh (du jd (dh (dB d7 (di 4) (uC (.int 0))) dm)) dm)) (mE (di 4) (j2 (uC (.int 1))) ku)))
 (kJ (Jd (uL (dh (dA 5) (dh (dA 4) (dh (du jz (dh (du jz (dh (dA 4) (dh (uC (.int 4)) dm))) (dh (uC (.int 4)) dm))) (dh (dA 4) dm)))))) (gO 6)
 (eQ (dM (dB xj (iP (du dU (dh (dA 1) (dh (dA 6) dm)))) (iP (du iQ (dh (dA 1) (dh (dA 6) dm)))))) (dW (uC (.bool false))) d8)))))
 (dW (uC (.bool true))))
noncomputable def jU:UF:=g9 7 3 (λ_=>n8)
noncomputable def Bl:US:=(dv (eQ (iu (dM (du jI dm))) (dW (uC (.bool false))) d8)
 (dv (kJ (MK (uC (.int 3))) (gO 2)
 (dv (dS 3 (du oQ (dh (dB d7 (uL (dh (uC (.int 5)) (dh (uC (.int 9)) dm))) (dB vo (di 2) (uC (.int 2)))) (dh (dB d7 (uL (dh (uC (.int 7)) (dh (uC (.int 16)) dm))) (dB vo (di 2) (uC (.int 2)))) dm))))
 (dv (nD 4 (dh (du iB (dh (dA 3) dm)) (dh (uC .none) (dh (eG dm) (dh (eG (dh (uC (.str "halves")) dm)) (dh (eG (dh (uC (.str "odd")) (dh (uC (.int 0)) (dh (eG dm) dm)))) (dh (eG (dh (uC (.str "halves")) (dh (uC (.bool true)) dm))) (dh (eG (dh (uC (.str "odd")) (dh (uC (.bool true)) (dh (eG (dh (uC (.int 0)) dm)) dm)))) dm))))))))
 (dv (kf 4 gV (dh (eG (dh (uC (.str "halves")) (dh (gM fX (dh (uL (ff (FT (dB d7 (di 3) (uC (.int 0)))) [none,some 1] (gO 0) (dM (dB l9 (du fG (dh (uC (.int 2)) dm)) (uC (.int 0)))) (dA 0))) dm)) dm))) dm))
 (dv (nD 4 (MN (di 4) (uL (ff (FT (uC (.int 4))) [none,some 1,some 3] (gO 0) nE (du kU (dh (dA 2) dm))))))
 (dv (dS 5 (uL (ff (FT (uC (.int 8))) [none,some 1,some 4] (gO 0) nE (du jz (dh (dB d7 (di 2) (dB d7 (uL (dh (uC (.int 0)) (dh (uC (.int 7)) (dh (uC (.int 8)) (dh (uC (.int 9)) dm))))) (du fG (dh (uC (.int 4)) dm)))) (dh (uC (.int 4)) dm))))))
 (dv (nD 6 dm)
 (dv (kJ (Jd (dB fw (di 4) (di 5))) (gO 7)
 (dv (dS 8 (iP (eG (dh (dA 3) (dh (dA 7) dm)))))
 (dv (dS 9 (du iQ (dh (dA 3) (dh (dA 7) dm))))
 (dv (eQ (lj (dM (dB xj (iP (du dU (dh (dA 3) (dh (dA 7) dm)))) (iP (dA 9)))) (dM (dB xj (iP (eG (dh (dA 3) (dh (dA 7) dm)))) (di 8)))) (dW (uC (.bool false))) d8)
 (eQ (dM (dA 9)) (kf 6 gV (dh (dB d7 (di 7) (uC (.int 0))) dm)) d8)))))
 (eQ (mN (dM (dB inD (uC (.str "halves")) (di 6))) (dM (dB inD (uC (.str "odd")) (di 6)))) (dW (uC (.bool false))) d8)))))))))
 (dW (du jU (dh (dA 3) (dh (dB fw (mE (di 4) ku (j2 (uC (.int 1)))) (mE (di 4) (j2 (uC (.int 7))) ku)) dm))))))
noncomputable def top (i:Nat):Stmt:=PySem.Challenge.pw_oddjoins_k86_halves_of_any_thing.main.body.getD i (.Pass ⟨0,0,0,0⟩)
structure kB (mg:Str->Option af):Prop where
 all:mg "all" = none
 bool:mg "bool" = none
 enumerate:mg "enumerate" = none
 int:mg "int" = none
 isinstance:mg "isinstance" = none
 len:mg "len" = none
 list:mg "list" = none
 max:mg "max" = none
 min:mg "min" = none
 range:mg "range" = none
 repr:mg "repr" = none
 set:mg "set" = none
 sorted:mg "sorted" = none
 str:mg "str" = none
 sum:mg "sum" = none
 tuple:mg "tuple" = none
noncomputable abbrev N0:List Str:=["thing"]
noncomputable abbrev N1:List Str:=["thing", "count"]
noncomputable abbrev N2:List Str:=["thing", "ahead", "number"]
noncomputable abbrev N3:List Str:=["thing", "bound"]
noncomputable abbrev N4:List Str:=["numbers"]
noncomputable abbrev N7:List Str:=["web", "thing"]
noncomputable abbrev N8:List Str:=["one", "other"]
noncomputable abbrev N9:List Str:=["web"]
noncomputable abbrev RS:List Str:=["number", "web"]
noncomputable abbrev ZH:List Str:=["web", "some"]
noncomputable abbrev X1:List Str:=["number", "tie", "side"]
noncomputable abbrev VZ:List Str:=["web", "side"]
noncomputable abbrev ZI:List Str:=["least", "leasts"]
noncomputable abbrev X2:List Str:=["web", "leasts", "tie", "low", "high"]
noncomputable abbrev ZJ:List Str:=["least", "low", "high"]
noncomputable abbrev X3:List Str:=["own", "place", "least"]
noncomputable abbrev ZK:List Str:=["leasts", "least"]
noncomputable abbrev N19:List Str:=["tie", "place"]
noncomputable abbrev N20:List Str:=["web", "place", "thing"]
noncomputable abbrev N21:List Str:=["web", "start", "row", "places", "index", "thing"]
noncomputable abbrev ZL:List Str:=["web", "thing", "places"]
noncomputable abbrev ZM:List Str:=["number", "ring"]
noncomputable abbrev ZN:List Str:=["web", "even", "rings", "left", "ring"]
noncomputable abbrev ZO:List Str:=["number", "row", "web", "places"]
noncomputable abbrev ZP:List Str:=["web", "left", "places", "row", "step", "begin"]
noncomputable abbrev N27:List Str:=["web", "ways", "part", "grown", "number", "tie", "near"]
noncomputable abbrev V0:List Str:=["even"]
noncomputable abbrev X4:List Str:=["web", "ways", "evens"]
noncomputable abbrev X5:List Str:=["number", "tie", "ways"]
noncomputable abbrev X6:List Str:=["place", "ways", "some"]
noncomputable abbrev ZQ:List Str:=["tie", "some"]
noncomputable abbrev ZR:List Str:=["web", "some", "ways"]
noncomputable abbrev N34:List Str:=["web", "word", "thing"]
noncomputable abbrev X7:List Str:=["web", "some", "numbers"]
noncomputable abbrev ZS:List Str:=["number", "some"]
noncomputable abbrev ZT:List Str:=["number", "left"]
noncomputable abbrev V1:List Str:=["web", "noughts", "left", "odd", "ring"]
noncomputable abbrev X8:List Str:=["number", "tie"]
noncomputable abbrev N40:List Str:=["_law_feed_here"]
noncomputable abbrev N41:List Str:=["_law_feed_here", "_law_places", "_law_most", "_law_many", "_law_ties", "_law_k", "_law_one", "_law_other"]
noncomputable abbrev N42:List Str:=["_law_feed_here", "_law_part", "_law_some"]
noncomputable abbrev N43:List Str:=["_law_feed_here", "_law_part", "_law_deep", "_law_at"]
noncomputable abbrev N44:List Str:=["_law_thing", "_law_many"]
noncomputable abbrev ZU:List Str:=["_law_tie", "_law_side"]
noncomputable abbrev X9:List Str:=["_law_web_here", "_law_thing", "_law_side", "_law_here", "_law_number"]
noncomputable abbrev ZV:List Str:=["_law_place", "_law_web_here"]
noncomputable abbrev ZW:List Str:=["_law_number", "_law_here", "_law_web_here"]
noncomputable abbrev ZX:List Str:=["_law_feed_here", "_law_web_here", "_law_on", "_law_start", "_law_here", "_law_row", "_law_k", "_law_some"]
noncomputable abbrev N50:List Str:=["_law_feed_here", "_law_price_here", "_law_web_here", "_law_row"]
noncomputable abbrev N51:List Str:=["_law_feed_here", "_law_word", "_law_at", "_law_signs", "_law_sign", "_law_some"]
noncomputable abbrev N52:List Str:=["_law_feed_here", "_law_web_here", "_law_some", "_law_k", "_law_thing", "_law_worded", "_law_one"]
noncomputable abbrev ZY:List Str:=["_law_k", "_law_feed_here", "_law_things"]
noncomputable abbrev V2:List Str:=["_law_script", "_law_feed_here", "_law_turn", "_law_web_here", "_law_things", "_law_bent_here", "_law_words", "_law_thing", "_law_kept", "_law_due_here"]
noncomputable abbrev ZZ:List Str:=["_law_k", "_law_feed_here", "_law_web_here"]
noncomputable abbrev Z0:List Str:=["_law_place", "_law_feed_here"]
section
variable (P:aZ)(w:World)(K:W.Frag)(mg:Str->Option af)(base:Heap)(cl:Str->Addr)(Y:wN)
noncomputable abbrev mV:Prop:=dZ P w K mg base 1 "is_whole" ["thing"] (mF (XC cl) jy)
noncomputable abbrev iD:Prop:=dZ P w K mg base 1 "is_tuple_of" ["thing", "count"] (mF (XC cl) gQ)
noncomputable abbrev n9:Prop:=dZ P w K mg base 2 "is_rising" ["thing"] (mF (XC cl) lx)
noncomputable abbrev gW:Prop:=dZ P w K mg base 3 "is_rising_below" ["thing", "bound"] (mF (XC cl) gr)
noncomputable abbrev mW:Prop:=dZ P w K mg base 1 "are_unlike" ["numbers"] (mF (XC cl) kn)
noncomputable abbrev vR:Prop:=dZ P w K mg base 1 "odd_ones" ["row"] (mF (XC cl) jw)
noncomputable abbrev si:Prop:=dZ P w K mg base 4 "is_side" ["web", "thing"] (mF (XC cl) oM)
noncomputable abbrev vS:Prop:=dZ P w K mg base 4 "is_set" ["web", "thing"] (mF (XC cl) qR)
noncomputable abbrev j4:Prop:=dZ P w K mg base 5 "is_tie_number" ["web", "thing"] (mF (XC cl) iF)
noncomputable abbrev mY:Prop:=dZ P w K mg base 2 "by_turns" ["one", "other"] (mF (XC cl) iL)
noncomputable abbrev mZ:Prop:=dZ P w K mg base 1 "all_ties" ["web"] (mF (XC cl) kR)
noncomputable abbrev m6:Prop:=dZ P w K mg base 1 "price_of" ["web", "some"] (mF (XC cl) kS)
noncomputable abbrev vT:Prop:=dZ P w K mg base 1 "cut_of" ["web", "side"] (mF (XC cl) qS)
noncomputable abbrev pN:Prop:=dZ P w K mg base 2 "parts_of" ["web"] (mF (XC cl) mR)
noncomputable abbrev oa:Prop:=dZ P w K mg base 1 "places_of" ["leasts", "least"] (mF (XC cl) jR)
noncomputable abbrev jV:Prop:=dZ P w K mg base 1 "other_end" ["tie", "place"] (mF (XC cl) gH)
noncomputable abbrev oR:Prop:=dZ P w K mg base 6 "is_step" ["web", "place", "thing"] (mF (XC cl) kA)
noncomputable abbrev j5:Prop:=IE P w K mg base 7 "places_walked" ["web", "start", "row"] (mF (XC cl) gm)
noncomputable abbrev kX:Prop:=dZ P w K mg base 8 "places_round" ["web", "thing"] (mF (XC cl) jb)
noncomputable abbrev pO:Prop:=dZ P w K mg base 9 "is_round" ["web", "thing"] (mF (XC cl) mS)
noncomputable abbrev og:Prop:=dZ P w K mg base 2 "weight_of" ["web", "side"] (mF (XC cl) ly)
noncomputable abbrev sj:Prop:=dZ P w K mg base 3 "lack_of" ["web", "side"] (mF (XC cl) oN)
noncomputable abbrev pP:Prop:=dZ P w K mg base 8 "rings_of" ["web", "even"] (mF (XC cl) mT)
noncomputable abbrev lP:Prop:=dZ P w K mg base 7 "ring_within" ["web", "left"] (mF (XC cl) jH)
noncomputable abbrev lA:Prop:=dZ P w K mg base 3 "ways_home" ["web"] (mF (XC cl) jS)
noncomputable abbrev m7:Prop:=dZ P w K mg base 3 "base_rings" ["web", "ways"] (mF (XC cl) ko)
noncomputable abbrev sk:Prop:=dZ P w K mg base 4 "side_by" ["web", "some"] (mF (XC cl) oO)
noncomputable abbrev kY:Prop:=dZ P w K mg base 5 "is_side_kind" ["web", "word", "thing"] (mF (XC cl) gE)
noncomputable abbrev sm:Prop:=dZ P w K mg base 1 "rest_of" ["web", "some"] (mF (XC cl) oP)
noncomputable abbrev lQ:Prop:=dZ P w K mg base 9 "halves_told" ["web"] (mF (XC cl) iB)
noncomputable abbrev iE:Prop:=dZ P w K mg base 10 "lets_halves" ["web", "thing"] (mF (XC cl) dU)
noncomputable abbrev fU:Prop:=dZ P w K mg base 1 "_law_draw" ["_law_feed_here", "_law_many"] (nS Y fG)
noncomputable abbrev oh:Prop:=dZ P w K mg base 2 "_law_price" ["_law_feed_here"] (nS Y lz)
noncomputable abbrev so:Prop:=dZ P w K mg base 3 "_law_web" ["_law_feed_here", "_law_places", "_law_most"] (nS Y oQ)
noncomputable abbrev mn:Prop:=dZ P w K mg base 2 "_law_odd" ["_law_feed_here", "_law_part"] (nS Y mj)
noncomputable abbrev m8:Prop:=dZ P w K mg base 13 "_law_bent" ["_law_feed_here", "_law_part", "_law_deep"] (nS Y jz)
noncomputable abbrev oj:Prop:=dZ P w K mg base 1 "_law_whole" ["_law_thing", "_law_many"] (mF (XC cl) hZ)
noncomputable abbrev oS:Prop:=dZ P w K mg base 2 "_law_due" ["_law_web_here", "_law_thing"] (mF (XC cl) iQ)
noncomputable abbrev pQ:Prop:=dZ P w K mg base 2 "_law_walk" ["_law_feed_here", "_law_web_here"] (nS Y kU)
noncomputable abbrev lR:Prop:=dZ P w K mg base 11 "_law_passing" ["_law_feed_here"] (nS Y jI)
noncomputable abbrev kZ:Prop:=dZ P w K mg base 2 "_law_lettered" ["_law_feed_here", "_law_word"] (nS Y jd)
noncomputable abbrev om:Prop:=dZ P w K mg base 14 "_law_again" ["_law_feed_here", "_law_web_here", "_law_some"] (nS Y jU)
end
end Odj
namespace L2
open PySem PySem.Spec PyProof.Rows
theorem kl.f {H:Hp}{a:Addr}{kvs:List (Key × V)}{k:Str}{v:V}(e:H a=Option.some (.dK kvs))(h:iU kvs (.inr k)=some v):kl H a (.str k) (some v):=.inl ⟨kvs,.inr k,.inl e,rfl,h.symm⟩
theorem Ext.Q1 {S:List Addr}{H:Hp}{p:Addr}{o:HO}{kvs:List (Key × V)}(hp:p∈S)(h:H p=Option.some (.dK kvs)):Ext S H (eM H p o) :=
 ⟨λb u hb e=>by rw[dJ (λ(z:b=p)=>hb (by rw[z];exact hp))];exact e,λb xs e=>by rw[dJ (λz=>by rw[z,h] at e;cases e)];exact e⟩
theorem Ext.U5 {S:List Addr}{H0 H:Hp}{p:Addr}{o:HO}{kvs:List (Key × V)}(a:Ext S H0 H)(h0:H0 p=none)(h:H p=Option.some (.dK kvs)):Ext S H0 (eM H p o) :=
 ⟨λb u hb e=>by rw[dJ (λz=>by rw[z,h0] at e;cases e)];exact a.keep b u hb e,λb ys e=>by rw[dJ (λz=>by rw[z,h0] at e;cases e)];exact a.tup b ys e⟩
theorem gY.new {K:W.Frag}{H:Hp}{a p:Addr}{xs:List V}{o:HO}(h:gY K H a xs)(hp:H p=none):gY K (eM H p o) a xs:=by
 rcases h with h | h
 .refine .inl ?_
  rcases h with h | ⟨u,h⟩
  .exact .inl (by rw[dJ (eE h hp)];exact h)
  .exact .inr ⟨u,by rw[dJ (eE h hp)];exact h⟩
 .exact .inr h
noncomputable def X' (K:W.Frag):R2:=λx y H Q=>∃(a b:Addr) (ns:List Int),x=.ref a/\y=.ref b/\gY K H a (ns.map V.int)/\H b=some (.lst [])/\ad.canLayAll0 (ns.map ad.int)=true/\(ad.list (ns.map ad.int)).depth<=60/\Q (.bl (ad.eqv (.list (ns.map .int)) (.list []))) H
theorem Q5 {X:Cx}{k:Nat}(K:W.Frag)(hr:gi k X.A)(hk:X.K=K:=by rfl):kr X (compareOp .Eq) (X' K):=by
 subst hk;intro pins s σ H x y v u Q I rx ry h;obtain⟨a,b,ns,rfl,rfl,ha,hb,c1,d1,q⟩:=h;cases rx;obtain⟨its,rv,⟨o,n,e,hc,_,hd⟩,_⟩:=I.list ha;obtain⟨as,ra⟩:=dH.reads (S:=[]) I.hok c1 (.ints ns) rv;obtain⟨bs,rb⟩:=eF.reads (S:=[]) I.hok (d:=.list []) rfl (eF.lst hb (!4) .nil) ry;have Fl:=hr.units;exact SeqAt.compareEq_reads (.list e hc hd (by simpa using ra)) rb c1 rfl (!1) ⟨.bl _,H,I,rfl,q⟩
end L2
namespace Odj
open PySem L2
theorem Bm (ns:List Int):ad.canLayAll0 (ns.map ad.int)=true:=by
 induction ns with
 | nil=>rfl
 | cons n ns ih=>simpa [ad.canLayAll0,ad.canLay0] using ih
theorem Dk (ns:List Int):ad.depthAll (ns.map ad.int)=0:=by
 induction ns with
 | nil=>rfl
 | cons n ns ih=>simpa [ad.depthAll,ad.depth] using ih
noncomputable def gS (sa:Addr)(i c n:Int):List (Key × V):=[(.inr "cells",.ref sa),(.inr "at",.int i),(.inr "left",.int c),(.inr "turn",.int n)]
section
variable {H:Hp}{fa sa:Addr}{i c n m:Int}
theorem JS (e:H fa=some (.dK (gS sa i c n))):kl H fa (.str "cells") (some (.ref sa)):=.f e rfl
theorem EF (e:H fa=some (.dK (gS sa i c n))):kl H fa (.str "at") (some (.int i)):=.f e rfl
theorem uq (e:H fa=some (.dK (gS sa i c n))):kl H fa (.str "left") (some (.int c)):=.f e rfl
theorem EG (e:H fa=some (.dK (gS sa i c n))):kl H fa (.str "turn") (some (.int n)):=.f e rfl
theorem U6 (e:H fa=some (.dK (gS sa i c n))):qx H fa (.str "at") (.int m) (eM H fa (.dK (gS sa m c n))):=.inl ⟨_,.inr "at",e,rfl,by show 4<av;decide,rfl⟩
theorem EH (e:H fa=some (.dK (gS sa i c n))):qx H fa (.str "left") (.int m) (eM H fa (.dK (gS sa i m n))):=.inl ⟨_,.inr "left",e,rfl,by show 4<av;decide,rfl⟩
theorem M3 (e:H fa=some (.dK (gS sa i c n))):qx H fa (.str "turn") (.int m) (eM H fa (.dK (gS sa i c m))):=.inl ⟨_,.inr "turn",e,rfl,by show 4<av;decide,rfl⟩
end
structure jt (H:Hp) (fa sa:Addr) (n:Int):Prop where
 ex:∃(k:Int) (ns:List Int) (i c:Int),H fa=some (.dK (gS sa i c n))/\H sa=some (.lst ((k::ns).map V.int))/\0<=i
 ne:sa≠fa
 lo:0<=n
theorem jt.ext {S:List Addr}{H H':Hp}{fa sa:Addr}{n:Int}(f:jt H fa sa n)(x:Ext S H H')(h1:fa ∉ S)(h2:sa ∉ S):jt H' fa sa n:=by
 obtain⟨k,ns,i,c,e1,e2,e3⟩:=f.ex;exact⟨⟨k,ns,i,c,x.keep _ _ h1 e1,x.keep _ _ h2 e2,e3⟩,f.ne,f.lo⟩
theorem jt.put {H:Hp}{fa sa:Addr}{n:Int}(f:jt H fa sa n)(i c n':Int)(h:0<=n')(h0:0<=i):jt (eM H fa (.dK (gS sa i c n'))) fa sa n'/\Ext [fa] H (eM H fa (.dK (gS sa i c n'))):=by
 obtain⟨k,ns,i0,c0,e1,e2,_⟩:=f.ex;exact⟨⟨⟨k,ns,i,c,dG,by rw[dJ f.ne];exact e2,h0⟩,f.ne,h⟩,.Q1 (!4) e1⟩
noncomputable def tM:wN where
 jt:=jt
 ext:=λf x h1 h2=>f.ext x h1 h2
 fa:=λf=>let ⟨_,_,_,_,e,_⟩:=f.ex;by rw[e];simp
 sa:=λf=>let ⟨_,_,_,_,_,e,_⟩:=f.ex;by rw[e];simp
 nx:=λf φ=>let ⟨_,_,_,_,e,_⟩:=f.ex;by rw[e];simp
noncomputable abbrev Q6 (K:W.Frag):Sp:=uj tM K
noncomputable abbrev Q7:Sp:=Ez tM
theorem EI (k:Int)(ns:List Int){i:Int}(h0:0<=i)(h1:i<(((k::ns).map V.int).length:Nat)):∃z:Int,lV ((k::ns).map V.int) i=some (V.int z):=by
 obtain⟨v,hv,QC⟩:=PV (xs:=(k::ns).map V.int) h0 h1;rw[aB] at QC
 cases e:(k::ns)[i.toNat]? with
 | none=>rw[e] at QC;cases QC
 | some z=>rw[e] at QC;exact⟨z,by rw[hv];exact congrArg some (Option.some.inj QC).symm⟩
section
variable {P:aZ}{w:World}{K:W.Frag}{mg:Str->Option af}{base:Heap}{f:Addr}{fd:bq}
theorem Q8 (F:wK K "_law_feed" "_law_feed" (top 45) f fd)(hm:mg "_law_feed" = some (.ref f))(B:kB mg):dZ P w K mg base 1 "_law_feed" ["_law_script"] (Q6 K):=by
 refine⟨f,fd,?_,hm,F.kp,F.binds λ_ _ _ _ _ _ us hl=>by obtain⟨_,rfl⟩:=F1 hl;rfl⟩;have sc:fK ["_law_script"] ["_law_script"] (dw (top 45)):=RP;refine F.P8 sc (λvs H Q E h=>?_) (λfg A outer s H vs Q E hr h=>?_)
 .obtain⟨a,ns,rfl,_⟩:=h
  rfl
 .obtain⟨a,ns,rfl,hs0,q⟩:=h
  refine⟨_,(jG (pj (Mz (Eg gz (g7 Cn (f' (NS K) (by rfl) B.list (!3) (iI (u0 (Zk K) (qv 0) D6 (D7 gw)) fj)) (g7 HM (Cy (iI gw fj)) (f' rJ (by rfl) B.int (!3) (iI (ze (Q5 K hr) (qv 0) (Cy fj) (mH _)) fj)))) (Eg gz gw (Eg gz gw (Eg gz gw My)))) rfl rfl rfl (!2)))),?_⟩;intro fa Jk;have hs:gY K (eM H fa (.dK [])) a (ns.map V.int):=hs0.new Jk;have y0:Ext [] H (eM H fa (.dK [])):=.new Jk;have Z1:(eM H fa (.dK [])) fa=some (.dK []):=dG;generalize eM H fa (.dK [])=H0 at hs y0 Z1 ⊢;refine⟨_,rfl,63,rfl,a,_,rfl,hs,λp hp=>⟨p,_,rfl,.inl (gY.of dG),λl hl=>⟨by show 1<=av;decide,λp1 U7=>⟨_,rfl,bW _,λp2 NW=>⟨a,p2,ns,rfl,rfl,(((hs.new hp).new hl).new U7).new NW,dG,Bm ns,by simp[ad.depth,Dk],.inr ⟨_,rfl,?_⟩⟩⟩⟩⟩⟩
  obtain⟨cs,LD,K2,hc0⟩:∃cs:List Int,qg (ns.map V.int) none (some 63)=cs.map V.int/\cs.length<=63/\(cs=[]->ns=[]):=by
   refine⟨(ns.drop (HT.gZ (ns.map V.int).length 0 none)).take (HT.gZ (ns.map V.int).length (ns.map V.int).length (some 63) - HT.gZ (ns.map V.int).length 0 none),?_,?_,?_⟩
   .unfold qg
    rw[List.map_take,cJ]
   .rw[HT.qd,show (63:Int)=((63:Nat):Int) from rfl,HT.tX]
    simp only[bf];omega
   .rw[HT.qd,show (63:Int)=((63:Nat):Int) from rfl,HT.tX]
    cases ns with
    | nil=>intro _;rfl
    | cons z zs=>intro h;simp at h
  rw[LD] at hl U7 NW ⊢;have y1:Ext [] H0 (eM H0 p (.lst (cs.map V.int))):=.new hp;generalize eM H0 p (.lst (cs.map V.int))=Ha at y1 hl U7 NW ⊢;have Z2:Ext [] Ha (eM Ha l (.lst (cs.map V.int))):=.new hl;have ep:(eM Ha l (.lst (cs.map V.int))) l=some (.lst (cs.map V.int)):=dG;generalize eM Ha l (.lst (cs.map V.int))=H1 at Z2 ep U7 NW ⊢;have y2:Ext [] H1 (eM H1 p1 (.lst [.int 0])):=.new U7;have RC:(eM H1 p1 (.lst [.int 0])) p1=some (.lst [.int 0]):=dG;generalize eM H1 p1 (.lst [.int 0])=H2 at y2 RC NW ⊢;have y3:Ext [] H2 (eM H2 p2 (.lst [])):=.new NW;generalize eM H2 p2 (.lst [])=H3 at y3 ⊢;have z1:=y3.keep _ _ (!4) RC;have z0:=y3.keep _ _ (!4) (y2.keep _ _ (!4) ep);have y13:=((y1.trans Z2).trans y2).trans y3;generalize hb:ad.eqv (.list (ns.map .int)) (.list [])=b;have TL:ns=[]->b=true:=λz=>by rw[<- hb,z];rfl
  refine⟨p1,_,_,rfl,rfl,z1,by cases b<;>decide,by cases b<;>decide,by cases b<;>decide,λp3 hp3=>?_⟩;have y4:Ext [] H3 (eM H3 p3 (.lst (List.replicate (if b=true then (1:Int) else 0).toNat [V.int 0]).flatten)):=.new hp3;have z3:(eM H3 p3 (.lst (List.replicate (if b=true then (1:Int) else 0).toNat [V.int 0]).flatten)) p3=some (.lst (List.replicate (if b=true then (1:Int) else 0).toNat [V.int 0]).flatten):=dG;generalize eM H3 p3 (.lst (List.replicate (if b=true then (1:Int) else 0).toNat [V.int 0]).flatten)=H4 at y4 z3 ⊢;have hs6:av=16777216:=by decide
  refine⟨l,p3,_,_,rfl,rfl,y4.keep _ _ (!4) z0,z3,by rw[za,ah];cases b<;>simp<;>omega,λp4 Z3=>?_⟩
  obtain⟨k,ks,hk⟩:∃(k:Int) (ks:List Int),cs.map V.int++(List.replicate (if b=true then (1:Int) else 0).toNat [V.int 0]).flatten=(k::ks).map V.int:=by
   cases cs with
   | nil=>rw[TL (hc0 rfl)];exact⟨0,[],rfl⟩
   | cons z zs =>
    cases b with
    | true=>exact⟨z,zs++[0],!4⟩
    | false=>exact⟨z,zs,!4⟩
  rw[hk];have y5:Ext [] H4 (eM H4 p4 (.lst ((k::ks).map V.int))):=.new Z3;have z4:(eM H4 p4 (.lst ((k::ks).map V.int))) p4=some (.lst ((k::ks).map V.int)):=dG;have Z4:=y13.trans y4;have Ya:H p4=none:=(y0.trans Z4).fresh (!4) Z3;generalize eM H4 p4 (.lst ((k::ks).map V.int))=H5 at y5 z4 ⊢;have Z5:=Z4.trans y5;have Q9:=Z5.keep _ _ (!4) Z1;have g6:p4≠fa:=λz=>by rw[z,Q9] at z4;cases z4
  refine⟨Q9,gS p4 0 0 0,rfl,by show 4<=15;decide,?_⟩;have x:Ext [] H (eM H5 fa (.dK (gS p4 0 0 0))):=(y0.trans Z5).U5 Jk Q9;exact q fa p4 _ ⟨⟨k,ks,0,0,dG,by rw[dJ g6];exact z4,!2⟩,g6,!2⟩ x Jk Ya
theorem Ra (F:wK K "_law_draw" "_law_draw" (top 46) f fd)(hm:mg "_law_draw" = some (.ref f))(B:kB mg):dZ P w K mg base 1 "_law_draw" ["_law_feed_here", "_law_many"] Q7:=by
 refine⟨f,fd,?_,hm,F.kp,F.binds λ_ _ _ _ _ _ us hl=>by obtain⟨_,_,rfl⟩:=JD hl;rfl⟩;have sc:fK ["_law_feed_here", "_law_many", "_law_cells", "_law_found", "_law_turn", "_law_cell", "_law_mixed"] ["_law_feed_here", "_law_many"] (dw (top 46)):=RP;refine F.P8 sc (λvs H Q E h=>?_) (λfg A outer s H vs Q E hr h=>?_)
 .obtain⟨fa,sa,n,many,rfl,_⟩:=h
  rfl
 .obtain⟨fa,sa,n,many,rfl,fe,m0,m1,nm,q⟩:=h
  have hu:=cq (Nat.add_le_add_left (by decide:1<=64) _) hr.units
  refine⟨_,(fO (mK hu (qv 0) gz (g7 uR (gJ hu (qv 0) gz (λ_ _=>rfl)) gw))
   (fO (jY (i:=2) sc.nd rfl (Or.inl rfl) (gJ hu (qv 0) gz (λ_ _=>rfl)))
   (Ma (FF PassesOwn.never (QW.pt (Ic (tZ Sw (gJ hu (qv 0) gz (λ_ _=>rfl)) gw (mH _)) (D5 (tZ NC (gJ hu (qv 0) gz (λ_ _=>rfl)) (i5 (P9 K) (by rfl) B.len (!3) (iI (qv 2) fj)) (mH _))))) (fO (mK hu (qv 0) gz (g7 rH (Aj (VJ K) (qv 2) (gJ hu (qv 0) gz (λ_ _=>rfl)) (λ_ _=>rfl)) (f' rJ (by rfl) B.int (!3) (iI (ze SA (Aj (VJ K) (qv 2) (gJ hu (qv 0) gz (λ_ _=>rfl)) (λ_ _=>rfl)) (g7 Hy gw gw) (mH _)) fj))))
   (jG (mK hu (qv 0) gz (g7 uR (gJ hu (qv 0) gz (λ_ _=>rfl)) gw)))))
   (fO (NR (tZ ND (gJ hu (qv 0) gz (λ_ _=>rfl)) gw (mH _)) (fO (jY (i:=3) sc.nd rfl (Or.inl rfl) (g7 pd (gJ hu (qv 0) gz (λ_ _=>rfl)) (qv 1)))
   (fO (mK hu (qv 0) gz (g7 yW (gJ hu (qv 0) gz (λ_ _=>rfl)) (qv 1)))
   (jG (pj (qv 3))))) D8)
   (fO (jY (i:=4) sc.nd rfl (Or.inl rfl) (gJ hu (qv 0) gz (λ_ _=>rfl)))
   (fO (jY (i:=5) sc.nd rfl (Or.inl rfl) (g7 pd (Aj (VJ K) (qv 2) (g7 pd (qv 4) (i5 (P9 K) (by rfl) B.len (!3) (iI (qv 2) fj))) (λ_ _=>rfl)) gw))
   (fO (jY (i:=6) sc.nd rfl (Or.inl rfl) (g7 pd (g7 rH (g7 uR (qv 5) (g7 rH gw (qv 4))) gw) gw))
   (fO (jY (i:=6) sc.nd rfl (Or.inl rfl) (g7 pd (g7 rH (g7 uR (g7 yW (qv 6) gw) (g7 rH gw (qv 4))) gw) gw))
   (jG (pj (g7 pd (g7 yW (qv 6) gw) (qv 1)))))))))))),?_⟩
  obtain⟨k,ns,i,c,e1,e2,i0⟩:=fe.ex;have n0:=fe.lo;obtain⟨f1,x1⟩:=fe.put i c (n+1) (!1) i0;refine⟨_,rfl,fa,_,rfl,EG e1,n,1,rfl,rfl,_,rfl,fa,_,rfl,M3 e1,?_⟩;refine⟨_,rfl,fa,_,rfl,JS dG,?_⟩;have Rx:(eM H fa (.dK (gS sa i c (n+1)))) sa=some (.lst ((k::ns).map V.int)):=by rw[dJ fe.ne];exact e2
  refine⟨λσ' H'=>σ'=[some (.ref fa),some (.int many),some (.ref sa),none,none,none,none]/\∃i c,0<=i/\H' fa=some (.dK (gS sa i c (n+1)))/\H' sa=some (.lst ((k::ns).map V.int))/\jt H' fa sa (n+1)/\Ext [fa] H H',?_,?_⟩
  .refine Mo (λσ' H'=>σ'=[some (.ref fa),some (.int many),some (.ref sa),none,none,none,none]/\∃i c,0<=i/\H' fa=some (.dK (gS sa i c (n+1)))/\H' sa=some (.lst ((k::ns).map V.int))/\jt H' fa sa (n+1)/\Ext [fa] H H') (λσ' H'=>match H' fa with | some (.dK [_,(_,.int i),_,_])=>((ns.length:Int)+1 - i).toNat | _=>0) ⟨rfl,i,c,i0,dG,Rx,f1,x1⟩ ?_
   rintro σ' H' ⟨rfl,i,c,i0,g1,g2,f2,x2⟩;refine⟨_,rfl,fa,_,rfl,uq g1,rfl,_,rfl,PM (λhc=>?_) (λhc=>PL ⟨rfl,i,c,i0,g1,g2,f2,x2⟩)⟩;refine⟨_,rfl,fa,_,rfl,EF g1,_,rfl,sa,_,rfl,.inl (gY.of g2),_,_,rfl,rfl,_,rfl,PM (λhd=>?_) (λhd=>⟨rfl,i,c,i0,g1,g2,f2,x2⟩)⟩;have yV:i<(((k::ns).map V.int).length:Nat):=of_decide_eq_true hd;obtain⟨z,hz⟩:=EI k ns i0 yV;refine⟨_,rfl,_,rfl,fa,_,rfl,EF g1,sa,_,_,_,rfl,rfl,gY.of g2,hz,_,rfl,_,rfl,fa,_,rfl,EF g1,sa,_,_,_,rfl,rfl,gY.of g2,hz,10,18,rfl,rfl,⟨!2,!2,!2⟩,_,_,rfl,rfl,.inr ⟨_,rfl,?_⟩⟩;generalize hb:decide ((10:Int) ^ (18:Int).toNat<=z)=b;refine⟨z,_,rfl,rfl,.inr (by cases b<;>exact⟨!2,!2⟩),_,rfl,fa,_,rfl,EH g1,?_⟩;refine⟨_,rfl,fa,_,rfl,EF dG,i,1,rfl,rfl,_,rfl,fa,_,rfl,U6 dG,?_⟩;obtain⟨f3,x3⟩:=f2.put i (z * if b=true then 1 else 0) (n+1) (!1) i0;obtain⟨f4,x4⟩:=f3.put (i+1) (z * if b=true then 1 else 0) (n+1) (!1) (!1);refine⟨⟨rfl,i+1,_,!1,dG,by rw[dJ fe.ne,dJ fe.ne];exact g2,f4,(x2.trans x3).trans x4⟩,?_⟩;rw[dG,g1];simp only[ah,aj] at yV;show ((ns.length:Int)+1 - (i+1)).toNat<((ns.length:Int)+1 - i).toNat;omega
  .rintro σ' H' ⟨rfl,i,c,i0,g1,g2,f2,x2⟩
   refine⟨_,rfl,fa,_,rfl,uq g1,c,0,rfl,rfl,_,rfl,PM (λhc=>?_) (λhc=>?_)⟩
   .refine⟨_,rfl,fa,_,rfl,uq g1,_,rfl,c,many,rfl,rfl,m0,?_⟩
    refine⟨_,rfl,fa,_,rfl,uq g1,_,rfl,c,many,rfl,rfl,⟨m0,m1⟩,_,rfl,fa,_,rfl,EH g1,?_⟩;obtain⟨f3,x3⟩:=f2.put i (c / many) (n+1) (!1) i0;exact⟨_,rfl,q _ _ (cW _ (!1)) (cL _ m0) f3 (x2.trans x3)⟩
   .have hl:(0:Int)<(((k::ns).map V.int).length:Nat):=by simp
    obtain⟨z,hz⟩:=EI k ns (cW (n+1) (!1)) (cL (n+1) hl);refine⟨_,rfl,fa,_,rfl,EG g1,?_⟩;refine⟨_,rfl,_,rfl,_,rfl,sa,_,rfl,.inl (gY.of g2),_,_,rfl,rfl,hl,sa,_,_,_,rfl,rfl,gY.of g2,hz,_,_,rfl,rfl,(by show (0:Int)<2147483629;decide),?_⟩;refine⟨_,rfl,_,rfl,_,_,rfl,rfl,.inl ⟨!2,!2⟩,_,_,rfl,rfl,_,_,rfl,rfl,.inr ⟨!2,!2⟩,_,_,rfl,rfl,(by show (0:Int)<2147483647;decide),?_⟩;refine⟨_,rfl,_,_,rfl,rfl,⟨!2,!2⟩,_,rfl,_,_,rfl,rfl,.inl ⟨!2,!2⟩,_,_,rfl,rfl,_,_,rfl,rfl,.inr ⟨!2,!2⟩,_,_,rfl,rfl,(by show (0:Int)<2147483587;decide),?_⟩;exact⟨_,rfl,_,_,rfl,rfl,⟨!2,!2⟩,_,rfl,_,_,rfl,rfl,m0,q _ _ (cW _ (!1)) (cL _ m0) f2 x2⟩
end
end Odj
namespace L2
open PySem
theorem Ext.put {S:List Addr}{H0 H:Hp}{p:Addr}{o:HO}(a:Ext S H0 H)(h0:H0 p=none):Ext S H0 (eM H p o) :=
 ⟨λb u hb e=>by rw[dJ (λz=>by rw[z,h0] at e;cases e)];exact a.keep b u hb e,λb ys e=>by rw[dJ (λz=>by rw[z,h0] at e;cases e)];exact a.tup b ys e⟩
end L2
namespace Odj
open PySem L2
noncomputable def gx (o:wO):List (Key × V):=o.map λp=>((Sum.inl p.1:Key),V.bl p.2)
theorem yv (o:wO)(k:Int):iU (gx o) (Sum.inl k)=((o.find? λp=>decide (p.1=k)).map (·.2)).map V.bl:=by
 induction o with
 | nil=>rfl
 | cons p o ih =>
  have e:gx (p::o)=((Sum.inl p.1:Key),V.bl p.2)::gx o:=rfl;by_cases h:p.1=k
  .rw[e,gA (by rw[h]),bK]
   simp[h]
  .rw[e,gB (λz=>h (Sum.inl.inj z)),ih,bK]
   simp[h]
theorem qT (o:wO)(k:Int):(iU (gx o) (Sum.inl k)).getD (.bl false)=.bl (iz o k):=by
 rw[yv];unfold iz;cases (o.find? λp=>decide (p.1=k))<;>rfl
theorem EJ {o:wO}(h:(fH o).Nodup){i:Nat}{p:Int × Bool}(hp:o[i]? = some p):iU (gx o) (Sum.inl p.1)=some (.bl p.2):=by
 have e:=JR h hp;rw[yv];unfold iz at e
 cases hf:(o.find? λq=>decide (q.1=p.1)) with
 | none =>
  have:=List.find?_eq_none.mp hf p (bC hp);simp at this
 | some q =>
  rw[hf] at e;have e':q.2=p.2:=e;simp[e']
theorem vU (o:wO)(k:Int):kH (gx o) (Sum.inl k) (.bl (!iz o k))=gx (gp o k):=by
 have ha:((gx o).any λkv=>decide (kv.1=Sum.inl k))=o.any λp=>decide (p.1=k):=by
  unfold gx;rw[List.any_map];congr 1;funext p;show decide ((Sum.inl p.1:Key)=Sum.inl k)=decide (p.1=k);by_cases h:p.1=k
  .simp[h]
  .have:¬ (Sum.inl p.1:Key)=Sum.inl k:=λz=>h (Sum.inl.inj z)
   simp[h]
 unfold kH gp;rw[ha];split
 .unfold gx
  rw[br,br];apply cH;intro p _;simp only[Function.comp];by_cases h:p.1=k
  .simp[h]
  .have:¬ (Sum.inl p.1:Key)=Sum.inl k:=λz=>h (Sum.inl.inj z)
   simp[h]
 .unfold gx
  rw[bc];rfl
theorem qU (o:wO):(gx o).length=o.length:=by unfold gx;rw[ah]
theorem yy (row:List Int)(k:Int):d6 (row++[k])=gp (d6 row) k:=by
 unfold d6;rw[List.foldl_append];rfl
noncomputable def M4 (row ns:List Int):Prop:=ns.Perm (lu (d6 row))/\ns.Pairwise (·<=·)
theorem Dl (o:wO)(k j:Int):iz (gp o k) j=if j=k then !iz o k else iz o j:=by
 have e:=qT (gp o k) j;rw[<- vU,Ij] at e;by_cases h:j=k
 .subst h
  rw[if_pos rfl] at e;rw[if_pos rfl];exact (V.bl.inj e).symm
 .rw[if_neg (λz=>h (Sum.inl.inj z)),qT] at e
  rw[if_neg h];exact (V.bl.inj e).symm
theorem vV (k:Int):∀(row:List Int) (o:wO),iz (row.foldl gp o) k=(iz o k != decide (row.count k % 2=1))
 | [],o=>by simp
 | x::row,o=>by
  rw[cV,vV k row,Dl,cK];by_cases h:k=x
  .subst h
   rw[if_pos rfl];have h2:=Nat.mod_two_eq_zero_or_one (row.count k);rcases h2 with z | z
   .have e1:(row.count k+if (k == k)=true then 1 else 0) % 2=1:=by simp;omega
    simp only[e1,z];cases iz o k<;>rfl
   .have e1:(row.count k+if (k == k)=true then 1 else 0) % 2=0:=by simp;omega
    simp only[e1,z];cases iz o k<;>rfl
  .rw[if_neg h]
   have e1:(x == k)=false:=by
    rw[beq_eq_false_iff_ne];exact λz=>h z.symm
   simp[e1]
theorem tp (row:List Int)(k:Int):iz (d6 row) k=decide (row.count k % 2=1):=by
 unfold d6;rw[vV];have:iz [] k=false:=rfl;rw[this];cases decide (row.count k % 2=1)<;>rfl
theorem vW:∀(row:List Int) (o:wO),(fH o).Nodup->(fH (row.foldl gp o)).Nodup
 | [],o,h=>h
 | x::row,o,h=>vW row _ (Di h)
theorem nc (row:List Int):(fH (d6 row)).Nodup:=vW row [] (by simp[fH])
theorem vX:∀(row:List Int) (o:wO),(row.foldl gp o).length<=o.length+row.length
 | [],o=>by simp
 | x::row,o=>by
  rw[cV,aj];have:=vX row (gp o x);have:=JP o x;omega
theorem pR (row:List Int):(d6 row).length<=row.length:=by
 have:=vX row [];unfold d6;simpa using this
theorem M5 {o:wO}{k:Int}(h:iz o k=true):k∈fH o:=by
 unfold iz at h
 cases hf:(o.find? λp=>decide (p.1=k)) with
 | none=>rw[hf] at h;cases h
 | some p=>exact bg.mpr ⟨p,List.mem_of_find?_eq_some hf,by simpa using List.find?_some hf⟩
theorem JT {o:wO}(hn:(fH o).Nodup):lu o=(fH o).filter (iz o):=by
 unfold lu fH;rw[List.filter_map];congr 1;apply List.filter_congr;intro p hp;obtain⟨i,hi⟩:=List.getElem?_of_mem hp;exact (JR hn hi).symm
theorem uu {row ns:List Int}(h:M4 row ns):Dj row ns/\ns.length<=row.length:=by
 have hn:=nc row;have ht:=JT hn;have z5:ns.Nodup:=h.1.symm.nodup (by rw[ht];exact hn.filter _);refine⟨⟨?_,λk=>?_⟩,?_⟩
 .have:=h.2.and z5
  exact this.imp λz=>by
   have h1:=z.1;have h2:=z.2;omega
 .rw[h.1.mem_iff,ht,aJ,tp]
  constructor
  .intro z;exact of_decide_eq_true z.2
  .intro z
   exact⟨M5 (by rw[tp];exact decide_eq_true z),decide_eq_true z⟩
 .rw[h.1.length_eq]
  unfold lu;rw[ah];exact aL (bN _ _) (pR row)
noncomputable def F':Sp:=λvs H Q _=>∃(a:Addr) (row:List Int),vs=[.ref a]/\(H a=some (.lst (row.map V.int))\/H a=some (.tup (row.map V.int)))/\(d6 row).length<=60/\row.length<=100000 /\
 ∀(ns:List Int) (p:Addr) (H':Hp),Dj row ns->ns.length<=row.length->H' p=some (.tup (ns.map V.int))->Ext [] H H'->Q (.ref p) H'
section
variable {P:aZ}{w:World}{K:W.Frag}{mg:Str->Option af}{base:Heap}{f:Addr}{fd:bq}
theorem Bn (F:wK K "odd_ones" "odd_ones" (top 9) f fd)(hm:mg "odd_ones" = some (.ref f))(B:kB mg):dZ P w K mg base 1 "odd_ones" ["row"] F':=by
 refine⟨f,fd,?_,hm,F.kp,F.binds λ_ _ _ _ _ _ us hl=>by obtain⟨_,rfl⟩:=F1 hl;rfl⟩;have sc:fK ["row", "odd", "number"] ["row"] (dw (top 9)):=⟨rfl,rfl,rfl,!3,rfl,!3,!3⟩;refine F.P8 sc (λvs H Q E h=>?_) (λfg A outer s H vs Q E hr h=>?_)
 .obtain⟨a,row,rfl,_⟩:=h
  rfl
 .obtain⟨a,row,rfl,ha,hb,Hi,q⟩:=h
  have hsz:av=16777216:=by decide
  have hu:=S7 hr;rcases ha with ha | ha
  .skip
   refine⟨_,(fO (jY (i:=1) sc.nd rfl (Or.inr rfl) u6)
   (fO (CA PassesOwn.never rfl (Ih K (qv 0)) (qp (i:=2) sc.nd rfl (Or.inl rfl)) (jG (mK hu (qv 1) (qv 2) (Cw (Ap hu (qv 1) (qv 2) Ia ⟨rfl,rfl,rfl,rfl⟩)))))
   (jG (pj (f' (CB K) (by rfl) B.tuple (!3) (iI (i5 (qz K) (by rfl) B.sorted (!3) (iI (zf (N:=["number", "odd"]) (mp:=[none,some 1]) rfl (D9 (qv 1)) rfl (by show iH ["row", "odd", "number"] (dw (top 9)) _ _ _=true;decide +kernel) λ_ _ _ _ _=>⟨(qp (i:=0) (by show List.Nodup [("number" : Str),("odd" : Str)];decide +kernel) rfl (Or.inl rfl)),(Cz (Cv (gJ hu (qv 1) (qv 0) (λ_ _=>rfl)))),(qv 0)⟩) fj)) fj)))))),?_⟩
   intro d hd;have TX:a≠d:=eE ha hd
   refine⟨_,rfl,a,rfl,⟨_,gY.of (by rw[dJ TX];exact ha)⟩,Hv (xs:=row.map V.int) (λi σ' H'=>(∃y,σ'=[some (.ref a),some (.ref d),y])/\H' d=some (.dK (gx (d6 (row.take i))))/\Ext [] H H')
    ⟨⟨none,rfl⟩,dG,.new hd⟩ (λi σ' H' _ h=>gY.of (h.2.2.keep _ _ (!4) ha)) ?_ ?_⟩
   .rintro i x σ' H' hx ⟨⟨y,rfl⟩,hD,x1⟩
    rw[aB] at hx
    cases hk:row[i]? with
    | none=>rw[hk] at hx;cases hx
    | some k =>
     rw[hk] at hx;cases hx;have ol:=pR (row.take i);rw[bf] at ol;refine⟨_,rfl,d,rfl,.inl ⟨_,.inl hD⟩,_,rfl,_,kl.k (k:=Sum.inl k) hD,_,qT _ _,_,rfl,_,rfl,d,_,rfl,qx.k (k:=Sum.inl k) hD (by rw[qU];omega),⟨_,rfl⟩,?_,x1.put hd⟩;rw[dG,vU,cO,hk];show _=some (HO.dK (gx (d6 (row.take i++[k]))));rw[yy]
   .rintro σ' H' ⟨⟨y,rfl⟩,hD,x1⟩
    rw[bV (by rw[ah];exact ag _)] at hD;have ol:(d6 row).length<=60/\(fH (d6 row)).Nodup:=⟨hb,nc row⟩
    refine⟨_,rfl,d,_,rfl,hD,λo=>xQ (λi ys σ' H2=>(∃y,σ'=[y,some (.ref d)])/\H2=eM H' d (.uH o (.dK (gx (d6 row))))/\ys=(((d6 row).take i).filter (·.2)).map λp=>V.int p.1) ⟨⟨none,rfl⟩,rfl,rfl⟩
     (λi ys σ' H2 h=>by rw[h.2.1];exact dG) ?_ ?_⟩
    .rintro i k v ys σ' H2 Ga ⟨⟨y,rfl⟩,rfl,rfl⟩
     unfold gx at Ga;rw[aB] at Ga
     cases hp:(d6 row)[i]? with
     | none=>rw[hp] at Ga;cases Ga
     | some p =>
      rw[hp] at Ga;cases Ga
      have hl:((((d6 row).take i).filter (·.2)).map λp=>V.int p.1).length<av:=by
       rw[ah];have:=bN (·.2) ((d6 row).take i);rw[bf] at this;omega
      refine⟨hl,_,rfl,_,rfl,d,.bl p.2,rfl,.inl ⟨_,Sum.inl p.1,.inr ⟨o,dG⟩,rfl,(EJ ol.2 hp).symm⟩,_,rfl,?_⟩;have et:(d6 row).take (i+1)=(d6 row).take i++[p]:=by rw[cO,hp];rfl
      cases JU:p.2 with
      | true=>exact S8 ⟨_,rfl,⟨_,rfl⟩,rfl,by rw[et,c5,bc];simp[c8,JU];rfl⟩
      | false=>exact PL ⟨⟨_,rfl⟩,rfl,by rw[et,c5,bc];simp[c8,JU]⟩
    .rintro ys σ' H2 ⟨⟨y,rfl⟩,rfl,rfl⟩
     rw[bV (by rw[qU];exact ag _)];have e:((d6 row).filter (·.2)).map (λp=>V.int p.1)=(lu (d6 row)).map V.int:=by unfold lu;rw[br];rfl
     rw[e]
     have hl:(lu (d6 row)).length<=60:=by
      unfold lu;rw[ah];have:=bN (·.2) (d6 row);omega
     refine⟨by rw[ah];omega,λD Yb=>⟨D,lu (d6 row),rfl,gY.of dG,!1,λl ms p1 p2 NK=>⟨l,_,rfl,.inl ⟨gY.of dG,λt ht=>q ms t _ (uu ⟨p1,p2⟩).1 (uu ⟨p1,p2⟩).2 dG ?_⟩⟩⟩⟩;exact (((x1.put hd).trans (.new Yb)).trans (.new NK)).trans (.new ht)
  .skip
   refine⟨_,(fO (jY (i:=1) sc.nd rfl (Or.inr rfl) u6)
   (fO (CA PassesOwn.never rfl (Md K (qv 0)) (qp (i:=2) sc.nd rfl (Or.inl rfl)) (jG (mK hu (qv 1) (qv 2) (Cw (Ap hu (qv 1) (qv 2) Ia ⟨rfl,rfl,rfl,rfl⟩)))))
   (jG (pj (f' (CB K) (by rfl) B.tuple (!3) (iI (i5 (qz K) (by rfl) B.sorted (!3) (iI (zf (N:=["number", "odd"]) (mp:=[none,some 1]) rfl (D9 (qv 1)) rfl (by show iH ["row", "odd", "number"] (dw (top 9)) _ _ _=true;decide +kernel) λ_ _ _ _ _=>⟨(qp (i:=0) (by show List.Nodup [("number" : Str),("odd" : Str)];decide +kernel) rfl (Or.inl rfl)),(Cz (Cv (gJ hu (qv 1) (qv 0) (λ_ _=>rfl)))),(qv 0)⟩) fj)) fj)))))),?_⟩
   intro d hd;have TX:a≠d:=eE ha hd
   refine⟨_,rfl,a,rfl,⟨_,jl.of (by rw[dJ TX];exact ha)⟩,Lq (K:=K) (a:=a) (xs:=row.map V.int) (λi σ' H'=>(∃y,σ'=[some (.ref a),some (.ref d),y])/\H' d=some (.dK (gx (d6 (row.take i))))/\Ext [] H H')
    ⟨⟨none,rfl⟩,dG,.new hd⟩ (λi σ' H' _ h=>jl.of (h.2.2.tup _ _ ha)) ?_ ?_⟩
   .rintro i x σ' H' hx ⟨⟨y,rfl⟩,hD,x1⟩
    rw[aB] at hx
    cases hk:row[i]? with
    | none=>rw[hk] at hx;cases hx
    | some k =>
     rw[hk] at hx;cases hx;have ol:=pR (row.take i);rw[bf] at ol;refine⟨_,rfl,d,rfl,.inl ⟨_,.inl hD⟩,_,rfl,_,kl.k (k:=Sum.inl k) hD,_,qT _ _,_,rfl,_,rfl,d,_,rfl,qx.k (k:=Sum.inl k) hD (by rw[qU];omega),⟨_,rfl⟩,?_,x1.put hd⟩;rw[dG,vU,cO,hk];show _=some (HO.dK (gx (d6 (row.take i++[k]))));rw[yy]
   .rintro σ' H' ⟨⟨y,rfl⟩,hD,x1⟩
    rw[bV (by rw[ah];exact ag _)] at hD;have ol:(d6 row).length<=60/\(fH (d6 row)).Nodup:=⟨hb,nc row⟩
    refine⟨_,rfl,d,_,rfl,hD,λo=>xQ (λi ys σ' H2=>(∃y,σ'=[y,some (.ref d)])/\H2=eM H' d (.uH o (.dK (gx (d6 row))))/\ys=(((d6 row).take i).filter (·.2)).map λp=>V.int p.1) ⟨⟨none,rfl⟩,rfl,rfl⟩
     (λi ys σ' H2 h=>by rw[h.2.1];exact dG) ?_ ?_⟩
    .rintro i k v ys σ' H2 Ga ⟨⟨y,rfl⟩,rfl,rfl⟩
     unfold gx at Ga;rw[aB] at Ga
     cases hp:(d6 row)[i]? with
     | none=>rw[hp] at Ga;cases Ga
     | some p =>
      rw[hp] at Ga;cases Ga
      have hl:((((d6 row).take i).filter (·.2)).map λp=>V.int p.1).length<av:=by
       rw[ah];have:=bN (·.2) ((d6 row).take i);rw[bf] at this;omega
      refine⟨hl,_,rfl,_,rfl,d,.bl p.2,rfl,.inl ⟨_,Sum.inl p.1,.inr ⟨o,dG⟩,rfl,(EJ ol.2 hp).symm⟩,_,rfl,?_⟩;have et:(d6 row).take (i+1)=(d6 row).take i++[p]:=by rw[cO,hp];rfl
      cases JU:p.2 with
      | true=>exact S8 ⟨_,rfl,⟨_,rfl⟩,rfl,by rw[et,c5,bc];simp[c8,JU];rfl⟩
      | false=>exact PL ⟨⟨_,rfl⟩,rfl,by rw[et,c5,bc];simp[c8,JU]⟩
    .rintro ys σ' H2 ⟨⟨y,rfl⟩,rfl,rfl⟩
     rw[bV (by rw[qU];exact ag _)];have e:((d6 row).filter (·.2)).map (λp=>V.int p.1)=(lu (d6 row)).map V.int:=by unfold lu;rw[br];rfl
     rw[e]
     have hl:(lu (d6 row)).length<=60:=by
      unfold lu;rw[ah];have:=bN (·.2) (d6 row);omega
     refine⟨by rw[ah];omega,λD Yb=>⟨D,lu (d6 row),rfl,gY.of dG,!1,λl ms p1 p2 NK=>⟨l,_,rfl,.inl ⟨gY.of dG,λt ht=>q ms t _ (uu ⟨p1,p2⟩).1 (uu ⟨p1,p2⟩).2 dG ?_⟩⟩⟩⟩;exact (((x1.put hd).trans (.new Yb)).trans (.new NK)).trans (.new ht)
theorem yz:∀(row:List Int) (o:wO) (k:Int),k∈fH (row.foldl gp o)->k∈fH o\/k∈row
 | [],o,k,h=>.inl h
 | x::row,o,k,h=>by
  rcases yz row _ k h with h | h
  .rcases JQ h with h | h
   .exact .inr (by rw[h];exact aq ..)
   .exact .inl h
  .exact .inr (ao _ h)
theorem Gb (row:List Int)(k:Int)(h:k∈fH (d6 row)):k∈row:=by
 rcases yz row [] k h with h | h
 .simp[fH] at h
 .exact h
theorem ng {S:List Addr}{H:Hp}:∀ns:List Int,dH S H (ns.map .int) (ns.map V.int)
 | []=>.nil
 | n::ns=>.cons (.int n) (ng ns)
theorem JV {row ns:List Int}(h:Dj row ns):ns=iA row:=by
 refine vO h.1 (me _) λk=>?_;unfold iA;rw[h.2,ju,aJ];constructor
 .intro z
  exact⟨cv.mp (!1),decide_eq_true z⟩
 .intro z
  exact of_decide_eq_true z.2
theorem yB (row:List Int):(d6 row).length<=(jP row).length:=by
 have h:=fF (nc row) (ns:=jP row) λk hk=>gP.mpr ?_
 .unfold fH at h
  rwa [ah] at h
 .exact Gb row k hk
theorem Dm (F:wK K "odd_ones" "odd_ones" (top 9) f fd)(hm:mg "odd_ones" = some (.ref f))(B:kB mg){C:Xc}:dZ P w K mg base 1 "odd_ones" ["row"] (mF C jw) :=
 (Bn F hm B).imp λvs H Q E ⟨S,ds,n,Qp,Xp,r,has,hF,hq,_⟩=>by
  unfold jw at hF;split at hF
  .rename_i es
   obtain⟨row,e,⟨h1,h2⟩,q⟩:=hF;obtain⟨v,t,rfl,rv,rn⟩:=r.of_cons;cases rn.gc;obtain⟨a,xs,rfl,ha,_,rs⟩:=rv.eY;rw[gC e] at rs;rw[gD rs] at ha;refine⟨a,row,rfl,.inl ha,aL (yB row) h1,h2,λns p H' ho _ hp x=>hq _ _ H' (.tup hp (ng _)) x ?_⟩;rw[JV ho];exact q
  .rename_i es
   obtain⟨row,e,⟨h1,h2⟩,q⟩:=hF;obtain⟨v,t,rfl,rv,rn⟩:=r.of_cons;cases rn.gc;obtain⟨a,xs,rfl,ha,rs⟩:=rv.eX;rw[gC e] at rs;rw[gD rs] at ha;refine⟨a,row,rfl,.inr ha,aL (yB row) h1,h2,λns p H' ho _ hp x=>hq _ _ H' (.tup hp (ng _)) x ?_⟩;rw[JV ho];exact q
  .exact hF.elim
end
end Odj
namespace Odj
open PySem PySem.Spec L2
section
variable {P:aZ}{w:World}{K:W.Frag}{mg:Str->Option af}{base:Heap}{f:Addr}{fd:bq}{cl:Str->Addr}{Y:wN}
theorem JW {C J:Addr}(F:wK K "__init__" "NoWalk.__init__" (yd (top 2) 0) f fd)(r:RF K C J f)(j:Ql K J)(m:mg "NoWalk" = some (.ref C))(n0:W.findIn K (.ref C) "number" = some none):oF P w K mg base "NoWalk" C (IH C "number"):=by
 have sc:fK ["self", "number"] ["self", "number"] (dw (yd (top 2) 0)):=⟨rfl,rfl,rfl,!3,rfl,!3,!3⟩;refine IP r j m (ps:=["self", "number"]) (F.P8 (k:=0) sc (λvs H Q E h=>?_) (λfg A outer s H vs Q E hr h=>?_)) (F.binds λ_ _ _ _ _ _ us hl=>match us,hl with | [_,_],_=>rfl)
 .obtain⟨x,a,rfl,_⟩:=h
  rfl
 .obtain⟨x,a,rfl,hx,q⟩:=h
  exact⟨_,(jG (Mu K C (qv 0) (qv 1))),_,rfl,_,rfl,x,rfl,(r.mk' j).ec,n0,.inl ⟨hx,q⟩⟩
end
section
variable {P:aZ}{w:World}{K:W.Frag}{mg:Str->Option af}{base:Heap}{f:Addr}{fd:bq}{cl:Str->Addr}{Y:wN}
theorem Dn (F:FM K mg "is_whole" (top 4))(B:kB mg) :
  mV P w K mg base cl :=
 gf pD N0 F λsc f fg A outer s H E n0 S has hr hu =>
 (dC (d9 (l8 (kM B.isinstance B.int (dN 0)) (k_one (k_not (kM B.isinstance B.bool (dN 0)))))))
theorem xk (F:FM K mg "is_tuple_of" (top 5))(B:kB mg) :
  iD P w K mg base cl :=
 gf lK N1 F λsc f fg A outer s H E n0 S has hr hu =>
 (dC (d9 (l8 (kM B.isinstance B.tuple (dN 0)) (k_one (ic (i6 hu) (KE.loose (h9 gU B.len (eI (dN 0) dR))) (dN 1))))))
theorem Bo (F:FM K mg "is_rising" (top 6))(B:kB mg)(jA:mV P w K mg base cl) :
  n9 P w K mg base cl :=
 gf nU N2 F λsc f fg A outer s H E n0 S has hr hu =>
 (dO (km (kc (gT (kM B.isinstance B.tuple (dN 0)))) (dC (d9 jM)) fi)
 (dO (gb 1 sc.nd (kI dk))
 (dO (nA PassesOwn.never rfl (Ur 0) (mi 2 sc.nd)
 (dO (km (KW.kb (w_or (kc (gT (dY jA (RM hr) (dq (fE 2) dn)))) (nQ (eR Uh (dN 2) (dN 1))))) (dC (d9 jM)) fi)
 (dC (gb 1 sc.nd (fE 2)))))
 (dC (d9 jM)))))
theorem qV (F:FM K mg "is_rising_below" (top 7))(B:kB mg)(oo:n9 P w K mg base cl) :
  gW P w K mg base cl :=
 gf ja N3 F λsc f fg A outer s H E n0 S has hr hu =>
 (dC (d9 (l8 (dY oo (RM hr) (dq (fE 0) dn)) (k_one (Xj (ic (i6 hu) (KE.loose (h9 gU B.len (eI (dN 0) dR))) (KE.loose dk)) (k_one (ic Ug (KE.loose (dP (dN 0) (KE.loose (kI dk)))) (dN 1))))))))
end
section
variable {P:aZ}{w:World}{K:W.Frag}{mg:Str->Option af}{base:Heap}{f:Addr}{fd:bq}{cl:Str->Addr}{Y:wN}
theorem zM (F:FM K mg "are_unlike" (top 8))(B:kB mg) :
  mW P w K mg base cl :=
 gf mQ N4 F λsc f fg A outer s H E n0 S has hr hu =>
 (dC (d9 (ic (i6 hu) (KE.loose (A2 B.len B.set rfl (dN 0))) (KE.loose (h9 gU B.len (eI (dN 0) dR))))))
theorem Ge (F:FM K mg "is_side" (top 11))(B:kB mg)(fQ:gW P w K mg base cl) :
  si P w K mg base cl :=
 gf rY N7 F λsc f fg A outer s H E n0 S has hr hu =>
 (dC (d9 (dY fQ (RM hr) (dq (fE 1) (dq (dP (dN 0) (KE.loose dk)) dn)))))
theorem JX (F:FM K mg "is_set" (top 12))(B:kB mg)(fQ:gW P w K mg base cl) :
  vS P w K mg base cl :=
 gf vP N7 F λsc f fg A outer s H E n0 S has hr hu =>
 (dC (d9 (dY fQ (RM hr) (dq (fE 1) (dq (h9 gU B.len (eI (KE.loose (dP (dN 0) (KE.loose dk))) dR)) dn)))))
theorem tN (F:FM K mg "is_tie_number" (top 13))(B:kB mg)(vY:vS P w K mg base cl) :
  j4 P w K mg base cl :=
 gf j3 N7 F λsc f fg A outer s H E n0 S has hr hu =>
 (dC (d9 (dY vY (RM hr) (dq (fE 0) (dq (eJ (dq (fE 1) dn)) dn)))))
end
section
variable {P:aZ}{w:World}{K:W.Frag}{mg:Str->Option af}{base:Heap}{f:Addr}{fd:bq}{cl:Str->Addr}{Y:wN}
theorem Dp (F:FM K mg "by_turns" (top 14))(B:kB mg)(pS:vR P w K mg base cl) :
  mY P w K mg base cl :=
 gf pE N8 F λsc f fg A outer s H E n0 S has hr hu =>
 (dC (d9 (dY pS (RM hr) (dq (fV f9 (dN 0) (dN 1)) dn))))
theorem Dq (F:FM K mg "all_ties" (top 15))(B:kB mg) :
  mZ P w K mg base cl :=
 gf pF N9 F λsc f fg A outer s H E n0 S has hr hu =>
 (dC (d9 (QH B.tuple B.range rfl (h9 gU B.len (eI (KE.loose (dP (dN 0) (KE.loose dk))) dR)))))
theorem Dr (F:FM K mg "price_of" (top 16))(B:kB mg) :
  m6 P w K mg base cl :=
 gf pG ZH F λsc f fg A outer s H E n0 S has hr hu =>
 (dC (d9 (h9 (Dc rfl) B.sum (eI (KE.loose (KN.data (g8 [] (N:=RS) (mp:=[none,some 0]) rfl (ma (dN 1)) rfl (co ZH (dw (top 16))) (λ_ _ _ _ _=>⟨(mi 0 (nd RS)),lG,(dP (KE.loose (dP (KE.loose (dP (dN 1) (KE.loose dk))) (dN 0))) (KE.loose dk))⟩) (hfd:=ym)))) dR))))
theorem JY (F:FM K mg "cut_of" (top 17))(B:kB mg) :
  vT P w K mg base cl :=
 gf vQ VZ F λsc f fg A outer s H E n0 S has hr hu =>
 (dC (d9 (tJ i7 B.tuple (eI (KE.loose (KN.data (g8 [] (N:=X1) (mp:=[none,none,some 1]) rfl (zv B.enumerate (KE.loose (dP (dN 0) (KE.loose dk)))) rfl (co VZ (dw (top 17))) (λ_ _ _ _ _=>⟨(RN (n':=2) rfl (tK (mi 0 (nd X1)) (tK (mi 1 (nd X1)) rS)) (RQ [0,1]) rfl),(js (eR (zr hu) (KE.loose (ic (xh hu) (KE.loose (dP (dN 1) (KE.loose dk))) (dN 2))) (KE.loose (ic (xh hu) (KE.loose (dP (dN 1) (KE.loose dk))) (dN 2))))),(fE 0)⟩) (hfd:=ym)))) dR))))
end
section
variable {P:aZ}{w:World}{K:W.Frag}{mg:Str->Option af}{base:Heap}{f:Addr}{fd:bq}{cl:Str->Addr}{Y:wN}
theorem Ds (F:FM K mg "parts_of" (top 18))(B:kB mg)(oq:oa P w K mg base cl) :
  pN P w K mg base cl :=
 gf pH X2 F λsc f fg A outer s H E n0 S has hr hu =>
 (dO (gb 1 sc.nd (KN.data (MM B.list B.range rfl (dP (dN 0) (KE.loose dk)))) (Or.inr rfl))
 (dO (nA PassesOwn.never rfl (AX (dP (dN 0) (KE.loose dk))) (mi 2 sc.nd)
 (dO (gb 3 sc.nd (h9 (I0 rfl) B.min (eI (KE.loose (dP (dN 1) (KE.loose (dP (dN 2) (KE.loose dk))))) (eI (KE.loose (dP (dN 1) (KE.loose (dP (dN 2) (KE.loose dk))))) dR))) (Or.inr rfl))
 (dO (gb 4 sc.nd (h9 (I8 rfl) B.max (eI (KE.loose (dP (dN 1) (KE.loose (dP (dN 2) (KE.loose dk))))) (eI (KE.loose (dP (dN 1) (KE.loose (dP (dN 2) (KE.loose dk))))) dR))) (Or.inr rfl))
 (dC (gb 1 sc.nd (KN.data (g8 [] (N:=ZJ) (mp:=[none,some 3,some 4]) rfl (ma (dN 1)) rfl (co X2 (dw (top 18))) (λ_ _ _ _ _=>⟨(mi 0 (nd ZJ)),lG,(MC (eR (i6 hu) (dN 0) (dN 2)) (fE 1) (fE 0))⟩) (hfd:=ym))) (Or.inr rfl))))))
 (dC (d9 (tJ i7 B.tuple (eI (KE.loose (KN.data (g8 [] (N:=ZI) (mp:=[none,some 1]) rfl (ma (KE.loose (KN.data (Ey B.sorted B.set rfl (dN 1))))) rfl (co X2 (dw (top 18))) (λ_ _ _ _ _=>⟨(mi 0 (nd ZI)),lG,(dY oq (RM hr) (dq (fE 1) (dq (fE 0) dn)))⟩) (hfd:=ym)))) dR))))))
theorem Bp (F:FM K mg "places_of" (top 19))(B:kB mg) :
  oa P w K mg base cl :=
 gf nV ZK F λsc f fg A outer s H E n0 S has hr hu =>
 (dC (d9 (tJ i7 B.tuple (eI (KE.loose (KN.data (g8 [] (N:=X3) (mp:=[none,none,some 1]) rfl (zv B.enumerate (dN 0)) rfl (co ZK (dw (top 19))) (λ_ _ _ _ _=>⟨(RN (n':=2) rfl (tK (mi 1 (nd X3)) (tK (mi 0 (nd X3)) rS)) (RQ [1,0]) rfl),(js (eR (i6 hu) (dN 0) (dN 2))),(fE 1)⟩) (hfd:=ym)))) dR))))
theorem Bq (F:FM K mg "other_end" (top 21))(B:kB mg) :
  jV P w K mg base cl :=
 gf nW N19 F λsc f fg A outer s H E n0 S has hr hu =>
 (dC (d9 (MC (eR (i6 hu) (KE.loose (dP (dN 0) (KE.loose dk))) (dN 1)) (dP (dN 0) (KE.loose dk)) (dP (dN 0) (KE.loose dk)))))
theorem Gf (F:FM K mg "is_step" (top 22))(B:kB mg)(j6:j4 P w K mg base cl) :
  oR P w K mg base cl :=
 gf rZ N20 F λsc f fg A outer s H E n0 S has hr hu =>
 (dC (d9 (l8 (dY j6 (RM hr) (dq (fE 0) (dq (fE 2) dn))) (k_one (ic (xh hu) (dN 1) (KE.loose (mO (KE.loose (dP (KE.loose (dP (dN 0) (KE.loose dk))) (dN 2))) eO (eP dk))))))))
end
section
variable {P:aZ}{w:World}{K:W.Frag}{mg:Str->Option af}{base:Heap}{f:Addr}{fd:bq}{cl:Str->Addr}{Y:wN}
theorem tO (F:FM K mg "places_walked" (top 23))(B:kB mg)(gu:jV P w K mg base cl)(kC:oR P w K mg base cl)(qW:oF P w K mg base "NoWalk" (cl "NoWalk") (IH (cl "NoWalk") "number")) :
  j5 P w K mg base cl :=
 UY iG N21 F λsc f fg A outer s H E n0 S has Ex hx hr hu RI =>
 (dO (km (kc (gT (kM B.isinstance B.tuple (dN 2)))) (dC (AY E Ex (XC cl) qW (show FL "NoWalk" = (["number"]:List Str) by decide +kernel) (RM hr) RI rfl hx (dq (kI dk) dn))) fi)
 (dO (Bb 3 sc.nd (gk (dq (fE 1) dn)))
 (dO (nA PassesOwn.leaving rfl (Jg B.enumerate (fE 2)) (RN (n':=2) rfl (tK (mi 4 sc.nd) (tK (mi 5 sc.nd) rS)) (RQ [4,5]) rfl)
 (dO (km (kc (gT (dY kC (RM hr) (dq (fE 0) (dq (dP (dN 3) (KE.loose (kI dk))) (dq (fE 5) dn)))))) (dC (AY E Ex (XC cl) qW (show FL "NoWalk" = (["number"]:List Str) by decide +kernel) (RM hr) RI rfl hx (dq (fE 4) dn))) fi)
 (dC (pz 3 PySem.F.plainAttrs_list PySem.F.slot_list_append PySem.F.type_list_append (kK) (dq (dY gu (RM hr) (dq (dP (KE.loose (dP (dN 0) (KE.loose dk))) (dN 5)) (dq (dP (dN 3) (KE.loose (kI dk))) dn))) dn)))))
 (dC (Ji 3)))))
theorem vZ (F:FM K mg "places_round" (top 24))(B:kB mg)(j7:j5 P w K mg base cl)(jA:mV P w K mg base cl)(fL:iD P w K mg base cl)(xf:XF K mg (XC cl) K' M1) :
  kX P w K mg base cl :=
 gf kT ZL F λsc f fg A outer s H E n0 S has hr hu =>
 (dO (km (KW.kb (w_or (kc (gT (dY fL (RM hr) (dq (fE 1) (dq dk dn))))) (nQ (kc (gT (dY jA (RM hr) (dq (dP (dN 1) (KE.loose dk)) dn))))))) (dC (d9 ye)) fi)
 (dO (QJ (i:=2) rfl xf (!3) j7 (RM hr) sc.nd (Or.inl rfl) (λ_=>(dq (fE 0) (dq (dP (dN 1) (KE.loose dk)) (dq (dP (dN 1) (KE.loose dk)) dn)))) (λ_=>(dC (d9 ye))) (hfd:=(nf 2 [])))
 (dC (d9 (MC (eR (i6 hu) (KE.loose (dP (dN 2) (KE.loose (kI dk)))) (KE.loose (dP (dN 2) (KE.loose dk)))) (fE 2) ye)))))
theorem Dt (F:FM K mg "is_round" (top 26))(B:kB mg)(nh:mW P w K mg base cl)(k8:kX P w K mg base cl) :
  pO P w K mg base cl :=
 gf pI ZL F λsc f fg A outer s H E n0 S has hr hu =>
 (dO (gb 2 sc.nd (dY k8 (RM hr) (dq (fE 0) (dq (fE 1) dn))))
 (dC (d9 (l8 (ic Uj (dN 2) (KE.loose ye)) (l8 (ic IY (KE.loose (h9 gU B.len (eI (dN 2) dR))) (KE.loose dk)) (k_one (dY nh (RM hr) (dq (dP (dN 1) (KE.loose dk)) dn))))))))
theorem Br (F:FM K mg "weight_of" (top 28))(B:kB mg)(jB:m6 P w K mg base cl)(v3:vT P w K mg base cl) :
  og P w K mg base cl :=
 gf nX VZ F λsc f fg A outer s H E n0 S has hr hu =>
 (dC (d9 (dY jB (RM hr) (dq (fE 0) (dq (dY v3 (RM hr) (dq (fE 0) (dq (fE 1) dn))) dn)))))
end
section
variable {P:aZ}{w:World}{K:W.Frag}{mg:Str->Option af}{base:Heap}{f:Addr}{fd:bq}{cl:Str->Addr}{Y:wN}
theorem Gg (F:FM K mg "lack_of" (top 29))(B:kB mg)(jB:m6 P w K mg base cl)(jC:mZ P w K mg base cl)(ou:og P w K mg base cl) :
  sj P w K mg base cl :=
 gf r9 VZ F λsc f fg A outer s H E n0 S has hr hu =>
 (dC (d9 (fV yh (KE.loose (dY jB (RM hr) (dq (fE 0) (dq (dY jC (RM hr) (dq (fE 0) dn)) dn)))) (KE.loose (dY ou (RM hr) (dq (fE 0) (dq (fE 1) dn)))))))
theorem Du (F:FM K mg "rings_of" (top 31))(B:kB mg)(lS:lP P w K mg base cl) :
  pP P w K mg base cl :=
 gf pJ ZN F λsc f fg A outer s H E n0 S has hr hu =>
 (dO (Bb 2 sc.nd (gk dn))
 (dO (gb 3 sc.nd (KN.data (C7 B.list (dN 1))))
 (dO (zw PassesOwn.never (eR IY (KE.loose (h9 gU B.len (eI (dN 3) dR))) (KE.loose dk))
 (dO (gb 4 sc.nd (dY lS (RM hr) (dq (fE 0) (dq (fE 3) dn))) (Or.inr rfl))
 (dO (pz 2 PySem.F.plainAttrs_list PySem.F.slot_list_append PySem.F.type_list_append (kK) (dq (fE 4) dn))
 (dC (rT (i:=3) false [] sc.nd (N:=ZM) (mp:=[none,some 4]) rfl (ma (dN 3)) rfl (co ZN (dw (top 31))) (λ_ _ _ _ _=>⟨(mi 0 (nd ZM)),(js (eR (AM hu) (dN 0) (KE.loose (dP (dN 1) (KE.loose dk))))),(fE 0)⟩) (hfd:=ym) (hfi:=(nf 3 [])))))))
 (dC (d9 (tJ i7 B.tuple (eI (dN 2) dR)))))))
theorem xl (F:FM K mg "ring_within" (top 32))(B:kB mg)(gu:jV P w K mg base cl)(kC:oR P w K mg base cl) :
  lP P w K mg base cl :=
 gf lL ZP F λsc f fg A outer s H E n0 S has hr hu =>
 (dO (Bb 2 sc.nd (gk (dq (dP (KE.loose (dP (KE.loose (dP (dN 0) (KE.loose dk))) (KE.loose (dP (dN 1) (KE.loose dk))))) (KE.loose dk)) dn)) (Or.inr rfl))
 (dO (Bb 3 sc.nd (gk dn) (Or.inr rfl))
 (dO (zw PassesOwn.never (eR (AM hu) (KE.loose (dP (dN 2) (KE.loose (kI dk)))) (KE.loose (mO (dN 2) eO (eP (kI dk)))))
 (dO (gb 4 sc.nd (dP (KE.loose (KN.data (g8 [] (N:=ZO) (mp:=[none,some 3,some 0,some 2]) rfl (ma (dN 1)) rfl (co ZP (dw (top 32))) (λ_ _ _ _ _=>⟨(mi 0 (nd ZO)),(js (KW.kb (w_and (eR (AM hu) (dN 0) (dN 1)) (rQ (gT (dY kC (RM hr) (dq (fE 2) (dq (dP (dN 3) (KE.loose (kI dk))) (dq (fE 0) dn))))))))),(fE 0)⟩) (hfd:=ym)))) (KE.loose dk)))
 (dO (pz 3 PySem.F.plainAttrs_list PySem.F.slot_list_append PySem.F.type_list_append (kK) (dq (fE 4) dn))
 (dC (pz 2 PySem.F.plainAttrs_list PySem.F.slot_list_append PySem.F.type_list_append (kK) (dq (dY gu (RM hr) (dq (dP (KE.loose (dP (dN 0) (KE.loose dk))) (dN 4)) (dq (dP (dN 2) (KE.loose (kI dk))) dn))) dn))))))
 (dO (gb 5 sc.nd (MU (dN 2) (dP (dN 2) (KE.loose (kI dk)))))
 (dC (d9 (eJ (dq (dP (dN 2) (KE.loose (kI dk))) (dq (tJ i7 B.tuple (eI (KE.loose (mO (dN 3) (eP (fE 5)) eO)) dR)) dn)))))))))
theorem Bs (F:FM K mg "ways_home" (top 33))(B:kB mg)(gu:jV P w K mg base cl)(iM:mY P w K mg base cl)(pT:pN P w K mg base cl) :
  lA P w K mg base cl :=
 gf nY N27 F λsc f fg A outer s H E n0 S has hr hu =>
 (dO (MZ (i:=1) sc.nd (Or.inl rfl) (hfd:=(nf 1 [])))
 (dO (nA PassesOwn.never rfl (AX (dY pT (RM hr) (dq (fE 0) dn))) (mi 2 sc.nd)
 (dC (JL 1 (C1 hu) (KE.loose (dP (dN 2) (KE.loose dk))) (eJ dn))))
 (dO (gb 3 sc.nd jM)
 (dO (zw PassesOwn.never (gT (fE 3))
 (dO (gb 3 sc.nd jM)
 (dC (nA PassesOwn.never rfl (Jg B.enumerate (dP (dN 0) (KE.loose dk))) (RN (n':=2) rfl (tK (mi 4 sc.nd) (tK (mi 5 sc.nd) rS)) (RQ [4,5]) rfl)
 (dC (km (eR (zr hu) (KE.loose (Ou 1 (C1 hu) (KE.loose (dP (dN 5) (KE.loose dk))))) (KE.loose (Ou 1 (C1 hu) (KE.loose (dP (dN 5) (KE.loose dk)))))) (dO (gb 6 sc.nd (MC (U3 1 (C1 hu) (KE.loose (dP (dN 5) (KE.loose dk)))) (dP (dN 5) (KE.loose dk)) (dP (dN 5) (KE.loose dk))))
 (dO (JL 1 (C1 hu) (KE.loose (dY gu (RM hr) (dq (fE 5) (dq (fE 6) dn)))) (dY iM (RM hr) (dq (Q4 1 (C1 hu) (dN 6)) (dq (eJ (dq (fE 4) dn)) dn))))
 (dC (gb 3 sc.nd jM)))) fi))))))
 (dC (Ji 1))))))
end
section
variable {P:aZ}{w:World}{K:W.Frag}{mg:Str->Option af}{base:Heap}{f:Addr}{fd:bq}{cl:Str->Addr}{Y:wN}
theorem zN (F:FM K mg "base_rings" (top 34))(B:kB mg)(iM:mY P w K mg base cl) :
  m7 P w K mg base cl :=
 gf mU X4 F λsc f fg A outer s H E n0 S has hr hu =>
 (dO (rT (i:=2) false [] sc.nd (N:=X5) (mp:=[none,none,some 1]) rfl (zv B.enumerate (KE.loose (dP (dN 0) (KE.loose dk)))) rfl (co X4 (dw (top 34))) (λ_ _ _ _ _=>⟨(RN (n':=2) rfl (tK (mi 0 (nd X5)) (tK (mi 1 (nd X5)) rS)) (RQ [0,1]) rfl),lG,(dY iM (RM hr) (dq (eJ (dq (fE 0) dn)) (dq (dY iM (RM hr) (dq (Dh (C1 hu) (dN 2) (KE.loose (dP (dN 1) (KE.loose dk)))) (dq (Dh (C1 hu) (dN 2) (KE.loose (dP (dN 1) (KE.loose dk)))) dn))) dn)))⟩) (hfd:=ym) (hfi:=(nf 2 [])))
 (dC (d9 (KN.data (g8 [] (N:=V0) (mp:=[none]) rfl (ma (dN 2)) rfl (co X4 (dw (top 34))) (λ_ _ _ _ _=>⟨(mi 0 (nd V0)),(js (eR (zr hu) (dN 0) (KE.loose (eJ dn)))),(fE 0)⟩) (hfd:=ym))))))
theorem Gh (F:FM K mg "side_by" (top 36))(B:kB mg)(iR:lA P w K mg base cl) :
  sk P w K mg base cl :=
 gf sd ZR F λsc f fg A outer s H E n0 S has hr hu =>
 (dO (gb 2 sc.nd (dY iR (RM hr) (dq (fE 0) dn)) (Or.inr rfl))
 (dC (d9 (tJ i7 B.tuple (eI (KE.loose (KN.data (g8 [] (N:=X6) (mp:=[none,some 2,some 1]) rfl (oH B.range (dP (dN 0) (KE.loose dk))) rfl (co ZR (dw (top 36))) (λ_ _ _ _ _=>⟨(mi 0 (nd X6)),(js (eR (i6 hu) (KE.loose (fV vq (KE.loose (h9 gU B.len (eI (KE.loose (KN.data (g8 [] (N:=ZQ) (mp:=[none,some 2]) rfl (ma (KE.loose (Dh (C1 hu) (dN 1) (dN 0)))) rfl (UW (co X6 _)) (λ_ _ _ _ _=>⟨(mi 0 (nd ZQ)),(js (eR (xh hu) (dN 0) (dN 1))),(fE 0)⟩) (hfd:=ym)))) dR))) (KE.loose dk))) (KE.loose dk))),(fE 0)⟩) (hfd:=ym)))) dR)))))
theorem v7 (F:FM K mg "is_side_kind" (top 38))(B:kB mg)(sr:si P w K mg base cl)(fL:iD P w K mg base cl) :
  kY P w K mg base cl :=
 gf jc N34 F λsc f fg A outer s H E n0 S has hr hu =>
 (dC (d9 (l8 (dY fL (RM hr) (dq (fE 2) (dq dk dn))) (l8 (ic (i6 hu) (KE.loose (dP (dN 2) (KE.loose dk))) (dN 1)) (k_one (dY sr (RM hr) (dq (fE 0) (dq (dP (dN 2) (KE.loose dk)) dn))))))))
theorem Gi (F:FM K mg "rest_of" (top 40))(B:kB mg) :
  sm P w K mg base cl :=
 gf se X7 F λsc f fg A outer s H E n0 S has hr hu =>
 (dO (gb 2 sc.nd (tJ i7 B.tuple (eI (KE.loose (KN.data (g8 [] (N:=ZS) (mp:=[none,some 1]) rfl (oH B.range (h9 gU B.len (eI (KE.loose (dP (dN 0) (KE.loose dk))) dR))) rfl (co X7 (dw (top 40))) (λ_ _ _ _ _=>⟨(mi 0 (nd ZS)),(js (eR (AM hu) (dN 0) (dN 1))),(fE 0)⟩) (hfd:=ym)))) dR)))
 (dC (d9 (eJ (dq (eJ (dq (dP (dN 0) (KE.loose dk)) (dq (tJ i7 B.tuple (eI (KE.loose (KN.data (g8 [] (N:=RS) (mp:=[none,some 0]) rfl (ma (dN 2)) rfl (co X7 (dw (top 40))) (λ_ _ _ _ _=>⟨(mi 0 (nd RS)),lG,(dP (KE.loose (dP (dN 1) (KE.loose dk))) (dN 0))⟩) (hfd:=ym)))) dR)) dn))) (dq (fE 2) dn))))))
end
section
variable {P:aZ}{w:World}{K:W.Frag}{mg:Str->Option af}{base:Heap}{f:Addr}{fd:bq}{cl:Str->Addr}{Y:wN}
theorem xm (F:FM K mg "halves_told" (top 42))(B:kB mg)(pU:pP P w K mg base cl)(su:sk P w K mg base cl)(jC:mZ P w K mg base cl)(ni:m7 P w K mg base cl)(iR:lA P w K mg base cl)(sv:sm P w K mg base cl) :
  lQ P w K mg base cl :=
 gf lM V1 F λsc f fg A outer s H E n0 S has hr hu =>
 (dO (rT (i:=1) false [] sc.nd (N:=X8) (mp:=[none,none]) rfl (zv B.enumerate (KE.loose (dP (dN 0) (KE.loose dk)))) rfl (co V1 (dw (top 42))) (λ_ _ _ _ _=>⟨(RN (n':=2) rfl (tK (mi 0 (nd X8)) (tK (mi 1 (nd X8)) rS)) (RQ [0,1]) rfl),(js (eR (i6 hu) (KE.loose (dP (dN 1) (KE.loose dk))) (KE.loose dk))),(fE 0)⟩) (hfd:=ym) (hfi:=(nf 1 [])))
 (dO (gb 2 sc.nd (dY sv (RM hr) (dq (fE 0) (dq (fE 1) dn))) (Or.inr rfl))
 (dO (rT (i:=3) false [] sc.nd (N:=V0) (mp:=[none]) rfl (ma (KE.loose (dY ni (RM hr) (dq (dP (dN 2) (KE.loose dk)) (dq (dY iR (RM hr) (dq (dP (dN 2) (KE.loose dk)) dn)) dn))))) rfl (co V1 (dw (top 42))) (λ_ _ _ _ _=>⟨(mi 0 (nd V0)),(js (eR (i6 hu) (KE.loose (fV vq (KE.loose (h9 gU B.len (eI (dN 0) dR))) (KE.loose dk))) (KE.loose dk))),(fE 0)⟩) (hfd:=ym) (hfi:=(nf 3 [])))
 (dO (km (eR (i6 hu) (KE.loose (h9 gU B.len (eI (dN 3) dR))) (KE.loose dk)) (dC (d9 (eJ (dq ir (dq (dY su (RM hr) (dq (dP (dN 2) (KE.loose dk)) (dq (dY jC (RM hr) (dq (dP (dN 2) (KE.loose dk)) dn)) dn))) dn))))) fi)
 (dO (gb 4 sc.nd (dP (KE.loose (dY pU (RM hr) (dq (dP (dN 2) (KE.loose dk)) (dq (dP (dN 3) (KE.loose dk)) dn)))) (KE.loose dk)))
 (dC (d9 (eJ (dq ir (dq (dP (dN 4) (KE.loose dk)) (dq (tJ i7 B.tuple (eI (KE.loose (KN.data (g8 [] (N:=ZT) (mp:=[none,some 2]) rfl (ma (KE.loose (dP (dN 4) (KE.loose dk)))) rfl (co V1 (dw (top 42))) (λ_ _ _ _ _=>⟨(mi 0 (nd ZT)),lG,(dP (KE.loose (dP (dN 1) (KE.loose dk))) (dN 0))⟩) (hfd:=ym)))) dR)) dn)))))))))))
theorem xn (F:FM K mg "lets_halves" (top 43))(B:kB mg)(pV:pO P w K mg base cl)(fL:iD P w K mg base cl)(k9:kY P w K mg base cl)(sy:sj P w K mg base cl) :
  iE P w K mg base cl :=
 gf iC N7 F λsc f fg A outer s H E n0 S has hr hu =>
 (dO (km (gT (dY k9 (RM hr) (dq (fE 0) (dq ir (dq (fE 1) dn))))) (dC (d9 (ic (i6 hu) (KE.loose (dY sy (RM hr) (dq (fE 0) (dq (dP (dN 1) (KE.loose dk)) dn)))) (KE.loose dk)))) fi)
 (dO (km (KW.kb (w_or (kc (gT (dY fL (RM hr) (dq (fE 1) (dq dk dn))))) (w_or (eR (zr hu) (KE.loose (dP (dN 1) (KE.loose dk))) (KE.loose ir)) (nQ (kc (gT (dY pV (RM hr) (dq (fE 0) (dq (mO (dN 1) (eP dk) eO) dn))))))))) (dC (d9 jM)) fi)
 (dC (d9 (l8 (ic (i6 hu) (KE.loose (fV vq (KE.loose (h9 gU B.len (eI (KE.loose (dP (dN 1) (KE.loose dk))) dR))) (KE.loose dk))) (KE.loose dk)) (k_one (h9 (UD rfl) B.all (eI (KE.loose (KN.data (g8 [] (N:=RS) (mp:=[none,some 0]) rfl (ma (KE.loose (dP (dN 1) (KE.loose dk)))) rfl (co N7 (dw (top 43))) (λ_ _ _ _ _=>⟨(mi 0 (nd RS)),lG,(ic IY (KE.loose (dP (KE.loose (dP (KE.loose (dP (dN 1) (KE.loose dk))) (dN 0))) (KE.loose dk))) (KE.loose dk))⟩) (hfd:=ym)))) dR))))))))
theorem Bt (F:FM K mg "_law_price" (top 47))(B:kB mg)(dE:fU P w K mg base Y) :
  oh P w K mg base Y :=
 tj (C:=XC λ_=>0) nZ N40 F λsc f fg A outer s H E fa sa n0 S hf hS has hr hu =>
 (dC (d9 (dP (KE.loose (KN.data (gk (dq dk (dq dk (dq dk (dq dk (dq (fV f9 (KE.loose dk) (KE.loose (ef 0 dE (RM hr) (dq dk dn) (hfd:=(by decide:0∈[0]))))) (dq (ef 0 dE (RM hr) (dq dk dn) (hfd:=(by decide:0∈[0]))) dn))))))))) (KE.loose (ef 0 dE (RM hr) (dq dk dn) (hfd:=(by decide:0∈[0])))))))
theorem Gj (F:FM K mg "_law_web" (top 48))(B:kB mg)(dE:fU P w K mg base Y)(ox:oh P w K mg base Y) :
  so P w K mg base Y :=
 tj (C:=XC λ_=>0) sf N41 F λsc f fg A outer s H E fa sa n0 S hf hS has hr hu =>
 (dO (gb 3 sc.nd (fV f9 (KE.loose dk) (KE.loose (ef 0 dE (RM hr) (dq (fE 1) dn) (hfd:=(by decide:0∈[0]))))))
 (dO (Bb 4 sc.nd (gk dn))
 (dO (nA PassesOwn.never rfl (uf B.range (fV Es (KE.loose (ef 0 dE (RM hr) (dq (fV f9 (dN 2) (KE.loose dk)) dn) (hfd:=(by decide:0∈[0])))) (KE.loose (tJ Um B.int (eI (KE.loose (ic IY (dN 3) (KE.loose dk))) dR))))) (mi 5 sc.nd)
 (dO (gb 6 sc.nd (ef 0 dE (RM hr) (dq (fE 3) dn) (hfd:=(by decide:0∈[0]))))
 (dO (gb 7 sc.nd (fV vq (KE.loose (fV f9 (KE.loose (fV f9 (dN 6) (KE.loose dk))) (KE.loose (ef 0 dE (RM hr) (dq (fV yh (dN 3) (KE.loose dk)) dn) (hfd:=(by decide:0∈[0])))))) (dN 3)))
 (dC (pz 4 PySem.F.plainAttrs_list PySem.F.slot_list_append PySem.F.type_list_append (kK) (dq (eJ (dq (h9 (I0 rfl) B.min (eI (dN 6) (eI (dN 7) dR))) (dq (h9 (I8 rfl) B.max (eI (dN 6) (eI (dN 7) dR))) (dq (ef 0 ox (RM hr) dn (hfd:=(by decide:0∈[0]))) dn)))) dn))))))
 (dC (d9 (eJ (dq (fE 3) (dq (tJ i7 B.tuple (eI (dN 4) dR)) dn))))))))
end
section
variable {P:aZ}{w:World}{K:W.Frag}{mg:Str->Option af}{base:Heap}{f:Addr}{fd:bq}{cl:Str->Addr}{Y:wN}
theorem Gk (F:FM K mg "_law_odd" (top 49))(B:kB mg)(dE:fU P w K mg base Y) :
  mn P w K mg base Y :=
 tj (C:=XC λ_=>0) sg N42 F λsc f fg A outer s H E fa sa n0 S hf hS has hr hu =>
 (dO (gb 2 sc.nd (KN.data (gk (dq ye (dq jM (dq jM (dq (kI dk) (dq dk (dq dk (dq dk (dq dk (dq (fV Ui (KE.loose dk) (KE.loose dk)) (dq ir (dq ir (dq ir (dq (eJ dn) (dq (KN.data (gk dn)) (dq (eJ (dq dk dn)) (dq (eJ (dq dk (dq dk dn))) (dq (eJ (dq dk (dq dk dn))) dn))))))))))))))))))))
 (dO (gb 2 sc.nd (fV f9 (dN 2) (KE.loose (KN.data (gk (dq (eJ (dq jM dn)) (dq (eJ (dq (eJ (dq dk dn)) dn)) dn)))))))
 (Jh (km (gT (kM B.isinstance B.tuple (dN 1))) (dC (gb 2 sc.nd (fV f9 (dN 2) (KE.loose (fV Es (KE.loose (KN.data (gk (dq (KN.data (C7 B.list (dN 1))) (dq (fV f9 (dN 1) (KE.loose (eJ (dq dk dn)))) (dq (mO (dN 1) eO (eP (kI dk))) (dq (mO (dN 1) (eP dk) eO) (dq (fV f9 (dN 1) (KE.loose (mO (dN 1) eO (eP dk)))) (dq (eJ (dq (fE 1) dn)) (dq (QN (dN 1)) dn)))))))))) (KE.loose dk)))))) fi)
 (Jh (km (KW.kb (w_and (gT (kM B.isinstance B.int (dN 1))) (rQ (kc (gT (kM B.isinstance B.bool (dN 1))))))) (dC (gb 2 sc.nd (fV f9 (dN 2) (KE.loose (fV Es (KE.loose (KN.data (gk (dq (fV f9 (dN 1) (KE.loose dk)) (dq (fV yh (dN 1) (KE.loose dk)) (dq (fV Es (dN 1) (KE.loose dk)) dn)))))) (KE.loose dk)))))) fi)
 (dC (d9 (dP (dN 2) (KE.loose (ef 0 dE (RM hr) (dq (h9 gU B.len (eI (dN 2) dR)) dn) (hfd:=(by decide:0∈[0])))))))))))
theorem Dv {kk:Nat}(Rc:UF)(RJ:2<=kk)(F:FM K mg "_law_bent" (top 50))(B:kB mg)(dE:fU P w K mg base Y)(iS:mn P w K mg base Y)(gK:dZ P w K mg base kk "_law_bent" ["_law_feed_here", "_law_part", "_law_deep"] (nS Y Rc)) :
  dZ P w K mg base (kk+1) "_law_bent" ["_law_feed_here", "_law_part", "_law_deep"] (nS Y (pL Rc)) :=
 tj (C:=XC λ_=>0) (pK Rc) N43 F λsc f fg A outer s H E fa sa n0 S hf hS has hr hu =>
 (Jh (km (KW.kb (w_or (kc (gT (kM B.isinstance B.tuple (dN 1)))) (w_or (eR (i6 hu) (KE.loose (h9 gU B.len (eI (dN 1) dR))) (KE.loose dk)) (w_or (eR (i6 hu) (dN 2) (KE.loose dk)) (nQ (eR (i6 hu) (KE.loose (ef 0 dE (hr.mono (!1)) (dq dk dn) (hfd:=(by decide:0∈[0])))) (KE.loose dk))))))) (dC (d9 (ef 0 iS (hr.mono (!1)) (dq (fE 1) dn) (hfd:=(by decide:0∈[0]))))) fi)
 (dO (gb 3 sc.nd (ef 0 dE (hr.mono (!1)) (dq (h9 gU B.len (eI (dN 1) dR)) dn) (hfd:=(by decide:0∈[0]))))
 (dC (d9 (fV f9 (KE.loose (fV f9 (KE.loose (mO (dN 1) eO (eP (fE 3)))) (KE.loose (eJ (dq (ef 0 gK (hr.mono (!1)) (dq (dP (dN 1) (dN 3)) (dq (fV yh (dN 2) (KE.loose dk)) dn)) (hfd:=(by decide:0∈[0]))) dn))))) (KE.loose (mO (dN 1) (eP (fV f9 (dN 3) (KE.loose dk))) eO)))))))
theorem tq (F:FM K mg "_law_bent" (top 50))(B:kB mg)(dE:fU P w K mg base Y)(iS:mn P w K mg base Y):∀d:Nat,dZ P w K mg base (3+d) "_law_bent" ["_law_feed_here", "_law_part", "_law_deep"] (nS Y (jT d))
 | 0=>let ⟨_,_,F,hm⟩:=F.ex;UP F hm (F.binds λ_ _ _ _ _ _ us hl=>by obtain⟨_,_,_,rfl⟩:=MS hl;rfl)
 | d+1=>Dv (kk:=3+d) _ (!1) F B dE iS (tq F B dE iS d)
theorem Dw (F:FM K mg "_law_bent" (top 50))(B:kB mg)(dE:fU P w K mg base Y)(iS:mn P w K mg base Y):m8 P w K mg base Y:=tq F B dE iS 10
theorem Bu (F:FM K mg "_law_whole" (top 51))(B:kB mg) :
  oj P w K mg base cl :=
 gf n6 N44 F λsc f fg A outer s H E n0 S has hr hu =>
 (dC (d9 (l8 (kM B.isinstance B.int (dN 0)) (l8 (k_not (kM B.isinstance B.bool (dN 0))) (k_one (UH Uh Ug (KE.loose dk) (dN 0) (dN 1)))))))
theorem Gm (F:FM K mg "_law_due" (top 52))(B:kB mg)(jW:oj P w K mg base cl) :
  oS P w K mg base cl :=
 gf sh X9 F λsc f fg A outer s H E n0 S has hr hu =>
 (dO (km (KW.kb (w_or (kc (gT (kM B.isinstance B.tuple (dN 1)))) (w_or (eR (i6 hu) (KE.loose (h9 gU B.len (eI (dN 1) dR))) (KE.loose dk)) (nQ (kc (gT (kM B.isinstance B.str (KE.loose (dP (dN 1) (KE.loose dk)))))))))) (dC (d9 jM)) fi)
 (dO (km (KW.kb (w_and (eR (i6 hu) (KE.loose (dP (dN 1) (KE.loose dk))) (KE.loose ir)) (w_and (eR (i6 hu) (KE.loose (h9 gU B.len (eI (dN 1) dR))) (KE.loose dk)) (rQ (gT (kM B.isinstance B.tuple (KE.loose (dP (dN 1) (KE.loose dk))))))))) (dO (gb 2 sc.nd (dP (dN 1) (KE.loose dk)) (Or.inr rfl))
 (dO (km (KW.kb (w_or (eR (xh hu) (KE.loose jM) (KE.loose (KN.data (g8 [] (N:=ZV) (mp:=[none,some 0]) rfl (ma (dN 2)) rfl (co X9 (dw (top 52))) (λ_ _ _ _ _=>⟨(mi 0 (nd ZV)),lG,(dY jW (RM hr) (dq (fE 0) (dq (dP (dN 1) (KE.loose dk)) dn)))⟩) (hfd:=ym))))) (nQ (eR (zr hu) (KE.loose (KN.data (Ey B.sorted B.set rfl (dN 2)))) (KE.loose (KN.data (C7 B.list (dN 2)))))))) (dC (d9 jM)) fi)
 (dC (d9 (ic (i6 hu) (KE.loose (KN.data (g8 [] (N:=ZU) (mp:=[none,some 2]) rfl (ma (KE.loose (dP (dN 0) (KE.loose dk)))) rfl (co X9 (dw (top 52))) (λ_ _ _ _ _=>⟨(mi 0 (nd ZU)),(js (KW.kb (w_and (eR IY (KE.loose (dP (dN 0) (KE.loose dk))) (KE.loose dk)) (rQ (eR (i6 hu) (KE.loose (ic (xh hu) (KE.loose (dP (dN 0) (KE.loose dk))) (dN 1))) (KE.loose (ic (xh hu) (KE.loose (dP (dN 0) (KE.loose dk))) (dN 1)))))))),(fE 0)⟩) (hfd:=ym)))) (KE.loose (KN.data (gk dn)))))))) fi)
 (dO (km (KW.kb (w_or (eR (zr hu) (KE.loose (dP (dN 1) (KE.loose dk))) (KE.loose ir)) (w_or (eR (zr hu) (KE.loose (h9 gU B.len (eI (dN 1) dR))) (KE.loose dk)) (w_or (kc (gT (dY jW (RM hr) (dq (dP (dN 1) (KE.loose dk)) (dq (dP (dN 0) (KE.loose dk)) dn))))) (nQ (kc (gT (kM B.isinstance B.tuple (KE.loose (dP (dN 1) (KE.loose dk))))))))))) (dC (d9 jM)) fi)
 (dO (gb 3 sc.nd (dP (dN 1) (KE.loose dk)))
 (dO (nA PassesOwn.never rfl (AX (dP (dN 1) (KE.loose dk))) (mi 4 sc.nd)
 (dO (km (KW.kb (w_or (kc (gT (dY jW (RM hr) (dq (fE 4) (dq (h9 gU B.len (eI (KE.loose (dP (dN 0) (KE.loose dk))) dR)) dn))))) (w_or (eR (AM hu) (dN 3) (KE.loose (mO (KE.loose (dP (KE.loose (dP (dN 0) (KE.loose dk))) (dN 4))) eO (eP dk)))) (nQ (eR (i6 hu) (KE.loose (dP (KE.loose (dP (KE.loose (dP (dN 0) (KE.loose dk))) (dN 4))) (KE.loose dk))) (KE.loose dk)))))) (dC (d9 jM)) fi)
 (dC (gb 3 sc.nd (fV yh (KE.loose (h9 (Dc rfl) B.sum (eI (KE.loose (mO (KE.loose (dP (KE.loose (dP (dN 0) (KE.loose dk))) (dN 4))) eO (eP dk))) dR))) (dN 3))))))
 (dC (d9 (l8 (ic (i6 hu) (dN 3) (KE.loose (dP (dN 1) (KE.loose dk)))) (l8 (ic (i6 hu) (KE.loose (fV vq (KE.loose (h9 gU B.len (eI (KE.loose (dP (dN 1) (KE.loose dk))) dR))) (KE.loose dk))) (KE.loose dk)) (k_one (ic (i6 hu) (KE.loose (A2 B.len B.set rfl (KE.loose (dP (dN 1) (KE.loose dk))))) (KE.loose (h9 gU B.len (eI (KE.loose (dP (dN 1) (KE.loose dk))) dR))))))))))))))
end
section
variable {P:aZ}{w:World}{K:W.Frag}{mg:Str->Option af}{base:Heap}{f:Addr}{fd:bq}{cl:Str->Addr}{Y:wN}
theorem Dx (F:FM K mg "_law_walk" (top 53))(B:kB mg)(dE:fU P w K mg base Y) :
  pQ P w K mg base Y :=
 tj (C:=XC λ_=>0) pM ZX F λsc f fg A outer s H E fa sa n0 S hf hS has hr hu =>
 (dO (gb 2 sc.nd (ic (i6 hu) (KE.loose (ef 0 dE (RM hr) (dq dk dn) (hfd:=(by decide:0∈[0])))) (KE.loose dk)))
 (dO (gb 3 sc.nd (ef 0 dE (RM hr) (dq (dP (dN 1) (KE.loose dk)) dn) (hfd:=(by decide:0∈[0]))))
 (dO (gb 4 sc.nd (fE 3) (Or.inr rfl))
 (dO (gb 5 sc.nd (eJ dn))
 (dO (nA PassesOwn.never rfl (uf B.range (fV f9 (KE.loose dk) (KE.loose (ef 0 dE (RM hr) (dq dk dn) (hfd:=(by decide:0∈[0])))))) (mi 6 sc.nd)
 (dO (rT (i:=7) false [] sc.nd (N:=ZW) (mp:=[none,some 4,some 1]) rfl (oH B.range (h9 gU B.len (eI (KE.loose (dP (dN 1) (KE.loose dk))) dR))) rfl (co ZX (dw (top 53))) (λ_ _ _ _ _=>⟨(mi 0 (nd ZW)),(js (eR (xh hu) (dN 1) (KE.loose (mO (KE.loose (dP (KE.loose (dP (dN 2) (KE.loose dk))) (dN 0))) eO (eP dk))))),(fE 0)⟩) (hfd:=ym) (hfi:=(nf 7 [0])))
 (dC (km (KW.kb (w_and (eR (zr hu) (dN 7) (KE.loose (KN.data (gk dn)))) (rQ (KW.kb (w_or (gT (fE 2)) (w_or (eR (i6 hu) (dN 5) (KE.loose (eJ dn))) (nQ (eR (zr hu) (dN 4) (dN 3))))))))) (dO (gb 5 sc.nd (fV f9 (dN 5) (KE.loose (eJ (dq (dP (dN 7) (KE.loose (ef 0 dE (RM hr) (dq (h9 gU B.len (eI (dN 7) dR)) dn) (hfd:=(by decide:0∈[0]))))) dn)))))
 (dC (gb 4 sc.nd (fV yh (KE.loose (h9 (Dc rfl) B.sum (eI (KE.loose (mO (KE.loose (dP (KE.loose (dP (dN 1) (KE.loose dk))) (KE.loose (dP (dN 5) (KE.loose (kI dk)))))) eO (eP dk))) dR))) (dN 4)) (Or.inr rfl)))) fi))))
 (dC (d9 (eJ (dq ir (dq (fE 3) (dq (fE 5) dn)))))))))))
theorem xo (F:FM K mg "_law_passing" (top 54))(B:kB mg)(fb:iE P w K mg base cl)(dE:fU P w K mg base Y) :
  lR P w K mg base Y :=
 tj (C:=XC λ_=>0) lO N50 F λsc f fg A outer s H E fa sa n0 S hf hS has hr hu =>
 (dO (gb 1 sc.nd (fV f9 (KE.loose dk) (KE.loose (ef 0 dE (RM hr) (dq dk dn) (hfd:=(by decide:0∈[0]))))))
 (dO (gb 2 sc.nd (eJ (dq dk (dq (eJ (dq (eJ (dq dk (dq dk (dq (fE 1) dn)))) (dq (eJ (dq dk (dq dk (dq dk dn)))) (dq (eJ (dq dk (dq dk (dq (fE 1) dn)))) (dq (eJ (dq dk (dq dk (dq dk dn)))) (dq (eJ (dq dk (dq dk (dq dk dn)))) dn)))))) dn))))
 (dO (gb 3 sc.nd (dP (KE.loose (KN.data (gk (dq (eJ (dq dk (dq dk (dq dk (dq dk (dq dk dn)))))) (dq (eJ (dq dk (dq dk (dq dk (dq dk (dq dk dn)))))) (dq (eJ (dq dk (dq dk (dq dk (dq dk (dq dk dn)))))) dn)))))) (KE.loose (ef 0 dE (RM hr) (dq dk dn) (hfd:=(by decide:0∈[0]))))))
 (dO (km (KW.kb (w_or (eR QV (KE.loose (dY fb (RM hr) (dq (fE 2) (dq (eJ (dq ir (dq dk (dq (fE 3) dn)))) dn)))) (KE.loose jM)) (nQ (eR QZ (KE.loose (dY fb (RM hr) (dq (fE 2) (dq (eJ (dq ir (dq dk (dq (mO (dN 3) eO (eP dk)) dn)))) dn)))) (KE.loose jM))))) (dC (d9 jM)) fi)
 (dC (d9 (ic U1 (KE.loose (dY fb (RM hr) (dq (fE 2) (dq (eJ (dq ir (dq dk (dq (fV f9 (KE.loose (mO (dN 3) (eP dk) eO)) (KE.loose (mO (dN 3) eO (eP dk)))) dn)))) dn)))) (KE.loose jM))))))))
theorem v8 (F:FM K mg "_law_lettered" (top 55))(B:kB mg)(dE:fU P w K mg base Y) :
  kZ P w K mg base Y :=
 tj (C:=XC λ_=>0) kW N51 F λsc f fg A outer s H E fa sa n0 S hf hS has hr hu =>
 (dO (gb 2 sc.nd (ef 0 dE (RM hr) (dq (h9 JH B.len (eI (dN 1) dR)) dn) (hfd:=(by decide:0∈[0]))))
 (dO (gb 3 sc.nd ir)
 (dO (gb 4 sc.nd (UZ (dN 3) (KE.loose (ef 0 dE (RM hr) (dq (h9 JH B.len (eI (dN 3) dR)) dn) (hfd:=(by decide:0∈[0]))))))
 (dO (gb 5 sc.nd (KN.data (gk (dq (fV f9 (KE.loose (fV f9 (KE.loose (tm (dN 1) eO (eP (fE 2)))) (dN 4))) (KE.loose (tm (dN 1) (eP (fE 2)) eO))) (dq (fV f9 (dN 1) (dN 4)) (dq (fV f9 (KE.loose (tm (dN 1) eO (eP (fE 2)))) (KE.loose (tm (dN 1) (eP (fV f9 (dN 2) (KE.loose dk))) eO))) (dq (fV f9 (KE.loose (fV f9 (KE.loose (tm (dN 1) eO (eP (fE 2)))) (dN 4))) (KE.loose (tm (dN 1) (eP (fV f9 (dN 2) (KE.loose dk))) eO))) dn)))))))
 (dC (d9 (dP (KE.loose (fV f9 (dN 5) (KE.loose (KN.data (gk (dq (fV f9 (KE.loose (tm (dN 1) (eP (fE 2)) eO)) (KE.loose (tm (dN 1) eO (eP (fE 2))))) (dq (QX (dN 1)) dn))))))) (KE.loose (ef 0 dE (RM hr) (dq dk dn) (hfd:=(by decide:0∈[0])))))))))))
theorem Bv (F:FM K mg "_law_again" (top 56))(B:kB mg)(gK:m8 P w K mg base Y)(fb:iE P w K mg base cl)(kD:oS P w K mg base cl)(lg:kZ P w K mg base Y)(dE:fU P w K mg base Y) :
  om P w K mg base Y :=
 tj (C:=XC λ_=>0) n8 N52 F λsc f fg A outer s H E fa sa n0 S hf hS has hr hu =>
 (dO (nA PassesOwn.never rfl (uf B.range dk) (mi 3 sc.nd)
 (dO (gb 4 sc.nd (dP (dN 2) (KE.loose (ef 0 dE (RM hr) (dq (h9 gU B.len (eI (dN 2) dR)) dn) (hfd:=(by decide:0∈[0]))))))
 (dO (gb 5 sc.nd (fV f9 (KE.loose (eJ (dq (ef 0 lg (RM hr) (dq (dP (dN 4) (KE.loose dk)) dn) (hfd:=(by decide:0∈[0]))) dn))) (KE.loose (mO (dN 4) (eP dk) eO))))
 (dC (nA PassesOwn.never rfl (AX (KN.data (gk (dq (fE 5) (dq (fE 4) (dq (ef 0 gK (RM hr) (dq (ef 0 gK (RM hr) (dq (fE 4) (dq dk dn)) (hfd:=(by decide:0∈[0]))) (dq dk dn)) (hfd:=(by decide:0∈[0]))) (dq (fE 4) dn))))))) (mi 6 sc.nd)
 (dC (km (eR JB (KE.loose (rW hr B.repr (dY fb (RM hr) (dq (fE 1) (dq (fE 6) dn))))) (KE.loose (rW hr B.repr (dY kD (RM hr) (dq (fE 1) (dq (fE 6) dn)))))) (dC (d9 jM)) fi)))))))
 (dC (d9 jM)))
end
section
variable {P:aZ}{w:World}{K:W.Frag}{mg:Str->Option af}{base:Heap}{f:Addr}{fd:bq}{cl:Str->Addr}{Y:wN}
theorem U8 (F:wK K "law" "law" (top 57) f fd)(B:kB mg)(pW:dZ P w K mg base 1 "_law_feed" ["_law_script"] (uj Y K))(oy:om P w K mg base Y)(fb:iE P w K mg base cl)(kD:oS P w K mg base cl)(gK:m8 P w K mg base Y)(dE:fU P w K mg base Y)(pX:pQ P w K mg base Y)(lT:lQ P w K mg base cl)(sA:so P w K mg base Y)(lU:lR P w K mg base Y)(hu0:Bl { nx:=λ_ _=>False,rt:=λd _=>d=.bool true } (List.replicate 10 none) 0) :
  jX P w K mg base wJ 20 f fd ["_law_script"] (A3 K):=by
 have sc:fK V2 ["_law_script"] (dw (top 57)):=RP;refine XR (C:=XC cl) (Y:=Y) (k:=19) (u:=Bl) F sc (!2) (λfg A outer s H E hr=>⟨jY (i:=1) sc.nd rfl (Or.inr rfl) (u1 pW (RM hr) (iI (qv 0) fj)),λfa sa n0 S H1 hf hS has=>?_⟩) rfl hu0;have hu:=hr.units;unfold Bl;exact (dO (km (kc (gT (ef 1 lU (RM hr) dn (hfd:=(by decide:1∈[1]))))) (dC (d9 jM)) fi)
 (dO (nA PassesOwn.never rfl (uf B.range dk) (mi 2 sc.nd)
 (dO (gb 3 sc.nd (ef 1 sA (RM hr) (dq (dP (KE.loose (KN.data (gk (dq dk (dq dk dn))))) (KE.loose (fV vq (dN 2) (KE.loose dk)))) (dq (dP (KE.loose (KN.data (gk (dq dk (dq dk dn))))) (KE.loose (fV vq (dN 2) (KE.loose dk)))) dn)) (hfd:=(by decide:1∈[1]))) (Or.inr rfl))
 (dO (Bb 4 sc.nd (gk (dq (dY lT (RM hr) (dq (fE 3) dn)) (dq ye (dq (eJ dn) (dq (eJ (dq ir dn)) (dq (eJ (dq ir (dq dk (dq (eJ dn) dn)))) (dq (eJ (dq ir (dq jM dn))) (dq (eJ (dq ir (dq jM (dq (eJ (dq dk dn)) dn)))) dn)))))))) (Or.inr rfl))
 (dO (pz 4 PySem.F.plainAttrs_list PySem.F.slot_list_append PySem.F.type_list_append (kK) (dq (eJ (dq ir (dq (tJ i7 B.tuple (eI (KE.loose (KN.data (g8 [1] (N:=Z0) (mp:=[none,some 1]) rfl (oH B.range (dP (dN 3) (KE.loose dk))) rfl (co V2 (dw (top 57))) (λ_ _ _ _ _=>⟨(mi 0 (nd Z0)),(js (eR (i6 hu) (KE.loose (ef 1 dE (RM hr) (dq dk dn) (hfd:=(by decide:1∈[1])))) (KE.loose dk))),(fE 0)⟩) (hfd:=(XJ (i:=1) rfl))))) dR)) dn))) dn))
 (dO (Bb 4 sc.nd (UE (dN 4) (KE.loose (KN.data (g8 [1] (N:=ZZ) (mp:=[none,some 1,some 3]) rfl (oH B.range dk) rfl (co V2 (dw (top 57))) (λ_ _ _ _ _=>⟨(mi 0 (nd ZZ)),lG,(ef 1 pX (RM hr) (dq (fE 2) dn) (hfd:=(by decide:1∈[1])))⟩) (hfd:=(XJ (i:=1) rfl)))))) (Or.inr rfl))
 (dO (rT (i:=5) false [1] sc.nd (N:=ZY) (mp:=[none,some 1,some 4]) rfl (oH B.range dk) rfl (co V2 (dw (top 57))) (λ_ _ _ _ _=>⟨(mi 0 (nd ZY)),lG,(ef 1 gK (RM hr) (dq (dP (dN 2) (KE.loose (dP (KE.loose (KN.data (gk (dq dk (dq dk (dq dk (dq dk dn))))))) (KE.loose (ef 1 dE (RM hr) (dq dk dn) (hfd:=(by decide:1∈[1]))))))) (dq dk dn)) (hfd:=(by decide:1∈[1])))⟩) (hfd:=(XJ (i:=1) rfl)) (hfi:=(nf 5 [1])))
 (dO (Bb 6 sc.nd (gk dn))
 (dO (nA PassesOwn.never rfl (AX (fV f9 (dN 4) (dN 5))) (mi 7 sc.nd)
 (dO (gb 8 sc.nd (rW hr B.repr (eJ (dq (fE 3) (dq (fE 7) dn)))))
 (dO (gb 9 sc.nd (dY kD (RM hr) (dq (fE 3) (dq (fE 7) dn))))
 (dO (km (KW.kb (w_or (eR JB (KE.loose (rW hr B.repr (dY fb (RM hr) (dq (fE 3) (dq (fE 7) dn))))) (KE.loose (rW hr B.repr (fE 9)))) (nQ (eR JB (KE.loose (rW hr B.repr (eJ (dq (fE 3) (dq (fE 7) dn))))) (dN 8))))) (dC (d9 jM)) fi)
 (dC (km (gT (fE 9)) (dC (pz 6 PySem.F.plainAttrs_list PySem.F.slot_list_append PySem.F.type_list_append (kK) (dq (dP (dN 7) (KE.loose dk)) dn))) fi))))))
 (dC (km (KW.kb (w_and (eR (xh hu) (KE.loose ir) (dN 6)) (rQ (eR (xh hu) (KE.loose ir) (dN 6))))) (dC (d9 jM)) fi))))))))))
 (dC (d9 (ef 1 oy (RM hr) (dq (fE 3) (dq (fV f9 (KE.loose (mO (dN 4) eO (eP dk))) (KE.loose (mO (dN 4) (eP dk) eO))) dn)) (hfd:=(by decide:1∈[1])))))))
end
end Odj
namespace Odj
open PySem L2
local macro_rules | `(tactic| simp! [$ls,*]) => do let ex <- ("iX g9 envOf List.length_cons List.length_nil List.map_cons List.map_nil List.cons_append List.nil_append List.append_nil List.replicate_succ List.replicate_zero Nat.reduceSub Nat.reduceAdd true_and and_true dv d8 eQ dW qJ dS nD dA di uC dm dh eG uL Jm dB dM dD mN lj iu ig Qt Eo MB vm gM kL du Qs vz kf kJ MI Jd Uq MK ff vx MJ FT nE mE ku j2 MN yj AZ rV JC iP qL gO Hd AR vy dj IV jr ee lr List.getElem?_cons_zero List.getElem?_cons_succ List.set_cons_zero List.set_cons_succ Option.join_some Option.join_none if_true if_false Bool.not_true Bool.not_false Bool.true_eq_false Bool.false_eq_true reduceIte".splitOn " ").toArray.mapM λs => `(Lean.Parser.Tactic.simpLemma| $(Lean.mkIdent s.toName):ident);`(tactic| simp only[$ls,*, $ex,*])
noncomputable abbrev eC:=Int × Int × Int
noncomputable def eS (t:eC):ad:=.tuple [.int t.1,.int t.2.1,.int t.2.2]
noncomputable def d0 (many:Int)(ts:List eC):ad:=.tuple [.int many,.tuple (ts.map eS)]
noncomputable def dF (ns:List Int):ad:=.tuple (ns.map .int)
theorem yC:∀ts:List eC,ad.canLayAll0 (ts.map eS)=true
 | []=>rfl
 | t::ts=>by simp only[am,ad.canLayAll0,eS,ad.canLay0,yC ts];rfl
theorem JZ (ts:List eC):(ad.list (ts.map eS)).canLay0=true:=yC ts
theorem yD:∀ts:List eC,ad.depthAll (ts.map eS)<=1
 | []=>by simp[ad.depthAll]
 | t::ts=>by have:=yD ts;simp only[am,ad.depthAll,eS,ad.depth];omega
theorem J1 (ts:List eC):(ad.list (ts.map eS)).depth<=60:=by have:=yD ts;simp only[ad.depth];omega
theorem yE (i j:Int):vn (.int i) (.int j)=some (.int (i - j)):=by simp only[vn]
theorem qX (i j:Int):fw (.int i) (.int j)=some (.int (i+j)):=by simp only[fw]
noncomputable def nj (d:ad):Bool:=match d with | .int _=>true | _=>false
section
variable {n:Int}{Q:ad->Int->Prop}{X:XQ}
theorem tu (d:ad):jy [d] n Q X=Q (.bool (nj d)) n:=by
 simp! [jy,pD];cases d<;>simp[jO,nj]
noncomputable def je (k:Int)(d:ad):Bool:=match d with | .tuple ds=>decide ((ds.length:Int)=k) | _=>false
theorem gg (d:ad)(k:Int):gQ [d,.int k] n Q X=Q (.bool (je k d)) n:=by
 simp! [gQ,lK];cases d<;>simp[jO,eB,fc,je]
noncomputable def rising:Int->List ad->Bool
 | _,[]=>true
 | a,.int i::ds=>decide (a<i) && rising i ds
 | _,_::_=>false
noncomputable def qY (d:ad):Bool:=match d with | .tuple ds=>rising (-1) ds | _=>false
theorem zO (d:ad):lx [d] n Q X=Q (.bool (qY d)) n:=by
 simp! [lx,nU]
 cases d with
 | tuple ds =>
  simp! [jO,qY,bB,bH,if_false,if_true,iK]
  have key:∀(ds:List ad) (a:Int) (t:ad) (x:Option nG),ix (gO 2) (dv (eQ (lj (iu (dM (du jy (dh (dA 2) dm)))) (dM (dB Qu (di 2) (di 1)))) (dW (uC (.bool false))) d8) (dS 1 (dA 2)))
    { nx:=λ_ n=>Q (.bool true) n,rt:=Q } ds [some (.s t),some (.s (.int a)),x] n=Q (.bool (rising a ds)) n:=by
   intro ds
   induction ds with
   | nil=>intro a t x;simp[ix,rising]
   | cons d ds ih =>
    intro a t x;simp! [ix,tu]
    cases d with
    | int i =>
     simp! [nj,Qu,rising,ih];by_cases h:a<i
     .have h':¬ i<=a:=by omega
      simp[h,h']
     .have h':i<=a:=by omega
      simp[h,h']
    | _=>simp[nj,rising]
  exact key ds (-1) _ _
 | _=>simp[jO,qY]
noncomputable def jD (b:Int)(ds:List ad):Bool:=match ds.getLast? with | some (.int i)=>decide (i<b) | some _=>false | none=>true
noncomputable def fD (b:Int)(d:ad):Bool:=match d with | .tuple ds=>rising (-1) ds && jD b ds | _=>false
theorem pY:∀{ds:List ad} {a:Int},rising a ds=true->∀d∈ds,∃i,d=.int i/\a<i
 | [],_,_,d,hd=>by cases hd
 | .int i::ds,a,h,d,hd=>by
  simp only[rising,aK,decide_eq_true_eq] at h;rcases al.mp hd with rfl | hd
  .exact⟨i,rfl,h.1⟩
  .obtain⟨j,e,hj⟩:=pY h.2 d hd
   exact⟨j,e,!1⟩
 | .none::_,_,h,_,_=>by simp[rising] at h
 | .bool _::_,_,h,_,_=>by simp[rising] at h
 | .str _::_,_,h,_,_=>by simp[rising] at h
 | .list _::_,_,h,_,_=>by simp[rising] at h
 | .tuple _::_,_,h,_,_=>by simp[rising] at h
 | .dict _::_,_,h,_,_=>by simp[rising] at h
theorem lh (d:ad)(b:Int):gr [d,.int b] n Q X=Q (.bool (fD b d)) n:=by
 simp! [gr,ja,zO]
 cases d with
 | tuple ds =>
  simp only[qY,fD];by_cases hr:rising (-1) ds=true
  .simp! [hr,eB,fc,iK,bE]
   cases hl:ds.getLast? with
   | none =>
    have:ds=[]:=by simpa using hl
    subst this;simp[jD]
   | some e =>
    obtain⟨i,rfl,_⟩:=pY hr e (List.mem_of_getLast? hl);have g6:ds≠[]:=λz=>by subst z;cases hl
    have h0:¬ ((ds.length:Int)=0):=by
     have:0<ds.length:=cI.mpr g6;omega
    simp[g6,um hl,RL,jD,hl]
  .have:rising (-1) ds=false:=by simpa using hr
   simp[this]
 | _=>simp[qY,fD]
theorem Gn (many:Int)(ts:List eC)(d:ad):qR [d0 many ts,d] n Q X=Q (.bool (fD ts.length d)) n:=by
 simp! [qR,vP,d0,eW,eB,lh,ah]
theorem Dy (many:Int)(ts:List eC)(d:ad):oM [d0 many ts,d] n Q X=Q (.bool (fD many d)) n:=by
 simp! [oM,rY,d0,eZ,lh]
noncomputable def v9 (m:Nat)(d:ad):Bool:=match d with | .int i=>decide (0<=i/\i<(m:Int)) | _=>false
theorem Gp (b:Nat)(d:ad):fD b (.tuple [d])=v9 b d:=by
 cases d with
 | int i =>
  simp only[fD,rising,jD,v9,List.getLast?_singleton];by_cases h:0<=i
  .have:-1<i:=by omega
   simp[h,this]
  .have:¬ -1<i:=by omega
   simp[h,this]
 | _=>simp[fD,rising,v9]
theorem sC (many:Int)(ts:List eC)(d:ad):iF [d0 many ts,d] n Q X=Q (.bool (v9 ts.length d)) n:=by
 simp! [iF,j3,Gn,Gp]
noncomputable def fh (t:eC)(x:Int):Int:=if t.1=x then t.2.1 else t.1
theorem nk (t:eC)(x:Int):gH [eS t,.int x] n Q X=Q (.int (fh t x)) n:=by
 simp! [gH,nW,eS,eZ,eW,fc,fh];by_cases h:t.1=x<;>simp[h]
noncomputable def gy (ts:List eC)(x:Int)(d:ad):Option Int:=match d with
 | .int i=>if 0<=i then (match ts[i.toNat]? with | some t=>if x=t.1\/x=t.2.1 then some (fh t x) else none | none=>none) else none
 | _=>none
theorem lB {ts:List eC}{i:Int}(h0:0<=i)(h1:i<(ts.length:Int)):∃t,ts[i.toNat]? = some t/\t∈ts/\lV (ts.map eS) i=some (eS t):=by
 have hl:i.toNat<ts.length:=by omega
 refine⟨ts[i.toNat],by simp[hl],cc _,?_⟩;rw[lH h0 (by simpa using h1),aB];simp[hl]
theorem wc (many:Int)(ts:List eC)(x:Int)(d:ad):kA [d0 many ts,.int x,d] n Q X=Q (.bool (gy ts x d).isSome) n:=by
 simp! [kA,rZ,sC]
 cases d with
 | int i =>
  by_cases h:0<=i/\i<(ts.length:Int)
  .obtain⟨t,ht,_,ht'⟩:=lB h.1 h.2
   simp! [v9,h,d0,eW,ht',ht,gy,eS,Et,mP _ 2 (!2),A7,decide_true];have e:Int.toNat 2=2:=rfl;simp! [e,List.take_succ_cons,List.take_zero,A7];by_cases hx:x=t.1\/x=t.2.1<;>simp[hx]
  .have:gy ts x (.int i)=none:=by
    unfold gy;by_cases h0:0<=i
    .have:ts[i.toNat]? = none:=bh (!1)
     simp[h0,this]
    .simp[h0]
   simp[v9,h,this]
 | _=>simp[v9,gy]
end
noncomputable def jf (ts:List eC):Int->Nat->List ad->Nat ⊕ List Int
 | _,_,[]=>.inr []
 | x,k,d::ds=>match gy ts x d with
  | some y=>(match jf ts y (k+1) ds with | .inr ys=>.inr (y::ys) | .inl j=>.inl j)
  | none=>.inl k
section
variable {n:Int}{Q:ad->Int->Prop}{X:XQ}
theorem Gr (d:ad)(ds:List ad)(k:Nat):((d::ds).zipIdx k).map (λp=>ad.tuple [.int (p.2:Nat),p.1])=.tuple [.int (k:Nat),d]::(ds.zipIdx (k+1)).map (λp=>ad.tuple [.int (p.2:Nat),p.1]):=rfl
theorem jE {ts:List eC}{x y:Int}{d:ad}(h:gy ts x d=some y):∃i t,d=.int i/\0<=i/\i<(ts.length:Int)/\ts[i.toNat]? = some t/\(x=t.1\/x=t.2.1)/\y=fh t x/\lV (ts.map eS) i=some (eS t):=by
 cases d with
 | int i =>
  dsimp only [gy] at h;by_cases h0:0<=i
  .rw[if_pos h0] at h
   cases ht:ts[i.toNat]? with
   | none=>rw[ht] at h;cases h
   | some t =>
    rw[ht] at h;by_cases hx:x=t.1\/x=t.2.1
    .simp only[if_pos hx] at h
     cases h;have hl:i.toNat<ts.length:=(aN.mp ht).1;obtain⟨t',h1,_,h2⟩:=lB h0 (by omega:i<(ts.length:Int));rw[ht] at h1;cases h1;exact⟨i,t,rfl,h0,!1,ht,hx,rfl,h2⟩
    .simp only[if_neg hx] at h
     cases h
  .rw[if_neg h0] at h
   cases h
 | _=>simp[gy] at h
theorem sD (many:Int)(ts:List eC)(x:Int)(ds:List ad)(hl:ds.length<1000000):gm [d0 many ts,.int x,.tuple ds] n Q X=(match jf ts x 0 ds with | .inr ys=>Q (.list ((x::ys).map .int)) n | .inl k=>X "NoWalk" [.int (k:Nat)]):=by
 simp! [gm,iG,jO];have hsz:av=16777216:=by decide
 have key:∀(ds:List ad) (k:Nat) (pre:List Int) (x:Int) (a b c:ad) (e f:Option nG),pre.length+ds.length<1000002->ix (Hd [gO 4,gO 5]) (dv (eQ (iu (dM (du kA (dh (dA 0) (dh (dB d7 (di 3) (vm iK (uC (.int 1)))) (dh (dA 5) dm)))))) (vz X "NoWalk" (dh (dA 4) dm)) d8)
   (kf 3 gV (dh (du gH (dh (dB d7 (dB d7 (di 0) (uC (.int 1))) (di 5)) (dh (dB d7 (di 3) (vm iK (uC (.int 1)))) dm))) dm)))
   { nx:=qJ 3 { nx:=λ_ n'=>Q .none n',rt:=Q },rt:=Q } ((ds.zipIdx k).map (λp=>ad.tuple [.int (p.2:Nat),p.1])) [some (.s (d0 many ts)),some (.s b),some (.s c),some (.o ((pre++[x]).map .int)),e,f] n=(match jf ts x k ds with | .inr ys=>Q (.list ((pre++x::ys).map .int)) n | .inl k=>X "NoWalk" [.int (k:Nat)]):=by
  intro ds
  induction ds with
  | nil=>intro k pre x a b c e f _;simp[ix,jf,qJ]
  | cons d ds ih =>
   intro k pre x a b c e f hp;have kh:lV ((pre++[x]).map ad.int) (-1)=some (.int x):=by rw[bc];exact A8 _ _
   simp! [Gr,ix,iK,kh,wc,jf]
   cases hs:gy ts x d with
   | none=>simp
   | some y =>
    obtain⟨i,t,rfl,h0,h1,ht,hx,rfl,ha⟩:=jE hs;simp only[aj] at hp;have fk:((pre++[x]).map ad.int).length<av:=by rw[ah,au,hsz];simp only[aj,aG];omega
    have e2:((pre++[x]).map ad.int)++[.int (fh t x)]=((pre++[x])++[fh t x]).map ad.int:=by simp
    have:=ih (k+1) (pre++[x]) (fh t x) a b c (some (.s (.int (k:Nat)))) (some (.s (.int i))) (by simp only[au,aj,aG];omega);revert this;simp! [d0,eW,ha,nk,gV,if_pos fk,e2,Option.isSome_some];intro this;simp only[this]
    cases jf ts (fh t x) (k+1) ds with
    | inl j=>rfl
    | inr ys=>simp
 have:=key ds 0 [] x .none (.int x) (.tuple ds) none none (by simp;omega);simpa [iw] using this
theorem sE (many:Int)(ts:List eC)(x:Int)(d:ad)(h:∀ds,d≠.tuple ds):gm [d0 many ts,.int x,d] n Q X=X "NoWalk" [.int (-1)]:=by
 cases d with
 | tuple ds=>exact absurd rfl (h ds)
 | _=>simp[gm,iG,jO,iK,iX,g9,envOf,aj,aG,am,aX,aI,az,bt,aF,aP,Nat.reduceSub,Nat.reduceAdd,true_and,and_true,dv,d8,eQ,dW,qJ,Us,dS,nD,Xt,Ut,Xu,dA,di,uC,dm,dh,eG,uL,Jm,dB,dM,dD,mN,lj,iu,ig,Qt,Eo,MB,vm,gM,kL,du,QD,QF,Qs,vz,kf,Ux,Uy,XB,kJ,MI,Jd,Uq,MK,Xo,ff,vx,MJ,FT,Xn,nE,mE,ku,j2,XO,MN,XN,yj,AZ,UC,rV,XM,UU,XU,MR,XT,JC,iP,qL,gO,Hd,AR,vy,dj,IV,jr,ee,lr,aa,ac,ap,ar,Option.join_some,Option.join_none,if_true,if_false,bB,bw,Bool.true_eq_false,bH,reduceIte]
theorem mq {ts:List eC}:∀{ds:List ad} {x:Int} {k:Nat} {ys:List Int},jf ts x k ds=.inr ys->ys.length=ds.length/\∃ns:List Int,ds=ns.map .int/\∀i∈ns,0<=i/\i<(ts.length:Int)
 | [],x,k,ys,h=>by cases h;exact⟨rfl,[],rfl,!4⟩
 | d::ds,x,k,ys,h=>by
  simp only[jf] at h
  cases hs:gy ts x d with
  | none=>rw[hs] at h;cases h
  | some y =>
   rw[hs] at h;dsimp only at h
   cases hw:jf ts y (k+1) ds with
   | inl j=>rw[hw] at h;cases h
   | inr zs =>
    rw[hw] at h;cases h;obtain⟨i,t,rfl,h0,h1,_⟩:=jE hs;obtain⟨hl,ns,rfl,hn⟩:=mq hw;exact⟨by simp[hl],i::ns,rfl,λj hj=>by rcases al.mp hj with rfl | hj;exact⟨h0,h1⟩;exact hn j hj⟩
theorem xp (ns:List Int)(hl:ns.length<4000):kn [dF ns] n Q X=Q (.bool (decide (ns.Nodup))) n:=by
 simp! [kn,mQ,dF,eh,eB,fc,hl,ah];congr 2;rw[decide_eq_decide];have:=vg (hV ns) (λk=>gP (l:=ns));exact⟨λh=>this.mp (!1),λh=>by have:=this.mpr h;omega⟩
noncomputable def il (ts:List eC)(d:ad):Option (Int × List Int × List Int):=match d with
 | .tuple [.int x,.tuple ds]=>(match jf ts x 0 ds,eV ds with | .inr ys,some ns=>if (x::ys).getLast? = some x then some (x,ns,ys) else none | _,_=>none)
 | _=>none
noncomputable def Bw (d:ad):Prop:=match d with | .tuple [_,.tuple ds]=>ds.length<4000 | _=>True
theorem tP (many:Int)(ts:List eC)(d:ad)(hl:Bw d):jb [d0 many ts,d] n Q X=(match il ts d with | some (x,_,ys)=>Q (.list ((x::ys).map .int)) n | none=>Q .none n):=by
 simp! [jb,kT,Jq,gg]
 cases d with
 | tuple l =>
  match l,hl with
  | [],_=>simp[je,il]
  | [a],_=>simp[je,il]
  | a::b::c::l,_ =>
   have:¬ ((((a::b::c::l).length:Nat):Int)=2):=by simp only[aj];omega
   have ht:je 2 (.tuple (a::b::c::l))=false:=decide_eq_false this;simp[ht,il]
  | [a,b],hl =>
   simp! [je,eZ,eW,tu,aj,aG]
   cases a with
   | int x =>
    cases b with
    | tuple ds =>
     have Iw:ds.length<4000:=hl;simp! [nj,sD _ _ _ _ (by omega:ds.length<1000000),il]
     cases hw:jf ts x 0 ds with
     | inl k=>simp[K']
     | inr ys =>
      obtain⟨_,ns,rfl,_⟩:=mq hw
      have kh:∃z,(x::ys).getLast? = some z:=by
       cases h:(x::ys).getLast? with
       | none=>simp at h
       | some z=>exact⟨z,rfl⟩
      obtain⟨z,hz⟩:=kh;have e1:lV ((x::ys).map ad.int) (-1)=some (.int z):=um (by rw[c7,hz];rfl);have e0:lV ((x::ys).map ad.int) 0=some (.int x):=eZ _ _;simp only[am] at e1 e0;simp! [eh,iK,e1,e0,fc,am,hz];by_cases h:z=x<;>simp[h]
    | _=>simp[nj,sE,il,K']
   | _=>simp[nj,il]
 | _=>simp[je,il]
theorem Bx (many:Int)(ts:List eC)(d:ad)(hl:Bw d):mS [d0 many ts,d] n Q X=Q (.bool (match il ts d with | some (_,ns,ys)=>decide (ys≠[]) && decide (ns.Nodup) | none=>false)) n:=by
 simp! [mS,pI,tP _ _ _ hl]
 cases hr:il ts d with
 | none=>simp[MD,qF]
 | some p =>
  obtain⟨x,ns,ys⟩:=p
  have hd:∃ds:List ad,d=.tuple [.int x,.tuple (ns.map .int)]:=by
   unfold il at hr;split at hr
   .rename_i x' ds
    cases hw:jf ts x' 0 ds with
    | inl k=>rw[hw] at hr;cases hr
    | inr zs =>
     rw[hw] at hr;obtain⟨_,ms,rfl,_⟩:=mq hw;rw[eh] at hr;dsimp only at hr;split at hr
     .cases hr;exact⟨[],rfl⟩
     .cases hr
   .cases hr
  obtain⟨_,rfl⟩:=hd;have Iw:ns.length<4000:=by simpa [Bw] using hl
  have e:ad.tuple (ns.map .int)=dF ns:=rfl;simp! [MD,qF,CZ,eB,eW,e,xp ns Iw,aj,ah,am]
  cases ys with
  | nil=>simp
  | cons y ys =>
   have h1:decide ((1:Int)<((ys.length+1+1:Nat):Int))=true:=decide_eq_true (!1);simp! [aj,h1];simp
end
theorem wd (k:List Int):fu [] k=none:=rfl
theorem kE (p:List Int × ad)(kvs:lI)(k:List Int):fu (p::kvs) k=if p.1=k then some p.2 else fu kvs k:=by
 unfold fu;rw[bK];by_cases h:p.1=k
 .rw[decide_eq_true h,if_pos h];rfl
 .rw[decide_eq_false h,if_neg h]
theorem yF (k j:List Int)(d:ad):∀kvs:lI,(kvs.any λp=>decide (p.1=k))=false->fu (kvs++[(k,d)]) j=if j=k then some d else fu kvs j
 | [],_=>by
  rw[az,kE,wd];by_cases h:j=k
  .rw[if_pos h.symm,if_pos h]
  .rw[if_neg (λz=>h z.symm),if_neg h]
 | p::kvs,ha=>by
  rw[b4,Bool.or_eq_false_iff] at ha;have hp:¬ p.1=k:=of_decide_eq_false ha.1;rw[aI,kE,yF k j d kvs ha.2,kE];by_cases h:p.1=j
  .rw[if_pos h,if_pos h,if_neg (λz=>hp (h.trans z))]
  .rw[if_neg h,if_neg h]
theorem By (k j:List Int)(d:ad):∀kvs:lI,fu (kvs.map λp=>if p.1=k then (p.1,d) else p) j=(fu kvs j).map λx=>if j=k then d else x
 | []=>rfl
 | p::kvs=>by
  rw[am,kE,kE,By k j d kvs];by_cases h:p.1=k
  .rw[if_pos h]
   by_cases h2:p.1=j
   .rw[if_pos h2,if_pos h2,bn,if_pos (h2.symm.trans h)]
   .rw[if_neg h2,if_neg h2]
  .rw[if_neg h]
   by_cases h2:p.1=j
   .rw[if_pos h2,if_pos h2,bn,if_neg (λz=>h (h2.trans z))]
   .rw[if_neg h2,if_neg h2]
theorem oz (k:List Int):∀kvs:lI,(kvs.any λp=>decide (p.1=k))=(fu kvs k).isSome
 | []=>rfl
 | p::kvs=>by
  rw[b4,kE,oz k kvs];by_cases h:p.1=k
  .rw[if_pos h,decide_eq_true h];rfl
  .rw[if_neg h,decide_eq_false h];rfl
theorem mr (kvs:lI)(k j:List Int)(d:ad):fu (kQ kvs k d) j=if j=k then some d else fu kvs j:=by
 unfold kQ;split
 .rename_i h
  rw[oz] at h;rw[By];by_cases hj:j=k
  .subst hj
   obtain⟨x,hx⟩:=bO.mp h;rw[hx,if_pos rfl,bn,if_pos rfl]
  .rw[if_neg hj]
   cases fu kvs j with
   | none=>rfl
   | some x=>rw[bn,if_neg hj]
 .rename_i h
  exact yF k j d kvs (Bool.eq_false_iff.mpr h)
noncomputable def ij (kvs:lI):List (List Int):=kvs.map (·.1)
theorem Bz (kvs:lI)(k:List Int)(d:ad):ij (kQ kvs k d)=if k∈ij kvs then ij kvs else ij kvs++[k]:=by
 have ha:((kvs.any λp=>decide (p.1=k))=true)↔k∈ij kvs:=by
  rw[cS,ij,bg];constructor
  .rintro⟨p,hp,h⟩;exact⟨p,hp,of_decide_eq_true h⟩
  .rintro⟨p,hp,h⟩;exact⟨p,hp,decide_eq_true h⟩
 unfold kQ;by_cases h:(kvs.any λp=>decide (p.1=k))=true
 .rw[if_pos h,if_pos (ha.mp h),ij,ij,br]
  refine cH λp _=>?_;show (if p.1=k then (p.1,d) else p).1=p.1;split<;>rfl
 .rw[if_neg h,if_neg (λz=>h (ha.mpr z)),ij,ij,bc]
  rfl
noncomputable abbrev U9 (many:Int)(t:eC):Prop:=(0<=t.1/\t.1<t.2.1/\t.2.1<many)/\0<=t.2.2/\t.2.2<=99
structure zP (p m many:Int) (ts:List eC):Prop where
 m0:1<=many
 m1:many<=9
 mp:many<=p
 len:ts.length<=16
 lm:(ts.length:Int)<=m
 ok:∀t∈ts,U9 many t
theorem zP.sz {p m many:Int}{ts:List eC}(w:zP p m many ts):Sz 10000 11 2000 3 (d0 many ts):=by
 have m0:=w.m0;have m1:=w.m1;have hl:=w.len
 have ht:∀d∈ts.map eS,Sz 10000 11 40 1 d:=λd hd=>by
  obtain⟨t,ht,rfl⟩:=bg.mp hd;have a:=w.ok t ht;exact (Sz.tup (gR.cons (Sz.small (B:=10000) (L:=11) (i:=t.1) (!1) (!2)) (gR.cons (Sz.small (i:=t.2.1) (!1) (!2)) (gR.cons (Sz.small (i:=t.2.2) (!1) (!2)) gR.nil)))).mono (ag _) (ag _) (!2) (!2)
 have h2:=gR.all ht;rw[ah] at h2;exact (Sz.tup (gR.cons (Sz.small (B:=10000) (L:=11) (i:=many) (!1) (!2)) (gR.cons (Sz.tup h2) gR.nil))).mono (ag _) (ag _) (!1) (!2)
section
variable {n:Int}{X:XQ}{Q:ad->Int->Prop}
theorem zQ (hn:n+3<=jQ)(h:∀p:Int,0<=p->p<=99->Q (.int p) (n+3)):lz [] n Q X:=by
 unfold lz nZ;simp only[iX,g9,envOf,am,aX,aj,aG,Nat.reduceSub,Nat.reduceAdd,aF,aP,aI,az];simp! [dv];refine fC (!2) (!2) (!1) λa a0 a1=>?_;simp! [qX];refine fC (!2) (!2) (!1) λb b0 b1=>?_;refine fC (!2) (!2) (!1) λc c0 c1=>?_;obtain⟨x,hx,hm⟩:=iy (xs:=[ad.int 0,.int 1,.int 2,.int 3,.int (1+a),.int b]) c0 (by simpa using c1);simp! [hx];simp only[al,aM,or_false] at hm;rw[show n+1+1+1=n+3 by omega];rcases hm with rfl | rfl | rfl | rfl | rfl | rfl<;>exact h _ (!1) (!1)
theorem Dz {p m:Int}(hp:1<=p)(hp9:p<=9)(hm:0<=m)(aaj:m<=16)(hn:n+100<=jQ)(h:∀(many:Int) (ts:List eC) (n':Int),zP p m many ts->n<=n'->n'<=n+100->Q (d0 many ts) n'):oQ [.int p,.int m] n Q X:=by
 unfold oQ sf;simp only[iX,g9,envOf,am,aX,aj,aG,Nat.reduceSub,Nat.reduceAdd,aF,aP,aI,az];with_reducible generalize La:dv (dS 6 _) _=bd
 simp! [dv];refine fC (!1) (!1) (!1) λr r0 r1=>?_;simp! [qX];obtain⟨many,em,k0,k1⟩:∃many:Int,1+r=many/\1<=many/\many<=p:=⟨_,rfl,!1,!1⟩;rw[em];refine fC (!1) (!1) (!1) λc c0 c1=>?_;simp! [CZ,intD,Jx];have hj:0<=(if decide (1<many)=true then c else 0)/\(if decide (1<many)=true then c else 0)<=m:=by split<;>omega
 have WD:0<(if decide (1<many)=true then c else 0)->1<many:=by
  split
  .rename_i hh;intro _;exact of_decide_eq_true hh
  .intro z;omega
 generalize (if decide (1<many)=true then c else 0)=j at hj WD ⊢;refine⟨!1,!1,?_⟩;refine kP (λpre post env n'=>∃(ts:List eC) (x5 x6 x7:Option nG),env=[none,some (.s (.int p)),some (.s (.int m)),some (.s (.int many)),some (.o (ts.map eS)),x5,x6,x7]/\(∀t∈ts,U9 many t)/\ts.length=pre.length/\n'=n+2+5 * pre.length/\pre.length+post.length=j.toNat) _ [] _ _ ?_ ⟨[],none,none,none,rfl,!4,rfl,by simp;omega,by simp[nC]⟩ ?_
 .rintro pre d post env n' E' hE ⟨ts,x5,x6,x7,rfl,RT,hl,rfl,hp⟩ Gs
  rw[aj] at hp;have Yc:1<many:=WD (!1);rw[gO];simp only[ar,ap];subst La;simp! [dv];refine fC (!1) (!1) (!1) λa a0 a1=>?_;simp! [qX,yE];refine fC (!1) (!1) (!1) λb b0 b1=>?_;simp! [qX,qN (show 0<many by omega),sY,sZ];have VL:=cW (a+1+b) (show many≠0 by omega);have K1:=cL (a+1+b) (show 0<many by omega)
  have XY:(a+1+b) % many≠a:=by
   by_cases p8:a+1+b<many
   .rw[Int.emod_eq_of_lt (!1) p8]
    omega
   .rw[show a+1+b=(a+1+b - many)+many by omega,Int.add_emod_right,Int.emod_eq_of_lt (!1) (!1)]
    omega
  generalize (a+1+b) % many=o at VL K1 XY ⊢;refine zQ (!1) λq hq hq2=>?_;rw[jv (by rw[ah];omega)];simp! [dv];refine Gs _ _ ⟨ts++[(if o<a then o else a,if o > a then o else a,q)],_,_,_,(by rw[bc];rfl),λt ht=>?_,by simp[hl],by simp;omega,by simp;omega⟩;rcases aH.mp ht with ht | ht
  .exact RT t ht
  .rw[ay.mp ht]
   refine⟨?_,hq,hq2⟩;show 0<=(if o<a then o else a)/\(if o<a then o else a)<(if o > a then o else a)/\(if o > a then o else a)<many;by_cases h1:o<a
   .have h2:¬ o > a:=by omega
    rw[if_pos h1,if_neg h2];omega
   .have h2:o > a:=by omega
    rw[if_neg h1,if_pos h2];omega
 .rintro pre env n' ⟨ts,x5,x6,x7,rfl,RT,hl,rfl,hp⟩
  rw[aG] at hp;simp! [fX];exact h many ts _ ⟨k0,!1,k1,!1,!1,RT⟩ (!1) (!1)
end
noncomputable def mw (ts:List eC)(k:Int):List Int:=[(ts.getD k.toNat (0,0,0)).1,(ts.getD k.toNat (0,0,0)).2.1]
noncomputable def gI (ts:List eC)(ks:List Int):List Int:=(ks.map (mw ts)).flatten
noncomputable abbrev ki (ts:List eC)(ks:List Int):Prop:=∀k∈ks,0<=k/\k<(ts.length:Int)
theorem iN (ts:List eC)(k:Int)(ks:List Int):gI ts (k::ks)=mw ts k++gI ts ks:=rfl
theorem qZ (ts:List eC)(a b:List Int):gI ts (a++b)=gI ts a++gI ts b:=by
 unfold gI;rw[bc,List.flatten_append]
theorem nq {ts:List eC}{a b:List Int}(h:a.Perm b):(gI ts a).Perm (gI ts b):=(h.map _).flatten
noncomputable def mx (ts:List eC)(ks:List Int):Prop:=∀v,(gI ts ks).count v % 2=0
theorem we:∀{l r:List Int},l.Nodup->r.Nodup->(∀k∈r,k∈l)->l.Perm (r++l.filter (λk=>!decide (k∈r))):=λ{l r} hl hr h=>by
 refine (cf hl ?_).mpr λk=>?_
 .refine bU.mpr ⟨hr,hl.filter _,λa ha b hb e=>?_⟩
  subst e;have:=(aJ.mp hb).2;simp[ha] at this
 .rw[aH,aJ]
  by_cases hk:k∈r
  .simp[hk,h k hk]
  .simp[hk]
theorem sF {ts:List eC}{l r:List Int}(hl:l.Nodup)(hr:r.Nodup)(h:∀k∈r,k∈l)(v:Int):(gI ts l).count v=(gI ts r).count v+(gI ts (l.filter λk=>!decide (k∈r))).count v:=by
 rw[(nq (we hl hr h)).count_eq,qZ,bv]
noncomputable def RU (ts:List eC)(x k q:Int):Prop:=∃t,0<=k/\ts[k.toNat]? = some t/\((t.1=x/\t.2.1=q)\/(t.2.1=x/\t.1=q))
noncomputable def BA (ts:List eC):Int->List (Int × Int)->Int->Prop
 | x,[],y=>x=y
 | x,s::ss,y=>RU ts x s.1 s.2/\BA ts s.2 ss y
theorem BB {ts:List eC}:∀{ss:List (Int × Int)} {x y:Int} {s:Int × Int},BA ts x ss y->RU ts y s.1 s.2->BA ts x (ss++[s]) s.2
 | [],x,y,s,h,h1=>by
  have:x=y:=h;subst this;exact⟨h1,rfl⟩
 | r::ss,x,y,s,⟨a,b⟩,h1=>⟨a,BB b h1⟩
theorem Gu {ts:List eC}{x k q:Int}(h:RU ts x k q)(v:Int):(mw ts k).count v=(if v=x then 1 else 0)+(if v=q then 1 else 0):=by
 obtain⟨t,_,ht,hh⟩:=h
 have e:mw ts k=[t.1,t.2.1]:=by
  unfold mw;rw[ax,ht];rfl
 have b1:∀a:Int,(if (a == v)=true then 1 else 0)=(if v=a then 1 else (0:Nat)):=λa=>by
  by_cases h:v=a
  .subst h
   simp
  .rw[if_neg h,if_neg (by simpa using λz=>h z.symm)]
 have c1:∀a b:Int,[a,b].count v=(if v=a then 1 else 0)+(if v=b then 1 else 0):=λa b=>by
  rw[cK,cK,List.count_nil,b1,b1];omega
 rw[e,c1];rcases hh with⟨rfl,rfl⟩ | ⟨rfl,rfl⟩
 .rfl
 .exact Nat.add_comm _ _
theorem J2 {a b c x:Nat}(h:c % 2=(a+b) % 2):(x+a+c) % 2=(x+b) % 2:=by omega
theorem uw {ts:List eC}(v:Int):∀{ss:List (Int × Int)} {x y:Int},BA ts x ss y->(gI ts (ss.map (·.1))).count v % 2=((if v=x then 1 else 0)+(if v=y then 1 else 0)) % 2
 | [],x,y,h=>by
  have:x=y:=h;subst this;show 0 % 2=_;omega
 | s::ss,x,y,⟨a,b⟩=>by
  have ih:=uw v b;rw[am,iN,bv,Gu a];exact J2 ih
noncomputable def oU (x:Int)(ss:List (Int × Int)):List Int:=x::ss.map (·.2)
theorem BC {ts:List eC}:∀{ss:List (Int × Int)} {x y:Int} (i:Nat),BA ts x ss y->∀p,(oU x ss)[i]? = some p->BA ts p (ss.drop i) y
 | ss,x,y,0,h,p,hp=>by
  simp only[oU,aa,Option.some.injEq] at hp;subst hp;exact h
 | [],x,y,i+1,h,p,hp=>by simp[oU] at hp
 | s::ss,x,y,i+1,⟨_,b⟩,p,hp=>BC i b p (by simpa [oU] using hp)
theorem BE {ts:List eC}:∀{ss:List (Int × Int)} {x y:Int},BA ts x ss y->(oU x ss).getLast? = some y
 | [],x,y,h=>by
  have:x=y:=h;subst this;rfl
 | s::ss,x,y,⟨_,b⟩=>by
  have:=BE b;simp only[oU,am] at this ⊢;rw[c9];exact this
theorem Gv {ts:List eC}{left:List Int}{ss:List (Int × Int)}{x y:Int}(ev:mx ts left)(hn:left.Nodup)(ok:ki ts left)(h:BA ts x ss y)(hr:(ss.map (·.1)).Nodup)(hs:∀k∈ss.map (·.1),k∈left)
  (DA:ss≠[]->x≠y) (h0:ss=[]->∃k∈left,y∈mw ts k):∃k∈left,k ∉ ss.map (·.1)/\y∈mw ts k:=by
 by_cases he:ss=[]
 .obtain⟨k,hk,hy⟩:=h0 he
  exact⟨k,hk,by simp[he],hy⟩
 .have h1:=sF (ts:=ts) hn hr hs y
  have h2:=ev y;have h3:=uw y h;rw[if_neg (λz=>DA he z.symm),if_pos rfl] at h3;have h4:0<(gI ts (left.filter λk=>!decide (k∈ss.map (·.1)))).count y:=by omega
  obtain⟨l,hl,hy⟩:=List.mem_flatten.mp (cv.mp h4);obtain⟨k,hk,rfl⟩:=bg.mp hl;obtain⟨U',CC⟩:=aJ.mp hk;exact⟨k,U',by simpa using CC,hy⟩
theorem Gw {ts:List eC}{left:List Int}{ss:List (Int × Int)}{x:Int}(ev:mx ts left)(hn:left.Nodup)(h:BA ts x ss x)(hr:(ss.map (·.1)).Nodup)(hs:∀k∈ss.map (·.1),k∈left):mx ts (left.filter λk=>!decide (k∈ss.map (·.1))):=λv=>by
 have h1:=sF (ts:=ts) hn hr hs v;have h2:=ev v;have h3:=uw v h;omega
theorem M6 {α:Type}(xs:List α)(y:α):jk (xs++[y]) none (some (-1))=xs:=by
 have e1:HT.gZ (xs++[y]).length (xs++[y]).length (some (-1))=xs.length:=by
  rw[au,aT];simp only[HT.gZ];split<;>omega
 have e0:HT.gZ (xs++[y]).length 0 none=0:=rfl;unfold jk;rw[e1,e0];simp
theorem J' {ts:List eC}{k y:Int}(h0:0<=k)(h1:k<(ts.length:Int)):(gy ts y (.int k)).isSome=true↔y∈mw ts k:=by
 obtain⟨t,ht,_,_⟩:=lB h0 h1;unfold mw;rw[ax,ht];simp only[gy,ht,if_pos h0,Option.getD_some,al,aM,or_false];by_cases h:y=t.1\/y=t.2.1<;>simp[h]
theorem BF {ts:List eC}{k y z:Int}(h:gy ts y (.int k)=some z):RU ts y k z/\∃t,ts[k.toNat]? = some t/\lV (ts.map eS) k=some (eS t)/\z=fh t y:=by
 obtain⟨i,t,e,h0,h1,ht,hx,rfl,ha⟩:=jE h;cases e;refine⟨⟨t,h0,ht,?_⟩,t,ht,ha,rfl⟩;unfold fh;by_cases hh:t.1=y
 .rw[if_pos hh];exact .inl ⟨hh,rfl⟩
 .rw[if_neg hh];exact .inr ⟨(hx.resolve_left λz=>hh z.symm).symm,rfl⟩
section
variable {n:Int}{X:XQ}{Q:ad->Int->Prop}
theorem wg {many:Int}{ts:List eC}{left:List Int}(ev:mx ts left)(hn:left.Nodup)(ok:ki ts left)(g6:left≠[])(hl:left.length<=100)
  (h:∀(x:Int) (ss:List (Int × Int)),BA ts x ss x->ss≠[]->(ss.map (·.1)).Nodup->(∀k∈ss.map (·.1),k∈left)->(ss.map (·.2)).Nodup->Q (.tuple [.int x,dF (ss.map (·.1))]) n) :
  jH [d0 many ts,.list (left.map .int)] n Q X:=by
 have hsz:av=16777216:=by decide
 obtain⟨k0,rest,Ov⟩:∃k0 rest,left=k0::rest:=by
  cases left with
  | nil=>exact absurd rfl g6
  | cons a r=>exact⟨a,r,rfl⟩
 have Yd:k0∈left:=by rw[Ov];exact aq ..
 obtain⟨t0,Ye,_,ha0⟩:=lB (ok k0 Yd).1 (ok k0 Yd).2;have hl0:lV (left.map ad.int) 0=some (.int k0):=by rw[Ov];exact eZ _ _
 have e0:d0 many ts=.tuple [.int many,.tuple (ts.map eS)]:=rfl
 have Yf:∀{ss:List (Int × Int)},(ss.map (·.1)).Nodup->(∀k∈ss.map (·.1),k∈left)->ss.length<=left.length:=λ{ss} h1 h2=>by
  have:=fF h1 h2;rwa [ah] at this
 unfold jH lL;simp only[iX,g9,envOf,am,aX,aj,aG,Nat.reduceSub,Nat.reduceAdd,aF,aP,aI,az];generalize Yg:dv (dS 5 _) _=te;generalize La:dv (dS 4 _) _=bd;rw[e0];simp! [eW,hl0,ha0,eS,eZ];rw[<- e0];unfold pw;refine⟨λm d5 n'=>n'=n/\∃(ss:List (Int × Int)) (y:Int) (x4:Option nG),d5=[some (.s (d0 many ts)),some (.s (.list (left.map .int))),some (.o ((oU t0.1 ss).map .int)),some (.o ((ss.map (·.1)).map .int)),x4,none]/\BA ts t0.1 ss y/\(ss.map (·.1)).Nodup/\(∀k∈ss.map (·.1),k∈left)/\(oU t0.1 ss).dropLast.Nodup/\m=left.length - ss.length,⟨_,rfl,[],t0.1,none,rfl,rfl,!4,!4,by simp[oU],rfl⟩,?_⟩;rintro m d5 n' ⟨rfl,ss,y,x4,rfl,hw,z5,ll,Va,rfl⟩;have fk:=Yf z5 ll
 obtain⟨P,hP⟩:∃P,oU t0.1 ss=P++[y]:=by
  have h1:=BE hw;rcases List.eq_nil_or_concat (oU t0.1 ss) with z | ⟨P,z,e⟩
  .rw[z] at h1;cases h1
  .rw[List.concat_eq_append] at e
   rw[e,List.getLast?_append] at h1;simp only[List.getLast?_singleton,Option.some_or,Option.some.injEq] at h1;subst h1;exact⟨P,e⟩
 rw[hP,List.dropLast_concat] at Va
 have Yh:P.length=ss.length:=by
  have:=congrArg List.length hP;simp[oU] at this;omega
 have kh:lV ((oU t0.1 ss).map ad.int) (-1)=some (.int y):=by rw[hP,bc];exact A8 _ _
 have Yi:jk ((oU t0.1 ss).map ad.int) none (some (-1))=P.map .int:=by rw[hP,bc];exact M6 _ _
 simp! [iK,kh,Et,Yi,pA];by_cases hy:y∈P
 .simp! [hy,decide_true]
  subst Yg;have q8:y∈oU t0.1 ss:=by rw[hP];exact bP _ hy
  have Vb:zF (.list ((oU t0.1 ss).map .int)) (.int y)=some (.int ((oU t0.1 ss).idxOf y:Nat)):=by
   simp only[zF,eh,cb];rw[if_pos q8]
  have hb:(oU t0.1 ss).idxOf y<ss.length:=by
   rw[hP,List.idxOf_append,if_pos hy,<- Yh];exact cB hy
  have Yj:(oU t0.1 ss)[(oU t0.1 ss).idxOf y]? = some y:=by
   have:=cB q8;rw[aR this,List.getElem_idxOf]
  have Z6:=BC _ hw y Yj
  have mB:((ss.drop ((oU t0.1 ss).idxOf y)).map (·.2)).Nodup:=by
   have e:(ss.drop ((oU t0.1 ss).idxOf y)).map (·.2)=(oU t0.1 ss).drop ((oU t0.1 ss).idxOf y+1):=by rw[cJ];rfl
   have Lb:=cB hy;rw[e,hP,List.idxOf_append,if_pos hy,List.drop_append_of_le_length (!1)];refine bU.mpr ⟨Va.sublist (List.drop_sublist _ _),!4,λa lW b hb=>?_⟩;rw[ay.mp hb];rintro rfl
   have h2:P=P.take (P.idxOf a)++a::P.drop (P.idxOf a+1):=by
    conv=>lhs;rw[<- List.take_append_drop (P.idxOf a) P]
    rw[cG Lb,List.getElem_idxOf]
   rw[h2] at Va;exact (bJ.mp (bU.mp Va).2.1).1 lW
  generalize (oU t0.1 ss).idxOf y=b at Vb hb Z6 mB
  have hcf:jk ((ss.map (·.1)).map ad.int) (some (b:Int)) none=((ss.drop b).map (·.1)).map .int:=by
   rw[kz _ _ (!1),bj,cJ,cJ]
  simp! [QP,JF,iK,kh,Vb,Et,hcf,fX];refine h y (ss.drop b) Z6 (λz=>?_) ?_ (λk hk=>?_) mB
  .have:=congrArg List.length z
   simp at this;omega
  .rw[cJ]
   exact z5.sublist (List.drop_sublist _ _)
  .rw[cJ] at hk
   exact ll k (cC hk)
 .simp! [hy,decide_false]
  subst La
  obtain⟨k1,U',Yk,Yl⟩:=Gv ev hn ok hw z5 ll (λg6 DA=>hy (by
   have:oU t0.1 ss=t0.1::ss.map (·.2):=rfl;rw[hP] at this
   cases P with
   | nil =>
    simp at Yh;exact absurd (cU Yh.symm) g6
   | cons a P =>
    simp only[aI,List.cons.injEq] at this;rw[this.1,DA]
    exact aq ..)) (λhe=>⟨k0,Yd,by
   subst he;have:t0.1=y:=hw;subst this;unfold mw;rw[ax,Ye];exact aq ..⟩)
  generalize M7:dv (kf 3 _ _) _=tl;simp! [dv]
  rw[mh (λk=>.int k) (λk=>!decide (k∈ss.map (·.1)) && (gy ts y (.int k)).isSome) _ _ _ _ (λk _ n Q=>by simp! [dv]) (λk _ n Q=>by
   simp! [pA,iK,kh,wc];by_cases hk:k∈ss.map (·.1)<;>simp[hk])]
  have Yc:k1∈left.filter (λk=>!decide (k∈ss.map (·.1)) && (gy ts y (.int k)).isSome):=aJ.mpr ⟨U',by
   rw[(J' (ok k1 U').1 (ok k1 U').2).mpr Yl];simpa using Yk⟩
  cases hf:left.filter (λk=>!decide (k∈ss.map (·.1)) && (gy ts y (.int k)).isSome) with
  | nil=>rw[hf] at Yc;cases Yc
  | cons k on =>
   have Ym:k∈left.filter (λk=>!decide (k∈ss.map (·.1)) && (gy ts y (.int k)).isSome):=by rw[hf];exact aq ..
   obtain⟨hkl,TR⟩:=aJ.mp Ym;rw[aK] at TR;obtain⟨z,hz⟩:=bO.mp TR.2;have RV:k ∉ ss.map (·.1):=by simpa using TR.1
   obtain⟨tW,t,ht,ha,hzt⟩:=BF hz
   have Vc:((ss++[(k,z)]).map (·.1)).Nodup:=by
    rw[bc]
    exact bU.mpr ⟨z5,!4,λa lW b hb=>by
     have e:=ay.mp hb;subst e;exact λw=>RV (w ▸ lW)⟩
   have Ow:∀j∈(ss++[(k,z)]).map (·.1),j∈left:=λj hj=>by
    rw[bc] at hj;rcases aH.mp hj with hj | hj
    .exact ll j hj
    .rw[ay.mp hj];exact hkl
   have Vd:=Yf Vc Ow;rw[au,aT] at Vd;have e1:(ss.map (·.1)).map ad.int++[.int k]=((ss++[(k,z)]).map (·.1)).map .int:=by simp
   have e2:(oU t0.1 ss).map ad.int++[.int z]=(oU t0.1 (ss++[(k,z)])).map .int:=by simp[oU]
   have a1:=jv (ds:=(ss.map (·.1)).map ad.int) (d:=.int k) (by rw[ah,ah];omega);have a2:=jv (ds:=(oU t0.1 ss).map ad.int) (d:=.int z) (by rw[ah];simp[oU];omega);rw[e1] at a1;rw[e2] at a2;subst M7;rw[e0];simp! [am,az,eZ,a1,eW,ha,iK,kh,nk,<- hzt,a2];rw[<- e0]
   exact⟨left.length - (ss++[(k,z)]).length,by rw[au,aT];omega,ss++[(k,z)],z,_,rfl,BB hw tW,Vc,Ow,by
    rw[show oU t0.1 (ss++[(k,z)])=oU t0.1 ss++[z] by simp[oU],List.dropLast_concat,hP];exact bU.mpr ⟨Va,!4,λa lW b hb=>by rw[ay.mp hb];exact λw=>hy (w ▸ lW)⟩,rfl⟩
end
noncomputable def o8 (r:Int × List Int):ad:=.tuple [.int r.1,dF r.2]
structure Ox (ts:List eC) (r:Int × List Int):Prop where
 ex:∃ss:List (Int × Int),BA ts r.1 ss r.1/\ss≠[]/\r.2=ss.map (·.1)/\(ss.map (·.2)).Nodup
 nd:r.2.Nodup
section
variable {n:Int}{X:XQ}{Q:ad->Int->Prop}
theorem BG {many:Int}{ts:List eC}{D:List Int}(ev:mx ts D)(hn:D.Nodup)(ok:ki ts D)(hl:D.length<=100)
  (h:∀rs:List (Int × List Int),(∀r∈rs,Ox ts r)->((rs.map (·.2)).flatten).Perm D->rs.length<=D.length->Q (.tuple (rs.map o8)) n) :
  mT [d0 many ts,dF D] n Q X:=by
 have hsz:av=16777216:=by decide
 have eD:dF D=.tuple (D.map .int):=rfl;unfold mT pJ;simp only[iX,g9,envOf,am,aX,aj,aG,Nat.reduceSub,Nat.reduceAdd,aF,aP,aI,az];generalize La:dv (dS 4 _) _=bd;rw[eD];simp! [dv];unfold pw;refine⟨λm d5 n'=>n'=n/\∃(rs:List (Int × List Int)) (left:List Int) (x4:Option nG),d5=[some (.s (d0 many ts)),some (.s (.tuple (D.map .int))),some (.o (rs.map o8)),some (.s (.list (left.map .int))),x4]/\(∀r∈rs,Ox ts r)/\((rs.map (·.2)).flatten++left).Perm D/\mx ts left/\left.Nodup/\ki ts left/\rs.length+left.length<=D.length/\m=left.length,⟨_,rfl,[],D,none,rfl,!4,!4,ev,hn,ok,!4,rfl⟩,?_⟩;rintro m d5 n' ⟨rfl,rs,left,x4,rfl,Ve,Qh,Lc,z5,hok,fk,rfl⟩
 cases left with
 | nil =>
  have Vf:CZ (.int ((0:Nat):Int)) (.int 0)=some (.bool false):=by simp[CZ]
  simp! [eB,aX,aG,Vf,fX];rw[bt] at Qh;exact h rs Ve Qh (by simpa using fk)
 | cons k0 rest =>
  have Vf:CZ (.int (((k0::rest).map ad.int).length:Int)) (.int 0)=some (.bool true):=by
   simp only[CZ,ah,aj];rw[decide_eq_true (!1)]
  have g6:k0::rest≠[]:=by simp
  have hls:(k0::rest).length<=100:=by omega
  generalize k0::rest=left at *;simp! [eB,Vf];subst La;simp! [dv];refine wg Lc z5 hok g6 hls λx ss hw RW Yn ll mB=>?_;have NK:rs.length<16777216:=by omega
  have er:ad.tuple [.int x,dF (ss.map (·.1))]=o8 (x,ss.map (·.1)):=rfl;have a1:=jv (ds:=rs.map o8) (d:=o8 (x,ss.map (·.1))) (by rw[ah];omega);have e1:rs.map o8++[o8 (x,ss.map (·.1))]=(rs++[(x,ss.map (·.1))]).map o8:=by simp
  rw[e1] at a1;rw[er];simp! [a1]
  rw[mh (λk=>.int k) (λk=>!decide (k∈ss.map (·.1))) _ _ _ _ (λk _ n Q=>by simp! [dv]) (λk _ n Q=>by
   rw[o8,dF];simp! [eW,vJ])]
  have zX:=we z5 Yn ll;have Yo:=zX.length_eq;rw[au,ah] at Yo;have Z7:0<ss.length:=cI.mpr RW;rw[az];refine⟨(left.filter λk=>!decide (k∈ss.map (·.1))).length,!1,rfl,rs++[(x,ss.map (·.1))],left.filter λk=>!decide (k∈ss.map (·.1)),_,rfl,λr hr=>?_,?_,Gw Lc z5 hw Yn ll,z5.filter _,λk hk=>hok k (aJ.mp hk).1,by rw[au,aT];omega,rfl⟩
  .rcases aH.mp hr with hr | hr
   .exact Ve r hr
   .rw[ay.mp hr]
    exact⟨⟨ss,hw,RW,rfl,mB⟩,Yn⟩
  .rw[bc,List.flatten_append]
   simp only[am,aX,cj,List.flatten_nil,bt,bM];exact (List.Perm.append_left _ zX.symm).trans Qh
end
noncomputable def tw (ts:List eC)(k:Int):Int:=(ts.getD k.toNat (0,0,0)).2.2
noncomputable def nF (ts:List eC)(ks:List Int):Int:=(ks.map (tw ts)).sum
theorem DB (ts:List eC)(p:Int->Bool)(a:List Int):nF ts a=nF ts (a.filter p)+nF ts (a.filter λk=>!p k):=by
 induction a with
 | nil=>rfl
 | cons k a ih =>
  have e:∀l,nF ts (k::l)=tw ts k+nF ts l:=λl=>rfl
  cases hp:p k with
  | true=>rw[bR hp,bS (by simp[hp]),e,e,ih];omega
  | false=>rw[bS (by simp[hp]),bR (by simp[hp]),e,e,ih];omega
theorem wj {l:List Int}(h:l.Nodup)(k:Int):l.count k=if k∈l then 1 else 0:=List.Nodup.count h
theorem my {row:List Int}{v:Int}:v∈iA row↔row.count v % 2=1:=by
 unfold iA;rw[ju,aJ];constructor
 .intro z
  exact of_decide_eq_true z.2
 .intro z
  exact⟨cv.mp (!1),decide_eq_true z⟩
theorem zR (row:List Int):(iA row).Pairwise (· < ·):=me _
theorem o9 {l:List Int}(h:l.Pairwise (· < ·)):l.Nodup:=h.imp λh z=>by omega
theorem q9 (row:List Int):(iA row).Nodup:=o9 (zR row)
theorem Gx {a b:List Int}(ha:a.Nodup)(hb:b.Nodup){k:Int}:k∈iA (a++b)↔¬ (k∈a↔k∈b):=by
 rw[my,bv,wj ha,wj hb];by_cases h1:k∈a<;>by_cases h2:k∈b<;>simp[h1,h2]
theorem wk {a s:List Int}(ha:a.Nodup)(hs:s.Nodup):(iA (a++s)).Perm ((a.filter λk=>!decide (k∈s))++(s.filter λk=>!decide (k∈a))):=by
 refine (cf (q9 _) (bU.mpr ⟨ha.filter _,hs.filter _,λx hx y hy e=>?_⟩)).mpr λk=>?_
 .subst e
  have h1:=(aJ.mp hx).1;have h2:=(aJ.mp hy).2;simp[h1] at h2
 .rw[Gx ha hs,aH,aJ,aJ]
  by_cases h1:k∈a<;>by_cases h2:k∈s<;>simp[h1,h2]
theorem yG {a s:List Int}(ha:a.Nodup)(hs:s.Nodup):(a.filter λk=>decide (k∈s)).Perm (s.filter λk=>decide (k∈a)):=by
 refine (cf (ha.filter _) (hs.filter _)).mpr λk=>?_;rw[aJ,aJ];simp[and_comm]
theorem h8 {α:Type}(l:List α):l.filter (λ_=>true)=l:=by simp
noncomputable abbrev rf (ts:List eC):Prop:=∀t∈ts,t.2.2.natAbs<=99
theorem rg {ts:List eC}{k:Int}(h:0<=k/\k<(ts.length:Int)):lV (ts.map eS) k=some (eS (ts.getD k.toNat (0,0,0))):=by
 obtain⟨t,h1,_,h2⟩:=lB h.1 h.2;rw[h2,ax,h1];rfl
theorem Rb {ts:List eC}(hp:rf ts){k:Int}(h:0<=k/\k<(ts.length:Int)):(tw ts k).natAbs<=99:=by
 obtain⟨t,h1,h3,_⟩:=lB h.1 h.2;unfold tw;rw[ax,h1];exact hp t h3
theorem Gy {ts:List eC}{ks:List Int}(hp:rf ts)(hk:ki ts ks):o7 [.list ((ks.map (tw ts)).map .int)]=some (.int (nF ts ks)):=by
 simp only[o7,vA,eh,cb]
 rw[if_pos λn hn=>by
  obtain⟨k,K3,rfl⟩:=bg.mp hn;have:=Rb hp (hk k K3);omega]
 rfl
theorem M8 (row:List Int):(jP row).length<=row.length:=fF (hV row) λk hk=>gP.mp hk
section
variable {n:Int}{X:XQ}{Q:ad->Int->Prop}
theorem tD {many:Int}{ts:List eC}{ks:List Int}(hp:rf ts)(hk:ki ts ks):kS [d0 many ts,dF ks] n Q X=Q (.int (nF ts ks)) n:=by
 rw[dF];simp! [kS,pG]
 rw[mh (λk=>.int (tw ts k)) (λ_=>true) _ _ _ _ (λk K3 n Q=>by
  rw[d0];simp! [eW,rg (hk k K3),eS,kg,tw]) (λk _ n Q=>by simp! [dv])]
 have e:([]++(ks.filter λ_=>true).map λk=>ad.int (tw ts k))=(ks.map (tw ts)).map .int:=by rw[h8,az,br];rfl
 rw[e];simp! [Gy hp hk]
theorem DC {row:List Int}(h1:(jP row).length<=60)(h2:row.length<=100000):jw [.tuple (row.map .int)] n Q X=Q (dF (iA row)) n:=by
 simp only[jw,eh,dj,h1,h2,true_and,dF,and_self]
theorem oA {a b:List Int}(h:a.length+b.length<=60):iL [dF a,dF b] n Q X=Q (dF (iA (a++b))) n:=by
 have e:fw (.tuple (a.map .int)) (.tuple (b.map .int))=some (.tuple ((a++b).map .int)):=by rw[vK (by rw[ah,ah];omega),bc]
 have hl:(a++b).length<=60:=by rw[au];exact h
 simp! [iL,pE];rw[dF,dF];simp! [e,DC (aL (M8 (a++b)) hl) (!1)]
end
theorem BH (row:List Int)(v:Int):(iA row).count v % 2=row.count v % 2:=by
 rw[wj (q9 row)];by_cases h:v∈iA row
 .rw[if_pos h,my.mp h]
 .rw[if_neg h]
  have:¬ row.count v % 2=1:=λz=>h (my.mpr z);omega
noncomputable def jg (ls:List Int)(t:eC):List Int:=match ls[t.1.toNat]?,ls[t.2.1.toNat]? with
 | some a,some b=>ls.map λl=>if l=(if a<b then b else a) then (if b<a then b else a) else l
 | _,_=>ls
structure Kl (many:Nat) (ts:List eC) (ls:List Int):Prop where
 len:ls.length=many
 join:∀t∈ts,ls[t.1.toNat]? = ls[t.2.1.toNat]?
 Gz:∀C:Nat->Prop,(∀t∈ts,(C t.1.toNat↔C t.2.1.toNat))->∀p q l,ls[p]? = some l->ls[q]? = some l->(C p↔C q)
theorem Kl.begin (many:Nat):Kl many [] (fS 0 many):=by
 refine⟨by rw[e9],!4,λC _ p q l h1 h2=>?_⟩
 have e:∀(p:Nat) (l:Int),(fS 0 many)[p]? = some l->l=(p:Int):=λp l h=>by
  unfold fS at h;rw[aB] at h
  cases hr:(List.range many)[p]? with
  | none=>rw[hr] at h;cases h
  | some x =>
   rw[hr] at h;have:=aN.mp hr;obtain⟨hl,hx⟩:=this;rw[List.getElem_range] at hx;cases h;show 0+(x:Int)=p;omega
 have a:=e p l h1;have b:=e q l h2;have:p=q:=by omega
 rw[this]
theorem GA {x y M m:Int}(g6:¬ x=y)(h:(if x=M then m else x)=(if y=M then m else y)):(x=M/\y=m)\/(x=m/\y=M):=by
 by_cases h1:x=M
 .by_cases h2:y=M
  .exact absurd (h1.trans h2.symm) g6
  .rw[if_pos h1,if_neg h2] at h
   exact .inl ⟨h1,h.symm⟩
 .by_cases h2:y=M
  .rw[if_neg h1,if_pos h2] at h
   exact .inr ⟨h,h2⟩
  .rw[if_neg h1,if_neg h2] at h
   exact absurd h g6
theorem Kl.step {many:Nat}{ts:List eC}{ls:List Int}(k:Kl many ts ls){t:eC}(h1:t.1.toNat<many)(h2:t.2.1.toNat<many):Kl many (ts++[t]) (jg ls t):=by
 have l1:t.1.toNat<ls.length:=by rw[k.len];exact h1
 have l2:t.2.1.toNat<ls.length:=by rw[k.len];exact h2
 obtain⟨a,ha⟩:∃a,ls[t.1.toNat]? = some a:=⟨ls[t.1.toNat],by simp[l1]⟩;obtain⟨b,hb⟩:∃b,ls[t.2.1.toNat]? = some b:=⟨ls[t.2.1.toNat],by simp[l2]⟩
 have e:jg ls t=ls.map λl=>if l=(if a<b then b else a) then (if b<a then b else a) else l:=by
  unfold jg;rw[ha,hb]
 rw[e];refine⟨by rw[ah];exact k.len,λu hu=>?_,λC hC p q l hp hq=>?_⟩
 .rw[aB,aB]
  rcases aH.mp hu with hu | hu
  .rw[k.join u hu]
  .have eu:=ay.mp hu
   subst eu;rw[ha,hb];simp only[bn,Option.some.injEq];by_cases Ar:a<b
   .have:¬ b<a:=by omega
    simp only[Ar,this,if_true,if_false];by_cases h:a=b<;>simp[h]
   .simp only[Ar,if_false,if_true]
    by_cases h:b<a
    .have:b≠a:=by omega
     simp[h,this]
    .have:a=b:=by omega
     simp[this]
 .rw[aB] at hp hq
  have M9:∀u∈ts,(C u.1.toNat↔C u.2.1.toNat):=λu hu=>hC u (bP _ hu);have Ar:=hC t (aU _ (ay.mpr rfl))
  cases F8:ls[p]? with
  | none=>rw[F8] at hp;cases hp
  | some x =>
   cases II:ls[q]? with
   | none=>rw[II] at hq;cases hq
   | some y =>
    rw[F8] at hp;rw[II] at hq;simp only[bn,Option.some.injEq] at hp hq;by_cases DA:x=y
    .subst DA
     exact k.Gz C M9 p q x F8 II
    .have hM:(if a<b then b else a)=a\/(if a<b then b else a)=b:=by
      split
      .exact .inr rfl
      .exact .inl rfl
     have hm:(if b<a then b else a)=a\/(if b<a then b else a)=b:=by
      split
      .exact .inr rfl
      .exact .inl rfl
     have Vg:=GA DA (hp.trans hq.symm)
     have hx:x=a\/x=b:=by
      rcases Vg with⟨z,_⟩ | ⟨z,_⟩
      .rw[z];exact hM
      .rw[z];exact hm
     have hy:y=a\/y=b:=by
      rcases Vg with⟨_,z⟩ | ⟨_,z⟩
      .rw[z];exact hm
      .rw[z];exact hM
     have px:C p↔C t.1.toNat:=by
      rcases hx with rfl | rfl
      .exact k.Gz C M9 p _ x F8 ha
      .exact (k.Gz C M9 p _ x F8 hb).trans Ar.symm
     have py:C q↔C t.1.toNat:=by
      rcases hy with rfl | rfl
      .exact k.Gz C M9 q _ y II ha
      .exact (k.Gz C M9 q _ y II hb).trans Ar.symm
     exact px.trans py.symm
theorem Kl.fold {many:Nat}:∀{us ts:List eC} {ls:List Int},Kl many ts ls->(∀t∈us,t.1.toNat<many/\t.2.1.toNat<many)->Kl many (ts++us) (us.foldl jg ls)
 | [],ts,ls,k,_=>by simpa using k
 | t::us,ts,ls,k,h=>by
  have:=Kl.fold (us:=us) (k.step (h t (aq ..)).1 (h t (aq ..)).2) λu hu=>h u (ao _ hu);rw[bM] at this;exact this
noncomputable def iO (p:Int->Bool):Nat->List Int->List Int
 | _,[]=>[]
 | k,x::xs=>if p x=true then (k:Int)::iO p (k+1) xs else iO p (k+1) xs
theorem wm {p:Int->Bool}{i:Int}:∀{xs:List Int} {k:Nat},i∈iO p k xs↔∃j x,i=((k+j:Nat):Int)/\xs[j]? = some x/\p x=true
 | [],k=>by simp[iO]
 | x::xs,k=>by
  have ih:=wm (p:=p) (i:=i) (xs:=xs) (k:=k+1)
  have key:(∃j y,i=((k+1+j:Nat):Int)/\xs[j]? = some y/\p y=true)↔∃j y,i=((k+(j+1):Nat):Int)/\(x::xs)[j+1]? = some y/\p y=true:=by
   constructor
   .rintro⟨j,y,e,h⟩
    exact⟨j,y,!1,h⟩
   .rintro⟨j,y,e,h⟩
    exact⟨j,y,!1,h⟩
  unfold iO;constructor
  .intro h
   split at h
   .rename_i hp
    rcases al.mp h with rfl | h
    .exact⟨0,x,rfl,rfl,hp⟩
    .obtain⟨j,y,h⟩:=key.mp (ih.mp h)
     exact⟨j+1,y,h⟩
   .obtain⟨j,y,h⟩:=key.mp (ih.mp h)
    exact⟨j+1,y,h⟩
  .rintro⟨j,y,e,h1,h2⟩
   cases j with
   | zero =>
    simp only[aa,Option.some.injEq] at h1;subst h1;rw[if_pos h2];exact al.mpr (.inl e)
   | succ j =>
    have:=ih.mpr (key.mpr ⟨j,y,e,h1,h2⟩);split
    .exact ao _ this
    .exact this
section
variable {n:Int}{X:XQ}
theorem BI {p:Int->Bool}{uc:UT}{Q:List ad->Int->Prop}{rest:eU}:∀(xs:List Int) (k:Nat) (acc:List ad) (x y:Option nG),(∀a∈xs,∀(b:Int) n Q,uc (some (.s (.int a))::some (.s (.int b))::rest) n Q=Q (p a) n) ->
  fB (Hd [gO 1,gO 0]) uc (dA 1) Q (((xs.map ad.int).zipIdx k).map λq=>ad.tuple [.int (q.2:Nat),q.1]) acc (x::y::rest) n=Q (acc++(iO p k xs).map .int) n
 | [],k,acc,x,y,_=>by simp[fB,iO]
 | a::xs,k,acc,x,y,h=>by
  have ih:=λacc x y=>BI (Q:=Q) xs (k+1) acc x y λb hb=>h b (ao _ hb);simp only[am,List.zipIdx_cons,fB,Hd,AR,gO,ap,ar,h a (aq ..)];unfold iO;by_cases hp:p a=true
  .simp! [hp,if_true]
   rw[ih];simp
  .have F8:p a=false:=by simpa using hp
   simp only[F8,bH,if_false];rw[ih]
variable {Q:ad->Int->Prop}
theorem zS (ls:List Int)(l:Int):jR [.list (ls.map .int),.int l] n Q X=Q (dF (iO (λa=>decide (a=l)) 0 ls)) n:=by
 simp! [jR,nV,iw];rw[BI (p:=λa=>decide (a=l)) _ _ _ _ _ λa _ b n Q=>by simp! [fc]];simp! [fX,dF]
noncomputable def dI (many:Int)(ts:List eC):List Int:=ts.foldl jg (fS 0 many.toNat)
theorem wo (ls:List Int)(t:eC):(jg ls t).length=ls.length:=by
 unfold jg;split<;>simp
theorem BJ {many:Int}{ts:List eC}(h0:0<=many)(h1:many<60)(ok:∀t∈ts,0<=t.1/\t.1<many/\0<=t.2.1/\t.2.1<many) :
  mR [d0 many ts] n Q X=Q (.tuple ((kN (dI many ts)).map λl=>dF (iO (λa=>decide (a=l)) 0 (dI many ts)))) n:=by
 simp! [mR,pH,d0,eZ,eW];have hd:(-(2 ^ 62)<=many/\many<=16777216):=⟨!1,!1⟩;simp only[hd,true_and]
 have key:∀(us:List eC) (ls:List Int) (w:ad) (x2 x3 x4:Option nG),ls.length=many.toNat->(∀t∈us,t∈ts)->ix (gO 2) (dv (dS 3 (gM sY (dh (dB d7 (di 1) (dB d7 (di 2) (uC (ad.int 0)))) (dh (dB d7 (di 1) (dB d7 (di 2) (uC (ad.int 1)))) dm))))
   (dv (dS 4 (gM sZ (dh (dB d7 (di 1) (dB d7 (di 2) (uC (ad.int 0)))) (dh (dB d7 (di 1) (dB d7 (di 2) (uC (ad.int 1)))) dm))))
    (dS 1 (uL (ff (vx (di 1)) [none,some 3,some 4] (gO 0) nE (MB (dM (dB l9 (di 0) (di 2))) (dA 1) (dA 0)))))))
   { nx:=dW (gM fX (dh (uL (ff (vx (uL (rV (di 1)))) [none,some 1] (gO 0) nE (du jR (dh (dA 1) (dh (dA 0) dm))))) dm)) { nx:=λx n'=>Q ad.none n',rt:=Q },rt:=Q }
   (us.map eS) [some (.s w),some (.s (.list (ls.map .int))),x2,x3,x4] n=Q (.tuple ((kN (us.foldl jg ls)).map λl=>dF (iO (λa=>decide (a=l)) 0 (us.foldl jg ls)))) n:=by
  intro us
  induction us with
  | nil =>
   intro ls w x2 x3 x4 hl _;have RB:ls.length<64:=by omega
   simp! [ix,aX,eh,RB];rw[mh (λl=>dF (iO (λa=>decide (a=l)) 0 ls)) (λ_=>true) _ _ _ _ (λk _ n Q=>by simp! [zS]) (λk _ n Q=>by simp! [dv])];simp! [fX,h8,List.foldl_nil]
  | cons t us ih =>
   intro ls w x2 x3 x4 hl RT;have ht:=ok t (RT t (aq ..));obtain⟨a,ha,_,lW⟩:=Ba (ns:=ls) (i:=t.1) ht.1 (!1);obtain⟨b,hb,_,C4⟩:=Ba (ns:=ls) (i:=t.2.1) ht.2.2.1 (!1)
   have e:jg ls t=ls.map λl=>if l=(if a<b then b else a) then (if b<a then b else a) else l:=by
    unfold jg;rw[lW,C4]
   simp! [ix,eS,eZ,eW,ha,hb,sY,sZ]
   rw[mh (λl=>.int (if l=(if a<b then b else a) then (if b<a then b else a) else l)) (λ_=>true) _ _ _ _ (λk _ n Q=>by
    simp! [fc,gt_iff_lt];by_cases hk:k=(if a<b then b else a)<;>simp[hk]) (λk _ n Q=>by simp! [dv])]
   have e2:(ls.map λl=>ad.int (if l=(if a<b then b else a) then (if b<a then b else a) else l))=(jg ls t).map .int:=by rw[e,br];rfl
   simp! [h8,e2];rw[cV];exact ih (jg ls t) _ _ _ _ (by rw[wo];exact hl) λu hu=>RT u (ao _ hu)
 rw[i9];exact key ts _ _ _ _ _ (e9 _ _) (λ_ h=>h)
end
theorem wq (ts:List eC)(p:Int->Bool)(u:Int):∀l:List Int,(gI ts l).count u=(gI ts (l.filter p)).count u+(gI ts (l.filter λk=>!p k)).count u
 | []=>rfl
 | k::l=>by
  have ih:=wq ts p u l
  cases hp:p k with
  | true =>
   rw[bR hp,bS (by simp[hp]),iN,iN,bv,bv];omega
  | false =>
   rw[bS (by simp[hp]),bR (by simp[hp]),iN,iN,bv,bv];omega
theorem wu (p:Int->Bool):∀l:List Int,l.length=(l.filter p).length+(l.filter λk=>!p k).length
 | []=>rfl
 | k::l=>by
  have ih:=wu p l
  cases hp:p k with
  | true =>
   rw[bR hp,bS (by simp[hp]),aj,aj];omega
  | false =>
   rw[bS (by simp[hp]),bR (by simp[hp]),aj,aj];omega
theorem pZ {ts:List eC}{a s:List Int}(ha:a.Nodup)(hs:s.Nodup)(u:Int):(gI ts (iA (a++s))).count u % 2=((gI ts a).count u+(gI ts s).count u) % 2:=by
 have h1:=(nq (ts:=ts) (wk ha hs)).count_eq u;rw[qZ,bv] at h1;have h2:=wq ts (λk=>decide (k∈s)) u a;have h3:=wq ts (λk=>decide (k∈a)) u s;have h4:=(nq (ts:=ts) (yG ha hs)).count_eq u;omega
theorem yH {a s:List Int}(ha:a.Nodup)(hs:s.Nodup):(iA (a++s)).length % 2=(a.length+s.length) % 2:=by
 have h1:=(wk ha hs).length_eq;rw[au] at h1;have h2:=wu (λk=>decide (k∈s)) a;have h3:=wu (λk=>decide (k∈a)) s;have h4:=(yG ha hs).length_eq;omega
theorem Ka {l:List Int}(h:∀v,l.count v % 2=0):iA l=[]:=List.eq_nil_iff_forall_not_mem.mpr λk hk=>by
 have:=my.mp hk;have:=h k;omega
noncomputable def rD (ls:List Int)(v:Int):Int:=(iO (λa=>decide (a=ls.getD v.toNat 0)) 0 ls).headD 0
theorem getD_at {ls:List Int}{i:Nat}(h:i<ls.length):ls[i]? = some (ls.getD i 0):=by
 rw[ax,aR h];rfl
theorem Kb {ls:List Int}{v:Int}(h0:0<=v)(h1:v<(ls.length:Int)):rD ls v∈iO (λa=>decide (a=ls.getD v.toNat 0)) 0 ls:=by
 have hm:v∈iO (λa=>decide (a=ls.getD v.toNat 0)) 0 ls:=wm.mpr ⟨v.toNat,ls.getD v.toNat 0,!1,getD_at (!1),!4⟩;unfold rD
 cases h:iO (λa=>decide (a=ls.getD v.toNat 0)) 0 ls with
 | nil=>rw[h] at hm;cases hm
 | cons a r=>exact aq ..
theorem Oy {ls:List Int}{v:Int}(h0:0<=v)(h1:v<(ls.length:Int)):0<=rD ls v/\rD ls v<(ls.length:Int)/\ls.getD (rD ls v).toNat 0=ls.getD v.toNat 0:=by
 obtain⟨j,x,e,hx,hp⟩:=wm.mp (Kb h0 h1);have hj:=(aN.mp hx).1;rw[e];refine⟨!1,!1,?_⟩;rw[show ((0+j:Nat):Int).toNat=j by omega,ax,hx];exact of_decide_eq_true hp
theorem EK {ls:List Int}{u v:Int}(h:ls.getD u.toNat 0=ls.getD v.toNat 0):rD ls u=rD ls v:=by
 unfold rD;rw[h]
noncomputable abbrev fm (ts:List eC)(k:Int):eC:=ts.getD k.toNat (0,0,0)
noncomputable abbrev iY (many:Int)(ts:List eC):Prop:=∀t∈ts,0<=t.1/\t.1<t.2.1/\t.2.1<many
theorem j8 {ts:List eC}{k:Int}(h:0<=k/\k<(ts.length:Int)):fm ts k∈ts:=by
 obtain⟨t,h1,h2,_⟩:=lB (ts:=ts) h.1 h.2;unfold fm;rw[ax,h1];exact h2
theorem M' (kvs:lI)(k:List Int):(fu kvs k).isSome=true↔k∈ij kvs:=by
 rw[<- oz,cS,ij,bg];constructor
 .rintro⟨p,hp,h⟩;exact⟨p,hp,of_decide_eq_true h⟩
 .rintro⟨p,hp,h⟩;exact⟨p,hp,decide_eq_true h⟩
noncomputable abbrev bI (p:Prop)[Decidable p]:Nat:=if p then 1 else 0
structure Fo (many:Int) (ts:List eC) (rt:Int->Int) (kvs:lI) (tr:List Int):Prop where
 val:∀v d,fu kvs [v]=some d->0<=v/\v<many/\∃w:List Int,d=dF w/\w.Pairwise (· < ·)/\(∀k∈w,k∈tr)/\∀u,(gI ts w).count u % 2=(bI (u=v)+bI (u=rt v)) % 2
 key:∀l∈ij kvs,∃v,l=[v]
 nd:(ij kvs).Nodup
 num:ki ts tr
 Z8:∀k∈tr,∃wa wb,fu kvs [(fm ts k).1]=some (dF wa)/\fu kvs [(fm ts k).2.1]=some (dF wb)/\iA ([k]++iA (wa++wb))=[]
 free:∀S:List Int,S.Nodup->(∀k∈S,k∈tr)->mx ts S->S=[]
 cnt:kvs≠[]->tr.length<kvs.length
theorem Fo.nil (many:Int)(ts:List eC)(rt:Int->Int):Fo many ts rt [] []:=⟨λv d h=>(by rw[wd] at h;cases h),λl h=>(by simp[ij] at h),by simp[ij],λk hk=>(by cases hk),λk hk=>(by cases hk),λS _ h _=>List.eq_nil_iff_forall_not_mem.mpr λk hk=>(by cases h k hk),λz=>absurd rfl z⟩
section
variable {many:Int}{ts:List eC}{rt:Int->Int}{kvs:lI}{tr:List Int}
theorem EL {y:Int}{d:ad}(h:∀l∈ij kvs,∃v,l=[v]):∀l∈ij (kQ kvs [y] d),∃v,l=[v]:=λl hl=>by
 rw[Bz] at hl;split at hl
 .exact h l hl
 .rcases aH.mp hl with hl | hl
  .exact h l hl
  .exact⟨y,ay.mp hl⟩
theorem Kc {y:Int}{d:ad}(h:(ij kvs).Nodup):(ij (kQ kvs [y] d)).Nodup:=by
 rw[Bz];split
 .exact h
 .rename_i hm
  rw[bU];exact⟨h,!4,λa ha b hb=>by rw[ay.mp hb];exact λz=>hm (z ▸ ha)⟩
theorem Fo.root (F:Fo many ts rt kvs []){p:Int}(h0:0<=p)(h1:p<many)(hr:rt p=p):Fo many ts rt (kQ kvs [p] (dF [])) []:=by
 refine⟨λv d h=>?_,EL F.key,Kc F.nd,F.num,λk hk=>(by cases hk),F.free,λz=>cI.mpr z⟩;rw[mr] at h;by_cases hv:v=p
 .subst hv
  rw[if_pos rfl] at h;cases h;refine⟨h0,h1,[],rfl,List.Pairwise.nil,!4,λu=>?_⟩;rw[hr];show 0 % 2=(bI (u=v)+bI (u=v)) % 2;omega
 .rw[if_neg (by simpa using hv)] at h
  exact F.val v d h
theorem wx {ts:List eC}{k x y:Int}(h:(fm ts k).1=x/\(fm ts k).2.1=y\/(fm ts k).2.1=x/\(fm ts k).1=y)(u:Int):(mw ts k).count u=bI (u=x)+bI (u=y):=by
 have c1:∀a b:Int,[a,b].count u=bI (u=a)+bI (u=b):=λa b=>by
  have e:∀a:Int,(if (a == u)=true then 1 else 0)=bI (u=a):=λa=>by
   by_cases h:u=a
   .subst h;simp[bI]
   .rw[bI,if_neg h,if_neg (by simpa using λz=>h z.symm)]
  rw[cK,cK,List.count_nil,e,e];omega
 show [(fm ts k).1,(fm ts k).2.1].count u=_;rw[c1];rcases h with⟨rfl,rfl⟩ | ⟨rfl,rfl⟩
 .rfl
 .exact Nat.add_comm _ _
theorem Fo.grow (F:Fo many ts rt kvs tr){k x y:Int}{w:List Int}(hk:0<=k/\k<(ts.length:Int))(DA:(fm ts k).1=x/\(fm ts k).2.1=y\/(fm ts k).2.1=x/\(fm ts k).1=y)(g6:x≠y)(y0:0<=y)(y1:y<many)
  (hx:fu kvs [x]=some (dF w)) (hy:fu kvs [y]=none) (hr:rt y=rt x):Fo many ts rt (kQ kvs [y] (dF (iA (w++[k])))) (tr++[k]):=by
 obtain⟨_,_,w',ew,hw,Z9,hwe⟩:=F.val x _ hx
 have e:w'=w:=by
  have:w'.map ad.int=w.map ad.int:=by injection ew.symm
  exact List.map_inj_right (λa b h=>by injection h) |>.mp this
 subst e;have Rf:∀v d,fu kvs [v]=some d->v≠y:=λv d h z=>by rw[z,hy] at h;cases h
 have hke:∀u,(gI ts [k]).count u=bI (u=x)+bI (u=y):=λu=>by
  show (mw ts k++[]).count u=_;rw[bt];exact wx DA u
 have keep:∀{v:Int} {d:ad},fu kvs [v]=some d->fu (kQ kvs [y] (dF (iA (w'++[k])))) [v]=some d:=λ{v d} h=>by
  rw[mr,if_neg (by simpa using Rf v d h)];exact h
 have Ac:fu (kQ kvs [y] (dF (iA (w'++[k])))) [y]=some (dF (iA (w'++[k]))):=by rw[mr,if_pos rfl]
 refine⟨λv d h=>?_,EL F.key,Kc F.nd,λj hj=>?_,λj hj=>?_,λS hS ll Lc=>?_,λ_=>?_⟩
 .rw[mr] at h
  by_cases hv:v=y
  .subst hv
   rw[if_pos rfl] at h;cases h;refine⟨y0,y1,_,rfl,zR _,λj hj=>?_,λu=>?_⟩
   .have hj:j∈w'++[k]:=cv.mp (by have:=my.mp hj;omega)
    rcases aH.mp hj with hj | hj
    .exact bP _ (Z9 j hj)
    .exact aU _ hj
   .have h1:=pZ (ts:=ts) (o9 hw) (by simp:[k].Nodup) u
    have h2:=hwe u;have h3:=hke u;rw[hr];generalize bI (u=x)=A at h2 h3;generalize bI (u=v)=B at h3 ⊢;generalize bI (u=rt x)=C at h2 ⊢;omega
  .rw[if_neg (by simpa using hv)] at h
   obtain⟨a,b,w2,e2,h2,h3,h4⟩:=F.val v d h;exact⟨a,b,w2,e2,h2,λj hj=>bP _ (h3 j hj),h4⟩
 .rcases aH.mp hj with hj | hj
  .exact F.num j hj
  .rw[ay.mp hj];exact hk
 .rcases aH.mp hj with hj | hj
  .obtain⟨wa,wb,h1,h2,h3⟩:=F.Z8 j hj
   exact⟨wa,wb,keep h1,keep h2,h3⟩
  .rw[ay.mp hj]
   have ev:∀a b:List Int,(∀v,(a++b).count v=(w'++iA (w'++[k])).count v)->iA ([k]++iA (a++b))=[]:=λa b Ar=>Ka λv=>by
    have h1:=BH (a++b) v;have h2:=BH (w'++[k]) v;have h3:=Ar v;rw[bv] at h2 h3 ⊢;rw[bv] at h3;rw[bv] at h1;omega
   rcases DA with⟨e1,e2⟩ | ⟨e1,e2⟩
   .rw[e1,e2]
    exact⟨w',_,keep hx,Ac,ev _ _ λv=>rfl⟩
   .rw[e1,e2]
    exact⟨_,w',Ac,keep hx,ev _ _ λv=>by rw[bv,bv];omega⟩
 .by_cases Vh:k∈S
  .exfalso
   have hp:=List.perm_cons_erase Vh;have hc:=(nq (ts:=ts) hp).count_eq y;rw[iN,bv,wx DA y] at hc
   have h0:(gI ts (S.erase k)).count y=0:=List.count_eq_zero.mpr λhm=>by
    obtain⟨l,hl,Lb⟩:=List.mem_flatten.mp hm;obtain⟨j,hj,rfl⟩:=bg.mp hl
    have hjn:j≠k:=λz=>by
     subst z;exact (bJ.mp (hp.nodup_iff.mp hS)).1 hj
    have hjt:j∈tr:=by
     rcases aH.mp (ll j (List.mem_of_mem_erase hj)) with h | h
     .exact h
     .exact absurd (ay.mp h) hjn
    obtain⟨wa,wb,h1,h2,_⟩:=F.Z8 j hjt;have Lb:y∈[(fm ts j).1,(fm ts j).2.1]:=Lb;simp only[al,aM,or_false] at Lb;rcases Lb with e | e
    .exact Rf _ _ h1 e.symm
    .exact Rf _ _ h2 e.symm
   have h2:=Lc y;rw[show bI (y=x)=0 from if_neg (λz=>g6 z.symm),show bI (y=y)=1 from if_pos rfl,h0] at hc;omega
  .exact F.free S hS (λj hj=>by
    rcases aH.mp (ll j hj) with h | h
    .exact h
    .exact absurd (ay.mp h ▸ hj) Vh) Lc
 .have h1:=F.cnt λz=>by rw[z,wd] at hx;cases hx
  have:(kQ kvs [y] (dF (iA (w'++[k])))).length=kvs.length+1:=by
   unfold kQ;rw[if_neg (by rw[oz,hy];simp),au,aT]
  rw[au,aT];omega
end
structure sG (many:Int) (ts:List eC) (kvs:lI) (tr:List Int):Prop where
 fo:Fo many ts (rD (dI many ts)) kvs tr
 all:∀v,0<=v->v<many->(fu kvs [v]).isSome=true
theorem wy (many:Int)(ts:List eC):(dI many ts).length=many.toNat:=by
 have:∀(us:List eC) (ls:List Int),(us.foldl jg ls).length=ls.length:=by
  intro us
  induction us with
  | nil=>intro ls;rfl
  | cons t us ih=>intro ls;rw[cV,ih,wo]
 unfold dI;rw[this,e9]
theorem yI {many:Int}{ts:List eC}(ok:iY many ts):Kl many.toNat ts (dI many ts):=by
 have:=Kl.fold (us:=ts) (Kl.begin many.toNat) λt ht=>by
  have:=ok t ht;omega
 rwa [az] at this
theorem Kd {many:Int}{ts:List eC}(ok:iY many ts){t:eC}(ht:t∈ts):rD (dI many ts) t.1=rD (dI many ts) t.2.1:=by
 refine EK ?_;have:=(yI ok).join t ht;rw[ax,ax,this]
theorem Rg {many:Int}{ts:List eC}(ok:iY many ts){C:Int->Prop}(hC:∀t∈ts,(C t.1↔C t.2.1)){v:Int}(h0:0<=v)(h1:v<many):C v↔C (rD (dI many ts) v):=by
 have hl:=wy many ts;obtain⟨r0,r1,hr⟩:=Oy (ls:=dI many ts) (v:=v) h0 (!1)
 have hm:=(yI ok).Gz (λi=>C (i:Int)) (λt ht=>by
  have:=ok t ht;rw[show ((t.1.toNat:Nat):Int)=t.1 by omega,show ((t.2.1.toNat:Nat):Int)=t.2.1 by omega];exact hC t ht) v.toNat (rD (dI many ts) v).toNat _ (getD_at (!1)) (by rw[<- hr];exact getD_at (!1))
 rwa [show ((v.toNat:Nat):Int)=v by omega,show (((rD (dI many ts) v).toNat:Nat):Int)=rD (dI many ts) v by omega] at hm
theorem Oz (i:Int):F7 false (.int i)=some [i]:=rfl
noncomputable abbrev Pl (x:Option nG):Prop:=∀a t kvs,x≠some (.d a t kvs)
theorem BK (d:ad):Pl (some (.s d)):=λ_ _ _ z=>by cases z
theorem Ke:Pl none:=λ_ _ _ z=>by cases z
theorem EM {e:Option nG}{a:Addr}:∀(pre post:List (Option nG)),(∀x∈pre++post,Pl x)->Q0 (pre++e::post) pre.length a
 | pre,post,h=>λj t kvs hj z=>by
  by_cases h1:j<pre.length
  .rw[bY h1] at z
   exact h _ (bP _ (bC z)) a t kvs rfl
  .rw[ce (!1)] at z
   obtain⟨i,hi⟩:∃i,j - pre.length=i+1:=⟨j - pre.length - 1,!1⟩;rw[hi,ac] at z;exact h _ (aU _ (bC z)) a t kvs rfl
theorem Fo.len {many:Int}{ts:List eC}{rt:Int->Int}{kvs:lI}{tr:List Int}(F:Fo many ts rt kvs tr):kvs.length<=many.toNat:=by
 have h1:((ij kvs).map λl=>l.headD 0).Nodup:=by
  refine c6.mpr (List.Pairwise.imp_of_mem ?_ F.nd);intro a b ha hb Ar z;obtain⟨x,rfl⟩:=F.key a ha;obtain⟨y,rfl⟩:=F.key b hb;exact Ar (by simpa using z)
 have h2:=fF (ns:=fS 0 many.toNat) h1 λv hv=>by
  obtain⟨l,hl,rfl⟩:=bg.mp hv;obtain⟨x,rfl⟩:=F.key l hl;obtain⟨d,hd⟩:=bO.mp ((M' kvs [x]).mpr hl);have:=F.val x d hd;exact e8.mpr ⟨this.1,by have:=this.2.1;simp;omega⟩
 rw[ah,ij,ah,e9] at h2;exact h2
theorem ux {ts:List eC}{w tr:List Int}(h1:w.Pairwise (· < ·))(h2:∀k∈w,k∈tr)(h3:ki ts tr):w.length<=ts.length:=by
 have:=fF (ns:=fS 0 ts.length) (o9 h1) λk hk=>e8.mpr (by have:=h3 k (h2 k hk);omega);rwa [e9] at this
theorem Na {kvs:lI}{k:List Int}{d:ad}(h:fu kvs k=none):(kQ kvs k d).length=kvs.length+1:=by
 unfold kQ;have:(kvs.any λp=>decide (p.1=k))=false:=by rw[oz,h];rfl
 rw[if_neg (by simp[this]),au,aT]
theorem Rh {ts:List eC}{pre post:List ad}{d:ad}(h:pre++d::post=iw (ts.map eS)):pre.length<ts.length/\d=.tuple [.int (pre.length:Nat),eS (fm ts (pre.length:Nat))]:=by
 unfold iw at h;have h1:=congrArg (λl=>l[pre.length]?) h;simp only[ce (ag _),Nat.sub_self,aa,aB,List.getElem?_zipIdx] at h1;have h2:=congrArg List.length h;rw[au,aj,ah,List.length_zipIdx,ah] at h2;have hl:pre.length<ts.length:=by omega
 refine⟨hl,?_⟩;rw[aR hl] at h1;simp only[bn,Option.some.injEq,Nat.zero_add] at h1;rw[h1];simp[fm,ax,hl]
section
variable {n:Int}{X:XQ}{Q:ad->Int->Prop}
theorem rh {many:Int}{ts:List eC}(m0:1<=many)(m1:many<60)(ok:iY many ts)(hl:ts.length<=30)(hq:∀kvs tr,sG many ts kvs tr->Q (i3 false kvs) n):jS [d0 many ts] n Q X:=by
 have hsz:av=16777216:=by decide
 have e0:d0 many ts=.tuple [.int many,.tuple (ts.map eS)]:=rfl;have Yo:=wy many ts;unfold jS nY;simp only[iX,g9,envOf,am,aX,aj,aG,Nat.reduceSub,Nat.reduceAdd,aF,aP,aI,az];with_reducible generalize hwh:dv (dS 3 (uC (.bool true))) _=wh
 rw[true_and,dv,JK];intro a ha;simp only[ar,ap];rw[dv,kJ,Jd,du,dh,dA];simp only[aa,ac];rw[dm,BJ (!1) m1 (λt ht=>by have:=ok t ht;omega)];simp only[jr,dj]
 refine kP (λpre post env n'=>n'=n/\pre++post=((kN (dI many ts)).map λl=>dF (iO (λa=>decide (a=l)) 0 (dI many ts)))/\∃(kvs:lI) (x2:Option nG),env=[some (.s (d0 many ts)),some (.d a false kvs),x2,none,none,none,none]/\Pl x2/\Fo many ts (rD (dI many ts)) kvs [] /\
  ∀l∈dI many ts,dF (iO (λa=>decide (a=l)) 0 (dI many ts))∈pre->(fu kvs [(iO (λa=>decide (a=l)) 0 (dI many ts)).headD 0]).isSome=true) _ [] _ _ ?_ ⟨rfl,rfl,[],none,rfl,Ke,Fo.nil _ _ _,!4⟩ ?_
 .rintro pre d post env n' E' hE ⟨rfl,hp,kvs,x2,rfl,Mp,F,EN⟩ Gs
  obtain⟨l,Z',rfl⟩:∃l∈kN (dI many ts),dF (iO (λa=>decide (a=l)) 0 (dI many ts))=d:=bg.mp (hp ▸ aU pre (aq ..));have hlm:l∈dI many ts:=ju.mp Z';obtain⟨j,hj,Qi⟩:=b9 hlm
  have Yp:(dI many ts).getD ((j:Int)).toNat 0=l:=by
   rw[ax,bj,aR hj,Qi];rfl
  have Hi:(iO (λa=>decide (a=l)) 0 (dI many ts)).headD 0=rD (dI many ts) (j:Int):=by unfold rD;rw[Yp]
  have q8:=Kb (ls:=dI many ts) (v:=(j:Int)) (!1) (!1);have V3:=Oy (ls:=dI many ts) (v:=(j:Int)) (!1) (!1);rw[Yp] at q8 V3;rw[<- Hi] at V3 q8
  have Vi:rD (dI many ts) ((iO (λa=>decide (a=l)) 0 (dI many ts)).headD 0)=(iO (λa=>decide (a=l)) 0 (dI many ts)).headD 0:=by
   conv=>rhs;rw[Hi]
   exact EK (by rw[V3.2.2,Yp])
  obtain⟨p,r,Yq⟩:∃p r,iO (λa=>decide (a=l)) 0 (dI many ts)=p::r:=by
   cases h:iO (λa=>decide (a=l)) 0 (dI many ts) with
   | nil=>rw[h] at q8;cases q8
   | cons p r=>exact⟨p,r,rfl⟩
  have fk:=F.len;rw[gO];simp only[ar,ap];rw[yr,eG,dm];simp only[aa,ac];rw[dB,di];simp only[aa,ac]
  have PR:d7 (dF (iO (λa=>decide (a=l)) 0 (dI many ts))) (.int 0)=some (.int ((iO (λa=>decide (a=l)) 0 (dI many ts)).headD 0)):=by
   rw[Yq];show d7 (.tuple (.int p::r.map .int)) (.int 0)=_;rw[ee,eZ];rfl
  rw[uC,PR,dj,Oz,dj]
  refine⟨⟨!1,EM [_] [_,_,_,_,_] (by
   intro x hx;simp only[aI,az,al,aM,or_false] at hx;rcases hx with rfl | rfl | rfl | rfl | rfl | rfl<;>first | exact BK _ | exact Ke)⟩,?_⟩
  simp only[ar,ap];refine Gs _ _ ⟨rfl,by rw[bM];exact hp,_,_,rfl,BK _,F.root V3.1 (!1) Vi,λl' Iw hm=>?_⟩;rw[mr];split
  .rfl
  .rename_i g6
   rcases aH.mp hm with hm | hm
   .exact EN l' Iw hm
   .exfalso
    have e:=ay.mp hm
    have:iO (λa=>decide (a=l')) 0 (dI many ts)=iO (λa=>decide (a=l)) 0 (dI many ts):=by
     have:(iO (λa=>decide (a=l')) 0 (dI many ts)).map ad.int=(iO (λa=>decide (a=l)) 0 (dI many ts)).map ad.int:=by injection e
     exact List.map_inj_right (λa b h=>by injection h) |>.mp this
    rw[this] at g6;exact g6 rfl
 .rintro pre env n' ⟨rfl,hp,kvs,x2,rfl,Mp,F,EN⟩
  rw[bt] at hp
  have nr:∀v,0<=v->v<many->(fu kvs [rD (dI many ts) v]).isSome=true:=λv v0 v1=>by
   have hm:(dI many ts).getD v.toNat 0∈dI many ts:=bC (getD_at (!1));exact EN _ hm (hp ▸ bg.mpr ⟨_,ju.mpr hm,rfl⟩)
  clear EN hp;show wh _ _ _;subst hwh;with_reducible generalize La:eQ _ _ _=bd
  rw[dv,dS,uC];simp only[ar,ap];rw[dv];unfold pw
  refine⟨λm env n2=>n2=n'/\∃(kvs:lI) (tr:List Int) (g:Bool) (x2 x4 x5 x6:Option nG),env=[some (.s (d0 many ts)),some (.d a false kvs),x2,some (.s (.bool g)),x4,x5,x6]/\(Pl x2/\Pl x4/\Pl x5/\Pl x6)/\Fo many ts (rD (dI many ts)) kvs tr/\(∀v,0<=v->v<many->(fu kvs [rD (dI many ts) v]).isSome=true) /\
   (g=false->∀t∈ts,(fu kvs [t.1]).isSome=(fu kvs [t.2.1]).isSome)/\m=(if g=true then 1 else 0)+(many.toNat - kvs.length),⟨_,rfl,kvs,[],true,x2,none,none,none,rfl,⟨Mp,Ke,Ke,Ke⟩,F,nr,λz=>(by cases z),rfl⟩,?_⟩
  clear nr F Mp;rintro m env n' ⟨rfl,kvs,tr,g,x2,x4,x5,x6,rfl,⟨p2,p4,p5,p6⟩,F,nr,hg,rfl⟩;rw[dM,dA];simp only[aa,ac];rw[dD]
  cases g with
  | false =>
   rw[if_neg (!2)];show qJ 1 _ _ _;rw[qJ];simp only[aa,ac];refine hq kvs tr ⟨F,λv v0 v1=>?_⟩;refine (Rg ok (C:=λv=>(fu kvs [v]).isSome=true) (λt ht=>by rw[hg rfl t ht]) v0 v1).mpr (nr v v0 v1)
  | true =>
   rw[if_pos rfl,dv,dS,uC];simp only[ar,ap];rw[kJ,Uq,dB,di];simp only[aa,ac];rw[uC,e0,ee,eW,dj];simp only[jr,dj];rw[<- e0]
   refine kP (λpre post env Ri=>Ri=n'/\pre++post=iw (ts.map eS)/\∃(kv:lI) (tr:List Int) (g:Bool) (x2 x4 x5 x6:Option nG),env=[some (.s (d0 many ts)),some (.d a false kv),x2,some (.s (.bool g)),x4,x5,x6]/\(Pl x2/\Pl x4/\Pl x5/\Pl x6)/\Fo many ts (rD (dI many ts)) kv tr/\(∀v,0<=v->v<many->(fu kv [rD (dI many ts) v]).isSome=true) /\
    (g=true->kvs.length<kv.length)/\(g=false->kv.length=kvs.length/\∀i:Nat,i<pre.length->(fu kv [(fm ts i).1]).isSome=(fu kv [(fm ts i).2.1]).isSome)) _ [] _ _ ?_ ⟨rfl,rfl,kvs,tr,false,x2,x4,x5,x6,rfl,⟨p2,p4,p5,p6⟩,F,nr,λz=>(by cases z),λ_=>⟨rfl,λi hi=>(by cases hi)⟩⟩ ?_
   .clear p2 p4 p5 p6 F nr hg
    rintro pre d post env Ri E' hE ⟨rfl,hp,kv,tr,g,x2,x4,x5,x6,rfl,⟨p2,p4,p5,p6⟩,F,nr,Qk,Ew⟩ Gs;obtain⟨mB,rfl⟩:=Rh hp;obtain⟨k,hk⟩:∃k:Int,k=(pre.length:Nat):=⟨_,rfl⟩;rw[<- hk];have RV:0<=k/\k<(ts.length:Int):=by omega
    have RX:=j8 RV;have hto:=ok _ RX;have Yr:=Kd ok RX;generalize ht:fm ts k=t at RX hto Yr ⊢
    have F8:(pre++[ad.tuple [.int (pre.length:Nat),eS (fm ts (pre.length:Nat))]])++post=iw (ts.map eS):=by
     rw[bM];exact hp
    subst La;rw[Hd,AR];simp only[AR,gO,ar,ap];rw[eQ,dM,dB,zL,dB,di];simp only[aa,ac];rw[uC,eS,ee,eZ,dj,Oz,dj,zL,dB,di];simp only[aa,ac];rw[uC,ee,eW,dj,Oz,dj,A6,dj,dD]
    have OA:∀(g':Bool),g'=g->(fu kv [t.1]).isSome=(fu kv [t.2.1]).isSome->E'.nx [some (.s (d0 many ts)),some (.d a false kv),x2,some (.s (.bool g)),some (.s (.int k)),some (.s (.tuple [.int t.1,.int t.2.1,.int t.2.2])),x6] Ri:=λg' _ hs=>by
     refine Gs _ _ ⟨rfl,F8,kv,tr,g,_,_,_,_,rfl,⟨p2,BK _,BK _,p6⟩,F,nr,Qk,λz=>⟨(Ew z).1,λi hi=>?_⟩⟩;rw[au,aT] at hi;by_cases h:i<pre.length
     .exact (Ew z).2 i h
     .have:(i:Int)=k:=by omega
      rw[this,ht];exact hs
    have OB:∀x y w,(t.1=x/\t.2.1=y\/t.2.1=x/\t.1=y)->fh t x=y->fu kv [x]=some (dF w)->fu kv [y]=none->dv (yr 1 (du gH (dh (dA 5) (dh (dA 6) dm))) (du iL (dh (Bi 1 (di 6)) (dh (eG (dh (dA 4) dm)) dm))))
      (dS 3 (uC (.bool true))) E' [some (.s (d0 many ts)),some (.d a false kv),x2,some (.s (.bool g)),some (.s (.int k)),some (.s (.tuple [.int t.1,.int t.2.1,.int t.2.2])),some (.s (.int x))] Ri:=λx y w DA hoe hx hy=>by
     have hFx:=F.val x _ hx;have g6:x≠y:=by rcases DA with⟨rfl,rfl⟩ | ⟨rfl,rfl⟩<;>omega
     have hyr:0<=y/\y<many:=by rcases DA with⟨rfl,rfl⟩ | ⟨rfl,rfl⟩<;>omega
     have Ys:rD (dI many ts) y=rD (dI many ts) x:=by rcases DA with⟨rfl,rfl⟩ | ⟨rfl,rfl⟩<;>first | exact Yr | exact Yr.symm
     obtain⟨_,_,w2,ew,Vj,hw2,_⟩:=hFx
     have e:w2=w:=by
      have:w2.map ad.int=w.map ad.int:=by injection ew.symm
      exact List.map_inj_right (λa b h=>by injection h) |>.mp this
     subst e;have LQ:=ux Vj hw2 F.num;have F2:=F.grow (k:=k) (x:=x) (y:=y) (w:=w2) RV (by rw[ht];exact DA) g6 hyr.1 hyr.2 hx hy Ys;have hpu:=Na (d:=dF (iA (w2++[k]))) hy;have fk:=F.len;rw[dv,yr,du,dh,Bi];simp only[aa,ac];rw[di];simp only[aa,ac];rw[Oz,dj,hx,dj,dh,eG,dh,dA];simp only[aa,ac];rw[dm,dm];rw[show ad.tuple [.int k]=dF [k] from rfl,oA (by simp;omega)];try simp only[aa,ac]
     rw[du,dh,dA];simp only[aa,ac];rw[dh,dA];simp only[aa,ac];rw[dm,show ad.tuple [.int t.1,.int t.2.1,.int t.2.2]=eS t from rfl,nk,hoe,Oz,dj]
     refine⟨⟨!1,EM [_] [_,_,_,_,_] (by
      intro z hz;simp only[aI,az,al,aM,or_false] at hz;rcases hz with rfl | rfl | rfl | rfl | rfl | rfl<;>first | exact BK _ | exact p2)⟩,?_⟩
     simp only[ar,ap];rw[dS,uC];simp only[ar,ap];refine Gs _ _ ⟨rfl,F8,_,tr++[k],true,_,_,_,_,rfl,⟨p2,BK _,BK _,BK _⟩,F2,λv v0 v1=>?_,λ_=>?_,λz=>(by cases z)⟩
     .rw[mr]
      split
      .rfl
      .exact nr v v0 v1
     .rw[hpu]
      cases g with
      | true=>have:=Qk rfl;omega
      | false=>have:=(Ew rfl).1;omega
    have Fy:∀v,(fu kv [v]).isSome=true->∃w,fu kv [v]=some (dF w):=λv hv=>by
     obtain⟨d,hd⟩:=bO.mp hv;obtain⟨_,_,w,rfl,_⟩:=F.val v d hd;exact⟨w,hd⟩
    have ya:∀v,(fu kv [v]).isSome=false->fu kv [v]=none:=λv hv=>by simpa using hv
    have Yt:fh t t.1=t.2.1:=if_pos rfl;have Yu:fh t t.2.1=t.1:=if_neg (!1)
    cases K1:(fu kv [t.1]).isSome with
    | true =>
     cases JU:(fu kv [t.2.1]).isSome with
     | true =>
      rw[if_neg (!2),d8];exact OA g rfl (by rw[K1,JU])
     | false =>
      obtain⟨w,hw⟩:=Fy _ K1;rw[if_pos (!2),dv,dS,MB,dM,zL,dB,di];simp only[aa,ac];rw[uC,ee,eZ,dj,Oz,dj,K1,dD,if_pos rfl,dB,di];simp only[aa,ac];rw[uC,ee,eZ,dj];simp only[ar,ap];exact OB t.1 t.2.1 w (.inl ⟨rfl,rfl⟩) Yt hw (ya _ JU)
    | false =>
     cases JU:(fu kv [t.2.1]).isSome with
     | true =>
      obtain⟨w,hw⟩:=Fy _ JU;rw[if_pos (!2),dv,dS,MB,dM,zL,dB,di];simp only[aa,ac];rw[uC,ee,eZ,dj,Oz,dj,K1,dD,if_neg (!2),dB,di];simp only[aa,ac];rw[uC,ee,eW,dj];simp only[ar,ap];exact OB t.2.1 t.1 w (.inr ⟨rfl,rfl⟩) Yu hw (ya _ K1)
     | false =>
      rw[if_neg (!2),d8];exact OA g rfl (by rw[K1,JU])
   .rintro pre env Ri ⟨rfl,hp,kv,tr,g,x2,x4,x5,x6,rfl,ps,F2,Nb,Qk,Ew⟩
    rw[bt] at hp;have mB:pre.length=ts.length:=by rw[hp];simp[iw]
    have fk:=F2.len;have aaa:=F.len;refine⟨_,?_,rfl,kv,tr,g,x2,x4,x5,x6,rfl,ps,F2,Nb,λz t ht=>?_,rfl⟩
    .cases g with
     | true=>have:=Qk rfl;simp only[if_true];omega
     | false=>have:=(Ew rfl).1;simp only[if_true,bH,if_false];omega
    .obtain⟨i,hi,rfl⟩:=b9 ht
     have:=(Ew z).2 i (!1);rwa [show fm ts (i:Int)=ts[i] by simp[fm,ax,hi]] at this
end
noncomputable def j9 (kvs:lI)(v:Int):List Int:=match fu kvs [v] with
 | some (.tuple ds)=>(eV ds).getD []
 | _=>[]
theorem Nc {kvs:lI}{v:Int}{w:List Int}(h:fu kvs [v]=some (dF w)):j9 kvs v=w:=by
 unfold j9;rw[h];show (eV (w.map .int)).getD []=w;rw[eh];rfl
noncomputable def gN (ts:List eC)(kvs:lI)(k:Int):List Int:=iA ([k]++iA (j9 kvs (fm ts k).1++j9 kvs (fm ts k).2.1))
section
variable {many:Int}{ts:List eC}{kvs:lI}{tr:List Int}
theorem sG.way (h:sG many ts kvs tr){v:Int}(h0:0<=v)(h1:v<many):fu kvs [v]=some (dF (j9 kvs v))/\(j9 kvs v).Pairwise (· < ·)/\(∀k∈j9 kvs v,k∈tr)/\∀u,(gI ts (j9 kvs v)).count u % 2=(bI (u=v)+bI (u=rD (dI many ts) v)) % 2:=by
 obtain⟨d,hd⟩:=bO.mp (h.all v h0 h1);obtain⟨_,_,w,rfl,hw⟩:=h.fo.val v d hd;rw[Nc hd];exact⟨hd,hw⟩
theorem sG.Vk (h:sG many ts kvs tr){v:Int}(h0:0<=v)(h1:v<many):(j9 kvs v).length<=ts.length:=ux (h.way h0 h1).2.1 (h.way h0 h1).2.2.1 h.fo.num
theorem wz {l:List Int}{k:Int}(h:k∈iA l):k∈l:=cv.mp (by have:=my.mp h;omega)
theorem BL (h:sG many ts kvs tr)(ok:iY many ts){k:Int}(hk:0<=k/\k<(ts.length:Int)):∀j∈gN ts kvs k,j=k\/j∈tr:=λj hj=>by
 have ht:=ok _ (j8 hk);rcases aH.mp (wz hj) with h1 | h1
 .exact .inl (ay.mp h1)
 .rcases aH.mp (wz h1) with h1 | h1
  .exact .inr ((h.way ht.1 (!1)).2.2.1 j h1)
  .exact .inr ((h.way (!1) ht.2.2).2.2.1 j h1)
theorem wA (h:sG many ts kvs tr)(ok:iY many ts){k:Int}(hk:0<=k/\k<(ts.length:Int)):ki ts (gN ts kvs k):=λj hj=>by
 rcases BL h ok hk j hj with rfl | h1
 .exact hk
 .exact h.fo.num j h1
theorem uy (ts:List eC)(kvs:lI)(k:Int):(gN ts kvs k).Pairwise (· < ·):=zR _
theorem sH (h:sG many ts kvs tr)(ok:iY many ts){k:Int}(hk:0<=k/\k<(ts.length:Int)):mx ts (gN ts kvs k):=λu=>by
 have RX:=j8 hk;have ht:=ok _ RX;obtain⟨_,a1,_,a2⟩:=h.way ht.1 (!1);obtain⟨_,c1,_,c2⟩:=h.way (show 0<=(fm ts k).2.1 by omega) ht.2.2;have h1:=pZ (ts:=ts) (o9 a1) (o9 c1) u;have h2:=pZ (ts:=ts) (by simp:[k].Nodup) (q9 (j9 kvs (fm ts k).1++j9 kvs (fm ts k).2.1)) u
 have h3:(gI ts [k]).count u=bI (u=(fm ts k).1)+bI (u=(fm ts k).2.1):=by
  show (mw ts k++[]).count u=_;rw[bt];exact wx (.inl ⟨rfl,rfl⟩) u
 have h4:=a2 u;have h5:=c2 u;rw[Kd ok RX] at h4;unfold gN;generalize bI (u=(fm ts k).1)=A at h3 h4;generalize bI (u=(fm ts k).2.1)=B at h3 h5;generalize bI (u=rD (dI many ts) (fm ts k).2.1)=C at h4 h5;omega
theorem DD (h:sG many ts kvs tr)(ok:iY many ts){k:Int}(hk:0<=k/\k<(ts.length:Int)){S:List Int}(hS:S.Nodup)(ll:∀j∈S,j∈gN ts kvs k)(Lc:mx ts S)(g6:S≠[]):S.Perm (gN ts kvs k):=by
 have Vl:=o9 (uy ts kvs k);have hT:∀(U:List Int),U.Nodup->(∀j∈U,j∈gN ts kvs k/\j≠k)->mx ts U->U=[]:=λU hU hs he=>h.fo.free U hU (λj hj=>(BL h ok hk j (hs j hj).1).resolve_left (hs j hj).2) he;by_cases Vh:k∈S
 .have yJ:mx ts ((gN ts kvs k).filter λj=>!decide (j∈S)):=λv=>by
   have h1:=sF (ts:=ts) Vl hS ll v;have h2:=Lc v;have h3:=sH h ok hk v;omega
  have h0:=hT _ (Vl.filter _) (λj hj=>⟨(aJ.mp hj).1,λz=>by
   have:=(aJ.mp hj).2;rw[z] at this;simp[Vh] at this⟩) yJ
  refine (cf hS Vl).mpr λj=>⟨ll j,λhj=>?_⟩;by_cases hjs:j∈S
  .exact hjs
  .have:j∈(gN ts kvs k).filter λj=>!decide (j∈S):=aJ.mpr ⟨hj,by simp[hjs]⟩
   rw[h0] at this;cases this
 .exact absurd (hT S hS (λj hj=>⟨ll j hj,λz=>Vh (z ▸ hj)⟩) Lc) g6
theorem Kf (h:sG many ts kvs tr)(ok:iY many ts){k:Int}(hk:0<=k/\k<(ts.length:Int)):(gN ts kvs k).length % 2=(1+(j9 kvs (fm ts k).1).length+(j9 kvs (fm ts k).2.1).length) % 2:=by
 have ht:=ok _ (j8 hk);have a1:=o9 (h.way ht.1 (!1)).2.1;have c1:=o9 (h.way (show 0<=(fm ts k).2.1 by omega) ht.2.2).2.1;have h1:=yH a1 c1;have h2:=yH (by simp:[k].Nodup) (q9 (j9 kvs (fm ts k).1++j9 kvs (fm ts k).2.1));unfold gN;rw[aT] at h2;omega
end
section
variable {n:Int}{X:XQ}{Q:ad->Int->Prop}
theorem sI (ts:List eC):iw (ts.map eS)=(fS 0 ts.length).map λk=>.tuple [.int k,eS (fm ts k)]:=by
 refine List.ext_getElem? λi=>?_;unfold iw fS;rw[aB,List.getElem?_zipIdx,aB,aB,aB];by_cases hi:i<ts.length
 .rw[aR hi,aR (by simpa using hi)]
  simp[fm,ax,hi]
 .rw[bh (!1),bh (by simp;omega)]
  rfl
theorem gX {α:Type}(I:eU->Prop)(g f:α->ad)(p:α->Bool){ug:UG}{uc:UT}{ue:UX}{Q:List ad->Int->Prop}{n:Int}:∀(xs:List α) (acc:List ad) (env:eU),(∀k∈xs,∀env,I env->∃d5,I d5/\(∀K,ug (g k) env K=K d5)/\(∀n Q,uc d5 n Q=Q (p k) n)/\(∀n Q,ue d5 n Q=Q (f k) n))->I env ->
  fB ug uc ue Q (xs.map g) acc env n=Q (acc++(xs.filter p).map f) n
 | [],acc,env,_,_=>by simp[fB]
 | a::xs,acc,env,h,hi=>by
  obtain⟨d5,D4,h1,h2,h3⟩:=h a (aq ..) env hi;have ih:=λacc=>gX I g f p (ug:=ug) (uc:=uc) (ue:=ue) (Q:=Q) (n:=n) xs acc d5 (λk hk=>h k (ao _ hk)) D4;rw[am,fB,h1,h2]
  cases hp:p a with
  | true =>
   rw[if_pos rfl,h3,ih,bR hp,am,bM];rfl
  | false=>rw[if_neg (!2),ih,bS (by simp[hp])]
theorem Kg {env:eU}{n:Int}{Q:ad->Int->Prop}{uk ud:UX}{v:Int}{kvs:lI}{d:ad}(h1:∀n Q,uk env n Q=Q (.int v) n)(h2:∀n Q,ud env n Q=Q (i3 false kvs) n)(h3:fu kvs [v]=some d):yt ud uk env n Q=Q d n:=by
 rw[yt,h2,Dg,dj];simp only[h1,Oz,dj,h3]
theorem Nd (w:List Int):yg (dF w) (.tuple [])=some (.bool (!decide (w=[]))):=by
 rw[show ad.tuple []=.tuple (([]:List Int).map .int) from rfl,dF,FZ]
theorem xq {many:Int}{ts:List eC}{kvs:lI}{tr:List Int}(h:sG many ts kvs tr)(ok:iY many ts)(hl:ts.length<=28):ko [d0 many ts,i3 false kvs] n Q X=Q (.list ((((fS 0 ts.length).map (gN ts kvs)).filter λw=>!decide (w=[])).map dF)) n:=by
 have e0:d0 many ts=.tuple [.int many,.tuple (ts.map eS)]:=rfl;rw[e0];simp! [ko,mU,eW,MJ,sI]
 rw[gX (λenv=>∃x y,env=[x,y,some (.s (i3 false kvs))]) _ (λk=>dF (gN ts kvs k)) (λ_=>true) _ _ _ (λk hk env ⟨x,y,he⟩=>by
  subst he;have hk:=e8.mp hk;have RV:0<=k/\k<(ts.length:Int):=by omega
  have ht:=ok _ (j8 RV);have w1:=h.way ht.1 (show (fm ts k).1<many by omega);have w2:=h.way (show 0<=(fm ts k).2.1 by omega) ht.2.2;have l1:=h.Vk ht.1 (show (fm ts k).1<many by omega);have l2:=h.Vk (show 0<=(fm ts k).2.1 by omega) ht.2.2;refine⟨[some (.s (.int k)),some (.s (eS (fm ts k))),some (.s (i3 false kvs))],⟨_,_,rfl⟩,λK=>by simp! [dv],λn Q=>by simp! [dv],λn Q=>?_⟩;rw[du,dh,eG,dh,dA];simp only[aa,ac];rw[dm,dh,du,dh];rw[Kg (v:=(fm ts k).1) (kvs:=kvs) (d:=dF (j9 kvs (fm ts k).1)) (λn Q=>by rw[eS];simp! [eZ]) (λn Q=>by simp! [dv]) w1.1,dh]
  rw[Kg (v:=(fm ts k).2.1) (kvs:=kvs) (d:=dF (j9 kvs (fm ts k).2.1)) (λn Q=>by rw[eS];simp! [eW]) (λn Q=>by simp! [dv]) w2.1,dm,oA (!1),dm,show ad.tuple [.int k]=dF [k] from rfl,oA (by
   have h1:=fF (ms:=iA (j9 kvs (fm ts k).1++j9 kvs (fm ts k).2.1)) (ns:=j9 kvs (fm ts k).1++j9 kvs (fm ts k).2.1) (q9 _) λj hj=>wz hj;rw[au] at h1;rw[aT];omega)]
  rfl) ⟨_,_,rfl⟩]
 rw[h8,az];simp! [dv];rw[show ((fS 0 ts.length).map λk=>dF (gN ts kvs k))=((fS 0 ts.length).map (gN ts kvs)).map dF by rw[br];rfl]
 rw[gX (λenv=>∃x,env=[x]) dF dF (λw=>!decide (w=[])) _ _ _ (λw hw env ⟨x,he⟩=>by
  subst he;obtain⟨k,hk,rfl⟩:=bg.mp hw;have hk:=e8.mp hk;have fk:=ux (uy ts kvs k) (λj hj=>hj) (wA h ok (by omega:0<=k/\k<(ts.length:Int)))
  exact⟨[some (.s (dF (gN ts kvs k)))],⟨_,rfl⟩,λK=>by simp! [dv],λn Q=>by
   rw[dM,dB,di];simp only[aa];rw[eG,dm,Nd,dj,dD],λn Q=>by simp! [dv]⟩) ⟨_,rfl⟩]
 rw[az]
end
theorem yL (p:Int->Bool):∀(m:Nat) (l:List Int),l.length<=m->(∀v,l.count v % 2=0)->(l.countP p) % 2=0
 | _,[],_,_=>rfl
 | 0,a::r,h,_=>by simp at h
 | m+1,a::r,h,he=>by
  have h1:=he a;rw[List.count_cons_self] at h1;have hm:a∈r:=cv.mp (!1);have hp:=List.perm_cons_erase hm;have hl:=hp.length_eq;rw[aj] at h hl
  have ih:=yL p m (r.erase a) (!1) λv=>by
   have h2:=he v;have h3:=hp.count_eq v;rw[cK] at h2 h3;omega
  rw[db,hp.countP_eq,db];omega
theorem EO {ts:List eC}{side:List Int}:∀{S:List Int},(∀k∈S,¬ ((fm ts k).1∈side↔(fm ts k).2.1∈side))->(gI ts S).countP (λv=>decide (v∈side))=S.length
 | [],_=>rfl
 | k::S,h=>by
  have ih:=EO (S:=S) λj hj=>h j (ao _ hj);have hk:=h k (aq ..);rw[iN,List.countP_append,ih,aj];show [(fm ts k).1,(fm ts k).2.1].countP _+_=_;rw[db,db,List.countP_nil];generalize fm ts k=t at hk;by_cases h1:t.1∈side<;>by_cases h2:t.2.1∈side
  .exact absurd ⟨λ_=>h2,λ_=>h1⟩ hk
  .simp[h1,h2];omega
  .simp[h1,h2];omega
  .exact absurd ⟨λz=>absurd z h1,λz=>absurd z h2⟩ hk
theorem BM {ts:List eC}{side S:List Int}(h:∀k∈S,¬ ((fm ts k).1∈side↔(fm ts k).2.1∈side))(ev:mx ts S):S.length % 2=0:=by
 rw[<- EO h];exact yL _ _ _ (ag _) ev
theorem BN {ts:List eC}{x:Int}{ss:List (Int × Int)}(h:BA ts x ss x):mx ts (ss.map (·.1)):=λv=>by
 have:=uw v h;omega
noncomputable def gF (ts:List eC):List Int:=(fS 0 ts.length).filter λk=>!decide ((fm ts k).2.2=0)
noncomputable def fJ (ts:List eC):List eC:=(gF ts).map (fm ts)
theorem iT {ts:List eC}{k:Int}:k∈gF ts↔(0<=k/\k<(ts.length:Int))/\(fm ts k).2.2≠0:=by
 unfold gF;rw[aJ,e8];simp
theorem yM {ts:List eC}{t:eC}:t∈fJ ts↔t∈ts/\t.2.2≠0:=by
 unfold fJ;rw[bg];constructor
 .rintro⟨k,hk,rfl⟩
  have:=iT.mp hk;exact⟨j8 this.1,this.2⟩
 .rintro⟨h1,h2⟩
  obtain⟨i,hi,rfl⟩:=b9 h1;have e:fm ts (i:Int)=ts[i]:=by simp[fm,ax,hi]
  exact⟨(i:Int),iT.mpr ⟨!1,by rw[e];exact h2⟩,e⟩
theorem Nf (ts:List eC):(gF ts).Nodup:=by
 have:(fS 0 ts.length).Pairwise (· < ·):=by
  unfold fS;rw[c6];exact List.pairwise_lt_range.imp λh=>by omega
 exact (o9 this).filter _
theorem GB (ts:List eC):(fJ ts).length<=ts.length:=by
 unfold fJ gF;rw[ah];have:=bN (λk=>!decide ((fm ts k).2.2=0)) (fS 0 ts.length);rwa [e9] at this
noncomputable abbrev numAt (ts:List eC)(j:Int):Int:=(gF ts).getD j.toNat 0
theorem Kh {ts:List eC}{j:Int}(h0:0<=j)(h1:j<((fJ ts).length:Int)):numAt ts j∈gF ts/\fm (fJ ts) j=fm ts (numAt ts j):=by
 have hl:j.toNat<(gF ts).length:=by unfold fJ at h1;rw[ah] at h1;omega
 have e:numAt ts j=(gF ts)[j.toNat]:=by simp[numAt,ax,hl]
 refine⟨by rw[e];exact cc _,?_⟩;rw[e];simp[fm,fJ,ax,hl]
theorem Ki {ts:List eC}{x j q:Int}(h:RU (fJ ts) x j q):RU ts x (numAt ts j) q/\numAt ts j∈gF ts:=by
 obtain⟨t,h0,ht,hh⟩:=h;have hl:=(aN.mp ht).1;obtain⟨h1,h2⟩:=Kh (ts:=ts) h0 (!1);have h3:=iT.mp h1;refine⟨⟨t,h3.1.1,?_,hh⟩,h1⟩;have e1:fm (fJ ts) j=t:=by simp only[fm,ax,ht];rfl
 have h4:(numAt ts j).toNat<ts.length:=by have:=h3.1;omega
 rw[<- e1,h2];generalize numAt ts j=m at h4;simp only[fm,ax];rw[aR h4];rfl
theorem BO {ts:List eC}:∀{ss:List (Int × Int)} {x y:Int},BA (fJ ts) x ss y->BA ts x (ss.map λs=>(numAt ts s.1,s.2)) y/\∀s∈ss,numAt ts s.1∈gF ts
 | [],x,y,h=>⟨h,!4⟩
 | s::ss,x,y,⟨a,b⟩=>by
  obtain⟨h1,h2⟩:=Ki a;obtain⟨h3,h4⟩:=BO b;refine⟨⟨h1,h3⟩,λr hr=>?_⟩;rcases al.mp hr with rfl | hr
  .exact h2
  .exact h4 r hr
theorem GC {ts:List eC}{i j:Int}(i0:0<=i)(i1:i<((fJ ts).length:Int))(j0:0<=j)(j1:j<((fJ ts).length:Int))(h:numAt ts i=numAt ts j):i=j:=by
 unfold fJ at i1 j1;rw[ah] at i1 j1;have hi:i.toNat<(gF ts).length:=by omega
 have hj:j.toNat<(gF ts).length:=by omega
 have e:∀(m:Nat) (h:m<(gF ts).length),(gF ts).getD m 0=(gF ts)[m]:=λm h=>by simp[ax,h]
 rw[numAt,numAt,e _ hi,e _ hj] at h;have hp:=cF.mp (Nf ts);rcases Nat.lt_trichotomy i.toNat j.toNat with p8 | heq | Vf
 .exact absurd h (hp _ _ hi hj p8)
 .omega
 .exact absurd h.symm (hp _ _ hj hi Vf)
noncomputable def DE (ts:List eC)(side:List Int):Prop:=∀t∈ts,t.2.2≠0->¬ (t.1∈side↔t.2.1∈side)
structure Kj (many:Int) (ts:List eC) (x:Int) (row:List Int):Prop where
 ex:∃ss:List (Int × Int),BA ts x ss x/\row=ss.map (·.1)/\ss≠[]
 nd:row.Nodup
 odd:row.length % 2=1
 num:∀k∈row,k∈gF ts
 x0:0<=x
 x1:x<many
theorem Kj.no {many:Int}{ts:List eC}{x:Int}{row:List Int}(h:Kj many ts x row)(side:List Int):¬ DE ts side:=λhc=>by
 obtain⟨ss,hw,hr,_⟩:=h.ex;have h1:=h.odd
 have h2:=BM (ts:=ts) (side:=side) (S:=row) (λk hk=>by
  have:=iT.mp (h.num k hk);exact hc _ (j8 this.1) this.2) (by rw[hr];exact BN hw)
 omega
noncomputable def lC (many:Int)(kvs:lI):List Int:=(fS 0 many.toNat).filter λp=>decide ((j9 kvs p).length % 2=1)
theorem ri {many:Int}{us:List eC}{kvs:lI}{tr:List Int}(h:sG many us kvs tr)(ok:iY many us)(he:∀k,0<=k->k<(us.length:Int)->(gN us kvs k).length % 2=0):∀k,0<=k->k<(us.length:Int)->¬ ((fm us k).1∈lC many kvs↔(fm us k).2.1∈lC many kvs):=λk k0 k1=>by
 have ht:=ok _ (j8 ⟨k0,k1⟩);have h1:=he k k0 k1;have h2:=Kf h ok ⟨k0,k1⟩;unfold lC;rw[aJ,aJ,e8,e8,decide_eq_true_eq,decide_eq_true_eq];have a:(0<=(fm us k).1/\(fm us k).1<0+(many.toNat:Int)):=by omega
 have b:(0<=(fm us k).2.1/\(fm us k).2.1<0+(many.toNat:Int)):=by omega
 simp only[a,b,true_and];omega
section
variable {n:Int}{X:XQ}{Q:ad->Int->Prop}
theorem tE (many:Int)(ts:List eC)(hl:ts.length<=1000):kR [d0 many ts] n Q X=Q (dF (fS 0 ts.length)) n:=by
 rw[d0];simp! [kR,pF,eW,eB,ah];rw[show nC 0 ((ts.length:Int)).toNat=(fS 0 ts.length).map .int by rw[i9,bj]];have:(-(2 ^ 62)<=(ts.length:Int)/\(ts.length:Int)<=16777216):=⟨!1,!1⟩;simp only[this,true_and];rfl
theorem DF {many:Int}{ts:List eC}(hl:ts.length<=1000):oP [d0 many ts,.list (((fS 0 ts.length).filter λk=>decide ((fm ts k).2.2=0)).map .int)] n Q X=Q (.tuple [d0 many (fJ ts),dF (gF ts)]) n:=by
 have e0:d0 many ts=.tuple [.int many,.tuple (ts.map eS)]:=rfl
 have hf:((fS 0 ts.length).filter λk=>!decide (k∈(fS 0 ts.length).filter λk=>decide ((fm ts k).2.2=0)))=gF ts:=by
  unfold gF;refine List.filter_congr λk hk=>?_;congr 1;rw[decide_eq_decide,aJ,decide_eq_true_eq];exact⟨λh=>h.2,λh=>⟨hk,h⟩⟩
 generalize ((fS 0 ts.length).filter λk=>decide ((fm ts k).2.2=0))=no at hf ⊢;unfold oP se;simp only[iX,g9,envOf,am,aX,aj,aG,Nat.reduceSub,Nat.reduceAdd,aF,aP,aI,az];rw[e0];simp! [eW,eB,ah];have hr:(-(2 ^ 62)<=(ts.length:Int)/\(ts.length:Int)<=16777216):=⟨!1,!1⟩;simp only[hr,true_and];rw[show nC 0 ((ts.length:Int)).toNat=(fS 0 ts.length).map .int by rw[i9,bj]]
 rw[gX (λenv=>∃x,env=[x,some (.s (.list (no.map .int)))]) ad.int ad.int (λk=>!decide (k∈no)) _ _ _ (λk hk env ⟨x,he⟩=>by
  subst he;exact⟨[some (.s (.int k)),some (.s (.list (no.map .int)))],⟨_,rfl⟩,λK=>by simp! [dv],λn Q=>by simp! [pA],λn Q=>by simp! [dv]⟩) ⟨_,rfl⟩]
 rw[az,hf];simp! [fX,eZ]
 rw[gX (λenv=>∃x,env=[x,some (.s (.tuple [.int many,.tuple (ts.map eS)]))]) ad.int (λk=>eS (fm ts k)) (λ_=>true) _ _ _ (λk hk env ⟨x,he⟩=>by
  subst he;exact⟨[some (.s (.int k)),some (.s (.tuple [.int many,.tuple (ts.map eS)]))],⟨_,rfl⟩,λK=>by simp! [dv],λn Q=>by simp! [dv],λn Q=>by simp! [eW,rg (iT.mp hk).1]⟩) ⟨_,rfl⟩]
 rw[h8,az,show ((gF ts).map λk=>eS (fm ts k))=(fJ ts).map eS by unfold fJ;rw[br];rfl];simp! [fX];rfl
theorem DG {many:Int}{us:List eC}(m0:1<=many)(m1:many<60)(ok:iY many us)(hl:us.length<=28)(hq:∀kvs tr,sG many us kvs tr->Q (dF (lC many kvs)) n):oO [d0 many us,dF (fS 0 us.length)] n Q X:=by
 unfold oO sd;simp only[iX,g9,envOf,am,aX,aj,aG,Nat.reduceSub,Nat.reduceAdd,aF,aP,aI,az];with_reducible generalize M7:dW _=tl
 rw[true_and,dv,dS,du,dh,dA];simp only[aa,ac];rw[dm];refine rh m0 m1 ok (!1) λkvs tr hH=>?_;simp only[ar,ap];subst M7;have e0:d0 many us=.tuple [.int many,.tuple (us.map eS)]:=rfl;rw[dW,gM,dh,uL,ff,FT,dB,di];simp only[aa,ac];rw[uC,e0,ee,eZ,dj];rw[<- e0];have hr:(-(2 ^ 62)<=many/\many<=16777216):=⟨!1,!1⟩;simp only[hr,true_and];rw[i9]
 rw[gX (λenv=>∃x,env=[x,some (.s (i3 false kvs)),some (.s (dF (fS 0 us.length)))]) ad.int ad.int (λp=>decide ((j9 kvs p).length % 2=1)) _ _ _ (λk hk env ⟨x,he⟩=>by
  subst he;have hk:=e8.mp hk;obtain⟨w1,w2,w3,_⟩:=hH.way (v:=k) (!1) (!1);refine⟨[some (.s (.int k)),some (.s (i3 false kvs)),some (.s (dF (fS 0 us.length)))],⟨_,rfl⟩,λK=>by simp! [dv],λn Q=>?_,λn Q=>by simp! [dv]⟩;rw[dM,dB,dB,gM,dh,uL,ff,vx];rw[Kg (v:=k) (kvs:=kvs) (d:=dF (j9 kvs k)) (λn Q=>by simp! [dv]) (λn Q=>by simp! [dv]) w1];rw[dF];simp only[jr,dj]
  rw[gX (λenv=>∃x,env=[x,some (.s (dF (fS 0 us.length)))]) ad.int ad.int (λ_=>true) _ _ _ (λj hj env ⟨x,he⟩=>by
   subst he;have hj:=hH.fo.num j (w3 j hj);have hm:j∈fS 0 us.length:=e8.mpr (!1);exact⟨[some (.s (.int j)),some (.s (dF (fS 0 us.length)))],⟨_,rfl⟩,λK=>by simp! [dv],λn Q=>by rw[dF];simp! [ky,hm,decide_true],λn Q=>by simp! [dv]⟩) ⟨_,by simp! [dv];rfl⟩]
  rw[h8,az,dm];simp! [eB,ah,qN (show (0:Int)<2 by decide),fc];congr 1;rw[decide_eq_decide];omega) ⟨_,by simp! [dv];rfl⟩]
 rw[az,dm];simp! [fX];exact hq kvs tr hH
theorem wB {many:Int}{ts:List eC}(m0:1<=many)(m1:many<60)(ok:iY many ts)(hl:ts.length<=28)
  (hA:∀kvs,DE ts (lC many kvs)->Q (.tuple [.str "halves",dF (lC many kvs)]) n)
  (hB:∀x row,Kj many ts x row->Q (.tuple [.str "odd",.int x,dF row]) n):iB [d0 many ts] n Q X:=by
 have e0:d0 many ts=.tuple [.int many,.tuple (ts.map eS)]:=rfl;have Hi:=GB ts;have Kk:iY many (fJ ts):=λt ht=>ok t (yM.mp ht).1;unfold iB lM;simp only[iX,g9,envOf,am,aX,aj,aG,Nat.reduceSub,Nat.reduceAdd,aF,aP,aI,az];with_reducible generalize Ec:dv (dS 2 _) _=t2
 rw[true_and,dv,dS,uL,ff,MJ,dB,di];simp only[aa,ac];rw[uC,e0,ee,eW,dj];simp only[jr,dj]
 rw[sI,gX (λenv=>∃x y,env=[x,y]) (λk=>.tuple [.int k,eS (fm ts k)]) ad.int (λk=>decide ((fm ts k).2.2=0)) _ _ _ (λk hk env ⟨x,y,he⟩=>by
  subst he;exact⟨[some (.s (.int k)),some (.s (eS (fm ts k)))],⟨_,_,rfl⟩,λK=>by simp! [dv],λn Q=>by rw[eS];simp! [kg,fc],λn Q=>by simp! [dv]⟩) ⟨_,_,by simp! [dv];rfl⟩]
 rw[az,<- e0];simp only[ar,ap];subst Ec;with_reducible generalize V4:dv (dS 3 _) _=t3
 rw[dv,dS,du,dh,dA];simp only[aa,ac];rw[dh,dA];simp only[aa,ac];rw[dm,DF (!1)];simp only[ar,ap];subst V4;with_reducible generalize Yv:dv (eQ _ _ _) _=t4
 rw[dv,dS,uL,ff,vx,du,dh,dB,di];simp only[aa,ac];rw[uC,ee,eZ,dj,dh,du,dh,dB,di];simp only[aa,ac];rw[uC,ee,eZ,dj,dm];refine rh m0 m1 Kk (!1) λkvs tr hH=>?_;rw[dm,xq hH Kk (!1)];simp only[jr,dj]
 rw[gX (λenv=>∃x,env=[x]) dF dF (λw=>decide (w.length % 2=1)) _ _ _ (λw hw env ⟨x,he⟩=>by
  subst he
  exact⟨[some (.s (dF w))],⟨_,rfl⟩,λK=>by simp! [dv],λn Q=>by
   rw[dF];simp! [eB,ah,qN (show (0:Int)<2 by decide),fc];congr 1;rw[decide_eq_decide];omega,λn Q=>by simp! [dv]⟩) ⟨_,by simp! [dv];rfl⟩]
 rw[az];simp only[ar,ap];subst Yv;generalize ho:((((fS 0 (fJ ts).length).map (gN (fJ ts) kvs)).filter λw=>!decide (w=[])).filter λw=>decide (w.length % 2=1))=od
 have sV:∀w,w∈od↔(∃k,(0<=k/\k<((fJ ts).length:Int))/\w=gN (fJ ts) kvs k)/\w.length % 2=1:=λw=>by
  rw[<- ho,aJ,aJ,bg,decide_eq_true_eq];constructor
  .rintro⟨⟨⟨k,hk,rfl⟩,_⟩,h2⟩
   exact⟨⟨k,by have:=e8.mp hk;omega,rfl⟩,h2⟩
  .rintro⟨⟨k,hk,rfl⟩,h2⟩
   refine⟨⟨⟨k,e8.mpr (!1),rfl⟩,?_⟩,h2⟩
   cases h:gN (fJ ts) kvs k with
   | nil=>rw[h] at h2;simp at h2
   | cons a r=>rfl
 with_reducible generalize ht5:dv (dS 4 _) _=t5
 rw[dv,eQ,dM,dB,gM,dh,di];simp only[aa,ac];rw[dm];simp only[eB,ah,dj];rw[uC,fc,dj,dD]
 cases od with
 | nil =>
  rw[if_pos (!2),dW,eG,dh,uC,dh,du,dh,dB,di];simp only[aa,ac];rw[uC,ee,eZ,dj,dh,du,dh,dB,di];simp only[aa,ac];rw[uC,ee,eZ,dj,dm,tE _ _ (!1),dm]
  have Lc:∀k,0<=k->k<((fJ ts).length:Int)->(gN (fJ ts) kvs k).length % 2=0:=λk k0 k1=>by
   have:=(sV (gN (fJ ts) kvs k));by_cases h:(gN (fJ ts) kvs k).length % 2=1
   .have:=this.mpr ⟨⟨k,⟨k0,k1⟩,rfl⟩,h⟩
    cases this
   .omega
  have hc1:=ri hH Kk Lc;refine DG m0 m1 Kk (!1) λYw tr2 Yx=>?_;rw[dm];refine hA Yw λt ht hp=>?_
  have Pt:=ri Yx Kk λk k0 k1=>BM (side:=lC many kvs) (λj hj=>by
   have:=wA Yx Kk ⟨k0,k1⟩ j hj;exact hc1 j this.1 this.2) (sH Yx Kk ⟨k0,k1⟩)
  obtain⟨i,hi,rfl⟩:=b9 (yM.mpr ⟨ht,hp⟩);have e:fm (fJ ts) (i:Int)=(fJ ts)[i]:=by simp[fm,ax,hi]
  have:=Pt (i:Int) (!1) (!1);rwa [e] at this
 | cons w od =>
  obtain⟨⟨k,hk,rfl⟩,aak⟩:=(sV w).mp (aq ..);rw[if_neg (by simp[aj];omega),d8];show t5 _ _ _;subst ht5;with_reducible generalize ht6:dW _=t6
  have Vl:=o9 (uy (fJ ts) kvs k);have Km:=wA hH Kk hk;have fk:=ux (uy (fJ ts) kvs k) (λj hj=>hj) Km;rw[dv,dS,dB,du,dh,dB,di];simp only[aa,ac];rw[uC,ee,eZ,dj,dh,dB,di];simp only[aa,ac];rw[uC,am,lr,eZ,dj,dm];refine BG (sH hH Kk hk) Vl Km (!1) λrs Ve OC _=>?_
  cases rs with
  | nil =>
   exfalso;have:=OC.length_eq;simp at this;omega
  | cons r rs =>
   obtain⟨ss,hw,RW,V5,mB⟩:=(Ve r (aq ..)).ex;have z5:=(Ve r (aq ..)).nd;have ll:∀j∈r.2,j∈gN (fJ ts) kvs k:=λj hj=>OC.mem_iff.mp (List.mem_flatten.mpr ⟨r.2,aq ..,hj⟩);have Co:=DD hH Kk hk z5 ll (by rw[V5];exact BN hw) (by rw[V5];simpa using RW);have Yo:=Co.length_eq;rw[uC,am,ee,eZ,dj];simp only[ar,ap];subst ht6;rw[dW,eG,dh,uC,dh,dB,di];simp only[aa,ac];rw[uC,o8,ee,eZ,dj,dh,gM,dh,uL,ff,vx,dB,di];simp only[aa,ac];rw[uC,ee,eW,dj,dF];simp only[jr,dj];have V6:=BO hw
   rw[gX (λenv=>∃x,env=[x,some (.s (.tuple [d0 many (fJ ts),dF (gF ts)]))]) ad.int (λj=>.int (numAt ts j)) (λ_=>true) _ _ _ (λj hj env ⟨x,he⟩=>by
    subst he;have Za:=Km j (ll j hj)
    have Qi:j.toNat<(gF ts).length:=by
     have:(fJ ts).length=(gF ts).length:=by unfold fJ;rw[ah]
     omega
    have ha:lV ((gF ts).map ad.int) j=some (.int (numAt ts j)):=by
     rw[lH Za.1 (by rw[ah];omega),aB,aR Qi];simp[numAt,ax,Qi]
    exact⟨[some (.s (.int j)),some (.s (.tuple [d0 many (fJ ts),dF (gF ts)]))],⟨_,rfl⟩,λK=>by simp! [dv],λn Q=>by simp! [dv],λn Q=>by
     rw[dF];simp! [eW,ha]⟩) ⟨_,by simp! [dv];rfl⟩]
   rw[h8,az,dm];simp only[fX,dj];rw[dm,show (r.2.map λj=>ad.int (numAt ts j))=(r.2.map (numAt ts)).map .int by rw[br];rfl];refine hB r.1 (r.2.map (numAt ts)) ⟨⟨ss.map λs=>(numAt ts s.1,s.2),V6.1,by rw[V5,br,br];rfl,by simpa using RW⟩,?_,by rw[ah];omega,λj hj=>?_,?_,?_⟩
   .refine c6.mpr (List.Pairwise.imp_of_mem ?_ z5)
    intro a b ha hb Ar z;have h1:=Km a (ll a ha);have h2:=Km b (ll b hb);exact Ar (GC h1.1 h1.2 h2.1 h2.2 z)
   .rw[V5,br] at hj
    obtain⟨s,hs,rfl⟩:=bg.mp hj;exact V6.2 s hs
   all_goals
    cases ss with
    | nil=>exact absurd rfl RW
    | cons s ss =>
     obtain⟨t,_,ht,hh⟩:=hw.1;have:=Kk t (bC ht);omega
end
theorem tF:∀{l:List Int} {a:Int},l.Pairwise (· < ·)->(∀k∈l,a<k)->rising a (l.map .int)=true
 | [],_,_,_=>rfl
 | k::l,a,h,ha=>by
  obtain⟨h1,h2⟩:=bZ.mp h;rw[am,rising,tF h2 h1,Bool.and_true];exact decide_eq_true (ha k (aq ..))
theorem DH {l:List Int}{b:Int}(h:l.Pairwise (· < ·))(h0:∀k∈l,0<=k/\k<b):fD b (dF l)=true:=by
 rw[dF,fD,tF h λk hk=>by have:=h0 k hk;omega,bE,jD,c7]
 cases e:l.getLast? with
 | none=>rfl
 | some k =>
  have:=h0 k (List.mem_of_getLast? e);exact decide_eq_true this.2
noncomputable def Kn (ts:List eC)(side:List Int):List Int:=(fS 0 ts.length).filter λk=>!(decide ((fm ts k).1∈side) == decide ((fm ts k).2.1∈side))
noncomputable def ER (ts:List eC)(side:List Int):Int:=nF ts (fS 0 ts.length) - nF ts (Kn ts side)
theorem yN {ts:List eC}:∀{l:List Int},(∀k∈l,0<=tw ts k)->(0<=nF ts l/\(nF ts l=0↔∀k∈l,tw ts k=0))
 | [],_=>⟨Int.le_refl _,by simp[nF]⟩
 | k::l,h=>by
  obtain⟨h1,h2⟩:=yN (l:=l) λj hj=>h j (ao _ hj);have h0:=h k (aq ..);have e:nF ts (k::l)=tw ts k+nF ts l:=rfl;rw[e];refine⟨!1,λhz j hj=>?_,λhz=>?_⟩
  .rcases al.mp hj with rfl | hj
   .omega
   .exact h2.mp (!1) j hj
  .have a:=hz k (aq ..)
   have b:=h2.mpr λj hj=>hz j (ao _ hj);omega
theorem GD {ts:List eC}{side:List Int}(hp:∀t∈ts,0<=t.2.2):ER ts side=0↔DE ts side:=by
 have h1:=DB ts (λk=>!(decide ((fm ts k).1∈side) == decide ((fm ts k).2.1∈side))) (fS 0 ts.length)
 have h2:=yN (ts:=ts) (l:=(fS 0 ts.length).filter λk=>!!(decide ((fm ts k).1∈side) == decide ((fm ts k).2.1∈side))) λk hk=>by
  have hk:=e8.mp (aJ.mp hk).1;exact hp _ (j8 (!1))
 unfold ER Kn;rw[show nF ts (fS 0 ts.length) - nF ts ((fS 0 ts.length).filter λk=>!(decide ((fm ts k).1∈side) == decide ((fm ts k).2.1∈side)))=nF ts ((fS 0 ts.length).filter λk=>!!(decide ((fm ts k).1∈side) == decide ((fm ts k).2.1∈side))) by omega,h2.2];constructor
 .intro h t ht g6 Yy
  obtain⟨i,hi,rfl⟩:=b9 ht;have e:fm ts (i:Int)=ts[i]:=by simp[fm,ax,hi]
  refine g6 ?_;have:=h (i:Int) (aJ.mpr ⟨e8.mpr (!1),by rw[e];simp[Yy]⟩);unfold tw at this;rwa [show ts.getD ((i:Int)).toNat (0,0,0)=ts[i] from e] at this
 .intro h k hk
  obtain⟨h3,h4⟩:=aJ.mp hk;have hk:=e8.mp h3;refine Classical.byContradiction λg6=>h _ (j8 (!1)) g6 ?_;simpa using h4
section
variable {n:Int}{X:XQ}{Q:ad->Int->Prop}
theorem GF {many:Int}{ts:List eC}{side:List Int}:qS [d0 many ts,dF side] n Q X=Q (dF (Kn ts side)) n:=by
 rw[d0];simp! [qS,vQ,eW,MJ,sI]
 rw[gX (λenv=>∃x y,env=[x,y,some (.s (dF side))]) _ (λk=>.int k) (λk=>!(decide ((fm ts k).1∈side) == decide ((fm ts k).2.1∈side))) _ _ _ (λk hk env ⟨x,y,he⟩=>by
  subst he;exact⟨[some (.s (.int k)),some (.s (eS (fm ts k))),some (.s (dF side))],⟨_,_,rfl⟩,λK=>by simp! [dv],λn Q=>by rw[eS,dF];simp! [eZ,eW,ky,A6],λn Q=>by simp! [dv]⟩) ⟨_,_,rfl⟩]
 simp! [fX];rfl
theorem DI {many:Int}{ts:List eC}{side:List Int}(hp:rf ts)(hl:ts.length<=1000):oN [d0 many ts,dF side] n Q X=Q (.int (ER ts side)) n:=by
 have h1:ki ts (fS 0 ts.length):=λk hk=>by have:=e8.mp hk;omega
 have h2:ki ts (Kn ts side):=λk hk=>h1 k (aJ.mp hk).1
 have hw:∀n Q X,ly [d0 many ts,dF side] n Q X=Q (.int (nF ts (Kn ts side))) n:=λn Q X=>by
  unfold ly nX;simp only[iX,g9,envOf,am,aX,aj,aG,Nat.reduceSub,Nat.reduceAdd,aF,aP,aI,az];rw[true_and,dW,du,dh,dA];simp only[aa,ac];rw[dh,du,dh,dA];simp only[aa,ac];rw[dh,dA];simp only[aa,ac];rw[dm,GF,dm,tD hp h2]
 unfold oN r9;simp only[iX,g9,envOf,am,aX,aj,aG,Nat.reduceSub,Nat.reduceAdd,aF,aP,aI,az];rw[true_and,dW,dB,du,dh,dA];simp only[aa,ac];rw[dh,du,dh,dA];simp only[aa,ac];rw[dm,tE _ _ hl,dm,tD hp h1,du,dh,dA];simp only[aa,ac];rw[dh,dA];simp only[aa,ac];rw[dm,hw,yE,dj];rfl
theorem xr {many:Int}{ts:List eC}{w:Str}{a d:ad}{b:Bool}(he:l9 a (.str w)=some (.bool b)):gE [d0 many ts,.str w,.tuple [a,d]] n Q X=Q (.bool (b && fD many d)) n:=by
 have Ec:je 2 (.tuple [a,d])=true:=rfl;unfold gE jc;simp only[iX,g9,envOf,am,aX,aj,aG,Nat.reduceSub,Nat.reduceAdd,aF,aP,aI,az];rw[true_and,dW,ig,du,dh,dA];simp only[aa,ac];rw[dh,uC,dm,gg,Ec,dD,if_pos rfl,ig,dB,dB,di];simp only[aa,ac];rw[uC,ee,eZ,dj,di];simp only[aa,ac];rw[he,dj,dD]
 cases b with
 | false=>rw[if_neg (!2),bT]
 | true =>
  rw[if_pos rfl,du,dh,dA];simp only[aa,ac];rw[dh,dB,di];simp only[aa,ac];rw[uC,ee,eW,dj,dm,Dy,bE]
theorem rj {many:Int}{ts:List eC}{w:Str}{d:ad}(he:je 2 d=false):gE [d0 many ts,.str w,d] n Q X=Q (.bool false) n:=by
 unfold gE jc;simp only[iX,g9,envOf,am,aX,aj,aG,Nat.reduceSub,Nat.reduceAdd,aF,aP,aI,az];rw[true_and,dW,ig,du,dh,dA];simp only[aa,ac];rw[dh,uC,dm,gg,he,dD,if_neg (!2)]
end
mutual
def Wl (k:Nat):ad->Prop
 | .tuple ds=>ds.length<=k/\OD k ds
 | .list ds=>ds.length<=k/\OD k ds
 | _=>True
def OD (k:Nat):List ad->Prop
 | []=>True
 | d::ds=>Wl k d/\OD k ds
end
theorem uz {k:Nat}:∀{ds:List ad},OD k ds↔∀d∈ds,Wl k d
 | []=>by simp[OD]
 | d::ds=>by rw[OD,uz (ds:=ds)];simp
mutual
theorem lD {k l:Nat}(h:k<=l):∀d:ad,Wl k d->Wl l d
 | .none,_=>trivial
 | .bool _,_=>trivial
 | .int _,_=>trivial
 | .str _,_=>trivial
 | .tuple ds,z=>by rw[Wl] at z ⊢;exact⟨aL z.1 h,wC h ds z.2⟩
 | .list ds,z=>by rw[Wl] at z ⊢;exact⟨aL z.1 h,wC h ds z.2⟩
 | .dict _,_=>trivial
theorem wC {k l:Nat}(h:k<=l):∀ds:List ad,OD k ds->OD l ds
 | [],_=>trivial
 | d::ds,z=>⟨lD h d z.1,wC h ds z.2⟩
end
theorem ka {k:Nat}{ds:List ad}(h:ds.length<=k)(h2:∀d∈ds,Wl k d):Wl k (.tuple ds):=by rw[Wl];exact⟨h,uz.mpr h2⟩
theorem Ko {k:Nat}{ds:List ad}(h:ds.length<=k)(h2:∀d∈ds,Wl k d):Wl k (.list ds):=by rw[Wl];exact⟨h,uz.mpr h2⟩
theorem jh {k:Nat}{ds:List ad}(h:Wl k (.tuple ds)):ds.length<=k/\∀d∈ds,Wl k d:=by rw[Wl] at h;exact⟨h.1,uz.mp h.2⟩
structure Bd (B w p k:Nat) (d:ad):Prop where
 sz:Sz B 11 w p d
 wl:Wl k d
theorem Bd.mono {B w p k B' w' p' k':Nat}{d:ad}(h:Bd B w p k d)(h1:B<=B')(h2:w<=w')(h3:p<=p')(h4:k<=k'):Bd B' w' p' k' d:=⟨h.sz.mono h1 (ag _) h2 h3,lD h4 d h.wl⟩
section
variable {B w p k:Nat}
theorem bdI {i:Int}(h:i.natAbs<=B)(hB:B<=10 ^ 50):Bd B 168 0 k (.int i):=⟨Sz.int h hB,trivial⟩
theorem V7 (b:Bool):Bd B 0 0 k (.bool b):=⟨Sz.bl b,trivial⟩
theorem bdN:Bd B 0 0 k .none:=⟨Sz.iZ,trivial⟩
theorem Vm {x:Str}(h:(x.cps.toList.all (λc=>decide (c<1114112)) && decide (x.cps.size<=11))=true):Bd B 11 0 k (.str x):=⟨Sz.str h,trivial⟩
theorem bd0:Bd B 0 1 k (.tuple []):=⟨Sz.tup gR.nil,ka (bW _) (!4)⟩
theorem Yz:Bd B 0 1 k (.list []):=⟨Sz.lst gR.nil,Ko (bW _) (!4)⟩
theorem RY {x:ad}(h:Bd B w p k x)(hk:1<=k):Bd B (w+1) (p+1) k (.tuple [x]):=⟨(Sz.tup (gR.cons h.sz gR.nil)).mono (ag _) (ag _) (!1) (!1),ka (by simpa using hk) (by simpa using h.wl)⟩
theorem YA {x y:ad}(h:Bd B w p k x)(h2:Bd B w p k y)(hk:2<=k):Bd B (2 * w+2) (p+1) k (.tuple [x,y]):=⟨(Sz.tup (gR.cons h.sz (gR.cons h2.sz gR.nil))).mono (ag _) (ag _) (!1) (!1),ka (by simpa using hk) (by simpa using ⟨h.wl,h2.wl⟩)⟩
end
section
variable {n:Int}{X:XQ}{Q:ad->Int->Prop}
theorem Bd.one {B w p k:Nat}{ds:List ad}(h:Bd B w p k (.tuple ds)):1<=p:=by have:=h.sz.dp;simp only[ad.depth] at this;omega
theorem Bd.OE {B w p k:Nat}{ds:List ad}(h:Bd B w p k (.tuple ds)){es:List ad}{w' k':Nat}(hs:gR B 11 w' (p - 1) es)(hl:es.length<=k')(hk:k<=k')(hm:∀d∈es,d∈ds):Bd B w' p k' (.tuple es):=by
 have:=h.one;exact⟨(Sz.tup hs).mono (ag _) (ag _) (ag _) (!1),ka hl λd hd=>lD hk d ((jh h.wl).2 d (hm d hd))⟩
theorem Bd.cut {B w p k:Nat}{ds:List ad}(h:Bd B w p k (.tuple ds))(lo hi:Option Int):Bd B w p k (.tuple (jk ds lo hi)):=by
 unfold jk;refine h.OE ((h.sz.eX.drop _).take _) ?_ (ag _) λd hd=>cC (b8 hd);have:=(jh h.wl).1;rw[bf,bQ];omega
theorem Bd.rev {B w p k:Nat}{ds:List ad}(h:Bd B w p k (.tuple ds)):Bd B w p k (.tuple ds.reverse):=h.OE h.sz.eX.rev (by rw[List.length_reverse];exact (jh h.wl).1) (ag _) λd hd=>List.mem_reverse.mp hd
theorem Bd.lst {B w p k:Nat}{ds:List ad}(h:Bd B w p k (.tuple ds)):Bd B w p k (.list ds):=by
 have:=h.one;exact⟨(Sz.lst h.sz.eX).mono (ag _) (ag _) (ag _) (!1),Ko (jh h.wl).1 (jh h.wl).2⟩
theorem Bd.app {B w w2 p k k':Nat}{ds es:List ad}(h:Bd B w p k (.tuple ds))(h2:Bd B w2 p k (.tuple es))(hl:ds.length+es.length<=k')(hk:k<=k'):Bd B (w+w2) p k' (.tuple (ds++es)):=by
 have:=h.one;exact⟨(Sz.tup (h.sz.eX.append h2.sz.eX)).mono (ag _) (ag _) (!1) (!1),ka (by rw[au];exact hl) λd hd=>lD hk d ((aH.mp hd).elim ((jh h.wl).2 d) ((jh h2.wl).2 d))⟩
noncomputable def l5 (l:List ad):List ad:=l++l++l++l++l
theorem Kp {l:List ad}{x:ad}(h:x∈l5 l):x∈l:=by
 unfold l5 at h;rcases aH.mp h with h | h
 .rcases aH.mp h with h | h
  .rcases aH.mp h with h | h
   .rcases aH.mp h with h | h<;>exact h
   .exact h
  .exact h
 .exact h
theorem zT (l:List ad):(l5 l).length=5 * l.length:=by unfold l5;simp only[au];omega
theorem Vn {l:List ad}(h:l.length<=10):rR (.list l) (.int 5)=some (.list (l5 l)):=by
 have hsz:av=16777216:=by decide
 have e:(List.replicate (Int.toNat 5) l).flatten=l5 l:=by
  show (List.replicate 5 l).flatten=_;simp[List.replicate,l5]
 simp only[rR];rw[if_pos ⟨!2,!2,by rw[hsz];show l.length * 5<=_;omega⟩,e]
structure Mid (B w p k:Nat) (d:ad) (m:Nat) (n:Int) (env:eU) (n':Int):Prop where
 ex:∃C',env=[none,some (.s d),some (.s (.list C'))]/\(∀d∈C',Bd B w p k d)/\0<C'.length/\C'.length<=m/\n'=n
noncomputable def GG:List ad:=[.none,.bool true,.bool false,.int (-1),.int 0,.int 1,.int 2,.int 7,.int (10 ^ 39),.str "",.str "cut",.str "odd",.tuple [],.list [],.tuple [.int 0],.tuple [.int 0,.int 1],.tuple [.int 1,.int 0],.tuple [.bool true],.tuple [.tuple [.int 0]]]
theorem Ng {B:Nat}(hB:10 ^ 39<=B)(hB2:B<=10 ^ 50){k:Nat}(hk:2<=k):∀d∈GG,Bd B 400 2 k d:=by
 have h39:(10:Nat) ^ 39=1000000000000000000000000000000000000000:=by decide +kernel
 have i:∀{i:Int},i.natAbs<=10 ^ 39->Bd B 168 0 k (.int i):=λh=>bdI (aL h hB) hB2;have i0:=i (i:=0) (!3);have i1:=i (i:=1) (!3);have up:∀{w p:Nat} {d:ad},Bd B w p k d->w<=400->p<=2->Bd B 400 2 k d:=λh h1 h2=>h.mono (ag _) h1 h2 (ag _);unfold GG;simp only[al,aM,or_false];rintro d (rfl | rfl | rfl | rfl | rfl | rfl | rfl | rfl | rfl | rfl | rfl | rfl | rfl | rfl | rfl | rfl | rfl | rfl | rfl)
 .exact up bdN (!2) (!2)
 .exact up (V7 _) (!2) (!2)
 .exact up (V7 _) (!2) (!2)
 .exact up (i (!3)) (!2) (!2)
 .exact up i0 (!2) (!2)
 .exact up i1 (!2) (!2)
 .exact up (i (!3)) (!2) (!2)
 .exact up (i (!3)) (!2) (!2)
 .exact up (i (!3)) (!2) (!2)
 .exact up (Vm (!3)) (!2) (!2)
 .exact up (Vm (!3)) (!2) (!2)
 .exact up (Vm (!3)) (!2) (!2)
 .exact up bd0 (!2) (!2)
 .exact up Yz (!2) (!2)
 .exact up (RY i0 (!1)) (!2) (!2)
 .exact up (YA i0 i1 hk) (!2) (!2)
 .exact up (YA i1 i0 hk) (!2) (!2)
 .exact up (RY (V7 _) (!1)) (!2) (!2)
 .exact up (RY (RY i0 (!1)) (!1)) (!2) (!2)
theorem DJ {B w p k:Nat}{d:ad}(hB:B<=10 ^ 48)(hk:2<=k)(CC:k<=1000)(hd:Bd B w p k d)(hn:n+1<=jQ)(h:∀d',Bd (2 * B+10 ^ 40) (2 * w+400) (p+2) (k+1) d'->Q d' (n+1)):mj [d] n Q X:=by
 have h48:(10:Nat) ^ 48 * 2+10 ^ 40<=10 ^ 50:=by decide +kernel
 have aab:(10:Nat) ^ 39<=10 ^ 40:=by decide +kernel
 have YB:IW (.int 10) (.int 39)=some (.int (10 ^ 39)):=by
  simp only[IW];rw[if_pos ⟨!2,!2,!2⟩];rfl
 have ib:∀(l:List ad) (n1:Int),n1=n->(∀d∈l,Bd (2 * B+10 ^ 40) (2 * w+400) (p+2) (k+1) d)->0<l.length->l.length<1000->fG [.int (l.length:Nat)] n1 (λd n1=>mD (d7 (.list l) d) λd=>Q d n1) K9:=λl n1 Ld hl h0 h1=>by
  subst Ld;refine fC (!1) (!1) (!1) λr r0 r1=>?_;obtain⟨x,hx,hm⟩:=iy (xs:=l) r0 (!1);simp! [lr,hx];exact h x (hl x hm)
 have hC:∀d∈GG,Bd (2 * B+10 ^ 40) (2 * w+400) (p+2) (k+1) d:=λd hd=>(Ng (B:=2 * B+10 ^ 40) (!1) (!1) hk d hd).mono (ag _) (!1) (!1) (!1);unfold mj sg;simp only[iX,g9,envOf,am,aX,aj,aG,Nat.reduceSub,Nat.reduceAdd,aF,aP,aI,az];with_reducible generalize Ec:FU (eQ (mN _ _) _ _) _=t2
 with_reducible generalize ht1:FU (eQ (dM (kL "tuple" _)) _ _) t2=t1
 simp! [YB,iK];rw[rX (!4),dj,show ([ad.none,.bool true,.bool false,.int (-1),.int 0,.int 1,.int 2,.int 7,.int (10 ^ 39),.str "",.str "cut",.str "odd",.tuple [],.list [],.tuple [.int 0],.tuple [.int 0,.int 1],.tuple [.int 1,.int 0]]++[.tuple [.bool true],.tuple [.tuple [.int 0]]]:List ad)=GG from rfl];have hCl:GG.length=19:=rfl;generalize GG=C at hC hCl ⊢
 have two:∀(C:List ad) (n1:Int),n1=n->(∀d∈C,Bd (2 * B+10 ^ 40) (2 * w+400) (p+2) (k+1) d)->0<C.length->C.length<=100->t2 { nx:=λx n'=>Q ad.none n',rt:=Q } [none,some (.s d),some (.s (.list C))] n1:=λC n1 Ld hC h0 h1=>by
  subst Ld;rw[<- Ec];refine⟨Mid (2 * B+10 ^ 40) (2 * w+400) (p+2) (k+1) d 200 n1,?_,?_⟩
  .cases d with
   | int i =>
    have hi:i.natAbs<=B:=by have:=hd.sz.gq;simpa only [Gq] using this
    have B2:rR (.int i) (.int 2)=some (.int (i * 2)):=zE (.inr ⟨!2,!2⟩);have h40:(10:Nat) ^ 40=10000000000000000000000000000000000000000:=by decide +kernel
    have j:∀{i:Int},i.natAbs<=2 * B+10 ^ 40->Bd (2 * B+10 ^ 40) (2 * w+400) (p+2) (k+1) (.int i):=λh=>(bdI (k:=k+1) h (!1)).mono (ag _) (!1) (!1) (ag _);have YC:=Vn (l:=[.int (i+1),.int (i - 1),.int (i * 2)]) (!4);have Qg:fw (.list C) (.list (l5 [.int (i+1),.int (i - 1),.int (i * 2)]))=some (.list (C++l5 [.int (i+1),.int (i - 1),.int (i * 2)])):=rX (by rw[zT];simp;omega);simp! [jO,qX,yE,B2,YC,Qg];refine⟨_,rfl,λx hx=>?_,by simp;omega,by rw[au,zT];simp;omega,rfl⟩;rcases aH.mp hx with hx | hx
    .exact hC x hx
    .have:=Kp hx
     simp only[al,aM,or_false] at this;rcases this with rfl | rfl | rfl
     .exact j (!1)
     .exact j (!1)
     .exact j (by rw[Int.natAbs_mul];simp;omega)
   | bool b=>simp! [jO];exact⟨_,rfl,hC,h0,!1,rfl⟩
   | _=>simp! [jO];exact⟨_,rfl,hC,h0,!1,rfl⟩
  .rintro d5 n' ⟨C',rfl,M9,YD,RO,rfl⟩
   simp! [eB];exact ib C' _ rfl M9 YD (!1)
 rw[<- ht1];refine⟨Mid (2 * B+10 ^ 40) (2 * w+400) (p+2) (k+1) d 100 n,?_,?_⟩
 .cases d with
  | tuple ds =>
   have hl:=(jh hd.wl).1;have up:∀{w' p' k':Nat} {x:ad},Bd B w' p' k' x->w'<=2 * w+400->p'<=p+2->k'<=k+1->Bd (2 * B+10 ^ 40) (2 * w+400) (p+2) (k+1) x:=λh h1 h2 h3=>h.mono (!1) h1 h2 h3;have z1:Bd B (168+1) (p - 1+1) (k+1) (.tuple [ad.int 0]):=⟨(Sz.tup (gR.cons (Sz.int (B:=B) (i:=0) (!4) (!1)) gR.nil)).mono (ag _) (ag _) (!1) (!1),ka (!4) (by simp[Wl])⟩;have YE:=hd.one;have a1:fw (.tuple ds) (.tuple [.int 0])=some (.tuple (ds++[.int 0])):=vK (by simp;omega);have hc:=hd.cut none (some 1);have K2:(jk ds none (some 1)).length<=1:=by rw[mP _ 1 (!2),bf];show min 1 _<=1;omega
   have a2:fw (.tuple ds) (.tuple (jk ds none (some 1)))=some (.tuple (ds++jk ds none (some 1))):=vK (!1);have YC:=Vn (l:=[ad.list ds,.tuple (ds++[.int 0]),.tuple (jk ds none (some (-1))),.tuple (jk ds (some 1) none),.tuple (ds++jk ds none (some 1)),.tuple [.tuple ds],.tuple ds.reverse]) (!4);have Qg:∀l:List ad,l.length<=7->fw (.list C) (.list (l5 l))=some (.list (C++l5 l)):=λl hl=>rX (by rw[zT];omega);have YF:=Qg [ad.list ds,.tuple (ds++[.int 0]),.tuple (jk ds none (some (-1))),.tuple (jk ds (some 1) none),.tuple (ds++jk ds none (some 1)),.tuple [.tuple ds],.tuple ds.reverse] (!4);simp! [jO,Et,a1,a2,JE,iK,YC,YF];refine⟨_,rfl,λx hx=>?_,by simp;omega,by rw[au,zT];simp;omega,rfl⟩;rcases aH.mp hx with hx | hx
   .exact hC x hx
   .have HU:=Kp hx
    simp only[al,aM,or_false] at HU;rcases HU with rfl | rfl | rfl | rfl | rfl | rfl | rfl
    .exact up hd.lst (!1) (!1) (!1)
    .exact up ((hd.mono (ag _) (ag _) (ag _) (bX k)).app (z1.mono (ag _) (ag _) (!1) (ag _)) (k':=k+1) (by simp;omega) (ag _)) (!1) (!1) (!1)
    .exact up (hd.cut _ _) (!1) (!1) (!1)
    .exact up (hd.cut _ _) (!1) (!1) (!1)
    .exact up (hd.app hc (k':=k+1) (!1) (!1)) (!1) (!1) (!1)
    .exact up (RY hd (!1)) (!1) (!1) (!1)
    .exact up hd.rev (!1) (!1) (!1)
  | _=>simp! [jO];exact⟨_,rfl,hC,!1,!1,rfl⟩
 .rintro d5 n' ⟨C',rfl,M9,YD,RO,rfl⟩
  exact two C' _ rfl M9 YD RO
end
structure YG (d:ad) (deep:Nat) (n:Int) (env:eU) (n':Int):Prop where
 ex:env=[none,some (.s d),some (.s (.int (deep:Nat))),none]/\n<=n'/\n'<=n+1/\(∃ds,d=.tuple ds/\0<ds.length)/\0<deep
theorem ES {B k:Nat}(hB:B<=10 ^ 48)(hk:2<=k)(CC:k<=1000):∀(fuel deep:Nat) (d:ad) (w p:Nat) (n:Int) (Q:ad->Int->Prop) (X:XQ),deep<fuel->fuel<=10->Bd B w p k d->n+3 * fuel<=jQ ->
  (∀(d':ad) (n':Int),Bd (2 * B+10 ^ 40) (2 * w+400) (p+2) (k+1) d'->n<=n'->n'<=n+3 * fuel->Q d' n')->jT fuel [d,.int (deep:Nat)] n Q X
 | 0,_,_,_,_,_,_,_,h,_,_,_,_=>by omega
 | fuel+1,deep,d,w,p,n,Q,X,hf,hf2,hd,hn,h=>by
  have sV:∀(n1:Int),n<=n1->n1<=n+1->mj [d] n1 Q K9:=λn1 h1 h2=>DJ hB hk CC hd (!1) λd' yV=>h d' _ yV (!1) (!1);simp only[jT,pL];unfold pK;simp only[iX,g9,envOf,am,aX,aj,aG,Nat.reduceSub,Nat.reduceAdd,aF,aP,aI,az];with_reducible generalize Yg:dv (dS 3 _) _=te
  refine⟨trivial,YG d deep n,?_,?_⟩
  .cases d with
   | tuple ds =>
    simp! [jO,eB,fc];by_cases h0:(ds.length:Int)=0
    .simp! [h0,decide_true,if_true]
     exact sV _ (!1) (!1)
    .simp! [h0,decide_false,bH,if_false]
     by_cases h1:((deep:Nat):Int)=0
     .simp! [h1,decide_true,if_true]
      exact sV _ (!1) (!1)
     .simp! [h1,decide_false,bH,if_false]
      refine fC (!2) (!2) (!1) λr r0 r1=>?_;by_cases h2:r=0
      .simp! [h2,fc,decide_true,if_true]
       exact sV _ (!1) (!1)
      .simp! [h2,fc,decide_false,bH,if_false]
       exact⟨rfl,!1,!1,⟨ds,rfl,!1⟩,!1⟩
   | _=>simp! [jO];exact sV _ (!1) (!1)
  .rintro d5 n1 ⟨rfl,Ld,Y',⟨ds,rfl,AH⟩,hdp⟩
   rw[<- Yg];have hl:=(jh hd.wl).1;simp! [eB];refine fC (!1) (!1) (!1) λat' a0 a1=>?_;have VM:at'.toNat<ds.length:=by omega
   have YE:=hd.one;simp! [Et,lH a0 a1,aR VM,yE];have q8:ds[at'.toNat]∈ds:=cc _;have wQ:=hd.sz.eX;have hwm:=Ju q8;have YH:=Jt q8;have Z9:=wQ.wt;have Xf:=wQ.dp;have Kq:=vE ds at'.toNat;have Vo:ds.drop at'.toNat=ds[at'.toNat]::ds.drop (at'.toNat+1):=cG VM;rw[Vo] at Kq;simp only[ad.weightAll] at Kq;have hel:Bd B (ds[at'.toNat].weight) (p - 1) k ds[at'.toNat]:=⟨⟨i8.mp wQ.gq _ q8,ag _,!1⟩,(jh hd.wl).2 _ q8⟩;rw[show ((deep:Nat):Int) - 1=((deep - 1:Nat):Int) by omega];refine ES hB hk CC fuel (deep - 1) _ _ _ _ _ _ (!1) (!1) hel (!1) λd' n' yV hn3 hn4=>?_;have t1:gR (2 * B+10 ^ 40) 11 (ad.weightAll (ds.take at'.toNat)) (p+1) (ds.take at'.toNat):=⟨mf (!1) (ag _) _ (wQ.take _).gq,ag _,by have:=(wQ.take at'.toNat).dp;omega⟩;have t2:gR (2 * B+10 ^ 40) 11 (ad.weightAll (ds.drop (at'.toNat+1))) (p+1) (ds.drop (at'.toNat+1)):=⟨mf (!1) (ag _) _ (wQ.drop _).gq,ag _,by have:=(wQ.drop (at'.toNat+1)).dp;omega⟩;have YI:Sz (2 * B+10 ^ 40) 11 (2 * ds[at'.toNat].weight+400) (p+1) d':=yV.sz.mono (ag _) (ag _) (ag _) (!1);have t3:=(t1.append (gR.cons YI gR.nil)).append t2;have Z':(ds.take at'.toNat).length<=1000:=by rw[bf];omega
   have NK:(ds.drop (at'.toNat+1)).length<=1000:=by rw[bQ];omega
   have a1':fw (.tuple (ds.take at'.toNat)) (.tuple [d'])=some (.tuple (ds.take at'.toNat++[d'])):=vK (by simp only[aj,aG];omega);have a2':fw (.tuple (ds.take at'.toNat++[d'])) (.tuple (ds.drop (at'.toNat+1)))=some (.tuple (ds.take at'.toNat++[d']++ds.drop (at'.toNat+1))):=vK (by simp only[au,aj,aG];omega);simp! [qX,mP _ at' a0,kz _ (at' + 1) (by omega:0<=at' + 1),show (at' + 1).toNat=at'.toNat+1 by omega,a1',a2'];refine h _ _ ⟨(Sz.tup t3).mono (ag _) (ag _) (!1) (!1),ka (by simp only[au,bf,bQ,aj,aG];omega) λz hz=>?_⟩ (!1) (!1);rcases aH.mp hz with hz | hz
   .rcases aH.mp hz with hz | hz
    .exact lD (bX k) z ((jh hd.wl).2 z (b8 hz))
    .rw[ay.mp hz];exact yV.wl
   .exact lD (bX k) z ((jh hd.wl).2 z (cC hz))
section
variable {n:Int}{X:XQ}{Q:ad->Int->Prop}
theorem Rj {B w p k:Nat}{d:ad}{deep:Nat}(hB:B<=10 ^ 48)(hk:2<=k)(CC:k<=1000)(hdp:deep<=4)(hd:Bd B w p k d)(hn:n+30<=jQ)(h:∀(d':ad) (n':Int),Bd (2 * B+10 ^ 40) (2 * w+400) (p+2) (k+1) d'->n<=n'->n'<=n+30->Q d' n'):jz [d,.int (deep:Nat)] n Q X :=
 ES hB hk CC 10 deep d w p n Q X (!1) (!2) hd (!1) λd' n' h1 h2 h3=>h d' n' h1 h2 (!1)
end
noncomputable def gj (w:Str)(d:ad):Bool:=match d with | .str x=>decide (x=w) | _=>false
theorem GH (w:Str)(d:ad):ad.eqv d (.str w)=gj w d:=by
 cases d with
 | str x =>
  simp only[ad.eqv,gj];rw[cw,beq_iff_eq,decide_eq_true_eq]
 | _=>simp[ad.eqv,gj]
theorem uA (w:Str)(h:(ad.str w).canLay0=true){d:ad}(hd:d.canLay0=true)(hp:d.depth<=60):l9 d (.str w)=some (.bool (gj w d))/\yg d (.str w)=some (.bool (!gj w d)):=by
 rw[vG hd h hp,vH hd h hp,GH];exact⟨rfl,rfl⟩
noncomputable def ip (b:Int)(d:ad):Bool:=match d with | .int i=>decide (0<=i/\i<b) | _=>false
noncomputable def Rk (ts:List eC)(d:ad):Int:=match d with | .int i=>tw ts i | _=>0
noncomputable def ji (ts:List eC):Int->List ad->Option Int
 | x,[]=>some x
 | x,d::ds=>match gy ts x d with
  | some y=>if Rk ts d=0 then none else ji ts y ds
  | none=>none
noncomputable def wD (ds:List ad):Bool:=match eV ds with | some ns=>decide ns.Nodup | none=>false
noncomputable def uB (ts:List eC)(side:List Int):Bool:=(ts.filter λt=>decide (0<t.2.2) && (decide (t.1∈side) == decide (t.2.1∈side))).isEmpty
theorem wF {ts:List eC}{side:List Int}(hp:∀t∈ts,0<=t.2.2):uB ts side=true↔DE ts side:=by
 unfold uB DE;rw[List.isEmpty_iff,List.filter_eq_nil_iff];refine forall_congr' λt=>forall_congr' λht=>?_;have:=hp t ht;simp only[aK,decide_eq_true_eq,beq_iff_eq,decide_eq_decide];constructor
 .intro h g6 hi
  exact h ⟨!1,hi⟩
 .rintro h ⟨h1,h2⟩
  exact h (!1) h2
noncomputable def oB (many:Int)(ts:List eC)(ds:List ad):Bool:=match eV ds with | some side=>fD many (.tuple ds) && uB ts side | none=>false
noncomputable def oZ (many:Int)(ts:List eC)(x:Int)(ds:List ad):Bool:=decide (0<=x/\x<many) && (match ji ts x ds with | some y=>decide (y=x) && (decide (ds.length % 2=1) && wD ds) | none=>false)
noncomputable def jF (many:Int)(ts:List eC)(d:ad):Bool:=match d with
 | .tuple [a,.tuple ds]=>gj "halves" a && oB many ts ds
 | .tuple [a,.int x,.tuple ds]=>gj "odd" a && oZ many ts x ds
 | _=>false
theorem yO:∀{ds:List ad} {a:Int},rising a ds=true->∃l:List Int,ds=l.map .int/\l.Pairwise (· < ·)/\∀k∈l,a<k
 | [],_,_=>⟨[],rfl,List.Pairwise.nil,!4⟩
 | d::ds,a,h=>by
  obtain⟨i,rfl,hi⟩:=pY h d (aq ..);simp only[rising,aK,decide_eq_true_eq] at h;obtain⟨l,rfl,h1,h2⟩:=yO h.2;refine⟨i::l,rfl,bZ.mpr ⟨h2,h1⟩,λk hk=>?_⟩;rcases al.mp hk with rfl | hk
  .exact hi
  .have:=h2 k hk;omega
theorem wG {b:Int}{d:ad}(h:fD b d=true):∃l:List Int,d=dF l/\l.Pairwise (· < ·)/\∀k∈l,0<=k/\k<b:=by
 cases d with
 | tuple ds =>
  simp only[fD,aK] at h;obtain⟨l,rfl,h1,h2⟩:=yO h.1;refine⟨l,rfl,h1,λk hk=>⟨by have:=h2 k hk;omega,?_⟩⟩;have hl:=h.2;unfold jD at hl;rw[c7] at hl
  cases e:l.getLast? with
  | none=>rw[List.getLast?_eq_none_iff.mp e] at hk;cases hk
  | some m =>
   rw[e] at hl;have hl:m<b:=of_decide_eq_true hl;obtain⟨ys,rfl⟩:=List.getLast?_eq_some_iff.mp e;rcases aH.mp hk with hk | hk
   .have:=(List.pairwise_append.mp h1).2.2 k hk m (ay.mpr rfl)
    omega
   .rw[ay.mp hk];exact hl
 | _=>simp[fD] at h
theorem uD {ts:List eC}:∀{ds:List ad} {x y:Int} (k:Nat),ji ts x ds=some y->∃(ns ys:List Int),ds=ns.map .int/\jf ts x k ds=.inr ys/\(∀j∈ns,tw ts j≠0)/\(x::ys).getLast? = some y
 | [],x,y,k,h=>by cases h;exact⟨[],[],rfl,rfl,!4,rfl⟩
 | d::ds,x,y,k,h=>by
  simp only[ji] at h
  cases hs:gy ts x d with
  | none=>rw[hs] at h;cases h
  | some z =>
   rw[hs] at h;dsimp only at h;split at h
   .cases h
   .rename_i hz
    obtain⟨ns,ys,rfl,h1,h2,h3⟩:=uD (k+1) h;obtain⟨i,t,rfl,_⟩:=jE hs;refine⟨i::ns,z::ys,rfl,?_,λj hj=>?_,by rw[c9];exact h3⟩
    .simp only[jf,hs,h1]
    .rcases al.mp hj with rfl | hj
     .exact hz
     .exact h2 j hj
theorem yQ {ts:List eC}:∀{ns ys:List Int} {x:Int} {k:Nat},jf ts x k (ns.map .int)=.inr ys->(∀j∈ns,tw ts j≠0)->ji ts x (ns.map .int)=(x::ys).getLast?
 | [],ys,x,k,h,_=>by cases h;rfl
 | i::ns,ys,x,k,h,hz=>by
  rw[am] at h ⊢;simp only[jf] at h
  cases hs:gy ts x (.int i) with
  | none=>rw[hs] at h;cases h
  | some z =>
   rw[hs] at h;dsimp only at h
   cases hw:jf ts z (k+1) (ns.map .int) with
   | inl j=>rw[hw] at h;cases h
   | inr zs =>
    rw[hw] at h;cases h;have:=yQ hw λj hj=>hz j (ao _ hj);simp only[ji,hs];rw[if_neg (by exact hz i (aq ..)),this,c9]
theorem Nh {many:Int}{ts:List eC}(ok:iY many ts){ds:List ad}{x y:Int}(h:ji ts x ds=some y)(g6:ds≠[]):0<=x/\x<many:=by
 cases ds with
 | nil=>exact absurd rfl g6
 | cons d ds =>
  simp only[ji] at h
  cases hs:gy ts x d with
  | none=>rw[hs] at h;cases h
  | some z =>
   obtain⟨i,t,rfl,h0,h1,ht,hx,_⟩:=jE hs;have:=ok t (bC ht);rcases hx with rfl | rfl<;>omega
noncomputable def DK (ts:List eC)(c:ad)(r:Option (Int × List Int × List Int)):Bool:=match r with
 | some (_,ns,ys)=>(decide (ys≠[]) && decide ns.Nodup) && (decide (ns.length % 2=1) && ns.all λj=>decide (0<tw ts j))
 | none=>false
theorem Ni {many:Int}{ts:List eC}(ok:iY many ts)(hp:∀t∈ts,0<=t.2.2)(b c:ad):DK ts c (il ts (.tuple [b,c]))=(match b,c with | .int x,.tuple ds=>oZ many ts x ds | _,_=>false):=by
 have Nj:∀ns:List Int,ki ts ns->((ns.all λj=>decide (0<tw ts j))=true↔∀j∈ns,tw ts j≠0):=λns hn=>by
  rw[ca];refine forall_congr' λj=>forall_congr' λhj=>?_;have:=hp _ (j8 (hn j hj));rw[decide_eq_true_eq];show 0<(fm ts j).2.2↔(fm ts j).2.2≠0;omega
 cases b with
 | int x =>
  cases c with
  | tuple ds =>
   simp only[il];unfold oZ
   cases hw:jf ts x 0 ds with
   | inl j =>
    have:ji ts x ds=none:=by
     cases e:ji ts x ds with
     | none=>rfl
     | some y =>
      obtain⟨_,ys,_,h1,_⟩:=uD 0 e;rw[hw] at h1;cases h1
    simp[DK,this]
   | inr ys =>
    obtain⟨Lb,ns,rfl,hn⟩:=mq hw;rw[ah] at Lb;simp only[eh,wD,ah];by_cases hz:∀j∈ns,tw ts j≠0
    .have e:=yQ hw hz
     have e2:=(Nj ns hn).mpr hz;obtain⟨y,hy⟩:∃y,(x::ys).getLast? = some y:=⟨_,List.getLast?_cons ..⟩;rw[e,hy];by_cases YJ:y=x
     .subst YJ
      simp only[if_true,DK,e2,Bool.and_true,decide_true,bE];by_cases hl:ns.length % 2=1
      .have g6:ns≠[]:=λz=>by subst z;simp at hl
       have hr:=Nh ok (e.trans hy) (by simpa using g6);have hyn:ys≠[]:=λz=>by subst z;simp at Lb;exact g6 (cU Lb.symm)
       simp[hl,hr,hyn]
      .simp[hl]
     .rw[if_neg (by simpa using YJ)]
      simp[DK,YJ]
    .have e:ji ts x (ns.map .int)=none:=by
      cases e:ji ts x (ns.map .int) with
      | none=>rfl
      | some y =>
       obtain⟨RE,_,e1,_,h2,_⟩:=uD 0 e
       have:ns=RE:=by
        have:=congrArg eV e1;simpa using this
       subst this;exact absurd h2 hz
     have e2:(ns.all λj=>decide (0<tw ts j))=false:=by
      cases h:ns.all λj=>decide (0<tw ts j) with
      | false=>rfl
      | true=>exact absurd ((Nj ns hn).mp h) hz
     rw[e];split<;>simp[DK,e2]
  | _=>rfl
 | _=>rfl
section
variable {n:Int}{X:XQ}{Q:ad->Int->Prop}
theorem uE {many:Int}{ts:List eC}{d:ad}(h2:je 2 d=false)(h3:je 3 d=false):dU [d0 many ts,d] n Q X=Q (.bool false) n:=by
 unfold dU iC;simp only[iX,g9,envOf,am,aX,aj,aG,Nat.reduceSub,Nat.reduceAdd,aF,aP,aI,az];with_reducible generalize ht:dv (eQ _ _ _) (dW _)=t
 rw[true_and,dv,eQ,dM,du,dh,dA];simp only[aa,ac];rw[dh,uC,dh,dA];simp only[aa,ac];rw[dm,rj h2,dD,if_neg (!2),d8];show t _ _ _=_;subst ht;rw[dv,eQ,lj,iu,dM,du,dh,dA];simp only[aa,ac];rw[dh,uC,dm,gg,h3,dD,bw,if_pos rfl,if_pos trivial,dW,uC]
theorem Kr {many:Int}{ts:List eC}{a b:ad}(hp:rf ts)(pv:∀t∈ts,0<=t.2.2)(hl:ts.length<=1000)(ET:a.canLay0=true)(Nk:a.depth<=60):dU [d0 many ts,.tuple [a,b]] n Q X=Q (.bool (jF many ts (.tuple [a,b]))) n:=by
 have he:=(uA "halves" (!3) ET Nk).1;have h3:je 3 (.tuple [a,b])=false:=rfl;unfold dU iC;simp only[iX,g9,envOf,am,aX,aj,aG,Nat.reduceSub,Nat.reduceAdd,aF,aP,aI,az];with_reducible generalize ht:dv (eQ _ _ _) (dW _)=t
 rw[true_and,dv,eQ,dM,du,dh,dA];simp only[aa,ac];rw[dh,uC,dh,dA];simp only[aa,ac];rw[dm,xr he,dD];by_cases hb:fD many b=true
 .obtain⟨l,rfl,l1,l2⟩:=wG hb
  have e:jF many ts (.tuple [a,dF l])=(gj "halves" a && decide (ER ts l=0)):=by
   show (gj "halves" a && oB many ts (l.map .int))=_;unfold oB;simp only[eh];have:fD many (.tuple (l.map .int))=true:=hb;rw[this,bE];congr 1;rw[cw,wF pv,decide_eq_true_eq,GD pv]
  rw[hb,Bool.and_true,e]
  cases gj "halves" a with
  | true =>
   rw[if_pos rfl,bE,dW,dB,du,dh,dA];simp only[aa,ac];rw[dh,dB,di];simp only[aa,ac];rw[uC,ee,eW,dj,dm,DI hp hl,uC,fc,dj]
  | false =>
   rw[if_neg (!2),bT,d8];show t _ _ _=_;subst ht;rw[dv,eQ,lj,iu,dM,du,dh,dA];simp only[aa,ac];rw[dh,uC,dm,gg];rw[show je 3 (.tuple [a,dF l])=false from rfl,dD,bw,if_pos rfl,if_pos trivial,dW,uC]
 .have hb:fD many b=false:=by simpa using hb
  have e:jF many ts (.tuple [a,b])=false:=by
   cases b with
   | tuple ds =>
    show (gj "halves" a && oB many ts ds)=false;unfold oB
    cases eV ds with
    | none=>simp
    | some l=>simp[hb]
   | _=>rfl
  rw[hb,Bool.and_false,if_neg (!2),d8,e];show t _ _ _=_;subst ht;rw[dv,eQ,lj,iu,dM,du,dh,dA];simp only[aa,ac];rw[dh,uC,dm,gg,h3,dD,bw,if_pos rfl,if_pos trivial,dW,uC]
theorem DL {many:Int}{ts:List eC}{a b c:ad}(ok:iY many ts)(pv:∀t∈ts,0<=t.2.2)(hl:ts.length<=1000)(ET:a.canLay0=true)(Nk:a.depth<=60)(hw:∀ds,c=.tuple ds->ds.length<4000):dU [d0 many ts,.tuple [a,b,c]] n Q X=Q (.bool (jF many ts (.tuple [a,b,c]))) n:=by
 have he:=(uA "odd" (!3) ET Nk).2
 have Y8:Bw (.tuple [b,c]):=by
  unfold Bw;split
  .rename_i x ds e
   injection e with e;injection e with _ e;injection e with e _;exact hw _ e
  .trivial
 have Ks:jF many ts (.tuple [a,b,c])=(gj "odd" a && DK ts c (il ts (.tuple [b,c]))):=by
  rw[Ni ok pv];cases b<;>cases c<;>first | rfl | (simp[jF])
 unfold dU iC;simp only[iX,g9,envOf,am,aX,aj,aG,Nat.reduceSub,Nat.reduceAdd,aF,aP,aI,az];with_reducible generalize ht:dv (eQ _ _ _) (dW _)=t
 rw[true_and,dv,eQ,dM,du,dh,dA];simp only[aa,ac];rw[dh,uC,dh,dA];simp only[aa,ac];rw[dm,rj (show je 2 (.tuple [a,b,c])=false from rfl),dD,if_neg (!2),d8];show t _ _ _=_;subst ht;with_reducible generalize ht:dW (ig _ _)=t
 rw[dv,eQ,lj,iu,dM,du,dh,dA];simp only[aa,ac];rw[dh,uC,dm,gg];rw[show je 3 (.tuple [a,b,c])=true from rfl,dD,bB,if_neg (!2),lj,dM,dB,dB,di];simp only[aa,ac];rw[uC,ee,eZ,dj,uC,he,dj,dD,Ks]
 cases gj "odd" a with
 | false=>rw[bw,if_pos rfl,if_pos trivial,bT,dW,uC]
 | true =>
  rw[bB,if_neg (!2),bE,iu,dM,du,dh,dA];simp only[aa,ac];rw[dh]
  have wQ:∀n Q,mE (di 1) (j2 (uC (.int 1))) ku [some (.s (d0 many ts)),some (.s (.tuple [a,b,c]))] n Q=Q (.tuple [b,c]) n:=λn Q=>by
   simp! [Et,kz _ 1 (!2)];rfl
  rw[wQ,dm,Bx _ _ _ Y8]
  cases hr:il ts (.tuple [b,c]) with
  | none =>
   dsimp only;rw[dD,bw,if_pos rfl,dW,uC];rfl
  | some r =>
   obtain⟨x,ns,ys⟩:=r;dsimp only [DK]
   cases hc:(decide (ys≠[]) && decide ns.Nodup) with
   | false=>rw[dD,bw,if_pos rfl,bT,dW,uC]
   | true =>
    rw[dD,bB,if_neg (!2),bE,d8];show t _ _ _=_;subst ht
    obtain⟨hcx,hnn⟩:c=dF ns/\ki ts ns:=by
     cases b with
     | int y =>
      cases c with
      | tuple ds =>
       simp only[il] at hr
       cases hw:jf ts y 0 ds with
       | inl j=>rw[hw] at hr;cases hr
       | inr zs =>
        obtain⟨_,ms,rfl,hm⟩:=mq hw;rw[hw] at hr;simp only[eh] at hr;split at hr
        .cases hr
         exact⟨rfl,hm⟩
        .cases hr
      | _=>cases hr
     | _=>cases hr
    subst hcx;rw[dW,ig,dB,dB,gM,dh,dB,di];simp only[aa,ac];rw[uC,ee,kg,dj,dm,dF];simp only[eB,dj,ah];rw[uC,qN (!2),dj,uC,fc,dj,dD];by_cases ho:ns.length % 2=1
    .rw[if_pos (decide_eq_true (!1)),decide_eq_true ho,bE,gM,dh,uL,ff,vx,dB,di]
     simp only[aa,ac];rw[uC,ee,kg,dj];simp only[jr,dj]
     rw[gX (λenv=>∃x,env=[x,some (.s (d0 many ts))]) ad.int (λj=>.bool (decide (0<tw ts j))) (λ_=>true) _ _ _ (λk hk env ⟨y,he⟩=>by
      subst he;have hm:=hnn k hk
      exact⟨[some (.s (.int k)),some (.s (d0 many ts))],⟨_,rfl⟩,λK=>by simp! [dv],λn Q=>by simp! [dv],λn Q=>by
       rw[d0];simp! [eW,rg hm];rw[eS];simp! [kg,CZ];rfl⟩) ⟨_,by simp! [dv];rfl⟩]
     rw[h8,az,dm,show (ns.map λj=>ad.bool (decide (0<tw ts j)))=(ns.map λj=>decide (0<tw ts j)).map .bool by rw[br];rfl];simp only[Jo,A1,bn,dj];rw[List.all_map];rfl
    .rw[if_neg (by rw[decide_eq_true_eq];omega),decide_eq_false ho,bT]
theorem Kt {many:Int}{ts:List eC}{d:ad}(ok:iY many ts)(hp:rf ts)(pv:∀t∈ts,0<=t.2.2)(hl:ts.length<=1000)(ET:d.canLay0=true)(Nk:d.depth<=60)(hw:Wl 1000 d):dU [d0 many ts,d] n Q X=Q (.bool (jF many ts d)) n:=by
 cases d with
 | tuple l =>
  have hw:=jh hw
  match l,ET,Nk,hw with
  | [],_,_,_=>exact uE rfl rfl
  | [a],_,_,_=>exact uE rfl rfl
  | [a,b],ET,Nk,_ =>
   simp only[ad.canLay0,ad.canLayAll0,aK] at ET;simp only[ad.depth,ad.depthAll] at Nk;exact Kr hp pv hl ET.1 (!1)
  | [a,b,c],ET,Nk,hw =>
   simp only[ad.canLay0,ad.canLayAll0,aK] at ET;simp only[ad.depth,ad.depthAll] at Nk
   exact DL ok pv hl ET.1 (!1) λds e=>by
    have:=hw.2 c (!4);rw[e] at this;have:=(jh this).1;omega
  | a::b::c::e::l,_,_,_ =>
   have h2:je 2 (.tuple (a::b::c::e::l))=false:=by unfold je;exact decide_eq_false (by simp only[aj];omega)
   have h3:je 3 (.tuple (a::b::c::e::l))=false:=by unfold je;exact decide_eq_false (by simp only[aj];omega)
   have e:jF many ts (.tuple (a::b::c::e::l))=false:=by cases b<;>cases c<;>rfl
   rw[e];exact uE h2 h3
 | _=>exact uE rfl rfl
end
theorem NI (t:eC):Et (eS t) none (some 2)=some (.tuple [.int t.1,.int t.2.1]):=by
 simp only[eS,Et,mP _ 2 (!2)];rfl
theorem Rl (bs:List Bool):inD (.bool false) (.list (bs.map .bool))=some (.bool (!bs.all id)):=by
 have hl:ad.canLayAll0 (bs.map .bool)=true:=by
  induction bs with
  | nil=>rfl
  | cons b bs ih=>simp only[am,ad.canLayAll0,ad.canLay0,ih,Bool.and_self]
 have he:((bs.map ad.bool).any λd=>ad.eqv d (.bool false))=!bs.all id:=by
  clear hl
  induction bs with
  | nil=>rfl
  | cons b bs ih=>rw[am,b4,ih,cy];cases b<;>simp[ad.eqv]
 simp only[inD,Ep];rw[if_pos ⟨rfl,hl,by simp[ad.depth]⟩,he];rfl
theorem BP {b:Int}:∀{ds:List ad},(ds.all (ip b))=true->∃l:List Int,ds=l.map .int/\∀k∈l,0<=k/\k<b
 | [],_=>⟨[],rfl,!4⟩
 | d::ds,h=>by
  rw[cy,aK] at h;obtain⟨l,rfl,hl⟩:=BP h.2
  cases d with
  | int i =>
   have hi:=of_decide_eq_true h.1;refine⟨i::l,rfl,λk hk=>?_⟩;rcases al.mp hk with rfl | hk
   .exact hi
   .exact hl k hk
  | _=>cases h.1
theorem wH {l:List Int}:kN l=l↔l.Pairwise (· < ·) :=
 ⟨λh=>h ▸ me l,λh=>Jn (me l) h λk=>ju⟩
noncomputable def Nl (many:Int)(ts:List eC)(b c:ad):Bool:=match b,c with | .int i,.tuple ds=>oZ many ts i ds | _,_=>false
section
variable {n:Int}{X:XQ}{Q:ad->Int->Prop}
theorem nu (d:ad)(b:Int):hZ [d,.int b] n Q X=Q (.bool (ip b d)) n:=by
 unfold hZ n6;simp only[iX,g9,envOf,am,aX,aj,aG,Nat.reduceSub,Nat.reduceAdd,aF,aP,aI,az]
 cases d with
 | int i =>
  simp! [jO,ip,Qu,RL];by_cases h:0<=i
  .simp[h]
  .simp[h]
 | bool b=>simp! [jO,ip]
 | _=>simp! [jO,ip];first | done | exact if_neg (λz=>by cases z) | rfl
theorem BQ {E:qD}{many:Int}{ts:List eC}{x2:Option nG}{d1:ad}{R:Prop}(ok:iY many ts)(hm:many<=1000)(hr:E.rt (.bool false) n=R)(K:Int->Prop)(hK:∀x4 y,E.nx [some (.s (d0 many ts)),some (.s d1),x2,some (.s (.int y)),x4] n=K y) :
  ∀(ds:List ad) (x:Int) (x4:Option nG),
  ix (gO 4) (dv (eQ (lj (iu (dM (du hZ (dh (dA 4) (dh (gM eB (dh (dB d7 (di 0) (uC (.int 1))) dm)) dm))))) (lj (dM (dB vp (di 3) (mE (dB d7 (dB d7 (di 0) (uC (.int 1))) (di 4)) ku (j2 (uC (.int 2)))))) (dM (dB l9 (dB d7 (dB d7 (dB d7 (di 0) (uC (.int 1))) (di 4)) (uC (.int 2))) (uC (.int 0)))))) (dW (uC (.bool false))) d8)
   (dS 3 (dB vn (gM o7 (dh (mE (dB d7 (dB d7 (di 0) (uC (.int 1))) (di 4)) ku (j2 (uC (.int 2)))) dm)) (di 3)))) E ds [some (.s (d0 many ts)),some (.s d1),x2,some (.s (.int x)),x4] n
   = (match ji ts x ds with | some y=>K y | none=>R)
 | [],x,x4=>hK x4 x
 | d::ds,x,x4=>by
  have e0:d0 many ts=.tuple [.int many,.tuple (ts.map eS)]:=rfl;rw[ix,gO];simp only[ar,ap];rw[dv,eQ,lj,iu,dM,du,dh,dA];simp only[aa,ac];rw[dh,gM,dh,dB,di];simp only[aa,ac];rw[uC,e0,ee,eW,dj,dm,<- e0];simp only[eB,dj,ah];rw[dm,nu,dD];by_cases hw:ip (ts.length:Nat) d=true
  .cases d with
   | int i =>
    have hi:=of_decide_eq_true hw;obtain⟨t,h1,h2,h3⟩:=lB (ts:=ts) hi.1 hi.2
    have wQ:∀n Q,mE (dB d7 (dB d7 (di 0) (uC (.int 1))) (di 4)) ku (j2 (uC (.int 2))) [some (.s (d0 many ts)),some (.s d1),x2,some (.s (.int x)),some (.s (.int i))] n Q=Q (.tuple ([t.1,t.2.1].map .int)) n:=λn Q=>by
     rw[e0];simp! [mE,dB,di,uC,ku,j2,eW,h3,NI]
    have Yq:∀n Q,dB d7 (dB d7 (dB d7 (di 0) (uC (.int 1))) (di 4)) (uC (.int 2)) [some (.s (d0 many ts)),some (.s d1),x2,some (.s (.int x)),some (.s (.int i))] n Q=Q (.int t.2.2) n:=λn Q=>by
     rw[e0];simp! [dB,di,uC,eW,h3];rw[eS];simp! [kg]
    have hs:gy ts x (.int i)=if x=t.1\/x=t.2.1 then some (fh t x) else none:=by
     simp only[gy,hi.1,if_true,h1]
    have hpc:Rk ts (.int i)=t.2.2:=by
     show (ts.getD i.toNat (0,0,0)).2.2=_;rw[ax,h1];rfl
    rw[hw,bB,if_neg (!2),lj,dM,dB,di];simp only[aa,ac];rw[wQ,vJ,dj,dD];simp only[ji,hs,hpc];by_cases hx:x=t.1\/x=t.2.1
    .have HU:x∈[t.1,t.2.1]:=by simpa using hx
     rw[decide_eq_true HU,bB,if_neg (!2),if_pos hx,dM,dB,Yq,uC,fc,dj,dD];dsimp only;by_cases hz:t.2.2=0
     .rw[if_pos (decide_eq_true hz),if_pos hz,dW,uC]
      exact hr
     .have Rm:o7 [.tuple ([t.1,t.2.1].map .int)]=some (.int (t.1+t.2.1)):=by
       have:=ok t h2;show vA [.list ([t.1,t.2.1].map .int)]=_;simp only[vA,eh,cb];rw[if_pos (λk hk=>by simp at hk;omega)];simp
      rw[if_neg (by simpa using hz),if_neg hz,d8];dsimp only;rw[dS,dB,gM,dh,wQ,dm,Rm,dj,di];simp only[aa,ac];rw[yE,dj];simp only[ar,ap]
      have ho:t.1+t.2.1 - x=fh t x:=by
       unfold fh;split<;>omega
      rw[ho];exact BQ ok hm hr K hK ds _ _
    .have HU:¬ x∈[t.1,t.2.1]:=by simpa using hx
     rw[decide_eq_false HU,bw,if_pos rfl,if_pos trivial,if_neg hx,dW,uC];exact hr
   | _=>cases hw
  .have hs:gy ts x d=none:=by
    cases e:gy ts x d with
    | none=>rfl
    | some y =>
     obtain⟨i,t,rfl,h0,h1,_⟩:=jE e;exact absurd (decide_eq_true ⟨h0,h1⟩) hw
   have hw:ip (ts.length:Nat) d=false:=by simpa using hw
   rw[hw,bw,if_pos rfl,if_pos trivial,dW,uC];simp only[ji,hs];exact hr
theorem GI {ns:List Int}:((jP ns).length:Int)=(ns.length:Int)↔ns.Nodup:=by
 have:=vg (hV ns) (λk=>gP (l:=ns));exact⟨λh=>this.mp (!1),λh=>by have:=this.mpr h;omega⟩
theorem BR {many:Int}{ts:List eC}{d:ad}(ok:iY many ts)(hm:many<=1000)(hl:ts.length<=1000)(ET:d.canLay0=true)(hw:Wl 60 d):iQ [d0 many ts,d] n Q X=Q (.bool (jF many ts d)) n:=by
 have e0:d0 many ts=.tuple [.int many,.tuple (ts.map eS)]:=rfl;have YK:d7 (d0 many ts) (.int 0)=some (.int many):=by rw[e0,ee,eZ]
 unfold iQ sh;simp only[iX,g9,envOf,am,aX,aj,aG,Nat.reduceSub,Nat.reduceAdd,aF,aP,aI,az];with_reducible generalize Yv:dv (dS 3 _) _=t4
 with_reducible generalize V4:dv (eQ (lj (dM (dB yg _ _)) _) _ _) t4=t3
 with_reducible generalize hhb:dv (dS 2 _) _=hb
 with_reducible generalize Ec:dv (eQ (mN _ _) _ _) t3=t2
 rw[true_and,dv,eQ,lj,iu,dM,kL,di];simp only[aa,ac]
 cases d with
 | tuple l =>
  rw[show jO "tuple" (.tuple l)=true from rfl,dD,bB,if_neg (!2),lj,dM,dB,gM,dh,di];simp only[aa,ac];rw[dm];simp only[eB,dj];rw[uC,fc,dj,dD]
  cases l with
  | nil=>rw[if_pos (!2),if_pos trivial,dW,uC];rfl
  | cons a l =>
   rw[if_neg (by rw[decide_eq_true_eq,aj];omega),iu,dM,kL,dB,di];simp only[aa,ac];rw[uC,ee,eZ,dj,dD];by_cases hs:∃x,a=.str x
   .obtain⟨x,rfl⟩:=hs
    have hlx:(ad.str x).canLay0=true:=by
     simp only[ad.canLay0,ad.canLayAll0,aK] at ET;exact ET.1
    have hE:=uA "halves" (!3) hlx (by simp[ad.depth]);have hO:=uA "odd" (!3) hlx (by simp[ad.depth]);have hho:¬ (("halves" : Str) = "odd"):=by decide +kernel
    rw[show jO "str" (.str x)=true from rfl,bB,if_neg (!2),d8];show t2 _ _ _=_
    have YL:(x ≠ "odd" \/ (l.length:Int)+1≠3)->t3 { nx:=λx n'=>Q ad.none n',rt:=Q } [some (.s (d0 many ts)),some (.s (.tuple (.str x::l))),none,none,none] n=Q (.bool false) n:=λh=>by
     subst V4;rw[dv,eQ,lj,dM,dB,dB,di];simp only[aa,ac];rw[uC,ee,eZ,dj,uC,hO.2,dj,dD];by_cases ho:x = "odd"
     .have hl3:(l.length:Int)+1≠3:=h.elim (λz=>absurd ho z) id
      have:gj "odd" (.str x)=true:=decide_eq_true ho;rw[this,bB,if_neg (!2),lj,dM,dB,gM,dh,di];simp only[aa,ac];rw[dm];simp only[eB,dj];rw[uC,zD,dj,dD,if_pos (by rw[aj];simpa using (show ¬ ((l.length+1:Nat):Int)=3 by omega)),if_pos trivial,dW,uC]
     .have:gj "odd" (.str x)=false:=decide_eq_false ho
      rw[this,bw,if_pos rfl,if_pos trivial,dW,uC]
    have to3:(x ≠ "halves" \/ (l.length:Int)+1≠2\/∀b ds,l=[b]->b≠.tuple ds)->t2 { nx:=λx n'=>Q ad.none n',rt:=Q } [some (.s (d0 many ts)),some (.s (.tuple (.str x::l))),none,none,none] n=t3 { nx:=λx n'=>Q ad.none n',rt:=Q } [some (.s (d0 many ts)),some (.s (.tuple (.str x::l))),none,none,none] n:=λh=>by
     subst Ec;rw[dv,eQ,mN,dM,dB,dB,di];simp only[aa,ac];rw[uC,ee,eZ,dj,uC,hE.1,dj,dD];by_cases hh:x = "halves"
     .have:gj "halves" (.str x)=true:=decide_eq_true hh
      rw[this,if_pos rfl,mN,dM,dB,gM,dh,di];simp only[aa,ac];rw[dm];simp only[eB,dj];rw[uC,fc,dj,dD];by_cases h2:(l.length:Int)+1=2
      .have:∃b,l=[b]:=by
        match l,h2 with
        | [b],_=>exact⟨b,rfl⟩
       obtain⟨b,rfl⟩:=this;rw[if_pos (by rw[decide_eq_true_eq];rfl),dM,kL,dB,di];simp only[aa,ac];rw[uC,ee,eW,dj,dD]
       have hb:jO "tuple" b=false:=by
        rcases h with h | h | h
        .exact absurd hh h
        .exact absurd h2 h
        .cases b<;>first | rfl | exact absurd rfl (h _ _ rfl)
       rw[hb,if_neg (!2),d8]
      .rw[if_neg (by rw[decide_eq_true_eq,aj];omega),if_neg (!2),d8]
     .have:gj "halves" (.str x)=false:=decide_eq_false hh
      rw[this,if_neg (!2),if_neg (!2),d8]
    by_cases hh:x = "halves"
    .have hO':x ≠ "odd" := λz=>hho (hh.symm.trans z)
     by_cases hb:∃ds,l=[.tuple ds]
     .obtain⟨ds,rfl⟩:=hb
      have RD:ds.length<=60:=by
       have:=(jh hw).2 (.tuple ds) (!4);exact (jh this).1
      have Vp:gj "halves" (.str x)=true:=decide_eq_true hh
      have Ks:jF many ts (.tuple [.str x,.tuple ds])=oB many ts ds:=by
       show (gj "halves" (.str x) && oB many ts ds)=_;rw[Vp,bE]
      subst Ec;rw[dv,eQ,mN,dM,dB,dB,di];simp only[aa,ac];rw[uC,ee,eZ,dj,uC,hE.1,dj,dD,Vp,if_pos rfl,mN,dM,dB,gM,dh,di];simp only[aa,ac];rw[dm];simp only[eB,dj];rw[uC,fc,dj,dD,if_pos (by rw[decide_eq_true_eq];rfl),dM,kL,dB,di];simp only[aa,ac];rw[uC,ee,eW,dj,dD,show jO "tuple" (.tuple ds)=true from rfl,if_pos rfl];subst hhb;with_reducible generalize kh:dW (dB l9 (uL _) (uL dm))=last
      rw[dv,dS,dB,di];simp only[aa,ac];rw[uC,ee,eW,dj];simp only[ar,ap];rw[dv,eQ,lj,dM,dB,uC,uL,ff,vx,di];simp only[aa,ac,jr,dj,vy,am,aX,Option.join_some]
      rw[comp_map (λd=>.bool (ip many d)) _ _ _ _ (λd _ n Q=>by
       rw[e0];simp only[du,dh,dA,uC,dm,dB,di,ee,eZ,dj,ap,aa,ac];exact nu d many),az]
      rw[show (ds.map λd=>ad.bool (ip many d))=(ds.map (ip many)).map .bool by rw[br];rfl,Rl,dj,dD,show (ds.map (ip many)).all id=ds.all (ip many) by rw[List.all_map];rfl,Ks];by_cases ha:ds.all (ip many)=true
      .obtain⟨side,rfl,EU⟩:=BP ha
       rw[ah] at RD;rw[ha,bB,if_neg (!2),dM,dB,uL,rV,di];simp only[aa,ac,jr,dj,eh];have RB:side.length<64:=by omega
       simp only[RB,true_and];rw[uL,yj,di];simp only[aa,ac,jr,dj];rw[yn,dj,dD];unfold oB;simp only[eh];by_cases hu:kN side=side
       .have hpw:=wH.mp hu
        have Rn:fD many (.tuple (side.map .int))=true:=DH hpw EU;rw[decide_eq_true hu,bB,if_neg (!2),Rn,bE,d8];show last _ _ _=_;subst kh;rw[dW,dB,uL,ff,vx,dB,di];simp only[aa,ac];rw[uC,e0,ee,eW,dj];simp only[jr,dj]
        rw[gX (λenv=>∃x,env=[x,some (.s (.tuple (side.map .int)))]) eS eS (λt=>decide (0<t.2.2) && (decide (t.1∈side) == decide (t.2.1∈side))) ts _ _ (λt _ env ⟨x,he⟩=>by
         subst he;refine⟨[some (.s (eS t)),some (.s (.tuple (side.map .int)))],⟨_,rfl⟩,λK=>by simp! [dv],λn Q=>?_,λn Q=>by simp! [dv]⟩;rw[mN,dM,dB,dB,di];simp only[aa,ac];rw[uC,eS,ee,kg,dj,uC];simp only[CZ,dj,dD];by_cases h0:0<t.2.2
         .rw[if_pos (decide_eq_true h0),decide_eq_true h0,bE,dM,dB,dB,dB,di]
          simp only[aa,ac];rw[uC,ee,eZ,dj,di];simp only[aa,ac];rw[ky,dj,dB,dB,di];simp only[aa,ac];rw[uC,ee,eW,dj,di];simp only[aa,ac];rw[ky,dj,Jw,dj,dD]
         .rw[if_neg (by simpa using h0),decide_eq_false h0,bT]) ⟨_,by simp! [dv];rfl⟩]
        rw[az,uL,dm,vG (JZ _) rfl (J1 _),dj];unfold uB;rw[ad.eqv,MP];cases ts.filter λt=>decide (0<t.2.2) && (decide (t.1∈side) == decide (t.2.1∈side))<;>rfl
       .have Rn:fD many (.tuple (side.map .int))=false:=by
         cases e:fD many (.tuple (side.map .int)) with
         | false=>rfl
         | true =>
          obtain⟨l,e1,e2,_⟩:=wG e;have e1:ad.tuple (side.map .int)=.tuple (l.map .int):=e1;injection e1 with e1;have:=congrArg eV e1;simp only[eh,Option.some.injEq] at this;subst this;exact absurd (wH.mpr e2) hu
        rw[decide_eq_false hu,bw,if_pos rfl,Rn,bT,dW,uC]
      .have hf:oB many ts ds=false:=by
        unfold oB
        cases e:eV ds with
        | none=>rfl
        | some l =>
         have:=gC e;subst this;dsimp only
         cases e2:fD many (.tuple (l.map .int)) with
         | false=>rfl
         | true =>
          obtain⟨m,e1,_,e3⟩:=wG e2;have e1:ad.tuple (l.map .int)=.tuple (m.map .int):=e1;injection e1 with e1;have:=congrArg eV e1;simp only[eh,Option.some.injEq] at this;subst this;refine absurd ?_ ha;rw[List.all_map,ca];exact λk hk=>decide_eq_true (e3 k hk)
       have ha:ds.all (ip many)=false:=by simpa using ha
       rw[ha,bw,if_pos rfl,if_pos trivial,hf,dW,uC]
     .rw[to3 (.inr (.inr λb ds e z=>hb ⟨ds,by rw[e,z]⟩)),YL (.inl hO')]
      have h3:jF many ts (.tuple (.str x::l))=false:=by
       unfold jF;split
       .rename_i e;injection e with e;injection e with _ e;exact absurd ⟨_,e⟩ hb
       .rename_i e;injection e with e;injection e with e1 _;subst e1;simp[gj,hO']
       .rfl
      rw[h3]
    .rw[to3 (.inl hh)]
     by_cases ho:x = "odd"
     .by_cases h3:∃b c,l=[b,c]
      .obtain⟨b,c,rfl⟩:=h3
       have Vp:gj "odd" (.str x)=true:=decide_eq_true ho
       have Ks:jF many ts (.tuple [.str x,b,c])=Nl many ts b c:=by
        cases b<;>cases c<;>first | rfl | (simp[jF,Nl,Vp])
       rw[Ks];subst V4;rw[dv,eQ,lj,dM,dB,dB,di];simp only[aa,ac];rw[uC,ee,eZ,dj,uC,hO.2,dj,dD,Vp,bB,if_neg (!2),lj,dM,dB,gM,dh,di];simp only[aa,ac];rw[dm];simp only[eB,dj];rw[uC,zD,dj,dD,if_neg (!4),lj,iu,dM,du,dh,dB,di];simp only[aa,ac];rw[uC,ee,eW,dj,dh,dB,di];simp only[aa,ac];rw[uC,YK,dj,dm,nu,dD];by_cases Ro:ip many b=true
       .cases b with
        | int i =>
         have hi:0<=i/\i<many:=of_decide_eq_true Ro;rw[Ro,bB,if_neg (!2),iu,dM,kL,dB,di];simp only[aa,ac];rw[uC,ee,kg,dj,dD]
         cases c with
         | tuple ds =>
          have RD:ds.length<=60:=(jh ((jh hw).2 (.tuple ds) (!4))).1;rw[show jO "tuple" (.tuple ds)=true from rfl,bB,if_neg (!2),d8];show t4 _ _ _=_;subst Yv;rw[dv,dS,dB,di];simp only[aa,ac];rw[uC,ee,eW,dj];simp only[ar,ap];rw[dv,kJ,Jd,dB,di];simp only[aa,ac];rw[uC,ee,kg,dj];simp only[jr,dj]
          rw[BQ (R:=Q (.bool false) n) ok hm rfl (λy=>if y=i then (if ds.length % 2=1 then mD (eV ds) λns=>ns.length<4000/\Q (.bool (decide (((jP ns).length:Int)=(ds.length:Int)))) n else Q (.bool false) n) else Q (.bool false) n) (λx4 y=>by
           dsimp only;rw[dW,ig,dB,di];simp only[aa,ac];rw[dB,di];simp only[aa,ac];rw[uC,ee,eW,dj,fc,dj,dD];by_cases hy:y=i
           .rw[if_pos (decide_eq_true hy),if_pos hy,ig,dB,dB,gM,dh,dB,di]
            simp only[aa,ac];rw[uC,ee,kg,dj,dm];simp only[eB,dj];rw[uC,qN (!2),dj,uC,fc,dj,dD];by_cases sV:ds.length % 2=1
            .rw[if_pos (decide_eq_true (!1)),if_pos sV,dB,qL,dB,di]
             simp only[aa,ac];rw[uC,ee,kg,dj];simp only[jr,dj];congr 1;funext ns;rw[gM,dh,dB,di];simp only[aa,ac];rw[uC,ee,kg,dj,dm];simp only[eB,dj];rw[fc,dj]
            .rw[if_neg (by rw[decide_eq_true_eq];omega),if_neg sV]
           .rw[if_neg (by simpa using hy),if_neg hy])]
          rw[show Nl many ts (.int i) (.tuple ds)=oZ many ts i ds from rfl];unfold oZ;rw[decide_eq_true hi,bE]
          cases V8:ji ts i ds with
          | none=>rfl
          | some y =>
           obtain⟨ns,_,rfl,_⟩:=uD 0 V8;rw[ah] at RD ⊢;dsimp only;unfold wD;simp only[eh,dj,ah];by_cases hy:y=i
           .by_cases sV:ns.length % 2=1
            .have h4:ns.length<4000:=by omega
             rw[if_pos hy,if_pos sV,decide_eq_true hy,decide_eq_true sV,bE,bE];simp only[h4,true_and,GI]
            .rw[if_pos hy,if_neg sV,decide_eq_false sV,bT,Bool.and_false]
           .rw[if_neg hy,decide_eq_false hy,bT]
         | _=>rw[show jO "tuple" _=false from rfl,bw,if_pos rfl,dW,uC];rfl
        | _=>cases Ro
       .have hf:Nl many ts b c=false:=by
         cases b with
         | int i =>
          cases c with
          | tuple ds =>
           have:¬ (0<=i/\i<many):=λz=>Ro (decide_eq_true z);show oZ many ts i ds=false;unfold oZ;rw[decide_eq_false this,bT]
          | _=>rfl
         | _=>rfl
        have Ro:ip many b=false:=by simpa using Ro
        rw[Ro,bw,if_pos rfl,if_pos trivial,dW,uC,hf]
      .rw[YL (.inr λz=>h3 (by
        match l,z with
        | [b,c],_=>exact⟨b,c,rfl⟩))]
       have hf:jF many ts (.tuple (.str x::l))=false:=by
        unfold jF;split
        .rename_i e;injection e with e;injection e with e1 _;subst e1;simp[gj,hh]
        .rename_i e;injection e with e;injection e with _ e;exact absurd ⟨_,_,e⟩ h3
        .rfl
       rw[hf]
     .rw[YL (.inl ho)]
      have h3:jF many ts (.tuple (.str x::l))=false:=by
       unfold jF;split
       .rename_i e;injection e with e;injection e with e1 _;subst e1;simp[gj,hh]
       .rename_i e;injection e with e;injection e with e1 _;subst e1;simp[gj,ho]
       .rfl
      rw[h3]
   .have h1:jO "str" a=false:=by cases a<;>first | rfl | exact absurd ⟨_,rfl⟩ hs
    have h2:∀w,gj w a=false:=λw=>by cases a<;>first | rfl | exact absurd ⟨_,rfl⟩ hs
    have h3:jF many ts (.tuple (a::l))=false:=by
     unfold jF;split
     .rename_i e;injection e with e;injection e with e1 _;subst e1;simp[h2]
     .rename_i e;injection e with e;injection e with e1 _;subst e1;simp[h2]
     .rfl
    rw[h1,bw,if_pos rfl,dW,uC,h3]
 | _=>rw[dD,show jO "tuple" _=false from rfl,bw,if_pos rfl,if_pos trivial,dW,uC];rfl
end
structure p7 (k:Nat) (z:Str):Prop where
 ok:∀c∈z.cps.toList,c<1114112
 len:z.cps.size<=k
theorem p7.mono {k l:Nat}{z:Str}(h:p7 k z)(hl:k<=l):p7 l z:=⟨h.ok,aL h.len hl⟩
theorem p7.fits {k:Nat}{z:Str}(h:p7 k z)(hk:k<=1000):z.length<=av:=by
 have:=h.len;have hsz:av=16777216:=by decide
 show z.cps.size<=_;omega
theorem p7.slice {k:Nat}{z:Str}(h:p7 k z)(lo hi:Option Int):p7 k (Txt.slice z lo hi):=by
 refine⟨λc hc=>?_,aL (Txt.slice_le z lo hi) h.len⟩;unfold Txt.slice at hc;split at hc
 .exact h.ok c hc
 .have hc:c∈(Builtin.Str.strSliceIndices lo hi 1 z.length).filterMap (z.cps[·]?):=by simpa using hc
  obtain⟨i,_,hi⟩:=cp.mp hc;exact h.ok c (Array.mem_toList_iff.mpr (Array.mem_of_getElem? hi))
theorem Ku (z:Str)(lo hi:Option Int):(Txt.slice z lo hi).cps.size<=(Builtin.Str.strSliceIndices lo hi 1 z.length).length:=by
 unfold Txt.slice;split
 .rename_i h
  rw[aK,beq_iff_eq,beq_iff_eq] at h;rw[h.2];exact ag _
 .rw[aC]
  exact List.length_filterMap_le _ _
theorem p7.lo {k:Nat}{z:Str}(h:p7 k z){i:Int}(i0:0<=i):p7 i.toNat (Txt.slice z none (some i)):=by
 refine⟨(h.slice _ _).ok,aL (Ku _ _ _) ?_⟩;unfold Builtin.Str.strSliceIndices sliceRange;simp only[ah,ck,show (1:Int) > 0 by decide,if_true,cY];split<;>(try split)<;>omega
theorem p7.hi {k:Nat}{z:Str}(h:p7 k z){i:Int}(i0:0<=i):p7 (k - i.toNat) (Txt.slice z (some i) none):=by
 refine⟨(h.slice _ _).ok,aL (Ku _ _ _) ?_⟩;have:z.length<=k:=h.len;unfold Builtin.Str.strSliceIndices sliceRange;simp only[ah,ck,show (1:Int) > 0 by decide,if_true,cY];split<;>(try split)<;>omega
theorem p7.rev {k:Nat}{z:Str}(h:p7 k z):p7 k (pB z):=⟨λc hc=>h.ok c (Dd hc),aL (yq z) h.len⟩
theorem p7.app {k l:Nat}{y z:Str}(h:p7 k y)(g:p7 l z):p7 (k+l) (y++z):=by
 have e:(y++z).cps=y.cps++z.cps:=rfl;refine⟨λc hc=>?_,?_⟩
 .rw[e,Array.toList_append] at hc
  exact (aH.mp hc).elim (h.ok c) (g.ok c)
 .rw[e,Array.size_append]
  have:=h.len;have:=g.len;omega
theorem DM {k l:Nat}{y z:Str}(h:p7 k y)(g:p7 l z)(hk:k+l<=1000):fw (.str y) (.str z)=some (.str (y++z)):=by
 have hsz:av=16777216:=by decide
 have h1:y.length<=k:=h.len;have h2:z.length<=l:=g.len;simp only[fw];rw[if_pos (!1)]
theorem p7.bd {z:Str}(h:p7 11 z){B k:Nat}:Bd B 11 0 k (.str z):=Vm (by
 rw[aK,ca];exact⟨λc hc=>decide_eq_true (h.ok c hc),decide_eq_true h.len⟩)
section
variable {n:Int}{X:XQ}{Q:ad->Int->Prop}
theorem tQ {z:Str}(h:p7 6 z)(h0:0<z.length)(hn:n+3<=jQ)(hq:∀y,p7 11 y->Q (.str y) (n+3)):jd [.str z] n Q X:=by
 have hf:=h.fits (!2);have hz:(z.length:Int)<=6:=by have:z.length<=6:=h.len;omega
 have hs:p7 32 ("abcdefghijklmnopqrstuvwxyzADHO _" : Str):=⟨!3,!3⟩;have wQ:("abcdefghijklmnopqrstuvwxyzADHO _" : Str).length=32:=by decide +kernel
 unfold jd kW;simp only[iX,g9,envOf,am,aX,aj,aG,Nat.reduceSub,Nat.reduceAdd,aF,aP,aI,az];with_reducible generalize ht:dW (dB d7 _ _)=t
 with_reducible generalize hr:dv (dS 5 _) t=r
 rw[true_and,dv,dS,du,dh,gM,dh,di];simp only[aa,ac];rw[dm];simp only[yp,hf,if_true,dj];rw[dm];refine fC (!1) (!1) (!1) λi i0 i1=>?_;simp only[ar,ap];rw[dv,dS,uC];simp only[ar,ap];rw[dv,dS,QR,di];simp only[aa,ac];rw[du,dh,gM,dh,di];simp only[aa,ac];rw[dm];simp only[yp,hs.fits (!2),if_true,dj];rw[dm];refine fC (by rw[wQ];decide) (by rw[wQ];decide) (!1) λj j0 j1=>?_;obtain⟨c,hc,hm⟩:=iy (xs:=("abcdefghijklmnopqrstuvwxyzADHO _" : Str).cps.toList) j0 (by rw[bp];exact j1);refine⟨_,⟨_,_,c,rfl,rfl,hs.fits (!2),hc,rfl⟩,?_⟩
 have hC:p7 1 (⟨#[c]⟩:Str):=⟨λd hd=>by
  have:d=c:=by simpa using hd
  rw[this];exact hs.ok c hm,!4⟩
 generalize (⟨#[c]⟩:Str)=s at hC;simp only[ar,ap]
 have hS:∀(e:eU) (ul uh:UO) (n:Int) (Q:ad->Int->Prop) (lo hi:Option Int),e[1]? = some (some (.s (.str z)))->(∀n Q,ul e n Q=Q lo n)->(∀n Q,uh e n Q=Q hi n)->Q (.str (Txt.slice z lo hi)) n->vL (di 1) ul uh e n Q:=λe ul uh n Q lo hi he h1 h2 hq=>by
  rw[vL,di];simp only[he];rw[h1,h2];exact⟨z,rfl,hf,hq⟩
 have a1:∀(e:eU) (n:Int) (Q:Option Int->Int->Prop),e[2]? = some (some (.s (.int i)))->j2 (dA 2) e n Q=Q (some i) n:=λe n Q he=>by
  simp only[j2,dA,he]
 have a2:∀(e:eU) (n:Int) (Q:Option Int->Int->Prop),e[2]? = some (some (.s (.int i)))->j2 (dB fw (di 2) (uC (.int 1))) e n Q=Q (some (i+1)) n:=λe n Q he=>by
  simp only[j2,dB,di,uC,he,qX,dj]
 have a0:∀(e:eU) (n:Int) (Q:Option Int->Int->Prop),ku e n Q=Q none n:=λe n Q=>rfl;have p1:=h.lo i0;have p2:=h.hi i0;have p3:=h.hi (i:=i+1) (!1);subst hr;rw[dv,dS,uL,dh,dB,dB];refine hS _ _ _ _ _ none (some i) rfl (λn Q=>a0 _ n Q) (λn Q=>a1 _ n Q rfl) ?_;rw[di];simp only[aa,ac];rw[DM p1 hC (!1),dj];refine hS _ _ _ _ _ (some i) none rfl (λn Q=>a1 _ n Q rfl) (λn Q=>a0 _ n Q) ?_;rw[DM (p1.app hC) p2 (!1),dj,dh,dB,di];simp only[aa,ac];rw[di];simp only[aa,ac];rw[DM h hC (!2),dj,dh,dB];refine hS _ _ _ _ _ none (some i) rfl (λn Q=>a0 _ n Q) (λn Q=>a1 _ n Q rfl) ?_;refine hS _ _ _ _ _ (some (i+1)) none rfl (λn Q=>a2 _ n Q rfl) (λn Q=>a0 _ n Q) ?_;rw[DM p1 p3 (!1),dj,dh,dB,dB];refine hS _ _ _ _ _ none (some i) rfl (λn Q=>a0 _ n Q) (λn Q=>a1 _ n Q rfl) ?_;rw[di];simp only[aa,ac];rw[DM p1 hC (!1),dj];refine hS _ _ _ _ _ (some (i+1)) none rfl (λn Q=>a2 _ n Q rfl) (λn Q=>a0 _ n Q) ?_;rw[DM (p1.app hC) p3 (!1),dj,dm];simp only[ar,ap];subst ht;have Vq:∀xs ys:List ad,xs.length+ys.length<=100->fw (.list xs) (.list ys)=some (.list (xs++ys)):=λxs ys hl=>rX (!1);rw[dW,dB,dB,di];simp only[aa,ac];rw[uL,dh,dB];refine hS _ _ _ _ _ (some i) none rfl (λn Q=>a1 _ n Q rfl) (λn Q=>a0 _ n Q) ?_;refine hS _ _ _ _ _ none (some i) rfl (λn Q=>a0 _ n Q) (λn Q=>a1 _ n Q rfl) ?_;rw[DM p2 p1 (!1),dj,dh,JJ,di];simp only[aa,ac];refine⟨z,rfl,hf,?_⟩;rw[dm,Vq _ _ (!4),dj,du,dh,uC,dm];refine fC (!2) (!2) (!1) λg g0 g1=>?_;obtain⟨d,hd,YH⟩:=iy (xs:=[ad.str (Txt.slice z none (some i)++s++Txt.slice z (some i) none),.str (z++s),.str (Txt.slice z none (some i)++Txt.slice z (some (i+1)) none),.str (Txt.slice z none (some i)++s++Txt.slice z (some (i+1)) none)]++[.str (Txt.slice z (some i) none++Txt.slice z none (some i)),.str (pB z)]) g0 (by simpa using g1);rw[lr,hd,dj];have e3:n+1+1+1=n+3:=by omega
 rw[e3];simp only[aI,az,al,aM,or_false] at YH;rcases YH with rfl | rfl | rfl | rfl | rfl | rfl
 .exact hq _ (((p1.app hC).app p2).mono (!1))
 .exact hq _ ((h.app hC).mono (!1))
 .exact hq _ ((p1.app p3).mono (!1))
 .exact hq _ (((p1.app hC).app p3).mono (!1))
 .exact hq _ ((p2.app p1).mono (!1))
 .exact hq _ (h.rev.mono (!1))
end
section
variable {n:Int}{X:XQ}{Q:ad->Int->Prop}
theorem BS {many:Int}{ts:List eC}(m0:1<=many)(m1:many<=9)(ok:iY many ts)(hl:ts.length<=100)(hn:n+20<=jQ)(hq:∀(x:Int) (row:List Int) (n':Int),0<=x->x<many->ki ts row->row.length<=7->n<=n'->n'<=n+20->Q (.tuple [.str "odd",.int x,dF row]) n'):kU [d0 many ts] n Q X:=by
 have e0:d0 many ts=.tuple [.int many,.tuple (ts.map eS)]:=rfl;have YK:d7 (d0 many ts) (.int 0)=some (.int many):=by rw[e0,ee,eZ]
 have Vj:d7 (d0 many ts) (.int 1)=some (.tuple (ts.map eS)):=by rw[e0,ee,eW]
 unfold kU pM;simp only[iX,g9,envOf,am,aX,aj,aG,Nat.reduceSub,Nat.reduceAdd,aF,aP,aI,az];with_reducible generalize ht:dW (eG _)=t
 with_reducible generalize hb:dv (dS 7 _) _=b
 rw[true_and,dv,dS,dB,du,dh,uC,dm];refine fC (!2) (!2) (!1) λr r0 r1=>?_;rw[uC,fc,dj];generalize decide (r=0)=on;simp only[ar,ap];rw[dv,dS,du,dh,dB,di];simp only[aa,ac];rw[uC,YK,dj,dm];refine fC (!1) (!1) (!1) λx x0 x1=>?_;simp only[ar,ap];rw[dv,dS,dA];simp only[aa,ac,ar,ap];rw[dv,dS,eG,dm];simp only[ar,ap];rw[dv,kJ,MK,dB,uC,du,dh,uC,dm];refine fC (!2) (!2) (!1) λc c0 c1=>?_;rw[qX,dj];refine⟨!1,!1,?_⟩;have YM:ki ts []:=λk hk=>(by cases hk);refine kP (λpre post env n'=>(n+3<=n'/\n'<=n+3+pre.length/\pre.length+post.length=(1+c).toNat)/\∃(here:Int) (row:List Int) (x6 x7:Option nG),env=[none,some (.s (d0 many ts)),some (.s (.bool on)),some (.s (.int x)),some (.s (.int here)),some (.s (dF row)),x6,x7]/\ki ts row/\row.length<=pre.length) _ [] _ _ ?_ ⟨⟨!1,by simp;omega,by rw[i9,ah,e9];simp⟩,x,[],none,none,rfl,YM,ag _⟩ ?_
 .rintro pre d post env n' E' hE ⟨⟨Oe,Ld,hp⟩,here,row,x6,x7,rfl,tR,Hi⟩ Gs
  rw[aj] at hp;rw[gO];simp only[ar,ap];subst hb;with_reducible generalize hif:eQ _ _ _=qa
  rw[dv,dS,uL,ff,FT,gM,dh,dB,di];simp only[aa,ac];rw[uC,Vj,dj,dm];simp only[eB,dj,ah];refine⟨⟨!1,!1⟩,?_⟩;rw[bj,i9]
  rw[gX (λenv=>∃z,env=[z,some (.s (.int here)),some (.s (d0 many ts))]) ad.int ad.int (λk=>decide (here∈[(fm ts k).1,(fm ts k).2.1])) _ _ _ (λk hk env ⟨z,he⟩=>by
   subst he;have hk:=e8.mp hk;have ha:lV (ts.map eS) k=some (eS (fm ts k)):=rg (!1)
   exact⟨[some (.s (.int k)),some (.s (.int here)),some (.s (d0 many ts))],⟨_,rfl⟩,λK=>by simp! [dv],λn Q=>by
    simp! [dM,dB,di,uC,mE,ku,j2,Vj,ha,NI];rw[show ad.tuple [.int (fm ts k).1,.int (fm ts k).2.1]=.tuple ([(fm ts k).1,(fm ts k).2.1].map .int) from rfl,ky,dj,dD],λn Q=>by simp! [dv]⟩) ⟨_,by simp! [dv];rfl⟩]
  rw[az];generalize SY:(fS 0 ts.length).filter (λk=>decide (here∈[(fm ts k).1,(fm ts k).2.1]))=ns
  have hnk:∀k∈ns,0<=k/\k<(ts.length:Int):=λk hk=>by
   rw[<- SY] at hk;have:=e8.mp (aJ.mp hk).1;omega
  have Yf:ns.length<=100:=by
   rw[<- SY];have:=bN (λk=>decide (here∈[(fm ts k).1,(fm ts k).2.1])) (fS 0 ts.length);rw[e9] at this;omega
  simp only[ar,ap]
  have skip:E'.nx [none,some (.s (d0 many ts)),some (.s (.bool on)),some (.s (.int x)),some (.s (.int here)),some (.s (dF row)),some (.s d),some (.s (.list (ns.map .int)))] n' :=
   Gs _ _ ⟨⟨!1,by rw[au,aT];omega,by rw[au,aT];omega⟩,here,row,_,_,rfl,tR,by rw[au];omega⟩
  subst hif;with_reducible generalize V6:dv (dS 5 _) _=go
  have take:ns≠[]->go E' [none,some (.s (d0 many ts)),some (.s (.bool on)),some (.s (.int x)),some (.s (.int here)),some (.s (dF row)),some (.s d),some (.s (.list (ns.map .int)))] n':=λg6=>by
   have AH:0<ns.length:=cI.mpr g6;subst V6;rw[dv,dS,dB,di];simp only[aa,ac];rw[eG,dh,dB,di];simp only[aa,ac];rw[du,dh,gM,dh,di];simp only[aa,ac];rw[dm];simp only[eB,dj,ah];rw[dm];refine fC (!1) (!1) (!1) λg g0 g1=>?_;obtain⟨k,hk,Ym⟩:=iy (xs:=ns) g0 g1
   have K3:lV (ns.map ad.int) g=some (.int k):=by
    have h1:=lH (xs:=ns) g0 (!1);have h2:=lH (xs:=ns.map ad.int) g0 (by rw[ah];omega);rw[h2,aB,<- h1,hk];rfl
   have YN:=hnk k Ym;have ha:lV (ts.map eS) k=some (eS (fm ts k)):=rg YN;rw[lr,K3,dj,dm]
   have Kv:fw (dF row) (.tuple [.int k])=some (dF (row++[k])):=by
    simp only[fw,dF];rw[if_pos (by rw[ah,show av=16777216 by decide];simp;omega),bc];rfl
   rw[Kv,dj];simp only[ar,ap]
   have hsG:∀t∈ts,o7 [.tuple [.int t.1,.int t.2.1]]=some (.int (t.1+t.2.1)):=λt ht=>by
    have:=ok t ht;show vA [.list ([t.1,t.2.1].map .int)]=_;simp only[vA,eh,cb];rw[if_pos (λk hk=>by simp at hk;omega)];simp
   have Rm:=hsG _ (j8 YN);have kh:lV ((row++[k]).map ad.int) (-1)=some (.int k):=um (by rw[c7];simp);rw[dS,dB,gM,dh]
   have wQ:∀(e:eU) (n:Int) (Q:ad->Int->Prop),e[1]? = some (some (.s (d0 many ts)))->e[5]? = some (some (.s (dF (row++[k]))))->mE (dB d7 (dB d7 (di 1) (uC (.int 1))) (dB d7 (di 5) (vm iK (uC (.int 1))))) ku (j2 (uC (.int 2))) e n Q=Q (.tuple [.int (fm ts k).1,.int (fm ts k).2.1]) n:=λe n Q h1 h5=>by
    simp only[mE,dB,di,uC,ku,j2,vm,h1,h5,Vj,iK,dj];rw[dF,ee,kh,dj,ee,ha,dj,NI,dj]
   rw[wQ _ _ _ rfl rfl,dm,Rm,dj,di];simp only[aa,ac];rw[yE,dj];simp only[ar,ap];refine Gs _ _ ⟨⟨!1,by rw[au,aT];omega,by rw[au,aT];omega⟩,_,row++[k],_,_,rfl,λj hj=>?_,by rw[au,au];simp;omega⟩;rcases aH.mp hj with hj | hj
   .exact tR j hj
   .rw[ay.mp hj];exact YN
  rw[eQ,mN,dM,dB,di];simp only[aa,ac];rw[uL,dm,Jz,dj,dD];by_cases g6:ns=[]
  .rw[decide_eq_true g6,bB,if_neg (!2),if_neg (!2),d8]
   exact skip
  .rw[decide_eq_false g6,bw,if_pos rfl,lj,dM,dA]
   simp only[aa,ac];rw[dD]
   cases on with
   | true=>rw[if_pos rfl,if_pos trivial];exact take g6
   | false =>
    rw[if_neg (!2),lj,dM,dB,di];simp only[aa,ac];rw[eG,dm,show l9 (dF row) (.tuple [])=some (.bool (decide (row=[]))) from FY (ms:=[]),dj,dD];by_cases hr:row=[]
    .rw[if_pos (decide_eq_true hr),if_pos trivial];exact take g6
    .rw[if_neg (by simpa using hr),dM,dB,di]
     simp only[aa,ac];rw[di];simp only[aa,ac];rw[zD,dj,dD];split
     .exact take g6
     .rw[d8];exact skip
 .rintro pre env n' ⟨⟨Oe,Ld,hp⟩,here,row,x6,x7,rfl,tR,Hi⟩
  rw[aG] at hp;show t _ _ _;subst ht;rw[dW,eG,dh,uC,dh,dA];simp only[aa,ac];rw[dh,dA];simp only[aa,ac];rw[dm];exact hq x row n' x0 x1 tR (!1) (!1) (!1)
end
theorem nv {l:List Int}(hl:l.length<=16)(h:∀i∈l,i.natAbs<1024):Bd 1023 176 1 16 (dF l):=by
 refine⟨(Sz.tup (gR.ints (ag _) h)).mono (ag _) (ag _) (!1) (!1),ka (by rw[ah];exact hl) λd hd=>?_⟩;obtain⟨i,_,rfl⟩:=bg.mp hd;trivial
theorem Kw {x:Int}{l:List Int}(hx:x.natAbs<1024)(hl:l.length<=16)(h:∀i∈l,i.natAbs<1024):Bd 1023 400 2 16 (.tuple [.str "odd",.int x,dF l]) :=
 ⟨(Sz.tup (gR.cons (Sz.str (L:=11) (!3)) (gR.cons (Sz.small hx (ag _)) (gR.cons (nv hl h).sz gR.nil)))).mono (ag _) (ag _) (!2) (!2),ka (!4) λd hd=>by
  simp only[al,aM,or_false] at hd;rcases hd with rfl | rfl | rfl
  .trivial
  .trivial
  .exact (nv hl h).wl⟩
section
variable {n:Int}{X:XQ}{Q:ad->Int->Prop}
theorem zU {B w p k:Nat}{many:Int}{ts:List eC}{d:ad}(ok:iY many ts)(hp:rf ts)(pv:∀t∈ts,0<=t.2.2)(hl:ts.length<=1000)(hd:Bd B w p k d)(h1:p<=60)(h2:k<=1000):dU [d0 many ts,d] n Q X=Q (.bool (jF many ts d)) n :=
 Kt ok hp pv hl hd.sz.lay (aL hd.sz.dp h1) (lD h2 d hd.wl)
theorem Kx {B w p k:Nat}{many:Int}{ts:List eC}{d:ad}(ok:iY many ts)(hm:many<=1000)(hl:ts.length<=1000)(hd:Bd B w p k d)(h2:k<=60):iQ [d0 many ts,d] n Q X=Q (.bool (jF many ts d)) n :=
 BR ok hm hl hd.sz.lay (lD h2 d hd.wl)
end
noncomputable def B6 (p:Int):List eC:=[(0,1,p),(0,1,1),(0,2,p),(0,3,2),(2,3,1)]
noncomputable def BU:List (List Int):=[[0,1,2,4,3],[3,4,2,1,0],[2,4,3,0,1]]
theorem Nm (many:Int)(ts:List eC)(x:Int)(l:List Int):jF many ts (.tuple [.str "odd",.int x,dF l])=oZ many ts x (l.map .int):=by
 show (gj "odd" (.str "odd") && oZ many ts x (l.map .int))=_;rw[show gj "odd" (.str "odd")=true by (simp[gj]),bE]
theorem Ky {p:Int}(h:p≠0):∀r∈BU,oZ 4 (B6 p) 0 (r.map .int)=true/\oZ 4 (B6 p) 0 ((r.take 2).map .int)=false/\oZ 4 (B6 p) 0 ((r.drop 1++r.take 1).map .int)=false:=by
 intro r hr;simp only[BU,al,aM,or_false] at hr;rcases hr with rfl | rfl | rfl<;>refine⟨?_,?_,?_⟩<;>simp[oZ,ji,gy,B6,Rk,tw,fh,wD,eV,yk,h]
noncomputable def OG:US:=(dv (eQ (lj (dM (dB Be (du dU (dh (dA 2) (dh (eG (dh (uC (.str "odd")) (dh (uC (.int 0)) (dh (dA 3) dm)))) dm))) (uC (.bool true)))) (dM (dB Bg (du dU (dh (dA 2) (dh (eG (dh (uC (.str "odd")) (dh (uC (.int 0)) (dh (mE (di 3) ku (j2 (uC (.int 2)))) dm)))) dm))) (uC (.bool false))))) (dW (uC (.bool false))) d8)
 (dW (dB F5 (du dU (dh (dA 2) (dh (eG (dh (uC (.str "odd")) (dh (uC (.int 0)) (dh (dB fw (mE (di 3) (j2 (uC (.int 1))) ku) (mE (di 3) ku (j2 (uC (.int 1))))) dm)))) dm))) (uC (.bool false)))))
section
variable {n:Int}{X:XQ}{Q:ad->Int->Prop}
theorem GJ {p:Int}(p0:0<p)(p9:p<=9){E:qD}(hq:E.rt (.bool true) n)(row:List Int)(tR:row∈BU):OG E [none,some (.s (.int p)),some (.s (d0 4 (B6 p))),some (.s (dF row))] n:=by
 obtain⟨d1,d2,d3⟩:=Ky (p:=p) (!1) row tR
 have Hi:row.length=5/\∀i∈row,i.natAbs<1024:=by
  simp only[BU,al,aM,or_false] at tR;rcases tR with rfl | rfl | rfl<;>exact⟨rfl,!2⟩
 have ok:iY 4 (B6 p):=by
  intro t ht;simp only[B6,al,aM,or_false] at ht;rcases ht with rfl | rfl | rfl | rfl | rfl<;>(refine⟨?_,?_,?_⟩<;>dsimp only<;>decide)
 have hpo:rf (B6 p):=by
  intro t ht;simp only[B6,al,aM,or_false] at ht;rcases ht with rfl | rfl | rfl | rfl | rfl<;>first | decide | (show p.natAbs<=99;omega)
 have pv:∀t∈B6 p,0<=t.2.2:=by
  intro t ht;simp only[B6,al,aM,or_false] at ht;rcases ht with rfl | rfl | rfl | rfl | rfl<;>first | decide | (show 0<=p;omega)
 have fk:(B6 p).length<=1000:=by simp[B6]
 have go:∀(l:List Int) (n:Int) (Q:ad->Int->Prop) (X:XQ),l.length<=16->(∀i∈l,i.natAbs<1024)->dU [d0 4 (B6 p),.tuple [.str "odd",.int 0,dF l]] n Q X=Q (.bool (oZ 4 (B6 p) 0 (l.map .int))) n:=λl n Q X h1 h2=>by
  rw[zU ok hpo pv fk (Kw (!2) h1 h2) (!2) (!2),Nm]
 have c2:jk (row.map ad.int) none (some 2)=(row.take 2).map .int:=by rw[mP _ 2 (!2),List.map_take];rfl
 have c1:jk (row.map ad.int) none (some 1)=(row.take 1).map .int:=by rw[mP _ 1 (!2),List.map_take];rfl
 have c3:jk (row.map ad.int) (some 1) none=(row.drop 1).map .int:=by rw[kz _ 1 (!2),cJ];rfl
 have h2:∀i∈row.take 2,i.natAbs<1024:=λi hi=>Hi.2 i (b8 hi);have h3:∀i∈row.drop 1++row.take 1,i.natAbs<1024:=λi hi=>(aH.mp hi).elim (λz=>Hi.2 i (cC z)) λz=>Hi.2 i (b8 z)
 have Kv:fw (.tuple ((row.drop 1).map .int)) (.tuple ((row.take 1).map .int))=some (dF (row.drop 1++row.take 1)):=by
  simp only[fw];rw[if_pos (by rw[ah,ah,bQ,bf,show av=16777216 by decide];omega),dF,bc]
 unfold OG;with_reducible generalize kh:dW (dB F5 _ _)=last
 rw[dv,eQ,lj,dM,dB,du,dh,dA];simp only[aa,ac];rw[dh,eG,dh,uC,dh,uC,dh,dA];simp only[aa,ac];rw[dm,dm,go _ _ _ _ (!1) Hi.2,d1,uC,show Be (.bool true) (.bool true)=some (.bool false) from rfl,dj,dD,if_neg (!2),dM,dB,du,dh,dA];simp only[aa,ac];rw[dh,eG,dh,uC,dh,uC,dh,mE,di];simp only[aa,ac,ku,j2,uC,dF,Et,c2,dj];rw[dm,dm];rw[show ad.tuple ((row.take 2).map .int)=dF (row.take 2) from rfl,go _ _ _ _ (by rw[bf];omega) h2,d2,show Bg (.bool false) (.bool false)=some (.bool false) from rfl,dj,dD,if_neg (!2),d8];show last _ _ _;subst kh;rw[dW,dB,du,dh,dA];simp only[aa,ac];rw[dh,eG,dh,uC,dh,uC,dh,dB,mE,di];simp only[aa,ac,ku,j2,uC,mE,di,Et,c1,c3,dj];rw[Kv,dj,dm,dm,go _ _ _ _ (by rw[au,bQ,bf];omega) h3,d3,show F5 (.bool false) (.bool false)=some (.bool true) from rfl,dj];exact hq
theorem wI (hn:n+2<=jQ)(hq:Q (.bool true) (n+2)):jI [] n Q X:=by
 unfold jI lO;simp only[iX,g9,envOf,am,aX,aj,aG,Nat.reduceSub,Nat.reduceAdd,aF,aP,aI,az];with_reducible generalize ht:dv (eQ _ _ _) _=t
 rw[true_and,dv,dS,dB,uC,du,dh,uC,dm];refine fC (!2) (!2) (!1) λr r0 r1=>?_;rw[qX,dj];simp only[ar,ap]
 have yJ:∀row∈BU,t { nx:=λx n'=>Q ad.none n',rt:=Q } [none,some (.s (.int (1+r))),some (.s (d0 4 (B6 (1+r)))),some (.s (dF row))] (n+1+1):=λrow tR=>by
  subst ht;exact GJ (!1) (!1) (by rw[show n+1+1=n+2 by omega];exact hq) row tR
 generalize 1+r=p at yJ ⊢;rw[dv,dS];repeat first | rw[dh] | rw[uC] | rw[eG] | rw[dm] | rw[uL] | rw[du] | rw[dB] | rw[dj] | rw[ee] | rw[lr] | rw[eZ] | rw[eW] | rw[kg] | (rw[dA];simp only[aa,ac]) | (rw[di];simp only[aa,ac])
 simp only[ar,ap];rw[dv,dS];repeat first | rw[dh] | rw[uC] | rw[eG] | rw[dm] | rw[uL] | rw[du] | rw[dB] | rw[dj] | rw[ee] | rw[lr] | rw[eZ] | rw[eW] | rw[kg] | (rw[dA];simp only[aa,ac]) | (rw[di];simp only[aa,ac])
 refine fC (!2) (!2) (!1) λz z0 z1=>?_;rw[lr];have:z=0\/z=1\/z=2:=by omega
 rcases this with rfl | rfl | rfl
 .rw[eZ,dj];exact yJ [0,1,2,4,3] (!2)
 .rw[eW,dj];exact yJ [3,4,2,1,0] (!2)
 .rw[kg,dj];exact yJ [2,4,3,0,1] (!2)
end
theorem sL (x:Str):xj (.str x) (.str x)=some (.bool false):=by simp[xj]
theorem uF (b:Bool):Good (.bool b):=(Sz.bl (B:=10) (L:=11) b).good (!3) (!2) (!2) (!2)
structure Th (d:ad):Prop where
 ex:∃(z:Str) (ds:List ad),d=.tuple (.str z::ds)/\p7 6 z/\0<z.length/\∀y,p7 11 y->Bd 1023 400 2 16 (.tuple (.str y::ds))
theorem Th.half {l:List Int}(hl:l.length<=16)(h:∀i∈l,i.natAbs<1024):Th (.tuple [.str "halves",dF l]) :=
 ⟨"halves",[dF l],rfl,⟨!3,!3⟩,!3,λy hy=>⟨(Sz.tup (gR.cons (hy.bd (k:=16)).sz (gR.cons (nv hl h).sz gR.nil))).mono (ag _) (ag _) (!2) (!2),ka (!4) λd hd=>by
  simp only[al,aM,or_false] at hd;rcases hd with rfl | rfl
  .trivial
  .exact (nv hl h).wl⟩⟩
theorem Th.odd {x:Int}{l:List Int}(hx:x.natAbs<1024)(hl:l.length<=16)(h:∀i∈l,i.natAbs<1024):Th (.tuple [.str "odd",.int x,dF l]) :=
 ⟨"odd",[.int x,dF l],rfl,⟨!3,!3⟩,!3,λy hy=>⟨(Sz.tup (gR.cons (hy.bd (k:=16)).sz (gR.cons (Sz.small hx (ag _)) (gR.cons (nv hl h).sz gR.nil)))).mono (ag _) (ag _) (!2) (!2),ka (!4) λd hd=>by
  simp only[al,aM,or_false] at hd;rcases hd with rfl | rfl | rfl
  .trivial
  .trivial
  .exact (nv hl h).wl⟩⟩
theorem Th.bd {d:ad}(h:Th d):Bd 1023 400 2 16 d:=by
 obtain⟨z,ds,rfl,hz,_,hb⟩:=h.ex;exact hb z (hz.mono (!2))
noncomputable abbrev V9 (d:ad):Prop:=Bd (2 * (2 * 1023+10 ^ 40)+10 ^ 40) (2 * (2 * 400+400)+400) 6 18 d
theorem V9.of {d:ad}(h:Bd 1023 400 2 16 d):V9 d:=h.mono (!2) (!2) (!2) (!2)
section
variable {n:Int}{X:XQ}{Q:ad->Int->Prop}
noncomputable def YO:US:=(eQ (dM (dB xj (iP (du dU (dh (dA 1) (dh (dA 6) dm)))) (iP (du iQ (dh (dA 1) (dh (dA 6) dm)))))) (dW (uC (.bool false))) d8)
theorem Rp {many:Int}{ts:List eC}{d:ad}{E:qD}{x0 x2 x3 x4 x5:Option nG}(ok:iY many ts)(hp:rf ts)(pv:∀t∈ts,0<=t.2.2)(hm:many<=1000)(hl:ts.length<=1000)(hd:V9 d)(h:E.nx [x0,some (.s (d0 many ts)),x2,x3,x4,x5,some (.s d)] n):YO E [x0,some (.s (d0 many ts)),x2,x3,x4,x5,some (.s d)] n:=by
 unfold YO;rw[eQ,dM,dB,iP,du,dh,dA];simp only[aa,ac];rw[dh,dA];simp only[aa,ac];rw[dm,zU ok hp pv hl hd (!2) (!2)];refine⟨uF _,?_⟩;rw[iP,du,dh,dA];simp only[aa,ac];rw[dh,dA];simp only[aa,ac];rw[dm,Kx ok hm hl hd (!2)];refine⟨uF _,?_⟩;rw[sL,dj,dD,if_neg (!2),d8];exact h
theorem EV {many:Int}{ts:List eC}{E:qD}{x0 x2 x3 x4 x5:Option nG}(ok:iY many ts)(hp:rf ts)(pv:∀t∈ts,0<=t.2.2)(hm:many<=1000)(hl:ts.length<=1000):∀(ds:List ad) (x6:Option nG),(∀d∈ds,V9 d)->(∀y,E.nx [x0,some (.s (d0 many ts)),x2,x3,x4,x5,y] n)->ix (gO 6) YO E ds [x0,some (.s (d0 many ts)),x2,x3,x4,x5,x6] n
 | [],x6,_,h=>h x6
 | d::ds,x6,hd,h=>by
  rw[ix,gO];simp only[ar,ap];exact Rp ok hp pv hm hl (hd d (aq ..)) (EV ok hp pv hm hl ds _ (λe he=>hd e (ao _ he)) h)
theorem zV {many:Int}{ts:List eC}{ro:List ad}(ok:iY many ts)(hp:rf ts)(pv:∀t∈ts,0<=t.2.2)(hm:many<=1000)(hl:ts.length<=1000)(Ye:ro≠[])(M7:ro.length<=60)(V':∀d∈ro,Th d)(hn:n+400<=jQ)(hq:∀n',n<=n'->n'<=n+400->Q (.bool true) n'):jU [d0 many ts,.list ro] n Q X:=by
 have AH:0<ro.length:=cI.mpr Ye;unfold jU n8;simp only[iX,g9,envOf,am,aX,aj,aG,Nat.reduceSub,Nat.reduceAdd,aF,aP,aI,az];with_reducible generalize hb:dv (dS 4 _) _=b
 with_reducible generalize ht:dW (uC _)=t
 rw[true_and,dv,kJ,MK,uC];refine⟨!2,!2,?_⟩;refine kP (λpre post env n'=>(n<=n'/\n'<=n+64 * pre.length/\pre.length+post.length=4)/\∃x3 x4 x5 x6:Option nG,env=[none,some (.s (d0 many ts)),some (.s (.list ro)),x3,x4,x5,x6]) _ [] _ _ ?_ ⟨⟨!1,!4,by rw[i9,ah,e9];simp⟩,none,none,none,none,rfl⟩ ?_
 .rintro pre d post env n' E' hE ⟨⟨Oe,Ld,mB⟩,x3,x4,x5,x6,rfl⟩ Gs
  rw[aj] at mB;rw[gO];simp only[ar,ap];subst hb;with_reducible generalize hf:kJ _ _ _=f
  rw[dv,dS,dB,di];simp only[aa,ac];rw[du,dh,gM,dh,di];simp only[aa,ac];rw[dm];simp only[eB,dj];rw[dm];refine fC (!1) (!1) (!1) λr r0 r1=>?_;obtain⟨th,ha,q8⟩:=iy (xs:=ro) r0 r1;have hT:=V' th q8;rw[lr,ha,dj];simp only[ar,ap];obtain⟨z,ds,e,hz,hz0,La⟩:=hT.ex;subst e;rw[dv,dS,dB,eG,dh,du,dh,dB,di];simp only[aa,ac];rw[uC,ee,eZ,dj,dm];refine tQ hz hz0 (!1) λy hy=>?_;rw[dm]
  have wQ:∀(x3:Option nG) n Q,mE (di 4) (j2 (uC (.int 1))) ku [none,some (.s (d0 many ts)),some (.s (.list ro)),x3,some (.s (.tuple (.str z::ds))),x5,x6] n Q=Q (.tuple ds) n:=λx3 n Q=>by
   simp! [Et,kz _ 1 (!2)];rfl
  have RD:ds.length<=16:=by
   have:=(jh (La y hy).wl).1;rw[aj] at this;omega
  have Kv:fw (.tuple [.str y]) (.tuple ds)=some (.tuple (.str y::ds)):=by
   simp only[fw];rw[if_pos (by rw[show av=16777216 by decide];simp;omega)];rfl
  rw[wQ,Kv,dj];simp only[ar,ap];subst hf;rw[kJ,Jd,uL,dh,dA];simp only[aa,ac];rw[dh,dA];simp only[aa,ac];rw[dh,du,dh,du,dh,dA];simp only[aa,ac];rw[dh,uC,dm];refine Rj (deep:=4) (!2) (!2) (!2) (!2) hT.bd (!1) λd1 m1 YI k1 k2=>?_;rw[dh,uC,dm];refine Rj (deep:=4) (!2) (!2) (!2) (!2) YI (!1) λd2 m2 LC k3 k4=>?_;rw[dh,dA];simp only[aa,ac];rw[dm];simp only[jr,dj];refine EV ok hp pv hm hl _ _ (λe he=>?_) λx6=>Gs _ _ ⟨⟨!1,by rw[au,aT];omega,by rw[au,aT];omega⟩,_,_,_,_,rfl⟩;simp only[al,aM,or_false] at he;rcases he with rfl | rfl | rfl | rfl
  .exact .of (La y hy)
  .exact .of hT.bd
  .exact LC.mono (!2) (!2) (!2) (!2)
  .exact .of hT.bd
 .rintro pre env n' ⟨⟨Oe,Ld,mB⟩,x3,x4,x5,x6,rfl⟩
  rw[aG] at mB;show t _ _ _;subst ht;rw[dW,uC];exact hq n' Oe (!1)
end
theorem BV {ts:List eC}:∀{ds:List ad} {x y:Int},ji ts x ds=some y->∃ss:List (Int × Int),BA ts x ss y/\ds=(ss.map (·.1)).map .int/\∀k∈ss.map (·.1),k∈gF ts
 | [],x,y,h=>by cases h;exact⟨[],rfl,rfl,!4⟩
 | d::ds,x,y,h=>by
  simp only[ji] at h
  cases hs:gy ts x d with
  | none=>rw[hs] at h;cases h
  | some z =>
   rw[hs] at h;dsimp only at h;split at h
   .cases h
   .rename_i hz
    obtain⟨ss,h1,h2,h3⟩:=BV h;obtain⟨i,t,rfl,i0,i1,_⟩:=jE hs;refine⟨(i,z)::ss,⟨(BF hs).1,h1⟩,by rw[h2];rfl,λk hk=>?_⟩;rcases al.mp hk with rfl | hk
    .exact iT.mpr ⟨⟨i0,i1⟩,hz⟩
    .exact h3 k hk
theorem BW {w:Str}{a:ad}(h:gj w a=true):a=.str w:=by
 unfold gj at h;split at h
 .rw[of_decide_eq_true h]
 .cases h
theorem Kz {many:Int}{ts:List eC}{d:ad}(hp:∀t∈ts,0<=t.2.2)(h:jF many ts d=true):(∃ds,d=.tuple (.str "halves" :: ds)/\∃side,DE ts side)\/∃ds,d=.tuple (.str "odd" :: ds)/\∃x row,Kj many ts x row:=by
 unfold jF at h;split at h
 .rename_i a ds
  rw[aK] at h;rw[BW h.1];have h2:=h.2;unfold oB at h2;split at h2
  .rename_i side hs
   rw[aK] at h2;exact .inl ⟨_,rfl,side,(wF hp).mp h2.2⟩
  .cases h2
 .rename_i a x ds
  rw[aK] at h;rw[BW h.1];have h2:=h.2;unfold oZ at h2;rw[aK] at h2;have hx:=of_decide_eq_true h2.1;have h3:=h2.2;split at h3
  .rename_i y hy
   rw[aK,aK] at h3;have e:=of_decide_eq_true h3.1;subst e;obtain⟨ss,w1,rfl,w3⟩:=BV hy;have hl:=of_decide_eq_true h3.2.1;rw[ah] at hl;have z5:=h3.2.2;unfold wD at z5;rw[eh] at z5;refine .inr ⟨_,rfl,_,ss.map (·.1),⟨ss,w1,rfl,λz=>?_⟩,of_decide_eq_true z5,hl,w3,hx.1,hx.2⟩;subst z;simp at hl
  .cases h3
 .cases h
noncomputable def BX (b:Bool):ad:=.str (if b=true then "halves" else "odd")
theorem KC (b:Bool):(BX b).canLay0=true:=by cases b<;>decide +kernel
theorem EW:∀ws:List Bool,ad.canLayAll0 (ws.map BX)=true
 | []=>rfl
 | b::ws=>by rw[am,ad.canLayAll0,KC,EW ws];rfl
theorem KD (a b:Bool):ad.eqv (BX a) (BX b)=decide (a=b):=by cases a<;>cases b<;>decide +kernel
theorem EX (b:Bool)(ws:List Bool):inD (BX b) (.list (ws.map BX))=some (.bool (decide (b∈ws))):=by
 unfold inD Ep;have hd:(BX b).depth<=60:=by cases b<;>simp[BX,ad.depth]
 simp only[KC,EW,hd,and_self,if_true,bn];congr 2;rw[List.any_map,cw,cS,decide_eq_true_eq];constructor
 .rintro⟨a,ha,h⟩
  rw[Function.comp,KD] at h;rw[<- of_decide_eq_true h];exact ha
 .exact λh=>⟨b,h,by rw[Function.comp,KD];exact decide_eq_true rfl⟩
structure Nn (many:Int) (ts:List eC) (ws:List Bool):Prop where
 h:true∈ws->∃side,DE ts side
 o:false∈ws->∃x row,Kj many ts x row
theorem Nn.not {many:Int}{ts:List eC}{ws:List Bool}(w:Nn many ts ws):¬ (true∈ws/\false∈ws):=λ⟨h1,h2⟩=>by
 obtain⟨side,hc⟩:=w.h h1;obtain⟨x,row,ho⟩:=w.o h2;exact ho.no side hc
theorem Nn.snoc {many:Int}{ts:List eC}{ws:List Bool}(w:Nn many ts ws){d:ad}(hp:∀t∈ts,0<=t.2.2)(h:jF many ts d=true):∃b ds,d=.tuple (BX b::ds)/\Nn many ts (ws++[b]):=by
 rcases Kz hp h with⟨ds,rfl,hc⟩ | ⟨ds,rfl,ho⟩
 .refine⟨true,ds,rfl,λ_=>hc,λz=>w.o ?_⟩
  simpa using z
 .refine⟨false,ds,rfl,λz=>w.h ?_,λ_=>ho⟩
  simpa using z
noncomputable abbrev Vr (d:ad):Prop:=Bd (2 * 1023+10 ^ 40) (2 * 400+400) 4 17 d
theorem Vr.of {d:ad}(h:Bd 1023 400 2 16 d):Vr d:=h.mono (!2) (!2) (!2) (!2)
theorem Rq:∀d∈[ad.none,.tuple [],.tuple [.str "halves"],.tuple [.str "odd",.int 0,.tuple []],.tuple [.str "halves",.bool true],.tuple [.str "odd",.bool true,.tuple [.int 0]]],Bd 1023 400 2 16 d:=by
 have hs:Bd 1023 11 0 16 (.str "halves"):=Vm (!3);intro d hd;simp only[al,aM,or_false] at hd;rcases hd with rfl | rfl | rfl | rfl | rfl | rfl
 .exact (bdN (B:=1023) (k:=16)).mono (!2) (!2) (!2) (!2)
 .exact (bd0 (B:=1023) (k:=16)).mono (!2) (!2) (!2) (!2)
 .exact (RY hs (!2)).mono (!2) (!2) (!2) (!2)
 .exact Kw (l:=[]) (!2) (!2) (!4)
 .exact (YA hs ((V7 (B:=1023) (k:=16) true).mono (!2) (!2) (!2) (!2)) (!2)).mono (!2) (!2) (!2) (!2)
 .have hi:=nv (l:=[0]) (!2) (!4)
  refine⟨(Sz.tup (gR.cons (Sz.str (L:=11) (!3)) (gR.cons (Sz.bl true) (gR.cons hi.sz gR.nil)))).mono (ag _) (ag _) (!2) (!2),ka (!4) λd hd=>?_⟩;simp only[al,aM,or_false] at hd;rcases hd with rfl | rfl | rfl
  .trivial
  .trivial
  .exact hi.wl
section
variable {n:Int}{X:XQ}{Q:ad->Int->Prop}
noncomputable def Rr:US:=(dv (dS 8 (iP (eG (dh (dA 3) (dh (dA 7) dm)))))
 (dv (dS 9 (du iQ (dh (dA 3) (dh (dA 7) dm))))
 (dv (eQ (lj (dM (dB xj (iP (du dU (dh (dA 3) (dh (dA 7) dm)))) (iP (dA 9)))) (dM (dB xj (iP (eG (dh (dA 3) (dh (dA 7) dm)))) (di 8)))) (dW (uC (.bool false))) d8)
 (eQ (dM (dA 9)) (kf 6 gV (dh (dB d7 (di 7) (uC (.int 0))) dm)) d8))))
theorem Np {p m many:Int}{ts:List eC}{d:ad}{ws:List Bool}{E:qD}{x0 x1 x2 x4 x5 x8 x9:Option nG}(wb:zP p m many ts)(ok:iY many ts)(hp:rf ts)(pv:∀t∈ts,0<=t.2.2)(hd:Vr d)(hw:Nn many ts ws)(LQ:ws.length<=100)
  (h:∀(OH:List Bool) (x8 x9:Option nG),Nn many ts OH->OH.length<=ws.length+1->E.nx [x0,x1,x2,some (.s (d0 many ts)),x4,x5,some (.o (OH.map BX)),some (.s d),x8,x9] n) :
  Rr E [x0,x1,x2,some (.s (d0 many ts)),x4,x5,some (.o (ws.map BX)),some (.s d),x8,x9] n:=by
 have m1:=wb.m1;have hl:=wb.len;have hg:Good (.tuple [d0 many ts,d]):=(Sz.tup (gR.cons (wb.sz.mono (B':=2 * 1023+10 ^ 40) (!3) (ag _) (ag _) (ag _)) (gR.cons hd.sz gR.nil))).good (!3) (!2) (!2) (!2);unfold Rr;with_reducible generalize ht:eQ (dM (dA 9)) _ _=t
 rw[dv,dS,iP,eG,dh,dA];simp only[aa,ac];rw[dh,dA];simp only[aa,ac];rw[dm];refine⟨hg,?_⟩;simp only[ar,ap];rw[dv,dS,du,dh,dA];simp only[aa,ac];rw[dh,dA];simp only[aa,ac];rw[dm,Kx ok (!1) (!1) hd (!2)];simp only[ar,ap];rw[dv,eQ,lj,dM,dB,iP,du,dh,dA];simp only[aa,ac];rw[dh,dA];simp only[aa,ac];rw[dm,zU ok hp pv (!1) hd (!2) (!2)];refine⟨uF _,?_⟩;rw[iP,dA];simp only[aa,ac];refine⟨uF _,?_⟩;rw[sL,dj,dD,if_neg (!2),dM,dB,iP,eG,dh,dA];simp only[aa,ac];rw[dh,dA];simp only[aa,ac];rw[dm];refine⟨hg,?_⟩;rw[di];simp only[aa,ac];rw[sL,dj,dD,if_neg (!2),d8];show t _ _ _;subst ht;rw[eQ,dM,dA];simp only[aa,ac];rw[dD]
 cases hb:jF many ts d with
 | false=>rw[if_neg (!2),d8];exact h ws _ _ hw (!1)
 | true =>
  obtain⟨b,ds,rfl,Uw⟩:=hw.snoc pv hb;rw[if_pos rfl,kf];simp only[aa,ac];rw[dh,dB,di];simp only[aa,ac];rw[uC,ee,eZ,dj,dm,jv (by rw[ah];omega),dj];simp only[ar,ap];have:=h (ws++[b]) (some (.s (.str (ad.tuple [d0 many ts,.tuple (BX b::ds)]).shown))) (some (.s (.bool true))) Uw (!4);rw[bc] at this;exact this
theorem BY {p m many:Int}{ts:List eC}{E:qD}{x0 x1 x2 x4 x5:Option nG}(wb:zP p m many ts)(ok:iY many ts)(hp:rf ts)(pv:∀t∈ts,0<=t.2.2) :
  ∀(ds:List ad) (ws:List Bool) (x7 x8 x9:Option nG),(∀d∈ds,Vr d)->Nn many ts ws->ws.length+ds.length<=100->(∀(OH:List Bool) (x7 x8 x9:Option nG),Nn many ts OH->E.nx [x0,x1,x2,some (.s (d0 many ts)),x4,x5,some (.o (OH.map BX)),x7,x8,x9] n)->ix (gO 7) Rr E ds [x0,x1,x2,some (.s (d0 many ts)),x4,x5,some (.o (ws.map BX)),x7,x8,x9] n
 | [],ws,_,_,_,_,hw,_,h=>h ws _ _ _ hw
 | d::ds,ws,x7,x8,x9,hd,hw,hl,h=>by
  rw[aj] at hl;rw[ix,gO];simp only[ar,ap];exact Np wb ok hp pv (hd d (aq ..)) hw (!1) λOH x8 x9 Uw Iw=>BY wb ok hp pv ds OH _ _ _ (λe he=>hd e (ao _ he)) Uw (!1) h
theorem sM {uc:UT}{Q:List ad->Int->Prop}(hc:∀(d:ad) (n:Int) (Q:Bool->Int->Prop),n+1<=jQ->(∀b,Q b (n+1))->uc [some (.s d),none] n Q):∀(xs acc:List Int) (x:Option nG) (n:Int),n+xs.length<=jQ->(∀sub:List Int,sub.Sublist xs->Q ((acc++sub).map .int) (n+xs.length))->fB (gO 0) uc (dA 0) Q (xs.map .int) (acc.map .int) [x,none] n
 | [],acc,x,n,hn,h=>by
  have:=h [] (List.Sublist.refl _);rw[bt] at this;simpa [fB] using this
 | k::xs,acc,x,n,hn,h=>by
  rw[aj] at hn;simp only[am,fB,gO,ap];refine hc _ _ _ (!1) λb=>?_;have e1:n+1+(xs.length:Int)=n+((xs.length+1:Nat):Int):=by omega
  cases b with
  | true =>
   simp only[if_true,dA,aa];have e2:acc.map ad.int++[.int k]=(acc++[k]).map .int:=by rw[bc];rfl
   rw[e2];refine sM hc xs (acc++[k]) _ (n+1) (!1) λsub hs=>?_;have:=h (k::sub) (hs.cons_cons k);rw[bM,e1];exact this
  | false =>
   simp only[bH,if_false];refine sM hc xs acc _ (n+1) (!1) λsub hs=>?_;have:=h sub (hs.cons k);rw[e1];exact this
theorem sN (P:ad->Prop)(k:Nat){ue:UX}{rest:eU}{Q:List ad->Int->Prop}:∀(xs acc:List ad) (x0:Option nG) (n:Int),n+k * xs.length<=jQ->(∀x (n:Int) Q,n+k<=jQ->(∀y n',P y->n<=n'->n'<=n+k->Q y n')->ue (some (.s x)::rest) n Q)->(∀d∈acc,P d)->(∀ys n',(∀d∈ys,P d)->ys.length=acc.length+xs.length->n<=n'->n'<=n+k * xs.length->Q ys n')->fB (gO 0) nE ue Q xs acc (x0::rest) n
 | [],acc,x0,n,_,_,ha,h=>h acc n ha (!4) (Int.le_refl _) (!4)
 | x::xs,acc,x0,n,hn,hu,ha,h=>by
  have e1:(k:Int) * ((x::xs).length:Nat)=k * xs.length+k:=by rw[aj,Int.natCast_add,Int.mul_add];simp
  rw[e1] at hn;have e0:(0:Int)<=k * xs.length:=by rw[<- Int.natCast_mul];exact Int.natCast_nonneg _
  rw[fB,gO,nE,if_pos rfl,ap];refine hu x n _ (!1) λy n' hy h1 h2=>sN P k xs (acc++[y]) _ n' (!1) hu (λd hd=>?_) λys Ri hys hl h3 h4=>h ys Ri hys (by rw[hl];simp;omega) (!1) (by rw[e1];omega);rcases aH.mp hd with hd | hd
  .exact ha d hd
  .rw[ay.mp hd];exact hy
end
theorem zP.pr {p m many:Int}{ts:List eC}(w:zP p m many ts):iY many ts/\rf ts/\∀t∈ts,0<=t.2.2:=by
 refine⟨λt ht=>(w.ok t ht).1,λt ht=>?_,λt ht=>(w.ok t ht).2.1⟩;have:=(w.ok t ht).2;show t.2.2.natAbs<=99;omega
structure Ths (ro:List ad):Prop where
 len:ro.length=12
 bd:∀d∈ro,Bd 1023 400 2 16 d
 th:∀d∈ro.take 1++ro.drop 7,Th d
structure YQ (pre:List ad) (env:eU):Prop where
 ex:∃x2 x3 x4 x5 x6 x7 x8 x9:Option nG,env=[none,none,x2,x3,x4,x5,x6,x7,x8,x9]/\(pre≠[]->∃p m many ts ro,zP p m many ts/\Ths ro/\x3=some (.s (d0 many ts))/\x4=some (.o ro))
theorem Th.told {p m many:Int}{ts:List eC}(w:zP p m many ts){X:XQ}{n:Int}{Q:ad->Int->Prop}(h:∀d,Th d->Q d n):iB [d0 many ts] n Q X:=by
 have m0:=w.m0;have m1:=w.m1;have hl:=w.len;obtain⟨ok,hp,pv⟩:=w.pr;refine wB m0 (!1) ok (!1) (λkvs hc=>h _ (.half ?_ λi hi=>?_)) λx row ho=>h _ (.odd ?_ ?_ λi hi=>?_)
 .have:=bN (λp=>decide ((j9 kvs p).length % 2=1)) (fS 0 many.toNat)
  rw[e9] at this;unfold lC;omega
 .have:=e8.mp (aJ.mp hi).1
  omega
 .have:=ho.x0
  have:=ho.x1;omega
 .have:=fF ho.nd (ns:=fS 0 ts.length) λk hk=>e8.mpr (by have:=(iT.mp (ho.num k hk)).1;omega)
  rw[e9] at this;omega
 .have:=(iT.mp (ho.num i hi)).1
  omega
theorem KH:Bl { nx:=λ_ _=>False,rt:=λd _=>d=.bool true } (List.replicate 10 none) 0:=by
 have aac:jQ=1099511627776:=by decide
 have hsz:av=16777216:=by decide
 unfold Bl;simp only[iX,g9,envOf,am,aX,aj,aG,Nat.reduceSub,Nat.reduceAdd,aF,aP,aI,az];with_reducible generalize htr:dW (du jU _)=tr
 with_reducible generalize hb:dv (dS 3 _) _=b
 rw[dv,eQ,iu,dM,du,dm];refine wI (!1) ?_;rw[dD,bB,if_neg (!2),d8];dsimp only;rw[dv,kJ,MK,uC];refine⟨!2,!2,?_⟩;rw[i9];refine kP (λpre post env n'=>(pre++post=(fS 0 3).map ad.int/\0<=n'/\n'<=2+1000 * pre.length)/\YQ pre env) _ [] _ _ ?_ ⟨⟨rfl,!2,!4⟩,⟨_,_,_,_,_,_,_,_,rfl,λh=>absurd rfl h⟩⟩ ?_
 .rintro pre d post env n' E' hE ⟨⟨Nj,Oe,Ld⟩,⟨x2,x3,x4,x5,x6,x7,x8,x9,rfl,_⟩⟩ Gs
  obtain⟨i,i0,i1,rfl⟩:∃i:Int,0<=i/\i<3/\d=.int i:=by
   have:d∈(fS 0 3).map ad.int:=by rw[<- Nj];simp
   obtain⟨i,hi,rfl⟩:=bg.mp this;have:=e8.mp hi;exact⟨i,!1,!1,rfl⟩
  have mB:pre.length<=2:=by
   have:=congrArg List.length Nj;rw[au,aj,ah,e9] at this;omega
  rw[gO];simp only[ar,ap];have hi0:=cW i (show (2:Int)≠0 by decide);have hi1:=cL i (show (0:Int)<2 by decide);obtain⟨x,hx,hm⟩:=iy (xs:=[ad.int 5,.int 9]) hi0 (by simpa using hi1);obtain⟨y,hy,hmy⟩:=iy (xs:=[ad.int 7,.int 16]) hi0 (by simpa using hi1)
  obtain⟨p,rfl,p0,p1⟩:∃p:Int,x=.int p/\1<=p/\p<=9:=by
   simp only[al,aM,or_false] at hm;rcases hm with rfl | rfl<;>exact⟨_,rfl,!2,!2⟩
  obtain⟨m,rfl,q0,q1⟩:∃m:Int,y=.int m/\0<=m/\m<=16:=by
   simp only[al,aM,or_false] at hmy;rcases hmy with rfl | rfl<;>exact⟨_,rfl,!2,!2⟩
  have Vs:vo (.int i) (.int 2)=some (.int (i % 2)):=rfl;subst hb;with_reducible generalize hr4:dv (nD 4 (dh _ _)) _=r4
  rw[dv,dS,du,dh,dB,uL,dh,uC,dh,uC,dm,dB,di];simp only[aa,ac];rw[uC,Vs,dj,lr,hx,dj,dh,dB,uL,dh,uC,dh,uC,dm,dB,di];simp only[aa,ac];rw[uC,Vs,dj,lr,hy,dj,dm];refine Dz p0 p1 q0 q1 (!1) λmany ts n1 wb k1 k2=>?_;have m0:=wb.m0;have m1:=wb.m1;have hl:=wb.len;obtain⟨ok,hp,pv⟩:=wb.pr;simp only[ar,ap];subst hr4;with_reducible generalize hr5:dv (kf 4 _ _) _=r5
  rw[dv,nD,dh,du,dh,dA];simp only[aa,ac];rw[dm];refine Th.told wb λth V'=>?_;repeat first | rw[dh] | rw[uC] | rw[eG] | rw[dm] | rw[uL] | rw[du] | rw[dB] | rw[dj] | rw[ee] | rw[lr] | rw[eZ] | rw[eW] | rw[kg] | (rw[dA];simp only[aa,ac]) | (rw[di];simp only[aa,ac])
  simp only[ar,ap];subst hr5;with_reducible generalize hr6:dv (nD 4 _) _=r6
  rw[dv,kf];simp only[aa,ac];rw[dh,eG,dh,uC,dh,gM,dh,uL,ff,FT,dB,di];simp only[aa,ac];rw[uC,show d7 (d0 many ts) (.int 0)=some (.int many) from rfl,dj];refine⟨⟨!1,!1⟩,?_⟩;rw[i9];refine sM (λd n Q hn h=>?_) (fS 0 many.toNat) [] _ _ (by rw[e9];omega) λside EU=>?_
  .rw[dM,dB,du,dh,uC,dm]
   refine fC (!2) (!2) (!1) λr r0 r1=>?_;rw[uC,fc,dj,dD];exact h _
  rw[az,e9,dm]
  have wQ:side.length<=9:=by
   have:=EU.length_le;rw[e9] at this;omega
  have hsd:Th (.tuple [.str "halves",dF side]):=.half (!1) λi hi=>by
   have:=e8.mp (EU.subset hi);omega
  simp only[fX,dj];rw[dm,dm,jv (!4),dj];simp only[ar,ap];subst hr6;with_reducible generalize hr7:dv (dS 5 _) _=r7
  rw[dv,nD,MN,di];simp only[aa,ac];rw[uL,ff,FT,uC];refine⟨!2,?_⟩;rw[i9];refine sN Th 20 _ [] _ _ (by rw[ah,e9];omega) (λx n Q hn h=>?_) (!4) λYR n2 V8 LQ k3 k4=>?_
  .show du kU (dh (dA 2) dm) [some (.s x),none,some (.s (d0 many ts))] n Q
   rw[du,dh,dA];simp only[aa,ac];rw[dm];refine BS m0 m1 ok (!1) (!1) λz row n' z0 z1 tR Hi a b=>h _ _ (.odd (!1) (!1) λi hi=>?_) a b;have:=tR i hi;omega
  rw[aG,ah,e9] at LQ;rw[ah,e9] at k4
  have BZ:Ths (([th,.none,.tuple [],.tuple [.str "halves"],.tuple [.str "odd",.int 0,.tuple []],.tuple [.str "halves",.bool true],.tuple [.str "odd",.bool true,.tuple [.int 0]]]++[.tuple [.str "halves",dF side]])++YR):=by
   refine⟨by rw[au,LQ];rfl,λd hd=>?_,λd hd=>?_⟩
   .rcases aH.mp hd with hd | hd
    .rcases aH.mp hd with hd | hd
     .rcases al.mp hd with rfl | hd
      .exact V'.bd
      .exact Rq d hd
     .rw[ay.mp hd];exact hsd.bd
    .exact (V8 d hd).bd
   .have hd:d∈th::.tuple [.str "halves",dF side]::YR:=hd
    rcases al.mp hd with rfl | hd
    .exact V'
    .rcases al.mp hd with rfl | hd
     .exact hsd
     .exact V8 d hd
  refine⟨by rw[au,LQ,hsz];simp,?_⟩;have e0:ad.tuple (side.map ad.int)=dF side:=rfl;simp only[e0,ar,ap];generalize ([th,.none,.tuple [],.tuple [.str "halves"],.tuple [.str "odd",.int 0,.tuple []],.tuple [.str "halves",.bool true],.tuple [.str "odd",.bool true,.tuple [.int 0]]]++[.tuple [.str "halves",dF side]])++YR=ro at BZ ⊢;have M7:=BZ.len;subst hr7;with_reducible generalize hr8:dv (nD 6 _) _=r8
  rw[dv,dS,uL,ff,FT,uC];refine⟨!2,?_⟩;rw[i9];refine sN Vr 31 _ [] _ _ (by rw[ah,e9];omega) (λx n Q hn h=>?_) (!4) λbts n3 Qm Rn k5 k6=>?_
  .show du jz _ [some (.s x),none,some (.o ro)] n Q
   rw[du,dh,dB,di];simp only[aa,ac];rw[dB,uL,dh,uC,dh,uC,dh,uC,dh,uC,dm,du,dh,uC,dm];refine fC (!2) (!2) (!1) λr r0 r1=>?_;obtain⟨j,hj,hjm⟩:=iy (xs:=[ad.int 0,.int 7,.int 8,.int 9]) r0 (by simpa using r1)
   obtain⟨j,rfl,j0,j1⟩:∃k:Int,j=.int k/\0<=k/\k<12:=by
    simp only[al,aM,or_false] at hjm;rcases hjm with rfl | rfl | rfl | rfl<;>exact⟨_,rfl,!2,!2⟩
   rw[lr,hj,dj];obtain⟨e,he,hem⟩:=iy (xs:=ro) j0 (!1);rw[lr,he,dj,dh,uC,dm];exact Rj (deep:=4) (!2) (!2) (!2) (!2) (BZ.bd e hem) (!1) λd' n' yV a b=>h _ _ yV (!1) (!1)
  rw[aG,ah,e9] at Rn;rw[ah,e9] at k6;simp only[ar,ap];subst hr8;with_reducible generalize kh:eQ (mN _ _) _ _=last
  rw[dv,nD,dm];simp only[ar,ap];rw[dv,kJ,Jd,dB,di];simp only[aa,ac];rw[di];simp only[aa,ac];rw[rX (by rw[M7,Rn];simp),dj];simp only[jr,dj];refine BY wb ok hp pv (ro++bts) [] _ _ _ (λd hd=>?_) ⟨!4,!4⟩ (by rw[au,M7,Rn];simp) λws y7 y8 y9 hws=>?_
  .rcases aH.mp hd with hd | hd
   .exact .of (BZ.bd d hd)
   .exact Qm d hd
  have ih:=EX true ws;have io:=EX false ws;rw[show BX true=.str "halves" from rfl] at ih;rw[show BX false=.str "odd" from rfl] at io;have ib:E'.nx [none,none,some (.s (.int i)),some (.s (d0 many ts)),some (.o ro),some (.s (.list bts)),some (.o (ws.map BX)),y7,y8,y9] n3:=Gs _ _ ⟨⟨by rw[bM];exact Nj,!1,by rw[au,aT];omega⟩,⟨_,_,_,_,_,_,_,_,rfl,λ_=>⟨p,m,many,ts,ro,wb,BZ,rfl,rfl⟩⟩⟩;show last _ _ _;subst kh;rw[eQ,mN,dM,dB,uC,di];simp only[aa,ac];rw[ih,dj,dD];by_cases h1:true∈ws
  .rw[if_pos (decide_eq_true h1),dM,dB,uC,di]
   simp only[aa,ac];rw[io,dj,dD,if_neg (by simpa using λz=>hws.not ⟨h1,z⟩),d8];exact ib
  .rw[if_neg (by simpa using h1),if_neg (!2),d8]
   exact ib
 .rintro pre env n' ⟨⟨Nj,Oe,Ld⟩,⟨x2,x3,x4,x5,x6,x7,x8,x9,rfl,hex⟩⟩
  rw[bt] at Nj;have mB:pre.length=3:=by rw[Nj];rfl
  obtain⟨p,m,many,ts,ro,wb,BZ,rfl,rfl⟩:=hex (λz=>by rw[z] at mB;cases mB);have m1:=wb.m1;have hl:=wb.len;have M7:=BZ.len;obtain⟨ok,hp,pv⟩:=wb.pr;show tr _ _ _;subst htr
  have wQ:∀(e:eU) n Q,e[4]? = some (some (.o ro))->mE (di 4) ku (j2 (uC (.int 1))) e n Q=Q (.list (ro.take 1)) n:=λe n Q he=>by
   simp only[mE,di,he,ku,j2,uC,Et,mP _ 1 (!2),dj];rfl
  have hsr:∀(e:eU) n Q,e[4]? = some (some (.o ro))->mE (di 4) (j2 (uC (.int 7))) ku e n Q=Q (.list (ro.drop 7)) n:=λe n Q he=>by
   simp only[mE,di,he,ku,j2,uC,Et,kz _ 7 (!2),dj];rfl
  have fk:(ro.take 1++ro.drop 7).length=6:=by rw[au,bf,bQ,M7];rfl
  rw[dW,du,dh,dA];simp only[aa,ac];rw[dh,dB,wQ _ _ _ rfl,hsr _ _ _ rfl,rX (by rw[<- au,fk];decide),dj,dm];exact zV ok hp pv (!1) (!1) (λz=>by rw[z] at fk;cases fk) (!1) BZ.th (!1) λ_ _ _=>rfl
theorem all_mk {l:W.OpenLaw}{w:World}{K:W.Frag}{h:Heap}{mg:Str->Option af}{fa:Addr}{YS:Addr}{YT Vt:Option Addr}{YU:Array (Option af)}{YV Vu Vv Vw Rt Vx:af}{fy:Addr}{zW:ClassData}{eL:Addr}{GK:ClassData}{jc0 jc1:af}{jdd jd1:Option Addr}{jcd:ClassData}{jsl YW:Array (Option af)}{jN:Addr}{YX:Array DictEntry}{jn:Nat}{GL GN:Str}{KP mz:Addr}{GO DN:List af}{GP GQ:Bool}{GR:List Str}{DO:Option Bool}{GS GU GV:Option Addr}{GW GX GY GZ G0:Option af}{G1 G2 G3 G4 yR G5:af}{G6:Array (Option af)}(X:K.In h)(G:h.Ns aY mg)(Jk:mg "law" = some (.ref fa))
  (a57:W.nsIn K aY "law" = some (some (.ref YS)))
  (l57:K.lookup YS=some ⟨YV,YT,.func (W.fnOf "law" "law" (kj (top 57)) (fW (top 57)) (dw (top 57)) .none Vu Vv Vw Vt Rt Vx),YU⟩)
  (c57:W.codeIn K Rt "law" = true)
  (k57:W.keepIn K (.ref YS)=true)
  (AF0:F4 K top [("is_whole",4),("is_tuple_of",5),("is_rising",6),("is_rising_below",7),("are_unlike",8),("odd_ones",9),("is_side",11),("is_set",12),("is_tie_number",13),("by_turns",14),("all_ties",15),("price_of",16),("cut_of",17),("parts_of",18),("places_of",19),("other_end",21),("is_step",22),("places_walked",23),("places_round",24),("is_round",26),("weight_of",28),("lack_of",29),("rings_of",31),("ring_within",32),("ways_home",33),("base_rings",34),("side_by",36),("is_side_kind",38),("rest_of",40),("halves_told",42)])
  (AF1:F4 K top [("lets_halves",43),("_law_feed",45),("_law_draw",46),("_law_price",47),("_law_web",48),("_law_odd",49),("_law_bent",50),("_law_whole",51),("_law_due",52),("_law_walk",53),("_law_passing",54),("_law_lettered",55),("_law_again",56)])
  (z_all:W.nsIn K aY "all" = some none)
  (z_bool:W.nsIn K aY "bool" = some none)
  (z_enumerate:W.nsIn K aY "enumerate" = some none)
  (z_int:W.nsIn K aY "int" = some none)
  (z_isinstance:W.nsIn K aY "isinstance" = some none)
  (z_len:W.nsIn K aY "len" = some none)
  (z_list:W.nsIn K aY "list" = some none)
  (z_max:W.nsIn K aY "max" = some none)
  (z_min:W.nsIn K aY "min" = some none)
  (z_range:W.nsIn K aY "range" = some none)
  (z_repr:W.nsIn K aY "repr" = some none)
  (z_set:W.nsIn K aY "set" = some none)
  (z_sorted:W.nsIn K aY "sorted" = some none)
  (z_str:W.nsIn K aY "str" = some none)
  (z_sum:W.nsIn K aY "sum" = some none)
  (z_tuple:W.nsIn K aY "tuple" = some none)
  (na_JoinError:W.nsIn K aY "JoinError" = some (some (.ref fy)))
  (ty_JoinError:W.typeIn K (.ref fy)=some (.type "type"))
  (cl_JoinError:W.clsIn K fy=some zW)
  (na_NoWalk:W.nsIn K aY "NoWalk" = some (some (.ref eL)))
  (ty_NoWalk:W.typeIn K (.ref eL)=some (.type "type"))
  (cl_NoWalk:W.clsIn K eL=some GK)
  (lJ:K.lookup fy=some ⟨jc0,jdd,.cls jcd,jsl⟩)
  (nJ:jcd.ns=jN)
  (lN:K.lookup jN=some ⟨jc1,jd1,.dict YX jn,YW⟩)
  (sJ:AI YX=true)
  (iJ:nsFind YX "__init__" = none)
  (xJ:W.mroIn K fy (.type "BaseException")=some true)
  (o_NoWalk:K.lookup eL=some (PySem.excClassObj GL GN eL KP GO (.ref fy::L2.sW) GP GR DN GQ DO GS GW GX GY GZ G0 "ValueError.__new__"))
  (fiNoWalk:W.findIn K (.ref eL) "__init__" = some (some (.ref mz)))
  (fnNoWalk:W.isFn K (.ref mz)=true)
  (kpNoWalk:W.keepIn K (.ref eL)=true)
  (gaNoWalk:W.findIn K (.ref eL) "__getattribute__" = some (some (.builtin "BaseException.__getattribute__")))
  (ghNoWalk:W.findIn K (.ref eL) "__getattr__" = some none)
  (saNoWalk:W.findIn K (.ref eL) "__setattr__" = some (some (.builtin "object.__setattr__")))
  (hdNoWalk:W.hasDictIn K eL=true)
  (bxNoWalk:W.mroIn K eL (.type "BaseException")=some true)
  (obNoWalk:W.mroIn K eL (.type "object")=some true)
  (hcNoWalk:W.findIn K (.ref eL) "__class__" = some (some (.builtin "object.__class__")))
  (hgNoWalk:W.specialIn K (.builtin "object.__class__") "__get__" = some (some (.builtin "getset_descriptor.__get__")))
  (tkNoWalk:W.takesIn K (.builtin "object.__class__")=some true)
  (owNoWalk:W.mroIn K eL (.ref eL)=some true)
  (veNoWalk:W.mroIn K eL (.type "ValueError")=some true)
  (upNoWalk:W.mroIn K eL (.ref fy)=some true)
  (lINoWalk:K.lookup mz=some ⟨G1,GU,.func (W.fnOf "__init__" "NoWalk.__init__" (kj (yd (top 2) 0)) (fW (yd (top 2) 0)) (dw (yd (top 2) 0)) .none G2 G3 G4 GV yR G5),G6⟩)
  (cINoWalk:W.codeIn K yR "NoWalk.__init__" = true)
  (kINoWalk:W.keepIn K (.ref mz)=true)
  (fd_NoWalk_number:W.findIn K (.ref eL) "number" = some none) :
  ∃fd:bq,(∀(s:aw) (v:af),BindsTo s fd ⟨[v],[]⟩ [("_law_script",v)])/\∀base:Heap,K.In base->base.Ns aY mg->jX l.prog w K mg base wJ 20 fa fd ["_law_script"] (A3 K):=by
 have e:=Jk.symm.trans (W.mg_of X G a57);cases e;have F57:=Cp (st:=top 57) l57 c57 k57;obtain⟨a4,a5,a6,a7,a8,a9,a11,a12,a13,a14,a15,a16,a17,a18,a19,a21,a22,a23,a24,a26,a28,a29,a31,a32,a33,a34,a36,a38,a40,a42,_⟩:=AF0;obtain⟨a43,a45,a46,a47,a48,a49,a50,a51,a52,a53,a54,a55,a56,_⟩:=AF1;refine⟨W.fnOf "law" "law" (kj (top 57)) (fW (top 57)) (dw (top 57)) .none Vu Vv Vw Vt Rt Vx,λs v=>.of_eq rfl,λbase _ _=>?_⟩;have oE:=IM X G na_JoinError ty_JoinError cl_JoinError;have rq:=IM X G na_NoWalk ty_NoWalk cl_NoWalk;subst nJ;have jok:Ql K fy:=⟨_,_,_,_,_,_,_,_,_,lJ,lN,CY sJ,iJ⟩;have jj:xb K eL fy:=⟨⟨⟨gaNoWalk,ghNoWalk,saNoWalk,hdNoWalk,bxNoWalk,obNoWalk⟩,hcNoWalk,hgNoWalk,tkNoWalk⟩,owNoWalk,veNoWalk,upNoWalk,xJ⟩;have G7:RF K eL fy mz:=⟨⟨_,_,_,_,_,_,_,_,_,_,_,_,_,_,_,o_NoWalk⟩,fiNoWalk,fnNoWalk,kpNoWalk,jj⟩;have G8:=Cp (st:=yd (top 2) 0) lINoWalk cINoWalk kINoWalk;let cl:Str->Addr:=λc=>(([("JoinError",fy),("NoWalk",eL)]:List (Str × Addr)).lookup c).getD 0;have OI:cl "JoinError" = fy:=rfl;have Vy:cl "NoWalk" = eL:=rfl
 have xf:XF K mg (XC cl) K' M1:=by
  refine⟨λc hc=>?_,λc hc h hh=>?_,λc hc h hh=>?_,λc hc=>?_,λc hc=>?_,λc hc f hf=>?_⟩
  .have hq:=hc
   simp only[M1,al,aM,or_false] at hq;rcases hq with rfl | rfl
   .exact oE.nm
   .exact rq.nm
  .have hq:=hc
   simp only[K',al,aM,or_false] at hq;subst hq;rcases hh with rfl | rfl
   .exact jj.XS rq bxNoWalk
   .exact jj.Xi oE
  .have hq:=hc
   simp only[K',al,aM,or_false] at hq;subst hq;have hq:=hh;simp only[M1,al,aM,or_false] at hq;rcases hq with rfl | rfl
   .exact jj.one oE jj.up
   .exact jj.one rq jj.own
  .have hq:=hc
   simp only[K',al,aM,or_false] at hq;subst hq;exact jj.isVal
  .have hq:=hc
   simp only[K',al,aM,or_false] at hq;subst hq;exact jj.ci
  .have hq:=hc
   simp only[K',al,aM,or_false] at hq;subst hq;have hf2:f∈(["number"]:List Str):=hf;have hq:=hf2;simp only[al,aM,or_false] at hq;subst hq;exact fd_NoWalk_number
 have qW:oF l.prog w K mg base "NoWalk" (cl "NoWalk") (IH (cl "NoWalk") "number"):=JW G8 G7 jok rq.nm fd_NoWalk_number;have B:kB mg:=⟨W.mg_none_of X G z_all,W.mg_none_of X G z_bool,W.mg_none_of X G z_enumerate,W.mg_none_of X G z_int,W.mg_none_of X G z_isinstance,W.mg_none_of X G z_len,W.mg_none_of X G z_list,W.mg_none_of X G z_max,W.mg_none_of X G z_min,W.mg_none_of X G z_range,W.mg_none_of X G z_repr,W.mg_none_of X G z_set,W.mg_none_of X G z_sorted,W.mg_none_of X G z_str,W.mg_none_of X G z_sum,W.mg_none_of X G z_tuple⟩;obtain⟨_,_,F45,m45⟩:=(a45.m X G).ex;have pW:dZ l.prog w K mg base 1 "_law_feed" ["_law_script"] (uj tM K):=Q8 F45 m45 B;obtain⟨_,_,F46,m46⟩:=(a46.m X G).ex;have dE:fU l.prog w K mg base tM:=(Ra F46 m46 B).draw.up (!2);have iS:mn l.prog w K mg base tM:=Gk (a49.m X G) B dE;have gK:m8 l.prog w K mg base tM:=Dw (a50.m X G) B dE iS;have nh:mW l.prog w K mg base cl:=zM (a8.m X G) B;have gu:jV l.prog w K mg base cl:=Bq (a21.m X G) B;have jA:mV l.prog w K mg base cl:=Dn (a4.m X G) B;have oo:n9 l.prog w K mg base cl:=Bo (a6.m X G) B jA;have fQ:gW l.prog w K mg base cl:=qV (a7.m X G) B oo;have vY:vS l.prog w K mg base cl:=JX (a12.m X G) B fQ;have j6:j4 l.prog w K mg base cl:=tN (a13.m X G) B vY;have kC:oR l.prog w K mg base cl:=Gf (a22.m X G) B j6;have j7:j5 l.prog w K mg base cl:=tO (a23.m X G) B gu kC qW;have fL:iD l.prog w K mg base cl:=xk (a5.m X G) B;have k8:kX l.prog w K mg base cl:=vZ (a24.m X G) B j7 jA fL xf;have pV:pO l.prog w K mg base cl:=Dt (a26.m X G) B nh k8;have sr:si l.prog w K mg base cl:=Ge (a11.m X G) B fQ;have k9:kY l.prog w K mg base cl:=v7 (a38.m X G) B sr fL;have jB:m6 l.prog w K mg base cl:=Dr (a16.m X G) B;have jC:mZ l.prog w K mg base cl:=Dq (a15.m X G) B;have v3:vT l.prog w K mg base cl:=JY (a17.m X G) B;have ou:og l.prog w K mg base cl:=Br (a28.m X G) B jB v3;have sy:sj l.prog w K mg base cl:=Gg (a29.m X G) B jB jC ou;have fb:iE l.prog w K mg base cl:=xn (a43.m X G) B pV fL k9 sy;have jW:oj l.prog w K mg base cl:=Bu (a51.m X G) B;have kD:oS l.prog w K mg base cl:=Gm (a52.m X G) B jW;have lg:kZ l.prog w K mg base tM:=v8 (a55.m X G) B dE;have oy:om l.prog w K mg base tM:=Bv (a56.m X G) B gK fb kD lg dE;have lU:lR l.prog w K mg base tM:=xo (a54.m X G) B fb dE;have ox:oh l.prog w K mg base tM:=Bt (a47.m X G) B dE;have pX:pQ l.prog w K mg base tM:=Dx (a53.m X G) B dE;have sA:so l.prog w K mg base tM:=Gj (a48.m X G) B dE ox;obtain⟨_,_,F9,m9⟩:=(a9.m X G).ex;have pS:vR l.prog w K mg base cl:=Dm F9 m9 B;have iM:mY l.prog w K mg base cl:=Dp (a14.m X G) B pS;have ni:m7 l.prog w K mg base cl:=zN (a34.m X G) B iM;have lS:lP l.prog w K mg base cl:=xl (a32.m X G) B gu kC;have pU:pP l.prog w K mg base cl:=Du (a31.m X G) B lS;have oq:oa l.prog w K mg base cl:=Bp (a19.m X G) B;have pT:pN l.prog w K mg base cl:=Ds (a18.m X G) B oq;have iR:lA l.prog w K mg base cl:=Bs (a33.m X G) B gu iM pT;have su:sk l.prog w K mg base cl:=Gh (a36.m X G) B iR;have sv:sm l.prog w K mg base cl:=Gi (a40.m X G) B;have lT:lQ l.prog w K mg base cl:=xm (a42.m X G) B pU su jC ni iR sv;exact U8 F57 B pW oy fb kD gK dE pX lT sA lU KH
theorem walk {l:W.OpenLaw}{q:aZ}{loose:List Str}{XP:(Str->Option af)->Heap->Prop}{YP:World->Heap->Prop}{d:DefRec}{K:Params->W.Frag}(hn:l.most=some 63)(PH:d.params.defaults=[])
  (hY:∀(w:World) (h:Heap),YP w h->(K w.params).In h)
  (F:∀(w:World) (mg:Str->Option af) (fa:Addr) (h:Heap),(K w.params).In h->h.Ns aY mg->mg d.name=some (.ref fa) ->
   ∃fd:bq,(∀(s:aw) (u:af),BindsTo s fd ⟨[u],[]⟩ [("_law_script",u)])/\∀base:Heap,(K w.params).In base->base.Ns aY mg->jX l.prog w (K w.params) mg base wJ 20 fa fd ["_law_script"] (A3 (K w.params))) :
  W.WalkO q loose XP YP l.row.toRowW d [] (λf vs=>PySem.call f vs) :=
 L2.LR (n:=63) (k:=20) (x := "_law_script") (CX:=λ_=>wJ) (sp:=λw=>A3 (K w.params)) hn (!2) PH ⟨rfl,!2,!2,rfl⟩ hY F (λ_ _ a ns hl _ hS=>⟨a,ns,rfl,hS,hl,λ_=>rfl⟩) λ_ _ _ _ _ z=>z
end Odj
theorem PySem.W.Fast.tw17436191255734524550:True:=⟨⟩
theorem PySem.W.Fast.tw10353106312649724933:True:=⟨⟩
theorem PySem.W.Fast.tw80080238587826504:True:=⟨⟩
theorem PySem.W.Fast.tw15384419311760006280:True:=⟨⟩
theorem PySem.W.Fast.tw2268840778712808229:True:=⟨⟩
theorem PySem.W.Fast.tw8248294475137441083:True:=⟨⟩
theorem PySem.W.Fast.tw5272897819006904883:True:=⟨⟩
theorem PySem.W.Fast.tw9305068430864322490:True:=⟨⟩
theorem PySem.W.Fast.tw5364444150984261316:True:=⟨⟩
theorem PySem.W.Fast.tw2929622927090587564:True:=⟨⟩
theorem PySem.W.Fast.tw11095071605963073104:True:=⟨⟩
theorem PySem.W.Fast.tw6223219979872083275:True:=⟨⟩
theorem PySem.W.Fast.tw3616576281061675355:True:=⟨⟩
theorem PySem.W.Fast.tw11020452736425017027:True:=⟨⟩
theorem PySem.W.Fast.tw11672492869397132970:True:=⟨⟩
theorem PySem.W.Fast.tw10545341727080381960:True:=⟨⟩
theorem PySem.W.Fast.tw17213254637940409832:True:=⟨⟩
theorem PySem.W.Fast.tw10405258422328736861:True:=⟨⟩
theorem PySem.W.Fast.tw8262342048469398308:True:=⟨⟩
theorem PySem.W.Fast.tw4798999465585886180:True:=⟨⟩
theorem PySem.W.Fast.tw8525028228110960861:True:=⟨⟩
theorem PySem.W.Fast.tw2413257779272346411:True:=⟨⟩
theorem PySem.W.Fast.tw584104195677940662:True:=⟨⟩
theorem PySem.W.Fast.tw5106519967078012657:True:=⟨⟩
theorem PySem.W.Fast.tw15478375982775186715:True:=⟨⟩
theorem PySem.W.Fast.tw1785510682382654685:True:=⟨⟩
theorem PySem.W.Fast.tw11462441899069672945:True:=⟨⟩
theorem PySem.W.Fast.tw4760292111775980216:True:=⟨⟩
theorem PySem.W.Fast.tw11798038116447936751:True:=⟨⟩
theorem PySem.W.Fast.tw3765216627694608733:True:=⟨⟩
theorem PySem.W.Fast.tw13341469558821854549:True:=⟨⟩
theorem PySem.W.Fast.tw361816509799861698:True:=⟨⟩
theorem PySem.W.Fast.tw16698041161594252742:True:=⟨⟩
theorem PySem.W.Fast.tw2355076760252142744:True:=⟨⟩
theorem PySem.W.Fast.tw7228193159087460254:True:=⟨⟩
theorem PySem.W.Fast.tw2311549418560449885:True:=⟨⟩
theorem PySem.W.Fast.tw16835995571362283976:True:=⟨⟩
theorem PySem.W.Fast.tw14152708398774121620:True:=⟨⟩
theorem PySem.W.Fast.tw16920779077929510446:True:=⟨⟩
theorem PySem.W.Fast.tw6149838146122644907:True:=⟨⟩
theorem PySem.W.Fast.tw6199571933797660466:True:=⟨⟩
theorem PySem.W.Fast.tw12518093822054273062:True:=⟨⟩
theorem PySem.W.Fast.tw599602894823408909:True:=⟨⟩
theorem PySem.W.Fast.tw6020521122640629740:True:=⟨⟩
theorem PySem.W.Fast.tw8305592773939063807:True:=⟨⟩
theorem PySem.W.Fast.tw14714268414641806422:True:=⟨⟩
theorem PySem.W.Fast.tw6178856660092629579:True:=⟨⟩
theorem PySem.W.Fast.tw4662049412018842164:True:=⟨⟩
theorem PySem.W.Fast.tw16345356226640018154:True:=⟨⟩
theorem PySem.W.Fast.tw6013447789834964925:True:=⟨⟩
theorem PySem.W.Fast.tw18375300527519323428:True:=⟨⟩
theorem PySem.W.Fast.tw2742982582505567405:True:=⟨⟩
theorem PySem.W.Fast.tw2324320299520070816:True:=⟨⟩
theorem PySem.W.Fast.tw17858135390525092574:True:=⟨⟩
theorem PySem.W.Fast.tw5348972161603437685:True:=⟨⟩
theorem PySem.W.Fast.tw13832609651005723060:True:=⟨⟩
theorem PySem.W.Fast.tw12819681813656467953:True:=⟨⟩
theorem PySem.W.Fast.tw8829732777686761978:True:=⟨⟩
theorem PySem.W.Fast.tw12644170497831425269:True:=⟨⟩
theorem PySem.W.Fast.tw11631926365587792327:True:=⟨⟩
theorem PySem.W.Fast.tw12476371375349939481:True:=⟨⟩
theorem PySem.W.Fast.tw11659851375758164386:True:=⟨⟩
theorem PySem.W.Fast.tw9935927860105036390:True:=⟨⟩
theorem PySem.W.Fast.tw10698557729030264891:True:=⟨⟩
theorem PySem.W.Fast.tw15795341451197228282:True:=⟨⟩
theorem PySem.W.Fast.tw1615015788468461618:True:=⟨⟩
theorem PySem.W.Fast.tw11631300307663983820:True:=⟨⟩
theorem PySem.W.Fast.tw7703447021489627878:True:=⟨⟩
theorem PySem.W.Fast.tw9547464583150300916:True:=⟨⟩
theorem PySem.W.Fast.tw12557663507552317635:True:=⟨⟩
theorem PySem.W.Fast.tw6544954696529786164:True:=⟨⟩
theorem PySem.W.Fast.tw2378805471780809059:True:=⟨⟩
theorem PySem.W.Fast.tw12979684737654244029:True:=⟨⟩
theorem PySem.W.Fast.tw4360376000702538556:True:=⟨⟩
theorem PySem.W.Fast.tw5706351191520066397:True:=⟨⟩
theorem PySem.W.Fast.tw9015335686990773788:True:=⟨⟩
theorem PySem.W.Fast.tw1853781599613857700:True:=⟨⟩
theorem PySem.W.Fast.tw1224109798705513020:True:=⟨⟩
theorem PySem.W.Fast.tw721542760480431051:True:=⟨⟩
theorem PySem.W.Fast.tw4981907366600744219:True:=⟨⟩
theorem PySem.W.Fast.tw5115786104067838182:True:=⟨⟩
theorem PySem.W.Fast.tw2263982238974927399:True:=⟨⟩
theorem PySem.W.Fast.tw15455742870968987941:True:=⟨⟩
theorem PySem.W.Fast.tw13910577876081843295:True:=⟨⟩
theorem PySem.W.Fast.tw17055367078415620423:True:=⟨⟩
theorem PySem.W.Fast.tw7075998459637635387:True:=⟨⟩
theorem PySem.W.Fast.tw13593555516650311756:True:=⟨⟩
theorem PySem.W.Fast.tw9504407403864327386:True:=⟨⟩
theorem PySem.W.Fast.tw10940889462124257662:True:=⟨⟩
theorem PySem.W.Fast.tw3438584286229227008:True:=⟨⟩
theorem PySem.W.Fast.tw4870185566084440600:True:=⟨⟩
theorem PySem.W.Fast.tw9082881563469254412:True:=⟨⟩
theorem PySem.W.Fast.tw13358760218157295835:True:=⟨⟩
theorem PySem.W.Fast.tw18113541129188692182:True:=⟨⟩
theorem PySem.W.Fast.tw7293340999399931865:True:=⟨⟩
theorem PySem.W.Fast.tw7302869773693707270:True:=⟨⟩
theorem PySem.W.Fast.tw2506792595833045489:True:=⟨⟩
theorem PySem.W.Fast.tw18229413010630839936:True:=⟨⟩
theorem PySem.W.Fast.tw8226376734970206923:True:=⟨⟩
theorem PySem.W.Fast.tw3315971942049490472:True:=⟨⟩
theorem PySem.W.Fast.tw13707207363987352501:True:=⟨⟩
theorem PySem.W.Fast.tw18090288779357414331:True:=⟨⟩
theorem PySem.W.Fast.tw10494984682916223285:True:=⟨⟩
theorem PySem.W.Fast.tw15211843272082531384:True:=⟨⟩
theorem PySem.W.Fast.tw263837556090451435:True:=⟨⟩
theorem PySem.W.Fast.tw3268936579680124019:True:=⟨⟩
theorem PySem.W.Fast.tw11418559596502588119:True:=⟨⟩
theorem PySem.W.Fast.tw16052251275785079360:True:=⟨⟩
theorem PySem.W.Fast.tw16236973854810429935:True:=⟨⟩
theorem PySem.W.Fast.tw2068790260549982065:True:=⟨⟩
theorem PySem.W.Fast.tw5016120026456446069:True:=⟨⟩
theorem PySem.W.Fast.tw13872389149742433516:True:=⟨⟩
theorem PySem.W.Fast.tw10943713368398567832:True:=⟨⟩
theorem PySem.W.Fast.tw16375516310015941678:True:=⟨⟩
theorem PySem.W.Fast.tw17323738692399587320:True:=⟨⟩
theorem PySem.W.Fast.tw3353715014101196239:True:=⟨⟩
theorem PySem.W.Fast.tw12038898189964995317:True:=⟨⟩
theorem PySem.W.Fast.tw17429190509291281734:True:=⟨⟩
theorem PySem.W.Fast.tw4624162037823267406:True:=⟨⟩
theorem PySem.W.Fast.tw18171876573705185520:True:=⟨⟩
theorem PySem.W.Fast.tw5679014092357465085:True:=⟨⟩
theorem PySem.W.Fast.tw638773777752561820:True:=⟨⟩
theorem PySem.W.Fast.tw6984564980077139781:True:=⟨⟩
theorem PySem.W.Fast.tw10152323567804277655:True:=⟨⟩
open PySem PySem.W PyProof.Rows
set_option maxRecDepth 100000 in
set_option maxHeartbeats 0 in
theorem PySem.Challenge.cw_oddjoins_k86_halves_of_any_thing_holds : PySem.Challenge.rw_oddjoins_k86_halves_of_any_thing.Holds := by
 w_on; o_law; k_head; (case hw=>w_witness2)
 k_fill
 refine Odj.walk (l:=PySem.Challenge.rw_oddjoins_k86_halves_of_any_thing) rfl rfl (fun w h Y=>W.kIn_of Y) ?F
 case F =>
  intro w mg fa h KX G SX
  refine' Odj.all_mk KX G SX ?a57 ?l57 ?c57 ?k57 ?AF0 ?AF1 ?z_all ?z_bool ?z_enumerate ?z_int ?z_isinstance ?z_len ?z_list ?z_max ?z_min ?z_range ?z_repr ?z_set ?z_sorted ?z_str ?z_sum ?z_tuple ?na_JoinError ?ty_JoinError ?cl_JoinError ?na_NoWalk ?ty_NoWalk ?cl_NoWalk ?lJ ?nJ ?lN ?sJ ?iJ ?xJ ?o_NoWalk ?fiNoWalk ?fnNoWalk ?kpNoWalk ?gaNoWalk ?ghNoWalk ?saNoWalk ?hdNoWalk ?bxNoWalk ?obNoWalk ?hcNoWalk ?hgNoWalk ?tkNoWalk ?owNoWalk ?veNoWalk ?upNoWalk ?lINoWalk ?cINoWalk ?kINoWalk ?fd_NoWalk_number
  (case a57=>k_is); (case l57=>k_is); (case c57=>k_is); (case k57=>k_is)
  (case AF0=>repeat' first | exact L2.Bc | (refine L2.JG ?_ ?_) | (apply L2.Ot.of <;> k_is)); (case AF1=>repeat' first | exact L2.Bc | (refine L2.JG ?_ ?_) | (apply L2.Ot.of <;> k_is)); (case z_all=>k_is); (case z_bool=>k_is)
  (case z_enumerate=>k_is); (case z_int=>k_is); (case z_isinstance=>k_is); (case z_len=>k_is)
  (case z_list=>k_is); (case z_max=>k_is); (case z_min=>k_is); (case z_range=>k_is)
  (case z_repr=>k_is); (case z_set=>k_is); (case z_sorted=>k_is); (case z_str=>k_is)
  (case z_sum=>k_is); (case z_tuple=>k_is); (case na_JoinError=>k_is); (case ty_JoinError=>k_is)
  (case cl_JoinError=>k_is); (case na_NoWalk=>k_is); (case ty_NoWalk=>k_is); (case cl_NoWalk=>k_is)
  (case lJ=>k_is); (case nJ=>rfl); (case lN=>k_is); (case sJ=>rfl)
  (case iJ=>rfl); (case xJ=>k_is); (case o_NoWalk=>k_is); (case fiNoWalk=>k_is)
  (case fnNoWalk=>k_is); (case kpNoWalk=>k_is); (case gaNoWalk=>k_is); (case ghNoWalk=>k_is)
  (case saNoWalk=>k_is); (case hdNoWalk=>k_is); (case bxNoWalk=>k_is); (case obNoWalk=>k_is)
  (case hcNoWalk=>k_is); (case hgNoWalk=>k_is); (case tkNoWalk=>k_is); (case owNoWalk=>k_is)
  (case veNoWalk=>k_is); (case upNoWalk=>k_is); (case lINoWalk=>k_is); (case cINoWalk=>k_is)
  (case kINoWalk=>k_is); (case fd_NoWalk_number=>k_is)
