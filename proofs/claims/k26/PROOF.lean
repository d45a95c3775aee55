import PyProof.Rows.All
import Wide.All
import OpenK.AllK
import Wide.FinOn
import Lean
import PyProof.EqAt
import PyProof.EqKinds
import PyProof.TupleCall
import KE.KTryMore
import KE.KRevIter
import PyProof.CollectIter
import PyProof.P3Eq
import PyProof.MinMaxWalk
import PyProof.StrCalls2
import PyProof.FactsAll.set_2
import KE.KSortTup
import PyProof.Rows.CallKwBuiltin
import KE.KDictOf
import PyProof.Rows.TupDisplay
import PyProof.ZipIter
import KE.KItemsList
import PyProof.P3Statements
import PySem.Challenge.RW_oddjoins_k26_least_prices_told
set_option compiler.extract_closed false
set_option Elab.async false
set_option linter.all false
set_option maxRecDepth 100000
set_option maxHeartbeats 8000000
open PySem renaming wpAny_bind→aa, PyData→ag, Value→ah, wpAny_pure→aj, Shared→aw, sizeLine→az, wpAny→aG, NameKind→aQ, Program→aV, wpAny_newObj_type→aY, mainGlobals→bn, FuncData→b9, wpAny_mono→ca
open List renaming getElem?_cons_succ→ae, getElem?_cons_zero→af, mem_cons_of_mem→ai, getD_eq_getElem?_getD→am, length_map→ao, mem_cons_self→aq, map_cons→ar, mem_singleton→au, length_cons→av, mem_cons→ax, getElem?_eq_some_iff→aA, getElem?_map→aB, set_cons_zero→aC, size_toArray→aE, set_cons_succ→aF, length_append→aH, append_assoc→aJ, getElem?_eq_getElem→aK, mem_append→aL, mem_map→aM, mem_filter→aN, map_append→aO, getElem?_set_ne→aP, replicate_succ→aZ, mem_append_right→a6, length_set→be, nodup_cons→bf, nil_append→bg, drop_eq_getElem_cons→bh, map_map→bp, map_congr_left→bu, length_singleton→bv, cons_append→bw, length_nil→bz, getElem_mem→bC, getElem?_append_left→bE, replicate_zero→bG, map_nil→bH, mem_append_left→bI, getElem?_append_right→bJ, perm_ext_iff_of_nodup→bK, getElem?_eq_none→bL, find?_cons→bN, count_append→bR, drop_of_length_le→bS, take_of_length_le→bT, length_take→bY, getElem_of_mem→cb, length_filter_le→cc, count_pos_iff→ce, getElem?_replicate→cf, mem_of_getElem?→cg, append_nil→cj, pairwise_cons→cm, any_cons→cp, toArray→cq, count_singleton→cr, extract_eq_take_drop→cx, nodup_append→cz, take_succ_cons→cA, mapM_cons→cB, any_eq_true→cD, eq_nil_of_length_eq_zero→cE, getElem?_set_self→cF, range_succ_eq_map→cG, perm_append_comm→cJ, flatten_cons→cK, nodup_nil→cL, lookup_cons→cO, not_mem_nil→cR, ext_getElem→cS, filterMap_cons→cU, getElem?_range→cV, toList_toArray→cW, mem_map_of_mem→cY, filter_sublist→cZ, set_eq_of_length_le→c6, take_add_one→dc, pairwise_map→de, length_replicate→df, getElem?_toArray→dg, mem_reverse→dh, filter_cons→di, sum_cons→dj, mem_of_mem_take→dk, foldl_cons→dn, filter_append→du, reverse_perm→dz, length_erase_of_mem→dA, take_length→dC, filter_cons_of_pos→dD, filter_cons_of_neg→dE, foldl→dF, length_pos_of_mem→dH, set_set→dI
open PySem.Heap renaming get?_push_of_some→ak, get?_push_size→ay, lt_size→aD, get?_update_other→aI, get?_update_self→aT, size_push→bV, get?_push_ne→dw
open Nat renaming le_refl→ap, ne_of_lt→aR, lt_of_lt_of_le→aW, le_trans→bq, ne_of_gt→bB, zero_le→bD, lt_irrefl→bM, lt_of_succ_lt_succ→bU, lt_succ_of_lt→b8, lt_of_le_of_lt→cv, add_zero→cy, lt_succ_self→cP, succ_ne_self→cQ, add_sub_cancel_left→c8, le_of_lt→c9, not_lt_zero→dq, lt_trans→dr, le_succ→dv, le_of_not_lt→dB, zero_add→dG
open Array renaming toList_append→aU, getElem_mem→bi, length_toList→bj, getElem_toList→bo, size_extract→br, perm_iff_toList_perm→bA, toList_reverse→ci, getElem?_toList→ck, getElem_extract→cw, toList_inj→cC, toList_extract→cM, getElem_of_mem→cN, getElem?_eq_getElem→cT
open Bool renaming false_ne_true→aX, false_eq_true→bx, and_eq_true→bP, eq_iff_iff→dm
open Int renaming le_refl→bF, le_trans→bO, toNat_natCast→bQ, le_of_lt→cH, emod_lt_of_pos→cI, emod_nonneg→c7
open Option renaming map_some→bW, isSome_iff_exists→bX, getD_some→bZ, map_eq_some_iff→cu
set_option hygiene false
local macro_rules |`(tactic|rw[$n:num])=>match n.getNat with
|0=>`(tactic|simp only[af,ae])
|2=>`(tactic|simp only[aF,aC])
|3=>`(tactic|intro pins s σ H Q I h)
|6=>`(tactic|(intro _;rfl))
|999=>`(tactic|(intro _ _ _ _ _ _ us hl;first | (obtain⟨_,rfl⟩:=Fu hl;rfl) | (obtain⟨_,_,rfl⟩:=C4 hl;rfl) | (obtain⟨_,_,_,rfl⟩:=Fv hl;rfl) | (obtain⟨_,_,_,_,rfl⟩:=QY hl;rfl) | (obtain⟨_,_,_,_,_,rfl⟩:=len5 hl;rfl) | (obtain⟨_,_,_,_,_,_,rfl⟩:=len6 hl;rfl) | (cases us<;>first | rfl | cases hl)))
|_=>Lean.Macro.throwUnsupported
local macro_rules |`(!$n:num)=>match n.getNat with
|1=>`(by omega)
|2=>`(by decide)
|3=>`(by decide +kernel)
|4=>`(by simp)
|10=>`((model prog w))
|11=>`((model X.prog X.w))
|12=>`(("__debug__" : Str))
|13=>`((fq X sc N cl C s₂ H₂ fp))
|14=>`((.ref s.heap.objs.size))
|15=>`((arrOf st))
|17=>`((KE.loose d4))
|18=>`(("__classdict__" : Str))
|19=>`((Addr × Obj))
|20=>`((kvs.map (·.2)))
|21=>`((kv.map (·.1)))
|22=>`((uC (.int 0)))
|23=>`((ns.map V.int))
|24=>`((.refl _ _))
|25=>`((.Name x p))
|26=>`((arrOf eK))
|_=>Lean.Macro.throwUnsupported
noncomputable section
namespace L2
open PySem PySem.Spec PyProof.Rows
noncomputable abbrev Key:=Sum Int Str
noncomputable def qL:Key->ah->Bool
 | .inl k,v=>ah.isInt k v
 | .inr x,v=>ah.isStrOf x v
noncomputable def SQ (w:World):Key->Int
 | .inl k=>hashInt k
 | .inr x=>hashStr w x
theorem fx:∀{k:Key} {v:ah},qL k v=true->(∃i t,k=Sum.inl i/\v=ah.int i t)\/(∃x t,k=Sum.inr x/\v=ah.str x t)
 | .inl i,v,h=>by
  obtain⟨t,e⟩:=ah.isInt_shape (k:=i) (v:=v) h;exact .inl ⟨i,t,rfl,e⟩
 | .inr x,v,h=>by
  obtain⟨t,e⟩:=ah.isStrOf_shape (x:=x) (v:=v) h;exact .inr ⟨x,t,rfl,e⟩
theorem Cn (i:Int)(t:Tok):qL (.inl i) (.int i t)=true:=by simp[qL,ah.isInt]
theorem Co (x:Str)(t:Tok):qL (.inr x) (.str x t)=true:=by simp[qL,ah.isStrOf]
theorem LB (a b:Int):decide ((Sum.inl a:Key)=Sum.inl b)=(a == b):=by
 by_cases e:a=b
 .subst e;simp
 .have h:¬ (Sum.inl a:Key)=Sum.inl b:=λq=>e (Sum.inl.inj q)
  rw[decide_eq_false h];exact (beq_eq_false_iff_ne.mpr e).symm
theorem LC (a b:Str):decide ((Sum.inr a:Key)=Sum.inr b)=decide (a=b):=by
 by_cases e:a=b
 .subst e;simp
 .have h:¬ (Sum.inr a:Key)=Sum.inr b:=λq=>e (Sum.inr.inj q)
  rw[decide_eq_false h,decide_eq_false e]
theorem LD (a:Int)(b:Str):decide ((Sum.inl a:Key)=Sum.inr b)=false:=decide_eq_false (λq=>nomatch q)
theorem LF (a:Str)(b:Int):decide ((Sum.inr a:Key)=Sum.inl b)=false:=decide_eq_false (λq=>nomatch q)
noncomputable def eI (prog:aV)(w:World):PySem.KeyKind prog w Key where
 is:=qL
 hash:=SQ w
 inj:=λv a b ha hb=>by
  rcases fx ha with⟨i,t,rfl,rfl⟩ | ⟨x,t,rfl,rfl⟩
  .rcases fx hb with⟨j,u,rfl,e⟩ | ⟨y,u,rfl,e⟩
   .injection e with e1 _;rw[e1]
   .exact nomatch e
  .rcases fx hb with⟨j,u,rfl,e⟩ | ⟨y,u,rfl,e⟩
   .exact nomatch e
   .injection e with e1 _;rw[e1]
 byValue:=λk v h=>by
  rcases fx h with⟨i,t,rfl,rfl⟩ | ⟨x,t,rfl,rfl⟩<;>rfl
 pyHash:=λhv h=>by
  rcases fx hv with⟨i,t,rfl,rfl⟩ | ⟨x,t,rfl,rfl⟩
  .exact wpAny_pyHash_int h
  .exact wpAny_pyHash_str h
 eqBool:=λhu hv h=>by
  rcases fx hu with⟨i,t,rfl,rfl⟩ | ⟨x,t,rfl,rfl⟩
  .rcases fx hv with⟨j,u,rfl,rfl⟩ | ⟨y,u,rfl,rfl⟩
   .rw[LB] at h;exact wpAny_eqBool_int h
   .rw[LD] at h;exact SeqAt.EqAt.int_str i t y u _ _ _ _ h
  .rcases fx hv with⟨j,u,rfl,rfl⟩ | ⟨y,u,rfl,rfl⟩
   .rw[LF] at h;exact SeqAt.EqAt.str_int x t j u _ _ _ _ h
   .rw[LC] at h;exact wpAny_eqBool_str h
 «strs»:=λk x t v h=>by
  rcases fx h with⟨i,u,rfl,e⟩ | ⟨y,u,rfl,e⟩
  .exact nomatch e
  .injection e with e1 _
   subst e1;cases v<;>rfl
theorem wK (prog:aV)(w:World)(i:Int)(t:Tok):(eI prog w).is (.inl i) (.int i t)=true:=Cn i t
theorem wL (prog:aV)(w:World)(x:Str)(t:Tok):(eI prog w).is (.inr x) (.str x t)=true:=Co x t
inductive V where
 | gC | bl (b:Bool) | int (i:Int) | str (x:Str) | Hj (b:Array UInt8) | Om (b:UInt64) | ref (a:Addr) | ty (n:String)
 deriving DecidableEq
noncomputable def RelV:V->ah->Prop
 | .gC,u=>u=ah.none
 | .bl b,u=>u=ah.bool b
 | .int i,u=>∃t,u=ah.int i t
 | .str x,u=>∃t,u=ah.str x t
 | .Hj b,u=>∃t,u=ah.bytes b t
 | .Om b,u=>∃t,u=ah.float b t
 | .ref a,u=>u=ah.ref a
 | .ty n,u=>u=ah.type n
noncomputable abbrev eg:List V->List ah->Prop:=Paired RelV
theorem eg.length (r:eg xs us):xs.length=us.length:=Paired.length r
theorem eg.get:∀{xs:List V} {us:List ah} {i:Nat} {x:V},eg xs us->xs[i]? = some x->∃u,us[i]? = some u/\RelV x u
 | _,_,_,_,.nil,e=>by simp at e
 | _,_,0,_,.cons r _,e=>by simp at e;subst e;exact⟨_,rfl,r⟩
 | _,_,i+1,x,.cons _ t,e=>by
  obtain⟨u,h1,h2⟩:=eg.get (i:=i) (x:=x) t (by simpa using e);exact⟨u,by simpa using h1,h2⟩
theorem eg.set (r:RelV x u):∀{xs:List V} {us:List ah} (i:Nat),eg xs us->eg (xs.set i x) (us.set i u)
 | _,_,_,.nil=>.nil
 | _,_,0,.cons _ t=>.cons r t
 | _,_,i+1,.cons q t=>.cons q (eg.set r i t)
theorem eg.append:∀{xs ys:List V} {us ws:List ah},eg xs us->eg ys ws->eg (xs++ys) (us++ws)
 | _,_,_,_,.nil,s=>s
 | _,_,_,_,.cons r t,s=>.cons r (eg.append t s)
theorem eg.take:∀{xs:List V} {us:List ah} (n:Nat),eg xs us->eg (xs.take n) (us.take n)
 | _,_,0,_=>.nil
 | _,_,_+1,.nil=>.nil
 | _,_,n+1,.cons r t=>.cons r (eg.take n t)
theorem eg.drop:∀{xs:List V} {us:List ah} (n:Nat),eg xs us->eg (xs.drop n) (us.drop n)
 | _,_,0,r=>r
 | _,_,_+1,.nil=>.nil
 | _,_,n+1,.cons _ t=>eg.drop n t
noncomputable def nV:Option V->Option ah->Prop
 | some v,some u=>RelV v u
 | none,none=>True
 | _,_=>False
noncomputable def KV {κ:Type}:List (κ × V)->List (κ × ah)->Prop:=Paired λ(p:κ × V) (q:κ × ah)=>p.1=q.1/\RelV p.2 q.2
noncomputable def kV:Key->V
 | .inl i=>.int i
 | .inr x=>.str x
inductive HO where
 | lst (xs:List V)
 | tup (xs:List V)
 | dK (kvs:List (Key × V)) | dT (kvs:List (List Key × V))
 | set (S:Int->Bool) (n:Nat)
 | ins (C dx:Addr) (fs:List (Str × V))
 | own (x:Addr)
 | xd (fs:List (Str × V))
 | met (f x:Addr)
 | SR (lo hi:Int)
 | nj (o:Obj) (u:HO)
 | LG (ps:Array ah)
 | ext (φ:Heap->Prop)
noncomputable abbrev Hp:=Addr->Option HO
noncomputable def eM (H:Hp)(a:Addr)(o:HO):Hp:=λb=>if b=a then some o else H b
theorem dP:eM H a o a=some o:=by unfold eM;rw[if_pos rfl]
theorem dU (h:b≠a):eM H a o b=H b:=by unfold eM;rw[if_neg h]
theorem OM {H:Hp}{a b:Addr}{o u:HO}(h:H a=some o)(h':H b=some u)(d:o≠u):a≠b:=by
 intro e;subst e;rw[h] at h';exact d (Option.some.inj h')
theorem fo {H:Hp}{a b:Addr}{o:HO}(h:H a=some o)(h':H b=none):a≠b:=by
 intro e;subst e;rw[h] at h';cases h'
section
variable (P:aV)(w:World)
noncomputable def u4 (h:Heap)(a:Addr)(items:Array ah):Prop:=∃o,h.get? a=some o/\o.cls=.type "tuple" /\ ∃n,o.data=.seq items n/\o.dict=none
omit P w in
theorem u4.tup (p:u4 h a items):IsTup h a items:=let ⟨o,e,c,n,d,_⟩:=p;⟨o,e,c,n,d⟩
omit P w in
theorem u4.new (h:Heap)(items:Array ah):u4 (h.push { cls:=.type "tuple",data:=.seq items }) h.objs.size items:=⟨_,ay _ rfl,rfl,_,rfl,rfl⟩
noncomputable def fH (H:Hp)(h:Heap)(a:Addr):HO->Prop
 | .lst xs=>xs.length<=az/\∃(its:List ah) (n:Nat),eg xs its/\h.get? a=some { cls:=.type "list",data:=.seq its.toArray n }
 | .tup xs=>xs.length<=az/\∃its:List ah,eg xs its/\u4 h a its.toArray
 | .dK kvs=>kvs.length<=az/\(a == sysModules)=false/\∃vs,KV kvs vs/\h.DictOf (eI P w) a vs
 | .dT kvs=>kvs.length<=az/\(a == sysModules)=false/\∃xs:List (List Key × Addr × ah),
   Paired (λ(p:List Key × V) (q:List Key × Addr × ah)=>p.1=q.1/\H q.2.1=some (.tup (p.1.map kV))/\RelV p.2 q.2.2) kvs xs /\
   ∃o es ep,h.get? a=some o/\o.ExactDict/\o.data=.dict es ep/\es.toList=xs.map (entryOfKey (tupleKind (eI P w)))/\(xs.map (·.1)).Nodup
 | .set S n=>h.SetOf (intKind P w) a S n
 | .ins C dx fs=>H dx=some (.own a)/\fs.length<=1000/\dx≠a/\h.get? a=some (W.instObj C dx) /\
   ∃mA,h.Ns1 dx mA/\(∀f,nV (fs.lookup f) (mA f))/\PySem.Within mA (fs.map (·.1))
 | .own _=>∃o,h.get? a=some o
 | .xd fs=>∃mA,h.Ns1 a mA/\∀f,nV (fs.lookup f) (mA f)
 | .SR lo hi=>∃t u v,h.get? a=some { cls:=.type "range",data:=.fields #[.int lo t,.int hi u,.int 1 v] }
 | .nj o u=>h.get? a=some o/\fH H h a u
 | .LG ps=>h.get? a=some { cls:=.none,data:=.fields ps }
 | .met f x=>h.get? a=some (W.methodObj (.ref f) (.ref x))
 | .ext φ=>φ h/\(∃o,h.get? a=some o)/\∀h1 h2:Heap,φ h1->(∀o,h1.get? a=some o->h2.get? a=some o)->φ h2
noncomputable def lD (H:Hp)(h:Heap):Prop:=∀a o,H a=some o->fH P w H h a o
end
section
variable {P:aV}{w:World}{H H':Hp}{h h':Heap}{a:Addr}{o:HO}
theorem fH.lt (x:fH P w H h a o):a<h.objs.size:=by
 cases o with
 | lst xs=>obtain⟨_,_,_,_,e⟩:=x;exact aD e
 | tup xs=>obtain⟨_,_,_,p⟩:=x;exact p.tup.lt
 | dK kvs=>obtain⟨_,_,_,_,o,_,_,e,_⟩:=x;exact aD e
 | dT kvs=>obtain⟨_,_,_,_,o,_,_,e,_⟩:=x;exact aD e
 | set S n=>obtain⟨o,_,_,_,e,_⟩:=x;exact aD e
 | ins C dx fs=>obtain⟨_,_,_,e,_⟩:=x;exact aD e
 | own y=>obtain⟨_,e⟩:=x;exact aD e
 | xd fs=>obtain⟨_,⟨_,_,_,e,_⟩,_⟩:=x;exact aD e
 | SR lo hi=>obtain⟨_,_,_,e⟩:=x;exact aD e
 | nj ob u=>obtain⟨e,_⟩:=x;exact aD e
 | LG ps=>exact aD (show h.get? a=some _ from x)
 | met f y=>exact aD (show h.get? a=some _ from x)
 | ext φ=>obtain⟨_,⟨_,e⟩,_⟩:=x;exact aD e
theorem Paired.LH {α β:Type}{F G:α->β->Prop}:∀{l₁:List α} {l₂:List β},Paired F l₁ l₂->(∀a b,F a b->G a b)->Paired G l₁ l₂
 | _,_,.nil,_=>.nil
 | _,_,.cons r t,f=>.cons (f _ _ r) (Paired.LH t f)
theorem fH.ze (x:fH P w H h a o)(k:∀b u,(b=a\/H b=some (.own a))->h.get? b=some u->h'.get? b=some u)
  (ho:∀b,H b=some (.own a)->H' b=some (.own a)) (ht:∀b xs,H b=some (.tup xs)->H' b=some (.tup xs)):fH P w H' h' a o:=by
 induction o with
 | lst xs=>obtain⟨z,its,n,r,e⟩:=x;exact⟨z,its,n,r,k _ _ (.inl rfl) e⟩
 | tup xs=>obtain⟨z,its,r,ob,e,c⟩:=x;exact⟨z,its,r,ob,k _ _ (.inl rfl) e,c⟩
 | dK kvs=>obtain⟨z,y,vs,r,ob,es,ep,e,c⟩:=x;exact⟨z,y,vs,r,ob,es,ep,k _ _ (.inl rfl) e,c⟩
 | dT kvs =>
  obtain⟨z,y,xs,r,ob,es,ep,e,c⟩:=x;exact⟨z,y,xs,Paired.LH r λp q z=>⟨z.1,ht _ _ z.2.1,z.2.2⟩,ob,es,ep,k _ _ (.inl rfl) e,c⟩
 | set S n=>obtain⟨ob,es,ep,t,e,c⟩:=x;exact⟨ob,es,ep,t,k _ _ (.inl rfl) e,c⟩
 | ins C dx fs =>
  obtain⟨d,z,ne,e,mA,⟨od,es,ep,e2,c⟩,r⟩:=x;exact⟨ho _ d,z,ne,k _ _ (.inl rfl) e,mA,⟨od,es,ep,k _ _ (.inr d) e2,c⟩,r⟩
 | own y=>obtain⟨ob,e⟩:=x;exact⟨ob,k _ _ (.inl rfl) e⟩
 | xd fs=>obtain⟨mA,⟨od,es,ep,e,c⟩,r⟩:=x;exact⟨mA,⟨od,es,ep,k _ _ (.inl rfl) e,c⟩,r⟩
 | SR lo hi=>obtain⟨t,u,v,e⟩:=x;exact⟨t,u,v,k _ _ (.inl rfl) e⟩
 | nj ob u ih=>obtain⟨e,q⟩:=x;exact⟨k _ _ (.inl rfl) e,ih q⟩
 | LG ps =>
  have e:h.get? a=some { cls:=.none,data:=.fields ps }:=x;show h'.get? a=some { cls:=.none,data:=.fields ps };exact k a _ (.inl rfl) e
 | met f y =>
  have e:h.get? a=some (W.methodObj (.ref f) (.ref y)):=x;show h'.get? a=some (W.methodObj (.ref f) (.ref y));exact k a _ (.inl rfl) e
 | ext φ=>obtain⟨p,⟨o,e⟩,st⟩:=x;exact⟨st _ _ p λo q=>k _ _ (.inl rfl) q,⟨o,k _ _ (.inl rfl) e⟩,st⟩
theorem lD.lt (x:lD P w H h)(e:H a=some o):a<h.objs.size:=(x a o e).lt
theorem lD.fresh (x:lD P w H h)(e:h.objs.size<=a):H a=none:=by
 cases q:H a with
 | none=>rfl
 | some u=>exact absurd (aW (x.lt q) e) (bM _)
theorem lD.kept (x:lD P w H h)(k:∀b u,h.get? b=some u->h'.get? b=some u):lD P w H h':=λa o e =>
 (x a o e).ze (λb u _ q=>k b u q) (λ_ q=>q) λ_ _ q=>q
theorem lD.laid (x:lD P w H h)(k:∀b u,h.get? b=some u->h'.get? b=some u)(hp:h.objs.size<=a)(new:fH P w (eM H a o) h' a o):lD P w (eM H a o) h':=λb u e=>by
 have hn:=x.fresh hp;by_cases hb:b=a
 .subst hb;rw[dP] at e;cases e;exact new
 .rw[dU hb] at e
  exact (x b u e).ze (λc v _ q=>k c v q) (λc q=>by rw[dU (fo q hn)];exact q) λc xs q=>by rw[dU (fo q hn)];exact q
end
noncomputable def Rd (H:Hp)(a:Addr)(u:HO):Prop:=H a=some u\/∃o,H a=some (.nj o u)
theorem Rd.ok (r:Rd H a u)(x:lD P w H h):fH P w H h a u:=by
 rcases r with r | ⟨o,r⟩
 .exact x a u r
 .obtain⟨_,q⟩:=x a _ r
  exact q
noncomputable def ON:Option HO->Prop
 | some (.lst _)=>True
 | some (.dK _)=>True
 | some (.dT _)=>True
 | some (.set _ _)=>True
 | some (.ins _ _ _)=>True
 | some (.ext _)=>True
 | _=>False
section
theorem lD.write (ok:lD P w H h)(mu:ON (H x))(he:e=x\/H e=some (.own x))(k:∀b u,b≠e->h.get? b=some u->h'.get? b=some u)(Oo:∃u,h'.get? e=some u)
  (new:fH P w (eM H x o') h' x o'):lD P w (eM H x o') h':=λb u q=>by
 have OO:∀c y,H c=some (.own y)->c≠x:=λc y r z=>by subst z;rw[r] at mu;exact mu
 have SS:∀c xs,H c=some (.tup xs)->c≠x:=λc xs r z=>by subst z;rw[r] at mu;exact mu
 by_cases hb:b=x
 .subst hb;rw[dP] at q;cases q;exact new
 .rw[dU hb] at q
  by_cases LI:b=e
  .have q':H b=some (.own x):=by
    rcases he with z | z
    .exact absurd (LI.trans z) hb
    .rw[LI];exact z
   rw[q] at q';cases q';obtain⟨v,hv⟩:=Oo;exact⟨v,by rw[LI];exact hv⟩
  .refine (ok b u q).ze (λc v hc r=>k c v ?_ r) (λc r=>by rw[dU (OO c b r)];exact r) λc xs r=>by rw[dU (SS c xs r)];exact r
   rcases hc with rfl | hc
   .exact LI
   .rintro rfl
    rcases he with z | z
    .exact OO c b hc z
    .rw[hc] at z;cases z;exact hb rfl
end
structure Un (fs ex:List Addr) (H H':Hp) (h h':Heap):Prop where
 keep:∀b o,h.get? b=some o->H b=none->b ∉ fs->b ∉ ex->h'.get? b=some o
 slot:∀b o,h.get? b=some o->H b=none->b∈fs->b ∉ ex->∃sl,h'.get? b=some { o with slots:=sl }
 free:∀b o,h.get? b=some o->H b=none->b ∉ ex->H' b=none
 there:∀b o,h.get? b=some o->b ∉ ex->∃o',h'.get? b=some o'
 wM:∀b xs,H b=some (.tup xs)->H' b=some (.tup xs)
 u5:∀b o u,H b=some (.nj o u)->H' b=some (.nj o u)
 wN:∀b ps,H b=some (.LG ps)->∃more,H' b=some (.LG (ps++more))
section
variable {fs YQ ex YR:List Addr}{H H1 H2:Hp}{h h1 h2 h':Heap}{a x e:Addr}{o:HO}
theorem Un.any (u:Un fs ex H H1 h h1)(q:h.get? b=some ob)(n:H b=none)(hx:b ∉ ex):∃sl,h1.get? b=some { ob with slots:=sl }:=by
 by_cases hb:b∈fs
 .exact u.slot b ob q n hb hx
 .exact⟨ob.slots,u.keep b ob q n hb hx⟩
theorem Un.kept (k:∀b u,h.get? b=some u->h'.get? b=some u):Un fs ex H H h h' :=
 ⟨λb ob q _ _ _=>k b ob q,λb ob q _ _ _=>⟨ob.slots,k b ob q⟩,λ_ _ _ n _=>n,λb ob q _=>⟨ob,k b ob q⟩,λ_ _ q=>q,λ_ _ _ q=>q,λ_ ps q=>⟨#[],by rw[q];simp⟩⟩
theorem Un.refl:Un fs ex H H h h:=Un.kept λ_ _ q=>q
theorem Un.laid (k:∀b u,h.get? b=some u->h'.get? b=some u)(hp:h.objs.size<=a)(hn:H a=none):Un fs ex H (eM H a o) h h' where
 keep:=λb u q _ _ _=>k b u q
 slot:=λb u q _ _ _=>⟨u.slots,k b u q⟩
 free:=λb u q n _=>by rw[dU (aR (aW (aD q) hp))];exact n
 there:=λb u q _=>⟨u,k b u q⟩
 wM:=λb xs q=>by rw[dU (fo q hn)];exact q
 u5:=λb u xs q=>by rw[dU (fo q hn)];exact q
 wN:=λb ps q=>⟨#[],by rw[dU (fo q hn),q];simp⟩
theorem Un.write (mu:ON (H x))(he:e=x\/H e=some (.own x))(k:∀b u,b≠e->h.get? b=some u->h'.get? b=some u)(Oo:∃u,h'.get? e=some u):Un fs ex H (eM H x o) h h':=by
 have hx:∀b,H b=none->b≠x:=λb n z=>by subst z;rw[n] at mu;exact mu
 have hb:∀b,H b=none->b≠e:=λb n z=>by
  subst z;rcases he with r | r
  .exact hx b n r
  .rw[n] at r;cases r
 have hm:∀b u,H b=some u->¬ ON (some u)->b≠x:=λb u q nm z=>by subst z;rw[q] at mu;exact nm mu
 refine⟨λb u q n _ _=>k b u (hb b n) q,λb u q n _ _=>⟨u.slots,k b u (hb b n) q⟩,λb u q n _=>by rw[dU (hx b n)];exact n,λb u q _=>?_,
  λb xs q=>by rw[dU (hm b _ q λz=>z)];exact q,λb u xs q=>by rw[dU (hm b _ q λz=>z)];exact q,λb ps q=>⟨#[],by rw[dU (hm b _ q λz=>z),q];simp⟩⟩
 by_cases LI:b=e
 .subst LI;exact Oo
 .exact⟨u,k b u LI q⟩
end
noncomputable def RY (h:Heap)(H:Hp):List Addr:=(List.range h.objs.size).filter λa=>(H a).isSome
noncomputable def u6 (h:Heap)(H:Hp):Heap:=W.hideAll h (RY h H)
theorem Cp (h:Heap)(H:Hp):(u6 h H).objs.size=h.objs.size:=W.hideAll_size _ _
theorem DW (e:h.get? b=some o)(n:H b=none):(u6 h H).get? b=some o :=
 W.hideAll_get _ e λhm=>by
  have q:(H b).isSome=true:=(aN.mp hm).2;rw[n] at q;simp at q
theorem Hk (e:(u6 h H).get? b=some o):h.get? b=some o/\H b=none:=by
 have e':h.get? b=some o:=W.of_hideAll (RY h H) e;refine⟨e',?_⟩
 cases q:H b with
 | none=>rfl
 | some x =>
  have hm:b∈RY h H:=aN.mpr ⟨List.mem_range.mpr (aD e'),by simp[q]⟩;have z:(u6 h H).get? b=none:=W.hideAll_none (RY h H) hm;rw[z] at e;cases e
noncomputable def Hl (g h:Heap)(L:Addr):List (!19):=(List.range h.objs.size).filterMap λa=>if a=L\/(g.get? a).isSome=true then none else (h.get? a).map λo=>(a,o)
noncomputable def rest (g h:Heap)(L d:Addr):List (!19):=(Hl g h L).filter λp=>decide (p.1≠d)
structure Mod (K:W.Frag) (mg:Str->Option ah) (base:Heap):Prop where
 SU:K.In base
 glob:base.Ns bn mg
 blt:∃mb,base.Ns builtinsNs mb/\∀x:Str,x ≠ "__name__" -> mb x=bootBuiltins x
 nolimit:base.NoLimit
structure Cx where
 prog:aV
 w:World
 K:W.Frag
 mg:Str->Option ah
 base:Heap
 A:Around
 N:List Str
 s₀:aw
 H₀:Hp
 env:Env
 outer:List Env
 stack:List Env
 ex:List Addr
 fn:Str->Bool
 calm:Bool
 pn:List (!19)
 xe:ah->aw->Prop
noncomputable def zg (l:List Env):List Addr:=l.filterMap (·.frame)
noncomputable abbrev Cx.fs (X:Cx):List Addr:=zg X.outer
noncomputable def qM (sc:Scope)(x:Str):Prop:=sc.names.lookup x=some .local\/sc.names.lookup x=some .cell\/sc.names.lookup x=some .free
noncomputable def Loc (sc:Scope)(x:Str):Prop:=sc.names.lookup x=some .local\/sc.names.lookup x=some .cell
noncomputable def Look (env:Env)(h:Heap)(m:Str->Option ah)(x:Str)(u:ah):Prop :=
 (env.kindOf x=some .local/\m x=some u)\/((env.kindOf x=some .cell\/env.kindOf x=some .free)/\∃c,env.cells.lookup x=some c/\h.IsCell c (some u))
structure Cx.Ok (X:Cx):Prop where
 mod:Mod X.K X.mg X.base
 kind:X.env.scope.kind=.function
 glob:X.env.globals=bn
 blt:X.env.builtins=builtinsNs
 above:X.s₀.heap.objs.size<=X.env.locals
 inj:∀x y c,X.env.cells.lookup x=some c->X.env.cells.lookup y=some c->x=y
 has:∀x,(X.env.kindOf x=some .cell\/X.env.kindOf x=some .free)->∃c,X.env.cells.lookup x=some c
 OP:∀x c,X.fn x=true->X.env.cells.lookup x=some c->X.s₀.heap.objs.size<=c
 hd:X.calm=true->X.A.handled=none
 frames:X.A.frames=some X.stack
 RZ:X.stack=X.outer\/(X.stack=X.env::X.outer/\X.env.frame=some X.env.locals)
 Vz:∀b∈X.ex,b≠X.env.locals/\∀x c,X.env.cells.lookup x=some c->c≠b
 bs:∀b o,X.base.get? b=some o->X.s₀.heap.get? b=some o/\X.H₀ b=none
 LJ:X.base.objs.size<=X.s₀.heap.objs.size
 DX:∀b o,X.base.get? b=some o->b ∉ X.ex
 Hm:∀b∈X.ex,b ∉ X.fs
 qN:X.s₀.heap.FunFrames X.base X.outer
 Oq:∀b∈X.fs,X.H₀ b=none
structure Inv (X:Cx) (pins:List (Addr × Obj)) (σ:List (Option V)) (H:Hp) (s:aw):Prop where
 ok:X.Ok
 os:s.os=X.s₀.os
 bare:AllBare s.gens
 base:Un X.fs X.ex X.H₀ H X.s₀.heap s.heap
 loc:∃m,s.heap.Ns X.env.locals m/\∀(i:Nat) (x:Str) (v:V),X.N[i]? = some x->σ[i]? = some (some v)->qM X.env.scope x->∃u,RelV v u/\Look X.env s.heap m x u
 cell:∀x c,X.env.cells.lookup x=some c->∃v,s.heap.IsCell c v
 free:H X.env.locals=none
 mW:∀x c,X.env.cells.lookup x=some c->H c=none
 pin:∀p∈X.pn++pins,s.heap.get? p.1=some p.2/\H p.1=none/\p.1≠X.env.locals/\p.1 ∉ X.fs/\∀v,p.2.data≠.cell v
 eP:lD X.prog X.w H s.heap
 len:σ.length=X.N.length
section
variable {X:Cx}{pins:List (Addr × Obj)}{σ:List (Option V)}{H H':Hp}{s:aw}{h':Heap}
theorem Cx.Ok.SV (ok:X.Ok){b:Addr}{o:Obj}(e:X.base.get? b=some o):b ∉ X.fs:=λhb=>by
 have:=(ok.qN.mem hb).1;rw[e] at this;cases this
theorem Inv.bs (I:Inv X pins σ H s):∀b o,X.base.get? b=some o->s.heap.get? b=some o/\H b=none:=λb o e =>
 ⟨I.base.keep b o (I.ok.bs b o e).1 (I.ok.bs b o e).2 (I.ok.SV e) (I.ok.DX b o e),I.base.free b o (I.ok.bs b o e).1 (I.ok.bs b o e).2 (I.ok.DX b o e)⟩
theorem Inv.bk (I:Inv X pins σ H s):∀b o,X.base.get? b=some o->s.heap.get? b=some o:=λb o e=>(I.bs b o e).1
theorem Inv.mod (I:Inv X pins σ H s):Mod X.K X.mg X.base:=I.ok.mod
theorem Inv.wO (I:Inv X pins σ H s):X.K.In s.heap:=I.ok.mod.SU.keeps I.bk
theorem Inv.lt (I:Inv X pins σ H s):X.env.locals<s.heap.objs.size:=let ⟨_,hn,_⟩:=I.loc;hn.lt
theorem Inv.sz (I:Inv X pins σ H s):X.s₀.heap.objs.size<=s.heap.objs.size:=bq I.ok.above (c9 I.lt)
theorem Inv.OQ (I:Inv X pins σ H s)(h:s.heap.objs.size<=a):a ∉ X.fs:=λhb=>by
 obtain⟨_,o,ho,_⟩:=I.ok.qN.mem hb;exact absurd (aW (aD ho) (bq I.sz h)) (bM _)
theorem Inv.LK (I:Inv X pins σ H s):∀x c,X.env.cells.lookup x=some c->c≠X.env.locals:=λx c e z=>by
 obtain⟨v,o,ho,hd⟩:=I.cell x c e;obtain⟨m,⟨o',es,ep,LL,WA,_⟩,_⟩:=I.loc;rw[z,LL] at ho;cases ho;rw[WA] at hd;cases hd
theorem Inv.qN (I:Inv X pins σ H s):s.heap.FunFrames X.base X.outer:=by
 have all:∀(l:List Env),(∀b∈zg l,b∈X.fs)->X.s₀.heap.FunFrames X.base l->s.heap.FunFrames X.base l:=by
  intro l
  induction l with
  | nil=>intro _ _;trivial
  | cons env r ih =>
   intro hs hl;obtain⟨hk,⟨L,o,hf,hn,ho,hd⟩,hr⟩:=hl;have hL:L∈X.fs:=hs L (by unfold zg;rw[cU,hf];exact aq);obtain⟨sl,e⟩:=I.base.slot L o ho (I.ok.Oq L hL) hL λz=>I.ok.Hm L z hL;exact⟨hk,⟨L,_,hf,hn,e,hd⟩,ih (λb hb=>hs b (by unfold zg;rw[cU,hf];exact ai _ hb)) hr⟩
 exact all X.outer (λ_ hb=>hb) I.ok.qN
theorem Inv.stack (I:Inv X pins σ H s):s.heap.FunFrames X.base X.stack:=by
 rcases I.ok.RZ with e | ⟨e,hf⟩
 .rw[e];exact I.qN
 .rw[e]
  obtain⟨m,hn,_⟩:=I.loc;refine .cons (by rw[I.ok.kind];decide) hf hn ?_ I.qN;exact Heap.get?_none_of_le (bq I.ok.LJ I.ok.above)
theorem Inv.qO (I:Inv X pins σ H s):∀b∈zg X.stack,b∈X.env.locals::X.fs:=λb hb=>by
 rcases I.ok.RZ with e | ⟨e,hf⟩
 .rw[e] at hb;exact ai _ hb
 .rw[e] at hb
  unfold zg at hb;rw[cU,hf] at hb;exact hb
theorem Inv.A3 (I:Inv X pins σ H s):∀b∈zg X.stack,H b=none:=λb hb=>by
 rcases ax.mp (I.qO b hb) with e | hb
 .rw[e];exact I.free
 .obtain⟨_,o,ho,_⟩:=I.ok.qN.mem hb
  exact I.base.free b o ho (I.ok.Oq b hb) λz=>I.ok.Hm b z hb
theorem Inv.step {g':Array GenState}{t':Nat}{d':Drawn}{ch:List Addr}(I:Inv X pins σ H s)
  (A4:∀b∈ch,(b∈X.ex\/X.s₀.heap.objs.size<=b)/\b≠X.env.locals/\(∀x c,X.env.cells.lookup x=some c->c≠b)/\∀p∈X.pn++pins,p.1≠b)
  (keep:∀b o,b≠X.env.locals->b ∉ X.fs->b ∉ ch->s.heap.get? b=some o->H b=none->h'.get? b=some o)
  (slot:∀b o,b≠X.env.locals->b∈X.fs->b ∉ ch->s.heap.get? b=some o->H b=none->∃sl,h'.get? b=some { o with slots:=sl }) (free:∀b o,b ∉ ch->s.heap.get? b=some o->H b=none->H' b=none)
  (there:∀b o,b ∉ ch->s.heap.get? b=some o->∃o',h'.get? b=some o')
  (wM:∀b xs,H b=some (.tup xs)->H' b=some (.tup xs)) (u5:∀b o u,H b=some (.nj o u)->H' b=some (.nj o u)) (wN:∀b ps,H b=some (.LG ps)->∃more,H' b=some (.LG (ps++more)))
  (ns:∀m,s.heap.Ns X.env.locals m->h'.Ns X.env.locals m) (eP:lD X.prog X.w H' h') (hg:AllBare g') :
  Inv X pins σ H' { s with heap:=h',gens:=g',drawn:=d',toks:=t' }:=by
 have VA:∀b o,X.s₀.heap.get? b=some o->b≠X.env.locals:=λb o e=>aR (aW (aD e) I.ok.above)
 have R0:∀b o,X.s₀.heap.get? b=some o->b ∉ X.ex->b ∉ ch:=λb o e hx hb=>by
  rcases (A4 b hb).1 with z | z
  .exact hx z
  .exact absurd (aW (aD e) z) (bM _)
 have Kh:∀x c,X.env.cells.lookup x=some c->∀v,s.heap.IsCell c v->h'.IsCell c v:=λx c e v ⟨o,ho,hd⟩=>by
  have OR:c ∉ ch:=λz=>(A4 c z).2.2.1 x c e rfl;by_cases hc:c∈X.fs
  .obtain⟨sl,q⟩:=slot c o (I.LK x c e) hc OR ho (I.mW x c e)
   exact⟨_,q,hd⟩
  .exact⟨o,keep c o (I.LK x c e) hc OR ho (I.mW x c e),hd⟩
 refine⟨I.ok,I.os,hg,⟨λb o e n hb hx=>?_,λb o e n hb hx=>?_,λb o e n hx=>?_,λb o e hx=>?_,λb xs e=>wM b xs (I.base.wM b xs e),λb o xs e=>u5 b o xs (I.base.u5 b o xs e),λb ps e=>?_⟩,?_,λx c e=>?_,?_,λx c e=>?_,λp hp=>?_,eP,I.len⟩
 .exact keep b o (VA b o e) hb (R0 b o e hx) (I.base.keep b o e n hb hx) (I.base.free b o e n hx)
 .obtain⟨sl,e1⟩:=I.base.slot b o e n hb hx
  obtain⟨WB,e2⟩:=slot b _ (VA b o e) hb (R0 b o e hx) e1 (I.base.free b o e n hx);exact⟨WB,e2⟩
 .obtain⟨o',e1⟩:=I.base.there b o e hx
  exact free b o' (R0 b o e hx) e1 (I.base.free b o e n hx)
 .obtain⟨o',e1⟩:=I.base.there b o e hx
  exact there b o' (R0 b o e hx) e1
 .obtain⟨m1,e1⟩:=I.base.wN b ps e
  obtain⟨m2,e2⟩:=wN b _ e1;exact⟨m1++m2,by rw[e2,Array.append_assoc]⟩
 .obtain⟨m,hn,hl⟩:=I.loc
  refine⟨m,ns m hn,λi x v e1 e2 e3=>?_⟩;obtain⟨u,r,l⟩:=hl i x v e1 e2 e3;refine⟨u,r,?_⟩;rcases l with l | ⟨k,c,e,z⟩
  .exact .inl l
  .exact .inr ⟨k,c,e,Kh x c e _ z⟩
 .obtain⟨v,z⟩:=I.cell x c e
  exact⟨v,Kh x c e v z⟩
 .obtain⟨m,⟨o,_,_,ho,_⟩,_⟩:=I.loc
  exact free _ o (λz=>(A4 _ z).2.1 rfl) ho I.free
 .obtain⟨v,o,ho,hd⟩:=I.cell x c e
  exact free c o (λz=>(A4 c z).2.2.1 x c e rfl) ho (I.mW x c e)
 .obtain⟨e,n,ne,nf,d⟩:=I.pin p hp
  have OR:p.1 ∉ ch:=λz=>(A4 p.1 z).2.2.2 p hp rfl;exact⟨keep p.1 p.2 ne nf OR e n,free p.1 p.2 OR e n,ne,nf,d⟩
theorem Inv.un {t':Nat}(I:Inv X pins σ H s)(u:Un X.fs [] H H' s.heap h')(eP:lD X.prog X.w H' h'):Inv X pins σ H' { s with heap:=h',toks:=t' }:=by
 obtain⟨m,⟨o,es,ep,ho,r⟩,_⟩:=id I.loc;obtain⟨sl,hL⟩:=u.any ho I.free (!4)
 exact I.step (g':=s.gens) (d':=s.drawn) (ch:=[]) (λ_ z=>nomatch z) (λb o _ hb _ e n=>u.keep b o e n hb (!4)) (λb o _ hb _ e n=>u.slot b o e n hb (!4)) (λb o _ e n=>u.free b o e n (!4)) (λb o _ e=>u.there b o e (!4)) u.wM u.u5 u.wN (λm' hm=>by
  obtain⟨o',tE,LM,LL,r'⟩:=hm;rw[ho] at LL;cases LL;exact⟨_,tE,LM,hL,r'⟩) eP I.bare
theorem Inv.call {g':Array GenState}{t':Nat}{d':Drawn}{ch:List Addr}(I:Inv X pins σ H s)(u:Un (zg X.stack) ch H H' s.heap h')(eP:lD X.prog X.w H' h')(hg:AllBare g')
  (A4:∀b∈ch,(b∈X.ex\/X.s₀.heap.objs.size<=b)/\b≠X.env.locals/\(∀x c,X.env.cells.lookup x=some c->c≠b)/\∀p∈X.pn++pins,p.1≠b) :
  Inv X pins σ H' { s with heap:=h',gens:=g',drawn:=d',toks:=t' }:=by
 obtain⟨m,⟨o,es,ep,ho,r⟩,_⟩:=id I.loc;obtain⟨sl,hL⟩:=u.any ho I.free λz=>(A4 _ z).2.1 rfl
 exact I.step (ch:=ch) A4 (λb o hL hb hc e n=>u.keep b o e n (λz=>(ax.mp (I.qO b z)).elim hL hb) hc) (λb o _ _ hc e n=>u.any e n hc) (λb o hc e n=>u.free b o e n hc) (λb o hc e=>u.there b o e hc) u.wM u.u5 u.wN (λm' hm=>by
  obtain⟨o',tE,LM,LL,r'⟩:=hm;rw[ho] at LL;cases LL;exact⟨_,tE,LM,hL,r'⟩) eP hg
theorem Inv.turned {t':Nat}{it:Addr}(I:Inv X pins σ H s)(k:∀b o,b≠it->s.heap.get? b=some o->h'.get? b=some o)(hn:H it=none)(hL:it≠X.env.locals)
  (h1:it∈X.ex\/X.s₀.heap.objs.size<=it) (h2:∀x c,X.env.cells.lookup x=some c->c≠it) (h3:∀p∈X.pn++pins,p.1≠it):Inv X pins σ H { s with heap:=h',toks:=t' }:=by
 have Ki:∀b u,H b=some u->b≠it:=λb u e z=>by rw[z,hn] at e;cases e
 refine I.step (g':=s.gens) (d':=s.drawn) (ch:=[it]) (λb hb=>?_) (λb o _ _ hc e _=>k b o (λz=>hc (by simp[z])) e) (λb o _ _ hc e _=>⟨o.slots,k b o (λz=>hc (by simp[z])) e⟩) (λ_ _ _ _ n=>n)
  (λb o hc e=>⟨o,k b o (λz=>hc (by simp[z])) e⟩) (λ_ _ e=>e) (λ_ _ _ e=>e) (λb ps e=>⟨#[],by rw[e];simp⟩) (λm hm=>?_) (λb u e=>?_) I.bare
 .have e:b=it:=by simpa using hb
  subst e;exact⟨h1,hL,h2,h3⟩
 .obtain⟨o,es,ep,ho,r⟩:=hm
  exact⟨o,es,ep,k _ o (Ne.symm hL) ho,r⟩
 .refine (I.eP b u e).ze (λc v hc q=>k c v ?_ q) (λ_ q=>q) λ_ _ q=>q
  rcases hc with z | z
  .rw[z];exact Ki b u e
  .exact Ki c _ z
theorem Inv.tok (I:Inv X pins σ H s)(t:Nat):Inv X pins σ H { s with toks:=t }:=I.un (h':=s.heap) (t':=t) Un.refl I.eP
theorem Inv.kept {t':Nat}(I:Inv X pins σ H s)(k:∀b u,s.heap.get? b=some u->h'.get? b=some u):Inv X pins σ H { s with heap:=h',toks:=t' }:=I.un (Un.kept k) (I.eP.kept k)
theorem Inv.laid {a:Addr}{o:HO}{t':Nat}(I:Inv X pins σ H s)(k:∀b u,s.heap.get? b=some u->h'.get? b=some u)(hp:s.heap.objs.size<=a)(new:fH X.prog X.w (eM H a o) h' a o) :
  Inv X pins σ (eM H a o) { s with heap:=h',toks:=t' }:=I.un (Un.laid k hp (I.eP.fresh hp)) (I.eP.laid k hp new)
theorem Inv.write {x e:Addr}{o:HO}{t':Nat}(I:Inv X pins σ H s)(mu:ON (H x))(he:e=x\/H e=some (.own x))(k:∀b u,b≠e->s.heap.get? b=some u->h'.get? b=some u)(Oo:∃u,h'.get? e=some u)
  (new:fH X.prog X.w (eM H x o) h' x o):Inv X pins σ (eM H x o) { s with heap:=h',toks:=t' }:=I.un (Un.write mu he k Oo) (I.eP.write mu he k Oo new)
theorem Inv.qh (I:Inv X pins σ H s)(h:∀p∈OS,s.heap.get? p.1=some p.2/\H p.1=none/\p.1≠X.env.locals/\p.1 ∉ X.fs/\∀v,p.2.data≠.cell v):Inv X OS σ H s :=
 ⟨I.ok,I.os,I.bare,I.base,I.loc,I.cell,I.free,I.mW,λp hp=>(aL.mp hp).elim (λz=>I.pin p (bI _ z)) (h p),I.eP,I.len⟩
theorem wQ {N:List Str}(hN:N.Nodup){i j:Nat}{x:Str}(a:N[i]? = some x)(b:N[j]? = some x):i=j:=by
 obtain⟨h1,e1⟩:=aA.mp a;obtain⟨h2,e2⟩:=aA.mp b;exact (List.getElem_inj hN).mp (e1.trans e2.symm)
theorem tF {M:Model}{A:Around}{E:ah->aw->Prop}{i:Nat}{x:Str}{v:V}{u:ah}{Q:Unit->aw->Prop}(I:Inv X pins σ H s)(hN:X.N.Nodup)(hi:X.N[i]? = some x)(hx:Loc X.env.scope x)(r:RelV v u)
  (h:∀s',Inv X pins (σ.set i (some v)) H s'->(∃a,Heap.SameBut a s.heap s'.heap/\(a=X.env.locals\/X.env.cells.lookup x=some a))->Q () s') (hf:X.fn x=true\/X.env.scope.names.lookup x=some .local:=by (first | exact .inl rfl | exact .inr rfl | assumption)):aG M A (storeName X.env x u) Q E s:=by
 obtain⟨m,hn,hl⟩:=id I.loc;have SW:(X.env.scope.kind == .class || (X.env.scope.kind == .module && X.env.locals != X.env.globals))=false:=by rw[I.ok.kind];rfl
 have OT:i<σ.length:=by rw[I.len];exact (aA.mp hi).1
 have LK:=I.LK
 have A5:∀{a:Addr} {h':Heap},(∃o,s.heap.get? a=some o/\H a=none)->Heap.SameBut a s.heap h'->lD X.prog X.w H h':=λ{a h'} ha hs b ob e=>by
  obtain⟨_,_,Kj⟩:=ha;refine (I.eP b ob e).ze (λc w' hc q=>(hs.2 c ?_).trans q) (λ_ q=>q) λ_ _ q=>q;rintro rfl;rcases hc with rfl | hc
  .rw[Kj] at e;cases e
  .rw[Kj] at hc;cases hc
 rcases hx with hk | hk
 .refine wpAny_storeName_local hk hn (λh' WC hs=>?_) SW
  obtain⟨oL,_,_,DL,_⟩:=id hn;refine h _ ⟨I.ok,I.os,I.bare,⟨λb o e n hb hx=>?_,λb o e n hb hx=>?_,I.base.free,λb o e hx=>?_,I.base.wM,I.base.u5,I.base.wN⟩,⟨_,WC,λj y v' e1 e2 e3=>?_⟩,λy c e=>?_,I.free,I.mW,λp hp=>?_,A5 ⟨oL,DL,I.free⟩ hs,by simpa using I.len⟩ ⟨_,hs,.inl rfl⟩
  .exact (hs.2 b (aR (aW (aD e) I.ok.above))).trans (I.base.keep b o e n hb hx)
  .obtain⟨sl,e1⟩:=I.base.slot b o e n hb hx
   exact⟨sl,(hs.2 b (aR (aW (aD e) I.ok.above))).trans e1⟩
  .obtain⟨o',e1⟩:=I.base.there b o e hx
   exact⟨o',(hs.2 b (aR (aW (aD e) I.ok.above))).trans e1⟩
  .by_cases hj:j=i
   .subst hj
    rw[hi] at e1;cases e1;rw[cF OT] at e2;cases e2;exact⟨u,r,.inl ⟨hk,!4⟩⟩
   .rw[aP (Ne.symm hj)] at e2
    obtain⟨u',r',q⟩:=hl j y v' e1 e2 e3;refine⟨u',r',?_⟩;rcases q with⟨k,e⟩ | ⟨k,c,e,z⟩
    .refine .inl ⟨k,?_⟩
     have:y≠x:=λe=>hj (wQ hN e1 (e ▸ hi));simp[this,e]
    .exact .inr ⟨k,c,e,z.sameBut hs (LK y c e)⟩
  .obtain⟨w',z⟩:=I.cell y c e
   exact⟨w',z.sameBut hs (LK y c e)⟩
  .obtain⟨e,n,ne,nf,d⟩:=I.pin p hp
   exact⟨(hs.2 p.1 ne).trans e,n,ne,nf,d⟩
 .have SX:X.fn x=true:=by
   rcases hf with z | z
   .exact z
   .rw[z] at hk;cases hk
  obtain⟨c,hc⟩:=I.ok.has x (.inl hk);obtain⟨w',z⟩:=I.cell x c hc;refine wpAny_storeName_cell I.ok.kind hk hc z (λh' Kk hs=>?_);obtain⟨oc,VB,SY⟩:=id z;refine h { s with heap:=h' } ⟨I.ok,I.os,I.bare,⟨λb o e n hb hx=>?_,λb o e n hb hx=>?_,I.base.free,λb o e hx=>?_,I.base.wM,I.base.u5,I.base.wN⟩,⟨m,hn.sameBut hs (Ne.symm (LK x c hc)),λj y v' e1 e2 e3=>?_⟩,λy c' e=>?_,I.free,I.mW,λp hp=>?_,A5 ⟨oc,VB,I.mW x c hc⟩ hs,by simpa using I.len⟩ ⟨c,hs,.inr hc⟩
  .exact (hs.2 b (aR (aW (aD e) (I.ok.OP x c SX hc)))).trans (I.base.keep b o e n hb hx)
  .obtain⟨sl,e1⟩:=I.base.slot b o e n hb hx
   exact⟨sl,(hs.2 b (aR (aW (aD e) (I.ok.OP x c SX hc)))).trans e1⟩
  .obtain⟨o',e1⟩:=I.base.there b o e hx
   exact⟨o',(hs.2 b (aR (aW (aD e) (I.ok.OP x c SX hc)))).trans e1⟩
  .by_cases hj:j=i
   .subst hj
    rw[hi] at e1;cases e1;rw[cF OT] at e2;cases e2;exact⟨u,r,.inr ⟨.inl hk,c,hc,Kk⟩⟩
   .rw[aP (Ne.symm hj)] at e2
    obtain⟨u',r',q⟩:=hl j y v' e1 e2 e3;refine⟨u',r',?_⟩;rcases q with q | ⟨k,c',e,z'⟩
    .exact .inl q
    .refine .inr ⟨k,c',e,z'.sameBut hs ?_⟩
     rintro rfl;exact hj (wQ hN e1 (I.ok.inj _ _ _ e hc ▸ hi))
  .by_cases OU:c'=c
   .subst OU;exact⟨_,Kk⟩
   .obtain⟨w2,z2⟩:=I.cell y c' e
    exact⟨w2,z2.sameBut hs OU⟩
  .obtain⟨e,n,ne,nf,d⟩:=I.pin p hp
   refine⟨(hs.2 p.1 ?_).trans e,n,ne,nf,d⟩;intro q;rw[q,VB] at e;have q':oc=p.2:=Option.some.inj e;exact d w' (by rw[<- q'];exact SY)
theorem wR (I:Inv X pins σ H s)(hN:X.N.Nodup)(hi:X.N[i]? = some x)(hx:Loc X.env.scope x)(r:RelV v u)
  (h:∀s',Inv X pins (σ.set i (some v)) H s'->Q () s') (hf:X.fn x=true\/X.env.scope.names.lookup x=some .local:=by (first | exact .inl rfl | exact .inr rfl | assumption)):aG M A (storeName X.env x u) Q E s :=
 tF I hN hi hx r (λs' I' _=>h s' I') hf
theorem Inv.OV {s':aw}{ch:List Addr}(I:Inv X pins σ H s)(ho:s'.os=s.os)(u:Un (zg X.stack) ch H H' s.heap s'.heap)(eP:lD X.prog X.w H' s'.heap)(hg:AllBare s'.gens)
  (A4:∀b∈ch,(b∈X.ex\/X.s₀.heap.objs.size<=b)/\b≠X.env.locals/\(∀x c,X.env.cells.lookup x=some c->c≠b)/\∀p∈X.pn++pins,p.1≠b):Inv X pins σ H' s':=by
 obtain⟨h',g',d',t',o'⟩:=s';have e:o'=s.os:=ho;subst e;exact I.call (g':=g') (t':=t') (d':=d') u eP hg A4
end
noncomputable abbrev XK:=ah->Option Addr->Hp->Prop
noncomputable abbrev St:=List (Option V)
noncomputable abbrev VK:=V->Hp->Prop
noncomputable abbrev TE:=St->Hp->VK->Prop
noncomputable abbrev TT:=St->Hp->(Bool->Hp->Prop)->Prop
noncomputable abbrev TA:=St->Hp->(List V->Hp->Prop)->Prop
structure Ends where
 nx:St->Hp->Prop
 rt:VK
 bk:St->Hp->Prop:=λ_ _=>False
 ct:St->Hp->Prop:=λ_ _=>False
noncomputable abbrev TS:=Ends->St->Hp->Prop
noncomputable def EP (X:Cx)(pins:List (!19))(σ:St)(Q:VK)(u:ah)(s':aw):Prop:=∃v H',Inv X pins σ H' s'/\RelV v u/\Q v H'
noncomputable def TP (X:Cx)(pins:List (!19))(σ:St)(Q:Bool->Hp->Prop)(b:Bool)(s':aw):Prop:=∃H',Inv X pins σ H' s'/\Q b H'
noncomputable def AP (X:Cx)(pins:List (!19))(σ:St)(Q:List V->Hp->Prop)(us:List ah)(s':aw):Prop:=∃vs H',Inv X pins σ H' s'/\eg vs us/\Q vs H'
noncomputable def SP (X:Cx)(pins:List (!19))(D:Ends)(f:Flow)(s':aw):Prop :=
 match f with
 | .next=>∃σ' H',Inv X pins σ' H' s'/\D.nx σ' H'
 | .brk=>∃σ' H',Inv X pins σ' H' s'/\D.bk σ' H'
 | .cont=>∃σ' H',Inv X pins σ' H' s'/\D.ct σ' H'
 | .ret u=>∃v σ' H',Inv X pins σ' H' s'/\RelV v u/\D.rt v H'
noncomputable def PE (X:Cx)(e:Expr)(t:TE):Prop :=
 ∀(pins:List (!19)) (s:aw) (σ:St) (H:Hp) (Q:VK),Inv X pins σ H s->t σ H Q->aG (!11) X.A (eval e X.env) (EP X pins σ Q) X.xe s
noncomputable def PT (X:Cx)(e:Expr)(t:TT):Prop :=
 ∀(pins:List (!19)) (s:aw) (σ:St) (H:Hp) (Q:Bool->Hp->Prop),Inv X pins σ H s->t σ H Q->aG (!11) X.A (isTrue e X.env (eval e X.env)) (TP X pins σ Q) X.xe s
noncomputable def PW (X:Cx)(e:Expr)(t:TT):Prop :=
 ∀(mY:Sem ah) (pins:List (!19)) (s:aw) (σ:St) (H:Hp) (Q:Bool->Hp->Prop),Inv X pins σ H s->t σ H Q->aG (!11) X.A (isTrue e X.env mY) (TP X pins σ Q) X.xe s
theorem PW.pt (h:PW X e t):PT X e t:=h _
noncomputable def PA (X:Cx)(es:List Expr)(t:TA):Prop :=
 ∀(pos:Pos) (pins:List (!19)) (s:aw) (σ:St) (H:Hp) (Q:List V->Hp->Prop),Inv X pins σ H s->t σ H Q->aG (!11) X.A (spliced (backTo pos (starEach es X.env))) (AP X pins σ Q) X.xe s
noncomputable def PS (X:Cx)(st:Stmt)(t:TS):Prop :=
 ∀(pins:List (!19)) (s:aw) (σ:St) (H:Hp) (D:Ends),Inv X pins σ H s->t D σ H->aG (!11) X.A (exec st X.env) (SP X pins D) X.xe s
noncomputable def y0 (X:Cx)(st:List Stmt)(t:TS):Prop :=
 ∀(pins:List (!19)) (s:aw) (σ:St) (H:Hp) (D:Ends),Inv X pins σ H s->t D σ H->aG (!11) X.A (execs st X.env) (SP X pins D) X.xe s
theorem fE {α:Type}{t:Sem α}{Q Q':α->aw->Prop}{M:Model}{A:Around}{E:ah->aw->Prop}{s:aw}(h:aG M A t Q E s)(hQ:∀a s,Q a s->Q' a s):aG M A t Q' E s:=ca h hQ λ_ _ x=>x
section
variable {X:Cx}
noncomputable def Hn (i:Nat):TE:=λσ H Q=>∃v,σ[i]? = some (some v)/\Q v H
noncomputable def tC (v:V):TE:=λ_ H Q=>Q v H
theorem DY (hN:X.N[i]? = some x)(hv:qM X.env.scope x)(hd:(x == (!12))=false:=by decide)(jb:(x == (!18))=false:=by decide):PE X (.Name x pos) (Hn i):=by
 rw[3];obtain⟨v,e,h⟩:=h;obtain⟨m,hn,hl⟩:=I.loc;obtain⟨u,r,l⟩:=hl i x v hN e hv;have fin:EP X pins σ Q u s:=⟨v,H,I,r,h⟩;rcases l with⟨hk,hm⟩ | ⟨hk,c,hc,Kl⟩
 .exact wpAny_Name (wpAny_loadName_local I.ok.kind hk hn hm fin) hd
 .rcases hk with hk | hk
  .exact wpAny_Name (wpAny_loadName_cell I.ok.kind hk hc Kl fin) hd
  .exact wpAny_Name (wpAny_loadName_free I.ok.kind hk hc Kl fin jb) hd
theorem LN {i j pos}:PE X (.Constant (.int i) j pos) (tC (.int i)):=λ_ _ _ H _ I h=>wpAny_Constant_int ⟨.int i,H,I.tok _,⟨_,rfl⟩,h⟩
theorem OW {b j pos}:PE X (.Constant (.bool b) j pos) (tC (.bl b)):=λ_ _ _ H _ I h=>Constant_bool ⟨.bl b,H,I,rfl,h⟩
theorem DZ {j pos}:PE X (.Constant .none j pos) (tC .gC):=λ_ _ _ H _ I h=>Constant_none ⟨.gC,H,I,rfl,h⟩
noncomputable def Gl (X:Cx)(x:Str):Prop:=X.env.kindOf x=some .globalImplicit
theorem Ho (I:Inv X pins σ H s)(hg:Gl X x)(hm:X.mg x=some u)(h:Q u s)
  (hd:(x == (!12))=false:=by decide):aG (!11) X.A (eval (.Name x pos) X.env) Q E s :=
 Calls.Name_function_global I.ok.kind hg (Calls.loadGlobal_global (by rw[I.ok.glob];exact I.mod.glob.keeps I.bk) hm h) hd
theorem oV (I:Inv X pins σ H s)(hg:Gl X x)(hm:X.mg x=none)(hv:bootBuiltins x=some u)(h:Q u s)
  (hn:x ≠ "__name__" := by decide) (hd:(x == (!12))=false:=by decide):aG (!11) X.A (eval (.Name x pos) X.env) Q E s:=by
 obtain⟨mb,h1,h2⟩:=I.mod.blt;exact Calls.Name_function_global I.ok.kind hg (Calls.loadGlobal_builtin (by rw[I.ok.glob];exact I.mod.glob.keeps I.bk) hm (by rw[I.ok.blt];exact h1.keeps I.bk) ((h2 x hn).trans hv) h) hd
theorem Hq (hg:Gl X x)(hm:X.mg x=none)(hv:bootBuiltins x=some u)(r:RelV v u)(hn:x ≠ "__name__" := by decide)(hd:(x == (!12))=false:=by decide):PE X (.Name x pos) (tC v) :=
 λ_ _ _ H _ I h=>oV I hg hm hv ⟨v,H,I,r,h⟩ hn hd
variable {a b:Expr}{ta tb:TE}{pos:Pos}
noncomputable def PC (X:Cx)(op:CmpOp)(a b:Expr)(t:TE):Prop :=
 ∀(pins:List (!19)) (s:aw) (σ:St) (H:Hp) (Q:VK),Inv X pins σ H s->t σ H Q ->
  aG (!11) X.A (eval a X.env) (λv s₁=>aG (!11) X.A (eval b X.env) (λu s₂=>aG (!11) X.A (compareOp op v u) (EP X pins σ Q) X.xe s₂) X.xe s₁) X.xe s
noncomputable def tB (t:TE):TT:=λσ H Q=>t σ H λx H1=>∃c,x=.bl c/\Q c H1
theorem LO (h:PC X op a b t)(h1:behindInMarks op b=false:=by first | exact D0 _ (!2) (!2) | rfl):PE X (.Compare a [op] [b] pos) t:=λpins s σ H Q I hw=>wpAny_Compare1 (h pins s σ H Q I hw) h1
theorem zh (h:PC X op a b t)(h1:behindInMarks op b=false:=by first | exact D0 _ (!2) (!2) | rfl):PT X (.Compare a [op] [b] pos) (tB t):=by
 intro pins s σ H Q I hw;refine wpAny_isTrue_Compare1 (fE (h pins s σ H _ I hw) λv s1 h1=>fE h1 λu s2 h2=>fE h2 λc s3 ⟨x,H1,I1,r1,q1⟩=>?_) h1;obtain⟨d,rfl,q⟩:=q1;cases r1;exact wpAny_truthy_bool ⟨H1,I1,q⟩
theorem LP {e:Expr}{t:TE}(h:PE X e t)(he:∀mY,isTrue e X.env mY=(do let v <- mY;standAt e.pos;holding [v] (truthy v)):=by rw[6]):PT X e (tB t):=by
 intro pins s σ H Q I hw;refine isTrue_plain (fE (h pins s σ H _ I hw) λv s1 ⟨x,H1,I1,r1,q1⟩=>?_) (he _);obtain⟨d,rfl,q⟩:=q1;cases r1;exact wpAny_truthy_bool ⟨H1,I1,q⟩
variable {tA Hr:TT}{rest:List Expr}
noncomputable def OX (t u:TT):TT:=λσ H Q=>t σ H λc H1=>if c=true then u σ H1 Q else Q false H1
noncomputable def VC (t u:TT):TT:=λσ H Q=>t σ H λc H1=>if c=true then Q true H1 else u σ H1 Q
noncomputable def OY (t:TT):TT:=λσ H Q=>t σ H λc H1=>Q (!c) H1
theorem pw_and1 (ha:PT X a tA):PW X (.BoolOp .And [a] pos) tA:=by
 intro wh pins s σ H Q I h;refine isTrue_and (fE (ha pins s σ H Q I h) λc s1 e=>?_)
 cases c with
 | true=>exact isTrue_and_nil e
 | false=>exact e
theorem pw_or1 (ha:PT X a tA):PW X (.BoolOp .Or [a] pos) tA:=by
 intro wh pins s σ H Q I h;refine isTrue_or (fE (ha pins s σ H Q I h) λc s1 e=>?_)
 cases c with
 | false=>exact isTrue_or_nil e
 | true=>exact e
theorem pw_and (ha:PT X a tA)(hb:PW X (.BoolOp .And (b::rest) pos) Hr):PW X (.BoolOp .And (a::b::rest) pos) (OX tA Hr):=by
 intro wh pins s σ H Q I h;refine isTrue_and (fE (ha pins s σ H _ I h) λc s1 ⟨H1,I1,q1⟩=>?_)
 cases c with
 | true=>exact hb wh pins s1 σ H1 Q I1 q1
 | false=>exact⟨H1,I1,q1⟩
theorem pw_or (ha:PT X a tA)(hb:PW X (.BoolOp .Or (b::rest) pos) Hr):PW X (.BoolOp .Or (a::b::rest) pos) (VC tA Hr):=by
 intro wh pins s σ H Q I h;refine isTrue_or (fE (ha pins s σ H _ I h) λc s1 ⟨H1,I1,q1⟩=>?_)
 cases c with
 | true=>exact⟨H1,I1,q1⟩
 | false=>exact hb wh pins s1 σ H1 Q I1 q1
theorem LQ (ha:PT X a tA):PT X (.UnaryOp .Not a pos) (OY tA):=by
 rw[3];exact isTrue_not (ha pins s σ H (λc H1=>Q (!c) H1) I h)
noncomputable def Km (ta:TE):TE:=λσ H Q=>ta σ H λx H1=>∃c,x=.bl c/\Q (.bl (!c)) H1
theorem LR (ha:PE X a ta):PE X (.UnaryOp .Not a pos) (Km ta):=by
 rw[3];refine UnaryOp_ (fE (ha pins s σ H _ I h) λv s1 ⟨x,H1,I1,r1,q1⟩=>?_);obtain⟨c,rfl,q1⟩:=q1;cases r1;exact not_of (wpAny_truthy_bool ⟨.bl (!c),H1,I1,rfl,q1⟩)
noncomputable def VD (t:TT)(ta tb:TE):TE:=λσ H Q=>t σ H λc H1=>if c=true then ta σ H1 Q else tb σ H1 Q
theorem D1 (hc:PT X c tA)(ha:PE X a ta)(hb:PE X b tb):PE X (.IfExp c a b pos) (VD tA ta tb):=by
 rw[3];refine wpAny_IfExp (fE (hc pins s σ H _ I h) λd s1 ⟨H1,I1,q1⟩=>?_)
 cases d with
 | true=>exact ha pins s1 σ H1 Q I1 q1
 | false=>exact hb pins s1 σ H1 Q I1 q1
end
noncomputable def gD (K:W.Frag)(H:Hp)(a:Addr)(xs:List V):Prop :=
 Rd H a (.lst xs) \/
  ∃(o:Obj) (its:Array ah) (n:Nat),K.lookup a=some o/\o.cls=.type "list" /\ o.dict=none/\o.data=.seq its n/\its.size<=az/\eg xs its.toList
noncomputable def iQ (K:W.Frag)(H:Hp)(a:Addr)(xs:List V):Prop :=
 Rd H a (.tup xs) \/
  ∃(o:Obj) (its:Array ah) (n:Nat),K.lookup a=some o/\o.cls=.type "tuple" /\ o.data=.seq its n/\its.size<=az/\eg xs its.toList
noncomputable def S3:ah->Option V
 | .none=>some .gC
 | .bool b=>some (.bl b)
 | .int i _=>some (.int i)
 | .str x _=>some (.str x)
 | .bytes b _=>some (.Hj b)
 | .float b _=>some (.Om b)
 | .ref a=>some (.ref a)
 | .type n=>some (.ty n)
 | _=>none
theorem RelV.abs (r:RelV x u):S3 u=some x:=by
 cases x with
 | gC=>cases r;rfl
 | bl _=>cases r;rfl
 | int _=>obtain⟨t,rfl⟩:=r;rfl
 | str _=>obtain⟨t,rfl⟩:=r;rfl
 | Hj _=>obtain⟨t,rfl⟩:=r;rfl
 | Om _=>obtain⟨t,rfl⟩:=r;rfl
 | ref _=>cases r;rfl
 | ty _=>cases r;rfl
theorem RelV.inj (r:RelV x u)(q:RelV y u):x=y:=Option.some.inj (r.abs.symm.trans q.abs)
theorem eg.inj:∀{xs ys:List V} {us:List ah},eg xs us->eg ys us->xs=ys
 | _,_,_,.nil,.nil=>rfl
 | _,_,_,.cons r t,.cons r' t'=>by rw[r.inj r',eg.inj t t']
section
theorem gD.of {K:W.Frag}(h:H a=some (.lst xs)):gD K H a xs:=.inl (.inl h)
theorem iQ.of {K:W.Frag}(h:H a=some (.tup xs)):iQ K H a xs:=.inl (.inl h)
theorem Inv.list (I:Inv X pins σ H s)(h:gD X.K H a xs):∃its:List ah,eg xs its/\PlainL s.heap a its.toArray/\xs.length<=az:=by
 rcases h with h | ⟨o,its,n,hk,hc,hd,hs,hz,r⟩
 .obtain⟨z,its,n,r,e⟩:=h.ok I.eP
  exact⟨its,r,⟨_,n,e,rfl,rfl,rfl⟩,z⟩
 .refine⟨its.toList,r,⟨o,n,I.wO a o hk,hc,hd,by simpa using hs⟩,?_⟩
  have e:=r.length;simp only[bj] at e;omega
theorem Inv.tuple (I:Inv X pins σ H s)(h:iQ X.K H a xs):∃its:List ah,eg xs its/\IsTup s.heap a its.toArray/\xs.length<=az:=by
 rcases h with h | ⟨o,its,n,hk,hc,hs,hz,r⟩
 .obtain⟨z,its,r,p⟩:=h.ok I.eP
  exact⟨its,r,p.tup,z⟩
 .refine⟨its.toList,r,⟨o,I.wO a o hk,hc,n,by simpa using hs⟩,?_⟩
  have e:=r.length;simp only[bj] at e;omega
theorem Inv.wU (I:Inv X pins σ H s)(h:gD X.K H a xs)(h':gD X.K H a ys):xs=ys:=by
 obtain⟨its,r,⟨o,n,e,_,_,d⟩,_⟩:=I.list h;obtain⟨its',r',⟨o',n',e',_,_,d'⟩,_⟩:=I.list h';rw[e] at e';cases e';rw[d] at d';injection d' with d1 _;have:its=its':=by simpa using congrArg Array.toList d1
 subst this;exact r.inj r'
theorem Inv.tG (I:Inv X pins σ H s)(h:iQ X.K H a xs)(h':iQ X.K H a ys):xs=ys:=by
 obtain⟨its,r,⟨o,e,_,n,d⟩,_⟩:=I.tuple h;obtain⟨its',r',⟨o',e',_,n',d'⟩,_⟩:=I.tuple h';rw[e] at e';cases e';rw[d] at d';injection d' with d1 _;have:its=its':=by simpa using congrArg Array.toList d1
 subst this;exact r.inj r'
end
noncomputable abbrev Cx.sT (X:Cx)(E:ah->aw->Prop):Cx:={ X with xe:=E }
noncomputable abbrev Cx.Cq (X:Cx):Cx:=X.sT λ_ _=>False
theorem Cx.Ok.sT {X:Cx}(ok:X.Ok)(E:ah->aw->Prop):(X.sT E).Ok :=
 ⟨ok.mod,ok.kind,ok.glob,ok.blt,ok.above,ok.inj,ok.has,ok.OP,ok.hd,ok.frames,ok.RZ,ok.Vz,ok.bs,ok.LJ,ok.DX,ok.Hm,ok.qN,ok.Oq⟩
theorem Cx.Ok.lF {X:Cx}{E:ah->aw->Prop}(ok:(X.sT E).Ok):X.Ok :=
 ⟨ok.mod,ok.kind,ok.glob,ok.blt,ok.above,ok.inj,ok.has,ok.OP,ok.hd,ok.frames,ok.RZ,ok.Vz,ok.bs,ok.LJ,ok.DX,ok.Hm,ok.qN,ok.Oq⟩
section
variable {X:Cx}{pins:List (Addr × Obj)}{σ:St}{H:Hp}{s:aw}{E:ah->aw->Prop}
theorem Inv.sT (I:Inv X pins σ H s)(E:ah->aw->Prop):Inv (X.sT E) pins σ H s:=⟨I.ok.sT E,I.os,I.bare,I.base,I.loc,I.cell,I.free,I.mW,I.pin,I.eP,I.len⟩
theorem Inv.lF (I:Inv (X.sT E) pins σ H s):Inv X pins σ H s:=⟨I.ok.lF,I.os,I.bare,I.base,I.loc,I.cell,I.free,I.mW,I.pin,I.eP,I.len⟩
theorem SP.lF (h:SP (X.sT E) pins D f s'):SP X pins D f s':=by
 cases f with
 | next=>obtain⟨σ',H',I,q⟩:=h;exact⟨σ',H',I.lF,q⟩
 | brk=>obtain⟨σ',H',I,q⟩:=h;exact⟨σ',H',I.lF,q⟩
 | cont=>obtain⟨σ',H',I,q⟩:=h;exact⟨σ',H',I.lF,q⟩
 | ret u=>obtain⟨v,σ',H',I,r,q⟩:=h;exact⟨v,σ',H',I.lF,r,q⟩
theorem y0.Cq {st:List Stmt}{t:TS}(h:y0 X.Cq st t):y0 X st t:=λpins s σ H D I hw =>
 ca (h pins s σ H D (I.sT _) hw) (λ_ _ q=>q.lF) λ_ _ z=>False.elim z
end
section
variable {X:Cx}{st:Stmt}{rest:List Stmt}{t u:TS}{e:Expr}{te:TE}{pos:Pos}
noncomputable def Kn:TS:=λD σ H=>D.nx σ H
noncomputable def OZ (t u:TS):TS:=λD σ H=>t { D with nx:=u D } σ H
theorem Ht:y0 X [] Kn:=λ_ _ σ H _ I h=>wpAny_execs_nil ⟨σ,H,I,h⟩
theorem D2 (h1:PS X st t)(h2:y0 X rest u):y0 X (st::rest) (OZ t u):=by
 intro pins s σ H D I h;refine wpAny_execs_cons (fE (h1 pins s σ H { D with nx:=u D } I h) λf s1 q=>?_)
 cases f with
 | next =>
  obtain⟨σ',H',I',q⟩:=q;exact h2 pins s1 σ' H' D I' q
 | ret v=>exact q
 | brk=>exact q
 | cont=>exact q
theorem Hu (h1:PS X st t):y0 X [st] t:=by
 intro pins s σ H D I h;refine wpAny_execs_cons (fE (h1 pins s σ H D I h) λf s1 q=>?_)
 cases f with
 | next=>exact wpAny_execs_nil q
 | ret v=>exact q
 | brk=>exact q
 | cont=>exact q
theorem Inv.quiet {pins:List (!19)}{σ:St}{H:Hp}{s:aw}(I:Inv X pins σ H s):interactive X.env=false:=by simp[interactive,I.ok.kind]
noncomputable def Ko (te:TE):TS:=λD σ H=>te σ H λ_ H1=>D.nx σ H1
theorem Hv (he:PE X e te)(hs:swapsWith e none pos.line X.env=pure false:=by rfl):PS X (.Expr e pos) (Ko te):=by
 intro pins s σ H D I h;exact wpAny_Expr_any (fE (he pins s σ H _ I h) λv s1 ⟨x,H1,I1,r1,q1⟩=>⟨σ,H1,I1,q1⟩) I.quiet hs
noncomputable def O0 (te:TE):TS:=λD σ H=>te σ H D.rt
theorem LS (he:PE X e te):PS X (.Return (some e) pos) (O0 te):=by
 intro pins s σ H D I h;exact wpAny_Return_some (fE (he pins s σ H _ I h) λv s1 ⟨x,H1,I1,r1,q1⟩=>⟨x,σ,H1,I1,r1,q1⟩)
noncomputable def O1 (c:TT)(t u:TS):TS:=λD σ H=>c σ H λb H1=>if b=true then t D σ H1 else u D σ H1
theorem O2 (hc:PT X c tc)(ha:y0 X a t)(hb:y0 X b u):PS X (.If c a b pos) (O1 tc t u):=by
 intro pins s σ H D I h;refine wpAny_If (fE (hc pins s σ H _ I h) λd s1 ⟨H1,I1,q1⟩=>?_)
 cases d with
 | true=>exact ha pins s1 σ H1 D I1 q1
 | false=>exact hb pins s1 σ H1 D I1 q1
end
noncomputable abbrev TG:=V->St->Hp->(St->Hp->Prop)->Prop
noncomputable abbrev LU:=List V->St->Hp->(St->Hp->Prop)->Prop
noncomputable def PG (X:Cx)(target:Expr)(t:TG):Prop :=
 ∀(pins:List (!19)) (s:aw) (σ:St) (H:Hp) (v:V) (u:ah) (Q:St->Hp->Prop),Inv X pins σ H s->RelV v u->t v σ H Q ->
  aG (!11) X.A (assign target X.env u) (λ_ s'=>∃σ' H',Inv X pins σ' H' s'/\Q σ' H') X.xe s
noncomputable def O3 (X:Cx)(ts:List Expr)(t:LU):Prop :=
 ∀(pins:List (!19)) (s:aw) (σ:St) (H:Hp) (vs:List V) (us:List ah) (Q:St->Hp->Prop),Inv X pins σ H s->eg vs us->t vs σ H Q ->
  aG (!11) X.A (assignInOrder ((assignEach ts X.env).map (·.2)) us) (λ_ s'=>∃σ' H',Inv X pins σ' H' s'/\Q σ' H') X.xe s
noncomputable abbrev O4:=V->V->V->Hp->(Hp->Prop)->Prop
noncomputable def LV (X:Cx)(t:O4):Prop :=
 ∀(pins:List (!19)) (s:aw) (σ:St) (H:Hp) (o i v:V) (ov iv u:ah) (Q:Hp->Prop),Inv X pins σ H s->RelV o ov->RelV i iv->RelV v u->t o i v H Q ->
  aG (!11) X.A (setItem ov iv u) (λ_ s'=>∃H',Inv X pins σ H' s'/\Q H') X.xe s
section
variable {X:Cx}{pos:Pos}
noncomputable def wV (i:Nat):TG:=λv σ H Q=>Q (σ.set i (some v)) H
theorem Hw (hN:X.N.Nodup)(hi:X.N[i]? = some x)(hx:Loc X.env.scope x)(hf:X.fn x=true\/X.env.scope.names.lookup x=some .local:=by (first | exact .inl rfl | exact .inr rfl | assumption)):PG X (.Name x pos) (wV i):=by
 intro pins s σ H v u Q I r h;exact wpAny_assign_Name (wR I hN hi hx r (λs' I'=>⟨_,H,I',h⟩) hf)
noncomputable def O5:LU:=λvs σ H Q=>vs=[]/\Q σ H
noncomputable def Kp (t:TG)(u:LU):LU:=λvs σ H Q=>∃v r,vs=v::r/\t v σ H λσ' H'=>u r σ' H' Q
theorem Hx:O3 X [] O5:=by
 intro pins s σ H vs us Q I r h;obtain⟨e,h⟩:=h;subst e;cases r;exact assignInOrder_nil ⟨σ,H,I,h⟩
theorem D3 (h1:PG X e t)(h2:O3 X es u)
  (hs:(assignEach (e::es) X.env).map (·.2)=assign e X.env::(assignEach es X.env).map (·.2):=by rfl):O3 X (e::es) (Kp t u):=by
 intro pins s σ H vs us Q I r h;obtain⟨v,vr,e1,h⟩:=h;subst e1
 cases r with
 | cons r rr =>
  rw[hs];refine assignInOrder_cons (fE (h1 pins s σ H _ _ _ I r h) λ_ s1 ⟨σ1,H1,I1,q1⟩=>?_);exact h2 pins s1 σ1 H1 _ _ Q I1 rr q1
noncomputable def O6 (K:W.Frag)(n:Nat)(t:LU):TG:=λv σ H Q=>∃a xs,v=.ref a/\iQ K H a xs/\xs.length=n/\t xs σ H Q
theorem LW (hc:X.calm=true)(h:O3 X es t)
  (hn:(assignEach es X.env).length=n:=by rfl) (Cr:(assignEach es X.env).findIdx? (·.1)=none:=by rfl):PG X (.Tuple es k pos) (O6 X.K n t):=by
 intro pins s σ H v u Q I r hw;obtain⟨a,xs,e1,hq,hl,hw⟩:=hw;subst e1;cases r;obtain⟨its,rv,ht,hz⟩:=I.tuple hq;refine assign_Tuple_tuple (I.ok.hd hc) ht (by simp[hn,<- hl,rv.length]) Cr λh' hx=>?_;have I1:Inv X pins σ H { s with heap:=h' }:=I.kept (t':=s.toks) λb o e=>hx b o (aR (aD e)) e;exact h pins _ σ H xs _ Q I1 (by simpa using rv) hw
noncomputable def O7 (to ti:TE)(t:O4):TG:=λv σ H Q=>to σ H λo H1=>ti σ H1 λi H2=>t o i v H2 λH3=>Q σ H3
theorem LX (ho:PE X o to)(hi:PE X i ti)(hs:LV X t)
  (ha:∀v,assign (.Subscript o i pos) X.env v=(do
   let ov <- holding [v] (eval o X.env);let iv <- holding [v,ov] (eval i X.env)
   standAt pos
   holding [v,ov,iv] (setItem ov iv v)
   release [v,ov,iv] []):=by rw[6]):PG X (.Subscript o i pos) (O7 to ti t):=by
 intro pins s σ H v u Q I r h;rw[ha];refine aa (wpAny_holding (fE (ho pins s σ H _ I h) λov s1 ⟨x,H1,I1,r1,q1⟩=>?_));refine aa (wpAny_holding (fE (hi pins s1 σ H1 _ I1 q1) λiv s2 ⟨y,H2,I2,r2,q2⟩=>?_));refine aa (wpAny_standAt (aa (wpAny_holding (fE (hs pins s2 σ H2 x y v ov iv u _ I2 r1 r2 r q2) λ_ s3 ⟨H3,I3,q3⟩=>?_))));exact wpAny_release ⟨σ,H3,I3,q3⟩
noncomputable def D4 (te:TE)(g:TG):TS:=λD σ H=>te σ H λx H1=>g x σ H1 D.nx
theorem LY (he:PE X e te)(hg:PG X tg g)(hs:swapsWithSole [tg] e pos.line X.env=pure false:=by rfl)(hw:swappedStores [tg] e X.env=pure none:=by rfl)
  (h1:(assignEach [tg] X.env).map (·.2)=[assign tg X.env]:=by rfl):PS X (.Assign [tg] e pos) (D4 te g):=by
 intro pins s σ H D I h;refine wpAny_Assign_stores (fE (he pins s σ H _ I h) λv s1 ⟨x,H1,I1,r1,q1⟩=>?_) hs hw;rw[h1];exact fE (hg pins s1 σ H1 x v _ I1 r1 q1) λ_ s2 q=>q
theorem LZ {i:Nat}{x:Str}{e:Expr}{te:TE}{fX:Pos}(hN:X.N.Nodup)(hi:X.N[i]? = some x)(hx:Loc X.env.scope x)(he:PE X e te)(hs:swapsWith e (some (.Name x fX)) pos.line X.env=pure false:=by rfl)(hf:X.fn x=true\/X.env.scope.names.lookup x=some .local:=by (first | exact .inl rfl | exact .inr rfl | assumption)) :
  PS X (.Assign [.Name x fX] e pos) (D4 te (wV i)):=by
 intro pins s σ H D I h;refine wpAny_Assign_Name (fE (he pins s σ H _ I h) λv s1 ⟨y,H1,I1,r1,q1⟩=>?_) hs;exact wR I1 hN hi hx r1 (λs2 I2=>⟨_,H1,I2,q1⟩) hf
end
section
noncomputable def D5 (c:TT)(tb:TS):TS:=λD σ H=>∃W:Nat->St->Hp->Prop,(∃m,W m σ H)/\∀m σ H,W m σ H ->
 c σ H λb H1=>if b=true then ∃N:St->Hp->Prop,(∀σ' H',N σ' H'->∃m',m' < m/\W m' σ' H')/\tb { D with nx:=N,ct:=N,bk:=D.nx } σ H1 else D.nx σ H1
theorem D6 (hp:PassesOwn (!11) X.A X.env X.xe)(hc:PT X c tc)(hb:y0 X body tb):PS X (.While c body [] pos) (D5 tc tb):=by
 intro pins s σ H D I h;obtain⟨W,⟨m0,w0⟩,turn⟩:=h;refine wpAny_While (codeAny_whileLoop (λn s'=>∃σ' H',Inv X pins σ' H' s'/\W n σ' H') ?_ m0 ⟨σ,H,I,w0⟩);rintro n s1 ⟨σ1,H1,I1,w1⟩;refine wpAny_passesOwn hp (fE (hc pins s1 σ1 H1 _ I1 (turn n σ1 H1 w1)) λb s2 ⟨H2,I2,q2⟩=>?_)
 cases b with
 | true =>
  obtain⟨N,hN,q2⟩:=q2;rw[if_pos rfl];refine wpAny_passesOwn hp (fE (hb pins s2 σ1 H2 _ I2 q2) λf s3 q3=>?_)
  cases f with
  | next =>
   obtain⟨σ3,H3,I3,n3⟩:=q3;obtain⟨m',hm,w3⟩:=hN σ3 H3 n3;exact⟨m',hm,σ3,H3,I3,w3⟩
  | cont =>
   obtain⟨σ3,H3,I3,n3⟩:=q3;obtain⟨m',hm,w3⟩:=hN σ3 H3 n3;exact⟨m',hm,σ3,H3,I3,w3⟩
  | brk=>exact q3
  | ret v=>exact q3
 | false =>
  rw[if_neg aX];exact wpAny_execs_nil ⟨σ1,H2,I2,q2⟩
end
structure It where
 go:Nat->Hp->Prop
 G3:Nat->Hp->V->Hp->Prop
 stop:Nat->Hp->Prop
noncomputable def pW (X:Cx)(pins:List (!19))(H:Hp)(b:Addr):Prop :=
 H b=none/\b≠X.env.locals/\b ∉ X.fs/\(b∈X.ex\/X.s₀.heap.objs.size<=b)/\(∀x c,X.env.cells.lookup x=some c->c≠b)/\∀p∈X.pn++pins,p.1≠b
theorem Inv.oW (I:Inv X pins σ H s)(hb:s.heap.objs.size<=b)(hn:H' b=none):pW X pins H' b:=by
 refine⟨hn,bB (aW I.lt hb),I.OQ hb,.inr (bq I.sz hb),λx c e z=>?_,λp hp z=>?_⟩
 .obtain⟨v,q⟩:=I.cell x c e
  exact absurd (aW q.lt (by rw[z];exact hb)) (bM _)
 .exact absurd (aW (aD (I.pin p hp).1) (by rw[z];exact hb)) (bM _)
structure wW (P:aV) (w:World) (K:W.Frag) (tg:Expr) (J:It) (fp:List Addr) (it:Addr) (tn:Nat->Heap->Prop):Prop where
 mem:it∈fp
 obj:∀i h,tn i h->∀b∈fp,∃o,h.get? b=some o/\∀v,o.data≠.cell v
 keep:∀i h h',tn i h->(∀b∈fp,∀o,h.get? b=some o->h'.get? b=some o)->tn i h'
 item:∀(X:Cx),X.prog=P->X.w=w->X.K=K->X.calm=true->∀(i:Nat) (pins:List (!19)) (s:aw) (σ:St) (H:Hp) (E:ah->aw->Prop),Inv X pins σ H s->(∀b∈fp,pW X pins H b)->tn i s.heap->J.go i H ->
  aG (model P w) X.A (pyNext (.ref it)) (λr s1=>∃u,r=some u /\
   aG (model P w) X.A (letOwnedTupleGo tg (.ref it) u) (λ_ s2=>∃x H',Inv X pins σ H' s2/\RelV x u/\J.G3 i H x H'/\tn (i+1) s2.heap/\∀b∈fp,H' b=none) E s1) E s
 done:∀(X:Cx),X.prog=P->X.w=w->X.K=K->X.calm=true->∀(i:Nat) (pins:List (!19)) (s:aw) (σ:St) (H:Hp) (E:ah->aw->Prop),Inv X pins σ H s->(∀b∈fp,pW X pins H b)->tn i s.heap->J.stop i H ->
  aG (model P w) X.A (pyNext (.ref it)) (λr s1=>r=none/\Inv X pins σ H s1) E s
 self:∀(A:Around) (i:Nat) (s:aw) (Q:ah->aw->Prop) (E:ah->aw->Prop),tn i s.heap->Q (.ref it) s->aG (model P w) A (pyIter (.ref it)) Q E s
noncomputable abbrev TI:=St->Hp->(It->Hp->Prop)->Prop
noncomputable def VE (X:Cx)(pins:List (!19))(σ:St)(tg:Expr)(R:It->Hp->Prop)(S5:ah)(s2:aw):Prop :=
 ∃(it:Addr) (fp:List Addr) (tn:Nat->Heap->Prop) (J:It) (H':Hp),S5=.ref it/\Inv X pins σ H' s2/\wW X.prog X.w X.K tg J fp it tn/\tn 0 s2.heap/\(∀b∈fp,pW X pins H' b)/\R J H'
noncomputable def PI (X:Cx)(tg iter:Expr)(wi:TI):Prop :=
 ∀(pins:List (!19)) (s:aw) (σ:St) (H:Hp) (R:It->Hp->Prop),Inv X pins σ H s->wi σ H R ->
  aG (!11) X.A (eval iter X.env) (λv s1=>aG (!11) X.A (pyIter v) (VE X pins σ tg R) X.xe s1) X.xe s
theorem wX {M:Model}{A:Around}{E:ah->aw->Prop}{s:aw}{tg:Expr}{it:Addr}{u:ah}{o:Obj}{n:String}{vs:Array ah}{Q:Unit->aw->Prop}(ho:s.heap.get? it=some o)(hc:o.cls=.type n)(hd:o.data=.fields vs)
  (hn:["enumerate", "zip", "dict_itemiterator", "dict_reverseitemiterator", "odict_iterator", "itertools.zip_longest", "itertools.pairwise"].contains n=false) (hQ:Q () s):aG M A (letOwnedTupleGo tg (.ref it) u) Q E s:=by
 unfold letOwnedTupleGo
 cases tg<;>first
  | exact aj hQ
  | (cases u<;>first
    | exact aj hQ
    | (refine aa (wpAny_load ho ?_);rw[hc,hd];show aG M A (if (["enumerate", "zip", "dict_itemiterator", "dict_reverseitemiterator", "odict_iterator", "itertools.zip_longest", "itertools.pairwise"].contains n && vs[0]? == some (rawInt _))=true then _ else _) Q E s;rw[if_neg (by intro h;rw[hn,Bool.false_and] at h;cases h)];exact aj hQ))
noncomputable def Hy (K:W.Frag)(a:Addr):It :=
 ⟨λi H=>∃xs x,gD K H a xs/\xs[i]? = some x,λi H x H'=>H'=H/\∀xs,gD K H a xs->xs[i]? = some x,λi H=>∃xs,gD K H a xs/\xs.length<=i⟩
noncomputable def Hz (K:W.Frag)(a:Addr):It :=
 ⟨λi H=>∃xs x,iQ K H a xs/\xs[i]? = some x,λi H x H'=>H'=H/\∀xs,iQ K H a xs->xs[i]? = some x,λi H=>∃xs,iQ K H a xs/\xs.length<=i⟩
noncomputable def R1 (lo:Int)(n:Nat):It:=⟨λi _=>i<n,λi H x H'=>H'=H/\x=.int (lo+i),λi _=>n<=i⟩
theorem tH {P:aV}{w:World}{K:W.Frag}{tg:Expr}(a it:Addr):wW P w K tg (Hy K a) [it] it (λi h=>h.IsListIter it a i) where
 mem:=by simp
 obj:=λi h st b hb=>by
  have e:b=it:=by simpa using hb
  subst e;obtain⟨o,e,c,d⟩:=st;exact⟨o,e,λv z=>by rw[d] at z;cases z⟩
 keep:=λi h h' st k=>st.at λo e=>k it (!4) o e
 item:=by
  intro X hP hw hK hc i pins s σ H E I hf st hg;subst hP hw hK;obtain⟨xs,x,hq,hx⟩:=hg;obtain⟨its,rv,p,hz⟩:=I.list hq;obtain⟨u,hu,ru⟩:=rv.get hx;obtain⟨f0,f1,f2,f3,f4,f5⟩:=hf it (!4);refine wpAny_pyNext_list_item st p.isList (x:=u) (by simpa using hu) λh' eK sb=>?_;have I1:Inv X pins σ H { s with heap:=h' }:=I.turned (t':=s.toks) (λb o hb e=>(sb.2 b hb).trans e) f0 f1 f3 f4 f5;obtain⟨o,e,c,d⟩:=id eK;exact⟨u,rfl,wX (s:={ s with heap:=h' }) e c d (!2) ⟨x,H,I1,ru,⟨rfl,λys hy=>by rw[I.wU hy hq];exact hx⟩,eK,λb hb=>(hf b hb).1⟩⟩
 done:=by
  intro X hP hw hK hc i pins s σ H E I hf st hg;subst hP hw hK;obtain⟨xs,hq,hx⟩:=hg;obtain⟨its,rv,p,hz⟩:=I.list hq;obtain⟨f0,f1,f2,f3,f4,f5⟩:=hf it (!4);have hl:=rv.length;exact wpAny_pyNext_list_end (I.ok.hd hc) st p.isList (by simp;omega) λh' eb=>⟨rfl,I.turned (t':=s.toks) (λb o hb e=>eb b o hb e) f0 f1 f3 f4 f5⟩
 self:=λ_ _ _ _ _ st h=>wpAny_pyIter_listiter st h
theorem qP {P:aV}{w:World}{K:W.Frag}{tg:Expr}(a it:Addr):wW P w K tg (Hz K a) [it] it (λi h=>h.IsTupleIter it a i) where
 mem:=by simp
 obj:=λi h st b hb=>by
  have e:b=it:=by simpa using hb
  subst e;obtain⟨o,e,c,d⟩:=st;exact⟨o,e,λv z=>by rw[d] at z;cases z⟩
 keep:=λi h h' st k=>st.at λo e=>k it (!4) o e
 item:=by
  intro X hP hw hK hc i pins s σ H E I hf st hg;subst hP hw hK;obtain⟨xs,x,hq,hx⟩:=hg;obtain⟨its,rv,p,hz⟩:=I.tuple hq;obtain⟨u,hu,ru⟩:=rv.get hx;obtain⟨f0,f1,f2,f3,f4,f5⟩:=hf it (!4);refine wpAny_pyNext_tuple_item st (show s.heap.IsTuple a its.toArray from p) (x:=u) (by simpa using hu) λh' eK sb=>?_;have I1:Inv X pins σ H { s with heap:=h' }:=I.turned (t':=s.toks) (λb o hb e=>(sb.2 b hb).trans e) f0 f1 f3 f4 f5;obtain⟨o,e,c,d⟩:=id eK;exact⟨u,rfl,wX (s:={ s with heap:=h' }) e c d (!2) ⟨x,H,I1,ru,⟨rfl,λys hy=>by rw[I.tG hy hq];exact hx⟩,eK,λb hb=>(hf b hb).1⟩⟩
 done:=by
  intro X hP hw hK hc i pins s σ H E I hf st hg;subst hP hw hK;obtain⟨xs,hq,hx⟩:=hg;obtain⟨its,rv,p,hz⟩:=I.tuple hq;obtain⟨f0,f1,f2,f3,f4,f5⟩:=hf it (!4);have hl:=rv.length;exact wpAny_pyNext_tuple_end (I.ok.hd hc) st (show s.heap.IsTuple a its.toArray from p) (by simp;omega) λh' eb=>⟨rfl,I.turned (t':=s.toks) (λb o hb e=>eb b o hb e) f0 f1 f3 f4 f5⟩
 self:=λ_ _ _ _ _ st h=>wpAny_pyIter_tupleiter st h
theorem zi {P:aV}{w:World}{K:PySem.W.Frag}{tg:Expr}(it:Addr)(lo:Int)(n:Nat):wW P w K tg (R1 lo n) [it] it (λi h=>IsRangeIter h it (lo+(i:Nat) * 1) ((n:Int) - (i:Nat)) 1) where
 mem:=by simp
 obj:=λi h st b hb=>by
  have e:b=it:=by simpa using hb
  subst e
  exact⟨_,st,λv z=>by
   have z':Data.fields _=Data.cell v:=z;cases z'⟩
 keep:=λi h h' st k=>k it (!4) _ st
 item:=by
  intro X hP hw hK hc i pins s σ H E I hf st hg;subst hP hw hK;obtain⟨f0,f1,f2,f3,f4,f5⟩:=hf it (!4);have W:=Walks.range (prog:=X.prog) (w:=X.w) (I.ok.hd hc) it lo 1 n;refine W.item i s _ _ hg st λv h' tk hv eK kk=>?_;obtain⟨t,rfl⟩:=hv;have I1:Inv X pins σ H { s with heap:=h',toks:=tk }:=I.turned (λb o hb e=>kk b o (by simpa using hb) e) f0 f1 f3 f4 f5;refine⟨_,rfl,wX (s:={ s with heap:=h',toks:=tk }) (n := "range_iterator") eK rfl rfl (!2) ⟨.int (lo+i),H,I1,⟨t,?_⟩,⟨rfl,rfl⟩,eK,λb hb=>(hf b hb).1⟩⟩;rw[Int.mul_one]
 done:=by
  intro X hP hw hK hc i pins s σ H E I hf st hg;subst hP hw hK;obtain⟨f0,f1,f2,f3,f4,f5⟩:=hf it (!4);exact wpAny_pyNext_range_end (I.ok.hd hc) st (by have:n<=i:=hg;omega) λh' eb=>⟨rfl,I.turned (t':=s.toks) (λb o hb e=>eb b o hb e) f0 f1 f3 f4 f5⟩
 self:=λ_ _ _ _ _ st h=>wpAny_pyIter_rangeiter st h
section
variable {X:Cx}{tg:Expr}
noncomputable def D7 (K:W.Frag)(tl:TE):TI:=λσ H R=>tl σ H λx H1=>∃a,x=.ref a/\(∃xs,gD K H1 a xs)/\R (Hy K a) H1
noncomputable def L0 (K:W.Frag)(tl:TE):TI:=λσ H R=>tl σ H λx H1=>∃a,x=.ref a/\(∃xs,iQ K H1 a xs)/\R (Hz K a) H1
theorem HA {l:Expr}{tl:TE}(hl:PE X l tl):PI X tg l (D7 X.K tl):=by
 intro pins s σ H R I h;refine fE (hl pins s σ H _ I h) λv s1 ⟨x,H1,I1,r1,q1⟩=>?_;obtain⟨a,e,⟨xs,hq⟩,q⟩:=q1;subst e;cases r1;obtain⟨its,rv,p,hz⟩:=I1.list hq;refine wpAny_pyIter_list p.isList ?_;refine⟨s1.heap.objs.size,[s1.heap.objs.size],_,_,H1,rfl,I1.kept (t':=s1.toks) λb o e=>ak _ e,tH a _,⟨_,ay _ rfl,rfl,rfl⟩,λb hb=>?_,q⟩;have e:b=s1.heap.objs.size:=by simpa using hb
 subst e;exact I1.oW (ap _) (I1.eP.fresh (ap _))
theorem L1 {l:Expr}{tl:TE}(hl:PE X l tl):PI X tg l (L0 X.K tl):=by
 intro pins s σ H R I h;refine fE (hl pins s σ H _ I h) λv s1 ⟨x,H1,I1,r1,q1⟩=>?_;obtain⟨a,e,⟨xs,hq⟩,q⟩:=q1;subst e;cases r1;obtain⟨its,rv,p,hz⟩:=I1.tuple hq;refine wpAny_pyIter_tuple (show s1.heap.IsTuple a its.toArray from p) ?_;refine⟨s1.heap.objs.size,[s1.heap.objs.size],_,_,H1,rfl,I1.kept (t':=s1.toks) λb o e=>ak _ e,qP a _,⟨_,ay _ rfl,rfl,rfl⟩,λb hb=>?_,q⟩;have e:b=s1.heap.objs.size:=by simpa using hb
 subst e;exact I1.oW (ap _) (I1.eP.fresh (ap _))
theorem D8 {pins:List (!19)}{σ:St}{H:Hp}{s:aw}{R:It->Hp->Prop}{E:ah->aw->Prop}{lo hi:Int}{t u v:Tok}{tk:Nat}(I:Inv X pins σ H s)(h1:-(2 ^ 62)<=lo)(h2:lo<2 ^ 62)(h3:-(2 ^ 62)<=hi)(h4:hi<2 ^ 62)
  (q:R (R1 lo (hi - lo).toNat) H):aG (!11) X.A (pyIter (!14)) (VE X pins σ tg R) E { s with heap:=s.heap.push { cls:=.type "range",data:=.fields #[.int lo t,.int hi u,.int 1 v] },toks:=tk }:=by
 refine wpAny_pyIter_range (IsRange.new ..) (small_one h1 h2 h3 h4) ?_;have I1:Inv X pins σ H { s with heap:=s.heap.push { cls:=.type "range",data:=.fields #[.int lo t,.int hi u,.int 1 v] },toks:=tk }:=I.kept λb o e=>ak _ e
 refine⟨(s.heap.push { cls:=.type "range",data:=.fields #[.int lo t,.int hi u,.int 1 v] }).objs.size,[(s.heap.push { cls:=.type "range",data:=.fields #[.int lo t,.int hi u,.int 1 v] }).objs.size],_,_,H,rfl,
  I1.kept (t':=tk) λb o e=>ak _ e,zi _ lo (hi - lo).toNat,?_,λb hb=>?_,q⟩
 .have e1:lo+((0:Nat):Int) * 1=lo:=by simp
  have e2:(((hi - lo).toNat:Nat):Int) - ((0:Nat):Int)=Builtin.Range.rangeSize lo hi 1:=by rw[rangeSize_one];split<;>omega
  show IsRangeIter _ _ (lo+((0:Nat):Int) * 1) ((((hi - lo).toNat:Nat):Int) - ((0:Nat):Int)) 1;rw[e1,e2];exact ay _ rfl
 .have e:b=(s.heap.push { cls:=.type "range",data:=.fields #[.int lo t,.int hi u,.int 1 v] }).objs.size:=by simpa using hb
  subst e;exact I1.oW (ap _) (I1.eP.fresh (ap _))
noncomputable def Kq (ta:TA):TI:=λσ H R=>ta σ H λvs H1=>∃j:Int,vs=[.int j]/\-(2 ^ 62)<=j/\j<2 ^ 62/\R (R1 0 j.toNat) H1
theorem Cs (hg:Gl X "range")(hm:X.mg "range" = none)(ha:PA X [a] ta)(hs:starEach [a] X.env=[(false,eval a X.env)]:=by rfl):PI X tg (.Call (.Name "range" p) [a] [] pos) (Kq ta):=by
 intro pins s σ H R I h;refine Call_ (oV I hg hm boot_range (PyProof.Rows.callWith_type1 (fE (ha pos pins s σ H _ I h) λus s1 ⟨vs,H1,I1,r1,q1⟩=>?_) hs rfl));obtain⟨j,e,q1,q2,q⟩:=q1;subst e
 cases r1 with
 | cons r rr =>
  cases rr;obtain⟨t,rfl⟩:=r;exact call_range_1 (D8 I1 (!1) (!1) q1 q2 (by simpa using q))
noncomputable def O8 (wi:TI)(g:TG)(tb:TS):TS:=λD σ H=>wi σ H λJ H1=>∃W:Nat->Nat->St->Hp->Prop,(∃m,W 0 m σ H1)/\∀i m σ H,W i m σ H ->
 (J.stop i H/\D.nx σ H)\/(J.go i H/\∃N:St->Hp->Prop,(∀σ' H',N σ' H'->∃m',m' < m/\W (i+1) m' σ' H')/\∀x H',J.G3 i H x H'->g x σ H' λσ2 H2=>tb { D with nx:=N,ct:=N,bk:=D.nx } σ2 H2)
noncomputable def qQ (fp:List Addr)(h:Heap):List (!19):=fp.filterMap λb=>(h.get? b).map λo=>(b,o)
theorem kL (hb:b∈fp)(e:h.get? b=some o):(b,o)∈qQ fp h:=List.mem_filterMap.mpr ⟨b,hb,by rw[e];rfl⟩
theorem Ct (hp:p∈qQ fp h):p.1∈fp/\h.get? p.1=some p.2:=by
 obtain⟨b,hb,e⟩:=List.mem_filterMap.mp hp
 cases q:h.get? b with
 | none=>rw[q] at e;cases e
 | some o =>
  rw[q] at e;have e':(b,o)=p:=Option.some.inj e;subst e';exact⟨hb,q⟩
theorem Inv.pinned (I:Inv X pins σ H s)(hf:∀b∈fp,pW X pins H b)(ho:∀b∈fp,∃o,s.heap.get? b=some o/\∀v,o.data≠.cell v):Inv X (pins++qQ fp s.heap) σ H s :=
 I.qh λp hp=>(aL.mp hp).elim (λz=>I.pin p (a6 _ z)) λz=>by
  obtain⟨hb,e⟩:=Ct z;obtain⟨f0,f1,f2,_⟩:=hf p.1 hb;obtain⟨o,e',d⟩:=ho p.1 hb;rw[e] at e';cases e';exact⟨e,f0,f1,f2,d⟩
theorem Inv.lG (I:Inv X (pins++pl) σ H s):Inv X pins σ H s:=I.qh λp hp=>I.pin p (a6 _ (bI _ hp))
theorem L3 (hp:PassesOwn (!11) X.A X.env X.xe)(hc:X.calm=true)(hi:PI X tg iter wi)(hg:PG X tg g)(hb:y0 X body tb)
  (hs:∀x,foldedSetIterable iter X.env x=pure x:=by rw[6]):PS X (.For tg iter body [] pos) (O8 wi g tb):=by
 intro pins s σ H D I h;refine wpAny_For (fE (hi pins s σ H _ I h) λv s1 h1=>fE h1 λS5 s2 h2=>?_) hs;obtain⟨it,fp,tn,J,H2,e,I2,T,HB,f2,W,⟨m0,w0⟩,turn⟩:=h2;subst e;have L4:∀{H':Hp},(∀b∈fp,H' b=none)->∀b∈fp,pW X pins H' b:=λhn b hb=>⟨hn b hb,(f2 b hb).2⟩;refine codeAny_forLoop_any (λn s'=>∃i σ' H',Inv X pins σ' H' s'/\tn i s'.heap/\(∀b∈fp,H' b=none)/\W i n σ' H') ?_ m0 ⟨0,σ,H2,I2,HB,λb hb=>(f2 b hb).1,w0⟩;rintro n s3 ⟨i,σ3,H3,I3,zj,O9,w3⟩;rcases turn i n σ3 H3 w3 with⟨stop,qn⟩ | ⟨go,N,hN,step⟩
 .refine wpAny_passesOwn hp (fE (T.done X rfl rfl rfl hc i pins s3 σ3 H3 X.xe I3 (L4 O9) zj stop) λr s4 ⟨hr,I4⟩=>?_)
  subst hr;exact wpAny_execs_nil ⟨σ3,H3,I4,qn⟩
 .refine wpAny_passesOwn hp (fE (T.item X rfl rfl rfl hc i pins s3 σ3 H3 X.xe I3 (L4 O9) zj go) λr s4 ⟨u,hr,h4⟩=>?_)
  subst hr;refine wpAny_passesOwn hp (fE h4 λ_ s5 ⟨x,H5,I5,r5,y5,L5,S6⟩=>?_);have WD:=I5.pinned (L4 S6) (T.obj _ _ L5);refine wpAny_passesOwn hp (fE (hg _ s5 σ3 H5 x u _ WD r5 (step x H5 y5)) λ_ s6 ⟨σ6,H6,I6,q6⟩=>?_);refine wpAny_passesOwn hp (fE (hb _ s6 σ6 H6 _ I6 q6) λf s7 q7=>?_)
  have again:∀{σ7:St} {H7:Hp},Inv X (pins++qQ fp s5.heap) σ7 H7 s7->N σ7 H7->∃m,m<n/\∃i σ' H',Inv X pins σ' H' s7/\tn i s7.heap/\(∀b∈fp,H' b=none)/\W i m σ' H':=λ{σ7 H7} I7 n7=>by
   obtain⟨m',hm,w7⟩:=hN σ7 H7 n7;refine⟨m',hm,i+1,σ7,H7,I7.lG,T.keep _ _ _ L5 λb hb o e=>(I7.pin (b,o) (a6 _ (a6 _ (kL hb e)))).1,λb hb=>?_,w7⟩;obtain⟨o,e,d⟩:=T.obj _ _ L5 b hb;exact (I7.pin (b,o) (a6 _ (a6 _ (kL hb e)))).2.1
  cases f with
  | next=>obtain⟨σ7,H7,I7,n7⟩:=q7;exact again I7 n7
  | cont=>obtain⟨σ7,H7,I7,n7⟩:=q7;exact again I7 n7
  | brk=>obtain⟨σ7,H7,I7,q7⟩:=q7;exact⟨σ7,H7,I7.lG,q7⟩
  | ret v=>obtain⟨x7,σ7,H7,I7,r7,q7⟩:=q7;exact⟨x7,σ7,H7,I7.lG,r7,q7⟩
end
theorem D9 {K:PySem.W.Frag}{a:Addr}{xs:List V}{g:TG}{tb:TS}{D:Ends}{σ:St}{H:Hp}(Pv:Nat->St->Hp->Prop)(h0:Pv 0 σ H)(hl:∀i σ H,i<=xs.length->Pv i σ H->gD K H a xs)
  (hs:∀i x σ H,xs[i]? = some x->Pv i σ H->g x σ H λσ2 H2=>tb { D with nx:=Pv (i+1),ct:=Pv (i+1),bk:=D.nx } σ2 H2) (hd:∀σ H,Pv xs.length σ H->D.nx σ H) :
  ∃W:Nat->Nat->St->Hp->Prop,(∃m,W 0 m σ H)/\∀i m σ H,W i m σ H ->
   ((Hy K a).stop i H/\D.nx σ H)\/((Hy K a).go i H/\∃N:St->Hp->Prop,(∀σ' H',N σ' H'->∃m',m' < m/\W (i+1) m' σ' H')/\∀x H',(Hy K a).G3 i H x H'->g x σ H' λσ2 H2=>tb { D with nx:=N,ct:=N,bk:=D.nx } σ2 H2):=by
 refine⟨λi m σ H=>m=xs.length - i/\i<=xs.length/\Pv i σ H,⟨xs.length,!4,bD _,h0⟩,?_⟩;rintro i m σ H ⟨rfl,hi,p⟩;have q:=hl i σ H hi p;by_cases gh:i<xs.length
 .refine .inr ⟨⟨xs,xs[i],q,by simp[gh]⟩,Pv (i+1),λσ' H' p'=>⟨xs.length - (i+1),!1,rfl,gh,p'⟩,λx H' y=>?_⟩
  obtain⟨e,y⟩:=y;subst e;exact hs i x σ _ (y xs q) p
 .have e:i=xs.length:=by omega
  subst e;exact .inl ⟨⟨xs,q,ap _⟩,hd σ H p⟩
theorem HC {K:PySem.W.Frag}{a:Addr}{xs:List V}{g:TG}{tb:TS}{D:Ends}{σ:St}{H:Hp}(Pv:Nat->St->Hp->Prop)(h0:Pv 0 σ H)(hl:∀i σ H,i<=xs.length->Pv i σ H->iQ K H a xs)
  (hs:∀i x σ H,xs[i]? = some x->Pv i σ H->g x σ H λσ2 H2=>tb { D with nx:=Pv (i+1),ct:=Pv (i+1),bk:=D.nx } σ2 H2) (hd:∀σ H,Pv xs.length σ H->D.nx σ H) :
  ∃W:Nat->Nat->St->Hp->Prop,(∃m,W 0 m σ H)/\∀i m σ H,W i m σ H ->
   ((Hz K a).stop i H/\D.nx σ H)\/((Hz K a).go i H/\∃N:St->Hp->Prop,(∀σ' H',N σ' H'->∃m',m' < m/\W (i+1) m' σ' H')/\∀x H',(Hz K a).G3 i H x H'->g x σ H' λσ2 H2=>tb { D with nx:=N,ct:=N,bk:=D.nx } σ2 H2):=by
 refine⟨λi m σ H=>m=xs.length - i/\i<=xs.length/\Pv i σ H,⟨xs.length,!4,bD _,h0⟩,?_⟩;rintro i m σ H ⟨rfl,hi,p⟩;have q:=hl i σ H hi p;by_cases gh:i<xs.length
 .refine .inr ⟨⟨xs,xs[i],q,by simp[gh]⟩,Pv (i+1),λσ' H' p'=>⟨xs.length - (i+1),!1,rfl,gh,p'⟩,λx H' y=>?_⟩
  obtain⟨e,y⟩:=y;subst e;exact hs i x σ _ (y xs q) p
 .have e:i=xs.length:=by omega
  subst e;exact .inl ⟨⟨xs,q,ap _⟩,hd σ H p⟩
noncomputable abbrev R2:=V->V->Hp->VK->Prop
noncomputable def lg (X:Cx)(f:ah->ah->Sem ah)(r:R2):Prop :=
 ∀(pins:List (!19)) (s:aw) (σ:St) (H:Hp) (x y:V) (v u:ah) (Q:VK),Inv X pins σ H s->RelV x v->RelV y u->r x y H Q ->
  aG (!11) X.A (f v u) (EP X pins σ Q) X.xe s
noncomputable def R3 (X:Cx)(f:ah->Sem ah)(r:V->Hp->VK->Prop):Prop :=
 ∀(pins:List (!19)) (s:aw) (σ:St) (H:Hp) (x:V) (v:ah) (Q:VK),Inv X pins σ H s->RelV x v->r x H Q ->
  aG (!11) X.A (f v) (EP X pins σ Q) X.xe s
noncomputable def f6 (X:Cx)(f:ah)(r:List V->Hp->VK->Prop):Prop :=
 ∀(pins:List (!19)) (s:aw) (σ:St) (H:Hp) (xs:List V) (us:List ah) (Q:VK),Inv X pins σ H s->eg xs us->r xs H Q ->
  aG (!11) X.A (call f us) (EP X pins σ Q) X.xe s
noncomputable def HD (r:R2)(ta tb:TE):TE:=λσ H Q=>ta σ H λx H1=>tb σ H1 λy H2=>r x y H2 Q
noncomputable def VF (r:V->Hp->VK->Prop)(ta:TE):TE:=λσ H Q=>ta σ H λx H1=>r x H1 Q
noncomputable def rI (C:Int->Int->Prop)(g:Int->Int->V):R2:=λx y H Q=>∃i j,x=.int i/\y=.int j/\C i j/\Q (g i j) H
noncomputable def Kr (g:Int->Int->V):R2:=λx y H Q=>∃i j,x=.int i/\y=.int j/\Q (g i j) H
noncomputable def rU (g:Int->V):V->Hp->VK->Prop:=λx H Q=>∃i,x=.int i/\Q (g i) H
section
variable {X:Cx}{a b c:Expr}{ta tb tc:TE}{pos:Pos}
theorem L6 (ha:PE X a ta)(hb:PE X b tb){pins:List (!19)}{s:aw}{σ:St}{H:Hp}{R:V->V->Hp->Prop}(I:Inv X pins σ H s)
  (h:ta σ H λx H1=>tb σ H1 λy H2=>R x y H2) {Q:ah->aw->Prop} {f:ah->ah->Sem ah}
  (hf:∀v u s2 x y H2,Inv X pins σ H2 s2->RelV x v->RelV y u->R x y H2->aG (!11) X.A (f v u) Q X.xe s2) :
  aG (!11) X.A (eval a X.env) (λv s₁=>aG (!11) X.A (eval b X.env) (λu s₂=>aG (!11) X.A (f v u) Q X.xe s₂) X.xe s₁) X.xe s:=by
 refine fE (ha pins s σ H _ I h) λv s1 ⟨x,H1,I1,r1,q1⟩=>?_;refine fE (hb pins s1 σ H1 _ I1 q1) λu s2 ⟨y,H2,I2,r2,q2⟩=>?_;exact hf v u s2 x y H2 I2 r1 r2 q2
theorem Pa {op:Operator}{r:R2}(ho:lg X (binaryOp op) r)(ha:PE X a ta)(hb:PE X b tb):PE X (.BinOp a op b pos) (HD r ta tb):=by
 rw[3];exact wpAny_BinOp (L6 ha hb I h λv u s2 x y H2 I2 rx ry q=>ho pins s2 σ H2 x y v u Q I2 rx ry q)
theorem Pb (ho:R3 X (unaryOp op) r)(ha:PE X a ta):PE X (.UnaryOp op a pos) (VF r ta):=by
 rw[3];exact UnaryOp_ (fE (ha pins s σ H _ I h) λv s1 ⟨x,H1,I1,r1,q1⟩=>ho pins s1 σ H1 x v Q I1 r1 q1)
theorem R4 {f:ah->ah->Sem ah}{C:Int->Int->Prop}{g:Int->Int->Int}
  (rule:∀(i j:Int) (t u:Tok) (s:aw) (Q:ah->aw->Prop) (E:ah->aw->Prop),C i j->Q (.int (g i j) s.toks) { s with toks:=s.toks+1 }->aG (!11) X.A (f (.int i t) (.int j u)) Q E s) :
  lg X f (rI C λi j=>.int (g i j)):=by
 intro pins s σ H x y v u Q I rx ry h;obtain⟨i,j,rfl,rfl,hc,q⟩:=h;obtain⟨t,rfl⟩:=rx;obtain⟨t',rfl⟩:=ry;exact rule i j t t' s _ _ hc ⟨.int (g i j),H,I.tok _,⟨_,rfl⟩,q⟩
theorem Pc {f:ah->ah->Sem ah}{g:Int->Int->Int}
  (rule:∀(i j:Int) (t u:Tok) (s:aw) (Q:ah->aw->Prop) (E:ah->aw->Prop),Q (.int (g i j) s.toks) { s with toks:=s.toks+1 }->aG (!11) X.A (f (.int i t) (.int j u)) Q E s) :
  lg X f (Kr λi j=>.int (g i j)):=by
 intro pins s σ H x y v u Q I rx ry h;obtain⟨i,j,rfl,rfl,q⟩:=h;obtain⟨t,rfl⟩:=rx;obtain⟨t',rfl⟩:=ry;exact rule i j t t' s _ _ ⟨.int (g i j),H,I.tok _,⟨_,rfl⟩,q⟩
theorem L7 {f:ah->ah->Sem ah}{g:Int->Int->Bool}
  (rule:∀(i j:Int) (t u:Tok) (s:aw) (Q:ah->aw->Prop) (E:ah->aw->Prop),Q (.bool (g i j)) s->aG (!11) X.A (f (.int i t) (.int j u)) Q E s) :
  lg X f (Kr λi j=>.bl (g i j)):=by
 intro pins s σ H x y v u Q I rx ry h;obtain⟨i,j,rfl,rfl,q⟩:=h;obtain⟨t,rfl⟩:=rx;obtain⟨t',rfl⟩:=ry;exact rule i j t t' s _ _ ⟨.bl (g i j),H,I,rfl,q⟩
noncomputable def L8 (i j:Int):Prop:=0<j/\j<1073741824
noncomputable def L9 (i j:Int):Prop:=0<=j/\j<=1000000/\i.natAbs<2 ^ 64
noncomputable def zk (i j:Int):Prop:=(-(2 ^ 64)<i/\i<2 ^ 64)\/(-(2 ^ 64)<j/\j<2 ^ 64)
theorem zk.ok (h:zk i j):IntMulOk i j:=by
 rcases h with⟨h1,h2⟩ | ⟨h1,h2⟩
 .exact .of_left (intBits_le_64 h1 h2)
 .exact .of_right (intBits_le_64 h1 h2)
theorem lH:lg X (binaryOp .Add) (Kr λi j=>.int (i+j)):=Pc λ_ _ _ _ _ _ _ q=>add_int q
theorem Ma:lg X (binaryOp .Sub) (Kr λi j=>.int (i - j)):=Pc λ_ _ _ _ _ _ _ q=>sub_int q
theorem lI:lg X (binaryOp .Mult) (rI zk λi j=>.int (i * j)):=R4 λ_ _ _ _ _ _ _ hc q=>mul_int q hc.ok
theorem A6:lg X (binaryOp .FloorDiv) (rI L8 λi j=>.int (i / j)):=R4 λi j _ _ _ _ _ hc q=>by
 have h1:(0:Int)<j:=hc.1;have h2:j<1073741824:=hc.2;exact floordiv_int (!1) (by rw[Int.fdiv_eq_ediv_of_nonneg i (!1)];exact q) (.inl (PyProof.noPylong_small (!1)))
theorem kM:lg X (binaryOp .Mod) (rI (λ_ j=>0<j) λi j=>.int (i % j)):=R4 λi j _ _ _ _ _ hc q=>by
 have h1:(0:Int)<j:=hc;exact mod_int' (!1) (by rw[Int.fmod_eq_emod_of_nonneg i (!1)];exact q)
theorem Mb:lg X (binaryOp .Pow) (rI L9 λi j=>.int (i ^ j.toNat)):=R4 λ_ _ _ _ _ _ _ hc q=>pow_int_small hc.1 hc.2.1 hc.2.2 q
theorem WE {f:ah->Sem ah}{g:Int->Int}
  (rule:∀(i:Int) (t:Tok) (s:aw) (Q:ah->aw->Prop) (E:ah->aw->Prop),Q (.int (g i) s.toks) { s with toks:=s.toks+1 }->aG (!11) X.A (f (.int i t)) Q E s) :
  R3 X f (rU λi=>.int (g i)):=by
 intro pins s σ H x v Q I rx h;obtain⟨i,rfl,q⟩:=h;obtain⟨t,rfl⟩:=rx;exact rule i t s _ _ ⟨.int (g i),H,I.tok _,⟨_,rfl⟩,q⟩
theorem Mc:R3 X (unaryOp .USub) (rU λi=>.int (-i)):=WE λ_ _ _ _ _ q=>neg_int q
end
noncomputable def S7:V->V->Bool
 | .gC,.gC=>true | .gC,.int _=>true | .int _,.gC=>true | .gC,.bl _=>true | .bl _,.gC=>true | .gC,.str _=>true | .str _,.gC=>true
 | .int _,.int _=>true | .bl _,.bl _=>true | .str _,.str _=>true | .Hj _,.Hj _=>true
 | .int _,.str _=>true | .str _,.int _=>true | .bl _,.str _=>true | .str _,.bl _=>true
 | _,_=>false
noncomputable def WG:R2:=λx y H Q=>S7 x y=true/\Q (.bl (!decide (x=y))) H
theorem HE:decide (V.int i=V.int j)=(i == j):=by
 rw[dm];simp
theorem Md:decide (V.bl i=V.bl j)=(i == j):=by
 rw[dm];simp
theorem HF:decide (V.str i=V.str j)=(i == j):=by
 rw[dm];simp
theorem HG:decide (V.Hj i=V.Hj j)=(i.toList == j.toList):=by
 rw[dm];cases i;cases j;simp
section
variable {X:Cx}{a b c:Expr}{ta tb tc:TE}{pos:Pos}
theorem gO (I:Inv X pins σ H s)(q:Q (.bl k) H)(e:k=k'):EP X pins σ Q (.bool k') s:=by
 subst e;exact⟨.bl k,H,I,rfl,q⟩
theorem Pd:lg X (compareOp .NotEq) WG:=by
 intro pins s σ H x y v u Q I rx ry h;obtain⟨hs,q⟩:=h
 cases x with
 | gC =>
  cases rx
  cases y with
  | gC=>cases ry;exact PySem.EqNone.ne_none_none (gO I q (!4))
  | bl j=>cases ry;exact PySem.EqNone.ne_none_bool (gO I q (!4))
  | int j=>obtain⟨t',rfl⟩:=ry;exact PySem.EqNone.ne_none_int (gO I q (!4))
  | str j=>obtain⟨t',rfl⟩:=ry;exact PySem.EqNone.ne_none_str (gO I q (!4))
  | _=>exact absurd (show false=true from hs) aX
 | bl i =>
  cases rx
  cases y with
  | gC=>cases ry;exact PySem.EqNone.ne_bool_none (gO I q (!4))
  | bl j=>cases ry;exact ne_bool (gO I q (congrArg not Md))
  | str j=>obtain⟨t',rfl⟩:=ry;exact PySem.EqMixed.ne_bool_str (gO I q (!4))
  | _=>exact absurd (show false=true from hs) aX
 | int i =>
  obtain⟨t,rfl⟩:=rx
  cases y with
  | gC=>cases ry;exact PySem.EqNone.ne_int_none (gO I q (!4))
  | int j=>obtain⟨t',rfl⟩:=ry;exact ne_int (gO I q (congrArg not HE))
  | str j=>obtain⟨t',rfl⟩:=ry;exact PySem.EqMixed.ne_int_str (gO I q (!4))
  | _=>exact absurd (show false=true from hs) aX
 | str i =>
  obtain⟨t,rfl⟩:=rx
  cases y with
  | gC=>cases ry;exact PySem.EqNone.ne_str_none (gO I q (!4))
  | bl j=>cases ry;exact PySem.EqMixed.ne_str_bool (gO I q (!4))
  | int j=>obtain⟨t',rfl⟩:=ry;exact PySem.EqMixed.ne_str_int (gO I q (!4))
  | str j=>obtain⟨t',rfl⟩:=ry;exact ne_str (gO I q (congrArg not HF))
  | _=>exact absurd (show false=true from hs) aX
 | Hj i =>
  obtain⟨t,rfl⟩:=rx
  cases y with
  | Hj j=>obtain⟨t',rfl⟩:=ry;exact W.ne_bytes (gO I q (congrArg not HG))
  | _=>exact absurd (show false=true from hs) aX
 | _=>cases y<;>exact absurd (show false=true from hs) aX
theorem Ks:lg X (compareOp .Lt) (Kr λi j=>.bl (decide (i<j))):=L7 λ_ _ _ _ _ _ _ q=>lt_int q
theorem Kt:lg X (compareOp .Gt) (Kr λi j=>.bl (decide (j<i))):=L7 λ_ _ _ _ _ _ _ q=>gt_int q
theorem Pe:lg X (compareOp .GtE) (Kr λi j=>.bl (decide (j<=i))):=L7 λ_ _ _ _ _ _ _ q=>ge_int q
theorem HH:lg X (compareOp .IsNot) (λx y H Q=>y=.gC/\Q (.bl (!decide (x=.gC))) H):=by
 intro pins s σ H x y v u Q I rx ry h;obtain⟨rfl,q⟩:=h;cases ry;refine isnot_none_gen (gO I q ?_)
 cases x<;>first
  | (cases rx;rfl)
  | (obtain⟨t,rfl⟩:=rx;rfl)
theorem lg.or {f:ah->ah->Sem ah}{r r':R2}(h:lg X f r)(h':lg X f r'):lg X f (λx y H Q=>r x y H Q\/r' x y H Q):=by
 intro pins s σ H x y v u Q I rx ry q;rcases q with q | q
 .exact h pins s σ H x y v u Q I rx ry q
 .exact h' pins s σ H x y v u Q I rx ry q
theorem jZ (b:Expr)(h:op≠.In:=by decide)(h2:op≠.NotIn:=by decide):behindInMarks op b=false:=by
 have e1:(op == CmpOp.In)=false:=by cases op<;>first | rfl | exact absurd rfl h
 have e2:(op == CmpOp.NotIn)=false:=by cases op<;>first | rfl | exact absurd rfl h2
 cases b<;>simp[behindInMarks,e1,e2]
theorem HI {op:CmpOp}{r:R2}(ho:lg X (compareOp op) r)(ha:PE X a ta)(hb:PE X b tb)(hm:behindInMarks op b=false):PE X (.Compare a [op] [b] pos) (HD r ta tb):=by
 rw[3];exact wpAny_Compare1 (L6 ha hb I h λv u s2 x y H2 I2 rx ry q=>ho pins s2 σ H2 x y v u Q I2 rx ry q) hm
noncomputable def Ku (t:TE):TT:=λσ H Q=>t σ H λx H'=>∃k,x=.bl k/\Q k H'
theorem HJ (ho:lg X (compareOp op) r)(ha:PE X a ta)(hb:PE X b tb)(hm:behindInMarks op b=false):PT X (.Compare a [op] [b] pos) (Ku (HD r ta tb)):=by
 rw[3]
 refine wpAny_isTrue_Compare1 (fE (ha pins s σ H _ I h) λv s1 ⟨x,H1,I1,r1,q1⟩=>fE (hb pins s1 σ H1 _ I1 q1) λu s2 ⟨y,H2,I2,r2,q2⟩ =>
  fE (ho pins s2 σ H2 x y v u _ I2 r1 r2 q2) λc s3 ⟨z,H3,I3,r3,k,e,q3⟩=>?_) hm
 subst e;cases r3;exact wpAny_truthy_bool ⟨H3,I3,q3⟩
theorem u7:(az:Nat)<2 ^ 63:=by rw[sizeLine_eq];decide
theorem zm:lg X (binaryOp .Add) (λx y H Q=>∃i j,x=.str i/\y=.str j/\i.length+j.length<=az/\Q (.str (i++j)) H):=by
 intro pins s σ H x y v u Q I rx ry h;obtain⟨i,j,rfl,rfl,hz,q⟩:=h;obtain⟨t,rfl⟩:=rx;obtain⟨t',rfl⟩:=ry;exact add_str (λt' tk=>⟨.str (i++j),H,I.tok _,⟨_,rfl⟩,q⟩) hz
theorem vals1 (r:eg [x] us):∃u,us=[u]/\RelV x u:=by
 cases r with
 | cons r1 r2=>cases r2;exact⟨_,rfl,r1⟩
theorem vals2 (r:eg [x,y] us):∃u w',us=[u,w']/\RelV x u/\RelV y w':=by
 cases r with
 | cons r1 r2 =>
  cases r2 with
  | cons r3 r4=>cases r4;exact⟨_,_,rfl,r1,r3⟩
theorem D':f6 X (.builtin "abs") (λxs H Q=>∃i,xs=[.int i]/\Q (.int (if i<0 then -i else i)) H):=by
 intro pins s σ H xs us Q I r h;obtain⟨i,rfl,q⟩:=h;obtain⟨u,rfl,t,rfl⟩:=vals1 r;exact call_abs_int λu tk=>⟨.int (if i<0 then -i else i),H,I.tok _,⟨_,rfl⟩,q⟩
theorem Cu (hc:X.calm=true):f6 X (.builtin "max") (λxs H Q=>∃i j,xs=[.int i,.int j]/\Q (.int (if j > i then j else i)) H):=by
 intro pins s σ H xs us Q I r h;obtain⟨i,j,rfl,q⟩:=h;obtain⟨u,w',rfl,⟨t,rfl⟩,⟨t',rfl⟩⟩:=vals2 r;refine max_two_ints (I.ok.hd hc) λh' tk k=>⟨_,H,I.kept k,?_,q⟩;by_cases hj:j > i
 .rw[if_pos hj,if_pos hj];exact⟨_,rfl⟩
 .rw[if_neg hj,if_neg hj];exact⟨_,rfl⟩
theorem Cv (hc:X.calm=true):f6 X (.builtin "min") (λxs H Q=>∃i j,xs=[.int i,.int j]/\Q (.int (if j<i then j else i)) H):=by
 intro pins s σ H xs us Q I r h;obtain⟨i,j,rfl,q⟩:=h;obtain⟨u,w',rfl,⟨t,rfl⟩,⟨t',rfl⟩⟩:=vals2 r;refine min_two_ints (I.ok.hd hc) λh' tk k=>⟨_,H,I.kept k,?_,q⟩;by_cases hj:j<i
 .rw[if_pos hj,if_pos hj];exact⟨_,rfl⟩
 .rw[if_neg hj,if_neg hj];exact⟨_,rfl⟩
theorem tI:f6 X (.type "int") (λxs H Q=>(∃i,xs=[.int i]/\Q (.int i) H)\/∃k,xs=[.bl k]/\Q (.int (if k then 1 else 0)) H):=by
 intro pins s σ H xs us Q I r h;rcases h with⟨i,rfl,q⟩ | ⟨k,rfl,q⟩
 .obtain⟨u,rfl,t,rfl⟩:=vals1 r
  exact call_int_int ⟨.int i,H,I,⟨_,rfl⟩,q⟩
 .obtain⟨u,rfl,r1⟩:=vals1 r
  cases r1;exact call_int_bool ⟨.int (if k then 1 else 0),H,I.tok _,⟨_,rfl⟩,q⟩
end
structure Me (h:Heap) (x dx C:Addr) (mA:Str->Option ah):Prop where
 obj:h.get? x=some (W.instObj C dx)
 ns:h.Ns1 dx mA
 ne:dx≠x
theorem Cw {h:Heap}{dx:Addr}{mA:Str->Option ah}(n:h.Ns1 dx mA):∃od,h.get? dx=some od/\∀name,W.lookIn name od=some (mA name):=by
 obtain⟨o,es,ep,ho,hd,hk,_,hm⟩:=n;refine⟨o,ho,λname=>?_⟩;have e:=hm name;unfold nsFind findBy at e;rw[<- Array.find?_toList] at e;unfold W.lookIn;rw[hd];dsimp only;split
 .rename_i y q
  rw[q] at e;exact congrArg some e
 .rename_i q
  rw[q] at e
  have a:es.toList.any (·.refKey)=false:=by
   rw[List.any_eq_false];intro y hy;obtain⟨z,t,Mf⟩:=hk y (Array.mem_toList_iff.mp hy);simp[DictEntry.refKey,Mf]
  have a':¬ es.toList.any (·.refKey)=true:=by rw[a];exact aX
  rw[if_neg a'];exact congrArg some e
theorem Me.look (I:Me h x dx C mA):∃od,W.InstAt h x (W.instObj C dx) C (some od)/\∀name,W.lookIn name od=some (mA name) :=
 let ⟨od,ho,hl⟩:=Cw I.ns
 ⟨od,⟨I.obj,rfl,rfl,ho⟩,hl⟩
theorem nV.some_of (r:nV (some v) o):∃u,o=some u/\RelV v u:=by
 cases o with
 | none=>exact (show False from r).elim
 | some u=>exact⟨u,rfl,r⟩
section
theorem HK (eP:lD P w H h)(e:H a=some (.ins C dx fs)):∃mA,Me h a dx C mA/\(∀f,nV (fs.lookup f) (mA f))/\PySem.Within mA (fs.map (·.1))/\fs.length<=1000/\H dx=some (.own a):=by
 obtain⟨d,z,ne,ob,mA,n,r,q⟩:=(show fH P w H h a (.ins C dx fs) from eP a _ e);exact⟨mA,⟨ob,n,ne⟩,r,q,z,d⟩
end
structure S8 (K:W.Frag) (C:Addr):Prop where
 pg:W.plainGet K C Str.empty=true
 hd:W.hasDictIn K C=true
 po:W.plainOver K C=true
 sa:W.findIn K (.ref C) "__setattr__" = some (some (.builtin "object.__setattr__"))
theorem S8.get {K:W.Frag}{C:Addr}(c:S8 K C)(f:Str):W.plainGet K C f=true:=c.pg
section
inductive mO (K:W.Frag) (H:Hp):V->ah->Prop where
 | gC:mO K H .gC (.type "NoneType")
 | bl (x:Bool):mO K H (.bl x) (.type "bool")
 | int (i:Int):mO K H (.int i) (.type "int")
 | str (x:Str):mO K H (.str x) (.type "str")
 | Om (x:UInt64):mO K H (.Om x) (.type "float")
 | lst {a:Addr} {xs:List V} (e:H a=some (.lst xs)):mO K H (.ref a) (.type "list")
 | nj {a:Addr} {o:Obj} {xs:List V} (e:H a=some (.nj o (.lst xs))):mO K H (.ref a) (.type "list")
 | tup {a:Addr} {xs:List V} (e:H a=some (.tup xs)):mO K H (.ref a) (.type "tuple")
 | dK {a:Addr} {kvs:List (Key × V)} (e:H a=some (.dK kvs)):mO K H (.ref a) (.type "dict")
 | dT {a:Addr} {kvs:List (List Key × V)} (e:H a=some (.dT kvs)):mO K H (.ref a) (.type "dict")
 | ins {a C dx:Addr} {fs:List (Str × V)} (e:H a=some (.ins C dx fs)) (cl:S8 K C) (ha:W.findIn K (.ref C) "__class__" = some (some (.builtin "object.__class__")))
   (hn:W.specialIn K (.builtin "object.__class__") "__get__" = some (some (.builtin "getset_descriptor.__get__"))) (VG:W.takesIn K (.builtin "object.__class__")=some true)
   (hm:W.mroIn K C (.type "object")=some true):mO K H (.ref a) (.ref C)
theorem Cy {x:V}{u t:ah}(I:Inv X pins σ H s)(rx:RelV x u)(ty:mO X.K H x t)(e:W.kitOne X.K t c=some b)(h:∀tk,Q (.bool b) { s with toks:=tk }) :
  aG (!11) A (call (.builtin "isinstance") [u,c]) Q E s:=by
 cases ty with
 | gC=>cases (show u=ah.none from rx);exact W.kia_one W.kitx_none I.wO True.intro e (λz=>nomatch z) h
 | bl y=>cases (show u=ah.bool y from rx);exact W.kia_one W.kitx_bool I.wO True.intro e (λz=>nomatch z) h
 | int i=>obtain⟨t,q⟩:=(show ∃t,u=ah.int i t from rx);cases q;exact W.kia_one W.kitx_int I.wO True.intro e (λz=>nomatch z) h
 | str y=>obtain⟨t,q⟩:=(show ∃t,u=ah.str y t from rx);cases q;exact W.kia_one W.kitx_str I.wO True.intro e (λz=>nomatch z) h
 | Om y=>obtain⟨t,q⟩:=(show ∃t,u=ah.float y t from rx);cases q;exact W.kia_one W.kitx_float I.wO True.intro e (λz=>nomatch z) h
 | @lst a xs ea =>
  cases (show u=ah.ref a from rx);obtain⟨_,_,n,_,h1⟩:=(show fH X.prog X.w H s.heap a (.lst xs) from I.eP a _ ea);exact W.kia_one W.kitx_list I.wO ⟨_,h1,rfl⟩ e (λz=>nomatch z) h
 | @nj a ob xs ea =>
  cases (show u=ah.ref a from rx);obtain⟨_,_,_,n,_,h1⟩:=(show fH X.prog X.w H s.heap a (.nj ob (.lst xs)) from I.eP a _ ea);exact W.kia_one W.kitx_list I.wO ⟨_,h1,rfl⟩ e (λz=>nomatch z) h
 | @tup a xs ea =>
  cases (show u=ah.ref a from rx);obtain⟨_,_,_,p⟩:=(show fH X.prog X.w H s.heap a (.tup xs) from I.eP a _ ea);obtain⟨o,h1,h2,_⟩:=p;exact W.kia_one W.kitx_tuple I.wO ⟨o,h1,h2⟩ e (λz=>nomatch z) h
 | @dK a kvs ea =>
  cases (show u=ah.ref a from rx);obtain⟨_,_,vs,_,p⟩:=(show fH X.prog X.w H s.heap a (.dK kvs) from I.eP a _ ea);obtain⟨o,es,ep,h1,h2,_⟩:=p;exact W.kia_one W.kitx_dict I.wO ⟨o,h1,h2.1⟩ e (λz=>nomatch z) h
 | @dT a kvs ea =>
  cases (show u=ah.ref a from rx);obtain⟨_,_,xs,_,o,es,ep,h1,h2,_⟩:=(show fH X.prog X.w H s.heap a (.dT kvs) from I.eP a _ ea);exact W.kia_one W.kitx_dict I.wO ⟨o,h1,h2.1⟩ e (λz=>nomatch z) h
 | @ins a C dx fs ea cl ha hn VG hm =>
  cases (show u=ah.ref a from rx);obtain⟨mA,O,_⟩:=HK I.eP ea;obtain⟨od,J,_⟩:=O.look;exact W.kia_one (W.kitx_own (cl.get _) cl.hd ha hn VG hm) I.wO J e (λz=>nomatch z) h
end
structure gy (k:Nat) (A:Around):Prop where
 hd:A.handled=none
 dp:A.depth+3 * k+5<recursionLimit
 un:A.units+16 * k+200<cLine
 gd:A.guards=some []
theorem gy.mono (r:gy k A)(h:j<=k):gy j A:=⟨r.hd,by have:=r.dp;omega,by have:=r.un;omega,r.gd⟩
theorem gy.deeper (r:gy (k+1) A)(env:Env):gy k (A.deeper env) :=
 ⟨r.hd,by have:=r.dp;show A.depth+1+3 * k+5<_;omega,by have:=r.un;show A.units+3+16 * k+200<_;omega,r.gd⟩
theorem gy.depth (r:gy k A):A.depth<recursionLimit:=by have:=r.dp;omega
theorem gy.units (r:gy k A):A.units+64<cLine:=by have:=r.un;omega
noncomputable def Mg:TA:=λ_ H Q=>Q [] H
noncomputable def Ea (ta:TE)(tr:TA):TA:=λσ H Q=>ta σ H λx H1=>tr σ H1 λxs H2=>Q (x::xs) H2
section
variable {X:Cx}{e:Expr}{es:List Expr}{te:TE}{t:TA}{pos:Pos}
theorem Mi:PA X [] Mg:=λ_ _ _ _ H Q I h=>Calls.spliced_nil ⟨[],H,I,.nil,h⟩
theorem HL (ha:PE X e te)(hr:PA X es t)(hs:starEach (e::es) X.env=(false,eval e X.env)::starEach es X.env:=by rfl):PA X (e::es) (Ea te t):=by
 intro pos pins s σ H Q I h;rw[hs];show aG _ _ (spliced ((false,eval e X.env)::backTo pos (starEach es X.env))) _ _ s;refine Calls.spliced_cons (fE (ha pins s σ H _ I h) λu s1 ⟨x,H1,I1,r1,q1⟩=>?_);exact fE (hr pos pins s1 σ H1 _ I1 q1) λus s2 ⟨xs,H2,I2,r2,q2⟩=>⟨x::xs,H2,I2,.cons r1 r2,q2⟩
noncomputable def Pf (t:TA):TE:=λσ H Q=>t σ H λxs H1=>xs.length<=az/\∀p,H1 p=none->Q (.ref p) (eM H1 p (.tup xs))
noncomputable def Pg (t:TA):TE:=λσ H Q=>t σ H λxs H1=>xs.length<=az/\∀p,H1 p=none->Q (.ref p) (eM H1 p (.lst xs))
theorem Mj {x1}(h:PA X es t):PE X (.Tuple es x1 pos) (Pf t):=by
 intro pins s σ H Q I hq;refine wpAny_Tuple_spliced (fE (h pos pins s σ H _ I hq) λus s1 ⟨xs,H1,I1,r,z,q⟩=>⟨by rw[<- r.length];exact z,?_⟩);have hf:H1 s1.heap.objs.size=none:=I1.eP.fresh (ap _);refine⟨.ref s1.heap.objs.size,eM H1 s1.heap.objs.size (.tup xs),I1.laid (t':=s1.toks) (λb u e=>ak _ e) (ap _) ?_,rfl,q _ hf⟩;exact⟨z,us,r,⟨_,ay _ rfl,rfl,_,rfl,rfl⟩⟩
theorem Mk (h:PA X es t):PE X (.List es pos) (Pg t):=by
 intro pins s σ H Q I hq;refine wpAny_List_spliced (fE (h pos pins s σ H _ I hq) λus s1 ⟨xs,H1,I1,r,z,q⟩=>⟨by rw[<- r.length];exact z,?_⟩);have hf:H1 s1.heap.objs.size=none:=I1.eP.fresh (ap _);refine⟨.ref s1.heap.objs.size,eM H1 s1.heap.objs.size (.lst xs),I1.laid (t':=s1.toks) (λb u e=>ak _ e) (ap _) ?_,rfl,q _ hf⟩;exact⟨z,us,0,r,ay _ rfl⟩
end
noncomputable abbrev Sp:=List V->Hp->VK->XK->Prop
noncomputable abbrev Eb:=List Env->Hp->aw->XK->ah->aw->Prop
structure HM (P:aV) (w:World) (K:W.Frag) (mg:Str->Option ah) (base:Heap) (A:Around) (outer:List Env) (s:aw) (H:Hp):Prop where
 frames:A.frames=some outer
 mod:Mod K mg base
 bs:∀b o,base.get? b=some o->s.heap.get? b=some o/\H b=none
 LJ:base.objs.size<=s.heap.objs.size
 qN:s.heap.FunFrames base outer
 Oq:∀b∈zg outer,H b=none
 eP:lD P w H s.heap
 bare:AllBare s.gens
noncomputable def CE (outer:List Env)(P:aV)(w:World)(H:Hp)(s:aw)(Q:VK)(u:ah)(s':aw):Prop :=
 ∃v H',s'.os=s.os/\AllBare s'.gens/\Un (zg outer) [] H H' s.heap s'.heap/\lD P w H' s'.heap/\RelV v u/\Q v H'
noncomputable def CR (CX:Eb)(outer:List Env)(P:aV)(w:World)(H:Hp)(s:aw)(Q:VK)(E:XK)(r:Result)(s':aw):Prop :=
 match r with
 | .ok (.ret u)=>CE outer P w H s Q u s'
 | .ok _=>False
 | .error e=>CX outer H s E e s'
structure lx (P:aV) (w:World) (K:W.Frag) (mg:Str->Option ah) (base:Heap) (CX:Eb) (k:Nat) (f:Addr) (fd:b9) (ps:List Str) (sp:Sp):Prop where
 len:∀vs H Q E,sp vs H Q E->vs.length=ps.length
 run:∀(A:Around) (outer:List Env) (s:aw) (H:Hp) (args:Args) (us:List ah) (vs:List V) (Q:VK) (E:XK),gy k A->HM P w K mg base A outer s H->BindsTo s fd args (ps.zip us)->eg vs us->sp vs H Q E ->
  codeAny (model P w) A (.call (.ref f) args) (CR CX outer P w H s Q E) s
theorem lx.mono {P:aV}{w:World}{K:W.Frag}{mg:Str->Option ah}{base:Heap}{CX:Eb}{j k:Nat}{f:Addr}{fd:b9}{ps:List Str}{sp:Sp}(F:lx P w K mg base CX j f fd ps sp)(h:j<=k) :
  lx P w K mg base CX k f fd ps sp:=⟨F.len,λA outer s H args us vs Q E hr=>F.run A outer s H args us vs Q E (hr.mono h)⟩
theorem lx.imp {P:aV}{w:World}{K:W.Frag}{mg:Str->Option ah}{base:Heap}{CX:Eb}{k:Nat}{f:Addr}{fd:b9}{ps:List Str}{sp Ph:Sp}(F:lx P w K mg base CX k f fd ps sp)
  (h:∀vs H Q E,Ph vs H Q E->sp vs H Q E):lx P w K mg base CX k f fd ps Ph :=
 ⟨λvs H Q E q=>F.len vs H Q E (h _ _ _ _ q),λA outer s H args us vs Q E hr he hb hv hs=>F.run A outer s H args us vs Q E hr he hb hv (h _ _ _ _ hs)⟩
section
theorem Inv.S9 (I:Inv X pins σ H s):HM X.prog X.w X.K X.mg X.base X.A X.stack s H :=
 ⟨I.ok.frames,I.ok.mod,I.bs,bq I.ok.LJ I.sz,I.stack,I.A3,I.eP,I.bare⟩
theorem Inv.after {Q:VK}{u:ah}(I:Inv X pins σ H s)(h:CE X.stack X.prog X.w H s Q u s'):EP X pins σ Q u s':=by
 obtain⟨v,H',os,bare,un,eP,r,q⟩:=h;obtain⟨hh,g,d,t,WH⟩:=s';obtain rfl:WH=s.os:=os;exact⟨v,H',I.call (h':=hh) (g':=g) (d':=d) (t':=t) (ch:=[]) un eP bare (λb z=>absurd z (!4)),r,q⟩
end
noncomputable def Ec (sp:Sp)(Ml:List V)(E:XK)(t:TA):TE:=λσ H Q=>t σ H λvs H1=>sp (vs++Ml) H1 Q E
noncomputable def Binds (K:W.Frag)(fd:b9)(ps:List Str)(ds:List ah):Prop :=
 ∀(s:aw) (us:List ah),K.In s.heap->(us++ds).length=ps.length->BindsTo s fd ⟨us,[]⟩ (ps.zip (us++ds))
theorem Binds.all {K:W.Frag}{fd:b9}{ps:List Str}(h:∀us:List ah,us.length=ps.length->bindArgs fd ⟨us,[]⟩=pure (ps.zip us)):Binds K fd ps []:=λs us _ hl=>by
 rw[cj] at hl ⊢;exact .of_eq (h us hl)
noncomputable def zo (CX:Eb)(X:Cx)(E:XK):Prop:=∀(pins:List (!19)) (σ:St) (H:Hp) (s:aw) (e:ah) (s':aw),Inv X pins σ H s->CX X.stack H s E e s'->X.xe e s'
section
theorem Mm {pins:List (!19)}{σ:St}{H:Hp}{s:aw}{Q:VK}{us:List ah}{vs:List V}(F:lx X.prog X.w X.K X.mg X.base CX k f fd ps sp)(hr:gy k X.A)(hb:Binds X.K fd ps ds)(hd:eg Ml ds)(hx:zo CX X E)
  (I:Inv X pins σ H s) (r:eg vs us) (h:sp (vs++Ml) H Q E):aG (!11) X.A (call (.ref f) us) (EP X pins σ Q) X.xe s:=by
 have r2:eg (vs++Ml) (us++ds):=r.append hd;have hl:(us++ds).length=ps.length:=by rw[<- r2.length];exact F.len _ _ _ _ h
 refine wpAny_call (codeAny_mono (F.run X.A X.stack s H ⟨us,[]⟩ (us++ds) (vs++Ml) Q E hr I.S9 (hb s us I.wO hl) r2 h) λr s' hq=>?_)
 cases r with
 | error e=>exact hx pins σ H s e s' I hq
 | ok fl =>
  cases fl with
  | ret u=>exact I.after hq
  | next=>exact False.elim hq
  | brk=>exact False.elim hq
  | cont=>exact False.elim hq
theorem HN (F:lx X.prog X.w X.K X.mg X.base CX k f fd ps sp)(hr:gy k X.A)(hg:Gl X x)(hm:X.mg x=some (.ref f))(hk:W.keepIn X.K (.ref f)=true)(hb:Binds X.K fd ps ds)(hd:eg Ml ds)(hx:zo CX X E)
  (ha:PA X (e::es) t) (oX:(x == (!12))=false:=by decide) (he:starEach (e::es) X.env=(false,eval e X.env)::starEach es X.env:=by rfl) (jE:(backTo pos (starEach es X.env)).any (·.1)=false:=by rfl) :
  PE X (.Call (!25) (e::es) [] pos) (Ec sp Ml E t):=by
 rw[3];refine wpAny_Call_Name_kw (Ho I hg hm ?_ oX);refine W.callWith_K (h₀:=X.base) I.ok.mod.SU hk (fE (ha pos pins s σ H _ I h) λus s1 ⟨vs,H1,I1,r,q⟩=>⟨I1.wO,?_⟩) he jE;exact Mm F hr hb hd hx I1 r q
end
structure fD (N P:List Str) (sc:Scope):Prop where
 kind:sc.kind=.function
 co:sc.isCoroutine=false
 gen:sc.isGenerator=false
 nd:N.Nodup
 pre:N.take P.length=P
 par:∀x∈P,sc.names.lookup x=some .local\/sc.names.lookup x=some .cell
 Mn:∀y∈sc.names,y.2≠.free
theorem tJ {kindOf:Str->Option aQ}{x:Str}:∀{binds:List (Str × ah)} {m:Str->Option ah},(∀v,(x,v) ∉ binds)->bindL kindOf binds m x=m x
 | [],_,_=>rfl
 | (n,v)::r,m,h=>by
  unfold bindL;rw[tJ λw hw=>h w (ai _ hw)];split
  .have:x≠n:=by rintro rfl;exact h v aq
   simp[this]
  .rfl
theorem tK {kindOf:Str->Option aQ}{x:Str}:∀{binds:List (Str × ah)} {m:Str->Option ah},(∀v,(x,v) ∉ binds)->bindC kindOf binds m x=m x
 | [],_,_=>rfl
 | (n,v)::r,m,h=>by
  unfold bindC;rw[tK λw hw=>h w (ai _ hw)];split
  .rfl
  .have:x≠n:=by rintro rfl;exact h v aq
   simp[this]
theorem tL {kindOf:Str->Option aQ}{x:Str}{v:ah}:∀{P:List Str} {vs:List ah} {i:Nat} {m:Str->Option ah},P.Nodup->P[i]? = some x->vs[i]? = some v->kindOf x=some .local ->
  bindL kindOf (P.zip vs) m x=some v
 | [],_,_,_,_,h,_,_=>by simp at h
 | _::_,[],_,_,_,_,h,_=>by simp at h
 | p::P,w::vs,0,m,nd,h1,h2,hk=>by
  simp at h1 h2;subst h1;subst h2;show bindL kindOf ((p,w)::P.zip vs) m p=_;unfold bindL;rw[tJ λv hv=>(bf.mp nd).1 (List.of_mem_zip hv).1,if_pos hk];simp
 | p::P,w::vs,i+1,m,nd,h1,h2,hk=>by
  show bindL kindOf ((p,w)::P.zip vs) m x=_;unfold bindL;exact tL (i:=i) (bf.mp nd).2 (by simpa using h1) (by simpa using h2) hk
theorem tM {kindOf:Str->Option aQ}{x:Str}{v:ah}:∀{P:List Str} {vs:List ah} {i:Nat} {m:Str->Option ah},P.Nodup->P[i]? = some x->vs[i]? = some v->kindOf x≠some .local ->
  bindC kindOf (P.zip vs) m x=some v
 | [],_,_,_,_,h,_,_=>by simp at h
 | _::_,[],_,_,_,_,h,_=>by simp at h
 | p::P,w::vs,0,m,nd,h1,h2,hk=>by
  simp at h1 h2;subst h1;subst h2;show bindC kindOf ((p,w)::P.zip vs) m p=_;unfold bindC;rw[tK λv hv=>(bf.mp nd).1 (List.of_mem_zip hv).1,if_neg hk];simp
 | p::P,w::vs,i+1,m,nd,h1,h2,hk=>by
  show bindC kindOf ((p,w)::P.zip vs) m x=_;unfold bindC;exact tM (i:=i) (bf.mp nd).2 (by simpa using h1) (by simpa using h2) hk
noncomputable def start (N:List Str)(vs:List V):St:=vs.map some++List.replicate (N.length - vs.length) none
noncomputable def nq (CX:Eb)(P:aV)(w:World)(K:W.Frag)(mg:Str->Option ah)(base:Heap)(N:List Str)(fF:Str)(scope:Scope)(f:Addr)(cd:ah)(A:Around)(outer:List Env)(s:aw)(H:Hp)(E:XK):Cx where
 prog:=P
 w:=w
 K:=K
 mg:=mg
 base:=base
 A:=A.deeper (envOfC fF scope s.heap.objs.size f cd)
 N:=N
 s₀:=s
 H₀:=H
 env:=envOfC fF scope s.heap.objs.size f cd
 outer:=outer
 stack:=envOfC fF scope s.heap.objs.size f cd::outer
 ex:=[]
 calm:=true
 fn:=λ_=>true
 pn:=[]
 xe:=λe s'=>aG (model P w) (A.deeper (envOfC fF scope s.heap.objs.size f cd)) (leaving (envOfC fF scope s.heap.objs.size f cd) e) (λ_ Ot=>CX outer H s E e Ot) (λe' Ot=>CX outer H s E e' Ot) s'
theorem wY {sc:Scope}{n:Nat}{x:Str}(h:sc.names.lookup x=some .cell):∃c,(cellsFrom n sc.names []).lookup x=some c:=by
 have q:=W.cellsFrom_some sc.names n [] (.inl h);exact bX.mp q
theorem Cz {CX:Eb}{P:aV}{w:World}{K:W.Frag}{mg:Str->Option ah}{base:Heap}{N ps:List Str}{fF:Str}{scope:Scope}{f:Addr}{cd:ah}{A:Around}{outer:List Env}{s s1:aw}{H:Hp}{E:XK}{us:List ah}{vs:List V}
  (S:fD N ps scope) (hd:A.handled=none) (e0:HM P w K mg base A outer s H) (hl:vs.length=ps.length) (r:eg vs us)
  (x:InCallC s s.heap.objs.size (bindL (envOfC fF scope s.heap.objs.size f cd).kindOf (ps.zip us) λ_=>none) (cellsFrom (s.heap.objs.size+1) scope.names []) (bindC (envOfC fF scope s.heap.objs.size f cd).kindOf (ps.zip us) λ_=>none) s1) :
  Inv (nq CX P w K mg base N fF scope f cd A outer s H E) [] (start N vs) H s1:=by
 have jE:ps.length<=N.length:=by have:=congrArg List.length S.pre;rw[bY] at this;omega
 obtain⟨h1,tk,rfl,hk⟩:=x.done;have Pj:∀b:Addr,b ∉ (nq CX P w K mg base N fF scope f cd A outer s H E).ex:=λb z=>absurd (show b∈([]:List Addr) from z) (!4)
 refine⟨⟨e0.mod,S.kind,rfl,rfl,ap _,λy z c h1 h2=>?_,λy hy=>?_,λy c _ h=>?_,λ_=>hd,Around.frames_deeper e0.frames,.inr ⟨rfl,rfl⟩,λb z=>absurd z (Pj b),e0.bs,e0.LJ,λb _ _=>Pj b,λb z=>absurd z (Pj b),e0.qN,e0.Oq⟩,
  rfl,e0.bare,Un.kept hk,⟨_,x.toInCall.ns,λi y v h1 h2 h3=>?_⟩,λy c h=>⟨_,x.cell y c h⟩,e0.eP.fresh (ap _),λy c h=>?_,λp hp=>absurd (show p∈([]:List (!19)) from hp) (!4),e0.eP.kept hk,?_⟩
 .exact name_of_addr x.apart (PySem.mem_of_lookup h1) (PySem.mem_of_lookup h2)
 .have hy:scope.names.lookup y=some .cell\/scope.names.lookup y=some .free:=hy
  rcases hy with hy | hy
  .exact wY hy
  .exact absurd rfl (S.Mn _ (PySem.mem_of_lookup hy))
 .exact c9 (x.above y c (PySem.mem_of_lookup h))
 .have hi:i<vs.length:=by
   unfold start at h2;by_cases hi:i<vs.length
   .exact hi
   .rw[bJ (by simpa using hi)] at h2
    rw[cf] at h2;split at h2<;>cases h2
  have ha:vs[i]? = some v:=by
   unfold start at h2;rw[bE (by simpa using hi),aB] at h2
   cases e:vs[i]? with
   | none=>rw[e] at h2;cases h2
   | some a=>rw[e] at h2;cases h2;rfl
  obtain⟨u,hu,rv⟩:=r.get ha
  have hp:ps[i]? = some y:=by
   rw[<- S.pre,List.getElem?_take_of_lt (!1)];exact h1
  have VH:ps.Nodup:=by rw[<- S.pre];exact S.nd.sublist (List.take_sublist _ _)
  refine⟨u,rv,?_⟩;rcases S.par y (cg hp) with k | k
  .exact .inl ⟨k,tL VH hp hu k⟩
  .obtain⟨c,e⟩:=wY (n:=s.heap.objs.size+1) k
   refine .inr ⟨.inl k,c,e,?_⟩;have q:=x.cell y c e;rw[tM VH hp hu (by show scope.names.lookup y≠_;rw[k];decide)] at q;exact q
 .exact e0.eP.fresh (c9 (x.above y c (PySem.mem_of_lookup h)))
 .unfold start
  show _=N.length;rw[aH,ao,df];omega
theorem Pk {CX:Eb}{P:aV}{w:World}{K:W.Frag}{mg:Str->Option ah}{base:Heap}{k:Nat}{f:Addr}{name fF:Str}{params:Arguments}{body:List Stmt}{scope:Scope}{dV kV sP pm fG ct oc:ah}{an od:Option Addr}
  {G4:Array (Option ah)} {N ps:List Str} {sp:Sp} (lk:K.lookup f=some ⟨oc,od,.func (W.fnOf name fF params body scope dV kV sP pm an fG ct),G4⟩) (jb:W.codeIn K fG fF=true) (S:fD N ps scope)
  (len:∀vs H Q E,sp vs H Q E->vs.length=ps.length)
  (wZ:∀(A:Around) (outer:List Env) (s:aw) (H:Hp) (vs:List V) (Q:VK) (E:XK),gy k (A.deeper (envOfC fF scope s.heap.objs.size f fG))->sp vs H Q E ->
   ∃t,y0 (nq CX P w K mg base N fF scope f fG A outer s H E) body t/\t { nx:=λ_ H'=>Q .gC H',rt:=Q } (start N vs) H) :
  lx P w K mg base CX (k+1) f (W.fnOf name fF params body scope dV kV sP pm an fG ct) ps sp:=by
 refine⟨len,λA outer s H args us vs Q E hr e0 hb r Kv=>?_⟩;have hl:=len _ _ _ _ Kv;have KX:K.In s.heap:=e0.mod.SU.keeps λb o e=>(e0.bs b o e).1;have WI:s.heap.NoLimit:=e0.mod.nolimit.keeps λb o e=>(e0.bs b o e).1
 have Pl:∀y∈ps.zip us,scope.names.lookup y.1=some .local\/(scope.names.lookup y.1=some .cell/\((cellsFrom (s.heap.objs.size+1) scope.names []).lookup y.1).isSome=true):=λ⟨n,v⟩ hy=>by
  rcases S.par n (List.of_mem_zip hy).1 with q | q
  .exact .inl q
  .exact .inr ⟨q,W.cellsFrom_some _ _ _ (.inl q)⟩
 refine codeAny_call_function hr.depth (KX _ _ lk) rfl S.co S.gen rfl (W.codeRec_of KX jb) (hb _ _ _ _ ?_);refine wpAny_newFunctionEnv_cells S.kind Pl λenv he s1 x=>?_;subst he;refine⟨WI.keeps x.toInCall.keep,codeAny_func ?_⟩;obtain⟨t,ht,hq⟩:=wZ A outer s H vs Q E (hr.deeper _) Kv;have I:Inv (nq CX P w K mg base N fF scope f fG A outer s H E) [] (start N vs) H s1:=Cz S hr.hd e0 hl r x;refine ca (ht [] s1 (start N vs) H _ I hq) (λfl s' hs=>?_) λe s' hs=>hs
 have fin:∀{σ':St} {H':Hp} {v:V} {u:ah},Inv (nq CX P w K mg base N fF scope f fG A outer s H E) [] σ' H' s'->RelV v u->Q v H'->CE outer P w H s Q u s' :=
  λ{σ' H' v u} J rv q=>⟨v,H',J.os,J.bare,J.base,J.eP,rv,q⟩
 cases fl with
 | ret u =>
  obtain⟨v,σ',H',J,rv,q⟩:=hs;exact fin J rv q
 | next =>
  obtain⟨σ',H',J,q⟩:=hs;exact fin (v:=V.gC) (u:=ah.none) J rfl q
 | brk =>
  obtain⟨_,_,_,q⟩:=hs;exact False.elim q
 | cont =>
  obtain⟨_,_,_,q⟩:=hs;exact False.elim q
section
variable {X:Cx}{x:Str}{p pos:Pos}{e:Expr}{es:List Expr}{t:TA}{id T:String}{r:List V->Hp->VK->Prop}
noncomputable def Pm (r:List V->Hp->VK->Prop)(t:TA):TE:=λσ H Q=>t σ H λvs H1=>r vs H1 Q
theorem Ed (hc:f6 X (.builtin id) r)(hg:Gl X x)(hm:X.mg x=none)(hv:bootBuiltins x=some (.builtin id))(ha:PA X (e::es) t)(hn:x ≠ "__name__" := by decide)(oX:(x == (!12))=false:=by decide)
  (he:starEach (e::es) X.env=(false,eval e X.env)::starEach es X.env:=by rfl) (jE:(backTo pos (starEach es X.env)).any (·.1)=false:=by rfl):PE X (.Call (!25) (e::es) [] pos) (Pm r t):=by
 rw[3];refine wpAny_Call_Name_kw (oV I hg hm hv ?_ hn oX);exact PyProof.Rows.callWith_builtin1 (fE (ha pos pins s σ H _ I h) λus s1 ⟨vs,H1,I1,r1,q1⟩=>hc pins s1 σ H1 vs us Q I1 r1 q1) he jE
theorem CA (hc:f6 X (.type T) r)(hg:Gl X x)(hm:X.mg x=none)(hv:bootBuiltins x=some (.type T))(ha:PA X (e::es) t)(hn:x ≠ "__name__" := by decide)(oX:(x == (!12))=false:=by decide)
  (he:starEach (e::es) X.env=(false,eval e X.env)::starEach es X.env:=by rfl) (jE:(backTo pos (starEach es X.env)).any (·.1)=false:=by rfl):PE X (.Call (!25) (e::es) [] pos) (Pm r t):=by
 rw[3];refine wpAny_Call_Name_kw (oV I hg hm hv ?_ hn oX);exact PyProof.Rows.callWith_type1 (fE (ha pos pins s σ H _ I h) λus s1 ⟨vs,H1,I1,r1,q1⟩=>hc pins s1 σ H1 vs us Q I1 r1 q1) he jE
end
end L2
namespace HT
open PySem PyProof.Rows
section
theorem HP {t b:Addr}{vs ws:List ah}{Q:ah->aw->Prop}(ht:IsTup s.heap t vs.toArray)(hb:IsTup s.heap b ws.toArray)(hv:vs≠[])
  (h1:ws=[]->Q (.ref t) s) (h2:ws≠[]->Q (!14) { s with heap:=s.heap.push { cls:=.type "tuple",data:=.seq (vs++ws).toArray } })
  (hsz:vs.length+ws.length<=az):aG (!10) A (binaryOp .Add (.ref t) (.ref b)) Q E s:=by
 obtain⟨⟨cls,dd,data,sl⟩,ho,hc,n,hd⟩:=id ht;obtain⟨⟨Ta,R5,data2,Mp⟩,CB,DM,n2,u9⟩:=id hb;simp only at hc hd DM u9;subst hc hd DM u9;have e:vs.toArray++ws.toArray=(vs++ws).toArray:=by simp
 by_cases hw:ws=[]
 .exact concat_meets ⟨_,ho,rfl⟩ ⟨_,CB,rfl⟩ noFill_tuple_add seq_tuple_add PySem.F.slot_tuple_add PySem.F.entry_tuple_add (PySem.F.args_tuple_add_2 _ _)
   (tuple_addW1 t b vs.toArray ws.toArray n n2 dd R5 sl Mp (by simpa using hv) (by simp[hw])) ⟨ho,CB,h1 hw⟩
 .refine concat_meets ⟨_,ho,rfl⟩ ⟨_,CB,rfl⟩ noFill_tuple_add seq_tuple_add PySem.F.slot_tuple_add PySem.F.entry_tuple_add (PySem.F.args_tuple_add_2 _ _)
   (tuple_addW2 t b vs.toArray ws.toArray n n2 dd R5 sl Mp (by simpa using hv) (by simpa using hw) (by rw[aE,aE];exact hsz)) ⟨ho,CB,?_⟩
  rw[e];exact h2 hw
noncomputable def gK (n d:Nat):Option Int->Nat
 | none=>d
 | some v=>if v<0 then (v+(n:Int)).toNat else min v.toNat n
theorem nW (n d:Nat):gK n d none=d:=rfl
theorem qj (n d k:Nat):gK n d (some (k:Int))=min k n:=by
 show (if (k:Int)<0 then ((k:Int)+(n:Int)).toNat else min (k:Int).toNat n)=min k n;rw[if_neg (!1),bQ]
theorem Mq (n d:Nat)(hd:d<=n)(o:Option Int):gK n d o<=n:=by
 cases o with
 | none=>exact hd
 | some v =>
  show (if v<0 then (v+(n:Int)).toNat else min v.toNat n)<=n;by_cases hv:v<0
  .rw[if_pos hv];omega
  .rw[if_neg hv];exact Nat.min_le_right _ _
theorem A7 (v:Int)(n d:Nat):(if v<0 then max (v+(n:Int)) 0 else min v (n:Int))=((gK n d (some v):Nat):Int):=by
 show (if v<0 then max (v+(n:Int)) 0 else min v (n:Int))=(((if v<0 then (v+(n:Int)).toNat else min v.toNat n):Nat):Int);by_cases hv:v<0
 .simp only[if_pos hv];omega
 .simp only[if_neg hv];omega
theorem zp (lo hi:Option Int)(n:Nat):Builtin.Slice.sliceAdjust lo hi 1 (n:Int)=(((gK n 0 lo:Nat):Int),((gK n n hi:Nat):Int)):=by
 have h1:¬ ((1:Int)<0):=by omega
 unfold Builtin.Slice.sliceAdjust;simp only[h1,if_false];refine Prod.ext ?_ ?_
 .cases lo with
  | none=>rfl
  | some v=>exact A7 v n 0
 .cases hi with
  | none=>rfl
  | some v=>exact A7 v n n
theorem zq (i j:Nat):Builtin.Slice.slicePlaces (i:Int) (j:Int) 1=j - i:=by
 unfold Builtin.Slice.slicePlaces;have h1:(1:Int) > 0:=by omega
 simp only[h1,if_true,Int.ediv_one];split<;>omega
theorem qR (p:IsPart v o)(h:Q o s):aG (!10) A (Builtin.Slice.slicePartIndex v) Q E s:=by
 cases p with
 | none=>exact slicePart_none h
 | int i t=>exact slicePart_int h
theorem kh {sl:Addr}{vl vu:ah}{lo hi:Option Int}{n:Nat}{Q:Int × Int × Nat->aw->Prop}(hs:s.heap.IsSliceOf sl vl vu .none)(pl:IsPart vl lo)(pu:IsPart vu hi)
  (h:Q (((gK n 0 lo:Nat):Int),1,gK n n hi - gK n 0 lo) s):aG (!10) A (Builtin.Slice.sliceApplied (.ref sl) (pure (n:Int))) Q E s:=by
 obtain⟨os,Mr,Ou,Pn⟩:=id hs;unfold Builtin.Slice.sliceApplied Builtin.Slice.sliceFields;refine aa (aa (wpAny_field Mr Pn (x:=vl) rfl (aa (wpAny_field Mr Pn (x:=vu) rfl (aa (wpAny_field Mr Pn (x:=.none) rfl (aj ?_)))))));refine aa (slicePart_none ?_);show aG _ _ (if ((1:Int) == 0)=true then _ else _) _ _ s;rw[if_neg (!2)];refine aa (qR pl (aa (qR pu (aa (aj ?_)))));show aG _ _ (match Builtin.Slice.sliceAdjust lo hi 1 (n:Int) with | (lo,hi)=>pure (lo,(1:Int),Builtin.Slice.slicePlaces lo hi 1)) _ _ s;rw[zp lo hi n];show aG _ _ (pure (((gK n 0 lo:Nat):Int),(1:Int),Builtin.Slice.slicePlaces ((gK n 0 lo:Nat):Int) ((gK n n hi:Nat):Int) 1)) _ _ s;rw[zq];exact aj h
theorem Ee (xs:Array ah)(i k:Nat):((List.range k).filterMap λ(m:Nat)=>xs[((i:Int)+(m:Int) * 1).toNat]?).toArray=((xs.toList.drop i).take k).toArray:=by
 have e:(λ(m:Nat)=>xs[((i:Int)+(m:Int) * 1).toNat]?)=λm=>xs[i+m]? := by
  funext m;have:((i:Int)+(m:Int) * 1).toNat=i+m:=by omega
  rw[this]
 rw[e];have:=pick_run xs i k;rw[List.filterMap_map] at this;have e2:((λx=>xs[x]?) ∘ λx=>i+x)=λm=>xs[i+m]? := rfl;rw[e2] at this;rw[this]
theorem nX {t sl:Addr}{items:Array ah}{vl vu:ah}{lo hi:Option Int}{Q:ah->aw->Prop}(ht:IsTup s.heap t items)(hs:s.heap.IsSliceOf sl vl vu .none)(pl:IsPart vl lo)(pu:IsPart vu hi)
  (hw:¬ (gK items.size 0 lo=0/\gK items.size items.size hi=items.size))
  (h:Q (!14) { s with heap:=s.heap.push { cls:=.type "tuple",data:=.seq ((items.toList.drop (gK items.size 0 lo)).take (gK items.size items.size hi - gK items.size 0 lo)).toArray } })
  (hsz:items.size<=az):aG (!10) A (getItem (.ref t) (.ref sl)) Q E s:=by
 have A8:sizeOk (.seq ((items.toList.drop (gK items.size 0 lo)).take (gK items.size items.size hi - gK items.size 0 lo)).toArray):=by
  show ((items.toList.drop (gK items.size 0 lo)).take (gK items.size items.size hi - gK items.size 0 lo)).toArray.size<=az;rw[aE,bY,List.length_drop,bj];omega
 have hj:gK items.size items.size hi<=items.size:=Mq _ _ (ap _) hi;obtain⟨os,Mr,Ou,Pn⟩:=id hs;have Tb:s.TypeIs (.ref sl) "slice" := ⟨os,Mr,Ou⟩;unfold getItem;try with_reducible refine wpAny_holding ?_
 first | refine aa (aj ?_) | skip
 refine aa (wpAny_sequenceKey ht.typeIs (!2) ?_)
 refine aa (wpAny_callSpecial?_slot (name:=Str.ofString "__getitem__") ht.typeIs PyProof.Rows.slot_tuple_getitem
  (wpAny_call_entry PyProof.Rows.slot_tuple_getitem ht.typeIs entry_tuple_getitem ?_ (args_tuple_getitem _ _)))
 show aG _ _ (Builtin.Tuple.tupleItemsOf (.ref t) >>= _) _ _ s;refine aa (tupleItemsOf_ ht ?_);refine aa (wpAny_typeOf Tb ?_);rw[if_pos (!2)];refine aa (kh hs pl pu ?_)
 have pJ:¬ ((((gK items.size 0 lo:Nat):Int) == 0 && (1:Int) == 1 && (gK items.size items.size hi - gK items.size 0 lo) == items.size)=true):=by
  intro q;rw[bP,bP] at q;have q1:((gK items.size 0 lo:Nat):Int)=0:=eq_of_beq q.1.1;have q2:gK items.size items.size hi - gK items.size 0 lo=items.size:=eq_of_beq q.2;exact hw ⟨!1,!1⟩
 show aG _ _ (if (((gK items.size 0 lo:Nat):Int) == 0 && (1:Int) == 1 && (gK items.size items.size hi - gK items.size 0 lo) == items.size)=true then _ else _) _ _ s;rw[if_neg pJ,Ee]
 first
  | exact aa (m:=Builtin.Tuple.tupleExact _) (aY (aj ⟨_,rfl,aj h⟩) A8)
  | exact aa (m:=Builtin.Tuple.tupleExact _) (aY (aa (aj (aj ⟨_,rfl,aj h⟩))) A8)
  | exact aa (aa (m:=Builtin.Tuple.tupleExact _) (aY (aj (aj ⟨_,rfl,aj h⟩)) A8))
  | exact aa (aa (m:=Builtin.Tuple.tupleExact _) (aY (aj ⟨_,rfl,aj h⟩) A8))
end
end HT
namespace L2
open PySem PySem.Spec PyProof.Rows
noncomputable abbrev TO:=St->Hp->(Option Int->Hp->Prop)->Prop
noncomputable def PO (X:Cx)(e:Option Expr)(t:TO):Prop :=
 ∀(pins:List (!19)) (s:aw) (σ:St) (H:Hp) (Q:Option Int->Hp->Prop),Inv X pins σ H s->t σ H Q ->
  aG (!11) X.A (evalPart e X.env) (λu s'=>∃o H',Inv X pins σ H' s'/\IsPart u o/\Q o H') X.xe s
noncomputable def A9:TO:=λ_ H Q=>Q none H
noncomputable def Kw (t:TE):TO:=λσ H Q=>t σ H λx H1=>∃i,x=.int i/\Q (some i) H1
section
variable {X:Cx}{e:Expr}{te:TE}{lo hi:Option Expr}{tl th:TO}{pos p2:Pos}
theorem HQ:PO X none A9:=by
 rw[3];rw[evalPart_none];exact aj ⟨none,H,I,.none,h⟩
theorem HR (h:PE X e te):PO X (some e) (Kw te):=by
 intro pins s σ H Q I hw;rw[evalPart_some];refine fE (h pins s σ H _ I hw) λu s1 ⟨x,H1,I1,r1,q1⟩=>?_;obtain⟨i,rfl,q⟩:=q1;obtain⟨t,rfl⟩:=r1;exact⟨some i,H1,I1,.int i t,q⟩
noncomputable def G5 (X:Cx)(r:V->Option Int->Option Int->Hp->VK->Prop):Prop :=
 ∀(pins:List (!19)) (s:aw) (σ:St) (H:Hp) (x:V) (v vl vu:ah) (lo hi:Option Int) (sl:Addr) (Q:VK),Inv X pins σ H s->RelV x v->s.heap.IsSliceOf sl vl vu .none->IsPart vl lo->IsPart vu hi->r x lo hi H Q ->
  ∃T id,typeLookup (.type T) "__getitem__" = pure (some (.builtin id))/\s.TypeIs v T/\aG (!11) X.A (getItem v (.ref sl)) (EP X pins σ Q) X.xe s
theorem G5.or (h:G5 X r)(h':G5 X r'):G5 X (λx lo hi H Q=>r x lo hi H Q\/r' x lo hi H Q):=by
 intro pins s σ H x v vl vu lo hi sl Q I rx hs pl pu q;rcases q with q | q
 .exact h pins s σ H x v vl vu lo hi sl Q I rx hs pl pu q
 .exact h' pins s σ H x v vl vu lo hi sl Q I rx hs pl pu q
noncomputable def VI (r:V->Option Int->Option Int->Hp->VK->Prop)(te:TE)(tl th:TO):TE:=λσ H Q=>te σ H λx H1=>tl σ H1 λl H2=>th σ H2 λu H3=>r x l u H3 Q
theorem Ef {r:V->Option Int->Option Int->Hp->VK->Prop}(hr:G5 X r)(he:PE X e te)(hl:PO X lo tl)(hu:PO X hi th):PE X (.Subscript e (.Slice lo hi none p2) pos) (VI r te tl th):=by
 rw[3];refine Subscript_ (fE (he pins s σ H _ I h) λv s1 ⟨x,H1,I1,r1,q1⟩=>?_);refine wpAny_Slice (fE (hl pins s1 σ H1 _ I1 q1) λvl s2 ⟨l,H2,I2,pl,q2⟩=>fE (hu pins s2 σ H2 _ I2 q2) λvu s3 ⟨u,H3,I3,pu,q3⟩=>?_);rw[evalPart_none];refine aj ?_;have I4:Inv X pins σ H3 { s3 with heap:=s3.heap.push { cls:=.type "slice",data:=.fields #[vl,vu,.none] } }:=I3.kept (t':=s3.toks) λb ob q=>ak _ q;obtain⟨T,id,hT,ht,hg⟩:=hr pins { s3 with heap:=s3.heap.push { cls:=.type "slice",data:=.fields #[vl,vu,.none] } } σ H3 x v vl vu l u s3.heap.objs.size Q I4 r1 (Heap.IsSliceOf.new ..) pl pu q3;show aG (!11) X.A (subscriptTail e (.Slice lo hi none p2) v (.ref s3.heap.objs.size)) (EP X pins σ Q) X.xe { s3 with heap:=s3.heap.push { cls:=.type "slice",data:=.fields #[vl,vu,.none] } };exact tail_any (ops:=[.ref s3.heap.objs.size,v]) ht hT hg (by with_unfolding_all rfl)
noncomputable def nY (xs:List V)(lo hi:Option Int):List V:=(xs.drop (HT.gK xs.length 0 lo)).take (HT.gK xs.length xs.length hi - HT.gK xs.length 0 lo)
theorem pK (xs:List V)(lo hi:Option Int):(nY xs lo hi).length<=xs.length:=by
 unfold nY;rw[bY,List.length_drop];omega
noncomputable def Tc (K:W.Frag):V->Option Int->Option Int->Hp->VK->Prop:=λx lo hi H Q=>∃a xs,x=.ref a/\iQ K H a xs /\
 ¬ (HT.gK xs.length 0 lo=0/\HT.gK xs.length xs.length hi=xs.length)/\∀p,H p=none->Q (.ref p) (eM H p (.tup (nY xs lo hi)))
theorem Ms:G5 X (Tc X.K):=by
 intro pins s σ H x v vl vu lo hi sl Q I rx hs pl pu h;obtain⟨a,xs,rfl,hx,hw,q⟩:=h;cases rx;obtain⟨its,r,ht,hz⟩:=I.tuple hx;have hlen:its.toArray.size=xs.length:=by rw[aE];exact r.length.symm
 refine⟨"tuple",_,PyProof.Rows.slot_tuple_getitem.lookup,ht.typeIs,?_⟩;refine HT.nX ht hs pl pu (by rw[hlen];exact hw) ?_ (by rw[hlen];exact hz);rw[hlen];refine⟨.ref s.heap.objs.size,_,I.laid (t':=s.toks) (o:=.tup (nY xs lo hi)) (λb ob q=>ak _ q) (ap _) ?_,rfl,q _ (I.eP.fresh (ap _))⟩;exact⟨bq (pK xs lo hi) hz,_,(r.drop (HT.gK xs.length 0 lo)).take (HT.gK xs.length xs.length hi - HT.gK xs.length 0 lo),u4.new _ _⟩
noncomputable def Po (K:W.Frag):R2:=λx y H Q=>∃a b xs ys,x=.ref a/\y=.ref b/\iQ K H a xs/\iQ K H b ys/\xs≠[]/\xs.length+ys.length<=az /\
 (ys=[]->Q (.ref a) H)/\(ys≠[]->∀p,H p=none->Q (.ref p) (eM H p (.tup (xs++ys))))
theorem eg.nZ (r:eg xs us):us=[]↔xs=[]:=by
 cases r with
 | nil=>simp
 | cons _ _=>simp
theorem HS:lg X (binaryOp .Add) (Po X.K):=by
 intro pins s σ H x y v u Q I rx ry h;obtain⟨a,b,xs,ys,rfl,rfl,ha,hb,hx,hz,q1,q2⟩:=h;cases rx;cases ry;obtain⟨its,r1,p1,_⟩:=I.tuple ha;obtain⟨mP,r2,p2,_⟩:=I.tuple hb;refine HT.HP p1 p2 (λz=>hx (r1.nZ.mp z)) (λz=>⟨.ref a,H,I,rfl,q1 (r2.nZ.mp z)⟩) (λz=>?_) (by rw[<- r1.length,<- r2.length];exact hz);refine⟨.ref s.heap.objs.size,_,I.laid (t':=s.toks) (o:=.tup (xs++ys)) (λb ob q=>ak _ q) (ap _) ?_,rfl,q2 (λw=>z (r2.nZ.mpr w)) _ (I.eP.fresh (ap _))⟩;exact⟨by rw[aH];exact hz,_,r1.append r2,u4.new _ _⟩
end
noncomputable def HU (n:Nat)(i:Int):Option Nat:=if 0<=i then (if i<n then some i.toNat else none) else if -(n:Int)<=i then some (i+n).toNat else none
noncomputable def oY {α:Type}(xs:List α)(i:Int):Option α:=(HU xs.length i).bind λj=>xs[j]?
theorem Ba (h:HU n i=some j):seqIndex? i n=some j/\j<n/\-(n:Int)<=i/\i<n:=by
 unfold HU at h;by_cases h0:0<=i
 .rw[if_pos h0] at h
  by_cases h1:i<n
  .rw[if_pos h1] at h
   have e:i.toNat=j:=Option.some.inj h;exact⟨by rw[seqIndex_of h0 h1,e],!1,!1,h1⟩
  .rw[if_neg h1] at h;cases h
 .rw[if_neg h0] at h
  by_cases h1:-(n:Int)<=i
  .rw[if_pos h1] at h
   have e:(i+n).toNat=j:=Option.some.inj h;exact⟨by rw[seqIndex_neg (!1) h1,e],!1,h1,!1⟩
  .rw[if_neg h1] at h;cases h
theorem Bb {α:Type}{xs:List α}{i:Int}{v:α}(h:oY xs i=some v):∃j,seqIndex? i xs.length=some j/\xs[j]? = some v/\j<xs.length/\-(xs.length:Int)<=i/\i<xs.length:=by
 unfold oY at h
 cases e:HU xs.length i with
 | none=>rw[e] at h;cases h
 | some j =>
  rw[e] at h;obtain⟨h1,h2,h3,h4⟩:=Ba e;exact⟨j,h1,h,h2,h3,h4⟩
noncomputable def va (b:Expr):Prop:=∀o i,subscripted b false o i=operate [o,i] (getItem o i)
noncomputable def G6 (X:Cx)(r:R2):Prop :=
 ∀(value slice:Expr) (pins:List (!19)) (s:aw) (σ:St) (H:Hp) (x y:V) (v u:ah) (Q:VK),Inv X pins σ H s->RelV x v->RelV y u->r x y H Q ->
  subscripted slice false v u=operate [v,u] (getItem v u)->aG (!11) X.A (subscriptTail value slice v u) (EP X pins σ Q) X.xe s
noncomputable def CC (X:Cx)(id:String)(r:V->List V->Hp->VK->Prop):Prop :=
 ∀(pins:List (!19)) (s:aw) (σ:St) (H:Hp) (x:V) (xs:List V) (v:ah) (us:List ah) (Q:VK),Inv X pins σ H s->RelV x v->eg xs us->r x xs H Q ->
  aG (!11) X.A (call (.builtin id) (v::us)) (EP X pins σ Q) X.xe s
section
variable {X:Cx}{a b:Expr}{ta tb:TE}{pos:Pos}
theorem G6.or (h:G6 X r)(h':G6 X r'):G6 X (λx y H Q=>r x y H Q\/r' x y H Q):=by
 intro value slice pins s σ H x y v u Q I rx ry q hs;rcases q with q | q
 .exact h value slice pins s σ H x y v u Q I rx ry q hs
 .exact h' value slice pins s σ H x y v u Q I rx ry q hs
theorem CC.or {id:String}{r r':V->List V->Hp->VK->Prop}(h:CC X id r)(h':CC X id r'):CC X id (λx xs H Q=>r x xs H Q\/r' x xs H Q):=by
 intro pins s σ H x xs v us Q I rx rs q;rcases q with q | q
 .exact h pins s σ H x xs v us Q I rx rs q
 .exact h' pins s σ H x xs v us Q I rx rs q
theorem Pp {r:R2}(hr:G6 X r)(ha:PE X a ta)(hb:PE X b tb)(hs:va b):PE X (.Subscript a b pos) (HD r ta tb):=by
 rw[3];exact Subscript_ (L6 ha hb I h λv u s2 x y H2 I2 rx ry q=>hr a b pins s2 σ H2 x y v u Q I2 rx ry q (hs _ _))
noncomputable def Pq (K:W.Frag):R2:=λx y H Q=>∃p xs i v,x=.ref p/\y=.int i/\gD K H p xs/\oY xs i=some v/\Q v H
noncomputable def Pr (K:W.Frag):R2:=λx y H Q=>∃p xs i v,x=.ref p/\y=.int i/\iQ K H p xs/\oY xs i=some v/\Q v H
theorem HV:G6 X (Pq X.K):=by
 intro value slice pins s σ H x y v u Q I rx ry h hs;obtain⟨p,xs,i,z,rfl,rfl,hq,he,q⟩:=h;cases rx;obtain⟨t,rfl⟩:=ry;obtain⟨its,r,pl,hz⟩:=I.list hq;obtain⟨j,h1,h2,h3,h4,h5⟩:=Bb he;obtain⟨w,ew,kN⟩:=r.get h2;have hl:=r.length;have hn:=u7;have fin:EP X pins σ Q w s:=⟨z,H,I,kN,q⟩;by_cases h0:0<=i
 .have hj:i.toNat=j:=by
   rw[seqIndex_of h0 h5] at h1;exact Option.some.inj h1
  exact item_listR pl.isList h0 (!1) (by rw[hj];simpa using ew) fin hs
 .have hj:(i+(its.toArray.size:Int)).toNat=j:=by
   rw[seqIndex_neg (!1) h4] at h1;rw[aE,<- hl];exact Option.some.inj h1
  exact subscriptTail_builtinR (x:=w) pl.isList.typeIs slot_list_getitem.lookup
   (wpAny_getItem_list_neg (Q:=λr s'=>r=w/\EP X pins σ Q r s') pl.isList (!1) (by rw[aE]<;>omega) (!1) (by rw[hj];simpa using ew) ⟨rfl,fin⟩) hs
theorem Mt:G6 X (Pr X.K):=by
 intro value slice pins s σ H x y v u Q I rx ry h hs;obtain⟨p,xs,i,z,rfl,rfl,hq,he,q⟩:=h;cases rx;obtain⟨t,rfl⟩:=ry;obtain⟨its,r,pl,hz⟩:=I.tuple hq;obtain⟨j,h1,h2,h3,h4,h5⟩:=Bb he;obtain⟨w,ew,kN⟩:=r.get h2;have hl:=r.length;have hn:=u7;have fin:EP X pins σ Q w s:=⟨z,H,I,kN,q⟩
 exact subscriptTail_builtinR (x:=w) pl.typeIs slot_tuple_getitem.lookup
  (getItem_tuple (j:=j) (Q:=λr s'=>r=w/\EP X pins σ Q r s') pl (!1) (!1) (by rw[aE,<- hl];exact h1) (by simpa using ew) ⟨rfl,fin⟩) hs
theorem zt (its:List ah)(n j:Nat)(u:ah):Obj.mapSeq (·.setIfInBounds j u) { cls:=.type "list",data:=.seq its.toArray n }={ cls:=.type "list",data:=.seq (its.set j u).toArray n }:=by
 simp[Obj.mapSeq]
theorem Inv.lst (I:Inv X pins σ H s)(h:H p=some (.lst xs)) :
  ∃(its:List ah) (n:Nat),eg xs its/\s.heap.get? p=some { cls:=.type "list",data:=.seq its.toArray n }/\xs.length<=az:=by
 obtain⟨z,its,n,r,e⟩:=I.eP p _ h;exact⟨its,n,r,e,z⟩
theorem Inv.Mu {pins:List (!19)}{σ:St}{H:Hp}{s:aw}{p:Addr}{xs ys:List V}{its its':List ah}{n n':Nat}{f:Obj->Obj}(I:Inv X pins σ H s)(h:H p=some (.lst xs))
  (ho:s.heap.get? p=some { cls:=.type "list",data:=.seq its.toArray n }) (hf:f { cls:=.type "list",data:=.seq its.toArray n }={ cls:=.type "list",data:=.seq its'.toArray n' }) (r:eg ys its') (hz:ys.length<=az) (t:Nat) :
  Inv X pins σ (eM H p (.lst ys)) { s with heap:=s.heap.update p f,toks:=t }:=by
 have e:(s.heap.update p f).get? p=some { cls:=.type "list",data:=.seq its'.toArray n' }:=by
  rw[aT f ho (by rw[hf]<;>rfl),hf]
 refine I.write (x:=p) (e:=p) (by rw[h];trivial) (.inl rfl) (λb u hb q=>(aI _ _ (Ne.symm hb)).trans q) ⟨_,e⟩ ?_;exact⟨hz,its',n',r,e⟩
noncomputable def Pt:V->V->V->Hp->(Hp->Prop)->Prop:=λo i v H Q=>∃p xs k j,o=.ref p/\i=.int k/\H p=some (.lst xs)/\HU xs.length k=some j/\Q (eM H p (.lst (xs.set j v)))
theorem qS:LV X Pt:=by
 intro pins s σ H o i v ov iv u Q I ro ri rv h;obtain⟨p,xs,k,j,rfl,rfl,hp,hj,q⟩:=h;cases ro;obtain⟨t,rfl⟩:=ri;obtain⟨its,n,r,ho,hz⟩:=I.lst hp;obtain⟨h1,h2,h3,h4⟩:=Ba hj;have hl:=r.length;have hn:=u7
 have I':Inv X pins σ (eM H p (.lst (xs.set j v))) { s with heap:=s.heap.update p (Obj.mapSeq (·.setIfInBounds j u)) } :=
  I.Mu hp ho (zt its n j u) (r.set rv j) (by rw[be];exact hz) s.toks
 by_cases h0:0<=k
 .have hk:k.toNat=j:=by
   rw[seqIndex_of h0 h4] at h1;exact Option.some.inj h1
  exact W.ki_setAt ho h0 (!1) (by rw[aE,<- hl];exact h4) (by rw[hk];exact⟨_,I',q⟩)
 .have hk:(k+(its.toArray.size:Int)).toNat=j:=by
   rw[seqIndex_neg (!1) h3] at h1;rw[aE,<- hl];exact Option.some.inj h1
  exact W.ki_setBack ho (!1) (by rw[aE,<- hl];exact h3) (!1) (by rw[hk];exact⟨_,I',q⟩)
theorem vb (lo hi:Option Int)(n:Nat):(sliceBounds lo hi none n).1=((HT.gK n 0 lo:Nat):Int)/\(sliceBounds lo hi none n).2.1=((HT.gK n n hi:Nat):Int)/\(sliceBounds lo hi none n).2.2=1:=by
 refine⟨?_,?_,rfl⟩
 .cases lo with
  | none=>simp[sliceBounds,HT.gK]
  | some i =>
   simp only[sliceBounds,HT.gK,Option.getD_none,show (1:Int) > 0 by decide,if_true];by_cases h:i<0
   .simp only[h,if_true]<;>omega
   .simp only[h,if_false]<;>omega
 .cases hi with
  | none=>simp[sliceBounds,HT.gK]
  | some i =>
   simp only[sliceBounds,HT.gK,Option.getD_none,show (1:Int) > 0 by decide,if_true];by_cases h:i<0
   .simp only[h,if_true]<;>omega
   .simp only[h,if_false]<;>omega
theorem sU (its:List ah)(lo hi:Option Int):slicePick its.toArray lo hi none=((its.drop (HT.gK its.length 0 lo)).take (HT.gK its.length its.length hi - HT.gK its.length 0 lo)).toArray:=by
 obtain⟨h1,h2,h3⟩:=vb lo hi its.toArray.size;unfold slicePick;rw[h1,h2,h3];simp only[sliceRange_one,pick_run,aE]<;>rfl
noncomputable def Pu (K:W.Frag):V->Option Int->Option Int->Hp->VK->Prop:=λx lo hi H Q=>∃a xs,x=.ref a/\gD K H a xs/\∀p,H p=none->Q (.ref p) (eM H p (.lst (nY xs lo hi)))
theorem HW:G5 X (Pu X.K):=by
 intro pins s σ H x v vl vu lo hi sl Q I rx hs pl pu h;obtain⟨a,xs,rfl,hx,q⟩:=h;cases rx;obtain⟨its,r,ht,hz⟩:=I.list hx;have hlen:=r.length;refine⟨"list",_,slot_list_getitem.lookup,ht.isList.typeIs,?_⟩;refine wpAny_getItem_list_slice ht.isList hs pl pu .none (!4) ?_ (by rw[aE]<;>omega);rw[sU,<- hlen];refine⟨.ref s.heap.objs.size,_,I.laid (t':=s.toks) (o:=.lst (nY xs lo hi)) (λb ob q=>ak _ q) (ap _) ?_,rfl,q _ (I.eP.fresh (ap _))⟩;exact⟨bq (pK xs lo hi) hz,_,0,(r.drop (HT.gK xs.length 0 lo)).take (HT.gK xs.length xs.length hi - HT.gK xs.length 0 lo),ay _ rfl⟩
theorem vc:f6 X (.builtin "len") (λxs H Q=>∃p ys,xs=[.ref p]/\(gD X.K H p ys\/iQ X.K H p ys)/\Q (.int ys.length) H):=by
 intro pins s σ H xs us Q I r h;obtain⟨p,ys,rfl,hq,q⟩:=h;obtain⟨u,rfl,rx⟩:=vals1 r;cases rx;have hn:=u7;rcases hq with hq | hq
 .obtain⟨its,r',pl,hz⟩:=I.list hq
  have hlen:=r'.length;exact Calls.call_len_list pl.isList (by simp only[aE]<;>omega) ⟨.int ys.length,H,I.tok _,⟨s.toks+1,by rw[aE,hlen]⟩,q⟩
 .obtain⟨its,r',pl,hz⟩:=I.tuple hq
  have hlen:=r'.length;exact len_tuple pl (by simp only[aE]<;>omega) ⟨.int ys.length,H,I.tok _,⟨s.toks+1,by rw[aE,hlen]⟩,q⟩
theorem sV:f6 X (.type "tuple") (λxs H Q=>∃p ys,xs=[.ref p]/\((gD X.K H p ys/\∀l,H l=none->Q (.ref l) (eM H l (.tup ys)))\/(iQ X.K H p ys/\Q (.ref p) H))):=by
 intro pins s σ H xs us Q I r h;obtain⟨p,ys,rfl,h⟩:=h;obtain⟨u,rfl,rx⟩:=vals1 r;cases rx;rcases h with⟨hq,q⟩ | ⟨hq,q⟩
 .obtain⟨its,r',pl,hz⟩:=I.list hq
  have hlen:=r'.length;refine call_tuple_list pl.isList (λh' kp=>?_) (by simp only[aE]<;>omega);have I1:Inv X pins σ H { s with heap:=h' }:=I.kept (t':=s.toks) kp
  have I2:Inv X pins σ (eM H h'.objs.size (.tup ys)) { s with heap:=h'.push { cls:=.type "tuple",data:=.seq its.toArray } } :=
   I1.laid (t':=s.toks) (λb o e=>ak _ e) (ap _) (show fH X.prog X.w _ _ _ (.tup ys) from ⟨hz,its,r',u4.new _ _⟩)
  exact⟨.ref h'.objs.size,_,I2,rfl,q _ (I1.eP.fresh (ap _))⟩
 .obtain⟨its,r',pl,hz⟩:=I.tuple hq
  exact call_tuple_same pl ⟨.ref p,H,I,rfl,q⟩
noncomputable def Td (K:W.Frag)(T:String)(x:V)(H:Hp):Prop:=match x with
 | .str _=>T = "str"
 | .int _=>T = "int"
 | .ref p=>(T = "list" /\ ∃xs,gD K H p xs)\/(T = "tuple" /\ ∃o,K.lookup p=some o/\o.cls=.type "tuple" /\ o.dict=none) \/
   (T = "dict" /\ ((∃kvs,H p=some (.dK kvs))\/∃kvs,H p=some (.dT kvs)))\/(T = "set" /\ ∃S n,H p=some (.set S n))
 | _=>False
theorem Eg (I:Inv X pins σ H s)(r:RelV x v)(ty:Td X.K T x H) :
  s.TypeIs v T/\∀a,v=.ref a->∃ob,s.heap.get? a=some ob/\ob.dict=none:=by
 cases x with
 | str z =>
  obtain⟨t,rfl⟩:=r;cases (show T = "str" from ty);exact⟨typeIs_str s z t,λ_ e=>nomatch e⟩
 | int i =>
  obtain⟨t,rfl⟩:=r;cases (show T = "int" from ty);exact⟨typeIs_int s i t,λ_ e=>nomatch e⟩
 | ref p =>
  cases r;rcases ty with⟨rfl,xs,hq⟩ | ⟨rfl,o,hk,hc,hd⟩ | ⟨rfl,hk⟩ | ⟨rfl,S,n,hk⟩
  .obtain⟨its,_,pl,_⟩:=I.list hq
   refine⟨pl.isList.typeIs,λa e=>?_⟩;cases e;obtain⟨o,n,e,c,hd,_⟩:=pl;exact⟨o,e,hd⟩
  .refine⟨⟨o,I.wO p o hk,hc⟩,λa e=>?_⟩
   cases e;exact⟨o,I.wO _ o hk,hd⟩
  .have z:∃o,s.heap.get? p=some o/\o.ExactDict:=by
    rcases hk with⟨kvs,hk⟩ | ⟨kvs,hk⟩
    .obtain⟨_,_,_,_,o,_,_,e,ex,_⟩:=I.eP p _ hk
     exact⟨o,e,ex⟩
    .obtain⟨_,_,_,_,o,_,_,e,ex,_⟩:=I.eP p _ hk
     exact⟨o,e,ex⟩
   obtain⟨o,e,ex⟩:=z;refine⟨⟨o,e,ex.1⟩,λa e2=>?_⟩;cases e2;exact⟨o,e,ex.2.1⟩
  .obtain⟨o,_,_,_,e,ex,_⟩:=I.eP p _ hk
   refine⟨⟨o,e,ex.1⟩,λa e2=>?_⟩;cases e2;exact⟨o,e,ex.2.1⟩
 | _=>exact False.elim ty
noncomputable def Pw (K:W.Frag)(T:String)(r:V->List V->Hp->VK->Prop)(to:TE):TE:=λσ H Q=>to σ H λx H1=>Td K T x H1/\r x [] H1 Q
noncomputable def Te (K:W.Frag)(T:String)(r:V->List V->Hp->VK->Prop)(to:TE)(t:TA):TE:=λσ H Q=>to σ H λx H1=>Td K T x H1/\t σ H1 λxs H2=>r x xs H2 Q
variable {o e:Expr}{es:List Expr}{to:TE}{t:TA}{name:Str}{gR fY:Pos}{T id:String}{r:V->List V->Hp->VK->Prop}
theorem Mv (pa:PlainAttrs T)(slot:Slot T name id)(Eh:typeOf (.builtin id)=pure (.type "method_descriptor"))(hm:CC X id r)(ho:PE X o to)
  (jh:attributeBase o name X.env (eval o X.env)=eval o X.env:=by rfl) (ji:(gR.endLine == fY.line)=true:=by rfl):PE X (.Call (.Attribute o name gR) [] [] fY) (Pw X.K T r to):=by
 rw[3];refine wpAny_Call_method0_late jh ji (fE (ho pins s σ H _ I h) λv s1 ⟨x,H1,I1,r1,ty,q1⟩=>?_);obtain⟨h1,h2⟩:=Eg I1 r1 ty;exact⟨T,id,pa,slot,Eh,h1,h2,Calls.callWith_builtin rfl (PySem.evalArgs_none (hm pins s1 σ H1 x [] v [] Q I1 r1 .nil q1))⟩
theorem Px (pa:PlainAttrs T)(slot:Slot T name id)(Eh:typeOf (.builtin id)=pure (.type "method_descriptor"))(hm:CC X id r)(ho:PE X o to)(ha:PA X (e::es) t)
  (jh:attributeBase o name X.env (eval o X.env)=eval o X.env:=by rfl)
  (Mw:((backTo fY (starEach (e::es) X.env)).all (λx=>!x.1) && (backToKw fY (keywordEach [] X.env)).all (λx=>x.1.isSome)
   && decide ((e::es).length+([]:List Keyword).length+(if ([]:List Keyword).isEmpty then 0 else 1)<30))=true:=by rfl)
  (ji:(gR.endLine == fY.line)=true:=by rfl) (hs:starEach (e::es) X.env=(false,eval e X.env)::starEach es X.env:=by rfl) (Mx:(backTo fY (starEach es X.env)).any (·.1)=false:=by rfl) :
  PE X (.Call (.Attribute o name gR) (e::es) [] fY) (Te X.K T r to t):=by
 rw[3];refine wpAny_Call_method_late jh Mw ji rfl (fE (ho pins s σ H _ I h) λv s1 ⟨x,H1,I1,r1,ty,q1⟩=>?_);obtain⟨h1,h2⟩:=Eg I1 r1 ty;refine⟨T,id,pa,slot,Eh,h1,h2,?_⟩;have hA:=ha fY pins s1 σ H1 _ I1 q1;rw[hs] at hA ⊢;refine Calls.callWith_builtin (by show (false || (backTo fY (starEach es X.env)).any (·.1))=false;rw[Mx]<;>rfl) (Calls.evalArgs_plain ?_);exact fE hA λus s2 ⟨vs,H2,I2,r2,q2⟩=>hm pins s2 σ H2 x vs v us Q I2 r1 r2 q2
end
noncomputable def Tf (X:Cx)(id:String)(r:V->List V->Hp->VK->Prop):Prop :=
 ∀(pins:List (!19)) (s:aw) (σ:St) (H:Hp) (x:V) (xs:List V) (v:ah) (us:List ah) (Q:VK),Inv X pins σ H s->RelV x v->eg xs us->r x xs H Q ->
  aG (!11) X.A (call (.builtin id) (v::us)) (EP X pins σ Q) X.xe s
theorem eg.one (h:eg [x] us):∃u,us=[u]/\RelV x u:=by
 cases h with
 | cons r t =>
  cases t;exact⟨_,rfl,r⟩
theorem eg.zero:∀{us:List ah},eg [] us->us=[]
 | _,.nil=>rfl
theorem eg.rep (h:eg xs us):∀k:Nat,eg (List.replicate k xs).flatten (List.replicate k us).flatten
 | 0=>.nil
 | k+1=>by
  rw[aZ,aZ,cK,cK];exact eg.append h (eg.rep h k)
theorem foldl_rep (its:List ah):∀(k:Nat) (acc:List ah),
  dF (λx1 x2=>x1++x2) acc.toArray (List.replicate k its.toArray)=(acc++(List.replicate k its).flatten).toArray
 | 0,acc=>by simp
 | k+1,acc=>by
  have e:acc.toArray++its.toArray=(acc++its).toArray:=by simp
  have e2:(acc++its)++(List.replicate k its).flatten=acc++(List.replicate (k+1) its).flatten:=by
   rw[aZ,cK,aJ]
  rw[<- e2,<- foldl_rep its k (acc++its),<- e,aZ,dn]
section
theorem Inv.My {its its':List ah}{n:Nat}{f:Array ah->Array ah}{t':Nat}(I:Inv X pins σ H s)(hH:H l=some (.lst xs))
  (e:s.heap.get? l=some { cls:=.type "list",data:=.seq its.toArray n }) (hf:f its.toArray=its'.toArray) (hv:eg ys its') (hz:ys.length<=az) :
  Inv X pins σ (eM H l (.lst ys)) { s with heap:=s.heap.update l (Obj.mapSeq f),toks:=t' }:=by
 have q:=PySem.IsL.update e f;rw[hf] at q;refine I.write (x:=l) (e:=l) (by rw[hH];exact trivial) (.inl rfl) (λb' u hb hu=>(aI s.heap (Obj.mapSeq f) (Ne.symm hb)).trans hu) ⟨_,q⟩ ?_;exact⟨hz,its',_,hv,q⟩
theorem Inv.Py (I:Inv X pins σ H s)(hv:eg ys its)(hz:ys.length<=az) :
  Inv X pins σ (eM H s.heap.objs.size (.lst ys)) { s with heap:=s.heap.push { cls:=.type "list",data:=.seq its.toArray },toks:=t' } :=
 I.laid (λ_ _ q=>ak _ q) (ap _) ⟨hz,its,0,hv,ay _ rfl⟩
theorem Inv.fresh (I:Inv X pins σ H s):H s.heap.objs.size=none:=I.eP.fresh (ap _)
theorem Inv.zu (I:Inv X pins σ H s)(hH:H l=some (.lst xs)):xs.length<=az/\∃(its:List ah) (n:Nat),eg xs its/\xs.length=its.length/\s.heap.get? l=some { cls:=.type "list",data:=.seq its.toArray n }:=by
 obtain⟨z,its,n,r,e⟩:=I.eP l _ hH;exact⟨z,its,n,r,r.length,e⟩
theorem qT (h:n<=az):Builtin.List.listTooLong n=false:=by
 unfold Builtin.List.listTooLong;exact decide_eq_false (!1)
end
section
variable {X:Cx}
noncomputable def HX:V->List V->Hp->VK->Prop:=λx vs H Q=>∃l xs y,x=.ref l/\vs=[y]/\H l=some (.lst xs)/\xs.length<az/\Q .gC (eM H l (.lst (xs++[y])))
theorem CD:Tf X "list.append" HX:=by
 intro pins s σ H x vs v us Q I rx rv h;obtain⟨l,xs,y,rfl,rfl,hH,hz,q⟩:=h;cases rx;obtain⟨u,rfl,ru⟩:=rv.one;obtain⟨z,its,n,r,hl,e⟩:=I.zu hH;refine call_meets F.slot_list_append ⟨_,e,rfl⟩ F.entry_list_append (F.args_list_append_2 _ _) (PySem.list_append l its.toArray n u (by rw[aE];omega)) ⟨e,?_⟩;refine⟨.gC,_,I.My (its':=its++[u]) hH e (!4) (r.append (.cons ru .nil)) ?_,rfl,q⟩;rw[aH,bv];omega
noncomputable def HY:V->List V->Hp->VK->Prop:=λx vs H Q=>∃l b xs zs,x=.ref l/\vs=[.ref b]/\H l=some (.lst xs)/\H b=some (.lst zs)/\xs.length+zs.length<=az/\Q .gC (eM H l (.lst (xs++zs)))
theorem CF:Tf X "list.extend" HY:=by
 intro pins s σ H x vs v us Q I rx rv h;obtain⟨l,b,xs,zs,rfl,rfl,hH,hB,hz,q⟩:=h;cases rx;obtain⟨u,rfl,ru⟩:=rv.one;cases ru;obtain⟨z,its,n,r,hl,e⟩:=I.zu hH;obtain⟨z2,mP,n2,r2,sQ,e2⟩:=I.zu hB;have hsz:its.toArray.size+mP.toArray.size<=az:=by rw[aE,aE];omega
 have w4:¬ (!its.toArray.isEmpty && Builtin.List.listTooLong (its.toArray.size+mP.toArray.size))=true:=by
  rw[qT hsz,Bool.and_false];exact aX
 refine call_meets F.slot_list_extend ⟨_,e,rfl⟩ F.entry_list_extend (F.args_list_extend_2 _ _)
  (AutoSeq1.list_extend_list_list_0 l its.toArray n b mP.toArray n2 w4 (by rw[aE];omega) (!1)) ⟨e,e2,?_⟩
 refine⟨.gC,_,I.My (its':=its++mP) hH e (!4) (r.append r2) ?_,rfl,q⟩;rw[aH];omega
noncomputable def Tg:R2:=λx y H Q=>∃l b xs zs,x=.ref l/\y=.ref b/\H l=some (.lst xs)/\H b=some (.lst zs)/\xs.length+zs.length<=az/\∀p,H p=none->Q (.ref p) (eM H p (.lst (xs++zs)))
theorem Ei:lg X (binaryOp .Add) Tg:=by
 intro pins s σ H x y v u Q I rx ry h;obtain⟨l,b,xs,zs,rfl,rfl,hH,hB,hz,q⟩:=h;cases rx;cases ry;obtain⟨z,its,n,r,hl,e⟩:=I.zu hH;obtain⟨z2,mP,n2,r2,sQ,e2⟩:=I.zu hB;refine PySem.P.add_list e e2 ?_ (by rw[aE,aE];omega);have ea:its.toArray++mP.toArray=(its++mP).toArray:=by simp
 rw[ea];exact⟨.ref _,_,I.Py (t':=s.toks) (r.append r2) (by rw[aH];omega),rfl,q _ I.fresh⟩
noncomputable def Th:R2:=λx y H Q=>∃l k xs,x=.ref l/\y=.int k/\H l=some (.lst xs)/\-(2 ^ 63)<=k/\k<2 ^ 63/\xs.length * k.toNat<=az /\
 ∀p,H p=none->Q (.ref p) (eM H p (.lst (List.replicate k.toNat xs).flatten))
theorem vd {α:Type}(xs:List α)(k:Nat):(List.replicate k xs).flatten.length=k * xs.length:=by
 induction k with
 | zero=>simp
 | succ k ih=>rw[aZ,cK,aH,ih,Nat.succ_mul,Nat.add_comm]
theorem Ej:lg X (binaryOp .Mult) Th:=by
 intro pins s σ H x y v u Q I rx ry h;obtain⟨l,k,xs,rfl,rfl,hH,h1,h2,hz,q⟩:=h;cases rx;obtain⟨t,rfl⟩:=ry;obtain⟨z,its,n,r,hl,e⟩:=I.zu hH;have hlen:its.toArray.size * k.toNat<=az:=by rw[aE,<- hl];exact hz
 have Ti:¬ its.toArray.size * k.toNat > (2 ^ 63 - 1) / 8:=by
  have:(az:Nat)<=(2 ^ 63 - 1) / 8:=by decide
  omega
 have Tj:¬ (!Builtin.List.listFitsIndex k)=true:=by
  rw[fitsIndex_both h1 h2];exact aX
 have w4:¬ Builtin.List.listTooLong (its.toArray.size * k.toNat)=true:=by
  rw[qT hlen];exact aX
 have Ek:dF (λx1 x2=>x1++x2) #[] (List.replicate (if its.toArray.isEmpty=true then 0 else k.toNat) its.toArray)=(List.replicate k.toNat its).flatten.toArray:=by
  have f0:∀m:Nat,dF (λx1 x2=>x1++x2) #[] (List.replicate m its.toArray)=(List.replicate m its).flatten.toArray:=λm=>by
   have:=foldl_rep its m [];rw[bg] at this;exact this
  rw[f0]
  cases its with
  | nil=>simp
  | cons a r'=>rw[if_neg (!4)]
 refine wpAny_binaryOp_repeat_ref (T := "list") (U := "int") (!2) ⟨_,e,rfl⟩ (λs'=>typeIs_int s' k t) noFill_list_mul F.fills_int_mul F.slot_int_rmul repeat_list F.slot_int_index.lookup
  (call_meets F.slot_int_rmul (typeIs_int s k t) F.entry_int_rmul (F.args_int_rmul_2 _ _) (int___rmul___int_list k t l its.toArray n)
   ⟨e,rfl,⟨_,e,rfl⟩,call_meets F.slot_list_mul ⟨_,e,rfl⟩ F.entry_list_mul (F.args_list_mul_2 _ _) (AutoListH.list___mul___list_int_3 l its.toArray n k t Tj Ti w4) ⟨e,?_⟩⟩)
 rw[Ek];exact⟨.ref _,_,I.Py (t':=s.toks) (r.rep k.toNat) (by rw[vd,Nat.mul_comm];exact hz),rfl,q _ I.fresh⟩
end
end L2
namespace Att
open PySem PySem.W PySem.Calls PyProof.Rows
theorem pX:∀(ns:List Int) (vs:List ah),WellAll P h vs (ns.map WData.int)->IntsAre vs ns:=by
 intro ns
 induction ns with
 | nil =>
  intro vs w;rw[bH] at w;cases w;exact .nil
 | cons n ns ih =>
  intro vs w;rw[ar] at w
  cases w with
  | cons a b =>
   cases a;exact .cons _ _ (ih _ b)
theorem CG {l:OpenLaw}{n:Nat}(hn:l.most=some n){P:Params}{h:Heap}{args:List WData}{Mz:List ah}
  (CH:l.row.toRowW.claim.pre args=true) (Tn:WellAll P h Mz args) :
  ∃a vs ns,Mz=[ah.ref a]/\args=[WData.list (ns.map WData.int)]/\h.get? a=some { cls:=.type "list",data:=.seq vs.toArray }/\IntsAre vs ns/\ns.length<=n:=by
 have WJ:WShape.hasAll [] args [.list .int]=true:=(pre_splitW CH).1;have hc:l.pre.holds [] { args:=args }=true:=(pre_splitW CH).2;obtain⟨d,r,rfl,h1,h2⟩:=hasAllW_cons WJ;obtain rfl:=hasAllW_nil h2;obtain⟨xs,rfl,h3⟩:=hasW_list h1;obtain⟨ns,rfl⟩:=items_int h3
 have hlen:ns.length<=n:=by
  unfold OpenLaw.pre at hc
  have h4:(WTm.not (.lt (.lit (.int (n:Int))) (.len (.arg 0)))).holds [] { args:=[.list (ns.map .int)] }=true:=by
   have h4:=(holds_andW hc).1;rw[hn] at h4;exact h4
  have h5:=condW_of h4 (w_not (w_lt w_lit (w_len_list (w_arg rfl))));rw[ao] at h5;refine dB λq=>?_;have q':(n:Int)<((ns.length:Nat):Int):=by omega
  first
   | (rw[decide_eq_true q'] at h5;exact absurd h5 (!2))
   | (simp at h5;omega)
 cases Tn with
 | cons w1 w2 =>
  cases w2
  cases w1 with
  | list ho oZ=>exact⟨_,_,ns,rfl,rfl,ho,pX ns _ oZ,hlen⟩
theorem CI (l:OpenLaw)(args:List WData):l.row.toRowW.claim.post args (.bool true) args=true :=
 postW_of (r:=l.row.toRowW) (X:=(true == true))
  (show WShape.has [] (.bool true) .bool=true by first | rfl | decide | simp[WShape.has,WShape.arms,WShape.armsAll])
  (show (WTm.eq .res (.lit (.bool true))).value [] { args:=args,res:=some (.bool true),after:=args }=some (.bool (true == true)) from w_eq_bool (w_res rfl) w_lit) rfl
theorem w5 {l:OpenLaw}{n:Nat}{q:aV}{loose:List Str}{XP:(Str->Option ah)->Heap->Prop}{YP:World->Heap->Prop}{d:DefRec}
  (hn:l.most=some n) (Pz:d.params.defaults=[])
  (call:∀(w:World) (s₀ s₁:aw) (mg mb:Str->Option ah) (fa:Addr) (o:Obj) (pm cd sP:ah) (a:Addr) (vs:List ah) (ns:List Int),
   Ground q loose [] XP w s₀ mg mb s₁.heap->YP w s₁.heap ->
   s₁.heap.get? fa=some o->o.data=.func (docDef d.name d.params d.body d.scope pm cd sP)->s₁.heap.CodeRec cd d.name->mg d.name=some (.ref fa) ->
   s₁.heap.get? a=some { cls:=.type "list",data:=.seq vs.toArray }->IntsAre vs ns->ns.length<=n->s₁.gens=#[] ->
   codeAny (model l.prog w) callerA (.call (.ref fa) ⟨[.ref a],[]⟩) (λr s'=>r=.ok (.ret (.bool true))/\OldK s₁.heap s'.heap/\s'.os=s₁.os/\AllBare s'.gens) s₁) :
  WalkO q loose XP YP l.row.toRowW d [] (λf vs=>PySem.call f vs):=by
 intro w s₀ s₁ mg mb G Y fa o pm cd sP dV kV ho hd jb hD PB hg args Mz as CH WK YS Tn PD;obtain rfl:dV=.none:=Dflts.none hD Pz;obtain rfl:kV=.none:=Dflts.noKw hD;obtain⟨a,vs,ns,rfl,rfl,MA,El,hlen⟩:=CG hn CH Tn;refine enter_call (codeAny_mono (call w s₀ s₁ mg mb fa o pm cd sP a vs ns G Y ho (fd_plain hd) jb PB MA El hlen hg) λr s' hq=>?_);obtain⟨rfl,h2,h3,h4⟩:=hq;exact⟨.inl ⟨.bool true,.bool true,[],rfl,λ_=>rfl,.bool true,CI l _,λ_=>⟨List.Pairwise.nil,λ_ hm=>(nomatch hm)⟩⟩,h2,h3,h4⟩
end Att
namespace L2
open PySem PySem.Spec PyProof.Rows
theorem tN:∀{vs:List ah} {ns:List Int},IntsAre vs ns->eg (!23) vs
 | _,_,.nil=>.nil
 | _,_,.cons n t h=>.cons ⟨t,rfl⟩ (tN h)
noncomputable def MB (H:Hp):Prop:=∀b,H b=none\/∃o xs,H b=some (.nj o (.lst xs))
theorem Em {P:aV}{w:World}{K:W.Frag}{mg mb:Str->Option ah}{CX:Eb}{k:Nat}{fa a:Addr}{fd:b9}{x:Str}{sp:Sp}{s₁:aw}{vs:List ah}{ns:List Int}
  (KX:K.In s₁.heap) (VJ:s₁.heap.Ns bn mg) (hb:s₁.heap.Ns builtinsNs mb) (WL:∀x:Str,x ≠ "__name__" -> mb x=bootBuiltins x) (To:s₁.heap.NoLimit) (hg:s₁.gens=#[])
  (ha:s₁.heap.get? a=some { cls:=.type "list",data:=.seq vs.toArray }) (hi:IntsAre vs ns) (hl:ns.length<=az) (hr:gy k callerA)
  (F:∀base:Heap,K.In base->base.Ns bn mg->lx P w K mg base CX k fa fd [x] sp) (PF:∀(s:aw) (u:ah),BindsTo s fd ⟨[u],[]⟩ [(x,u)])
  (Kv:∀H:Hp,MB H->gD K H a (!23)->sp [.ref a] H (λv _=>v=.bl true) λ_ _ _=>False)
  (Tp:∀H e s',CX [] H s₁ (λ_ _ _=>False) e s'->False) :
  codeAny (model P w) callerA (.call (.ref fa) ⟨[.ref a],[]⟩) (λr s'=>r=.ok (.ret (.bool true))/\OldK s₁.heap s'.heap/\s'.os=s₁.os/\AllBare s'.gens) s₁:=by
 have rv:=tN hi;have Tq:=hi.length
 have PH:∀H:Hp,MB H->gD K H a (!23)->lD P w H s₁.heap->(∀b,H b≠none->b=a)->(H a≠none->K.lookup a=none) ->
   codeAny (model P w) callerA (.call (.ref fa) ⟨[.ref a],[]⟩) (λr s'=>r=.ok (.ret (.bool true))/\OldK s₁.heap s'.heap/\s'.os=s₁.os/\AllBare s'.gens) s₁:=by
  intro H hO hS eP hA hK;have Bc:∀{b:Addr} {o:Obj},s₁.heap.get? b=some o->H b=none->(u6 s₁.heap H).get? b=some o:=λe n=>DW e n
  have Pj:∀{b:Addr} {o:Obj} {es:Array DictEntry} {ep:Nat},s₁.heap.get? b=some o->o.data=.dict es ep->H b=none:=λ{b o es ep} e d=>by
   cases q:H b with
   | none=>rfl
   | some u =>
    have e':b=a:=hA b (by rw[q];simp);subst e';rw[ha] at e;cases e;have d':Data.seq vs.toArray _=Data.dict es ep:=d;cases d'
  have R6:∀{b:Addr} {m:Str->Option ah},s₁.heap.Ns b m->(u6 s₁.heap H).Ns b m:=λ{b m} ⟨o,es,ep,e,d,r⟩=>⟨o,es,ep,Bc e (Pj e d),d,r⟩
  have VL:K.In (u6 s₁.heap H):=λb o e=>Bc (KX b o e) (by
   cases q:H b with
   | none=>rfl
   | some u =>
    have e':b=a:=hA b (by rw[q];simp);subst e';rw[hK (by rw[q];simp)] at e;cases e)
  have hM:Mod K mg (u6 s₁.heap H):=⟨VL,R6 VJ,⟨mb,R6 hb,WL⟩,let ⟨mc,h1,h2⟩:=To;⟨mc,R6 h1,h2⟩⟩;have e0:HM P w K mg (u6 s₁.heap H) callerA [] s₁ H:=⟨rfl,hM,λb o e=>Hk e,Nat.le_of_eq (Cp _ _),trivial,λb hb=>absurd (show b∈([]:List Addr) from hb) (!4),eP,.of_eq hg⟩;refine codeAny_mono ((F _ VL (R6 VJ)).run callerA [] s₁ H ⟨[.ref a],[]⟩ [.ref a] [.ref a] _ _ hr e0 (PF s₁ (.ref a)) (.cons rfl .nil) (Kv H hO hS)) λr s' h=>?_
  cases r with
  | error e=>exact (Tp H e s' h).elim
  | ok fl =>
   cases fl with
   | next=>exact False.elim h
   | brk=>exact False.elim h
   | cont=>exact False.elim h
   | ret u =>
    obtain⟨v,H',os,bare,un,Tr,r',q⟩:=h;have q':v=.bl true:=q;subst q';obtain rfl:u=ah.bool true:=r';refine⟨rfl,OldK.of_keep λb o e=>?_,os,bare⟩
    cases q:H b with
    | none=>exact un.keep b o e q (by intro z;exact absurd (show b∈([]:List Addr) from z) (!4)) (!4)
    | some u =>
     rcases hO b with z | ⟨ob,xs,z⟩
     .rw[q] at z;cases z
     .have z2:=un.u5 b ob _ z
      obtain⟨e1,_⟩:=eP b _ z;obtain⟨e2,_⟩:=Tr b _ z2;rw[e] at e1;cases e1;exact e2
 cases hk:K.lookup a with
 | some o =>
  have e:=KX a o hk;rw[ha] at e;cases e;refine PH (λ_=>none) (λ_=>.inl rfl) (.inr ⟨_,vs.toArray,_,hk,rfl,rfl,rfl,by rw[aE,Tq];exact hl,by simpa using rv⟩) (λb u z=>by have z':(none:Option HO)=some u:=z;cases z') (λb z=>absurd rfl z) λz=>absurd rfl z
 | none =>
  refine PH (λb=>if b=a then some (.nj { cls:=.type "list",data:=.seq vs.toArray } (.lst (!23))) else none) (λb=>?_) (.inl (.inr ⟨{ cls:=.type "list",data:=.seq vs.toArray },if_pos rfl⟩)) (λb u z=>?_) (λb z=>?_) λ_=>hk
  .by_cases hb:b=a
   .exact .inr ⟨_,_,if_pos hb⟩
   .exact .inl (if_neg hb)
  .by_cases hb:b=a
   .have z':=(if_pos hb).symm.trans z
    cases z';subst hb;exact⟨ha,by rw[ao];exact hl,vs,_,rv,ha⟩
   .have z':=(if_neg hb).symm.trans z
    cases z'
  .by_cases hb:b=a
   .exact hb
   .exact absurd (if_neg hb) z
noncomputable abbrev YT {K:W.Frag}{h:Heap}(_:K.In h):W.Frag:=K
theorem HZ {l:W.OpenLaw}{n k:Nat}{q:aV}{loose:List Str}{XP:(Str->Option ah)->Heap->Prop}{YP:World->Heap->Prop}{d:DefRec}{K:Params->W.Frag}{CX:World->Eb}{sp:World->Sp}{x:Str}
  (hn:l.most=some n) (R7:n<=az) (Pz:d.params.defaults=[]) (hr:gy k callerA)
  (hY:∀(w:World) (h:Heap),YP w h->(K w.params).In h)
  (F:∀(w:World) (mg:Str->Option ah) (fa:Addr) (h:Heap),(K w.params).In h->h.Ns bn mg->mg d.name=some (.ref fa) ->
   ∃fd:b9,(∀(s:aw) (u:ah),BindsTo s fd ⟨[u],[]⟩ [(x,u)]) /\
    ∀base:Heap,(K w.params).In base->base.Ns bn mg->lx l.prog w (K w.params) mg base (CX w) k fa fd [x] (sp w))
  (Kv:∀(w:World) (H:Hp) (a:Addr) (ns:List Int),ns.length<=n->MB H->gD (K w.params) H a (!23)->sp w [.ref a] H (λv _=>v=.bl true) λ_ _ _=>False)
  (Tp:∀(w:World) (H:Hp) (s:aw) (e:ah) (s':aw),CX w [] H s (λ_ _ _=>False) e s'->False) :
  W.WalkO q loose XP YP l.row.toRowW d [] (λf vs=>PySem.call f vs):=by
 refine Att.w5 hn Pz λw s₀ s₁ mg mb fa o pm cd sP a vs ns G Y ho hd jb PB MA El hlen hg=>?_;have KX:=hY w _ Y;obtain⟨fd,hb,hF⟩:=F w mg fa _ KX G.T.g PB;exact Em KX G.T.g G.T.b G.T.builtins G.T.nolimit hg MA El (bq hlen R7) hr hF hb (λH hO hS=>Kv w H a ns hlen hO hS) λH e s'=>Tp w H s₁ e s'
noncomputable def jH (s:Stmt):Arguments:=match s with
 | .FunctionDef _ a _ _ _ _ _ _ _ _=>a
 | _=>{ posonlyargs:=[],args:=[],vararg:=none,kwonlyargs:=[],kw_defaults:=[],kwarg:=none,defaults:=[] }
noncomputable def fZ (s:Stmt):List Stmt:=match s with
 | .FunctionDef _ _ b _ _ _ _ _ _ _=>b
 | _=>[]
noncomputable def dQ (s:Stmt):Scope:=match s with
 | .FunctionDef _ _ _ _ _ _ sc _ _ _=>sc
 | _=>{ kind:=.function,names:=[],isGenerator:=false,isCoroutine:=false }
noncomputable abbrev vf:Eb:=λ_ _ _ _ _ _=>False
noncomputable abbrev E0:XK:=λ_ _ _=>False
theorem PJ:zo vf X E0:=λ_ _ _ _ _ _ _ h=>h.elim
structure w6 (K:W.Frag) (x fF:Str) (st:Stmt) (f:Addr) (fd:b9):Prop where
 ex:∃(oc:ah) (od:Option Addr) (kV sP pm:ah) (an:Option Addr) (fG ct:ah) (G4:Array (Option ah)),
  fd=W.fnOf x fF (jH st) (fZ st) (dQ st) .none kV sP pm an fG ct/\K.lookup f=some ⟨oc,od,.func fd,G4⟩/\W.codeIn K fG fF=true
 kp:W.keepIn K (.ref f)=true
section
variable {P:aV}{w:World}{K:W.Frag}{mg:Str->Option ah}{base:Heap}
theorem w6.ok {x fF:Str}{st:Stmt}{f:Addr}{fd:b9}{N ps:List Str}{k:Nat}{sp:Sp}(F:w6 K x fF st f fd)(S:fD N ps (dQ st))(len:∀vs H Q E,sp vs H Q E->vs.length=ps.length)
  (wZ:∀(fG:ah) (A:Around) (outer:List Env) (s:aw) (H:Hp) (vs:List V) (Q:VK) (E:XK),gy k (A.deeper (envOfC fF (dQ st) s.heap.objs.size f fG))->sp vs H Q E ->
   ∃t,y0 (nq vf P w K mg base N fF (dQ st) f fG A outer s H E).Cq (fZ st) t/\t { nx:=λ_ H'=>Q .gC H',rt:=Q } (start N vs) H):lx P w K mg base vf (k+1) f fd ps sp:=by
 obtain⟨oc,od,kV,sP,pm,an,fG,ct,G4,rfl,lk,jb⟩:=F.ex;refine Pk lk jb S len λA outer s H vs Q E hr Kv=>?_;obtain⟨t,h,q⟩:=wZ fG A outer s H vs Q E hr Kv;exact⟨t,h.Cq,q⟩
theorem w6.binds {x fF:Str}{st:Stmt}{f:Addr}{fd:b9}{ps:List Str}(F:w6 K x fF st f fd)
  (h:∀(kV sP pm:ah) (an:Option Addr) (fG ct:ah) (us:List ah),us.length=ps.length->bindArgs (W.fnOf x fF (jH st) (fZ st) (dQ st) .none kV sP pm an fG ct) ⟨us,[]⟩=pure (ps.zip us)):Binds K fd ps []:=by
 obtain⟨oc,od,kV,sP,pm,an,fG,ct,G4,rfl,lk,jb⟩:=F.ex;exact .all (h kV sP pm an fG ct)
theorem En {x fF:Str}{st:Stmt}{f:Addr}{oc:ah}{od an:Option Addr}{G4:Array (Option ah)}{kV sP pm fG ct:ah}(l:K.lookup f=some ⟨oc,od,.func (W.fnOf x fF (jH st) (fZ st) (dQ st) .none kV sP pm an fG ct),G4⟩)
  (c:W.codeIn K fG fF=true) (k:W.keepIn K (.ref f)=true):w6 K x fF st f (W.fnOf x fF (jH st) (fZ st) (dQ st) .none kV sP pm an fG ct):=⟨⟨oc,od,kV,sP,pm,an,fG,ct,G4,rfl,l,c⟩,k⟩
end
theorem PK (hr:gy k A):A.units+1<cLine:=cv (Nat.add_le_add_left (by decide:1<=64) _) hr.units
section
theorem pv (i:Nat)(hN:X.N[i]? = some x:=by rfl)(hv:qM X.env.scope x:=by (first | exact Or.inl rfl | exact Or.inr (Or.inl rfl) | exact Or.inr (Or.inr rfl)))(hd:(x == (!12))=false:=by decide)
  (jb:(x == (!18))=false:=by decide):PE X (.Name x pos) (Hn i):=DY hN hv hd jb
end
theorem MC {A B:Prop}(h:B):if false=true then A else B:=by
 rw[if_neg aX];exact h
theorem PL {A B:Prop}(h:A):if true=true then A else B:=by
 rw[if_pos rfl];exact h
theorem MD {c A B:Prop}[Decidable c](h1:c->A)(h2:¬ c->B):if c then A else B:=by
 by_cases h:c
 .rw[if_pos h]
  exact h1 h
 .rw[if_neg h]
  exact h2 h
structure eD (P:aV) (w:World) (K:W.Frag) (mg:Str->Option ah) (base:Heap) (k:Nat) (x:Str) (ps:List Str) (sp:Sp):Prop where
 ex:∃(f:Addr) (fd:b9),lx P w K mg base vf k f fd ps sp/\mg x=some (.ref f)/\W.keepIn K (.ref f)=true/\Binds K fd ps []
noncomputable def qU (sp:Sp)(t:TA):TE:=λσ H Q=>t σ H λvs H1=>sp vs H1 Q E0
theorem CJ (sp:Sp)(t:TA):Ec sp [] E0 t=qU sp t:=by
 funext σ H Q;unfold Ec qU;congr;funext vs H1;rw[cj]
section
theorem Eo (D:eD X.prog X.w X.K X.mg X.base k x ps sp)(hr:gy k X.A)(ha:PA X (e::es) t)(hg:Gl X x:=by rfl)
  (oX:(x == (!12))=false:=by decide) (he:starEach (e::es) X.env=(false,eval e X.env)::starEach es X.env:=by rfl) (jE:(backTo pos (starEach es X.env)).any (·.1)=false:=by rfl) :
  PE X (.Call (!25) (e::es) [] pos) (qU sp t):=by
 obtain⟨f,fd,F,hm,hk,hb⟩:=D.ex;rw[<- CJ];exact HN F hr hg hm hk hb .nil PJ ha oX he jE
end
noncomputable def mQ (cells:List (Str × Addr)):List (Str × aQ)->List (Str × Addr)->List (Str × Addr)
 | [],acc=>acc
 | (n,k)::r,acc=>mQ cells r (if (k == aQ.free)=true then (n,(cells.lookup n).getD 0)::acc else acc)
theorem tO (cells:List (Str × Addr))(n:Str)(k:aQ)(r:List (Str × aQ))(acc:List (Str × Addr)):mQ cells ((n,k)::r) acc=mQ cells r (if (k == aQ.free)=true then (n,(cells.lookup n).getD 0)::acc else acc):=rfl
theorem w9:∀{l:List (Str × aQ)} {acc:List (Str × Addr)},(x,c)∈mQ cells l acc->(x,c)∈acc\/((x,aQ.free)∈l/\c=(cells.lookup x).getD 0)
 | [],acc,h=>.inl h
 | (n,k)::r,acc,h=>by
  unfold mQ at h;rcases w9 h with h | ⟨h1,h2⟩
  .by_cases hk:(k == aQ.free)=true
   .rw[if_pos hk] at h
    rcases ax.mp h with h | h
    .cases h
     have:k=aQ.free:=by simpa using hk
     subst this;exact .inr ⟨aq,rfl⟩
    .exact .inl h
   .rw[if_neg hk] at h
    exact .inl h
  .exact .inr ⟨ai _ h1,h2⟩
theorem xg:∀{l:List (Str × aQ)} {acc:List (Str × Addr)},q∈acc->q∈mQ cells l acc
 | [],_,h=>h
 | (n,k)::r,acc,h=>by
  unfold mQ;refine xg ?_;split
  .exact ai _ h
  .exact h
theorem Bd:∀{l:List (Str × aQ)} {acc:List (Str × Addr)},(x,aQ.free)∈l->(x,(cells.lookup x).getD 0)∈mQ cells l acc
 | [],_,h=>by cases h
 | (n,k)::r,acc,h=>by
  unfold mQ;rcases ax.mp h with h | h
  .cases h
   refine xg ?_;simp
  .exact Bd h
theorem nu {β:Type}{x:Str}{b:β}:∀{l:List (Str × β)},(x,b)∈l->∃c,l.lookup x=some c
 | [],h=>by cases h
 | (n,k)::r,h=>by
  rw[cO]
  cases e:x == n with
  | true=>exact⟨k,rfl⟩
  | false =>
   rcases ax.mp h with h | h
   .cases h
    simp at e
   .exact nu h
theorem lJ:∀(l:List (Str × aQ)) (acc:List (Str × Addr)),(∀x∈l,x.2=aQ.free->∃c,env.cells.lookup x.1=some c) ->
  (forIn l acc λx r=>if (x.2 == aQ.free)=true then (do let c <- cellOf env x.1;pure (ForInStep.yield ((x.1,c)::r))) else pure (ForInStep.yield r):Sem (List (Str × Addr)))=pure (mQ env.cells l acc)
 | [],acc,_=>rfl
 | (n,k)::r,acc,h=>by
  rw[List.forIn_cons];by_cases hk:(k == aQ.free)=true
  .obtain⟨c,hc⟩:=h (n,k) aq (by simpa using hk)
   have e:cellOf env n=pure c:=by unfold cellOf;rw[hc]
   show (if (k == aQ.free)=true then _ else _) >>= _=_;rw[if_pos hk,e];show (forIn r ((n,c)::acc) _:Sem _)=_;rw[lJ r _ λx hx=>h x (ai _ hx)];rw[tO,if_pos hk,show env.cells.lookup n=some c from hc];rfl
  .show (if (k == aQ.free)=true then _ else _) >>= _=_
   rw[if_neg hk];show (forIn r acc _:Sem _)=_;rw[lJ r _ λx hx=>h x (ai _ hx)];rw[tO,if_neg hk]
theorem sW (h:∀x∈scope.names,x.2=aQ.free->∃c,env.cells.lookup x.1=some c):closureFor scope env=pure (mQ env.cells scope.names []):=by
 have e:=lJ scope.names [] h;unfold closureFor
 first
  | exact (congrArg (λm=>m >>= λr=>pure r) e).trans rfl
  | (simp only[bind_pure];exact e)
  | (rw[<- e];rfl)
noncomputable def fq (X:Cx)(sc:Scope)(N:List Str)(cl:List (Str × Addr))(C:Addr)(s₂:aw)(H₂:Hp)(fp:List Addr):Cx where
 prog:=X.prog
 w:=X.w
 K:=X.K
 mg:=X.mg
 base:=X.base
 A:=X.A
 N:=N
 s₀:=s₂
 H₀:=H₂
 env:=compEnvC sc cl C X.env
 outer:=X.stack
 stack:=X.stack
 ex:=fp
 fn:=λx=>sc.names.lookup x == some aQ.cell
 calm:=true
 pn:=[]
 xe:=λ_ _=>False
noncomputable def iR (NX:List Str)(ME sc:Scope)(N:List Str)(mp:List (Option Nat)):Bool :=
 sc.names.all (λp=>p.2 != aQ.cell || sc.names.lookup p.1 == some aQ.cell) && sc.names.all (λp=>p.2 != aQ.local || sc.names.lookup p.1 == some aQ.local) &&
 sc.names.all (λp=>p.2 != aQ.free || (ME.names.lookup p.1 == some aQ.cell || ME.names.lookup p.1 == some aQ.free)) && sc.names.all (λp=>p.2 != aQ.free || sc.names.lookup p.1 == some aQ.free) &&
 mp.length == N.length && (N.zip mp).all (λq=>match q.2 with | none=>true | some i=>NX[i]? == some q.1 && sc.names.lookup q.1 == some aQ.free)
noncomputable def lK (mp:List (Option Nat))(σ:St):St:=mp.map λo=>match o with | none=>none | some i=>(σ[i]?).join
structure qV (NX:List Str) (ME sc:Scope) (N:List Str) (mp:List (Option Nat)):Prop where
 cell:∀x∈sc.names,x.2=aQ.cell->sc.names.lookup x.1=some aQ.cell
 loc:∀x∈sc.names,x.2=aQ.local->sc.names.lookup x.1=some aQ.local
 free:∀x∈sc.names,x.2=aQ.free->ME.names.lookup x.1=some aQ.cell\/ME.names.lookup x.1=some aQ.free
 fr:∀x∈sc.names,x.2=aQ.free->sc.names.lookup x.1=some aQ.free
 len:mp.length=N.length
 map:∀(j:Nat) (x:Str) (i:Nat),N[j]? = some x->mp[j]? = some (some i)->NX[i]? = some x/\sc.names.lookup x=some aQ.free
theorem tP (h:iR NX ME sc N mp=true):qV NX ME sc N mp:=by
 unfold iR at h;simp only[bP,List.all_eq_true] at h;obtain⟨⟨⟨⟨⟨h1,h2⟩,h3⟩,h6⟩,h4⟩,h5⟩:=h;have hl:mp.length=N.length:=by simpa using h4
 refine⟨λx hx e=>?_,λx hx e=>?_,λx hx e=>?_,λx hx e=>?_,hl,λj x i e1 e2=>?_⟩
 .have:=h1 x hx
  rw[e] at this;simpa using this
 .have:=h2 x hx
  rw[e] at this;simpa using this
 .have:=h3 x hx
  rw[e] at this;simpa using this
 .have:=h6 x hx
  rw[e] at this;simpa using this
 .have Ts:j<N.length:=(aA.mp e1).1
  have YU:j<mp.length:=(aA.mp e2).1
  have hm:(x,some i)∈N.zip mp:=by
   refine cg (i:=j) ?_;rw[List.getElem?_zip_eq_some];exact⟨e1,e2⟩
  have:=h5 _ hm;simpa using this
theorem lL (h:(relabel sc env).names.lookup x=some k):∃k',(x,k')∈sc.names/\(k=k'\/(k'=aQ.free/\k=aQ.cell)):=by
 have hm:=PySem.mem_of_lookup h;obtain⟨⟨n,k'⟩,Ov,e⟩:=aM.mp hm;refine⟨k',?_⟩;dsimp only at e;split at e
 .rename_i hc
  cases e;rw[bP,bP] at hc;have:k'=aQ.free:=by simpa using hc.1.1
  exact⟨Ov,.inr ⟨this,rfl⟩⟩
 .cases e
  exact⟨Ov,.inl rfl⟩
theorem vg (h:sc.names.lookup x=some aQ.free):(relabel sc env).names.lookup x=some aQ.cell\/(relabel sc env).names.lookup x=some aQ.free:=by
 show (sc.names.map _).lookup x=_\/(sc.names.map _).lookup x=_;generalize sc.names=l at h
 induction l with
 | nil=>cases h
 | cons p r ih =>
  obtain⟨n,k⟩:=p;rw[ar];dsimp only;by_cases hc:(k == aQ.free && env.scope.kind == .function && env.kindOf n == some .cell)=true
  .rw[if_pos hc,cO]
   cases e:x == n with
   | true=>exact .inl rfl
   | false =>
    rw[cO,e] at h;exact ih h
  .rw[if_neg hc,cO]
   cases e:x == n with
   | true =>
    rw[cO,e] at h;exact .inr h
   | false =>
    rw[cO,e] at h;exact ih h
theorem vh:∀{l:List (Str × aQ)} {n:Nat} {acc:List (Str × Addr)},q∈acc->q∈cellsFrom n l acc
 | [],_,_,h=>h
 | (m,k)::r,n,acc,h=>by
  unfold cellsFrom;split
  .exact vh (ai _ h)
  .exact vh h
theorem Ep:∀{l:List (Str × aQ)} {n:Nat} {acc:List (Str × Addr)},(x,aQ.cell)∈l->∃c,(x,c)∈cellsFrom n l acc
 | (m,k)::r,n,acc,h=>by
  unfold cellsFrom;rcases ax.mp h with h | h
  .cases h
   exact⟨n,vh (n:=n+1) (l:=r) (acc:=(x,n)::acc) aq⟩
  .split
   .exact Ep h
   .exact Ep h
theorem zv:∀{l:List (Str × aQ)} {h:Heap} {n:Nat} {acc:List (Str × Addr)},h.objs.size=n->q∈cellsFrom n l acc->q∈acc\/(n<=q.2/\(q.1,aQ.cell)∈l/\(pushCells h l).IsCell q.2 none)
 | [],_,_,_,_,h=>.inl h
 | (m,k)::r,hp,n,acc,hn,h=>by
  unfold cellsFrom at h;unfold pushCells;by_cases hk:(k == aQ.cell)=true
  .rw[if_pos hk] at h ⊢
   have e:k=aQ.cell:=by simpa using hk
   subst e;rcases zv (h:=hp.push { cls:=.type "cell",data:=.cell none }) (by rw[bV,hn]) h with h | ⟨h1,h2,h3⟩
   .rcases ax.mp h with h | h
    .subst h
     subst hn;exact .inr ⟨ap _,aq,⟨_,pushCells_keeps _ _ _ _ (ay _ rfl),rfl⟩⟩
    .exact .inl h
   .exact .inr ⟨!1,ai _ h2,h3⟩
  .rw[if_neg hk] at h ⊢
   rcases zv hn h with h | ⟨h1,h2,h3⟩
   .exact .inl h
   .exact .inr ⟨h1,ai _ h2,h3⟩
theorem zx:∀{l:List (Str × aQ)} {n:Nat} {acc:List (Str × Addr)},(∀q∈acc,q.2<n)->(∀x y c,(x,c)∈acc->(y,c)∈acc->x=y)->∀x y c,(x,c)∈cellsFrom n l acc->(y,c)∈cellsFrom n l acc->x=y
 | [],_,_,_,h=>h
 | (m,k)::r,n,acc,hn,h=>by
  unfold cellsFrom;split
  .refine zx (λq hq=>?_) λx y c hx hy=>?_
   .rcases ax.mp hq with e | e
    .subst e;exact cP _
    .exact b8 (hn q e)
   .rcases ax.mp hx with e | e<;>rcases ax.mp hy with e' | e'
    .cases e;cases e';rfl
    .cases e;exact absurd (hn _ e') (bM _)
    .cases e';exact absurd (hn _ e) (bM _)
    .exact h x y c e e'
  .exact zx hn h
theorem zy
  (hQ:(pushCells (s.heap.push { cls:=.type "dict",data:=.dict #[] }) scope.names).Ns s.heap.objs.size (λ_=>none) ->
   Q (newEnv scope s.heap.objs.size globals (cellsFrom (s.heap.objs.size+1) scope.names closure) fF none .none (some env) 0) { s with heap:=pushCells (s.heap.push { cls:=.type "dict",data:=.dict #[] }) scope.names }) :
  aG M A (newFunctionEnv scope globals closure [] fF none .none (some env)) Q E s:=by
 simp only[newFunctionEnv,Option.isSome_some,if_true];refine aa (wpAny_alloc ?_);refine aa (wpAny_layCells _ (λname kind cells=>by cases WM:kind == aQ.cell<;>simp[WM]) _ _ _ _ ?_);rw[show ({ s with heap:=s.heap.push { cls:=.type "dict",data:=.dict #[] } }:aw).heap.objs.size=s.heap.objs.size+1 from bV ..];rw[List.forIn_nil];exact aa (aj (aj (hQ ((Heap.Ns.new s.heap (.type "dict")).keeps (pushCells_keeps _ _)))))
structure PM (X:Cx) (sc:Scope) (C:Addr) (h:Heap) (cl:List (Str × Addr)):Prop where
 has:∀x,(x,aQ.cell)∈sc.names\/(x,aQ.free)∈sc.names->∃c,cl.lookup x=some c
 sub:∀x c,cl.lookup x=some c->(X.env.cells.lookup x=some c/\(x,aQ.free)∈sc.names)\/(C<c/\(x,aQ.cell)∈sc.names/\h.IsCell c none)
 inj:∀x y c,cl.lookup x=some c->cl.lookup y=some c->x=y
section
variable {X:Cx}{sc:Scope}{N:List Str}{mp:List (Option Nat)}{pins:List (Addr × Obj)}{σ:St}{H:Hp}{s:aw}{fp:List Addr}{C:Addr}{h₁:Heap}{cl:List (Str × Addr)}
theorem xh (O:qV X.N X.env.scope sc N mp)(ok:X.Ok):∀x∈sc.names,x.2=aQ.free->∃c,X.env.cells.lookup x.1=some c:=λx hx e=>ok.has x.1 (O.free x hx e)
theorem H9 (O:qV X.N X.env.scope sc N mp)(I:Inv X pins σ H s){hp:Heap}(hs:s.heap.objs.size<=hp.objs.size)(e:hp.objs.size=C+1):PM X sc C (pushCells hp sc.names) (cellsFrom (C+1) sc.names (mQ X.env.cells sc.names [])):=by
 have ok:=I.ok
 have old:∀q∈mQ X.env.cells sc.names [],X.env.cells.lookup q.1=some q.2/\(q.1,aQ.free)∈sc.names:=λq hq=>by
  rcases w9 (x:=q.1) (c:=q.2) hq with h | ⟨h1,h2⟩
  .cases h
  .obtain⟨c',hc⟩:=xh O ok _ h1 rfl
   have Kk:X.env.cells.lookup q.1=some c':=hc;rw[Kk] at h2;rw[Kk,h2];exact⟨rfl,h1⟩
 have lt:∀q∈mQ X.env.cells sc.names [],q.2<C+1:=λq hq=>by
  obtain⟨v,o,ho,_⟩:=I.cell _ _ (old q hq).1;exact e ▸ aW (aD ho) hs
 refine⟨λx hx=>?_,λx c h=>?_,λx y c h1 h2=>zx lt (λx y c h1 h2=>ok.inj x y c (old _ h1).1 (old _ h2).1) x y c (PySem.mem_of_lookup h1) (PySem.mem_of_lookup h2)⟩
 .rcases hx with h | h
  .obtain⟨c,hc⟩:=Ep (n:=C+1) (acc:=mQ X.env.cells sc.names []) h
   exact nu hc
  .exact nu (vh (Bd h))
 .rcases zv (h:=hp) e (PySem.mem_of_lookup h) with h | ⟨h1,h2,h3⟩
  .exact .inl (old _ h)
  .exact .inr ⟨h1,h2,h3⟩
theorem Er (hc:X.calm=true)(O:qV X.N X.env.scope sc N mp)(hk:sc.kind=.function)(I:Inv X pins σ H s)(hC:s.heap.objs.size<=C)(kp:∀b o,s.heap.get? b=some o->h₁.get? b=some o){m:Str->Option ah}
  (hn:h₁.Ns C m) (Kx:∀b∈fp,pW X pins H b) (MF:∀b∈fp,b<s.heap.objs.size) {t':Nat} (L:PM X sc C h₁ cl) :
  Inv (fq X sc N cl C s H fp) [] (lK mp σ) H { s with heap:=h₁,toks:=t' }:=by
 have ok:=I.ok
 have Tt:∀b∈fp,b ∉ zg X.stack:=λb hb z=>by
  rcases ax.mp (I.qO b z) with e | e
  .exact (Kx b hb).2.1 e
  .exact (Kx b hb).2.2.1 e
 refine⟨⟨ok.mod,hk,ok.glob,ok.blt,hC,?_,?_,?_,λ_=>ok.hd hc,ok.frames,.inl rfl,?_,I.bs,bq ok.LJ I.sz,?_,Tt,I.stack,I.A3⟩,rfl,I.bare,Un.kept kp,?_,?_,I.eP.fresh hC,?_,?_,I.eP.kept kp,?_⟩
 .exact L.inj
 .intro x hx
  have Ow:(relabel sc X.env).names.lookup x=some .cell\/(relabel sc X.env).names.lookup x=some .free:=hx;refine L.has x ?_;rcases Ow with h | h
  .obtain⟨k',hm,e⟩:=lL h
   rcases e with e | ⟨e,_⟩
   .subst e
    exact .inl hm
   .subst e
    exact .inr hm
  .obtain⟨k',hm,e⟩:=lL h
   rcases e with e | ⟨_,e⟩
   .subst e
    exact .inr hm
   .cases e
 .intro x c hf hc
  have WN:sc.names.lookup x=some aQ.cell:=by simpa [fq] using hf
  rcases L.sub x c hc with h | h
  .have:=O.fr _ h.2 rfl
   rw[WN] at this;cases this
  .exact bq hC (c9 h.1)
 .intro b hb
  refine⟨aR (aW (MF b hb) hC),λx c h=>?_⟩;rcases L.sub x c h with h | h
  .exact (Kx b hb).2.2.2.2.1 x c h.1
  .exact λz=>bM _ (dr (aW (MF b hb) hC) (z ▸ h.1))
 .intro b o e hb
  rcases (Kx b hb).2.2.2.1 with z | z
  .exact ok.DX b o e z
  .exact absurd (aW (aD (ok.bs b o e).1) z) (bM _)
 .refine⟨m,hn,λj x v e1 e2 e3=>?_⟩
  have VM:N[j]? = some x:=e1
  have hj:j<mp.length:=by
   rw[O.len];exact (aA.mp VM).1
  obtain⟨i,hi,hv⟩:∃i,mp[j]? = some (some i)/\σ[i]? = some (some v):=by
   unfold lK at e2;rw[aB] at e2
   cases e:mp[j]? with
   | none=>rw[e] at e2;cases e2
   | some o =>
    rw[e] at e2
    cases o with
    | none=>cases e2
    | some i =>
     refine⟨i,rfl,?_⟩;have R8:(σ[i]?).join=some v:=Option.some.inj e2
     cases q:σ[i]? with
     | none=>rw[q] at R8;cases R8
     | some z =>
      rw[q] at R8;have:z=some v:=R8;rw[this]
  obtain⟨hx,hf⟩:=O.map j x i VM hi;have Tu:=PySem.mem_of_lookup hf;obtain⟨mX,YV,hl⟩:=I.loc
  have WO:qM X.env.scope x:=by
   rcases O.free _ Tu rfl with z | z
   .exact .inr (.inl z)
   .exact .inr (.inr z)
  obtain⟨u,r,q⟩:=hl i x v hx hv WO;refine⟨u,r,?_⟩;rcases q with⟨z,_⟩ | ⟨_,c,ec,PN⟩
  .exfalso
   have z':X.env.scope.names.lookup x=some .local:=z;rcases O.free _ Tu rfl with y | y
   .rw[show X.env.scope.names.lookup x=some .cell from y] at z';cases z'
   .rw[show X.env.scope.names.lookup x=some .free from y] at z';cases z'
  .obtain⟨c',Kk⟩:=L.has x (.inr Tu)
   have OU:X.env.cells.lookup x=some c':=by
    rcases L.sub x c' Kk with h | h
    .exact h.1
    .have:=O.cell _ h.2.1 rfl
     rw[hf] at this;cases this
   rw[ec] at OU;cases OU;refine .inr ⟨vg hf,c,Kk,?_⟩;obtain⟨o,ho,hd⟩:=PN;exact⟨o,kp _ _ ho,hd⟩
 .intro x c h
  rcases L.sub x c h with h | h
  .obtain⟨v,o,ho,hd⟩:=I.cell x c h.1
   exact⟨v,o,kp _ _ ho,hd⟩
  .exact⟨none,h.2.2⟩
 .intro x c h
  rcases L.sub x c h with h | h
  .exact I.mW x c h.1
  .exact I.eP.fresh (bq hC (c9 h.1))
 .intro p hp
  cases hp
 .show (lK mp σ).length=N.length
  unfold lK;rw[ao,O.len]
theorem Inv.Be {a:Addr}{o:HO}{ob:Obj}(I:Inv X pins σ H s)(ho:s.heap.get? a=some ob)(hn:H a=none)(hL:a≠X.env.locals)(h1:a∈X.ex\/X.s₀.heap.objs.size<=a)(h2:∀x c,X.env.cells.lookup x=some c->c≠a)
  (h3:∀p∈X.pn++pins,p.1≠a) (new:fH X.prog X.w (eM H a o) s.heap a o):Inv X pins σ (eM H a o) s:=by
 have Ki:∀b u,H b=some u->b≠a:=λb u e z=>by rw[z,hn] at e;cases e
 have:=I.step (g':=s.gens) (d':=s.drawn) (t':=s.toks) (h':=s.heap) (H':=eM H a o) (ch:=[a]) (λb hb=>?_) (λb o _ _ _ e _=>e) (λb o _ _ _ e _=>⟨o.slots,e⟩) (λb o hc _ n=>?_)
  (λb o _ e=>⟨o,e⟩) (λb xs e=>?_) (λb u xs e=>?_) (λb ps e=>⟨#[],?_⟩) (λm hm=>hm) (λb u e=>?_) I.bare
 .exact this
 .have e:b=a:=by simpa using hb
  subst e;exact⟨h1,hL,h2,h3⟩
 .rw[dU (λz=>hc (by simp[z]))];exact n
 .rw[dU (Ki _ _ e)];exact e
 .rw[dU (Ki _ _ e)];exact e
 .rw[dU (Ki _ _ e),e];simp
 .by_cases hb:b=a
  .subst hb;rw[dP] at e;cases e;exact new
  .rw[dU hb] at e
   exact (I.eP b u e).ze (λc v _ q=>q) (λc q=>by rw[dU (Ki _ _ q)];exact q) λc xs q=>by rw[dU (Ki _ _ q)];exact q
end
theorem vi (I:Nat->aw->Prop)
  (turn:∀n s,I n s->aG (!10) A (pyNext it) (λr s₁=>match r with
   | none=>R (.ok .next) s₁
   | some v=>aG (!10) A (letOwnedTupleGo target it v) (λ_ s'=>aG (!10) A (assign target env v) (λ_ s₂ =>
     aG (!10) A (forIn n6 true λc r=>if r=true then do let ok <- isTrue c env (eval c env);pure (ForInStep.yield ok) else pure (ForInStep.yield r)) (λok s₃ =>
      if ok=true then aG (!10) A (eval oU env) (λx s₄ =>
       aG (!10) A (call (.builtin "list.append") [acc,x]) (λ_ s₅=>∃m,m<n/\I m s₅) (λ_ _=>False) s₄) (λ_ _=>False) s₃
      else ∃m,m<n/\I m s₃) (λ_ _=>False) s₂) (λ_ _=>False) s') (λ_ _=>False) s₁) (λ_ _=>False) s)
  (n:Nat) (h:I n s) :
  codeAny (!10) A (.compLoop (.ListComp oU [⟨target,iter,n6,0⟩] scope pos) 0 it acc env) R s:=by
 refine codeAny_loop rfl I (λn s hI=>?_) n h;show aG _ A ((compTurn (.ListComp oU [⟨target,iter,n6,0⟩] scope pos) 0 it acc env).onRaise (λx=>do noteFrame x env;theTreesLotGoes x)) _ _ s;refine wpAny_noted ?_;rw[compTurn_list];refine aa (wpAny_standAt (aa (ca (turn n s hI) (λr s₁ h₁=>?_) λ_ _ h'=>h'.elim)))
 cases r with
 | none=>exact aj h₁
 | some v =>
  refine aa (ca h₁ (λ_ s' h'=>aa (ca h' (λ_ s₂ h₂=>aa (ca h₂ (λok s₃ h₃=>?_) λ_ _ h'=>h'.elim)) λ_ _ h'=>h'.elim)) λ_ _ h'=>h'.elim)
  cases ok with
  | false=>exact aj ⟨rfl,h₃⟩
  | true =>
   exact aa (aa (ca h₃ (λx s₄ h₄=>aa (ca h₄ (λ_ s₅ h₅=>aj (aj ⟨rfl,h₅⟩)) λ_ _ h'=>h'.elim)) λ_ _ h'=>h'.elim))
noncomputable def Ox (X:Cx)(n6:List Expr)(t:TT):Prop :=
 ∀(pins:List (!19)) (s:aw) (σ:St) (H:Hp) (Q:Bool->Hp->Prop),Inv X pins σ H s->t σ H Q ->
  aG (!11) X.A (forIn n6 true λc r=>if r=true then do let ok <- isTrue c X.env (eval c X.env);pure (ForInStep.yield ok) else pure (ForInStep.yield r)) (TP X pins σ Q) X.xe s
noncomputable def Ky:TT:=λ_ H Q=>Q true H
theorem Ia:Ox X [] Ky:=λ_ _ _ H _ I h=>wpAny_tests_nil ⟨H,I,h⟩
theorem Ib (h:PT X c t):Ox X [c] t:=λpins s σ H Q I hw=>wpAny_tests_one (h pins s σ H Q I hw)
noncomputable abbrev TC:=St->Hp->(List V->Hp->Prop)->Prop
noncomputable def tQ (wi:TI)(mp:List (Option Nat))(g:TG)(tc:TT)(te:TE):TC:=λσ H R=>wi σ H λJ H1=>∃W:Nat->Nat->List V->St->Hp->Prop,(∃m,W 0 m [] (lK mp σ) H1)/\∀i m ys σ' H',W i m ys σ' H' ->
 (J.stop i H'/\ys.length<=az/\R ys H') \/
 (J.go i H'/\ys.length<az/\∀x Oy,J.G3 i H' x Oy->g x σ' Oy λσ2 H2=>tc σ2 H2 λb H3 =>
  if b=true then te σ2 H3 λy H4=>∃m',m' < m/\W (i+1) m' (ys++[y]) σ2 H4 else ∃m',m' < m/\W (i+1) m' ys σ2 H3)
section
theorem tR {use:Option (ah->Sem Unit)}{Q:ah->aw->Prop}(hc:X.calm=true)(hi:PI X tg iter wi)(hk:sc.kind=.function)(O:qV X.N X.env.scope sc N mp)
  (hb:∀(cl:List (Str × Addr)) (C:Addr) (s₂:aw) (H₂:Hp) (fp:List Addr),PG (!13) tg g/\Ox (!13) n6 tc/\PE (!13) oU te)
  {pins:List (!19)} {s:aw} {σ:St} {H:Hp} {R:List V->Hp->Prop} (I:Inv X pins σ H s) (h:tQ wi mp g tc te σ H R)
  (hs:∀x,foldedSetIterable iter X.env x=pure x)
  (Ic:∀(D C:Addr) (ys:List V) (H':Hp) (s':aw) (m:Str->Option ah),Inv X pins σ (eM H' D (.lst ys)) s'->s'.heap.Ns C m->pW X pins (eM H' D (.lst ys)) C->H' D=none->R ys H' ->
   compPost (!11) X.A X.xe use Q (.ref D) C (.ok .next) s') :
  aG (!11) X.A (comprehension (.ListComp oU [⟨tg,iter,n6,0⟩] sc pos) sc X.env fX (newList []) false (eval iter X.env) use) Q X.xe s:=by
 have ok:=I.ok;refine wpAny_comprehension_free (g:=⟨tg,iter,n6,0⟩) (gs:=[]) rfl hs (sW (xh O ok)) hk O.loc (fE (hi pins s σ H _ I h) λv s1 h1=>fE h1 λS5 s2 h2=>?_);obtain⟨it,fp,tn,J,H2,e,I2,T,HB,f2,W,⟨m0,w0⟩,turn⟩:=h2;subst e;refine aY (zy λvj=>?_);dsimp only at vj ⊢;generalize hP:s2.heap.push { cls:=.type "list",dict:=none,data:=.seq ([]:List ah).toArray }=P2 at vj ⊢;have VN:P2.objs.size=s2.heap.objs.size+1:=by rw[<- hP,bV]
 have Tv:s2.heap.objs.size≠P2.objs.size:=by rw[VN];exact aR (cP _)
 have Es:s2.heap.objs.size<=P2.objs.size:=by rw[VN];exact dv _
 have L:=H9 (C:=P2.objs.size) O I2 (hp:=P2.push { cls:=.type "dict",data:=.dict #[] }) (by rw[bV];omega) (bV ..);generalize Kz:pushCells (P2.push { cls:=.type "dict",data:=.dict #[] }) sc.names=h₁ at vj L ⊢;generalize cellsFrom (P2.objs.size+1) sc.names (mQ X.env.cells sc.names [])=cl at L ⊢
 have old:∀b o,s2.heap.get? b=some o->h₁.get? b=some o:=λb o e =>
  Kz ▸ pushCells_keeps _ _ b o (ak _ (hP ▸ ak _ e))
 have xj:h₁.get? s2.heap.objs.size=some { cls:=.type "list",dict:=none,data:=.seq ([]:List ah).toArray } :=
  Kz ▸ pushCells_keeps _ _ _ _ (ak _ (hP ▸ ay _ rfl))
 have MF:∀b∈fp,b<s2.heap.objs.size:=λb hb=>by
  obtain⟨o,e,_⟩:=T.obj _ _ HB b hb;exact aD e
 have VO:s2.heap.objs.size ∉ fp:=λz=>bM _ (MF _ z)
 have I3:Inv (fq X sc N cl P2.objs.size s2 H2 fp) [] (lK mp σ) H2 { s2 with heap:=h₁ } :=
  Er hc O hk I2 Es old vj f2 MF L
 obtain⟨hg,ht,he⟩:=hb cl P2.objs.size s2 H2 fp;generalize hX:fq X sc N cl P2.objs.size s2 H2 fp=Y at I3 hg ht he;have yP:Y.prog=X.prog:=by rw[<- hX];rfl
 have yw:Y.w=X.w:=by rw[<- hX];rfl
 have yK:Y.K=X.K:=by rw[<- hX];rfl
 have yA:Y.A=X.A:=by rw[<- hX];rfl
 have yc:Y.calm=true:=by rw[<- hX];rfl
 have yx:Y.xe=λ_ _=>False:=by rw[<- hX];rfl
 have yl:Y.env.locals=P2.objs.size:=by rw[<- hX];rfl
 have VP:Y.ex=fp:=by rw[<- hX];rfl
 have Tw:Y.s₀=s2:=by rw[<- hX];rfl
 have WQ:Y.H₀=H2:=by rw[<- hX];rfl
 have VQ:Y.pn=[]:=by rw[<- hX];rfl
 have Tx:Y.fs=zg X.stack:=by rw[<- hX];rfl
 have PQ:Y.env=compEnvC sc cl P2.objs.size X.env:=by rw[<- hX];rfl
 have VR:∀x c,Y.env.cells.lookup x=some c->X.env.cells.lookup x=some c\/P2.objs.size<c:=λx c e=>by
  rw[PQ] at e;rcases L.sub x c e with h | h
  .exact .inl h.1
  .exact .inr h.1
 have WR:∀x c,Y.env.cells.lookup x=some c->c≠s2.heap.objs.size:=λx c e z=>by
  rcases VR x c e with h | h
  .obtain⟨v,o,ho,_⟩:=I2.cell x c h
   exact absurd (aD ho) (by rw[z];exact bM _)
  .exact absurd (cv Es h) (by rw[z];exact bM _)
 have Tt:∀b∈fp,b ∉ zg X.stack:=λb hb z=>by
  rcases ax.mp (I2.qO b z) with e | e
  .exact (f2 b hb).2.1 e
  .exact (f2 b hb).2.2.1 e
 have WS:s2.heap.objs.size ∉ zg X.stack:=λz=>by
  rcases ax.mp (I2.qO _ z) with e | e
  .exact absurd I2.lt (by rw[<- e];exact bM _)
  .exact I2.OQ (ap _) e
 have Kx:∀{H':Hp} {o:Obj},(∀b∈fp,H' b=none)->∀b∈fp,pW Y [(s2.heap.objs.size,o)] H' b:=λ{H' o} hn b hb=>by
  refine⟨hn b hb,?_,?_,?_,?_,?_⟩
  .rw[yl];exact aR (aW (MF b hb) Es)
  .rw[Tx];exact Tt b hb
  .rw[VP];exact .inl hb
  .intro x c e
   rcases VR x c e with h | h
   .exact (f2 b hb).2.2.2.2.1 x c h
   .exact λz=>bM _ (dr (aW (MF b hb) Es) (z ▸ h))
  .intro p hp
   rw[VQ] at hp;have:p=(s2.heap.objs.size,o):=by simpa using hp
   subst this;exact λz=>VO (by have z':s2.heap.objs.size=b:=z;rw[z'];exact hb)
 have PR:∀{σ':St} {H':Hp} {s':aw} {o:Obj},Inv Y [] σ' H' s'->s'.heap.get? s2.heap.objs.size=some o->(∀v,o.data≠.cell v)->H' s2.heap.objs.size=none->Inv Y [(s2.heap.objs.size,o)] σ' H' s' :=
  λ{σ' H' s' o} J e d hn=>J.qh λp hp=>by
   have:p=(s2.heap.objs.size,o):=by simpa using hp
   subst this;exact⟨e,hn,by rw[yl];exact Tv,by rw[Tx];exact WS,d⟩
 have loop:∀s₃:aw,s₃={ s2 with heap:=h₁ } ->
   codeAny (!11) X.A (.compLoop (.ListComp oU [⟨tg,iter,n6,0⟩] sc pos) 0 (.ref it) (.ref s2.heap.objs.size) Y.env)
    (compPost (!11) X.A X.xe use Q (.ref s2.heap.objs.size) P2.objs.size) s₃:=by
  rintro s₃ rfl
  refine vi (λn s'=>∃i ys its c σ' H',Inv Y [(s2.heap.objs.size,({ cls:=.type "list",data:=.seq its.toArray c }:Obj))] σ' H' s'/\eg ys its/\tn i s'.heap/\(∀b∈fp,H' b=none)/\ys.length<=az/\W i n ys σ' H') ?_ m0
   ⟨0,[],[],0,lK mp σ,H2,PR I3 xj (λv z=>by cases z) (I2.eP.fresh (ap _)),.nil,T.keep _ _ _ HB (λb _ o e=>old b o e),λb hb=>(f2 b hb).1,bD _,w0⟩
  rintro n s3 ⟨i,ys,its,c,σ3,H3,J3,rv,zj,O9,hz,w3⟩;have WT:=J3.pin _ (a6 _ (au.mpr rfl));rcases turn i n ys σ3 H3 w3 with⟨stop,hl,qn⟩ | ⟨go,hl,step⟩
  .have:=T.done Y yP yw yK yc i _ s3 σ3 H3 (λ_ _=>False) J3 (Kx O9) zj stop
   rw[yA] at this;refine fE this λr s4 ⟨hr,J4⟩=>?_;subst hr;obtain⟨pe,pn,_,_,_⟩:=J4.pin _ (a6 _ (au.mpr rfl));dsimp only at pe pn;have un:=J4.base;rw[Tx,VP,Tw,WQ] at un;have WU:s4.os=s2.os:=by have:=J4.os;rw[Tw] at this;exact this
   have PU:=J4.eP;rw[yP,yw] at PU;have IX:Inv X pins σ H3 s4:=I2.OV WU un PU J4.bare λb hb=>⟨(f2 b hb).2.2.2.1,(f2 b hb).2.1,(f2 b hb).2.2.2.2.1,(f2 b hb).2.2.2.2.2⟩;obtain⟨mC,VS,_⟩:=J4.loc;rw[yl] at VS;have dX:pW X pins H3 s2.heap.objs.size:=I2.oW (ap _) pn;have IT:Inv X pins σ (eM H3 s2.heap.objs.size (.lst ys)) s4:=IX.Be (o:=.lst ys) pe pn dX.2.1 dX.2.2.2.1 dX.2.2.2.2.1 dX.2.2.2.2.2 ⟨hl,its,c,rv,pe⟩;have cn:H3 P2.objs.size=none:=by have:=J4.free;rw[yl] at this;exact this
   have cX:pW X pins (eM H3 s2.heap.objs.size (.lst ys)) P2.objs.size:=I2.oW Es (by rw[dU Tv.symm];exact cn);exact Ic _ _ ys H3 s4 mC IT VS cX pn qn
  .have:=T.item Y yP yw yK yc i _ s3 σ3 H3 (λ_ _=>False) J3 (Kx O9) zj go
   rw[yA] at this;refine fE this λr s4 ⟨u,hr,h4⟩=>?_;subst hr;refine fE h4 λ_ s5 ⟨x,H5,J5,r5,y5,L5,S6⟩=>?_;have WV:=J5.pinned (Kx S6) (T.obj _ _ L5);have ga:=hg _ s5 σ3 H5 x u _ WV r5 (step x H5 y5);rw[yP,yw,yA,yx] at ga;refine fE ga λ_ s6 ⟨σ6,H6,J6,q6⟩=>?_;have gt:=ht _ s6 σ6 H6 _ J6 q6;rw[yP,yw,yA,yx] at gt;refine fE gt λb s7 ⟨H7,J7,q7⟩=>?_
   have KC:∀{σ':St} {H':Hp} {s':aw},Inv Y ([(s2.heap.objs.size,({ cls:=.type "list",data:=.seq its.toArray c }:Obj))]++qQ fp s5.heap) σ' H' s'->tn (i+1) s'.heap/\(∀b∈fp,H' b=none):=λ{σ' H' s'} J=>by
    refine⟨T.keep _ _ _ L5 λb hb o e=>(J.pin (b,o) (a6 _ (a6 _ (kL hb e)))).1,λb hb=>?_⟩;obtain⟨o,e,d⟩:=T.obj _ _ L5 b hb;exact (J.pin (b,o) (a6 _ (a6 _ (kL hb e)))).2.1
   cases b with
   | false =>
    have Tz:∃m',m' < n/\W (i+1) m' ys σ6 H7:=by simpa using q7
    obtain⟨m',hm,w7⟩:=Tz;obtain⟨t7,f7⟩:=KC J7;rw[if_neg aX];exact⟨m',hm,i+1,ys,its,c,σ6,H7,J7.lG,rv,t7,f7,hz,w7⟩
   | true =>
    rw[if_pos rfl];have Tz:te σ6 H7 λy H4=>∃m',m' < n/\W (i+1) m' (ys++[y]) σ6 H4:=by simpa using q7
    have ge:=he _ s7 σ6 H7 _ J7 Tz;rw[yP,yw,yA,yx] at ge;refine fE ge λu8 s8 ⟨y,H8,J8,r8,m',hm,w8⟩=>?_;obtain⟨t8,f8⟩:=KC J8;have VT:=J8.lG;obtain⟨pe,pn,_,_,_⟩:=VT.pin _ (a6 _ (au.mpr rfl));dsimp only at pe pn;have hlen:=rv.length;refine call_meets F.slot_list_append ⟨_,pe,rfl⟩ F.entry_list_append (F.args_list_append_2 _ _) (PySem.list_append s2.heap.objs.size its.toArray c u8 (by rw[aE];omega)) ⟨pe,?_⟩;have qe:=PySem.IsL.update pe (λa=>a.push u8)
    have WW:(s8.heap.update s2.heap.objs.size (Obj.mapSeq λa=>a.push u8)).get? s2.heap.objs.size=some { cls:=.type "list",data:=.seq (its++[u8]).toArray (c+1) }:=by
     simpa using qe
    have J9:Inv Y [] σ6 H8 { s8 with heap:=s8.heap.update s2.heap.objs.size (Obj.mapSeq λa=>a.push u8),toks:=s8.toks }:=by
     have J0:Inv Y [] σ6 H8 s8:=VT.qh λp hp=>by cases hp
     refine J0.turned (it:=s2.heap.objs.size) (λb o hb e=>(aI s8.heap _ (Ne.symm hb)).trans e) pn (by rw[yl];exact Tv) (.inr (by rw[Tw];exact ap _)) WR (λp hp=>?_);rw[VQ] at hp;cases hp
    refine⟨m',hm,i+1,ys++[y],its++[u8],c+1,σ6,H8,PR J9 WW (λv z=>by cases z) pn,rv.append (.cons r8 .nil),?_,f8,by rw[aH,bv];omega,w8⟩;exact T.keep _ _ _ t8 λb hb o e=>(aI s8.heap _ (λ(z:s2.heap.objs.size=b)=>VO (by rw[z];exact hb))).trans e
 have PV:compEnvC sc cl P2.objs.size X.env=Y.env:=PQ.symm;show codeAny _ _ (.compStart _ 0 (.ref it) (.ref s2.heap.objs.size) (compEnvC sc cl P2.objs.size X.env)) _ _;rw[PV];exact codeAny_compStart_list (loop _ rfl) (T.self _ 0 _ _ _ (T.keep _ _ _ HB λb _ o e=>old b o e) (loop _ rfl))
noncomputable def Et (t:TC):TE:=λσ H Q=>t σ H λys H'=>∀D,H' D=none->Q (.ref D) (eM H' D (.lst ys))
theorem Ie (hc:X.calm=true)(hi:PI X tg iter wi)(hk:sc.kind=.function)(hm:iR X.N X.env.scope sc N mp=true)
  (hb:∀(cl:List (Str × Addr)) (C:Addr) (s₂:aw) (H₂:Hp) (fp:List Addr),PG (!13) tg g/\Ox (!13) n6 tc/\PE (!13) oU te)
  (hs:∀x,foldedSetIterable iter X.env x=pure x:=by rw[6]):PE X (.ListComp oU [⟨tg,iter,n6,0⟩] sc pos) (Et (tQ wi mp g tc te)):=by
 rw[3];rw[eval_ListComp];refine tR (use:=none) hc hi hk (tP hm) hb I h hs λD C ys H' s' m I' hn f hD q=>?_;refine⟨m,hn,λh' ly=>?_⟩;obtain⟨f0,f1,_,f3,f4,f5⟩:=f;exact⟨.ref D,_,I'.turned (t':=s'.toks) (it:=C) (λb o hb e=>(ly.2 b hb).trans e) f0 f1 f3 f4 f5,rfl,q D hD⟩
noncomputable def Eu (i:Nat)(t:TC):TS:=λD σ H=>t σ H λys H'=>∀l,H' l=none->D.nx (σ.set i (some (.ref l))) (eM H' l (.lst ys))
theorem Ig (hN:X.N.Nodup)(PX:X.N[i]? = some x)(hx:X.env.scope.names.lookup x=some .local)(hc:X.calm=true)(hi:PI X tg iter wi)(hk:sc.kind=.function)(hm:iR X.N X.env.scope sc N mp=true)
  (hb:∀(cl:List (Str × Addr)) (C:Addr) (s₂:aw) (H₂:Hp) (fp:List Addr),PG (!13) tg g/\Ox (!13) n6 tc/\PE (!13) oU te)
  (PY:swapsWith (.ListComp oU [⟨tg,iter,n6,0⟩] sc pos) (some (.Name x py)) spos.line X.env=pure true:=by rfl)
  (hs:∀x,foldedSetIterable iter X.env x=pure x:=by rw[6]):PS X (.Assign [.Name x py] (.ListComp oU [⟨tg,iter,n6,0⟩] sc pos) spos) (Eu i (tQ wi mp g tc te)):=by
 intro pins s σ H D I h;rw[exec_Assign_Name_used _ _ _ _ PY];refine aa (wpAny_standAt (aa ?_));show aG _ X.A (do let _ <- comprehension (.ListComp oU [⟨tg,iter,n6,0⟩] sc pos) sc X.env _ (newList []) false (eval iter X.env) (some (assign (.Name x py) X.env))) _ _ s;refine aa (fE (tR (use:=some (assign (.Name x py) X.env)) (Q:=λ_ s'=>SP X pins D .next s') hc hi hk (tP hm) hb I h hs λl C ys H' s' m I' hn f hD q=>?_) λ_ s' hq=>aj (aj hq));obtain⟨f0,f1,f2,f3,f4,f5⟩:=f;show aG _ _ (assign (.Name x py) X.env (.ref l)) _ _ s';refine wpAny_assign_Name (tF (v:=.ref l) I' hN PX (.inl hx) rfl (λOt WX ⟨a,sb,ea⟩=>?_) (.inr hx))
 have WY:C≠a:=by
  rcases ea with e | e
  .rw[e];exact f1
  .exact λz=>f4 x a e z.symm
 refine⟨m,hn.sameBut sb WY,λh' ly=>?_⟩;exact⟨_,_,WX.turned (t':=Ot.toks) (it:=C) (λb o hb e=>(ly.2 b hb).trans e) f0 f1 f3 f4 f5,q l hD⟩
end
noncomputable def G7:List (List Int × ag)->List V->List (Key × V)
 | p::kvs,x::xs=>(.inl (p.1.headD 0),x)::G7 kvs xs
 | _,_=>[]
noncomputable def nv:List (List Int × ag)->List V->List (List Key × V)
 | p::kvs,x::xs=>(p.1.map .inl,x)::nv kvs xs
 | _,_=>[]
noncomputable def mR (t:Bool)(kvs:List (List Int × ag))(xs:List V):HO:=match t with | true=>.dT (nv kvs xs) | false=>.dK (G7 kvs xs)
theorem mz (h:some (HO.lst ys)=some (mR t kvs xs)):False:=by cases t<;>cases h
theorem Bf (h:some (HO.tup ys)=some (mR t kvs xs)):False:=by cases t<;>cases h
noncomputable def mZ (t:Bool)(kvs:List (List Int × ag)):List (ag × ag):=(.bool t,.none)::kvs.map λp=>(.tuple (p.1.map .int),p.2)
noncomputable def fg (t:Bool)(kvs:List (List Int × ag)):ag:=.dict (mZ t kvs)
mutual
def eB (S:List Addr)(H:Hp):ag->V->Prop
 | .none,v=>v=.gC
 | .bool b,v=>v=.bl b
 | .int i,v=>v=.int i
 | .str x,v=>v=.str x
 | .tuple ds,v=>∃a xs,v=.ref a/\H a=some (.tup xs)/\dO S H ds xs
 | .list ds,v=>∃a xs,v=.ref a/\H a=some (.lst xs)/\a ∉ S/\dO S H ds xs
 | .dict l,v=>∃a t kvs xs,v=.ref a/\l=mZ t kvs/\H a=some (mR t kvs xs)/\a ∉ S/\(t=false->∀p∈kvs,p.1.length=1)/\gj S H l (.gC::xs)
def dO (S:List Addr)(H:Hp):List ag->List V->Prop
 | [],xs=>xs=[]
 | d::ds,xs=>∃x r,xs=x::r/\eB S H d x/\dO S H ds r
def gj (S:List Addr)(H:Hp):List (ag × ag)->List V->Prop
 | [],xs=>xs=[]
 | p::l,xs=>∃x r,xs=x::r/\zz S H p x/\gj S H l r
def zz (S:List Addr)(H:Hp):ag × ag->V->Prop
 | (_,d),x=>eB S H d x
end
structure Ext (S:List Addr) (H H':Hp):Prop where
 keep:∀b o,b ∉ S->H b=some o->H' b=some o
 tup:∀b xs,H b=some (.tup xs)->H' b=some (.tup xs)
theorem Ext.refl (S:List Addr)(H:Hp):Ext S H H:=⟨λ_ _ _ e=>e,λ_ _ e=>e⟩
theorem Ext.trans (a:Ext S H H1)(b:Ext S H1 H2):Ext S H H2:=⟨λc o hc e=>b.keep c o hc (a.keep c o hc e),λc xs e=>b.tup c xs (a.tup c xs e)⟩
theorem Ext.mono (a:Ext S H H')(h:∀b∈S,b∈S'):Ext S' H H':=⟨λb o hb e=>a.keep b o (λz=>hb (h b z)) e,a.tup⟩
theorem Ext.new (h:H p=none):Ext S H (eM H p o):=⟨λb u _ e=>by rw[dU (fo e h)];exact e,λb xs e=>by rw[dU (fo e h)];exact e⟩
theorem Ext.set (hp:p∈S)(h:H p=some (.lst xs)):Ext S H (eM H p o) :=
 ⟨λb u hb e=>by rw[dU (λ(z:b=p)=>hb (by rw[z];exact hp))];exact e,λb ys e=>by rw[dU (λz=>by rw[z,h] at e;cases e)];exact e⟩
theorem Ext.TB {S:List Addr}{H0 H:Hp}{p:Addr}{o:HO}{xs:List V}(a:Ext S H0 H)(h0:H0 p=none)(h:H p=some (.lst xs)):Ext S H0 (eM H p o) :=
 ⟨λb u hb e=>by rw[dU (λz=>by rw[z,h0] at e;cases e)];exact a.keep b u hb e,λb ys e=>by rw[dU (λz=>by rw[z,h0] at e;cases e)];exact a.tup b ys e⟩
theorem Ext.fresh (a:Ext S H0 H)(hp:p ∉ S)(h:H p=none):H0 p=none:=by
 cases e:H0 p with
 | none=>rfl
 | some o=>rw[a.keep p o hp e] at h;cases h
mutual
theorem eB.ext {S:List Addr}{H H':Hp}(x:Ext S H H'):∀{d:ag} {v:V},eB S H d v->eB S H' d v
 | .none,_,h=>h
 | .bool _,_,h=>h
 | .int _,_,h=>h
 | .str _,_,h=>h
 | .tuple ds,_,h=>by
  unfold eB at h ⊢;obtain⟨a,xs,e,ha,hr⟩:=h;exact⟨a,xs,e,x.tup a xs ha,dO.ext x hr⟩
 | .list ds,_,h=>by
  unfold eB at h ⊢;obtain⟨a,xs,e,ha,hs,hr⟩:=h;exact⟨a,xs,e,x.keep a _ hs ha,hs,dO.ext x hr⟩
 | .dict l,_,h=>by
  unfold eB at h ⊢;obtain⟨a,t,kvs,xs,e,el,ha,hs,hk,hr⟩:=h;exact⟨a,t,kvs,xs,e,el,x.keep a _ hs ha,hs,hk,gj.ext x hr⟩
theorem dO.ext {S:List Addr}{H H':Hp}(x:Ext S H H'):∀{ds:List ag} {vs:List V},dO S H ds vs->dO S H' ds vs
 | [],_,h=>h
 | d::ds,_,h=>by
  unfold dO at h ⊢;obtain⟨y,r,e,h1,h2⟩:=h;exact⟨y,r,e,eB.ext x h1,dO.ext x h2⟩
theorem gj.ext {S:List Addr}{H H':Hp}(x:Ext S H H'):∀{l:List (ag × ag)} {vs:List V},gj S H l vs->gj S H' l vs
 | [],_,h=>h
 | (_,d)::l,_,h=>by
  unfold gj zz at h ⊢;obtain⟨y,r,e,h1,h2⟩:=h;exact⟨y,r,e,eB.ext x h1,gj.ext x h2⟩
end
mutual
theorem eB.less {S S':List Addr}{H:Hp}(x:∀b∈S',b∈S):∀{d:ag} {v:V},eB S H d v->eB S' H d v
 | .none,_,h=>h
 | .bool _,_,h=>h
 | .int _,_,h=>h
 | .str _,_,h=>h
 | .tuple ds,_,h=>by
  unfold eB at h ⊢;obtain⟨a,xs,e,ha,hr⟩:=h;exact⟨a,xs,e,ha,dO.less x hr⟩
 | .list ds,_,h=>by
  unfold eB at h ⊢;obtain⟨a,xs,e,ha,hs,hr⟩:=h;exact⟨a,xs,e,ha,λz=>hs (x a z),dO.less x hr⟩
 | .dict l,_,h=>by
  unfold eB at h ⊢;obtain⟨a,t,kvs,xs,e,el,ha,hs,hk,hr⟩:=h;exact⟨a,t,kvs,xs,e,el,ha,λz=>hs (x a z),hk,gj.less x hr⟩
theorem dO.less {S S':List Addr}{H:Hp}(x:∀b∈S',b∈S):∀{ds:List ag} {vs:List V},dO S H ds vs->dO S' H ds vs
 | [],_,h=>h
 | d::ds,_,h=>by
  unfold dO at h ⊢;obtain⟨y,r,e,h1,h2⟩:=h;exact⟨y,r,e,eB.less x h1,dO.less x h2⟩
theorem gj.less {S S':List Addr}{H:Hp}(x:∀b∈S',b∈S):∀{l:List (ag × ag)} {vs:List V},gj S H l vs->gj S' H l vs
 | [],_,h=>h
 | (_,d)::l,_,h=>by
  unfold gj zz at h ⊢;obtain⟨y,r,e,h1,h2⟩:=h;exact⟨y,r,e,eB.less x h1,gj.less x h2⟩
end
section
theorem dO.nil:dO S H [] []:=by unfold dO;rfl
theorem dO.cons (h:eB S H d x)(t:dO S H ds xs):dO S H (d::ds) (x::xs):=by unfold dO;exact⟨x,xs,rfl,h,t⟩
theorem dO.of_cons (h:dO S H (d::ds) xs):∃x r,xs=x::r/\eB S H d x/\dO S H ds r:=by unfold dO at h;exact h
theorem dO.e9 (h:dO S H [] xs):xs=[]:=by unfold dO at h;exact h
theorem dO.length:∀{ds:List ag} {xs:List V},dO S H ds xs->xs.length=ds.length
 | [],_,h=>by rw[h.e9];rfl
 | _::_,_,h=>by
  obtain⟨x,r,e,_,h2⟩:=h.of_cons;subst e;simp[h2.length]
theorem dO.get:∀{ds:List ag} {xs:List V} {i:Nat} {x:V},dO S H ds xs->xs[i]? = some x->∃d,ds[i]? = some d/\eB S H d x
 | [],_,i,x,h,e=>by rw[h.e9] at e;cases e
 | d::ds,_,0,x,h,e=>by
  obtain⟨y,r,e1,h1,h2⟩:=h.of_cons;subst e1;cases e;exact⟨d,rfl,h1⟩
 | d::ds,_,i+1,x,h,e=>by
  obtain⟨y,r,e1,h1,h2⟩:=h.of_cons;subst e1;obtain⟨d',q,h3⟩:=dO.get (i:=i) h2 (by simpa using e);exact⟨d',by simpa using q,h3⟩
theorem dO.at:∀{ds:List ag} {xs:List V} {i:Nat} {d:ag},dO S H ds xs->ds[i]? = some d->∃x,xs[i]? = some x/\eB S H d x
 | [],_,i,d,h,e=>by cases e
 | d::ds,_,0,d',h,e=>by
  obtain⟨y,r,e1,h1,h2⟩:=h.of_cons;subst e1;cases e;exact⟨y,rfl,h1⟩
 | d::ds,_,i+1,d',h,e=>by
  obtain⟨y,r,e1,h1,h2⟩:=h.of_cons;subst e1;obtain⟨x,q,h3⟩:=dO.at (i:=i) h2 (by simpa using e);exact⟨x,by simpa using q,h3⟩
theorem dO.append:∀{ds es:List ag} {xs ys:List V},dO S H ds xs->dO S H es ys->dO S H (ds++es) (xs++ys)
 | [],_,_,_,h,k=>by rw[h.e9];exact k
 | d::ds,_,_,_,h,k=>by
  obtain⟨y,r,e1,h1,h2⟩:=h.of_cons;subst e1;exact .cons h1 (dO.append h2 k)
theorem dO.take:∀{ds:List ag} {xs:List V} (n:Nat),dO S H ds xs->dO S H (ds.take n) (xs.take n)
 | _,_,0,_=>.nil
 | [],_,n+1,h=>by rw[h.e9];exact .nil
 | d::ds,_,n+1,h=>by
  obtain⟨y,r,e1,h1,h2⟩:=h.of_cons;subst e1;exact .cons h1 (dO.take n h2)
theorem dO.drop:∀{ds:List ag} {xs:List V} (n:Nat),dO S H ds xs->dO S H (ds.drop n) (xs.drop n)
 | _,_,0,h=>h
 | [],_,n+1,h=>by rw[h.e9];exact .nil
 | d::ds,_,n+1,h=>by
  obtain⟨y,r,e1,h1,h2⟩:=h.of_cons;subst e1;exact dO.drop n h2
theorem dO.ints:∀(ns:List Int),dO S H (ns.map ag.int) (!23)
 | []=>.nil
 | n::ns=>.cons (by unfold eB;rfl) (dO.ints ns)
theorem eB.tup (h:H a=some (.tup xs))(r:dO S H ds xs):eB S H (.tuple ds) (.ref a):=by unfold eB;exact⟨a,xs,rfl,h,r⟩
theorem eB.lst (h:H a=some (.lst xs))(hs:a ∉ S)(r:dO S H ds xs):eB S H (.list ds) (.ref a):=by unfold eB;exact⟨a,xs,rfl,h,hs,r⟩
theorem eB.int (i:Int):eB S H (.int i) (.int i):=by unfold eB;rfl
theorem eB.bl (b:Bool):eB S H (.bool b) (.bl b):=by unfold eB;rfl
theorem eB.gC:eB S H .none .gC:=by unfold eB;rfl
theorem eB.str (x:Str):eB S H (.str x) (.str x):=by unfold eB;rfl
theorem eB.fz (h:eB S H (.tuple ds) v):∃a xs,v=.ref a/\H a=some (.tup xs)/\dO S H ds xs:=by unfold eB at h;exact h
theorem eB.fw (h:eB S H (.list ds) v):∃a xs,v=.ref a/\H a=some (.lst xs)/\a ∉ S/\dO S H ds xs:=by unfold eB at h;exact h
theorem gj.CK:∀{l:List (ag × ag)} {xs:List V},gj S H l xs↔dO S H (l.map (·.2)) xs
 | [],xs=>by unfold gj;simp[dO]
 | (_,d)::l,xs=>by
  unfold gj zz;rw[ar,dO];exact⟨λ⟨x,r,e,h1,h2⟩=>⟨x,r,e,h1,gj.CK.mp h2⟩,λ⟨x,r,e,h1,h2⟩=>⟨x,r,e,h1,gj.CK.mpr h2⟩⟩
theorem iB (t:Bool)(kvs:List (List Int × ag)):(mZ t kvs).map (·.2)=.none::kvs.map (·.2):=by unfold mZ;rw[ar,bp];rfl
theorem eB.Oz (h:H a=some (mR t kvs xs))(hs:a ∉ S)(hk:t=false->∀p∈kvs,p.1.length=1)(r:dO S H (!20) xs):eB S H (fg t kvs) (.ref a):=by
 unfold fg eB;exact⟨a,t,kvs,xs,rfl,rfl,h,hs,hk,gj.CK.mpr (by rw[iB];exact .cons .gC r)⟩
theorem eB.lM (h:eB S H (.dict l) v):∃a t kvs xs,v=.ref a/\l=mZ t kvs/\H a=some (mR t kvs xs)/\a ∉ S/\(t=false->∀p∈kvs,p.1.length=1)/\dO S H (!20) xs:=by
 unfold eB at h;obtain⟨a,t,kvs,xs,e,rfl,ha,hs,hk,hr⟩:=h;have:=gj.CK.mp hr;rw[iB] at this;obtain⟨x,r,e2,_,h2⟩:=this.of_cons;injection e2 with _ e3;subst e3;exact⟨a,t,kvs,xs,e,rfl,ha,hs,hk,h2⟩
theorem eB.eQ (h:eB S H (.int i) v):v=.int i:=by unfold eB at h;exact h
theorem eB.lN (h:eB S H (.bool b) v):v=.bl b:=by unfold eB at h;exact h
theorem eB.j4 (h:eB S H (.str x) v):v=.str x:=by unfold eB at h;exact h
theorem eB.lO (h:eB S H .none v):v=.gC:=by unfold eB at h;exact h
end
mutual
theorem eB.reads {P:aV}{w:World}{S:List Addr}{H:Hp}{h:Heap}(ok:lD P w H h):∀{d:ag} {v:V} {u:ah},d.canLay0=true->eB S H d v->RelV v u->∃as,Reads h u d as
 | .none,v,u,_,r,q=>by cases r.lO;cases (show u=ah.none from q);exact⟨_,.none⟩
 | .bool b,v,u,_,r,q=>by cases r.lN;cases (show u=ah.bool b from q);exact⟨_,.bool b⟩
 | .int i,v,u,_,r,q=>by cases r.eQ;obtain⟨t,e⟩:=(show ∃t,u=ah.int i t from q);cases e;exact⟨_,.int i t⟩
 | .str x,v,u,_,r,q=>by cases r.j4;obtain⟨t,e⟩:=(show ∃t,u=ah.str x t from q);cases e;exact⟨_,.str x t⟩
 | .tuple ds,v,u,c0,r,q=>by
  obtain⟨a,xs,rfl,ha,hr⟩:=r.fz;cases (show u=ah.ref a from q);obtain⟨_,its,rv,o,e,c,n,d,_⟩:=ok a _ ha;obtain⟨as,ra⟩:=dO.reads ok (by simpa [ag.canLay0] using c0) hr rv;exact⟨_,.tuple e c d (by simpa using ra)⟩
 | .list ds,v,u,c0,r,q=>by
  obtain⟨a,xs,rfl,ha,_,hr⟩:=r.fw;cases (show u=ah.ref a from q);obtain⟨_,its,n,rv,e⟩:=ok a _ ha;obtain⟨as,ra⟩:=dO.reads ok (by simpa [ag.canLay0] using c0) hr rv;exact⟨_,.list e rfl rfl (by simpa using ra)⟩
 | .dict _,v,u,c0,r,q=>by simp[ag.canLay0] at c0
theorem dO.reads {P:aV}{w:World}{S:List Addr}{H:Hp}{h:Heap}(ok:lD P w H h):∀{ds:List ag} {xs:List V} {us:List ah},ag.canLayAll0 ds=true->dO S H ds xs->eg xs us->∃as,ReadsAll h us ds as
 | [],xs,us,_,r,q=>by
  cases r.e9;cases q;exact⟨_,.nil⟩
 | d::ds,xs,us,c0,r,q=>by
  simp only[ag.canLayAll0,bP] at c0;obtain⟨x,t,rfl,h1,h2⟩:=r.of_cons
  cases q with
  | cons q1 q2 =>
   obtain⟨as,a1⟩:=eB.reads ok c0.1 h1 q1;obtain⟨bs,b1⟩:=dO.reads ok c0.2 h2 q2;exact⟨_,.cons a1 b1⟩
end
structure Good (d:ag):Prop where
 lay:d.canLay0=true
 Ew:d.showable=true
 short:d.leavesShort 60=true
 deep:d.depth<=60
 PZ:d.weight<=200000
theorem Good.nodict (g:Good d):d.hasDict=false:=ag.hasDict_of_canLay d g.lay
theorem Good.fits (g:Good d):d.shown.length<=az:=by
 have h:=ag.shown_le 60 (!2) d g.short;have h2:=g.PZ;rw[sizeLine_eq];omega
section
theorem zA (hr:gy k X.A):f6 X (.builtin "repr") (λxs H Q=>∃S d v,xs=[v]/\eB S H d v/\Good d/\Q (.str d.shown) H):=by
 intro pins s σ H xs us Q I r h;obtain⟨S,d,v,rfl,rp,g,q⟩:=h;obtain⟨u,rfl,ru⟩:=vals1 r;have G8:=hr.units;have fin:∀(h':Heap) (t:Tok) (tk:Nat),(∀b o,s.heap.get? b=some o->h'.get? b=some o)->EP X pins σ Q (.str d.shown t) { s with heap:=h',toks:=tk }:=λh' t tk kp=>⟨.str d.shown,H,I.kept kp,⟨t,rfl⟩,q⟩;have Ih:∀(t:Tok) (tk:Nat),EP X pins σ Q (.str d.shown t) { s with toks:=tk }:=λt tk=>fin s.heap t tk λ_ _ e=>e
 cases d with
 | none=>cases rp.lO;cases (show u=ah.none from ru);exact P.repr_of_none (Ih _ _)
 | bool b=>cases rp.lN;cases (show u=ah.bool b from ru);exact P.repr_of_bool (Ih _ _)
 | int i=>cases rp.eQ;obtain⟨t,e⟩:=(show ∃t,u=ah.int i t from ru);cases e;exact P.repr_of_int (by simpa [ag.showable] using g.Ew) (Ih _ _)
 | str x=>cases rp.j4;obtain⟨t,e⟩:=(show ∃t,u=ah.str x t from ru);cases e;exact P.repr_of_str (Ih _ _) g.fits
 | tuple ds =>
  obtain⟨as,ra⟩:=eB.reads I.eP g.lay rp ru;obtain⟨a,xs,rfl,_⟩:=rp.fz;cases (show u=ah.ref a from ru);exact repr_of_reads' ra g.Ew (ag.noDict_hsm g.nodict) hr.gd (by have:=g.deep;omega) (λ_ _ e=>e) (λh' t tk kp=>fin h' t tk kp) g.fits
 | list ds =>
  obtain⟨as,ra⟩:=eB.reads I.eP g.lay rp ru;obtain⟨a,xs,rfl,_⟩:=rp.fw;cases (show u=ah.ref a from ru);exact repr_of_reads' ra g.Ew (ag.noDict_hsm g.nodict) hr.gd (by have:=g.deep;omega) (λ_ _ e=>e) (λh' t tk kp=>fin h' t tk kp) g.fits
 | dict _=>have z:=g.lay;simp[ag.canLay0] at z
theorem Ey:f6 X (.builtin "isinstance") (λxs H Q=>∃x t c b,xs=[x,.ty c]/\mO X.K H x (.type t)/\W.kitOne X.K (.type t) (.type c)=some b/\Q (.bl b) H):=by
 intro pins s σ H xs us Q I r h;obtain⟨x,t,c,b,rfl,ty,e,q⟩:=h;obtain⟨u,u2,rfl,rx,rc⟩:=vals2 r;cases (show u2=ah.type c from rc);exact Cy I rx ty e λtk=>⟨.bl b,H,I.tok tk,rfl,q⟩
end
noncomputable def TF:ag->String
 | .none => "NoneType"
 | .bool _ => "bool"
 | .int _ => "int"
 | .str _ => "str"
 | .list _ => "list"
 | .tuple _ => "tuple"
 | .dict _ => "dict"
theorem eB.ty {K:W.Frag}{S:List Addr}{H:Hp}{d:ag}{v:V}(h:eB S H d v):mO K H v (.type (TF d)):=by
 cases d with
 | none=>cases h.lO;exact .gC
 | bool b=>cases h.lN;exact .bl b
 | int i=>cases h.eQ;exact .int i
 | str x=>cases h.j4;exact .str x
 | tuple ds=>obtain⟨a,xs,rfl,ha,_⟩:=h.fz;exact .tup ha
 | list ds=>obtain⟨a,xs,rfl,ha,_⟩:=h.fw;exact .lst ha
 | dict _ =>
  obtain⟨a,t,kvs,xs,rfl,_,ha,_⟩:=h.lM
  cases t with
  | true=>exact .dT ha
  | false=>exact .dK ha
end L2
namespace PySem
open Sem (wp)
open AutoSeq1 (wpAny_loadPart')
end PySem
namespace L2
open PySem PySem.Spec PyProof.Rows
section
theorem P0 (T:String)(hg:Gl X x)(hm:X.mg x=none)(hv:bootBuiltins x=some (.type T))(hn:x ≠ "__name__" := by decide)(hd:(x == (!12))=false:=by decide):PE X (.Name x pos) (tC (.ty T)):=Hq hg hm hv rfl hn hd
noncomputable def P1 (t u:TS):TS:=λD σ H=>∃M:St->Hp->Prop,t { D with nx:=M } σ H/\∀σ' H',M σ' H'->u D σ' H'
theorem Ii {st:Stmt}{rest:List Stmt}{t u:TS}(h1:PS X st t)(h2:y0 X rest u):y0 X (st::rest) (P1 t u):=by
 intro pins s σ H D I h;obtain⟨M,q,k⟩:=h;refine wpAny_execs_cons (fE (h1 pins s σ H { D with nx:=M } I q) λf s1 e=>?_)
 cases f with
 | next=>obtain⟨σ1,H1,I1,m1⟩:=e;exact h2 pins s1 σ1 H1 D I1 (k σ1 H1 m1)
 | brk=>exact e
 | cont=>exact e
 | ret u=>exact e
theorem MG {α:Type}{xs:List α}{i:Int}(h0:0<=i)(h1:i<xs.length):∃v,oY xs i=some v/\xs[i.toNat]? = some v:=by
 have gh:i.toNat<xs.length:=by omega
 refine⟨xs[i.toNat],?_,by simp[gh]⟩;unfold oY HU;rw[if_pos h0,if_pos h1];simp[gh]
end
noncomputable def eV:Expr->Bool
 | .Starred ..=>false
 | _=>true
theorem fK (h:eV e=true):starEach (e::es) env=(false,eval e env)::starEach es env:=by
 cases e<;>first | rfl | cases h
theorem ki:∀{es:List Expr},es.all eV=true->(backTo pos (starEach es env)).any (·.1)=false
 | [],_=>rfl
 | e::es,h=>by
  rw[List.all_cons,bP] at h;rw[fK h.1];show (backTo pos ((false,eval e env)::starEach es env)).any (·.1)=false;have ih:=ki (pos:=pos) (env:=env) h.2;show (false || (backTo pos (starEach es env)).any (·.1))=false;rw[ih];rfl
theorem qW:∀{es:List Expr},es.all eV=true->(backTo pos (starEach es env)).all (λx=>!x.1)=true
 | [],_=>rfl
 | e::es,h=>by
  rw[List.all_cons,bP] at h;rw[fK h.1];have ih:=qW (pos:=pos) (env:=env) h.2;show (true && (backTo pos (starEach es env)).all (λx=>!x.1))=true;rw[ih];rfl
theorem m6 (h:(e::es).all eV=true):eV e=true/\es.all eV=true:=by
 rw[List.all_cons,bP] at h;exact h
structure QE (X:Cx) (e:Expr) (t:TE):Prop where run:PE X e t
structure QT (X:Cx) (e:Expr) (t:TT):Prop where run:PT X e t
structure QW (X:Cx) (e:Expr) (t:TT):Prop where run:PW X e t
structure QA (X:Cx) (es:List Expr) (t:TA):Prop where
 run:PA X es t
 ns:es.all eV=true
structure QS (X:Cx) (st:Stmt) (t:TS):Prop where run:PS X st t
structure xk (X:Cx) (st:List Stmt) (t:TS):Prop where run:y0 X st t
structure QG (X:Cx) (e:Expr) (t:TG):Prop where run:PG X e t
structure KD (X:Cx) (es:List Expr) (t:LU):Prop where run:O3 X es t
structure QI (X:Cx) (tg iter:Expr) (t:TI):Prop where run:PI X tg iter t
structure QO (X:Cx) (e:Option Expr) (t:TO):Prop where run:PO X e t
structure QK (X:Cx) (n6:List Expr) (t:TT):Prop where run:Ox X n6 t
section
variable {X:Cx}{a b c e o i' tg iter oU:Expr}{es:List Expr}{ta tb tc te to ti:TE}{tA Hr:TT}{t:TA}{pos p gR fY p2:Pos}{k:Nat}{x name:Str}{ps:List Str}{sp:Sp}{id T:String}{rest:List Expr}
theorem qv (i:Nat)(hN:X.N[i]? = some x:=by rfl)(hv:qM X.env.scope x:=by (first | exact Or.inl rfl | exact Or.inr (Or.inl rfl) | exact Or.inr (Or.inr rfl)))(hd:(x == (!12))=false:=by decide)
  (jb:(x == (!18))=false:=by decide):QE X (.Name x pos) (Hn i):=⟨DY hN hv hd jb⟩
theorem eT {i j pos}:QE X (.Constant (.int i) j pos) (tC (.int i)):=⟨LN⟩
theorem Ez {b j pos}:QE X (.Constant (.bool b) j pos) (tC (.bl b)):=⟨OW⟩
theorem MH {j pos}:QE X (.Constant .none j pos) (tC .gC):=⟨DZ⟩
theorem P4 (T:String)(hg:Gl X x)(hm:X.mg x=none)(hv:bootBuiltins x=some (.type T))(hn:x ≠ "__name__" := by decide)(hd:(x == (!12))=false:=by decide):QE X (.Name x pos) (tC (.ty T)):=⟨P0 T hg hm hv hn hd⟩
theorem fV (ho:lg X (binaryOp op) r)(ha:QE X a ta)(hb:QE X b tb):QE X (.BinOp a op b pos) (HD r ta tb):=⟨Pa ho ha.run hb.run⟩
theorem P5 (ho:R3 X (unaryOp op) r)(ha:QE X a ta):QE X (.UnaryOp op a pos) (VF r ta):=⟨Pb ho ha.run⟩
theorem Bg (ho:lg X (compareOp op) r)(ha:QE X a ta)(hb:QE X b tb)(hm:behindInMarks op b=false):QE X (.Compare a [op] [b] pos) (HD r ta tb):=⟨HI ho ha.run hb.run hm⟩
theorem qk (ho:lg X (compareOp op) r)(ha:QE X a ta)(hb:QE X b tb)(hm:behindInMarks op b=false):QT X (.Compare a [op] [b] pos) (Ku (HD r ta tb)):=⟨HJ ho ha.run hb.run hm⟩
theorem zB (h:QE X e te)(he:∀mY,isTrue e X.env mY=(do let v <- mY;standAt e.pos;holding [v] (truthy v)):=by rw[6]):QT X e (tB te):=⟨LP h.run he⟩
theorem Bh (ha:QT X a tA):QW X (.BoolOp .And [a] pos) tA:=⟨pw_and1 ha.run⟩
theorem MI (ha:QT X a tA):QW X (.BoolOp .Or [a] pos) tA:=⟨pw_or1 ha.run⟩
theorem EA (ha:QT X a tA)(hb:QW X (.BoolOp .And (b::rest) pos) Hr):QW X (.BoolOp .And (a::b::rest) pos) (OX tA Hr):=⟨pw_and ha.run hb.run⟩
theorem P6 (ha:QT X a tA)(hb:QW X (.BoolOp .Or (b::rest) pos) Hr):QW X (.BoolOp .Or (a::b::rest) pos) (VC tA Hr):=⟨pw_or ha.run hb.run⟩
theorem QW.pt (h:QW X e tA):QT X e tA:=⟨h.run.pt⟩
theorem MJ (ha:QT X a tA):QT X (.UnaryOp .Not a pos) (OY tA):=⟨LQ ha.run⟩
theorem EB (ha:QE X a ta):QE X (.UnaryOp .Not a pos) (Km ta):=⟨LR ha.run⟩
theorem EC (hc:QT X c tA)(ha:QE X a ta)(hb:QE X b tb):QE X (.IfExp c a b pos) (VD tA ta tb):=⟨D1 hc.run ha.run hb.run⟩
theorem fi:QA X [] Mg:=⟨Mi,rfl⟩
theorem gZ (ha:QE X e te)(hr:QA X es t)(hs:eV e=true:=by rfl):QA X (e::es) (Ea te t):=⟨HL ha.run hr.run (fK hs),by rw[List.all_cons,hs,hr.ns];rfl⟩
theorem vk (h:QA X es t):QE X (.List es pos) (Pg t):=⟨Mk h.run⟩
theorem MK {x1}(h:QA X es t):QE X (.Tuple es x1 pos) (Pf t):=⟨Mj h.run⟩
theorem n8 (hr:G6 X r)(ha:QE X a ta)(hb:QE X b tb)(hs:va b):QE X (.Subscript a b pos) (HD r ta tb):=⟨Pp hr ha.run hb.run hs⟩
theorem Bi:QO X none A9:=⟨HQ⟩
theorem Bj (h:QE X e te):QO X (some e) (Kw te):=⟨HR h.run⟩
theorem xl {r:V->Option Int->Option Int->Hp->VK->Prop}{lo hi:Option Expr}{tl th:TO}(hr:G5 X r)(he:QE X e te)(hl:QO X lo tl)(hu:QO X hi th):QE X (.Subscript e (.Slice lo hi none p2) pos) (VI r te tl th):=⟨Ef hr he.run hl.run hu.run⟩
theorem kj (D:eD X.prog X.w X.K X.mg X.base k x ps sp)(hr:gy k X.A)(ha:QA X (e::es) t)(hg:Gl X x:=by rfl)(oX:(x == (!12))=false:=by decide) :
  QE X (.Call (!25) (e::es) [] pos) (qU sp t):=⟨Eo D hr ha.run hg oX (fK (m6 ha.ns).1) (ki (m6 ha.ns).2)⟩
theorem gE {r:List V->Hp->VK->Prop}(hc:f6 X (.builtin id) r)(hg:Gl X x)(hm:X.mg x=none)(hv:bootBuiltins x=some (.builtin id))(ha:QA X (e::es) t)(hn:x ≠ "__name__" := by decide)(oX:(x == (!12))=false:=by decide) :
  QE X (.Call (!25) (e::es) [] pos) (Pm r t):=⟨Ed hc hg hm hv ha.run hn oX (fK (m6 ha.ns).1) (ki (m6 ha.ns).2)⟩
theorem kl (hc:f6 X (.type T) r)(hg:Gl X x)(hm:X.mg x=none)(hv:bootBuiltins x=some (.type T))(ha:QA X (e::es) t)(hn:x ≠ "__name__" := by decide)(oX:(x == (!12))=false:=by decide) :
  QE X (.Call (!25) (e::es) [] pos) (Pm r t):=⟨CA hc hg hm hv ha.run hn oX (fK (m6 ha.ns).1) (ki (m6 ha.ns).2)⟩
theorem P7 {r:V->List V->Hp->VK->Prop}(pa:PlainAttrs T)(slot:Slot T name id)(Eh:typeOf (.builtin id)=pure (.type "method_descriptor"))(hm:CC X id r)(ho:QE X o to)(ha:QA X (e::es) t)
  (jh:attributeBase o name X.env (eval o X.env)=eval o X.env:=by rfl) (hl:decide ((e::es).length+0+0<30)=true:=by rfl)
  (ji:(gR.endLine == fY.line)=true:=by rfl):QE X (.Call (.Attribute o name gR) (e::es) [] fY) (Te X.K T r to t):=by
 refine⟨Px pa slot Eh hm ho.run ha.run jh ?_ ji (fK (m6 ha.ns).1) (ki (m6 ha.ns).2)⟩;rw[qW ha.ns];exact hl
theorem n9 (hN:X.N.Nodup)(hi:X.N[i]? = some x)(hx:Loc X.env.scope x)(hf:X.fn x=true\/X.env.scope.names.lookup x=some .local:=by (first | exact .inl rfl | exact .inr rfl | assumption)):QG X (.Name x pos) (wV i):=⟨Hw hN hi hx hf⟩
theorem Ij:KD X [] O5:=⟨Hx⟩
theorem ED (h1:QG X e tt)(h2:KD X es u)(hs:(assignEach (e::es) X.env).map (·.2)=assign e X.env::(assignEach es X.env).map (·.2):=by rfl):KD X (e::es) (Kp tt u):=⟨D3 h1.run h2.run hs⟩
theorem ML (hc:X.calm=true)(h:KD X es tt)(hn:(assignEach es X.env).length=n:=by rfl)(Cr:(assignEach es X.env).findIdx? (·.1)=none:=by rfl):QG X (.Tuple es k pos) (O6 X.K n tt):=⟨LW hc h.run hn Cr⟩
theorem zC (ho:QE X o to)(hi:QE X i' ti)(hs:LV X tt)
  (ha:∀v,assign (.Subscript o i' pos) X.env v=(do
   let ov <- holding [v] (eval o X.env);let iv <- holding [v,ov] (eval i' X.env)
   standAt pos
   holding [v,ov,iv] (setItem ov iv v)
   release [v,ov,iv] []):=by rw[6]):QG X (.Subscript o i' pos) (O7 to ti tt):=⟨LX ho.run hi.run hs ha⟩
theorem Ik (hl:QE X a ta):QI X tg a (D7 X.K ta):=⟨HA hl.run⟩
theorem MM (hl:QE X a ta):QI X tg a (L0 X.K ta):=⟨L1 hl.run⟩
theorem tS (hg:Gl X "range")(hm:X.mg "range" = none)(ha:QA X [a] t):QI X tg (.Call (.Name "range" p) [a] [] pos) (Kq t):=⟨Cs hg hm ha.run (fK (m6 ha.ns).1)⟩
theorem MN:QK X [] Ky:=⟨Ia⟩
theorem zD (h:QT X c tA):QK X [c] tA:=⟨Ib h.run⟩
variable {st:Stmt}{MO body P8:List Stmt}{ts us:TS}{n6:List Expr}{sc:Scope}{N:List Str}{mp:List (Option Nat)}{wi:TI}{g:TG}
theorem ql:xk X [] Kn:=⟨Ht⟩
theorem eZ (h1:QS X st ts)(h2:xk X MO us):xk X (st::MO) (OZ ts us):=⟨D2 h1.run h2.run⟩
theorem Il (h1:QS X st ts)(h2:xk X MO us):xk X (st::MO) (P1 ts us):=⟨Ii h1.run h2.run⟩
theorem ig (h1:QS X st ts):xk X [st] ts:=⟨Hu h1.run⟩
theorem Bk (he:QE X e te)(hs:swapsWith e none pos.line X.env=pure false:=by rfl):QS X (.Expr e pos) (Ko te):=⟨Hv he.run hs⟩
theorem kO (he:QE X e te):QS X (.Return (some e) pos) (O0 te):=⟨LS he.run⟩
theorem Bl (hc:QT X c tA)(ha:xk X body ts)(hb:xk X P8 us):QS X (.If c body P8 pos) (O1 tA ts us):=⟨O2 hc.run ha.run hb.run⟩
theorem gF (hN:X.N.Nodup)(hi:X.N[i]? = some x)(hx:Loc X.env.scope x)(he:QE X e te)(hs:swapsWith e (some (.Name x fX)) pos.line X.env=pure false:=by rfl)
  (hf:X.fn x=true\/X.env.scope.names.lookup x=some .local:=by (first | exact .inl rfl | exact .inr rfl | assumption)):QS X (.Assign [.Name x fX] e pos) (D4 te (wV i)):=⟨LZ hN hi hx he.run hs hf⟩
theorem vm (he:QE X e te)(hg:QG X tg g)(hs:swapsWithSole [tg] e pos.line X.env=pure false:=by rfl)(hw:swappedStores [tg] e X.env=pure none:=by rfl)
  (h1:(assignEach [tg] X.env).map (·.2)=[assign tg X.env]:=by rfl):QS X (.Assign [tg] e pos) (D4 te g):=⟨LY he.run hg.run hs hw h1⟩
theorem vn (hp:PassesOwn (!11) X.A X.env X.xe)(hc:X.calm=true)(hi:QI X tg iter wi)(hg:QG X tg g)(hb:xk X body ts)(hs:∀x,foldedSetIterable iter X.env x=pure x:=by rw[6]) :
  QS X (.For tg iter body [] pos) (O8 wi g ts):=⟨L3 hp hc hi.run hg.run hb.run hs⟩
theorem EE (hp:PassesOwn (!11) X.A X.env X.xe)(hc:QT X c tA)(hb:xk X body ts):QS X (.While c body [] pos) (D5 tA ts):=⟨D6 hp hc.run hb.run⟩
theorem vo (hc:X.calm=true)(hi:QI X tg iter wi)(hk:sc.kind=.function)(hm:iR X.N X.env.scope sc N mp=true)
  (hb:∀(cl:List (Str × Addr)) (C:Addr) (s₂:aw) (H₂:Hp) (fp:List Addr),QG (!13) tg g/\QK (!13) n6 tA/\QE (!13) oU te)
  (hs:∀x,foldedSetIterable iter X.env x=pure x:=by rw[6]):QE X (.ListComp oU [⟨tg,iter,n6,0⟩] sc pos) (Et (tQ wi mp g tA te)) :=
 ⟨Ie hc hi.run hk hm (λcl C s₂ H₂ fp=>⟨(hb cl C s₂ H₂ fp).1.run,(hb cl C s₂ H₂ fp).2.1.run,(hb cl C s₂ H₂ fp).2.2.run⟩) hs⟩
theorem Im (hN:X.N.Nodup)(PX:X.N[i]? = some x)(hx:X.env.scope.names.lookup x=some .local)(hc:X.calm=true)(hi:QI X tg iter wi)(hk:sc.kind=.function)(hm:iR X.N X.env.scope sc N mp=true)
  (hb:∀(cl:List (Str × Addr)) (C:Addr) (s₂:aw) (H₂:Hp) (fp:List Addr),QG (!13) tg g/\QK (!13) n6 tA/\QE (!13) oU te)
  (PY:swapsWith (.ListComp oU [⟨tg,iter,n6,0⟩] sc pos) (some (.Name x py)) spos.line X.env=pure true:=by rfl)
  (hs:∀x,foldedSetIterable iter X.env x=pure x:=by rw[6]):QS X (.Assign [.Name x py] (.ListComp oU [⟨tg,iter,n6,0⟩] sc pos) spos) (Eu i (tQ wi mp g tA te)) :=
 ⟨Ig hN PX hx hc hi.run hk hm (λcl C s₂ H₂ fp=>⟨(hb cl C s₂ H₂ fp).1.run,(hb cl C s₂ H₂ fp).2.1.run,(hb cl C s₂ H₂ fp).2.2.run⟩) PY hs⟩
end
theorem w6.MP {P:aV}{w:World}{K:W.Frag}{mg:Str->Option ah}{base:Heap}{x fF:Str}{st:Stmt}{f:Addr}{fd:b9}{N ps:List Str}{k:Nat}{sp:Sp}(F:w6 K x fF st f fd)(S:fD N ps (dQ st))(len:∀vs H Q E,sp vs H Q E->vs.length=ps.length)
  (wZ:∀(fG:ah) (A:Around) (outer:List Env) (s:aw) (H:Hp) (vs:List V) (Q:VK) (E:XK),gy k (A.deeper (envOfC fF (dQ st) s.heap.objs.size f fG))->sp vs H Q E ->
   ∃t,xk (nq vf P w K mg base N fF (dQ st) f fG A outer s H E).Cq (fZ st) t/\t { nx:=λ_ H'=>Q .gC H',rt:=Q } (start N vs) H):lx P w K mg base vf (k+1) f fd ps sp :=
 F.ok S len λfG A outer s H vs Q E hr h=>let ⟨t,q,r⟩:=wZ fG A outer s H vs Q E hr h;⟨t,q.run,r⟩
section
variable {X:Cx}(K:W.Frag)
theorem WZ (h:X.K=K:=by rfl):G6 X (Pr K):=by subst h;exact Mt
theorem Io (h:X.K=K:=by rfl):G6 X (Pq K):=by subst h;exact HV
theorem VU (h:X.K=K:=by rfl):G5 X (Pu K):=by subst h;exact HW
theorem MQ (h:X.K=K:=by rfl):f6 X (.builtin "len") (λxs H Q=>∃p ys,xs=[.ref p]/\(gD K H p ys\/iQ K H p ys)/\Q (.int ys.length) H):=by subst h;exact vc
theorem TH (h:X.K=K:=by rfl):f6 X (.builtin "isinstance") (λxs H Q=>∃x t c b,xs=[x,.ty c]/\mO K H x (.type t)/\W.kitOne K (.type t) (.type c)=some b/\Q (.bl b) H):=by subst h;exact Ey
theorem zE (h:X.K=K:=by rfl):f6 X (.type "tuple") (λxs H Q=>∃p ys,xs=[.ref p]/\((gD K H p ys/\∀l,H l=none->Q (.ref l) (eM H l (.tup ys)))\/(iQ K H p ys/\Q (.ref p) H))):=by subst h;exact sV
variable {a o e tg:Expr}{es:List Expr}{ta to:TE}{t:TA}{gR fY:Pos}{name:Str}{id T:String}
theorem EF (hl:QE X a ta)(h:X.K=K:=by rfl):QI X tg a (D7 K ta):=by subst h;exact Ik hl
theorem Ip (hl:QE X a ta)(h:X.K=K:=by rfl):QI X tg a (L0 K ta):=by subst h;exact MM hl
theorem MR {r:V->List V->Hp->VK->Prop}(pa:PlainAttrs T)(slot:Slot T name id)(Eh:typeOf (.builtin id)=pure (.type "method_descriptor"))(hm:CC X id r)(ho:QE X o to)(ha:QA X (e::es) t)(h:X.K=K:=by rfl)
  (jh:attributeBase o name X.env (eval o X.env)=eval o X.env:=by rfl) (hl:decide ((e::es).length+0+0<30)=true:=by rfl)
  (ji:(gR.endLine == fY.line)=true:=by rfl):QE X (.Call (.Attribute o name gR) (e::es) [] fY) (Te K T r to t):=by subst h;exact P7 pa slot Eh hm ho ha jh hl ji
end
end L2
namespace HT
open PySem PyProof.Rows
section
theorem mS {t sl:Addr}{items:Array ah}{vl vu:ah}{lo hi:Option Int}{Q:ah->aw->Prop}(ht:IsTup s.heap t items)(hs:s.heap.IsSliceOf sl vl vu .none)(pl:IsPart vl lo)(pu:IsPart vu hi)
  (hw:gK items.size 0 lo=0/\gK items.size items.size hi=items.size) (h:Q (.ref t) s):aG (!10) A (getItem (.ref t) (.ref sl)) Q E s:=by
 obtain⟨os,Mr,Ou,Pn⟩:=id hs;have Tb:s.TypeIs (.ref sl) "slice" := ⟨os,Mr,Ou⟩;unfold getItem;try with_reducible refine wpAny_holding ?_
 first | refine aa (aj ?_) | skip
 refine aa (wpAny_sequenceKey ht.typeIs (!2) ?_)
 refine aa (wpAny_callSpecial?_slot (name:=Str.ofString "__getitem__") ht.typeIs PyProof.Rows.slot_tuple_getitem
  (wpAny_call_entry PyProof.Rows.slot_tuple_getitem ht.typeIs entry_tuple_getitem ?_ (args_tuple_getitem _ _)))
 show aG _ _ (Builtin.Tuple.tupleItemsOf (.ref t) >>= _) _ _ s;refine aa (tupleItemsOf_ ht ?_);refine aa (wpAny_typeOf Tb ?_);rw[if_pos (!2)];refine aa (kh hs pl pu ?_)
 have TJ:((((gK items.size 0 lo:Nat):Int) == 0 && (1:Int) == 1 && (gK items.size items.size hi - gK items.size 0 lo) == items.size)=true):=by
  rw[hw.1,hw.2];simp
 show aG _ _ (if (((gK items.size 0 lo:Nat):Int) == 0 && (1:Int) == 1 && (gK items.size items.size hi - gK items.size 0 lo) == items.size)=true then _ else _) _ _ s;rw[if_pos TJ];refine aa ?_;unfold Builtin.Tuple.tupleIsExact;refine aa (wpAny_typeOf ht.typeIs (aj ?_));show aG _ _ (if (ah.type "tuple" == ah.type "tuple")=true then _ else _) _ _ s;rw[if_pos (!2)];exact aa (wpAny_rule (aj ⟨_,rfl,aj h⟩))
end
end HT
namespace L2
open PySem PySem.Spec PyProof.Rows
noncomputable def P9 (K:W.Frag):V->Option Int->Option Int->Hp->VK->Prop:=λx lo hi H Q=>∃a xs,x=.ref a/\iQ K H a xs/\(nY xs lo hi=xs->Q (.ref a) H)/\∀p,H p=none->Q (.ref p) (eM H p (.tup (nY xs lo hi)))
section
variable (K:W.Frag)
theorem W0 (h:X.K=K:=by rfl):G5 X (P9 K):=by
 subst h;intro pins s σ H x v vl vu lo hi sl Q I rx hs pl pu h;obtain⟨a,xs,rfl,hx,hw,q⟩:=h;by_cases hc:HT.gK xs.length 0 lo=0/\HT.gK xs.length xs.length hi=xs.length
 .cases rx
  obtain⟨its,r,ht,hz⟩:=I.tuple hx;have hlen:its.toArray.size=xs.length:=by rw[aE];exact r.length.symm
  refine⟨"tuple",_,PyProof.Rows.slot_tuple_getitem.lookup,ht.typeIs,?_⟩;refine HT.mS ht hs pl pu (by rw[hlen];exact hc) ⟨.ref a,H,I,rfl,hw ?_⟩;unfold nY;rw[hc.1,hc.2];simp
 .exact Ms pins s σ H (.ref a) v vl vu lo hi sl Q I rx hs pl pu ⟨a,xs,rfl,hx,hc,q⟩
end
noncomputable def P' (K:W.Frag):R2:=λx y H Q=>∃a b xs ys,x=.ref a/\y=.ref b/\iQ K H a xs/\iQ K H b ys/\xs.length+ys.length<=az/\(xs=[]->Q (.ref b) H)/\(ys=[]->Q (.ref a) H)/\∀p,H p=none->Q (.ref p) (eM H p (.tup (xs++ys)))
theorem TK (K:W.Frag)(h:X.K=K:=by rfl):lg X (binaryOp .Add) (P' K):=by
 subst h;intro pins s σ H x y v u Q I rx ry h;obtain⟨a,b,xs,ys,rfl,rfl,ha,hb,hz,q0,q1,q2⟩:=h;by_cases hx:xs=[]
 .cases rx
  cases ry;obtain⟨its,r1,p1,_⟩:=I.tuple ha;obtain⟨mP,r2,p2,_⟩:=I.tuple hb;have hi:its=[]:=r1.nZ.mpr hx;obtain⟨⟨cls,dd,data,sl⟩,ho,hc,n,hd⟩:=id p1;obtain⟨⟨Ta,R5,data2,Mp⟩,CB,DM,n2,u9⟩:=id p2;simp only at hc hd DM u9;subst hc hd DM u9
  exact concat_meets ⟨_,ho,rfl⟩ ⟨_,CB,rfl⟩ noFill_tuple_add seq_tuple_add PySem.F.slot_tuple_add PySem.F.entry_tuple_add (PySem.F.args_tuple_add_2 _ _)
   (tuple_addW0 a b its.toArray mP.toArray n n2 dd R5 sl Mp (by simp[hi])) ⟨ho,CB,⟨.ref b,H,I,rfl,q0 hx⟩⟩
 .exact HS pins s σ H _ _ v u Q I rx ry ⟨a,b,xs,ys,rfl,rfl,ha,hb,hx,hz,q1,λ_=>q2⟩
end L2
namespace PySem
open Sem (wp)
theorem km:fillsNumberSlot (.type "tuple") "mul" = pure false :=
 fillsNumberSlot_seq (id := "tuple.__mul__") (r:=some (.builtin "tuple.__rmul__")) F.slot_tuple_mul.lookup (!3) F.slot_tuple_rmul.lookup (!3)
theorem og:seqRepeat? (.type "tuple")=pure (some (.builtin "tuple.__mul__")):=by
 unfold seqRepeat?;rw[seqSlot_of (T := "tuple") (name := "__mul__") (id := "tuple.__mul__") F.slot_tuple_mul.lookup (!3),seqSlot_of (T := "tuple") (name := "__rmul__") (id := "tuple.__rmul__") F.slot_tuple_rmul.lookup (!3)];rfl
theorem lP (a:Int)(t:Tok)(l:Addr)(items:Array ah)(n:Nat)(dd:Option Addr)(sl:Array (Option ah)) :
  Meets (Builtin.«int.__rmul__» ⟨[.int a t,.ref l],[]⟩) (λ_ R s=>s.heap.get? l=some { cls:=.type "tuple",dict:=dd,data:=.seq items n,slots:=sl }/\R (.ok (.ret ah.notImplemented)) s) :=
 .of_wp λprog w A R s h=>by obtain⟨hp,g,d,tk,os⟩:=s;obtain⟨hl,h⟩:=h;wp_walk;exact⟨_,rfl,h⟩
theorem sX (l:Addr)(items:Array ah)(n:Nat)(dd:Option Addr)(sl:Array (Option ah))(k:Int)(t:Tok)(hV:items.isEmpty=false)(h2:2<=k)(hk:k<2 ^ 40)(hz:items.size * k.toNat<=16000000) :
  Meets (Builtin.«tuple.__mul__» ⟨[.ref l,.int k t],[]⟩) (λ_ R s=>s.heap.get? l=some { cls:=.type "tuple",dict:=dd,data:=.seq items n,slots:=sl }/\R (.ok (.ret (ah.ref s.heap.objs.size))) { s with heap:=s.heap.push { cls:=ah.type "tuple",data:=Data.seq (dF (λx1 x2=>x1++x2) #[] (List.replicate k.toNat items)) },toks:=s.toks }) :=
 .of_wp λprog w A R s h=>by
  obtain⟨hp,g,d,tk,os⟩:=s;obtain⟨hl,h⟩:=h;have f1:=AutoSeq1.idx_int;have c0:¬ (decide (k < -(2 ^ 63)) || decide (k ≥ 2 ^ 63))=true:=by simp;omega
  have c1:¬ (items.isEmpty || k == 1)=true:=by rw[hV];simp;omega
  have c2:¬ (decide (k<=0) || items.isEmpty)=true:=by rw[hV];simp;omega
  wp_walk
  have vp:k=((k.toNat:Nat):Int):=by omega
  have hm:(items.size:Int) * k=((items.size * k.toNat:Nat):Int):=by rw[Int.natCast_mul,<- vp]
  have c3:¬ (items.size:Int) * k > (2 ^ 63 - 1) / 8:=by rw[hm];omega
  have c4:¬ Builtin.Tuple.tupleTooMany ((items.size:Int) * k)=true:=by
   rw[hm];unfold Builtin.Tuple.tupleTooMany;rw[decide_eq_true_eq,show az=16777216 by decide];omega
  have wB:PyProof.Rows.IsTup hp l items:=⟨_,hl,rfl,n,rfl⟩
  have hsz:(dF (λx1 x2=>x1++x2) #[] (List.replicate k.toNat items)).size<=az:=by
   have e:=AutoListH.size_joined items k.toNat #[];have e0:(#[]:Array ah).size=0:=rfl;rw[e0,dG,Nat.mul_comm] at e;rw[e];exact bq hz (!2)
  rw[if_neg c0];show aG _ _ (Builtin.Tuple.tupleItemsOf (.ref l) >>= _) _ _ _;refine aa (PyProof.Rows.tupleItemsOf_ wB ?_);dsimp only;rw[if_neg c1,if_neg c2,if_neg c3,if_neg c4]
  first
   | exact aa (m:=Builtin.Tuple.tupleExact _) (aY (aj ⟨_,rfl,h⟩) hsz)
   | exact aa (m:=Builtin.Tuple.tupleExact _) (aY (aa (aj (aj ⟨_,rfl,h⟩))) hsz)
   | exact aa (aa (m:=Builtin.Tuple.tupleExact _) (aY (aj (aj ⟨_,rfl,h⟩)) hsz))
   | exact aa (aa (m:=Builtin.Tuple.tupleExact _) (aY (aj ⟨_,rfl,h⟩) hsz))
end PySem
namespace L2
open PySem PySem.Spec PyProof.Rows
section
theorem QE.weaken (h:QE X e t)(w:∀σ H Q,t' σ H Q->t σ H Q):QE X e t':=⟨λpins s σ H Q I q=>h.run pins s σ H Q I (w σ H Q q)⟩
theorem QA.weaken (h:QA X es t)(w:∀σ H Q,t' σ H Q->t σ H Q):QA X es t':=⟨λpos pins s σ H Q I q=>h.run pos pins s σ H Q I (w σ H Q q),h.ns⟩
end
section
variable {X:Cx}{us ui:List Nat}{a b e:Expr}{es:List Expr}{pos:Pos}
noncomputable def KH (K:W.Frag):R2:=λx y H Q=>∃a k xs,x=.ref a/\y=.int k/\iQ K H a xs/\xs≠[]/\2<=k/\k<2 ^ 40/\xs.length * k.toNat<=16000000/\∀p,H p=none->Q (.ref p) (eM H p (.tup (List.replicate k.toNat xs).flatten))
theorem Iq (K:W.Frag)(h:X.K=K:=by rfl):lg X (binaryOp .Mult) (KH K):=by
 subst h;intro pins s σ H x y v u Q I rx ry h;obtain⟨a,k,xs,rfl,rfl,hx,hV,h2,hk,hz,q⟩:=h;cases rx;obtain⟨t,rfl⟩:=ry;obtain⟨its,r,ht,hl⟩:=I.tuple hx;obtain⟨⟨cls,dd,data,sl⟩,ho,hc,n,hd⟩:=id ht;simp only at hc hd;subst hc hd
 have TL:its.toArray.isEmpty=false:=by
  cases its with
  | nil=>exact absurd (r.nZ.mp rfl) hV
  | cons _ _=>rfl
 have hsz:its.toArray.size * k.toNat<=16000000:=by rw[aE,<- r.length];exact hz
 refine wpAny_binaryOp_repeat_ref (T := "tuple") (U := "int") (!2) ⟨_,ho,rfl⟩ (λs'=>typeIs_int s' k t) km F.fills_int_mul F.slot_int_rmul og F.slot_int_index.lookup
  (call_meets F.slot_int_rmul (typeIs_int s k t) F.entry_int_rmul (F.args_int_rmul_2 _ _) (lP k t a its.toArray n dd sl)
   ⟨ho,rfl,⟨_,ho,rfl⟩,call_meets F.slot_tuple_mul ⟨_,ho,rfl⟩ F.entry_tuple_mul (F.args_tuple_mul_2 _ _) (sX a its.toArray n dd sl k t TL h2 hk hsz) ⟨ho,?_⟩⟩)
 have Ek:dF (λx1 x2=>x1++x2) #[] (List.replicate k.toNat its.toArray)=(List.replicate k.toNat its).flatten.toArray:=by
  have:=foldl_rep its k.toNat [];rw[bg] at this;exact this
 rw[Ek]
 have hlen:(List.replicate k.toNat xs).flatten.length<=az:=by
  rw[vd,Nat.mul_comm,show az=16777216 by decide];omega
 exact⟨.ref _,_,I.laid (t':=s.toks) (o:=.tup (List.replicate k.toNat xs).flatten) (λb o e=>ak _ e) (ap _) ⟨hlen,_,r.rep k.toNat,u4.new _ _⟩,rfl,q _ (I.eP.fresh (ap _))⟩
theorem eg.at' {xs:List V}{us:List ah}{i:Nat}{u:ah}(r:eg xs us)(h:us[i]? = some u):∃x,xs[i]? = some x/\RelV x u:=by
 have hi:i<us.length:=(aA.mp h).1;have Bm:i<xs.length:=by rw[r.length];exact hi
 have e:xs[i]? = some xs[i]:=by simp[Bm]
 obtain⟨w,hw,kN⟩:=r.get e;rw[h] at hw;cases hw;exact⟨_,e,kN⟩
end
section
variable {κ:Type}[DecidableEq κ]
noncomputable def ij (kvs:List (κ × V))(k:κ):Option V:=(kvs.find? λkv=>decide (kv.1=k)).map (·.2)
noncomputable def jj (kvs:List (κ × V))(k:κ)(v:V):List (κ × V) :=
 if (kvs.any λkv=>decide (kv.1=k))=true then kvs.map (λkv=>if kv.1=k then (kv.1,v) else kv) else kvs++[(k,v)]
theorem f9 {p:κ × V}{r:List (κ × V)}{k:κ}(e:p.1=k):ij (p::r) k=some p.2:=by simp[ij,bN,e]
theorem f' {p:κ × V}{r:List (κ × V)}{k:κ}(e:¬ p.1=k):ij (p::r) k=ij r k:=by simp[ij,bN,e]
theorem oh (k:κ):∀kvs:List (κ × V),(kvs.any λkv=>decide (kv.1=k))=(ij kvs k).isSome
 | []=>rfl
 | p::r=>by
  rw[cp];by_cases e:p.1=k
  .simp only[f9 e,decide_eq_true e,Bool.true_or,Option.isSome_some]
  .rw[f' e,decide_eq_false e,Bool.false_or];exact oh k r
theorem xm (k j:κ)(y:V):∀kvs:List (κ × V),ij (kvs.map λkv=>if kv.1=k then (kv.1,y) else kv) j=(ij kvs j).map λx=>if j=k then y else x
 | []=>rfl
 | p::r=>by
  have ih:=xm k j y r;rw[ar];by_cases h:p.1=k
  .rw[if_pos h]
   by_cases e:p.1=j
   .rw[f9 (p:=(p.1,y)) e,f9 e,bW,if_pos (e.symm.trans h)]
   .rw[f' (p:=(p.1,y)) e,f' e,ih]
  .rw[if_neg h]
   by_cases e:p.1=j
   .rw[f9 (p:=p) e,f9 e,bW,if_neg (λz=>h (e.trans z))]
   .rw[f' (p:=p) e,f' e,ih]
theorem tU (k j:κ)(y:V):∀kvs:List (κ × V),ij kvs k=none->ij (kvs++[(k,y)]) j=if j=k then some y else ij kvs j
 | [],_=>by
  by_cases e:k=j
  .rw[if_pos e.symm];exact f9 (p:=(k,y)) e
  .rw[if_neg (λz=>e z.symm)];exact f' (p:=(k,y)) e
 | p::r,hn=>by
  rw[bw];have hk:¬ p.1=k:=λz=>by rw[f9 z] at hn;cases hn
  rw[f' hk] at hn;have ih:=tU k j y r hn;by_cases e:p.1=j
  .rw[f9 e,f9 e,if_neg (λz=>hk (e.trans z))]
  .rw[f' e,f' e,ih]
theorem EG (kvs:List (κ × V))(k j:κ)(y:V):ij (jj kvs k y) j=if j=k then some y else ij kvs j:=by
 unfold jj;by_cases a:(kvs.any λkv=>decide (kv.1=k))=true
 .rw[if_pos a,xm]
  rw[oh] at a;by_cases e:j=k
  .obtain⟨x,hx⟩:=bX.mp a
   rw[if_pos e,e,hx,bW,if_pos rfl]
  .rw[if_neg e]
   cases ij kvs j with
   | none=>rfl
   | some x=>rw[bW,if_neg e]
 .rw[if_neg a]
  refine tU k j y kvs ?_;rw[oh] at a
  cases q:ij kvs k with
  | none=>rfl
  | some x=>rw[q] at a;exact (a rfl).elim
theorem lQ (kvs:List (κ × V))(k:κ)(v:V):(jj kvs k v).length<=kvs.length+1:=by
 unfold jj;split
 .rw[ao];omega
 .rw[aH,av,bz];omega
theorem nV.kn (r:nV o u):o.isSome=u.isSome:=by
 cases o with
 | none=>cases u with
  | none=>rfl
  | some _=>exact (show False from r).elim
 | some _=>cases u with
  | none=>exact (show False from r).elim
  | some _=>rfl
theorem nV.getD (r:nV o u)(rd:RelV d d'):RelV (o.getD d) (u.getD d'):=by
 cases o with
 | none=>cases u with
  | none=>exact rd
  | some _=>exact (show False from r).elim
 | some _=>cases u with
  | none=>exact (show False from r).elim
  | some _=>exact r
theorem KV.val {kvs:List (κ × V)}{vs:List (κ × ah)}(r:KV kvs vs)(k:κ):nV (ij kvs k) (valueAt vs k):=by
 unfold KV at r
 induction r with
 | nil=>exact True.intro
 | @cons p q ps qs h t ih =>
  obtain⟨h1,h2⟩:=h;by_cases e:p.1=k
  .have e':q.1=k:=h1.symm.trans e
   have b:valueAt (q::qs) k=some q.2:=by simp[valueAt,bN,e']
   rw[f9 e,b];exact h2
  .have e':¬ q.1=k:=λz=>e (h1.trans z)
   have b:valueAt (q::qs) k=valueAt qs k:=by simp[valueAt,bN,e']
   rw[f' e,b];exact ih
theorem KV.any (r:KV kvs vs)(k:κ):(kvs.any λkv=>decide (kv.1=k))=vs.any λkv=>decide (kv.1=k):=by
 unfold KV at r
 induction r with
 | nil=>rfl
 | cons h t ih=>rw[cp,cp,ih,h.1]
theorem KV.MS (r:KV kvs vs)(k:κ)(ry:RelV y u) :
  KV (kvs.map λkv=>if kv.1=k then (kv.1,y) else kv) (vs.map λkv=>if kv.1=k then (kv.1,u) else kv):=by
 unfold KV at r ⊢
 induction r with
 | nil=>exact .nil
 | @cons p q ps qs h t ih =>
  rw[ar,ar];refine .cons ?_ ih;obtain⟨h1,h2⟩:=h;by_cases e:p.1=k
  .rw[if_pos e,if_pos (h1.symm.trans e)];exact⟨h1,ry⟩
  .rw[if_neg e,if_neg (λz=>e (h1.trans z))];exact⟨h1,h2⟩
theorem KV.put (r:KV kvs vs)(k:κ)(ry:RelV y u):KV (jj kvs k y) (stored vs k u):=by
 unfold jj stored;rw[r.any k];by_cases e:(vs.any λkv=>decide (kv.1=k))=true
 .rw[if_pos e,if_pos e];exact r.MS k ry
 .rw[if_neg e,if_neg e];exact Paired.snoc r ⟨rfl,ry⟩
theorem KV.keys {kvs:List (κ × V)}{vs:List (κ × ah)}(r:KV kvs vs):kvs.map (·.1)=vs.map (·.1):=by
 unfold KV at r
 induction r with
 | nil=>rfl
 | cons h t ih=>rw[ar,ar,ih,h.1]
theorem KV.length (r:KV kvs vs):kvs.length=vs.length:=Paired.length r
end
theorem qX (r:RelV (kV k) u):(eI P w).is k u=true:=by
 cases k with
 | inl i=>obtain⟨t,e⟩:=(show ∃t,u=ah.int i t from r);subst e;exact wK P w i t
 | inr x=>obtain⟨t,e⟩:=(show ∃t,u=ah.str x t from r);subst e;exact wL P w x t
theorem tV:∀{ks:List Key} {us:List ah},eg (ks.map kV) us->ItemsAre (eI P w) ks us
 | [],_,r=>by rw[bH] at r;cases r;exact .nil
 | k::ks,_,r=>by
  rw[ar] at r
  cases r with
  | cons h t=>exact .cons (qX h) (tV t)
noncomputable abbrev KT (H:Hp):List (List Key × V)->List (List Key × Addr × ah)->Prop:=Paired λp q=>p.1=q.1/\H q.2.1=some (.tup (p.1.map kV))/\RelV p.2 q.2.2
theorem KT.val {H:Hp}{kvs:List (List Key × V)}{xs:List (List Key × Addr × ah)}(r:KT H kvs xs)(k:List Key):nV (ij kvs k) ((atKey xs k).map (·.2)):=by
 induction r with
 | nil=>exact True.intro
 | @cons p q ps qs h t ih =>
  obtain⟨h1,_,h2⟩:=h;by_cases e:p.1=k
  .have e':q.1=k:=h1.symm.trans e
   have b:atKey (q::qs) k=some q.2:=by simp[atKey,bN,e']
   rw[f9 e,b];exact h2
  .have e':¬ q.1=k:=λz=>e (h1.trans z)
   have b:atKey (q::qs) k=atKey qs k:=by simp[atKey,bN,e']
   rw[f' e,b];exact ih
theorem KT.MS (r:KT H kvs xs)(k:List Key)(ry:RelV y u) :
  KT H (kvs.map λkv=>if kv.1=k then (kv.1,y) else kv) (xs.map (putAt k u)):=by
 induction r with
 | nil=>exact .nil
 | @cons p q ps qs h t ih =>
  rw[ar,ar];refine .cons ?_ ih;obtain⟨h1,h2,h3⟩:=h;unfold putAt;by_cases e:p.1=k
  .rw[if_pos e,if_pos (h1.symm.trans e)];exact⟨h1,h2,ry⟩
  .rw[if_neg e,if_neg (λz=>e (h1.trans z))];exact⟨h1,h2,h3⟩
theorem KT.put (r:KT H kvs xs)(k:List Key)(hb:H b=some (.tup (k.map kV)))(ry:RelV y u) :
  KT H (jj kvs k y) (storedH xs k b u):=by
 have e:(kvs.any λkv=>decide (kv.1=k))=(atKey xs k).isSome:=by
  rw[oh,(r.val k).kn,Option.isSome_map]
 unfold jj storedH;rw[e];by_cases q:(atKey xs k).isSome=true
 .rw[if_pos q,if_pos q];exact r.MS k ry
 .rw[if_neg q,if_neg q];exact Paired.snoc r ⟨rfl,hb,ry⟩
theorem KT.keeps (r:KT H kvs xs)(ht:∀b ys,H b=some (.tup ys)->H' b=some (.tup ys)):KT H' kvs xs :=
 Paired.LH r λ_ _ z=>⟨z.1,ht _ _ z.2.1,z.2.2⟩
section
theorem EH (ok:lD P w H h)(e:Rd H a u):fH P w H h a u:=e.ok ok
theorem qY (ok:lD P w H h)(e:Rd H a (.dK kvs)):kvs.length<=az/\(a == sysModules)=false/\∃vs,KV kvs vs/\h.DictOf (eI P w) a vs :=
 show fH P w H h a (.dK kvs) from EH ok e
theorem KP (ok:lD P w H h)(e:H a=some (.dK kvs)):kvs.length<=az/\(a == sysModules)=false/\∃vs,KV kvs vs/\h.DictOf (eI P w) a vs:=qY ok (.inl e)
theorem ny {ks:List Key}(ok:lD P w H h)(e:H a=some (.tup (ks.map kV))):(tupleKind (eI P w)).is h ks a:=by
 obtain⟨_,its,r,o,h1,h2,n,h3,_⟩:=(show fH P w H h a (.tup (ks.map kV)) from ok a _ e);exact⟨o,its.toArray,n,h1,h2,h3,by simpa using tV r⟩
theorem qZ (ok:lD P w H h)(e:Rd H a (.dT kvs)):kvs.length<=az/\(a == sysModules)=false /\
  ∃xs,KT H kvs xs/\h.DictOfH (tupleKind (eI P w)) a xs:=by
 obtain⟨z,y,xs,r,o,es,ep,h1,h2,h3,h4,h5⟩:=(show fH P w H h a (.dT kvs) from EH ok e);refine⟨z,y,xs,r,o,es,ep,h1,h2,h3,h4,λx hx=>?_,h5⟩
 have all:∀{l:List (List Key × V)} {m:List (List Key × Addr × ah)},KT H l m->∀x∈m,(tupleKind (eI P w)).is h x.1 x.2.1:=by
  intro l m q
  induction q with
  | nil=>intro x hx;exact nomatch hx
  | @cons p q ps qs hq t ih =>
   intro x hx;rcases ax.mp hx with e | hx
   .subst e
    exact ny ok (by rw[<- hq.1];exact hq.2.1)
   .exact ih x hx
 exact all r x hx
theorem KQ (ok:lD P w H h)(e:H a=some (.dT kvs)):kvs.length<=az/\(a == sysModules)=false /\
  ∃xs,KT H kvs xs/\h.DictOfH (tupleKind (eI P w)) a xs:=qZ ok (.inl e)
end
noncomputable def iS (H:Hp)(a:Addr)(y:V)(r:Option V):Prop :=
 (∃kvs k,Rd H a (.dK kvs)/\y=kV k/\r=ij kvs k)\/∃kvs k b,Rd H a (.dT kvs)/\y=.ref b/\H b=some (.tup (k.map kV))/\r=ij kvs k
noncomputable def pY (H:Hp)(a:Addr)(y v:V)(H':Hp):Prop :=
 (∃kvs k,H a=some (.dK kvs)/\y=kV k/\kvs.length<az/\H'=eM H a (.dK (jj kvs k v))) \/
 ∃kvs k b,H a=some (.dT kvs)/\y=.ref b/\H b=some (.tup (k.map kV))/\kvs.length<az/\H'=eM H a (.dT (jj kvs k v))
theorem iS.k {H:Hp}{a:Addr}{kvs:List (Key × V)}{k:Key}(e:H a=some (.dK kvs)):iS H a (kV k) (ij kvs k):=.inl ⟨kvs,k,.inl e,rfl,rfl⟩
theorem iS.t {H:Hp}{a b:Addr}{kvs:List (List Key × V)}{k:List Key}(e:H a=some (.dT kvs))(eb:H b=some (.tup (k.map kV))):iS H a (.ref b) (ij kvs k):=.inr ⟨kvs,k,b,.inl e,rfl,eb,rfl⟩
theorem pY.k {H:Hp}{a:Addr}{kvs:List (Key × V)}{k:Key}{v:V}(e:H a=some (.dK kvs))(hl:kvs.length<az):pY H a (kV k) v (eM H a (.dK (jj kvs k v))):=.inl ⟨kvs,k,e,rfl,hl,rfl⟩
theorem pY.t {H:Hp}{a b:Addr}{kvs:List (List Key × V)}{k:List Key}{v:V}(e:H a=some (.dT kvs))(eb:H b=some (.tup (k.map kV)))(hl:kvs.length<az) :
  pY H a (.ref b) v (eM H a (.dT (jj kvs k v))):=.inr ⟨kvs,k,b,e,rfl,eb,hl,rfl⟩
section
theorem Inv.big (I:Inv X pins σ H s):sysModules<s.heap.objs.size:=by
 have h:bn<s.heap.objs.size:=(I.mod.glob.keeps I.bk).lt;exact dr (!2) h
theorem CL {Q:ah->aw->Prop}(hu:A.units+1<cLine)(I:Inv X pins σ H s)(g:iS H a y (some v))(ry:RelV y u)(h:∀w' s',Inv X pins σ H s'->RelV v w'->Q w' s') :
  aG (!11) A (getItem (.ref a) u) Q E s:=by
 rcases g with⟨kvs,k,e,ey,l⟩ | ⟨kvs,k,b,e,ey,eb,l⟩
 .subst ey
  obtain⟨z,hd,vs,lh,dd⟩:=qY I.eP e;obtain⟨w',hw,kN⟩:=nV.some_of (v:=v) (o:=valueAt vs k) (by rw[l];exact lh.val k);exact wpAny_getItem_of (qX ry) dd.mapOf hw (h w' _ (I.tok _) kN)
 .subst ey
  cases (show u=ah.ref b from ry);obtain⟨z,hd,xs,lh,dd⟩:=qZ I.eP e;obtain⟨w',hw,kN⟩:=nV.some_of (v:=v) (o:=(atKey xs k).map (·.2)) (by rw[l];exact lh.val k);obtain⟨p,hp,Bn⟩:=cu.mp hw;refine wpAny_getItem_heap (tupleKind_room_in1 hu) (ny I.eP eb) dd hp ?_;rw[Bn];exact h w' _ (I.tok _) kN
theorem TM {Q:ah->aw->Prop}(hu:A.units+1<cLine)(I:Inv X pins σ H s)(g:iS H a y o)(ry:RelV y u)(h:∀s',Inv X pins σ H s'->Q (.bool o.isSome) s') :
  aG (!11) A (compareOp .In u (.ref a)) Q E s:=by
 rcases g with⟨kvs,k,e,ey,l⟩ | ⟨kvs,k,b,e,ey,eb,l⟩
 .subst ey
  obtain⟨z,hd,vs,lh,dd⟩:=qY I.eP e;refine wpAny_in_of (qX ry) hd dd.mapOf ?_;rw[<- (lh.val k).kn,<- l];exact h _ (I.tok _)
 .subst ey
  cases (show u=ah.ref b from ry);obtain⟨z,hd,xs,lh,dd⟩:=qZ I.eP e;refine wpAny_in_heap (tupleKind_room_in1 hu) (ny I.eP eb) hd dd ?_;have q:=(lh.val k).kn;rw[Option.isSome_map] at q;rw[<- q,<- l];exact h _ (I.tok _)
theorem Ir (hu:A.units+1<cLine)(I:Inv X pins σ H s)(g:iS H a y o)(ry:RelV y u)(h:∀s',Inv X pins σ H s'->Q (.bool (!o.isSome)) s') :
  aG (!11) A (compareOp .NotIn u (.ref a)) Q E s:=by
 rcases g with⟨kvs,k,e,ey,l⟩ | ⟨kvs,k,b,e,ey,eb,l⟩
 .subst ey
  obtain⟨z,hd,vs,lh,dd⟩:=qY I.eP e;refine wpAny_notIn_of (qX ry) hd dd.mapOf ?_;rw[<- (lh.val k).kn,<- l];exact h _ (I.tok _)
 .subst ey
  cases (show u=ah.ref b from ry);obtain⟨z,hd,xs,lh,dd⟩:=qZ I.eP e;refine wpAny_notIn_heap (tupleKind_room_in1 hu) (ny I.eP eb) hd dd ?_;have q:=(lh.val k).kn;rw[Option.isSome_map] at q;rw[<- q,<- l];exact h _ (I.tok _)
theorem oj {h':Heap}{t':Nat}{ob:HO}(I:Inv X pins σ H s)(mu:ON (H a))(hs:Heap.SameBut a s.heap h')(he:∃q,h'.get? a=some q)(new:fH X.prog X.w (eM H a ob) h' a ob) :
  Inv X pins σ (eM H a ob) { s with heap:=h',toks:=t' } :=
 I.write (x:=a) (e:=a) mu (.inl rfl) (λb q hb z=>(hs.2 b hb).trans z) he new
theorem EI (z:kvs.length<=az)(hd:(a == sysModules)=false)(lh:KV kvs vs)(dd:h'.DictOf (eI P w) a vs) :
  fH P w H' h' a (.dK kvs):=⟨z,hd,vs,lh,dd⟩
theorem CM {H':Hp}{Q:Unit->aw->Prop}(hu:A.units+1<cLine)(I:Inv X pins σ H s)(g:pY H a y v H')(ry:RelV y u)(rv:RelV v r)(h:∀s',Inv X pins σ H' s'->Q () s') :
  aG (!11) A (setItem (.ref a) u r) Q E s:=by
 rcases g with⟨kvs,k,e,ey,l,eH⟩ | ⟨kvs,k,b,e,ey,eb,l,eH⟩
 .subst ey eH
  obtain⟨z,hd,vs,lh,dd⟩:=KP I.eP e;have hz:vs.length<=az:=by rw[<- lh.length];exact z
  have hl:(jj kvs k v).length<=az:=by have:=lQ kvs k v;omega
  refine wpAny_setItem_pairs (hsz:=hz) (qX ry) dd λh' Iu hs=>h _ ?_;have he:∃q,h'.get? a=some q:=let ⟨q,_,_,hq,_⟩:=Iu;⟨q,hq⟩;exact oj I (by rw[e];exact True.intro) hs he (EI hl hd (lh.put k rv) Iu)
 .subst ey eH
  cases (show u=ah.ref b from ry);obtain⟨z,hd,xs,lh,dd⟩:=KQ I.eP e;have hz:xs.length<=az:=by rw[<- Paired.length lh];exact z
  have hl:(jj kvs k v).length<=az:=by have:=lQ kvs k v;omega
  refine wpAny_setItem_heap (hsz:=hz) (tupleKind_room_in1 hu) (ny I.eP eb) dd λh' Iu hs=>h _ ?_;obtain⟨q,es,ep,hq,h2,h3,h4,_,h5⟩:=Iu;refine oj I (by rw[e];exact True.intro) hs ⟨q,hq⟩ ⟨hl,hd,_,(lh.put k eb rv).keeps λc ys ec=>?_,q,es,ep,hq,h2,h3,h4,h5⟩;rw[dU (OM ec e (λz=>nomatch z))];exact ec
end
noncomputable def CN (i:Expr):Prop:=∀ov iv,subscripted i false ov iv=operate [ov,iv] (getItem ov iv)
theorem Iv {prog:aV}{w:World}{A:Around}{E:ah->aw->Prop}{s:aw}{env:Env}{value slice:Expr}{pos:Pos}{T id:String}{Q:ah->aw->Prop}
  (hl:typeLookup (.type T) "__getitem__" = pure (some (.builtin id))) (hs:CN slice)
  (h:aG (!10) A (eval value env) (λo s₁=>aG (!10) A (eval slice env) (λi s₂=>s₂.TypeIs o T/\aG (!10) A (getItem o i) Q E s₂) E s₁) E s) :
  aG (!10) A (eval (.Subscript value slice pos) env) Q E s:=by
 refine Subscript_ (ca h (λo s₁ h₁=>ca h₁ (λi s₂ h₂=>?_) λ_ _ x=>x) λ_ _ x=>x);obtain⟨hT,h₂⟩:=h₂;unfold subscriptTail;refine aa ?_;rw[getitemInPython_of_ne hT.not_modules];refine aa (wpAny_specialOf hT hl ?_)
 have fin:aG (!10) A (subscripted slice false o i) (λr s₃=>aG (!10) A (letTemporaryGo value o r >>= λ_=>pure r) Q E s₃) E s₂:=by
  rw[hs o i];exact wpAny_operating (ca h₂ (λr s₃ h₃=>aa (wpAny_letTemporaryGo (aj h₃))) λ_ _ x=>x)
 first
  | exact aj (aa fin)
  | exact aa (aj (aa fin))
  | exact aa fin
theorem xn (I:Inv X pins σ H s)(g:iS H a y o):s.TypeIs (.ref a) "dict" := by
 rcases g with⟨kvs,k,e,_,_⟩ | ⟨kvs,k,b,e,_,_,_⟩
 .obtain⟨_,_,vs,_,dd⟩:=qY I.eP e
  exact dd.typeIs
 .obtain⟨_,_,xs,_,dd⟩:=qZ I.eP e
  exact dd.typeIs
noncomputable def KR (td ty:TE):TE:=λσ H Q=>td σ H λx H1=>ty σ H1 λy H2=>∃a v,x=.ref a/\iS H2 a y (some v)/\Q v H2
noncomputable def TN (ty td:TE):TE:=λσ H Q=>ty σ H λy H1=>td σ H1 λx H2=>∃a o,x=.ref a/\iS H2 a y o/\Q (.bl o.isSome) H2
noncomputable def Iw (ty td:TE):TE:=λσ H Q=>ty σ H λy H1=>td σ H1 λx H2=>∃a o,x=.ref a/\iS H2 a y o/\Q (.bl (!o.isSome)) H2
noncomputable def KU (td ty tv:TE):TS:=λD σ H=>tv σ H λv H1=>td σ H1 λx H2=>ty σ H2 λy H3=>∃a H4,x=.ref a/\pY H3 a y v H4/\D.nx σ H4
section
theorem Iy (hu:X.A.units+1<cLine)(ho:PE X o td)(hi:PE X i ty)(hs:CN i):PE X (.Subscript o i pos) (KR td ty):=by
 rw[3];refine Iv PySem.F.slot_dict_getitem.lookup hs (fE (ho pins s σ H _ I h) λu s1 ⟨x,H1,I1,rx,q1⟩=>fE (hi pins s1 σ H1 _ I1 q1) λiv s2 ⟨y,H2,I2,ry,a,v,ex,g,q2⟩=>?_);subst ex;obtain rfl:u=ah.ref a:=rx;exact⟨xn I2 g,CL hu I2 g ry λw' s3 I3 kN=>⟨v,H2,I3,kN,q2⟩⟩
theorem EJ (hu:X.A.units+1<cLine)(hi:PE X i ty)(ho:PE X o td):PC X .In i o (TN ty td):=by
 rw[3];refine fE (hi pins s σ H _ I h) λiv s1 ⟨y,H1,I1,ry,q1⟩=>fE (ho pins s1 σ H1 _ I1 q1) λu s2 ⟨x,H2,I2,rx,a,ov,ex,g,q2⟩=>?_;subst ex;obtain rfl:u=ah.ref a:=rx;exact TM hu I2 g ry λs3 I3=>⟨.bl ov.isSome,H2,I3,rfl,q2⟩
theorem tW (hu:X.A.units+1<cLine)(hi:PE X i ty)(ho:PE X o td):PC X .NotIn i o (Iw ty td):=by
 rw[3];refine fE (hi pins s σ H _ I h) λiv s1 ⟨y,H1,I1,ry,q1⟩=>fE (ho pins s1 σ H1 _ I1 q1) λu s2 ⟨x,H2,I2,rx,a,ov,ex,g,q2⟩=>?_;subst ex;obtain rfl:u=ah.ref a:=rx;exact Ir hu I2 g ry λs3 I3=>⟨.bl (!ov.isSome),H2,I3,rfl,q2⟩
theorem Iz (hu:X.A.units+1<cLine)(ho:PE X o td)(hi:PE X i ty)(hv:PE X value tv)(hs:swapsWith value (some (.Subscript o i fX)) pos.line X.env=pure false) :
  PS X (.Assign [.Subscript o i fX] value pos) (KU td ty tv):=by
 intro pins s σ H D I h;refine wpAny_Assign_Subscript (fE (hv pins s σ H _ I h) λr s1 ⟨v,H1,I1,rv,q1⟩=>fE (ho pins s1 σ H1 _ I1 q1) λu s2 ⟨x,H2,I2,rx,q2⟩=>fE (hi pins s2 σ H2 _ I2 q2) λiv s3 ⟨y,H3,I3,ry,a,H4,ex,g,q3⟩=>?_) hs;subst ex;obtain rfl:u=ah.ref a:=rx;exact CM hu I3 g ry rv λs4 I4=>⟨σ,H4,I4,q3⟩
end
theorem xo (h:Heap)(hb:sysModules<h.objs.size):fH P w H (h.push { cls:=.type "dict",data:=.dict #[] }) h.objs.size (.dK []) :=
 ⟨bD _,beq_eq_false_iff_ne.mpr (Ne.symm (aR hb)),[],.nil,Heap.DictOf.new h⟩
theorem xp (h:Heap)(hb:sysModules<h.objs.size):fH P w H (h.push { cls:=.type "dict",data:=.dict #[] }) h.objs.size (.dT []) :=
 ⟨bD _,beq_eq_false_iff_ne.mpr (Ne.symm (aR hb)),[],.nil,_,#[],0,ay _ rfl,⟨rfl,rfl,rfl⟩,rfl,rfl,cL⟩
noncomputable def EK:TE:=λ_ H Q=>∀p,H p=none->Q (.ref p) (eM H p (.dK []))
noncomputable def EL:TE:=λ_ H Q=>∀p,H p=none->Q (.ref p) (eM H p (.dT []))
section
theorem EM:PE X (.Dict [] [] pos) EK:=λpins s σ H Q I h =>
 wpAny_Dict_empty ⟨.ref s.heap.objs.size,_,I.laid (a:=s.heap.objs.size) (o:=.dK []) (t':=s.toks) (λ_ _ q=>ak _ q) (ap _) (xo s.heap I.big),rfl,h _ (I.eP.fresh (ap _))⟩
theorem EN:PE X (.Dict [] [] pos) EL:=λpins s σ H Q I h =>
 wpAny_Dict_empty ⟨.ref s.heap.objs.size,_,I.laid (a:=s.heap.objs.size) (o:=.dT []) (t':=s.toks) (λ_ _ q=>ak _ q) (ap _) (xp s.heap I.big),rfl,h _ (I.eP.fresh (ap _))⟩
end
noncomputable def zF:List (TE × TE)->St->Hp->(List (V × V)->Hp->Prop)->Prop
 | [],_,H,Q=>Q [] H
 | (tk,tv)::r,σ,H,Q=>tk σ H λx H1=>tv σ H1 λy H2=>zF r σ H2 λps H3=>Q ((x,y)::ps) H3
noncomputable abbrev VV:List (V × V)->List (ah × ah)->Prop:=Paired λp q=>RelV p.1 q.1/\RelV p.2 q.2
noncomputable def R9 (X:Cx)(pos:Pos)(keys:List (Option Expr))(values:List Expr)(MT:List (TE × TE)):Prop :=
 ∀(pins:List (!19)) (s:aw) (σ:St) (H:Hp) (Q:List (V × V)->Hp->Prop),Inv X pins σ H s->zF MT σ H Q ->
  aG (!11) X.A (evalPairs (pairTrees keys values X.env pos)) (λvs s'=>∃ps H',Inv X pins σ H' s'/\VV ps vs/\Q ps H') X.xe s
theorem IA:R9 X pos [] [] []:=λpins s σ H Q I h=>pairTrees_nil_walk ⟨[],H,I,.nil,h⟩
theorem EO (hk:PE X k tk)(hv:PE X v tv)(hr:R9 X pos ks vs MT) :
  R9 X pos (some k::ks) (v::vs) ((tk,tv)::MT):=λpins s σ H Q I h =>
 pairTrees_cons_walk (fE (hk pins s σ H _ I h) λu s1 ⟨x,H1,I1,rx,q1⟩=>fE (hv pins s1 σ H1 _ I1 q1) λw2 s2 ⟨y,H2,I2,ry,q2⟩ =>
  fE (hr pins s2 σ H2 _ I2 q2) λws s3 ⟨ps,H3,I3,lh,q3⟩=>⟨(x,y)::ps,H3,I3,.cons ⟨rx,ry⟩ lh,q3⟩)
noncomputable def q8 (kvs more:List (Key × V)):List (Key × V):=more.foldl (λacc kv=>jj acc kv.1 kv.2) kvs
theorem KV.merge:∀{more:List (Key × V)} {rs:List (Key × ah)} {kvs:List (Key × V)} {vs:List (Key × ah)},KV more rs->KV kvs vs->KV (q8 kvs more) (merged vs rs):=by
 intro more rs kvs vs r;unfold KV at r
 induction r generalizing kvs vs with
 | nil=>intro q;exact q
 | @cons p q ps qs h t ih =>
  intro r0
  have e:KV (jj kvs p.1 p.2) (stored vs q.1 q.2):=by
   have:=r0.put p.1 h.2;rw[<- h.1];exact this
  exact ih e
theorem m7:∀(more kvs:List (Key × V)),(q8 kvs more).length<=kvs.length+more.length
 | [],kvs=>by show kvs.length<=kvs.length+0;omega
 | p::r,kvs=>by
  have h1:=m7 r (jj kvs p.1 p.2);have h2:=lQ kvs p.1 p.2;show (q8 (jj kvs p.1 p.2) r).length<=_;rw[av];omega
theorem q9:∀{kvs:List (Key × V)} {ws:List (ah × ah)},VV (kvs.map λkv=>(kV kv.1,kv.2)) ws->∃rs,Carries (eI P w) ws rs/\KV kvs rs
 | [],_,r=>by rw[bH] at r;cases r;exact⟨[],True.intro,.nil⟩
 | p::kvs,_,r=>by
  rw[ar] at r
  cases r with
  | @cons a b as bs h t =>
   obtain⟨rs,c,q⟩:=q9 (P:=P) (w:=w) t;obtain⟨b1,b2⟩:=b;exact⟨(p.1,b2)::rs,⟨qX h.1,rfl,c⟩,.cons ⟨rfl,h.2⟩ q⟩
noncomputable def Qa (MT:List (TE × TE)):TE:=λσ H Q=>∀p,H p=none->zF MT σ (eM H p (.dK [])) λps H2=>H2 p=some (.dK [])/\∃kvs:List (Key × V),ps=kvs.map (λkv=>(kV kv.1,kv.2))/\kvs.length<=15/\Q (.ref p) (eM H2 p (.dK (q8 [] kvs)))
theorem IB (h:R9 X pos keys values MT)(oZ:keys.all (·.isSome)=true)(hl:keys.length=values.length)(h0:keys≠[])
  (W2:keys.length<=15):PE X (.Dict keys values pos) (Qa MT):=by
 intro pins s σ H Q I q;have hn:=I.eP.fresh (ap s.heap.objs.size);have I1:=I.laid (a:=s.heap.objs.size) (o:=.dK []) (h':=s.heap.push { cls:=.type "dict",data:=.dict #[] }) (t':=s.toks) (λ_ _ q=>ak _ q) (ap _) (xo s.heap I.big);refine wpAny_Dict_walk (knd:=eI X.prog X.w) oZ hl h0 W2 (fE (h pins _ σ _ _ I1 (q _ hn)) λws s2 ⟨ps,H2,I2,lh,e,kvs,ep,lk,q2⟩=>?_);subst ep;obtain⟨rs,c,rk⟩:=q9 (P:=X.prog) (w:=X.w) lh;obtain⟨z,hd,Qb,r0,dd⟩:=KP I2.eP e;cases r0;refine⟨rs,c,dd,λh' Iu hs=>⟨.ref s.heap.objs.size,_,?_,rfl,q2⟩⟩
 have hz:(q8 [] kvs).length<=az:=by
  have h1:=m7 kvs [];rw[bz] at h1;rw[sizeLine_eq];omega
 have he:∃q,h'.get? s.heap.objs.size=some q:=let ⟨q,_,_,hq,_⟩:=Iu;⟨q,hq⟩;exact oj I2 (by rw[e];exact True.intro) hs he (EI hz hd (rk.merge .nil) Iu)
structure M2 (X:Cx) (o:Expr) (m:Str) (gR:Pos) (e f:Expr) (fY:Pos):Prop where
 base:attributeBase o m X.env (eval o X.env)=eval o X.env
 TQ:((backTo fY (starEach [e,f] X.env)).all (λx=>!x.1) && (backToKw fY (keywordEach [] X.env)).all (λx=>x.1.isSome)
  && decide (([e,f]:List Expr).length+([]:List Keyword).length+(if ([]:List Keyword).isEmpty then 0 else 1)<30))=true
 line:(gR.endLine == fY.line)=true
 trees:backTo fY (starEach [e,f] X.env)=[(false,eval e X.env),(false,eval f X.env)]
noncomputable def VW (H:Hp)(a:Addr):Prop:=(∃kvs,Rd H a (.dK kvs))\/∃kvs,Rd H a (.dT kvs)
theorem MU (I:Inv X pins σ H s)(d:VW H a) :
  s.TypeIs (.ref a) "dict" /\ (∀b,ah.ref a=.ref b->∃ob,s.heap.get? b=some ob/\ob.dict=none)/\(a == sysModules)=false:=by
 rcases d with⟨kvs,e⟩ | ⟨kvs,e⟩
 .obtain⟨_,hd,vs,_,dd⟩:=qY I.eP e
  refine⟨dd.typeIs,λb q=>?_,hd⟩;cases q;obtain⟨ob,_,_,h1,h2,_⟩:=dd;exact⟨ob,h1,h2.2.1⟩
 .obtain⟨_,hd,xs,_,dd⟩:=qZ I.eP e
  refine⟨dd.typeIs,λb q=>?_,hd⟩;cases q;obtain⟨ob,_,_,h1,h2,_⟩:=dd;exact⟨ob,h1,h2.2.1⟩
section
theorem MV {Q:ah->aw->Prop}(hu:A.units+1<cLine)(I:Inv X pins σ H s)(g:iS H a y o)(ry:RelV y u)(rd:RelV d r)(h:∀w' s',Inv X pins σ H s'->RelV (o.getD d) w'->Q w' s') :
  aG (!11) A (call (.builtin "dict.get") [.ref a,u,r]) Q E s:=by
 rcases g with⟨kvs,k,e,ey,l⟩ | ⟨kvs,k,b,e,ey,eb,l⟩
 .subst ey
  obtain⟨z,hd,vs,lh,dd⟩:=qY I.eP e;refine call_meetsIn PySem.F.slot_dict_get dd.typeIs PySem.F.entry_dict_get (PySem.F.args_dict_get_3 _ _ _) (meets_dict_get_default (eI X.prog X.w) a (qX ry) hd r) ⟨_,dd.mapOf,h _ _ (I.tok _) ?_⟩;rw[l];exact (lh.val k).getD rd
 .subst ey
  cases (show u=ah.ref b from ry);obtain⟨z,hd,xs,lh,dd⟩:=qZ I.eP e;refine call_meetsIn PySem.F.slot_dict_get dd.typeIs PySem.F.entry_dict_get (PySem.F.args_dict_get_3 _ _ _) (meetsH_dict_get_default (tupleKind (eI X.prog X.w)) a b hd r) ⟨tupleKind_room_in1 hu,k,xs,ny I.eP eb,dd,h _ _ (I.tok _) ?_⟩;rw[l];exact (lh.val k).getD rd
end
noncomputable def ER (td ty tx:TE):TE:=λσ H Q=>td σ H λx H1=>∃a,x=.ref a/\VW H1 a/\ty σ H1 λy H2=>tx σ H2 λz H3=>∃o,iS H3 a y o/\Q (o.getD z) H3
section
theorem ES (hu:X.A.units+1<cLine)(ho:PE X o td)(he:PE X e ty)(hf:PE X f tx)(m:M2 X o "get" gR e f fY):PE X (.Call (.Attribute o "get" gR) [e,f] [] fY) (ER td ty tx):=by
 rw[3];refine wpAny_Call_method m.base m.TQ m.line PySem.F.plainAttrs_dict PySem.F.slot_dict_get PySem.F.type_dict_get (fE (ho pins s σ H _ I h) λu s1 ⟨x,H1,I1,rx,a,ex,d,q1⟩=>?_);subst ex;obtain rfl:u=ah.ref a:=rx;obtain⟨t1,t2,_⟩:=MU I1 d;refine⟨t1,t2,?_⟩;rw[m.trees]
 refine Calls.callWith_builtin rfl (Calls.evalArgs_plain (Calls.spliced_cons (fE (he pins s1 σ H1 _ I1 q1) λiv s2 ⟨y,H2,I2,ry,q2⟩ =>
  Calls.spliced_cons (fE (hf pins s2 σ H2 _ I2 q2) λfv s3 ⟨z,H3,I3,rz,ov,g,q3⟩=>Calls.spliced_nil ?_))))
 exact MV hu I3 g ry rz λw' s4 I4 kN=>⟨_,H3,I4,kN,q3⟩
end
end L2
namespace PySem
open Sem (wp)
open AutoSeq1 (wpAny_loadPart')
theorem pZ (l b:Addr)(xs ys:Array ah)(n n2:Nat)(dd:Option Addr)(sl:Array (Option ah))(h0:¬ (!xs.isEmpty && Builtin.List.listTooLong (xs.size+ys.size))=true)(h1:xs.size<=az)(h2:(xs++ys).size<=az+1) :
  Meets (Builtin.«list.extend» ⟨[.ref l,.ref b],[]⟩) (λ_ R s=>s.heap.get? l=some { cls:=.type "list",dict:=none,data:=.seq xs n,slots:=#[] }/\s.heap.get? b=some { cls:=.type "tuple",dict:=dd,data:=.seq ys n2,slots:=sl } /\
   R (.ok (.ret ah.none)) { s with heap:=s.heap.update l (Obj.mapSeq λx=>x++ys),toks:=s.toks }) :=
 .of_wp λprog w A R s h=>by
  obtain⟨hp,g,d,tk,os⟩:=s;obtain⟨hl,hb,h⟩:=h;have f1:=AutoSeq1.idx_int
  wp_walk using (wpAny_updateSeq hl rfl (hz:=h1) (_hz':=h2)),wpAny_loadPart' hl,wpAny_loadPart' hb
  exact⟨_,rfl,h⟩
end PySem
namespace L2
open PySem PySem.Spec PyProof.Rows
section
variable {X:Cx}{o i e f value:Expr}{td ty tv tx to ti te:TE}{pos fX gR fY:Pos}
theorem xq:QE X (.Dict [] [] pos) EK:=⟨EM⟩
theorem mB (hu:X.A.units+1<cLine)(ho:QE X o td)(hi:QE X i ty)(hs:CN i):QE X (.Subscript o i pos) (KR td ty):=⟨Iy hu ho.run hi.run hs⟩
theorem xr (hu:X.A.units+1<cLine)(ho:QE X o td)(he:QE X e ty)(hf:QE X f tx)(m:M2 X o "get" gR e f fY):QE X (.Call (.Attribute o "get" gR) [e,f] [] fY) (ER td ty tx):=⟨ES hu ho.run he.run hf.run m⟩
theorem qm (hu:X.A.units+1<cLine)(ho:QE X o td)(hi:QE X i ty)(hv:QE X value tv)(hs:swapsWith value (some (.Subscript o i fX)) pos.line X.env=pure false:=by rfl):QS X (.Assign [.Subscript o i fX] value pos) (KU td ty tv):=⟨Iz hu ho.run hi.run hv.run hs⟩
noncomputable def ET (K:W.Frag):V->List V->Hp->VK->Prop:=λx vs H Q=>∃l b xs zs,x=.ref l/\vs=[.ref b]/\H l=some (.lst xs)/\iQ K H b zs/\xs.length+zs.length<=az/\Q .gC (eM H l (.lst (xs++zs)))
theorem zG (K:W.Frag)(h:X.K=K:=by rfl):Tf X "list.extend" (ET K):=by
 subst h;intro pins s σ H x vs v us Q I rx rv h;obtain⟨l,b,xs,zs,rfl,rfl,hH,hB,hz,q⟩:=h;cases rx;obtain⟨u,rfl,ru⟩:=rv.one;cases ru;obtain⟨z,its,n,r,hl,e⟩:=I.zu hH;obtain⟨mP,r2,ht,sQ⟩:=I.tuple hB;obtain⟨⟨cls,dd,data,sl⟩,ho,hc,n2,hd⟩:=id ht;simp only at hc hd;subst hc hd;have e1:=r2.length;have hsz:its.toArray.size+mP.toArray.size<=az:=by rw[aE,aE];omega
 have w4:¬ (!its.toArray.isEmpty && Builtin.List.listTooLong (its.toArray.size+mP.toArray.size))=true:=λz=>by
  rw[qT hsz,Bool.and_false] at z;cases z
 have nT:(its.toArray++mP.toArray).size<=az+1:=by rw[Array.size_append];omega
 refine call_meets F.slot_list_extend ⟨_,e,rfl⟩ F.entry_list_extend (F.args_list_extend_2 _ _) (pZ l b its.toArray mP.toArray n n2 dd sl w4 (!1) nT) ⟨e,ho,?_⟩;exact⟨.gC,_,I.My (its':=its++mP) hH e (!4) (r.append r2) (by rw[aH];exact hz),rfl,q⟩
theorem IntsAre.vq:∀{ns:List Int} {us:List ah},eg (!23) us->IntsAre us ns
 | [],us,h=>by cases h;exact .nil
 | n::ns,us,h=>by
  cases h with
  | cons r t =>
   obtain⟨tk,rfl⟩:=r;exact .cons n tk (IntsAre.vq t)
theorem eg.vt:∀{ns:List Int} {us:List ah},IntsAre us ns->eg (!23) us
 | _,_,.nil=>.nil
 | _,_,.cons n t r=>.cons ⟨t,rfl⟩ (eg.vt r)
theorem iJ (ns:List Int):∀j,j<=ns.length->preSum (λa=>ns.getD a 0) j=(ns.take j).sum
 | 0,_=>by simp[preSum]
 | j+1,h=>by
  rw[preSum,iJ ns j (!1),dc,List.sum_append];have:ns[j]? = some ns[j]:=by simp
  rw[am,this];simp
theorem kP (K:W.Frag)(hk:X.K=K:=by rfl):f6 X (.builtin "sorted") (λxs H Q=>∃(p:Addr) (ns:List Int),xs=[.ref p]/\gD K H p (!23)/\ns.length<64/\∀(l:Addr) (ms:List Int),ms.Perm ns->ms.Pairwise (·<=·)->H l=none->Q (.ref l) (eM H l (.lst (ms.map V.int)))):=by
 subst hk;intro pins s σ H xs us Q I r h;obtain⟨p,ns,rfl,hp,OA,q⟩:=h;obtain⟨u,rfl,ru⟩:=vals1 r;cases ru;obtain⟨its,rv,ht,hz⟩:=I.list hp;have hl:=rv.length;rw[ao] at hl;refine sorted_ints ht.isList (IntsAre.vq rv) (!1) λout ms h1 h2 h3=>?_;have hm:=h2.length_eq;have hv:eg (ms.map V.int) out.toList:=eg.vt h1;have hsz:(ms.map V.int).length<=az:=by rw[ao,show az=16777216 by decide];omega
 have kp:∀b o,s.heap.get? b=some o->(sortedAll s.heap its out).get? b=some o:=λb o e=>sortedAll_old e;have nw:=sortedAll_at s.heap its out;obtain⟨n,nw⟩:=nw;refine⟨.ref (s.heap.objs.size+1),_,I.laid (t':=s.toks) (o:=.lst (ms.map V.int)) kp (dv _) ⟨hsz,out.toList,n,hv,by simpa using nw⟩,rfl,q _ ms h2 h3 (I.eP.fresh (dv _))⟩
end
noncomputable def Qc (o:Obj)(a:Addr)(kvs:List (Key × V)):It :=
 ⟨λi H=>H a=some (.nj o (.dK kvs))/\i<kvs.length,λi H x H'=>H'=H/\∃k v,kvs[i]? = some (k,v)/\x=kV k,λi H=>H a=some (.nj o (.dK kvs))/\kvs.length<=i⟩
theorem IC (h:(eI P w).is k u=true):RelV (kV k) u:=by
 rcases fx (show qL k u=true from h) with⟨i,t,rfl,rfl⟩ | ⟨x,t,rfl,rfl⟩
 .exact⟨t,rfl⟩
 .exact⟨t,rfl⟩
theorem EU (I:Inv X pins σ H s)(h:H a=some (.nj o (.dK kvs)))(hd:o.data=.dict es ep) :
  (a == sysModules)=false/\∃vs,KV kvs vs/\s.heap.DictAt (eI X.prog X.w) a vs ep:=by
 obtain⟨e,z,y,vs,r,ob,tE,LM,e',c,d,k,p,n⟩:=I.eP a _ h;rw[e] at e';cases e';rw[hd] at d;cases d;exact⟨y,vs,r,o,es,e,c,hd,k,p,n⟩
theorem Qd {kvs:List (Key × V)}{vs:List (Key × ah)}(r:KV kvs vs){i:Nat}{k:Key}{v:V}(h:kvs[i]? = some (k,v)):∃u,vs[i]? = some (k,u):=by
 have hk:=r.keys;have hl:=r.length;have hi:i<kvs.length:=(aA.mp h).1;have Bm:i<vs.length:=by omega
 have e1:(kvs.map (·.1))[i]? = some k:=by rw[aB,h];rfl
 have e2:vs[i]? = some vs[i]:=by simp[Bm]
 rw[hk,aB,e2] at e1;have e3:vs[i].1=k:=Option.some.inj e1;refine⟨vs[i].2,?_⟩;rw[e2,<- e3]
theorem CO {P:aV}{w:World}{K:W.Frag}{tg:Expr}(a it:Addr){o:Obj}{kvs:List (Key × V)}{es:Array DictEntry}{ep:Nat}(hd:o.data=.dict es ep):wW P w K tg (Qc o a kvs) [it] it (λi h=>h.IsKeyIter it a i kvs.length ep) where
 mem:=by simp
 obj:=λi h st b hb=>by
  have e:b=it:=by simpa using hb
  subst e;obtain⟨o,e,c,d⟩:=st;exact⟨o,e,λv z=>by rw[d] at z;cases z⟩
 keep:=λi h h' st k=>st.at λo e=>k it (!4) o e
 item:=by
  intro X hP hw hK hc i pins s σ H E I hf st hg;subst hP hw hK;obtain⟨hg,hi⟩:=hg;obtain⟨_,vs,r,da⟩:=EU I hg hd;have hx:kvs[i]? = some kvs[i]:=by simp[hi]
  obtain⟨u,hu⟩:=Qd r (k:=kvs[i].1) (v:=kvs[i].2) hx;obtain⟨f0,f1,f2,f3,f4,f5⟩:=hf it (!4);have hl:=r.length;rw[hl] at st;refine wpAny_pyNext_dict_item st da hu λkey h' Mf eK sb=>?_;have I1:Inv X pins σ H { s with heap:=h' }:=I.turned (t':=s.toks) (λb o hb e=>(sb.2 b hb).trans e) f0 f1 f3 f4 f5;obtain⟨o',e,c,d⟩:=id eK;exact⟨key,rfl,wX (s:={ s with heap:=h' }) e c d (!2) ⟨kV kvs[i].1,H,I1,IC Mf,⟨rfl,_,_,hx,rfl⟩,by rw[hl];exact eK,λb hb=>(hf b hb).1⟩⟩
 done:=by
  intro X hP hw hK hc i pins s σ H E I hf st hg;subst hP hw hK;obtain⟨hg,hi⟩:=hg;obtain⟨_,vs,r,da⟩:=EU I hg hd;obtain⟨f0,f1,f2,f3,f4,f5⟩:=hf it (!4);have hl:=r.length;rw[hl] at st;exact wpAny_pyNext_dict_end (I.ok.hd hc) st da (by simp;omega) λh' eb=>⟨rfl,I.turned (t':=s.toks) (λb o hb e=>eb b o hb e) f0 f1 f3 f4 f5⟩
 self:=λ_ _ _ _ _ st h=>wpAny_pyIter_keyiter st h
section
variable {X:Cx}{tg:Expr}
theorem Inv.freeze {pins:List (!19)}{s:aw}{σ:St}{H:Hp}{a:Addr}{kvs:List (Key × V)}(I:Inv X pins σ H s)(h:H a=some (.dK kvs)) :
  ∃o es ep,o.data=.dict es ep/\Inv X pins σ (eM H a (.nj o (.dK kvs))) s/\(a == sysModules)=false/\∃vs,KV kvs vs/\s.heap.DictAt (eI X.prog X.w) a vs ep:=by
 obtain⟨z,y,vs,r,o,es,ep,e,c,d,k,p,n⟩:=I.eP a _ h;refine⟨o,es,ep,d,?_,y,vs,r,o,es,e,c,d,k,p,n⟩;have:=I.write (x:=a) (e:=a) (h':=s.heap) (t':=s.toks) (o:=.nj o (.dK kvs)) (by rw[h];exact trivial) (.inl rfl) (λb u _ q=>q) ⟨o,e⟩ ⟨e,z,y,vs,r,o,es,ep,e,c,d,k,p,n⟩;exact this
noncomputable def Qe (tl:TE):TI:=λσ H R=>tl σ H λx H1=>∃a kvs,x=.ref a/\H1 a=some (.dK kvs)/\∀o,R (Qc o a kvs) (eM H1 a (.nj o (.dK kvs)))
theorem Bo {l:Expr}{tl:TE}(hl:QE X l tl):QI X tg l (Qe tl):=by
 refine⟨λpins s σ H R I h=>?_⟩;refine fE (hl.run pins s σ H _ I h) λv s1 ⟨x,H1,I1,r1,q1⟩=>?_;obtain⟨a,kvs,e,ha,q⟩:=q1;subst e;cases r1;obtain⟨o,es,ep,hd,I2,hy,vs,lh,da⟩:=I1.freeze ha;refine wpAny_pyIter_dict hy da ?_;have hlen:=lh.length;refine⟨s1.heap.objs.size,[s1.heap.objs.size],_,_,_,rfl,I2.kept (t':=s1.toks) λb o e=>ak _ e,CO a _ hd,⟨_,ay _ rfl,rfl,by rw[hlen];rfl⟩,λb hb=>?_,q o⟩;have e:b=s1.heap.objs.size:=by simpa using hb
 subst e;exact I2.oW (ap _) (I2.eP.fresh (ap _))
theorem tX {mp:List (Option Nat)}{g:TG}{tc:TT}{te:TE}{σ:St}{H:Hp}{R:List V->Hp->Prop}{o:Obj}{a:Addr}{kvs:List (Key × V)}(Pv:Nat->List V->St->Hp->Prop)(h0:Pv 0 [] (lK mp σ) H)
  (hl:∀i ys σ' H',Pv i ys σ' H'->H' a=some (.nj o (.dK kvs)))
  (hs:∀i k v ys σ' H',kvs[i]? = some (k,v)->Pv i ys σ' H'->ys.length<az/\g (kV k) σ' H' λσ2 H2=>tc σ2 H2 λb H3=>if b=true then te σ2 H3 λy H4=>Pv (i+1) (ys++[y]) σ2 H4 else Pv (i+1) ys σ2 H3)
  (hd:∀ys σ' H',Pv kvs.length ys σ' H'->ys.length<=az/\R ys H') :
  ∃W:Nat->Nat->List V->St->Hp->Prop,(∃m,W 0 m [] (lK mp σ) H)/\∀i m ys σ' H',W i m ys σ' H' ->
   ((Qc o a kvs).stop i H'/\ys.length<=az/\R ys H') \/
   ((Qc o a kvs).go i H'/\ys.length<az/\∀x Oy,(Qc o a kvs).G3 i H' x Oy->g x σ' Oy λσ2 H2=>tc σ2 H2 λb H3 =>
    if b=true then te σ2 H3 λy H4=>∃m',m' < m/\W (i+1) m' (ys++[y]) σ2 H4 else ∃m',m' < m/\W (i+1) m' ys σ2 H3):=by
 refine⟨λi m ys σ H=>m=kvs.length - i/\i<=kvs.length/\Pv i ys σ H,⟨kvs.length,!4,bD _,h0⟩,?_⟩;rintro i m ys σ' H' ⟨rfl,hi,p⟩;have q0:=hl i ys σ' H' p;by_cases gh:i<kvs.length
 .have e:∀ys σ H,(∃m',m' < kvs.length - i/\m'=kvs.length - (i+1)/\i+1<=kvs.length/\Pv (i+1) ys σ H)=Pv (i+1) ys σ H:=λys σ H=>propext ⟨λ⟨_,_,_,_,z⟩=>z,λz=>⟨_,!1,rfl,gh,z⟩⟩
  have hx:kvs[i]? = some kvs[i]:=by simp[gh]
  refine .inr ⟨⟨q0,gh⟩,(hs i kvs[i].1 kvs[i].2 ys σ' H' hx p).1,λx Oy y=>?_⟩;obtain⟨e1,k,v,hk,ex⟩:=y;subst e1 ex;simp only[e];exact (hs i k v ys σ' _ hk p).2
 .have e:i=kvs.length:=by omega
  subst e;obtain⟨hl',q⟩:=hd ys σ' H' p;exact .inl ⟨⟨q0,ap _⟩,hl',q⟩
end
end L2
namespace PySem
open Sem (wp)
end PySem
namespace L2
open PySem PySem.Spec PyProof.Rows
section
variable {X:Cx}
theorem Bp:∀{xs:List V} {us:List ah},xs.length=us.length->(∀(i:Nat) (x:V) (u:ah),xs[i]? = some x->us[i]? = some u->RelV x u)->eg xs us
 | [],[],_,_=>.nil
 | x::xs,u::us,h,f=>.cons (f 0 x u rfl rfl) (Bp (by simpa using h) λi y w h1 h2=>f (i+1) y w (by simpa using h1) (by simpa using h2))
 | [],_::_,h,_=>by cases h
 | _::_,[],h,_=>by cases h
end
end L2
namespace PySem
open Sem (wp)
open AutoSeq1 (wpAny_loadPart')
section
theorem zH {it t:Addr}{i:Nat}{xs:Array ah}{x:ah}{Q:ah->aw->Prop}(hi:s.heap.IsTupleIter it t i)(ht:s.heap.IsTuple t xs)(hx:xs[i]? = some x)
  (q:∀h',h'.IsTupleIter it t (i+1)->Heap.SameBut it s.heap h'->Q x { s with heap:=h' }):aG (!10) A (Builtin.SmallTypes.nextOf (.ref it)) Q E s:=by
 obtain⟨ob,e1,c1,d1⟩:=id hi;obtain⟨ot,e2,_,n2,d2⟩:=ht;have nn:¬ ((ah.ref t == ah.none)=true):=aX;unfold Builtin.SmallTypes.nextOf;refine aa (wpAny_callSpecial?_slot (name:=Str.ofString "__next__") hi.typeIs F.slot_tuple_iterator_next (wpAny_call_entry F.slot_tuple_iterator_next hi.typeIs F.entry_tuple_iterator_next ?_ (F.args_tuple_iterator_next_1 _)));show aG _ _ (field (.ref it) 0 >>= _) _ _ _;refine aa (wpAny_field e1 d1 (x:=.ref t) rfl ?_);show aG _ _ (if (ah.ref t == ah.none)=true then _ else _) _ _ _;rw[if_neg nn];show aG _ _ (field (.ref it) 1 >>= _) _ _ _;refine aa (wpAny_field e1 d1 (x:=.int i 0) rfl (aa (wpAny_seqItems e2 d2 ?_)));simp only[bQ,hx];refine aa (wpAny_setField e1 d1 (!4) (aj ⟨x,rfl,aj (q _ ?_ (Heap.SameBut.update ..))⟩));refine⟨_,aT _ e1 (Obj.isFreed_of_fields (Obj.data_mapFields d1 _)),(Obj.cls_mapFields ..).trans c1,?_⟩;rw[Obj.data_mapFields d1];simp[rawInt]
theorem CP (hh:A.handled=none)(hi:s.heap.IsTupleIter it t i)(ht:s.heap.IsTuple t xs)(hx:xs[i]? = none)
  (q:∀h' e,Heap.ExtBut it s.heap h'->(∃o,h'.get? e=some o/\o.cls=.type "StopIteration")->E (.ref e) { s with heap:=h' }):aG (!10) A (Builtin.SmallTypes.nextOf (.ref it)) Q E s:=by
 obtain⟨ob,e1,c1,d1⟩:=id hi;obtain⟨ot,e2,_,n2,d2⟩:=ht;have nn:¬ ((ah.ref t == ah.none)=true):=aX;unfold Builtin.SmallTypes.nextOf;refine aa (wpAny_callSpecial?_slot (name:=Str.ofString "__next__") hi.typeIs F.slot_tuple_iterator_next (wpAny_call_entry F.slot_tuple_iterator_next hi.typeIs F.entry_tuple_iterator_next ?_ (F.args_tuple_iterator_next_1 _)));show aG _ _ (field (.ref it) 0 >>= _) _ _ _;refine aa (wpAny_field e1 d1 (x:=.ref t) rfl ?_);show aG _ _ (if (ah.ref t == ah.none)=true then _ else _) _ _ _;rw[if_neg nn];show aG _ _ (field (.ref it) 1 >>= _) _ _ _;refine aa (wpAny_field e1 d1 (x:=.int i 0) rfl (aa (wpAny_seqItems e2 d2 ?_)));simp only[bQ,hx];refine aa (wpAny_rule (aa (wpAny_setField e1 d1 (!4) (aa ?_))));simp only[newExc,newTuple];refine aa (aY (aa (m:=firstArgMember _ _) (wpAny_of_eq (a:=ah.none) (by first | rfl | (simp only[firstArgMember];rfl)) (aY ?_ (by size_fits)))) (by size_fits));simp only[raiseNew];refine aa (wpAny_handled ?_);first | rw[show A.in1.handled=none from hh] | rw[hh]
 exact aa (aj (wpAny_throw (q _ _ (((Heap.SameBut.update ..).extBut.push _).push _) ⟨_,ay _ rfl,rfl⟩)))
theorem zI {e it t:Addr}{i:Nat}{xs:Array ah}{x old:ah}{Q:ah->aw->Prop}(he:IsEnum s.heap e it i old)(hi:s.heap.IsTupleIter it t i)(ht:s.heap.IsTuple t xs)(hx:xs[i]? = some x)(hV:e≠it)
  (q:∀h',IsEnumOut h' e it ((i:Int)+1) x s.heap.objs.size->h'.IsTupleIter it t (i+1)->h'.get? s.heap.objs.size=some { cls:=.type "tuple",data:=.seq #[.int i s.toks,x] } ->
   (∀b o,b≠e->b≠it->s.heap.get? b=some o->h'.get? b=some o)->Q (!14) { s with heap:=h',toks:=s.toks+1 }) :
  aG (!10) A (Builtin.«enumerate.__next__» ⟨[.ref e],[]⟩) (λfin s'=>∃v,fin=.done (.ret v)/\Q v s') E s:=by
 obtain⟨hp,g,d,tk,os⟩:=s;show aG _ _ (field (.ref e) 2 >>= _) _ _ _;refine aa (wpAny_field he rfl (x:=.ref it) rfl (aa (zH hi ht hx λk1 i1 (b1:Heap.SameBut it hp k1)=>?_)));have e1:IsEnum k1 e it i old:=(b1.2 e hV).trans he;refine aa (wpAny_field e1 rfl (x:=rawInt i) rfl (aa (wpAny_field e1 rfl (x:=.none) rfl ?_)));show aG _ _ (mkInt i >>= _) _ _ ⟨k1,g,d,tk,os⟩;refine aa (wpAny_mkInt (aa (wpAny_setField_rec (x:=rawInt ((i:Int)+1)) e1 (!4) λk2 e2 b2=>?_)));replace b2:Heap.SameBut e k1 k2:=b2;replace e2:IsEnum k2 e it ((i:Int)+1) old:=e2;refine aa (wpAny_setField_rec (x:=.none) e2 (!4) λk3 e3 b3=>?_);replace b3:Heap.SameBut e k2 k3:=b3;replace e3:IsEnum k3 e it ((i:Int)+1) old:=e3;show aG _ _ (newTuple [.int i tk,x] >>= _) _ _ ⟨k3,g,d,tk+1,os⟩;refine aa (wpAny_newTuple ?_);have sz:k3.objs.size=hp.objs.size:=by rw[b3.1,b2.1,b1.1]
 have el:hp.objs.size≠e:=bB (aD he);have e4:IsEnum (k3.push { cls:=.type "tuple",data:=.seq #[.int i tk,x] }) e it ((i:Int)+1) old:=ak _ e3;have t4:(k3.push { cls:=.type "tuple",data:=.seq #[.int i tk,x] }).get? hp.objs.size=some { cls:=.type "tuple",data:=.seq #[.int i tk,x] }:=by rw[<- sz];exact ay _ rfl
 have Qf:∀b o,b≠e->b≠it->hp.get? b=some o->(k3.push { cls:=.type "tuple",data:=.seq #[.int i tk,x] }).get? b=some o:=λb o h1 h2 h3=>ak _ (b3.extBut b o h1 (b2.extBut b o h1 (b1.extBut b o h2 h3)))
 have i4:(k3.push { cls:=.type "tuple",data:=.seq #[.int i tk,x] }).IsTupleIter it t (i+1):=by
  obtain⟨o,ho,r⟩:=i1;exact⟨o,ak _ (b3.extBut it o (Ne.symm hV) (b2.extBut it o (Ne.symm hV) ho)),r⟩
 rw[sz];generalize k3.push { cls:=.type "tuple",data:=.seq #[.int i tk,x] }=k4 at e4 t4 Qf i4 ⊢;show aG _ _ (Builtin.SmallTypes.ownedTupleIsFree (.ref e) >>= _) _ _ ⟨k4,g,d,tk+1,os⟩;refine aa ?_;unfold Builtin.SmallTypes.ownedTupleIsFree;refine aa (wpAny_field e4 rfl (x:=.none) rfl (aj ?_));simp only[if_true];refine aa (wpAny_rule (aa (wpAny_field e4 rfl (x:=old) rfl (aa (wpAny_setField_rec (x:=x) e4 (!4) λk5 e5 b5=>?_)))));replace b5:Heap.SameBut e k4 k5:=b5;replace e5:IsEnum k5 e it ((i:Int)+1) x:=e5;show aG _ _ (Builtin.SmallTypes.ownedTupleHandOut (.ref e) (.ref hp.objs.size) >>= _) _ _ ⟨k5,g,d,tk+1,os⟩;refine aa ?_;unfold Builtin.SmallTypes.ownedTupleHandOut;refine aa (wpAny_setField_rec (x:=rawInt (hp.objs.size:Nat)) e5 (!4) λk6 e6 b6=>?_);replace b6:Heap.SameBut e k5 k6:=b6;replace e6:IsEnumOut k6 e it ((i:Int)+1) x hp.objs.size:=e6;refine wpAny_setField_rec e6 (!4) λk7 e7 b7=>?_;replace b7:Heap.SameBut e k6 k7:=b7;have MW:∀b o,b≠e->k4.get? b=some o->k7.get? b=some o:=λb o h1 h2=>b7.extBut b o h1 (b6.extBut b o h1 (b5.extBut b o h1 h2));refine aa (wpAny_letGo (aj ⟨_,rfl,q k7 e7 ?_ (MW _ _ el t4) λb o h1 h2 h3=>MW b o h1 (Qf b o h1 h2 h3)⟩));obtain⟨o,ho,r⟩:=i4;exact⟨o,MW it o (Ne.symm hV) ho,r⟩
theorem vv {e it t:Addr}{i:Nat}{xs:Array ah}{x old:ah}{Q:Option ah->aw->Prop}(he:IsEnum s.heap e it i old)(hi:s.heap.IsTupleIter it t i)(ht:s.heap.IsTuple t xs)(hx:xs[i]? = some x)(hV:e≠it)
  (q:∀h',IsEnumOut h' e it ((i:Int)+1) x s.heap.objs.size->h'.IsTupleIter it t (i+1)->h'.get? s.heap.objs.size=some { cls:=.type "tuple",data:=.seq #[.int i s.toks,x] } ->
   (∀b o,b≠e->b≠it->s.heap.get? b=some o->h'.get? b=some o)->Q (some (!14)) { s with heap:=h',toks:=s.toks+1 }) :
  aG (!10) A (pyNext (.ref e)) Q E s:=by
 have ty:s.TypeIs (.ref e) "enumerate" := ⟨_,he,rfl⟩;unfold pyNext;refine aa (wpAny_attempt (wpAny_callSpecial?_slot (name:=Str.ofString "__next__") ty F.slot_enumerate_next (wpAny_call_entry F.slot_enumerate_next ty F.entry_enumerate_next ?_ (F.args_enumerate_next_1 _))));exact zI he hi ht hx hV λh' a b c k=>aj (q h' a b c k)
theorem o3 {e it t:Addr}{i:Nat}{xs:Array ah}{old:ah}{Q:Option ah->aw->Prop}(hh:A.handled=none)(he:IsEnum s.heap e it i old)(hi:s.heap.IsTupleIter it t i)(ht:s.heap.IsTuple t xs)(hx:xs[i]? = none)
  (q:∀h',Heap.ExtBut it s.heap h'->Q none { s with heap:=h' }):aG (!10) A (pyNext (.ref e)) Q E s:=by
 have ty:s.TypeIs (.ref e) "enumerate" := ⟨_,he,rfl⟩;unfold pyNext;refine aa (wpAny_attempt (wpAny_callSpecial?_slot (name:=Str.ofString "__next__") ty F.slot_enumerate_next (wpAny_call_entry F.slot_enumerate_next ty F.entry_enumerate_next ?_ (F.args_enumerate_next_1 _))));show aG _ _ (field (.ref e) 2 >>= _) _ _ _;refine aa (wpAny_field he rfl (x:=.ref it) rfl (aa (CP hh hi ht hx λh' x ex ⟨o,ho,hc⟩=>?_)));exact aa (wpAny_isInstance (T := "StopIteration") (b:=true) ⟨o,ho,hc⟩ isSubtype_stop (aj (q _ ex)))
theorem CQ (l:Addr)(items:Array ah)(n:Nat)(Oz:Option Addr)(sl:Array (Option ah)) :
  Meets (Builtin.«enumerate.__new__» ⟨[.type "enumerate",.ref l],[]⟩) (λ_ R s=>s.heap.get? l=some { cls:=.type "tuple",dict:=Oz,data:=.seq items n,slots:=sl } /\
   R (.ok (.ret (.ref (s.heap.push { cls:=.type "tuple_iterator",data:=.fields #[.ref l,.int 0 0] }).objs.size)))
    { s with heap:=(s.heap.push { cls:=.type "tuple_iterator",data:=.fields #[.ref l,.int 0 0] }).push { cls:=.type "enumerate",data:=.fields #[.none,.bool false,.ref s.heap.objs.size,rawInt 0,.none,.none] } }) :=
 .of_wp λprog w A R s h=>by
  obtain⟨hp,g,d,tk,os⟩:=s;obtain⟨hl,h⟩:=h;have ID:=sub_enumerate;have OB:Heap.IsTuple (aw.heap ⟨hp,g,d,tk,os⟩) l items:=⟨_,hl,rfl,n,rfl⟩
  wp_walk using wpAny_loadPart' hl
  refine wpAny_stack_any λ_=>aj ?_;split
  .rename_i c _ _ _ _ _
   cases (c == ah.type "enumerate")<;>(wp_walk using wpAny_loadPart' hl,wpAny_pyIter_tuple OB;exact⟨_,rfl,h⟩)
  .wp_walk using wpAny_loadPart' hl,wpAny_pyIter_tuple OB
   exact⟨_,rfl,h⟩
theorem zJ (ht:s.heap.IsTuple l items)
  (q:∀h',IsEnum h' (s.heap.objs.size+1) s.heap.objs.size 0 .none->h'.IsTupleIter s.heap.objs.size l 0->h'.objs.size=s.heap.objs.size+2->(∀b o,s.heap.get? b=some o->h'.get? b=some o)->Q (.ref (s.heap.objs.size+1)) { s with heap:=h' }) :
  aG (!10) A (call (.type "enumerate") [.ref l]) Q E s:=by
 obtain⟨⟨c,Oz,dt,sl⟩,hl,hc,n,hd⟩:=ht;replace hc:c=.type "tuple" := hc;replace hd:dt=.seq items n:=hd;subst hc hd;refine callType_new F.called_enumerate (!2) (F.typeCall_enumerate_1 _) (F.newCall_enumerate_1 _) (λobj=>F.args_object_init_2 obj _) F.entry_enumerate_new (CQ l items n Oz sl) ⟨hl,?_⟩;have z1:(s.heap.push { cls:=.type "tuple_iterator",data:=.fields #[.ref l,.int 0 0] }).objs.size=s.heap.objs.size+1:=bV ..;have g1:=ay (s.heap.push { cls:=.type "tuple_iterator",data:=.fields #[.ref l,.int 0 0] }) (o:={ cls:=.type "enumerate",data:=.fields #[.none,.bool false,.ref s.heap.objs.size,rawInt 0,.none,.none] }) rfl;rw[z1] at g1;show _/\_;rw[z1];exact⟨⟨_,g1,rfl⟩,q _ g1 ⟨_,ak _ (ay _ rfl),rfl,rfl⟩ (by rw[bV,z1]) λb o x=>ak _ (ak _ x)⟩
end
end PySem
namespace L2
open PySem PySem.Spec PyProof.Rows
noncomputable def Qg (K:W.Frag)(a:Addr):It :=
 ⟨λi H=>∃xs x,iQ K H a xs/\xs[i]? = some x,λi H x H'=>∃T xi,x=.ref T/\H T=none/\H'=eM H T (.tup [.int (i:Nat),xi])/\∀xs,iQ K H a xs->xs[i]? = some xi,λi H=>∃xs,iQ K H a xs/\xs.length<=i⟩
theorem zK {P:aV}{w:World}{K:W.Frag}{xt:List Expr}{k:Nat}{pos:Pos}(a e it:Addr)(hV:e≠it):wW P w K (.Tuple xt k pos) (Qg K a) [e,it] e (λi h=>(∃old,IsEnum h e it (i:Nat) old)/\h.IsTupleIter it a i) where
 mem:=by simp
 obj:=λi h st b hb=>by
  obtain⟨⟨old,he⟩,o,ho,hc,hd⟩:=st;rcases ax.mp hb with z | z
  .subst z
   exact⟨_,he,λv z=>by cases z⟩
  .have z':b=it:=by simpa using z
   subst z';exact⟨o,ho,λv z=>by rw[hd] at z;cases z⟩
 keep:=λi h h' st kp=>by
  obtain⟨⟨old,he⟩,hi⟩:=st;exact⟨⟨old,kp e (!4) _ he⟩,hi.at λo q=>kp it (!4) o q⟩
 item:=by
  intro X hP hw hK hc i pins s σ H E I hf st hg;subst hP hw hK;obtain⟨⟨old,he⟩,hi⟩:=st;obtain⟨xs,x,hq,hx⟩:=hg;obtain⟨its,rv,p,hz⟩:=I.tuple hq;obtain⟨u,hu,ru⟩:=rv.get hx;refine vv he hi (show s.heap.IsTuple a its.toArray from p) (x:=u) (by simpa using hu) hV λh1 eo i1 t1 kp=>⟨_,rfl,wpAny_letOwnedTupleGo_enum eo λh2 en sb=>?_⟩;have oU:e<s.heap.objs.size:=aD he;have TR:it<s.heap.objs.size:=by obtain⟨_,q,_⟩:=hi;exact aD q
  have MX:∀b o,b≠e->b≠it->s.heap.get? b=some o->h2.get? b=some o:=λb o n1 n2 q=>(sb.2 b n1).trans (kp b o n1 n2 q);have i2:h2.IsTupleIter it a (i+1):=i1.at λo q=>(sb.2 it (Ne.symm hV)).trans q;have t2:h2.get? s.heap.objs.size=some { cls:=.type "tuple",data:=.seq #[.int i s.toks,u] }:=(sb.2 _ (bB oU)).trans t1;obtain⟨f0,f1,f2,f3,f4,f5⟩:=hf it (!4);obtain⟨g0,g1,g2,g3,g4,g5⟩:=hf e (!4);obtain⟨oi,TU,W3,TV⟩:=id i2;obtain⟨o0,TX,_⟩:=id hi;have m1:(s.heap.update it λ_=>oi).get? it=some oi:=aT (λ_=>oi) TX (Obj.isFreed_of_fields TV);have I1:Inv X pins σ H { s with heap:=s.heap.update it λ_=>oi,toks:=s.toks+1 }:=I.turned (λb o hb q=>(aI _ _ (Ne.symm hb)).trans q) f0 f1 f3 f4 f5
  have TY:∀b o,b≠e->(s.heap.update it λ_=>oi).get? b=some o->h2.get? b=some o:=λb o hb q=>by
   by_cases MY:b=it
   .subst MY
    rw[m1] at q;cases q;exact TU
   .exact MX b o hb MY ((aI _ _ (Ne.symm MY)).symm.trans q)
  have I2:Inv X pins σ H { s with heap:=h2,toks:=s.toks+1 }:=Inv.turned (s:={ s with heap:=s.heap.update it λ_=>oi,toks:=s.toks+1 }) (h':=h2) (t':=s.toks+1) I1 TY g0 g1 g3 g4 g5;obtain⟨p0,p1,p2,p3,p4,p5⟩:=I.oW (ap s.heap.objs.size) (I.eP.fresh (ap _))
  have I3:Inv X pins σ (eM H s.heap.objs.size (.tup [.int (i:Nat),x])) { s with heap:=h2,toks:=s.toks+1 } :=
   I2.Be (o:=.tup [.int (i:Nat),x]) t2 p0 p1 p3 p4 p5 ⟨by show 2<=az;decide,[.int i s.toks,u],.cons ⟨_,rfl⟩ (.cons ru .nil),⟨_,t2,rfl,_,rfl,rfl⟩⟩
  refine⟨.ref s.heap.objs.size,_,I3,rfl,⟨_,x,rfl,p0,rfl,λys hy=>by rw[I.tG hy hq];exact hx⟩,⟨⟨u,by simpa using en⟩,i2⟩,λb hb=>?_⟩
  have Qh:b≠s.heap.objs.size:=by
   rcases ax.mp hb with z | z
   .rw[z];exact aR oU
   .have z':b=it:=by simpa using z
    rw[z'];exact aR TR
  rw[dU Qh];exact (hf b hb).1
 done:=by
  intro X hP hw hK hc i pins s σ H E I hf st hg;subst hP hw hK;obtain⟨⟨old,he⟩,hi⟩:=st;obtain⟨xs,hq,hx⟩:=hg;obtain⟨its,rv,p,hz⟩:=I.tuple hq;obtain⟨f0,f1,f2,f3,f4,f5⟩:=hf it (!4);have hl:=rv.length;exact o3 (I.ok.hd hc) he hi (show s.heap.IsTuple a its.toArray from p) (by simp;omega) λh' eb=>⟨rfl,I.turned (t':=s.toks) (λb o hb q=>eb b o hb q) f0 f1 f3 f4 f5⟩
 self:=λ_ _ _ _ _ st h=>by
  obtain⟨⟨old,he⟩,_⟩:=st;exact wpAny_pyIter_enum he h
end L2
namespace PySem
namespace SetTable
noncomputable def Good (b:Bool)(t:SetTable):Prop:=t.led=b/\(t.plain=true->t.place.toList.Pairwise (· < ·))
end SetTable
end PySem
namespace PySem
open Sem (wp)
open PyProof.Rows
open PyProof.Rows
open PyProof.Rows
open PyProof.Rows
open PyProof.Rows
end PySem
namespace L2
open PySem PySem.Spec PyProof.Rows
noncomputable def Qi (K:W.Frag)(a:Addr):It :=
 ⟨λi H=>∃xs x,gD K H a xs/\xs[i]? = some x,λi H x H'=>∃T xi,x=.ref T/\H T=none/\H'=eM H T (.tup [.int (i:Nat),xi])/\∀xs,gD K H a xs->xs[i]? = some xi,λi H=>∃xs,gD K H a xs/\xs.length<=i⟩
theorem zL {P:aV}{w:World}{K:W.Frag}{xt:List Expr}{k:Nat}{pos:Pos}(a e it:Addr)(hV:e≠it):wW P w K (.Tuple xt k pos) (Qi K a) [e,it] e (λi h=>(∃old,IsEnum h e it (i:Nat) old)/\h.IsListIter it a i) where
 mem:=by simp
 obj:=λi h st b hb=>by
  obtain⟨⟨old,he⟩,o,ho,hc,hd⟩:=st;rcases ax.mp hb with z | z
  .subst z
   exact⟨_,he,λv z=>by cases z⟩
  .have z':b=it:=by simpa using z
   subst z';exact⟨o,ho,λv z=>by rw[hd] at z;cases z⟩
 keep:=λi h h' st kp=>by
  obtain⟨⟨old,he⟩,hi⟩:=st;exact⟨⟨old,kp e (!4) _ he⟩,hi.at λo q=>kp it (!4) o q⟩
 item:=by
  intro X hP hw hK hc i pins s σ H E I hf st hg;subst hP hw hK;obtain⟨⟨old,he⟩,hi⟩:=st;obtain⟨xs,x,hq,hx⟩:=hg;obtain⟨its,rv,p,hz⟩:=I.list hq;obtain⟨u,hu,ru⟩:=rv.get hx;refine wpAny_pyNext_enum_item he hi p.isList (x:=u) (by simpa using hu) hV λh1 eo i1 t1 _ kp=>⟨_,rfl,wpAny_letOwnedTupleGo_enum eo λh2 en sb=>?_⟩;have oU:e<s.heap.objs.size:=aD he;have TR:it<s.heap.objs.size:=by obtain⟨_,q,_⟩:=hi;exact aD q
  have MX:∀b o,b≠e->b≠it->s.heap.get? b=some o->h2.get? b=some o:=λb o n1 n2 q=>(sb.2 b n1).trans (kp b o n1 n2 q);have i2:h2.IsListIter it a (i+1):=i1.at λo q=>(sb.2 it (Ne.symm hV)).trans q;have t2:h2.get? s.heap.objs.size=some { cls:=.type "tuple",data:=.seq #[.int i s.toks,u] }:=(sb.2 _ (bB oU)).trans t1;obtain⟨f0,f1,f2,f3,f4,f5⟩:=hf it (!4);obtain⟨g0,g1,g2,g3,g4,g5⟩:=hf e (!4);obtain⟨oi,TU,W3,TV⟩:=id i2;obtain⟨o0,TX,_⟩:=id hi;have m1:(s.heap.update it λ_=>oi).get? it=some oi:=aT (λ_=>oi) TX (Obj.isFreed_of_fields TV);have I1:Inv X pins σ H { s with heap:=s.heap.update it λ_=>oi,toks:=s.toks+1 }:=I.turned (λb o hb q=>(aI _ _ (Ne.symm hb)).trans q) f0 f1 f3 f4 f5
  have TY:∀b o,b≠e->(s.heap.update it λ_=>oi).get? b=some o->h2.get? b=some o:=λb o hb q=>by
   by_cases MY:b=it
   .subst MY
    rw[m1] at q;cases q;exact TU
   .exact MX b o hb MY ((aI _ _ (Ne.symm MY)).symm.trans q)
  have I2:Inv X pins σ H { s with heap:=h2,toks:=s.toks+1 }:=Inv.turned (s:={ s with heap:=s.heap.update it λ_=>oi,toks:=s.toks+1 }) (h':=h2) (t':=s.toks+1) I1 TY g0 g1 g3 g4 g5;obtain⟨p0,p1,p2,p3,p4,p5⟩:=I.oW (ap s.heap.objs.size) (I.eP.fresh (ap _))
  have I3:Inv X pins σ (eM H s.heap.objs.size (.tup [.int (i:Nat),x])) { s with heap:=h2,toks:=s.toks+1 } :=
   I2.Be (o:=.tup [.int (i:Nat),x]) t2 p0 p1 p3 p4 p5 ⟨by show 2<=az;decide,[.int i s.toks,u],.cons ⟨_,rfl⟩ (.cons ru .nil),⟨_,t2,rfl,_,rfl,rfl⟩⟩
  refine⟨.ref s.heap.objs.size,_,I3,rfl,⟨_,x,rfl,p0,rfl,λys hy=>by rw[I.wU hy hq];exact hx⟩,⟨⟨u,by simpa using en⟩,i2⟩,λb hb=>?_⟩
  have Qh:b≠s.heap.objs.size:=by
   rcases ax.mp hb with z | z
   .rw[z];exact aR oU
   .have z':b=it:=by simpa using z
    rw[z'];exact aR TR
  rw[dU Qh];exact (hf b hb).1
 done:=by
  intro X hP hw hK hc i pins s σ H E I hf st hg;subst hP hw hK;obtain⟨⟨old,he⟩,hi⟩:=st;obtain⟨xs,hq,hx⟩:=hg;obtain⟨its,rv,p,hz⟩:=I.list hq;obtain⟨f0,f1,f2,f3,f4,f5⟩:=hf it (!4);have hl:=rv.length;exact wpAny_pyNext_enum_end (I.ok.hd hc) he hi p.isList (by simp;omega) λh' eb=>⟨rfl,I.turned (t':=s.toks) (λb o hb q=>eb b o hb q) f0 f1 f3 f4 f5⟩
 self:=λ_ _ _ _ _ st h=>by
  obtain⟨⟨old,he⟩,_⟩:=st;exact wpAny_pyIter_enum he h
section
variable {X:Cx}{xt:List Expr}{k:Nat}{IE:Pos}
theorem jI {l:List Int}(h:l.Pairwise (·<=·))(d:l.Nodup):l.Pairwise (· < ·):=by
 have:=h.and d;exact this.imp λ{a b} ⟨h1,h2⟩=>by omega
end
theorem gk:∀{ms ns:List Int},ms.Nodup->(∀k∈ms,k∈ns)->ms.length<=ns.length
 | [],_,_,_=>bD _
 | m::ms,ns,nd,h=>by
  have hm:=h m (aq ..);obtain⟨n1,n2⟩:=bf.mp nd;have ih:=gk (ms:=ms) (ns:=ns.erase m) n2 λk hk=>(List.mem_erase_of_ne (λ(z:k=m)=>n1 (z ▸ hk))).mpr (h k (ai _ hk));rw[dA hm] at ih;have:=dH hm;simp only[av];omega
end L2
namespace L2
open PySem
mutual
theorem eB.more {S:List Addr}{H:Hp}{p:Addr}(hp:H p=none):∀{d:ag} {v:V},eB S H d v->eB (p::S) H d v
 | .none,_,h=>h
 | .bool _,_,h=>h
 | .int _,_,h=>h
 | .str _,_,h=>h
 | .tuple ds,_,h=>by
  unfold eB at h ⊢;obtain⟨a,xs,e,ha,hr⟩:=h;exact⟨a,xs,e,ha,dO.more hp hr⟩
 | .list ds,_,h=>by
  unfold eB at h ⊢;obtain⟨a,xs,e,ha,hs,hr⟩:=h;refine⟨a,xs,e,ha,λz=>?_,dO.more hp hr⟩;rcases ax.mp z with z | z
  .rw[z,hp] at ha;cases ha
  .exact hs z
 | .dict l,_,h=>by
  unfold eB at h ⊢;obtain⟨a,t,kvs,xs,e,el,ha,hs,hk,hr⟩:=h;refine⟨a,t,kvs,xs,e,el,ha,λz=>?_,hk,gj.more hp hr⟩;rcases ax.mp z with z | z
  .rw[z,hp] at ha;cases ha
  .exact hs z
theorem dO.more {S:List Addr}{H:Hp}{p:Addr}(hp:H p=none):∀{ds:List ag} {vs:List V},dO S H ds vs->dO (p::S) H ds vs
 | [],_,h=>h
 | d::ds,_,h=>by
  unfold dO at h ⊢;obtain⟨y,r,e,h1,h2⟩:=h;exact⟨y,r,e,eB.more hp h1,dO.more hp h2⟩
theorem gj.more {S:List Addr}{H:Hp}{p:Addr}(hp:H p=none):∀{l:List (ag × ag)} {vs:List V},gj S H l vs->gj (p::S) H l vs
 | [],_,h=>h
 | (_,d)::l,_,h=>by
  unfold gj zz at h ⊢;obtain⟨y,r,e,h1,h2⟩:=h;exact⟨y,r,e,eB.more hp h1,gj.more hp h2⟩
end
end L2
namespace L2
open PySem PySem.Spec PyProof.Rows
noncomputable def TZ (x:Addr)(cls:ah)(od:Option Addr):Heap->Prop:=λh=>∃oe vs,h.get? x=some oe/\oe.cls=cls/\oe.dict=od/\oe.data=.fields vs
noncomputable def KY (d:Addr)(fs:List (Str × V)):Heap->Prop:=λh=>∃mA,h.Ns1 d mA/\∀g,nV (fs.lookup g) (mA g)
end L2
namespace PySem
theorem sY (l:Addr)(items:Array ah)(n:Nat)(dd:Option Addr)(sl:Array (Option ah))(t:Tok) :
  Meets (Builtin.«tuple.__mul__» ⟨[.ref l,.int 1 t],[]⟩) (λ_ R s=>s.heap.get? l=some { cls:=.type "tuple",dict:=dd,data:=.seq items n,slots:=sl }/\R (.ok (.ret (ah.ref l))) s) :=
 .of_wp λprog w A R s h=>by
  obtain⟨hp,g,d,tk,os⟩:=s;obtain⟨hl,h⟩:=h;have f1:=AutoSeq1.idx_int
  wp_walk
  exact⟨_,rfl,h⟩
end PySem
namespace L2
open PySem PySem.Spec PyProof.Rows
variable {X:Cx}
noncomputable def MZ (K:W.Frag):R2:=λx y H Q=>(∃a xs,x=.ref a/\y=.int 1/\iQ K H a xs/\Q (.ref a) H)\/KH K x y H Q
theorem EV (K:W.Frag)(h:X.K=K:=by rfl):lg X (binaryOp .Mult) (MZ K):=by
 subst h;intro pins s σ H x y v u Q I rx ry h;rcases h with h | h
 .obtain⟨a,xs,rfl,rfl,hx,q⟩:=h
  cases rx;obtain⟨t,rfl⟩:=ry;obtain⟨its,r,ht,hl⟩:=I.tuple hx;obtain⟨⟨cls,dd,data,sl⟩,ho,hc,n,hd⟩:=id ht;simp only at hc hd;subst hc hd
  exact wpAny_binaryOp_repeat_ref (T := "tuple") (U := "int") (!2) ⟨_,ho,rfl⟩ (λs'=>typeIs_int s' 1 t) km F.fills_int_mul F.slot_int_rmul og F.slot_int_index.lookup
   (call_meets F.slot_int_rmul (typeIs_int s 1 t) F.entry_int_rmul (F.args_int_rmul_2 _ _) (lP 1 t a its.toArray n dd sl)
    ⟨ho,rfl,⟨_,ho,rfl⟩,call_meets F.slot_tuple_mul ⟨_,ho,rfl⟩ F.entry_tuple_mul (F.args_tuple_mul_2 _ _) (sY a its.toArray n dd sl t) ⟨ho,⟨.ref a,H,I,rfl,q⟩⟩⟩)
 .exact Iq X.K rfl pins s σ H x y v u Q I rx ry h
inductive Ent where
 | s (d:ag)
 | o (ds:List ag)
 | x (c:Str) (as:List ag)
 | d (a:Addr) (t:Bool) (kvs:List (List Int × ag))
 | f (a:Addr) (o:Obj) (kvs:List (List Int × ag)) (xs:List V)
structure Xc where
 cl:Str->Addr
 fl:Str->List Str
noncomputable abbrev eU:=List (Option Ent)
structure Fr where
 G:Hp->Int->Prop
 gs:List Addr
 S0:List Addr
 H0:Hp
 fa:V
 fd:List Nat
 xc:Xc
 ix:∀{S:List Addr} {H H':Hp} {n:Int},G H n->Ext S H H'->(∀a∈S,H0 a=none)->G H' n
 sZ:∀{H:Hp} {n:Int},G H n->∀a∈gs,H a≠none
 T1:∀{H:Hp} {n:Int},G H n->∀a∈gs,∀φ,H a≠some (.ext φ)
 Qj:∀a∈gs,a∈S0
 s9:∀a∈S0,H0 a≠none
noncomputable def pL (M:Fr)(S:List Addr)(H:Hp):Ent->V->Prop
 | .s d,v=>eB S H d v
 | .o ds,v=>∃a xs,v=.ref a/\H a=some (.lst xs)/\dO S H ds xs/\a∈S/\M.H0 a=none
 | .x c as,v=>∃a dx vs,v=.ref a/\H a=some (.ext (TZ a (.ref (M.xc.cl c)) (some dx)))/\H dx=some (.ext (KY dx ((M.xc.fl c).zip vs)))/\dO S H as vs/\a ∉ M.gs/\dx ∉ M.gs
 | .d a t kvs,v=>v=.ref a/\∃xs,H a=some (mR t kvs xs)/\dO S H (!20) xs/\(t=false->∀p∈kvs,p.1.length=1)/\a∈S/\M.H0 a=none
 | .f a o kvs xs,v=>v=.ref a/\H a=some (.nj o (mR true kvs xs))/\dO S H (!20) xs/\a∈S/\M.H0 a=none
structure dS (M:Fr) (env:eU) (pn:List (ag × V)) (σ:St) (S:List Addr) (H:Hp) (n:Int):Prop where
 val:∀(i:Nat) (e:Ent),env[i]? = some (some e)->∃v,σ[i]? = some (some v)/\pL M S H e v
 ne:∀(i j:Nat) (ds es:List ag) (a:Addr),env[i]? = some (some (.o ds))->env[j]? = some (some (.o es))->σ[i]? = some (some (.ref a))->σ[j]? = some (some (.ref a))->i=j
 len:env.length=σ.length
 xu:∀i∈M.fd,σ[i]? = some (some M.fa)
 gd:M.G H n
 ext:Ext M.gs M.H0 H
 s0:∀a∈M.S0,a∈S
 sn:∀a∈S,a∈M.S0\/M.H0 a=none
 has:∀a∈S,H a≠none
 pin:∀p∈pn,eB S H p.1 p.2
section
theorem Fr.out (M:Fr)(h:M.H0 a=none):a ∉ M.gs:=λz=>M.s9 a (M.Qj a z) h
theorem dS.p6 (ok:dS M env pn σ S H n):∀a∈M.gs,a∈S:=λa h=>ok.s0 a (M.Qj a h)
theorem Ext.some (x:Ext S H H')(ha:a ∉ S)(h:H a≠none):H' a≠none:=by
 cases e:H a with
 | none=>exact absurd e h
 | some o=>rw[x.keep a o ha e];simp
theorem pL.step (hg:∀a∈M.gs,a∈S)(h:pL M S H e v)(x:Ext M.gs H H'):pL M S H' e v:=by
 cases e with
 | s d=>exact eB.ext (x.mono hg) h
 | o ds =>
  obtain⟨a,xs,e,ha,r,hs,h0⟩:=h;exact⟨a,xs,e,x.keep _ _ (M.out h0) ha,r.ext (x.mono hg),hs,h0⟩
 | x c as =>
  obtain⟨a,dx,vs,e,ha,hd,r,g1,g2⟩:=h;exact⟨a,dx,vs,e,x.keep _ _ g1 ha,x.keep _ _ g2 hd,r.ext (x.mono hg),g1,g2⟩
 | d a t kvs =>
  obtain⟨e,xs,ha,r,hk,hs,h0⟩:=h;exact⟨e,xs,x.keep _ _ (M.out h0) ha,r.ext (x.mono hg),hk,hs,h0⟩
 | f a o kvs xs =>
  obtain⟨e,ha,r,hs,h0⟩:=h;exact⟨e,x.keep _ _ (M.out h0) ha,r.ext (x.mono hg),hs,h0⟩
theorem dS.step (ok:dS M env pn σ S H n)(x:Ext M.gs H H')(g:M.G H' n'):dS M env pn σ S H' n':=by
 refine⟨λi e he=>?_,ok.ne,ok.len,ok.xu,g,ok.ext.trans x,ok.s0,ok.sn,λa ha=>?_,λp hp=>(ok.pin p hp).ext (x.mono ok.p6)⟩
 .obtain⟨v,hv,r⟩:=ok.val i e he
  exact⟨v,hv,r.step ok.p6 x⟩
 .by_cases z:a∈M.gs
  .exact M.sZ g a z
  .exact x.some z (ok.has a ha)
theorem dS.fresh (ok:dS M env pn σ S H n)(h:H a=none):a ∉ S:=λz=>ok.has a z h
theorem dS.grow (ok:dS M env pn σ S H n)(x:Ext [] H H'):M.G H' n:=M.ix ok.gd x (!4)
end
theorem eB.fresh (ha:H a=none)(h:eB S H d v):eB (a::S) H d v:=eB.more ha h
theorem dO.fresh (ha:H a=none)(h:dO S H ds vs):dO (a::S) H ds vs:=dO.more ha h
noncomputable def ko (H:Hp):Prop:=∀a xs,H a=some (.lst xs)\/H a=some (.tup xs)->xs.length<=az
theorem lD.kq (ok:lD P w H h):ko H:=λa xs e=>by
 rcases e with e | e
 .exact (ok a _ e).1
 .exact (ok a _ e).1
noncomputable def fb (gs S:List Addr)(H:Hp)(d:ag)(v:V):Prop:=eB S H d v\/(∃ds a xs,d=.list ds/\v=.ref a/\H a=some (.lst xs)/\dO S H ds xs/\a ∉ gs)\/∃t kvs a xs,d=fg t kvs/\v=.ref a/\H a=some (mR t kvs xs)/\dO S H (!20) xs/\(t=false->∀p∈kvs,p.1.length=1)/\a ∉ gs
section
theorem fb.ext (h:fb gs S H d v)(hg:∀a∈gs,a∈S)(x:Ext gs H H'):fb gs S H' d v:=by
 rcases h with h | ⟨ds,a,xs,e1,e2,e3,r,ha⟩ | ⟨t,kvs,a,xs,e1,e2,e3,r,hk,ha⟩
 .exact .inl (h.ext (x.mono hg))
 .exact .inr (.inl ⟨ds,a,xs,e1,e2,x.keep _ _ ha e3,r.ext (x.mono hg),ha⟩)
 .exact .inr (.inr ⟨t,kvs,a,xs,e1,e2,x.keep _ _ ha e3,r.ext (x.mono hg),hk,ha⟩)
theorem fb.fw (h:fb gs S H (.list ds) v):∃a xs,v=.ref a/\H a=some (.lst xs)/\dO S H ds xs:=by
 rcases h with h | ⟨p7,a,xs,e1,e2,e3,r,_⟩ | ⟨t,kvs,a,xs,e1,_⟩
 .obtain⟨a,xs,e,ha,_,r⟩:=h.fw
  exact⟨a,xs,e,ha,r⟩
 .cases e1
  exact⟨a,xs,e2,e3,r⟩
 .cases e1
theorem fb.lM (h:fb gs S H (.dict l) v):∃a t kvs xs,v=.ref a/\l=mZ t kvs/\H a=some (mR t kvs xs)/\(t=false->∀p∈kvs,p.1.length=1)/\dO S H (!20) xs:=by
 rcases h with h | ⟨p7,a,xs,e1,_⟩ | ⟨t,kvs,a,xs,e1,e2,e3,r,hk,_⟩
 .obtain⟨a,t,kvs,xs,e,el,ha,_,hk,r⟩:=h.lM
  exact⟨a,t,kvs,xs,e,el,ha,hk,r⟩
 .cases e1
 .cases e1
  exact⟨a,t,kvs,xs,e2,rfl,e3,hk,r⟩
theorem fb.rep (h:fb gs S H d v)(hd:∀ds,d≠.list ds)(u9:∀l,d≠.dict l:=by intro _ z;cases z):eB S H d v:=by
 rcases h with h | ⟨ds,a,xs,e1,_⟩ | ⟨t,kvs,a,xs,e1,_⟩
 .exact h
 .exact absurd e1 (hd ds)
 .exact absurd e1 (u9 _)
theorem fb.less (h:fb gs S H d v)(hg:∀a∈gs,a∈S):eB gs H d v:=by
 rcases h with h | ⟨ds,a,xs,rfl,rfl,e3,r,ha⟩ | ⟨t,kvs,a,xs,rfl,rfl,e3,r,hk,ha⟩
 .exact h.less hg
 .exact .lst e3 ha (r.less hg)
 .exact .Oz e3 ha hk (r.less hg)
theorem fb.fz (h:fb gs S H (.tuple ds) v):∃a xs,v=.ref a/\H a=some (.tup xs)/\dO S H ds xs:=(h.rep (by intro _ z;cases z)).fz
theorem fb.eQ (h:fb gs S H (.int i) v):v=.int i:=(h.rep (by intro _ z;cases z)).eQ
theorem fb.lN (h:fb gs S H (.bool i) v):v=.bl i:=(h.rep (by intro _ z;cases z)).lN
theorem fb.j4 (h:fb gs S H (.str i) v):v=.str i:=(h.rep (by intro _ z;cases z)).j4
theorem fb.lO (h:fb gs S H .none v):v=.gC:=(h.rep (by intro _ z;cases z)).lO
end
noncomputable abbrev UX:=eU->Int->(ag->Int->Prop)->Prop
noncomputable abbrev UT:=eU->Int->(Bool->Int->Prop)->Prop
noncomputable abbrev UA:=eU->Int->(List ag->Int->Prop)->Prop
structure pM where
 nx:eU->Int->Prop
 rt:ag->Int->Prop
noncomputable abbrev US:=pM->eU->Int->Prop
noncomputable def Qk (M:Fr)(u:UX):TE:=λσ H R=>∃env pn S n Q,dS M env pn σ S H n/\u env n Q/\∀v H' d n',eB S H' d v->Ext M.gs H H'->M.G H' n'->ko H'->Q d n'->R v H'
noncomputable def xv (M:Fr)(u:UX):TE:=λσ H R=>∃env pn S n Q,dS M env pn σ S H n/\u env n Q/\∀v H' d n',fb M.gs S H' d v->Ext M.gs H H'->M.G H' n'->ko H'->Q d n'->R v H'
noncomputable def Ql (M:Fr)(u:eU->Int->(List ag->Int->Prop)->Prop):TE:=λσ H R=>∃env pn S n Q,dS M env pn σ S H n/\u env n Q /\
 ∀a xs H' ds n',H a=none->H' a=some (.lst xs)->dO (a::S) H' ds xs->Ext M.gs H H'->M.G H' n'->ko H'->Q ds n'->R (.ref a) H'
noncomputable def liftT (M:Fr)(u:UT):TT:=λσ H R=>∃env pn S n Q,dS M env pn σ S H n/\u env n Q/\∀b H' n',Ext M.gs H H'->M.G H' n'->Q b n'->R b H'
noncomputable def Qm (M:Fr)(k:Nat)(u:UA):TA:=λσ H R=>∃env pn S n Q,dS M env pn σ S H n/\u env n Q/\∀vs H' ds n',vs.length=k->dO S H' ds vs->Ext M.gs H H'->M.G H' n'->ko H'->Q ds n'->R vs H'
noncomputable def jJ (gs S:List Addr)(H:Hp):List ag->List V->Prop
 | [],vs=>vs=[]
 | d::ds,vs=>∃v r,vs=v::r/\fb gs S H d v/\jJ gs S H ds r
theorem jJ.less:∀{ds:List ag} {vs:List V},jJ gs S H ds vs->(∀a∈gs,a∈S)->dO gs H ds vs
 | [],_,h,_=>by cases h;exact .nil
 | _::_,_,⟨v,r,e,h1,h2⟩,hg=>by subst e;exact .cons (h1.less hg) (jJ.less h2 hg)
noncomputable def EW (M:Fr)(u:UA):TA:=λσ H R=>∃env pn S n Q,dS M env pn σ S H n/\u env n Q/\∀vs H' ds n',jJ M.gs S H' ds vs->Ext M.gs H H'->M.G H' n'->ko H'->Q ds n'->R vs H'
noncomputable def Bq (M:Fr)(u:US):TS:=λD σ H=>∃env pn S n E,dS M env pn σ S H n/\u E env n/\(∀eh σ' S' H' n',dS M eh pn σ' S' H' n'->E.nx eh n'->D.nx σ' H') /\
 (∀v H' d n',eB M.S0 H' d v->Ext M.gs M.H0 H'->M.G H' n'->E.rt d n'->D.rt v H')
structure KE (X:Cx) (M:Fr) (e:Expr) (u:UX):Prop where run:QE X e (Qk M u)
structure KL (X:Cx) (M:Fr) (e:Expr) (u:UX):Prop where run:QE X e (xv M u)
structure KN (X:Cx) (M:Fr) (e:Expr) (u:eU->Int->(List ag->Int->Prop)->Prop):Prop where run:QE X e (Ql M u)
structure KB (X:Cx) (M:Fr) (e:Expr) (u:UT):Prop where run:QT X e (liftT M u)
structure KW (X:Cx) (M:Fr) (e:Expr) (u:UT):Prop where run:QW X e (liftT M u)
structure KA (X:Cx) (M:Fr) (es:List Expr) (u:UA):Prop where run:QA X es (Qm M es.length u)
structure KZ (X:Cx) (M:Fr) (es:List Expr) (u:UA):Prop where run:QA X es (EW M u)
structure KS (X:Cx) (M:Fr) (st:Stmt) (u:US):Prop where run:QS X st (Bq M u)
structure wC (X:Cx) (M:Fr) (st:List Stmt) (u:US):Prop where run:xk X st (Bq M u)
section
variable {X:Cx}{M:Fr}{e:Expr}{es:List Expr}{t:TE}{tT:TT}{ta:TA}{u:UX}
theorem CS {A B C D E:Type}{P:A->B->C->D->E->Prop}{r:Prop}(h:∃a b c d e,P a b c d e)(k:∀a b c d e,P a b c d e->r):r:=by
 obtain⟨a,b,c,d,e,p⟩:=h;exact k a b c d e p
theorem R' {A B C D E F:Type}{P:A->B->C->D->E->F->Prop}{r:Prop}(h:∃a b c d e f,P a b c d e f)(k:∀a b c d e f,P a b c d e f->r):r:=by
 obtain⟨a,b,c,d,e,f,p⟩:=h;exact k a b c d e f p
theorem QE.kq (h:QE X e t):QE X e (λσ H R=>t σ H λv H1=>ko H1->R v H1) :=
 ⟨λpins s σ H Q I q=>fE (h.run pins s σ H _ I q) λv s1 ⟨x,H1,I1,r1,q1⟩=>⟨x,H1,I1,r1,q1 I1.eP.kq⟩⟩
theorem QA.kq (h:QA X es ta):QA X es (λσ H R=>ta σ H λv H1=>ko H1->R v H1) :=
 ⟨λpos pins s σ H Q I q=>fE (h.run pos pins s σ H _ I q) λv s1 ⟨x,H1,I1,r1,q1⟩=>⟨x,H1,I1,r1,q1 I1.eP.kq⟩,h.ns⟩
theorem KE.of (h:QE X e t)(k:∀σ H R env pn S n Q,dS M env pn σ S H n->u env n Q->(∀v H' d n',eB S H' d v->Ext M.gs H H'->M.G H' n'->Q d n'->R v H')->t σ H R):KE X M e u :=
 ⟨h.kq.weaken λσ H R h=>CS h λenv pn S n Q h=>k σ H _ env pn S n Q h.1 h.2.1 λv H' d n' r x g qq sz=>h.2.2 v H' d n' r x g sz qq⟩
theorem KL.of (h:QE X e t)(k:∀σ H R env pn S n Q,dS M env pn σ S H n->u env n Q->(∀v H' d n',fb M.gs S H' d v->Ext M.gs H H'->M.G H' n'->Q d n'->R v H')->t σ H R):KL X M e u :=
 ⟨h.kq.weaken λσ H R h=>CS h λenv pn S n Q h=>k σ H _ env pn S n Q h.1 h.2.1 λv H' d n' r x g qq sz=>h.2.2 v H' d n' r x g sz qq⟩
theorem KN.of {u:eU->Int->(List ag->Int->Prop)->Prop}(h:QE X e t)(k:∀σ H R env pn S n Q,dS M env pn σ S H n->u env n Q->(∀a xs H' ds n',H a=none->H' a=some (.lst xs)->dO (a::S) H' ds xs->Ext M.gs H H'->M.G H' n'->Q ds n'->R (.ref a) H')->t σ H R):KN X M e u :=
 ⟨h.kq.weaken λσ H R h=>CS h λenv pn S n Q h=>k σ H _ env pn S n Q h.1 h.2.1 λa xs H' ds n' h0 h1 r x g qq sz=>h.2.2 a xs H' ds n' h0 h1 r x g sz qq⟩
theorem KA.of {u:UA}(h:QA X es ta)(k:∀σ H R env pn S n Q,dS M env pn σ S H n->u env n Q->(∀v H' d n',v.length=es.length->dO S H' d v->Ext M.gs H H'->M.G H' n'->Q d n'->R v H')->ta σ H R):KA X M es u :=
 ⟨h.kq.weaken λσ H R h=>CS h λenv pn S n Q h=>k σ H _ env pn S n Q h.1 h.2.1 λv H' d n' hl r x g qq sz=>h.2.2 v H' d n' hl r x g sz qq⟩
theorem KZ.of {u:UA}(h:QA X es ta)(k:∀σ H R env pn S n Q,dS M env pn σ S H n->u env n Q->(∀v H' d n',jJ M.gs S H' d v->Ext M.gs H H'->M.G H' n'->Q d n'->R v H')->ta σ H R):KZ X M es u :=
 ⟨h.kq.weaken λσ H R h=>CS h λenv pn S n Q h=>k σ H _ env pn S n Q h.1 h.2.1 λv H' d n' r x g qq sz=>h.2.2 v H' d n' r x g sz qq⟩
theorem QT.weaken {t t':TT}(h:QT X e t)(w:∀σ H Q,t' σ H Q->t σ H Q):QT X e t':=⟨λpins s σ H Q I q=>h.run pins s σ H Q I (w σ H Q q)⟩
theorem QW.weaken {t t':TT}(h:QW X e t)(w:∀σ H Q,t' σ H Q->t σ H Q):QW X e t':=⟨λwh pins s σ H Q I q=>h.run wh pins s σ H Q I (w σ H Q q)⟩
theorem QS.weaken {st:Stmt}{t t':TS}(h:QS X st t)(w:∀D σ H,t' D σ H->t D σ H):QS X st t':=⟨λpins s σ H D I q=>h.run pins s σ H D I (w D σ H q)⟩
theorem xk.weaken {st:List Stmt}{t t':TS}(h:xk X st t)(w:∀D σ H,t' D σ H->t D σ H):xk X st t':=⟨λpins s σ H D I q=>h.run pins s σ H D I (w D σ H q)⟩
theorem KB.of {u:UT}(h:QT X e tT)(k:∀σ H R env pn S n Q,dS M env pn σ S H n->u env n Q->(∀b H' n',Ext M.gs H H'->M.G H' n'->Q b n'->R b H')->tT σ H R):KB X M e u :=
 ⟨h.weaken λσ H R h=>CS h λenv pn S n Q h=>k σ H _ env pn S n Q h.1 h.2.1 h.2.2⟩
theorem KW.of {u:UT}(h:QW X e tT)(k:∀σ H R env pn S n Q,dS M env pn σ S H n->u env n Q->(∀b H' n',Ext M.gs H H'->M.G H' n'->Q b n'->R b H')->tT σ H R):KW X M e u :=
 ⟨h.weaken λσ H R h=>CS h λenv pn S n Q h=>k σ H _ env pn S n Q h.1 h.2.1 h.2.2⟩
theorem KE.loose (h:KE X M e u):KL X M e u:=.of h.run λσ H R env pn S n Q ok hu k=>⟨env,pn,S,n,Q,ok,hu,λv H' d n' r x g _ q=>k v H' d n' (.inl r) x g q⟩
noncomputable def uL (u:eU->Int->(List ag->Int->Prop)->Prop):UX:=λenv n Q=>u env n λds n'=>Q (.list ds) n'
theorem KN.data {u:eU->Int->(List ag->Int->Prop)->Prop}(h:KN X M e u):KE X M e (uL u):=.of h.run λσ H R env pn S n Q ok hu k =>
 ⟨env,pn,S,n,_,ok,hu,λa xs H' ds n' h0 h1 r x g _ q=>k _ H' _ n' (.lst h1 (ok.fresh h0) (r.less λ_ h=>ai _ h)) x g q⟩
end
noncomputable def lE {α:Type}(o:Option α)(Q:α->Prop):Prop:=∃d,o=some d/\Q d
@[simp] theorem dN {α:Type} (d:α) (Q:α->Prop):lE (some d) Q=Q d:=by simp[lE]
@[simp] theorem Qn {α:Type} (Q:α->Prop):lE (none:Option α) Q=False:=by simp[lE]
noncomputable def d7 (i:Nat):UX:=λenv n Q=>match env[i]? with | some (some (.s d))=>Q d n | _=>False
noncomputable def dJ (i:Nat):UX:=λenv n Q=>match env[i]? with | some (some (.s d))=>Q d n | some (some (.o ds))=>Q (.list ds) n | some (some (.d _ t kvs))=>Q (fg t kvs) n | _=>False
noncomputable def uC (d:ag):UX:=λ_ n Q=>Q d n
section
theorem i7 (i:Nat)(hN:X.N[i]? = some x:=by rfl)(hv:qM X.env.scope x:=by (first | exact Or.inl rfl | exact Or.inr (Or.inl rfl) | exact Or.inr (Or.inr rfl)))(hd:(x == (!12))=false:=by decide)
  (jb:(x == (!18))=false:=by decide):KE X M (.Name x pos) (d7 i):=.of (qv i hN hv hd jb) λσ H R env pn S n Q ok hu k=>by
 unfold d7 at hu
 cases e:env[i]? with
 | none=>rw[e] at hu;exact hu.elim
 | some o =>
  cases o with
  | none=>rw[e] at hu;exact hu.elim
  | some en =>
   cases en with
   | o ds=>rw[e] at hu;exact hu.elim
   | x c as=>rw[e] at hu;exact hu.elim
   | d a t kvs=>rw[e] at hu;exact hu.elim
   | f a o kvs xs=>rw[e] at hu;exact hu.elim
   | s d =>
    rw[e] at hu;obtain⟨v,hv,r⟩:=ok.val i _ e;exact⟨v,hv,k v H d n r (!24) ok.gd hu⟩
theorem fj (i:Nat)(hN:X.N[i]? = some x:=by rfl)(hv:qM X.env.scope x:=by (first | exact Or.inl rfl | exact Or.inr (Or.inl rfl) | exact Or.inr (Or.inr rfl)))(hd:(x == (!12))=false:=by decide)
  (jb:(x == (!18))=false:=by decide):KL X M (.Name x pos) (dJ i):=.of (qv i hN hv hd jb) λσ H R env pn S n Q ok hu k=>by
 unfold dJ at hu
 cases e:env[i]? with
 | none=>rw[e] at hu;exact hu.elim
 | some o =>
  cases o with
  | none=>rw[e] at hu;exact hu.elim
  | some en =>
   rw[e] at hu;obtain⟨v,hv,r⟩:=ok.val i _ e
   cases en with
   | o ds =>
    obtain⟨a,xs,rfl,ha,r,hs,h0⟩:=r;exact⟨_,hv,k _ H _ n (.inr (.inl ⟨ds,a,xs,rfl,rfl,ha,r,M.out h0⟩)) (!24) ok.gd hu⟩
   | s d=>exact⟨v,hv,k v H d n (.inl r) (!24) ok.gd hu⟩
   | x c as=>exact hu.elim
   | f a o kvs xs=>exact hu.elim
   | d a t kvs =>
    obtain⟨rfl,xs,ha,r,hk,hs,h0⟩:=r;exact⟨_,hv,k _ H _ n (.inr (.inr ⟨t,kvs,a,xs,rfl,rfl,ha,r,hk,M.out h0⟩)) (!24) ok.gd hu⟩
theorem T2 (h:QE X e (tC v))(r:∀S H,eB S H d v):KE X M e (uC d):=.of h λσ H R env pn S n Q ok hu k=>k v H d n (r S H) (!24) ok.gd hu
theorem d4 {i j pos}:KE X M (.Constant (.int i) j pos) (uC (.int i)):=T2 eT λ_ _=>.int i
theorem M0 {i j pos}:KE X M (.Constant (.bool i) j pos) (uC (.bool i)):=T2 Ez λ_ _=>.bl i
theorem tY {j pos}:KE X M (.Constant .none j pos) (uC .none):=T2 MH λ_ _=>.gC
end
noncomputable def dR:UA:=λ_ n Q=>Q [] n
noncomputable def dM (u:UX)(r:UA):UA:=λenv n Q=>u env n λd n1=>r env n1 λds n2=>Q (d::ds) n2
section
variable {X:Cx}{M:Fr}{e a b:Expr}{es:List Expr}{u ua ub:UX}{ur:UA}{pos:Pos}
theorem dZ:KA X M [] dR:=.of fi λσ H R env pn S n Q ok hu k=>k [] H [] n rfl .nil (!24) ok.gd hu
theorem d9 (h:KE X M e u)(hr:KA X M es ur)(hs:eV e=true:=by rfl):KA X M (e::es) (dM u ur):=.of (gZ h.run hr.run hs) λσ H R env pn S n Q ok hu k =>
 ⟨env,pn,S,n,_,ok,hu,λv H1 d n1 r1 x1 g1 _ q1=>⟨env,pn,S,n1,_,ok.step x1 g1,q1,λvs H2 ds n2 hl r2 x2 g2 _ q2=>k _ H2 _ n2 (by simp[hl]) (.cons (r1.ext (x2.mono ok.p6)) r2) (x1.trans x2) g2 q2⟩⟩
theorem fL:KZ X M [] dR:=.of fi λσ H R env pn S n Q ok hu k=>k [] H [] n rfl (!24) ok.gd hu
theorem gS (h:KL X M e u)(hr:KZ X M es ur)(hs:eV e=true:=by rfl):KZ X M (e::es) (dM u ur):=.of (gZ h.run hr.run hs) λσ H R env pn S n Q ok hu k =>
 ⟨env,pn,S,n,_,ok,hu,λv H1 d n1 r1 x1 g1 _ q1=>⟨env,pn,S,n1,_,ok.step x1 g1,q1,λvs H2 ds n2 r2 x2 g2 _ q2=>k _ H2 (d::ds) n2 ⟨_,_,rfl,r1.ext ok.p6 x2,r2⟩ (x1.trans x2) g2 q2⟩⟩
noncomputable def eR (ur:UA):UX:=λenv n Q=>ur env n λds n1=>Q (.tuple ds) n1
theorem gG {x1}(h:KA X M es ur)(hl:es.length<=az:=by decide):KE X M (.Tuple es x1 pos) (eR ur) :=
 .of (MK h.run) λσ H R env pn S n Q ok hu k=>⟨env,pn,S,n,_,ok,hu,λvs H1 ds n1 el r1 x1 g1 sz q1=>⟨by rw[el];exact hl,λp hp =>
  have x2:=Ext.new (S:=[]) (o:=.tup vs) hp
  k _ _ _ n1 (.tup dP (r1.ext (x2.mono (!4)))) (x1.trans (x2.mono (!4))) (M.ix g1 x2 (!4)) q1⟩⟩
theorem o4 (h:KA X M es ur)(hl:es.length<=az:=by decide):KN X M (.List es pos) ur :=
 .of (vk h.run) λσ H R env pn S n Q ok hu k=>⟨env,pn,S,n,_,ok,hu,λvs H1 ds n1 el r1 x1 g1 sz q1=>⟨by rw[el];exact hl,λp hp =>
  have x2:=Ext.new (S:=[]) (o:=.lst vs) hp
  have W4:H p=none:=by
   by_cases z:p∈M.gs
   .exact absurd hp (M.sZ g1 p z)
   .exact x1.fresh z hp
  k p vs _ _ n1 W4 dP ((r1.fresh hp).ext (x2.mono (!4))) (x1.trans (x2.mono (!4))) (M.ix g1 x2 (!4)) q1⟩⟩
end
theorem RelV.one (h:RelV v u)(k:RelV w u):v=w:=by
 cases v<;>cases w<;>simp only[RelV] at h k<;>first | rfl | (obtain⟨t,rfl⟩:=h;obtain⟨t',e⟩:=k;cases e;rfl) | (subst h;cases k;rfl) | (subst h;obtain⟨t',e⟩:=k;cases e) | (obtain⟨t,rfl⟩:=h;obtain⟨t',e⟩:=k;cases e;done) | (obtain⟨t,rfl⟩:=h;cases k;done) | (subst h;cases k;done)
theorem Br:∀{kvs kvs':List (List Int × ag)} {xs pN:List V},xs.length=kvs.length->pN.length=kvs'.length->G7 kvs xs=G7 kvs' pN->xs=pN/\kvs.map (λp=>p.1.headD 0)=kvs'.map (λp=>p.1.headD 0)
 | [],[],[],[],_,_,_=>⟨rfl,rfl⟩
 | [],[],_::_,_,h,_,_=>by simp at h
 | [],[],[],_::_,_,h,_=>by simp at h
 | [],p::_,_,[],_,h,_=>by simp at h
 | [],p::_,[],_::_,_,_,h=>by simp[G7] at h
 | [],p::_,_::_,_::_,h,_,_=>by simp at h
 | p::_,[],[],_,h,_,_=>by simp at h
 | p::_,[],_::_,[],_,_,h=>by simp[G7] at h
 | p::_,[],_::_,_::_,_,h,_=>by simp at h
 | p::_,q::_,[],_,h,_,_=>by simp at h
 | p::_,q::_,_::_,[],_,h,_=>by simp at h
 | p::kvs,q::kvs',x::xs,y::ys,h1,h2,h=>by
  rw[G7,G7] at h;injection h with e1 e2;injection e1 with e3 e4;injection e3 with e3;obtain⟨a,b⟩:=Br (by simpa using h1) (by simpa using h2) e2;rw[e4,a,ar,ar,b];exact⟨rfl,by rw[e3]⟩
theorem Bs:∀{a b:List Int},(a.map Sum.inl:List Key)=b.map Sum.inl->a=b
 | [],[],_=>rfl
 | [],_::_,h=>by cases h
 | _::_,[],h=>by cases h
 | x::a,y::b,h=>by
  rw[ar,ar] at h;injection h with h1 h2;injection h1 with h1;rw[h1,Bs h2]
theorem Bt:∀{kvs kvs':List (List Int × ag)} {xs pN:List V},xs.length=kvs.length->pN.length=kvs'.length->nv kvs xs=nv kvs' pN->xs=pN/\kvs.map (λp=>p.1)=kvs'.map (λp=>p.1)
 | [],[],[],[],_,_,_=>⟨rfl,rfl⟩
 | [],[],_::_,_,h,_,_=>by simp at h
 | [],[],[],_::_,_,h,_=>by simp at h
 | [],p::_,_,[],_,h,_=>by simp at h
 | [],p::_,[],_::_,_,_,h=>by simp[nv] at h
 | [],p::_,_::_,_::_,h,_,_=>by simp at h
 | p::_,[],[],_,h,_,_=>by simp at h
 | p::_,[],_::_,[],_,_,h=>by simp[nv] at h
 | p::_,[],_::_,_::_,_,h,_=>by simp at h
 | p::_,q::_,[],_,h,_,_=>by simp at h
 | p::_,q::_,_::_,[],_,h,_=>by simp at h
 | p::kvs,q::kvs',x::xs,y::ys,h1,h2,h=>by
  rw[nv,nv] at h;injection h with e1 e2;injection e1 with e3 e4;obtain⟨a,b⟩:=Bt (by simpa using h1) (by simpa using h2) e2;rw[e4,a,ar,ar,b];exact⟨rfl,by rw[Bs e3]⟩
theorem Bu:∀{l l':List (List Int × ag)},l.map (λp=>p.1)=l'.map (λp=>p.1)->l.map (·.2)=l'.map (·.2)->l=l'
 | [],[],_,_=>rfl
 | [],_::_,h,_=>by cases h
 | _::_,[],h,_=>by cases h
 | (a,b)::l,(c,d)::l',h,k=>by
  rw[ar,ar] at h k;injection h with h1 h2;injection k with k1 k2;have h1:a=c:=h1;have k1:b=d:=k1;rw[Bu h2 k2,h1,k1]
theorem tZ {l:List (List Int × ag)}(h:∀p∈l,p.1.length=1):l.map (λp=>p.1)=(l.map λp=>p.1.headD 0).map λi=>[i]:=by
 rw[bp];refine bu λp hp=>?_
 match p,h p hp with
 | ([i],_),_=>rfl
theorem IF {t t':Bool}{kvs kvs':List (List Int × ag)}{xs pN:List V}(h1:xs.length=kvs.length)(h2:pN.length=kvs'.length)(k1:t=false->∀p∈kvs,p.1.length=1)(k2:t'=false->∀p∈kvs',p.1.length=1)(h:mR t kvs xs=mR t' kvs' pN):t=t'/\xs=pN/\kvs.map (λp=>p.1)=kvs'.map (λp=>p.1):=by
 cases t with
 | true=>cases t' with
  | true =>
   injection h with h;exact⟨rfl,Bt h1 h2 h⟩
  | false=>cases h
 | false=>cases t' with
  | true=>cases h
  | false =>
   injection h with h;obtain⟨a,b⟩:=Br h1 h2 h;exact⟨rfl,a,by rw[tZ (k1 rfl),tZ (k2 rfl),b]⟩
mutual
theorem eB.one {S:List Addr}{H:Hp}:∀{d d':ag} {v:V},eB S H d v->eB S H d' v->d=d'
 | .none,d',v,h,k=>by cases h.lO;cases d'<;>simp[eB] at k;rfl
 | .bool b,d',v,h,k=>by cases h.lN;cases d'<;>simp[eB] at k;rw[k]
 | .int b,d',v,h,k=>by cases h.eQ;cases d'<;>simp[eB] at k;rw[k]
 | .str b,d',v,h,k=>by cases h.j4;cases d'<;>simp[eB] at k;rw[k]
 | .tuple ds,d',v,h,k=>by
  obtain⟨a,xs,rfl,ha,r⟩:=h.fz
  cases d' with
  | tuple es =>
   obtain⟨b,ys,e,hb,r'⟩:=k.fz;cases e;rw[ha] at hb;cases hb;rw[dO.one r r']
  | list es=>obtain⟨b,ys,e,hb,_⟩:=k.fw;cases e;rw[ha] at hb;cases hb
  | dict es=>obtain⟨b,t,kvs,ys,e,_,hb,_⟩:=k.lM;cases e;rw[ha] at hb;exact (Bf hb).elim
  | _=>simp[eB] at k
 | .list ds,d',v,h,k=>by
  obtain⟨a,xs,rfl,ha,_,r⟩:=h.fw
  cases d' with
  | list es =>
   obtain⟨b,ys,e,hb,_,r'⟩:=k.fw;cases e;rw[ha] at hb;cases hb;rw[dO.one r r']
  | tuple es=>obtain⟨b,ys,e,hb,_⟩:=k.fz;cases e;rw[ha] at hb;cases hb
  | dict es=>obtain⟨b,t,kvs,ys,e,_,hb,_⟩:=k.lM;cases e;rw[ha] at hb;exact (mz hb).elim
  | _=>simp[eB] at k
 | .dict l,d',v,h,k=>by
  have h':=h;unfold eB at h';obtain⟨a,t,kvs,xs,rfl,rfl,ha,hs,hk,hr⟩:=h';have hl:xs.length=kvs.length:=by have:=(gj.CK.mp hr).length;rw[iB,av,av,ao] at this;omega
  cases d' with
  | tuple es=>obtain⟨b,ys,e,hb,_⟩:=k.fz;cases e;rw[ha] at hb;exact (Bf hb.symm).elim
  | list es=>obtain⟨b,ys,e,hb,_⟩:=k.fw;cases e;rw[ha] at hb;exact (mz hb.symm).elim
  | dict l' =>
   unfold eB at k;obtain⟨b,t',kvs',ys,e,rfl,hb,_,Bv,Sa⟩:=k;cases e;rw[ha] at hb;have hl':ys.length=kvs'.length:=by have:=(gj.CK.mp Sa).length;rw[iB,av,av,ao] at this;omega
   obtain⟨rfl,rfl,CT⟩:=IF hl hl' hk Bv (Option.some.inj hb);have:=gj.one hr Sa;rw[iB,iB] at this;injection this with _ this;rw[Bu CT this]
  | _=>simp[eB] at k
theorem dO.one {S:List Addr}{H:Hp}:∀{ds p7:List ag} {vs:List V},dO S H ds vs->dO S H p7 vs->ds=p7
 | [],p7,vs,h,k=>by
  cases h.e9
  cases p7 with
  | nil=>rfl
  | cons d ds=>obtain⟨x,r,e,_⟩:=k.of_cons;cases e
 | d::ds,p7,vs,h,k=>by
  obtain⟨x,r,rfl,h1,h2⟩:=h.of_cons
  cases p7 with
  | nil=>cases k.e9
  | cons d' p7 =>
   obtain⟨x',r',e,k1,k2⟩:=k.of_cons;cases e;rw[eB.one h1 k1,dO.one h2 k2]
theorem gj.one {S:List Addr}{H:Hp}:∀{l l':List (ag × ag)} {vs:List V},gj S H l vs->gj S H l' vs->l.map (·.2)=l'.map (·.2)
 | [],l',vs,h,k=>by
  unfold gj at h;subst h
  cases l' with
  | nil=>rfl
  | cons p l=>unfold gj at k;obtain⟨x,r,e,_⟩:=k;cases e
 | (_,d)::l,l',vs,h,k=>by
  unfold gj zz at h;obtain⟨x,r,rfl,h1,h2⟩:=h
  cases l' with
  | nil=>unfold gj at k;cases k
  | cons p l' =>
   unfold gj at k;obtain⟨x',r',e,k1,k2⟩:=k;cases e;have W5:eB S H p.2 x:=by cases p;unfold zz at k1;exact k1
   rw[ar,ar,gj.one h2 k2];show d::_=p.2::_;rw[eB.one h1 W5]
end
structure y8 (X:Cx) (f:ah->ah->Sem ah) (op:ag->ag->Option ag):Prop where
 ex:∃r,lg X f r/\∀gs S H dx dy x y d (R:VK),(∀a∈S,H a≠none)->ko H->fb gs S H dx x->fb gs S H dy y->op dx dy=some d->(∀v H',eB S H' d v->Ext [] H H'->R v H')->r x y H R
noncomputable def eF (f:ag->ag->Option ag)(ua ub:UX):UX:=λenv n Q=>ua env n λx n1=>ub env n1 λy n2=>lE (f x y) λd=>Q d n2
noncomputable def T3 (d:ag)(Q:Bool->Prop):Prop:=match d with | .bool b=>Q b | _=>False
@[simp] theorem fu (b:Bool) (Q:Bool->Prop):T3 (.bool b) Q=Q b:=rfl
noncomputable def fA (u:UX):UT:=λenv n Q=>u env n λd n'=>T3 d λb=>Q b n'
section
variable {X:Cx}{M:Fr}{a b c e:Expr}{ua ub uc:UX}{pos:Pos}{f:ag->ag->Option ag}
theorem Bw
  (hr:∀gs S H dx dy x y d (R:VK),(∀a∈S,H a≠none)->ko H->fb gs S H dx x->fb gs S H dy y->f dx dy=some d->(∀v H',eB S H' d v->Ext [] H H'->R v H')->r x y H R)
  (ok:dS M env pn σ S H n) (hu:eF f ua ub env n Q) (k:∀v H' d n',eB S H' d v->Ext M.gs H H'->M.G H' n'->Q d n'->R v H'):HD r (xv M ua) (xv M ub) σ H R :=
 ⟨env,pn,S,n,_,ok,hu,λx H1 dx n1 r1 x1 g1 _ q1=>⟨env,pn,S,n1,_,ok.step x1 g1,q1,λy H2 dy n2 r2 x2 g2 sz q2=>by
  obtain⟨d,e,q⟩:=q2;exact hr M.gs S H2 dx dy x y d R ((ok.step x1 g1).step x2 g2).has sz (r1.ext ok.p6 x2) r2 e λv H3 r3 x3=>k v H3 d n2 r3 ((x1.trans x2).trans (x3.mono (!4))) (M.ix g2 x3 (!4)) q⟩⟩
theorem mT (ho:y8 X (binaryOp op) f)(ha:KL X M a ua)(hb:KL X M b ub):KE X M (.BinOp a op b pos) (eF f ua ub):=by
 obtain⟨r,h1,h2⟩:=ho.ex;exact .of (fV h1 ha.run hb.run) λσ H R env pn S n Q ok hu k=>Bw h2 ok hu k
theorem K0 (ho:y8 X (compareOp op) f)(ha:KL X M a ua)(hb:KL X M b ub)(hm:behindInMarks op b=false:=by first | exact jZ _ | rfl):KE X M (.Compare a [op] [b] pos) (eF f ua ub):=by
 obtain⟨r,h1,h2⟩:=ho.ex;exact .of (Bg h1 ha.run hb.run hm) λσ H R env pn S n Q ok hu k=>Bw h2 ok hu k
theorem iz (ho:y8 X (compareOp op) f)(ha:KL X M a ua)(hb:KL X M b ub)(hm:behindInMarks op b=false:=by first | exact jZ _ | rfl):KB X M (.Compare a [op] [b] pos) (fA (eF f ua ub)):=by
 obtain⟨r,h1,h2⟩:=ho.ex;refine .of (qk h1 ha.run hb.run hm) λσ H R env pn S n Q ok hu k=>Bw (R:=λx H'=>∃k,x=.bl k/\R k H') h2 ok hu λv H' d n' r x g q=>?_
 cases d with
 | bool b=>exact⟨b,r.lN,k b H' n' x g q⟩
 | _=>exact False.elim q
theorem K1 (h:KE X M e ua)(he:∀mY,isTrue e X.env mY=(do let v <- mY;standAt e.pos;holding [v] (truthy v)):=by rw[6]):KB X M e (fA ua) :=
 .of (zB h.run he) λσ H R env pn S n Q ok hu k=>⟨env,pn,S,n,_,ok,hu,λv H' d n' r x g _ q=>by
  cases d with
  | bool b=>exact⟨b,r.lN,k b H' n' x g q⟩
  | _=>exact False.elim q⟩
noncomputable def CU (u w:UT):UT:=λenv n Q=>u env n λb n1=>if b=true then w env n1 Q else Q false n1
noncomputable def M1 (u w:UT):UT:=λenv n Q=>u env n λb n1=>if b=true then Q true n1 else w env n1 Q
noncomputable def M3 (u:UT):UT:=λenv n Q=>u env n λb n1=>Q (!b) n1
variable {u w:UT}{rest:List Expr}
theorem zM (h:KB X M a u):KW X M (.BoolOp .And [a] pos) u:=⟨Bh h.run⟩
theorem K2 (h:KB X M a u):KW X M (.BoolOp .Or [a] pos) u:=⟨MI h.run⟩
theorem w_and (ha:KB X M a u)(hb:KW X M (.BoolOp .And (b::rest) pos) w):KW X M (.BoolOp .And (a::b::rest) pos) (CU u w) :=
 .of (EA ha.run hb.run) λσ H R env pn S n Q ok hu k=>⟨env,pn,S,n,_,ok,hu,λc H1 n1 x1 g1 q=>by
  cases c with
  | true=>exact⟨env,pn,S,n1,Q,ok.step x1 g1,q,λb H2 n2 x2 g2 q2=>k b H2 n2 (x1.trans x2) g2 q2⟩
  | false=>exact k false H1 n1 x1 g1 q⟩
theorem w_or (ha:KB X M a u)(hb:KW X M (.BoolOp .Or (b::rest) pos) w):KW X M (.BoolOp .Or (a::b::rest) pos) (M1 u w) :=
 .of (P6 ha.run hb.run) λσ H R env pn S n Q ok hu k=>⟨env,pn,S,n,_,ok,hu,λc H1 n1 x1 g1 q=>by
  cases c with
  | false=>exact⟨env,pn,S,n1,Q,ok.step x1 g1,q,λb H2 n2 x2 g2 q2=>k b H2 n2 (x1.trans x2) g2 q2⟩
  | true=>exact k true H1 n1 x1 g1 q⟩
theorem KW.kb (h:KW X M e u):KB X M e u:=⟨h.run.pt⟩
theorem Qo (h:KB X M a u):KB X M (.UnaryOp .Not a pos) (M3 u):=.of (MJ h.run) λσ H R env pn S n Q ok hu k=>⟨env,pn,S,n,_,ok,hu,λc H1 n1 x1 g1 q=>k _ H1 n1 x1 g1 q⟩
noncomputable def EX (t:UT)(ua ub:UX):UX:=λenv n Q=>t env n λc n1=>if c=true then ua env n1 Q else ub env n1 Q
theorem CV (hc:KB X M c u)(ha:KE X M a ua)(hb:KE X M b ub):KE X M (.IfExp c a b pos) (EX u ua ub) :=
 .of (EC hc.run ha.run hb.run) λσ H R env pn S n Q ok hu k=>⟨env,pn,S,n,_,ok,hu,λc H1 n1 x1 g1 q=>by
  cases c with
  | true=>exact⟨env,pn,S,n1,Q,ok.step x1 g1,q,λv H2 d n2 r2 x2 g2 _ q2=>k v H2 d n2 r2 (x1.trans x2) g2 q2⟩
  | false=>exact⟨env,pn,S,n1,Q,ok.step x1 g1,q,λv H2 d n2 r2 x2 g2 _ q2=>k v H2 d n2 r2 (x1.trans x2) g2 q2⟩⟩
noncomputable def xw:ag->Option ag | .int i=>some (.int (-i)) | _=>none
noncomputable def OC (f:ag->Option ag)(ua:UX):UX:=λenv n Q=>ua env n λx n1=>lE (f x) λd=>Q d n1
theorem xy (ha:KE X M a ua):KE X M (.UnaryOp .USub a pos) (OC xw ua) :=
 .of (P5 Mc ha.run) λσ H R env pn S n Q ok hu k=>⟨env,pn,S,n,_,ok,hu,λv H1 d n1 r1 x1 g1 _ q=>by
  obtain⟨d',e,q⟩:=q
  cases d with
  | int i=>cases e;exact⟨i,r1.eQ,k _ H1 _ n1 (.int _) x1 g1 q⟩
  | _=>cases e⟩
end
noncomputable def ie:ag->ag->Option ag
 | .int i,.int j=>some (.int (i+j))
 | .tuple xs,.tuple ys=>if xs.length+ys.length<=az then some (.tuple (xs++ys)) else none
 | .list xs,.list ys=>if xs.length+ys.length<=az then some (.list (xs++ys)) else none
 | .str x,.str y=>if x.length+y.length<=az then some (.str (x++y)) else none
 | _,_=>none
noncomputable def EY:ag->ag->Option ag | .int i,.int j=>some (.int (i - j)) | _,_=>none
instance (i j:Int):Decidable (zk i j):=by unfold zk;infer_instance
instance (i j:Int):Decidable (L9 i j):=by unfold L9;infer_instance
instance (i j:Int):Decidable (L8 i j):=by unfold L8;infer_instance
noncomputable def zN:ag->ag->Option ag
 | .int i,.int j=>if zk i j then some (.int (i * j)) else none
 | .list xs,.int k=>if -(2 ^ 63)<=k/\k<2 ^ 63/\xs.length * k.toNat<=az then some (.list (List.replicate k.toNat xs).flatten) else none
 | .tuple xs,.int k=>if 1<=k/\k<2 ^ 40/\xs≠[]/\xs.length * k.toNat<=16000000 then some (.tuple (List.replicate k.toNat xs).flatten) else none
 | _,_=>none
noncomputable def IG:ag->ag->Option ag | .int i,.int j=>if 0<j then some (.int (i % j)) else none | _,_=>none
noncomputable def EZ:ag->ag->Option ag | .int i,.int j=>some (.bool (decide (i<j))) | _,_=>none
noncomputable def OD:ag->ag->Option ag | .int i,.int j=>some (.bool (decide (j<i))) | _,_=>none
noncomputable def IH (x y:ag):Option ag:=if x.canLay0=true/\y.canLay0=true/\x.depth<=60 then some (.bool (ag.eqv x y)) else none
noncomputable def Qq (x y:ag):Option ag:=if x.canLay0=true/\y.canLay0=true/\x.depth<=60 then some (.bool (!PyData.eqv x y)) else none
noncomputable def vx (x:ag):Bool:=match x with | .none=>true | _=>false
noncomputable def mU (x y:ag):Option ag:=match y with | .none=>some (.bool (!vx x)) | _=>none
noncomputable def K3 (x:ag)(ds:List ag):Option Bool:=if x.canLay0=true/\ag.canLayAll0 ds=true/\x.depth<=60 then some (ds.any λd=>ag.eqv d x) else none
noncomputable def E1 (x y:ag):Option ag:=match y with | .tuple ds=>(K3 x ds).map λb=>.bool (!b) | .list ds=>(K3 x ds).map λb=>.bool (!b) | _=>none
section
variable {X:Cx}
theorem E3 {f:ah->ah->Sem ah}{g:Int->Int->ag}{gv:Int->Int->V}{op:ag->ag->Option ag}(h:lg X f (Kr gv))(hg:∀i j S H,eB S H (g i j) (gv i j))(ho:∀x y d,op x y=some d->∃i j,x=.int i/\y=.int j/\d=g i j):y8 X f op :=
 ⟨_,h,λgs S H dx dy x y d R _ _ r1 r2 e k=>by
  obtain⟨i,j,rfl,rfl,rfl⟩:=ho _ _ _ e;exact⟨i,j,r1.eQ,r2.eQ,k _ H (hg i j S H) (!24)⟩⟩
theorem T4 {f:ah->ah->Sem ah}{C:Int->Int->Prop}{g:Int->Int->ag}{gv:Int->Int->V}{op:ag->ag->Option ag}(h:lg X f (rI C gv))(hg:∀i j S H,eB S H (g i j) (gv i j))(ho:∀x y d,op x y=some d->∃i j,x=.int i/\y=.int j/\C i j/\d=g i j):y8 X f op :=
 ⟨_,h,λgs S H dx dy x y d R _ _ r1 r2 e k=>by
  obtain⟨i,j,rfl,rfl,hc,rfl⟩:=ho _ _ _ e;exact⟨i,j,r1.eQ,r2.eQ,hc,k _ H (hg i j S H) (!24)⟩⟩
theorem Qr:y8 X (binaryOp .Sub) EY:=E3 (g:=λi j=>.int (i - j)) Ma (λ_ _ _ _=>.int _) λx y d e=>by
 cases x<;>cases y<;>simp[EY] at e;exact⟨_,_,rfl,rfl,e.symm⟩
theorem II:y8 X (compareOp .Lt) EZ:=E3 (g:=λi j=>.bool (decide (i<j))) Ks (λ_ _ _ _=>.bl _) λx y d e=>by
 cases x<;>cases y<;>simp[EZ] at e;exact⟨_,_,rfl,rfl,e.symm⟩
theorem Qs:y8 X (compareOp .Gt) OD:=E3 (g:=λi j=>.bool (decide (j<i))) Kt (λ_ _ _ _=>.bl _) λx y d e=>by
 cases x<;>cases y<;>simp[OD] at e;exact⟨_,_,rfl,rfl,e.symm⟩
theorem Qt:y8 X (binaryOp .Mod) IG:=T4 (g:=λi j=>.int (i % j)) kM (λ_ _ _ _=>.int _) λx y d e=>by
 cases x<;>cases y<;>simp[IG] at e;exact⟨_,_,rfl,rfl,e.1,e.2.symm⟩
theorem IJ (r:eB S H d v):vx d=decide (v=.gC):=by
 cases d with
 | none=>cases r.lO;rfl
 | bool b=>cases r.lN;rfl
 | int b=>cases r.eQ;rfl
 | str b=>cases r.j4;rfl
 | tuple b=>obtain⟨a,xs,rfl,_⟩:=r.fz;rfl
 | list b=>obtain⟨a,xs,rfl,_⟩:=r.fw;rfl
 | dict b=>obtain⟨a,t,kvs,xs,rfl,_⟩:=r.lM;rfl
theorem fb.W6 (r:fb gs S H d v):vx d=decide (v=.gC):=by
 rcases r with r | ⟨ds,a,xs,rfl,rfl,_⟩ | ⟨t,kvs,a,xs,rfl,rfl,_⟩
 .exact IJ r
 .rfl
 .rfl
theorem Bx:y8 X (compareOp .IsNot) mU:=⟨_,HH,λgs S H dx dy x y d R _ _ r1 r2 e k=>by
 cases dy with
 | none=>cases e;exact⟨r2.lO,r1.W6 ▸ k _ H (.bl _) (!24)⟩
 | _=>cases e⟩
theorem fb.reads (r:fb gs S H d v)(c0:d.canLay0=true)(ok:lD P w H h)(rv:RelV v u):∃as,Reads h u d as:=by
 rcases r with r | ⟨ds,a,xs,rfl,rfl,ha,rs,_⟩ | ⟨t,kvs,a,xs,rfl,_⟩
 .exact eB.reads ok c0 r rv
 .cases (show u=ah.ref a from rv)
  obtain⟨_,its,n,rv,e⟩:=ok a _ ha;obtain⟨as,ra⟩:=dO.reads ok (by simpa [ag.canLay0] using c0) rs rv;exact⟨_,.list e rfl rfl (by simpa using ra)⟩
 .simp[fg,ag.canLay0] at c0
noncomputable def Qu (neg:Bool):R2:=λx y H Q=>∃gs S dx dy,fb gs S H dx x/\fb gs S H dy y/\dx.canLay0=true/\dy.canLay0=true/\dx.depth<=60/\Q (.bl (if neg then !PyData.eqv dx dy else ag.eqv dx dy)) H
theorem M4 (G8:X.A.units+64<cLine):lg X (compareOp .Eq) (Qu false):=by
 intro pins s σ H x y v u Q I rx ry h;obtain⟨gs,S,dx,dy,h1,h2,c1,c2,d1,q⟩:=h;obtain⟨as,ra⟩:=h1.reads c1 I.eP rx;obtain⟨bs,rb⟩:=h2.reads c2 I.eP ry;exact SeqAt.compareEq_reads ra rb c1 c2 (!1) ⟨.bl _,H,I,rfl,q⟩
theorem M5 (G8:X.A.units+64<cLine):lg X (compareOp .NotEq) (Qu true):=by
 intro pins s σ H x y v u Q I rx ry h;obtain⟨gs,S,dx,dy,h1,h2,c1,c2,d1,q⟩:=h;obtain⟨as,ra⟩:=h1.reads c1 I.eP rx;obtain⟨bs,rb⟩:=h2.reads c2 I.eP ry;exact SeqAt.compareNe_reads ra rb c1 c2 (!1) ⟨.bl _,H,I,rfl,q⟩
theorem E4 (G8:X.A.units+64<cLine):y8 X (compareOp .Eq) IH:=⟨_,M4 G8,λgs S H dx dy x y d R _ _ r1 r2 e k=>by
 unfold IH at e;split at e
 .rename_i hc
  cases e;exact⟨gs,S,dx,dy,r1,r2,hc.1,hc.2.1,hc.2.2,k _ H (.bl _) (!24)⟩
 .cases e⟩
theorem T5 (G8:X.A.units+64<cLine):y8 X (compareOp .NotEq) Qq:=⟨_,M5 G8,λgs S H dx dy x y d R _ _ r1 r2 e k=>by
 unfold Qq at e;split at e
 .rename_i hc
  cases e;exact⟨gs,S,dx,dy,r1,r2,hc.1,hc.2.1,hc.2.2,k _ H (.bl _) (!24)⟩
 .cases e⟩
end
section
variable {X:Cx}
theorem fb.IK {K:W.Frag}{gs S:List Addr}{H:Hp}{ds:List ag}{v:V}(h:fb gs S H (.tuple ds) v):∃a xs,v=.ref a/\iQ K H a xs/\H a=some (.tup xs)/\dO S H ds xs:=let ⟨a,xs,e,ha,r⟩:=h.fz;⟨a,xs,e,iQ.of ha,ha,r⟩
theorem fb.G9 {K:W.Frag}{gs S:List Addr}{H:Hp}{ds:List ag}{v:V}(h:fb gs S H (.list ds) v):∃a xs,v=.ref a/\gD K H a xs/\H a=some (.lst xs)/\dO S H ds xs:=let ⟨a,xs,e,ha,r⟩:=h.fw;⟨a,xs,e,gD.of ha,ha,r⟩
theorem qo {S:List Addr}{H:Hp}{ds:List ag}{xs:List V}{p:Addr}(hp:H p=none)(r:dO S H ds xs):eB S (eM H p (.tup xs)) (.tuple ds) (.ref p):=.tup dP (r.ext (.new hp))
theorem qp (has:∀a∈S,H a≠none)(hp:H p=none)(r:dO S H ds xs):eB S (eM H p (.lst xs)) (.list ds) (.ref p):=.lst dP (λz=>has p z hp) (r.ext (.new hp))
theorem dO.flat (r:dO S H ds xs)(k:Nat):dO S H (List.replicate k ds).flatten (List.replicate k xs).flatten:=by
 induction k with
 | zero=>exact .nil
 | succ k ih=>rw[aZ,aZ,cK,cK];exact r.append ih
theorem ku:y8 X (binaryOp .Add) ie:=⟨_,((lH.or (TK X.K)).or Ei).or zm,λgs S H dx dy x y d R has sz r1 r2 e k=>by
 cases dx with
 | int i=>cases dy with
  | int j=>cases e;exact .inl (.inl (.inl ⟨i,j,r1.eQ,r2.eQ,k _ H (.int _) (!24)⟩))
  | _=>cases e
 | str i=>cases dy with
  | str j =>
   simp only[ie] at e;split at e
   .rename_i hz
    cases e;exact .inr ⟨i,j,r1.j4,r2.j4,hz,k _ H (.str _) (!24)⟩
   .cases e
  | _=>cases e
 | tuple ds=>cases dy with
  | tuple es =>
   simp only[ie] at e;split at e
   .rename_i hz
    cases e;obtain⟨a,xs,rfl,s1,h1,q1⟩:=r1.IK (K:=X.K);obtain⟨b,ys,rfl,s2,h2,q2⟩:=r2.IK (K:=X.K);refine .inl (.inl (.inr ⟨a,b,xs,ys,rfl,rfl,s1,s2,by rw[q1.length,q2.length];exact hz,λe=>?_,λe=>?_,λp hp=>k _ _ (qo hp (q1.append q2)) (.new hp)⟩))
    .subst e
     cases ds with
     | nil=>exact k _ H (.tup h2 q2) (!24)
     | cons d ds=>have:=q1.length;simp at this
    .subst e
     cases es with
     | nil=>rw[cj] at k;exact k _ H (.tup h1 q1) (!24)
     | cons d ds=>have:=q2.length;simp at this
   .cases e
  | _=>cases e
 | list ds=>cases dy with
  | list es =>
   simp only[ie] at e;split at e
   .rename_i hz
    cases e;obtain⟨a,xs,rfl,h1,q1⟩:=r1.fw;obtain⟨b,ys,rfl,h2,q2⟩:=r2.fw;exact .inl (.inr ⟨a,b,xs,ys,rfl,rfl,h1,h2,by rw[q1.length,q2.length];exact hz,λp hp=>k _ _ (qp has hp (q1.append q2)) (.new hp)⟩)
   .cases e
  | _=>cases e
 | _=>cases dy<;>cases e⟩
theorem Qv:y8 X (binaryOp .Mult) zN:=⟨_,(lI.or Ej).or (EV X.K),λgs S H dx dy x y d R has sz r1 r2 e k=>by
 cases dx with
 | int i=>cases dy with
  | int j =>
   simp only[zN] at e;split at e
   .rename_i hz
    cases e;exact .inl (.inl ⟨i,j,r1.eQ,r2.eQ,hz,k _ H (.int _) (!24)⟩)
   .cases e
  | _=>cases e
 | list ds=>cases dy with
  | int j =>
   simp only[zN] at e;split at e
   .rename_i hz
    cases e;obtain⟨a,xs,rfl,h1,q1⟩:=r1.fw;exact .inl (.inr ⟨a,j,xs,rfl,r2.eQ,h1,hz.1,hz.2.1,by rw[q1.length];exact hz.2.2,λp hp=>k _ _ (qp has hp (q1.flat _)) (.new hp)⟩)
   .cases e
  | _=>cases e
 | tuple ds=>cases dy with
  | int j =>
   simp only[zN] at e;split at e
   .rename_i hz
    cases e;obtain⟨a,xs,rfl,s1,h1,q1⟩:=r1.IK (K:=X.K);by_cases h:j=1
    .subst h
     refine .inr (.inl ⟨a,xs,rfl,r2.eQ,s1,k _ H ?_ (!24)⟩);simpa using eB.tup h1 q1
    .refine .inr (.inr ⟨a,j,xs,rfl,r2.eQ,s1,λz=>?_,!1,hz.2.1,by rw[q1.length];exact hz.2.2.2,λp hp=>k _ _ (qo hp (q1.flat _)) (.new hp)⟩)
     subst z;have:=q1.length;exact hz.2.2.1 (by simpa using this.symm)
   .cases e
  | _=>cases e
 | _=>cases dy<;>cases e⟩
noncomputable def T6 (neg:Bool):R2:=λx y H Q=>∃gs S dx ds p xs,fb gs S H dx x/\y=.ref p/\(H p=some (.lst xs)\/H p=some (.tup xs))/\dO S H ds xs/\dx.canLay0=true/\ag.canLayAll0 ds=true/\dx.depth<=60/\Q (.bl (if neg then !(ds.any λd=>ag.eqv d dx) else ds.any λd=>ag.eqv d dx)) H
open Classical in
noncomputable def G' (S:List Addr)(H:Hp)(xs:List V)(dx:ag)(y:ah):Bool:=decide (∃v d,RelV v y/\eB S H d v/\ag.eqv d dx=true)
open Classical in
theorem E5 {S:List Addr}{H:Hp}{xs:List V}{dx d:ag}{v:V}{y:ah}(h1:RelV v y)(h2:eB S H d v):G' S H xs dx y=ag.eqv d dx:=by
 unfold G'
 cases e:ag.eqv d dx with
 | true=>exact decide_eq_true ⟨v,d,h1,h2,e⟩
 | false =>
  refine decide_eq_false λ⟨v',d',k1,k2,k3⟩=>?_;cases RelV.one h1 k1;cases eB.one h2 k2;rw[e] at k3;cases k3
theorem vy:∀{ds:List ag} {xs:List V} {us:List ah},dO S H ds xs->eg xs us->us.any (G' S H zs dx)=ds.any λd=>ag.eqv d dx
 | [],_,_,h,r=>by cases h.e9;cases r;rfl
 | d::ds,_,_,h,r=>by
  obtain⟨x,t,rfl,h1,h2⟩:=h.of_cons
  cases r with
  | cons q1 q2=>rw[cp,cp,vy h2 q2,E5 q1 h1]
theorem zO (ok:lD P w H s.heap)(rx:fb gs S H dx x)(rv:RelV x v)(c1:dx.canLay0=true)(hu:A.units+60<cLine)(hd:dx.depth<=60) :
  ∀{ds:List ag} {xs:List V} {us:List ah},ag.canLayAll0 ds=true->dO S H ds xs->eg xs us->∀u∈us,SeqAt.EqAt A s u v (G' S H zs dx u)
 | [],_,_,_,h,r=>by cases h.e9;cases r;intro u hu;cases hu
 | d::ds,_,_,hc,h,r=>by
  obtain⟨y,t,rfl,h1,h2⟩:=h.of_cons;simp only[ag.canLayAll0,bP] at hc
  cases r with
  | cons q1 q2 =>
   intro u IL;rcases ax.mp IL with rfl | IL
   .rw[E5 q1 h1]
    obtain⟨as,ra⟩:=eB.reads ok hc.1 h1 q1;obtain⟨bs,rb⟩:=rx.reads c1 ok rv;exact SeqAt.eqAt_reads d dx A s _ v as bs ra rb hc.1 c1 (by have:min d.depth dx.depth<=60:=(!1);omega)
   .exact zO ok rx rv c1 hu hd hc.2 h2 q2 u IL
theorem IM (G8:X.A.units+64<cLine):lg X (compareOp .NotIn) (T6 true):=by
 intro pins s σ H x y v u Q I rx ry h;obtain⟨gs,S,dx,ds,p,xs,r1,rfl,hq,rs,c1,c2,hd,q⟩:=h;cases ry;have rf:X.A.in1.units+60<cLine:=by show X.A.units+1+60<cLine;omega
 rcases hq with hq | hq
 .obtain⟨its,r,pl,hz⟩:=I.list (gD.of (K:=X.K) hq)
  refine SeqAt.notIn_listAt (G' S H xs dx) pl.isList (λw hw=>zO I.eP r1 rx c1 rf hd c2 rs r w (by simpa using hw)) ⟨.bl _,H,I,rfl,?_⟩;rw[show its.toArray.any (G' S H xs dx)=its.any (G' S H xs dx) by simp,vy rs r];exact q
 .obtain⟨its,r,pl,hz⟩:=I.tuple (iQ.of (K:=X.K) hq)
  refine SeqAt.notIn_tupleAt (G' S H xs dx) pl (λw hw=>zO I.eP r1 rx c1 rf hd c2 rs r w (by simpa using hw)) ⟨.bl _,H,I,rfl,?_⟩;rw[show its.toArray.any (G' S H xs dx)=its.any (G' S H xs dx) by simp,vy rs r];exact q
theorem E6 (h:K3 x ds=some b):x.canLay0=true/\ag.canLayAll0 ds=true/\x.depth<=60/\(ds.any λd=>ag.eqv d x)=b:=by
 unfold K3 at h;split at h
 .rename_i hc
  cases h;exact⟨hc.1,hc.2.1,hc.2.2,rfl⟩
 .cases h
theorem K4 (G8:X.A.units+64<cLine):y8 X (compareOp .NotIn) E1:=⟨_,IM G8,λgs S H dx dy x y d R _ _ r1 r2 e k=>by
 cases dy with
 | tuple ds =>
  obtain⟨b,hb,rfl⟩:=cu.mp (show (K3 dx ds).map (λb=>ag.bool (!b))=some d from e);obtain⟨c1,c2,c3,rfl⟩:=E6 hb;obtain⟨a,xs,rfl,ha,rs⟩:=r2.fz;exact⟨gs,S,dx,ds,a,xs,r1,rfl,.inr ha,rs,c1,c2,c3,k _ H (.bl _) (!24)⟩
 | list ds =>
  obtain⟨b,hb,rfl⟩:=cu.mp (show (K3 dx ds).map (λb=>ag.bool (!b))=some d from e);obtain⟨c1,c2,c3,rfl⟩:=E6 hb;obtain⟨a,xs,rfl,ha,rs⟩:=r2.fw;exact⟨gs,S,dx,ds,a,xs,r1,rfl,.inl ha,rs,c1,c2,c3,k _ H (.bl _) (!24)⟩
 | _=>cases e⟩
end
noncomputable def gJ (x y:ag):Option ag:=match x,y with | .tuple ds,.int i=>oY ds i | .list ds,.int i=>oY ds i | _,_=>none
theorem xA (r:dO S H ds xs)(h:oY ds i=some d):∃v,oY xs i=some v/\eB S H d v:=by
 unfold oY at h ⊢;rw[r.length]
 cases e:HU ds.length i with
 | none=>rw[e] at h;cases h
 | some j =>
  rw[e] at h;obtain⟨x,hx,rx⟩:=r.at (show ds[j]? = some d from h);exact⟨x,hx,rx⟩
section
variable {X:Cx}{M:Fr}{a b e:Expr}{ua ub:UX}{pos p2:Pos}
theorem fR (ha:KL X M a ua)(hb:KL X M b ub)(hs:va b:=by exact λ_ _=>rfl):KE X M (.Subscript a b pos) (eF gJ ua ub) :=
 .of (n8 ((WZ X.K).or (Io X.K)) ha.run hb.run hs) λσ H R env pn S n Q ok hu k=>Bw (λgs S H dx dy x y d R _ _ r1 r2 e k=>by
  cases dx with
  | tuple ds=>cases dy with
   | int i =>
    obtain⟨a,xs,rfl,sq,_,rs⟩:=r1.IK (K:=X.K);obtain⟨v,hv,rv⟩:=xA rs (show oY ds i=some d from e);exact .inl ⟨a,xs,i,v,rfl,r2.eQ,sq,hv,k v H rv (!24)⟩
   | _=>cases e
  | list ds=>cases dy with
   | int i =>
    obtain⟨a,xs,rfl,sq,_,rs⟩:=r1.G9 (K:=X.K);obtain⟨v,hv,rv⟩:=xA rs (show oY ds i=some d from e);exact .inr ⟨a,xs,i,v,rfl,r2.eQ,sq,hv,k v H rv (!24)⟩
   | _=>cases e
  | _=>cases dy<;>cases e) ok hu k
noncomputable abbrev UO:=eU->Int->(Option Int->Int->Prop)->Prop
structure KO (X:Cx) (M:Fr) (e:Option Expr) (u:UO):Prop where run:∃t,QO X e t/\∀σ H R env pn S n Q,dS M env pn σ S H n->u env n Q->(∀o H' n',Ext M.gs H H'->M.G H' n'->Q o n'->R o H')->t σ H R
noncomputable def E7:UO:=λ_ n Q=>Q none n
noncomputable def E8 (u:UX):UO:=λenv n Q=>u env n λd n1=>match d with | .int i=>Q (some i) n1 | _=>False
theorem qt:KO X M none E7:=⟨_,Bi,λσ H R env pn S n Q ok hu k=>k none H n (!24) ok.gd hu⟩
theorem qu (h:KE X M e ua):KO X M (some e) (E8 ua):=⟨_,Bj h.run,λσ H R env pn S n Q ok hu k=>⟨env,pn,S,n,_,ok,hu,λv H1 d n1 r1 x1 g1 _ q=>by
 cases d with
 | int i=>exact⟨i,r1.eQ,k _ H1 n1 x1 g1 q⟩
 | _=>exact False.elim q⟩⟩
noncomputable def vz {α:Type}(xs:List α)(lo hi:Option Int):List α:=(xs.drop (HT.gK xs.length 0 lo)).take (HT.gK xs.length xs.length hi - HT.gK xs.length 0 lo)
noncomputable def Qw (d:ag)(lo hi:Option Int):Option ag:=match d with | .tuple ds=>some (.tuple (vz ds lo hi)) | .list ds=>some (.list (vz ds lo hi)) | _=>none
noncomputable def E9 (u:UX)(ul uh:UO):UX:=λenv n Q=>u env n λd n1=>ul env n1 λlo n2=>uh env n2 λhi n3=>lE (Qw d lo hi) λd=>Q d n3
theorem rh (r:dO S H ds xs)(lo hi:Option Int):dO S H (vz ds lo hi) (nY xs lo hi):=by
 unfold vz nY;rw[r.length];exact (r.drop _).take _
theorem CW {S:List Addr}{H:Hp}{ds:List ag}{xs:List V}(r:dO S H ds xs){lo hi:Option Int}(h:nY xs lo hi=xs):vz ds lo hi=ds:=by
 have:=rh r lo hi;rw[h] at this;exact dO.one this r
theorem IP {lo hi:Option Expr}{ul uh:UO}(he:KL X M e ua)(hl:KO X M lo ul)(hu:KO X M hi uh):KE X M (.Subscript e (.Slice lo hi none p2) pos) (E9 ua ul uh):=by
 obtain⟨tl,q1,l1⟩:=hl.run;obtain⟨th,q2,l2⟩:=hu.run;refine .of (xl ((W0 X.K).or (VU X.K)) he.run q1 q2) λσ H R env pn S n Q ok hu k=>⟨env,pn,S,n,_,ok,hu,λv H1 d n1 r1 x1 g1 _ q=>?_⟩;refine l1 σ H1 _ env pn S n1 _ (ok.step x1 g1) q λlo H2 n2 x2 g2 q=>?_;refine l2 σ H2 _ env pn S n2 _ ((ok.step x1 g1).step x2 g2) q λhi H3 n3 x3 g3 q=>?_;obtain⟨d',e,q⟩:=q;have Ha:=((ok.step x1 g1).step x2 g2).step x3 g3;have r3:=(r1.ext ok.p6 x2).ext ok.p6 x3;have M6:=(x1.trans x2).trans x3
 cases d with
 | tuple ds =>
  cases e;obtain⟨a,xs,rfl,sq,ha,rs⟩:=r3.IK (K:=X.K);refine .inl ⟨a,xs,rfl,sq,λh=>?_,λp hp=>k _ _ _ n3 (qo hp (rh rs lo hi)) (M6.trans (.new hp)) (M.ix g3 (.new (S:=[]) hp) (!4)) q⟩;have:=CW rs h;exact k _ H3 _ n3 (.tup ha (by rw[this];exact rs)) M6 g3 q
 | list ds =>
  cases e;obtain⟨a,xs,rfl,sq,ha,rs⟩:=r3.G9 (K:=X.K);exact .inr ⟨a,xs,rfl,sq,λp hp=>k _ _ _ n3 (qp Ha.has hp (rh rs lo hi)) (M6.trans (.new hp)) (M.ix g3 (.new (S:=[]) hp) (!4)) q⟩
 | _=>cases e
end
structure lj (X:Cx) (fv:ah) (f:List ag->Option ag):Prop where
 ex:∃r,f6 X fv r/\∀gs S H ds vs d (R:VK),(∀a∈S,H a≠none)->ko H->jJ gs S H ds vs->f ds=some d->(∀v H',eB S H' d v->Ext [] H H'->R v H')->r vs H R
noncomputable def uf (f:List ag->Option ag)(ua:UA):UX:=λenv n Q=>ua env n λds n1=>lE (f ds) λd=>Q d n1
section
variable {X:Cx}{M:Fr}{e:Expr}{es:List Expr}{ua:UA}{p pos:Pos}{f:List ag->Option ag}{id T:String}{x:Str}
theorem K5 (hr:∀gs S H ds vs d (R:VK),(∀a∈S,H a≠none)->ko H->jJ gs S H ds vs->f ds=some d->(∀v H',eB S H' d v->Ext [] H H'->R v H')->r vs H R)(ok:dS M env pn σ S H n)(hu:uf f ua env n Q)(k:∀v H' d n',eB S H' d v->Ext M.gs H H'->M.G H' n'->Q d n'->R v H'):Pm r (EW M ua) σ H R :=
 ⟨env,pn,S,n,_,ok,hu,λvs H1 ds n1 r1 x1 g1 sz q=>by
  obtain⟨d,e,q⟩:=q;exact hr M.gs S H1 ds vs d R (ok.step x1 g1).has sz r1 e λv H2 r2 x2=>k v H2 d n1 r2 (x1.trans (x2.mono (!4))) (M.ix g1 x2 (!4)) q⟩
theorem xB (hc:lj X (.builtin id) f)(hm:X.mg x=none)(ha:KZ X M (e::es) ua)(hg:Gl X x:=by rfl)(hv:bootBuiltins x=some (.builtin id):=by decide +kernel)(hn:x ≠ "__name__" := by decide)(oX:(x == (!12))=false:=by decide) :
  KE X M (.Call (!25) (e::es) [] pos) (uf f ua):=by
 obtain⟨r,h1,h2⟩:=hc.ex;exact .of (gE h1 hg hm hv ha.run hn oX) λσ H R env pn S n Q ok hu k=>K5 h2 ok hu k
theorem CY (hc:lj X (.type T) f)(hm:X.mg x=none)(ha:KZ X M (e::es) ua)(hg:Gl X x:=by rfl)(hv:bootBuiltins x=some (.type T):=by decide +kernel)(hn:x ≠ "__name__" := by decide)(oX:(x == (!12))=false:=by decide) :
  KE X M (.Call (!25) (e::es) [] pos) (uf f ua):=by
 obtain⟨r,h1,h2⟩:=hc.ex;exact .of (kl h1 hg hm hv ha.run hn oX) λσ H R env pn S n Q ok hu k=>K5 h2 ok hu k
end
theorem jJ.one (h:jJ gs S H [d] vs):∃v,vs=[v]/\fb gs S H d v:=let ⟨v,r,e,h1,h2⟩:=h;⟨v,by rw[e,show r=[] from h2],h1⟩
theorem jJ.two (h:jJ gs S H [d,e] vs):∃v w,vs=[v,w]/\fb gs S H d v/\fb gs S H e w:=let ⟨v,r,e,h1,h2⟩:=h;let ⟨w,e2,h3⟩:=jJ.one h2;⟨v,w,by rw[e,e2],h1,h3⟩
noncomputable def xC:List ag->Option ag | [.tuple ds]=>some (.int ds.length) | [.list ds]=>some (.int ds.length) | _=>none
noncomputable def Fb:List ag->Option ag | [.int i]=>some (.int (if i<0 then -i else i)) | _=>none
noncomputable def xD:List ag->Option ag | [.int i,.int j]=>some (.int (if j<i then j else i)) | _=>none
noncomputable def xE:List ag->Option ag | [.int i,.int j]=>some (.int (if j > i then j else i)) | _=>none
noncomputable def intD:List ag->Option ag | [.int i]=>some (.int i) | [.bool b]=>some (.int (if b then 1 else 0)) | _=>none
noncomputable def jk:List ag->Option ag | [.tuple ds]=>some (.tuple ds) | [.list ds]=>some (.tuple ds) | _=>none
section
variable {X:Cx}
theorem K6:lj X (.builtin "len") xC:=⟨_,MQ X.K,λgs S H ds vs d R _ _ rs e k=>by
 rcases ds with _ | ⟨d1,_ | ⟨d2,l⟩⟩
 .cases e
 .obtain⟨v,rfl,r⟩:=rs.one
  cases d1 with
  | tuple ds =>
   cases e;obtain⟨a,xs,rfl,sq,_,rr⟩:=r.IK (K:=X.K);refine⟨a,xs,rfl,.inr sq,?_⟩;rw[rr.length];exact k _ H (.int _) (!24)
  | list ds =>
   cases e;obtain⟨a,xs,rfl,sq,_,rr⟩:=r.G9 (K:=X.K);refine⟨a,xs,rfl,.inl sq,?_⟩;rw[rr.length];exact k _ H (.int _) (!24)
  | _=>cases e
 .cases d1<;>cases e⟩
theorem K7:lj X (.builtin "abs") Fb:=⟨_,D',λgs S H ds vs d R _ _ rs e k=>by
 rcases ds with _ | ⟨d1,_ | ⟨d2,l⟩⟩
 .cases e
 .obtain⟨v,rfl,r⟩:=rs.one
  cases d1 with
  | int i=>cases e;exact⟨i,by rw[r.eQ],k _ H (.int _) (!24)⟩
  | _=>cases e
 .cases d1<;>cases e⟩
theorem xF {f:List ag->Option ag}(hf:∀ds d,f ds=some d->∃i j,ds=[.int i,.int j]){gs S:List Addr}{H:Hp}{ds:List ag}{vs:List V}{d:ag}(rs:jJ gs S H ds vs)(e:f ds=some d):∃i j,ds=[.int i,.int j]/\vs=[.int i,.int j]:=by
 obtain⟨i,j,rfl⟩:=hf _ _ e;obtain⟨v,w,rfl,r,r2⟩:=rs.two;exact⟨i,j,rfl,by rw[r.eQ,r2.eQ]⟩
theorem IQ (ds:List ag)(d:ag)(e:xD ds=some d):∃i j,ds=[.int i,.int j]:=by
 unfold xD at e;split at e
 .exact⟨_,_,rfl⟩
 .cases e
theorem IS (ds:List ag)(d:ag)(e:xE ds=some d):∃i j,ds=[.int i,.int j]:=by
 unfold xE at e;split at e
 .exact⟨_,_,rfl⟩
 .cases e
theorem M7 (hc:X.calm=true):lj X (.builtin "min") xD:=⟨_,Cv hc,λgs S H ds vs d R _ _ rs e k=>by
 obtain⟨i,j,rfl,rfl⟩:=xF IQ rs e;cases e;exact⟨i,j,rfl,k _ H (.int _) (!24)⟩⟩
theorem M8 (hc:X.calm=true):lj X (.builtin "max") xE:=⟨_,Cu hc,λgs S H ds vs d R _ _ rs e k=>by
 obtain⟨i,j,rfl,rfl⟩:=xF IS rs e;cases e;exact⟨i,j,rfl,k _ H (.int _) (!24)⟩⟩
theorem Qx:lj X (.type "int") intD:=⟨_,tI,λgs S H ds vs d R _ _ rs e k=>by
 rcases ds with _ | ⟨d1,_ | ⟨d2,l⟩⟩
 .cases e
 .obtain⟨v,rfl,r⟩:=rs.one
  cases d1 with
  | int i=>cases e;exact .inl ⟨i,by rw[r.eQ],k _ H (.int _) (!24)⟩
  | bool i=>cases e;exact .inr ⟨i,by rw[r.lN],k _ H (.int _) (!24)⟩
  | _=>cases e
 .cases d1<;>cases e⟩
theorem om:lj X (.type "tuple") jk:=⟨_,zE X.K,λgs S H ds vs d R _ _ rs e k=>by
 rcases ds with _ | ⟨d1,_ | ⟨d2,l⟩⟩
 .cases e
 .obtain⟨v,rfl,r⟩:=rs.one
  cases d1 with
  | tuple ds =>
   cases e;obtain⟨a,xs,rfl,sq,ha,rr⟩:=r.IK (K:=X.K);exact⟨a,xs,rfl,.inr ⟨sq,k _ H (.tup ha rr) (!24)⟩⟩
  | list ds =>
   cases e;obtain⟨a,xs,rfl,sq,_,rr⟩:=r.G9 (K:=X.K);exact⟨a,xs,rfl,.inl ⟨sq,λl hl=>k _ _ (qo hl rr) (.new hl)⟩⟩
  | _=>cases e
 .cases d1<;>cases e⟩
end
section
theorem eJ {α:Type}{l:List (Option α)}{i j:Nat}{x:α}{y:Option α}(h:(l.set i y)[j]? = some (some x)):(i=j/\y=some x)\/(i≠j/\l[j]? = some (some x)):=by
 by_cases e:i=j
 .subst e
  by_cases hl:i<l.length
  .rw[cF hl] at h;exact .inl ⟨rfl,Option.some.inj h⟩
  .rw[bL (by rw[be];omega)] at h;cases h
 .rw[aP e] at h;exact .inr ⟨e,h⟩
theorem iG {α:Type}{l:List (Option α)}{i:Nat}{y:Option α}(h:i<l.length):(l.set i y)[i]? = some y:=cF h
theorem dS.set (ok:dS M env pn σ S H n)(r:eB S H d v)(hi:i ∉ M.fd):dS M (env.set i (some (.s d))) pn (σ.set i (some v)) S H n:=by
 refine⟨λj e he=>?_,λj k ds es a h1 h2 h3 h4=>?_,by rw[be,be,ok.len],λj hj=>?_,ok.gd,ok.ext,ok.s0,ok.sn,ok.has,ok.pin⟩
 .have hl:i<env.length->i<σ.length:=λz=>by rw[<- ok.len];exact z
  rcases eJ he with⟨rfl,e1⟩ | ⟨ne,e1⟩
  .cases e1
   have:i<env.length:=by
    by_cases z:i<env.length
    .exact z
    .rw[bL (by rw[be];omega)] at he;cases he
   exact⟨v,iG (hl this),r⟩
  .obtain⟨v',hv,rv⟩:=ok.val j e e1
   exact⟨v',by rw[aP ne];exact hv,rv⟩
 .rcases eJ h1 with⟨_,e1⟩ | ⟨n1,e1⟩
  .cases e1
  .rcases eJ h2 with⟨_,e2⟩ | ⟨n2,e2⟩
   .cases e2
   .rw[aP n1] at h3
    rw[aP n2] at h4;exact ok.ne j k ds es a e1 e2 h3 h4
 .have:i≠j:=λz=>hi (z ▸ hj)
  rw[aP this];exact ok.xu j hj
theorem dS.anew (ok:dS M env pn σ S H n)(h0:H a=none):M.H0 a=none:=by
 by_cases z:a∈M.gs
 .exact absurd h0 (M.sZ ok.gd a z)
 .exact ok.ext.fresh z h0
theorem pL.fresh (h:pL M S H e v)(h0:H a=none):pL M (a::S) H e v:=by
 cases e with
 | s d=>exact eB.fresh h0 h
 | o ds =>
  obtain⟨b,xs,e,hb,r,hs,h1⟩:=h;exact⟨b,xs,e,hb,r.fresh h0,ai _ hs,h1⟩
 | x c as =>
  obtain⟨b,dx,vs,e,ha,hd,r,g1,g2⟩:=h;exact⟨b,dx,vs,e,ha,hd,r.fresh h0,g1,g2⟩
 | d b t kvs =>
  obtain⟨e,xs,hb,r,hk,hs,h1⟩:=h;exact⟨e,xs,hb,r.fresh h0,hk,ai _ hs,h1⟩
 | f b o kvs xs =>
  obtain⟨e,hb,r,hs,h1⟩:=h;exact⟨e,hb,r.fresh h0,ai _ hs,h1⟩
theorem dS.Qy (ok:dS M env pn σ S H n)(h0:H a=none)(h1:H' a=some (.lst xs))(r:dO (a::S) H' ds xs)(x:Ext M.gs H H')(g:M.G H' n')(hi:i ∉ M.fd) :
  dS M (env.set i (some (.o ds))) pn (σ.set i (some (.ref a))) (a::S) H' n':=by
 have hg:∀b∈M.gs,b∈a::S:=λb hb=>ai _ (ok.p6 b hb)
 have VX:∀(j:Nat) (es:List ag) (b:Addr),env[j]? = some (some (.o es))->σ[j]? = some (some (.ref b))->b≠a:=λj es b e1 e2 z=>by
  obtain⟨v',hv,rv⟩:=ok.val j _ e1;obtain⟨c,xs,e,hc,_,hs,_⟩:=rv;subst e;rw[e2] at hv;cases hv;rw[z] at hs;exact ok.has _ hs h0
 have jK:=ok.step x g;refine⟨λj e he=>?_,λj k p7 es b h2 h3 h4 h5=>?_,by rw[be,be,ok.len],λj hj=>?_,g,jK.ext,λb hb=>ai _ (ok.s0 b hb),λb hb=>?_,λb hb=>?_,λp hp=>?_⟩
 .rcases eJ he with⟨rfl,e1⟩ | ⟨ne,e1⟩
  .cases e1
   have:i<env.length:=by
    by_cases z:i<env.length
    .exact z
    .rw[bL (by rw[be];omega)] at he;cases he
   exact⟨.ref a,iG (by rw[<- ok.len];exact this),a,xs,rfl,h1,r,aq ..,ok.anew h0⟩
  .obtain⟨v',hv,rv⟩:=ok.val j e e1
   exact⟨v',by rw[aP ne];exact hv,(rv.fresh h0).step hg x⟩
 .rcases eJ h2 with⟨rfl,e1⟩ | ⟨n1,e1⟩
  .have DN:i<σ.length:=by
    by_cases z:i<σ.length
    .exact z
    .rw[bL (by rw[be];omega)] at h4;cases h4
   rw[iG DN] at h4;cases h4;rcases eJ h3 with⟨e3,_⟩ | ⟨n2,e2⟩
   .exact e3
   .rw[aP n2] at h5
    exact absurd rfl (VX k _ _ e2 h5)
  .rw[aP n1] at h4
   rcases eJ h3 with⟨rfl,e2⟩ | ⟨n2,e2⟩
   .have DN:i<σ.length:=by
     by_cases z:i<σ.length
     .exact z
     .rw[bL (by rw[be];omega)] at h5;cases h5
    rw[iG DN] at h5;cases h5;exact absurd rfl (VX j _ _ e1 h4)
   .rw[aP n2] at h5
    exact ok.ne j k _ _ b e1 e2 h4 h5
 .have:i≠j:=λz=>hi (z ▸ hj)
  rw[aP this];exact ok.xu j hj
 .rcases ax.mp hb with z | z
  .rw[z];exact .inr (ok.anew h0)
  .exact ok.sn b z
 .rcases ax.mp hb with z | z
  .rw[z,h1];simp
  .exact jK.has b z
 .exact ((ok.pin p hp).fresh h0).ext (x.mono hg)
theorem dS.put (ok:dS M env pn σ S H n){ds es:List ag}{a:Addr}{xs ys:List V}(he:env[i]? = some (some (.o ds)))(hv:σ[i]? = some (some (.ref a)))(ha:H a=some (.lst xs))(r:dO S H es ys):dS M (env.set i (some (.o es))) pn σ S (eM H a (.lst ys)) n:=by
 obtain⟨v',wD,a',pN,e',lp,_,hs,h0⟩:=ok.val i _ he;subst e';rw[hv] at wD;cases wD;have x:Ext [a] H (eM H a (.lst ys)):=.set (!4) ha;have xS:Ext S H (eM H a (.lst ys)):=x.mono (by simpa using hs);refine⟨λj e hj=>?_,λj k p7 tE b h2 h3 h4 h5=>?_,by rw[be,ok.len],ok.xu,M.ix ok.gd x (by simpa using h0),ok.ext.TB h0 ha,ok.s0,ok.sn,λb hb=>?_,λp hp=>(ok.pin p hp).ext xS⟩
 .rcases eJ hj with⟨rfl,e1⟩ | ⟨ne,e1⟩
  .cases e1
   exact⟨_,hv,a,ys,rfl,dP,r.ext xS,hs,h0⟩
  .obtain⟨w,hw,kN⟩:=ok.val j e e1
   refine⟨w,hw,?_⟩
   cases e with
   | s d=>exact eB.ext xS kN
   | o tE =>
    obtain⟨b,zs,e2,hb,r2,nT,rm⟩:=kN;subst e2;have:b≠a:=λz=>ne (ok.ne i j _ _ a he e1 hv (z ▸ hw));exact⟨b,zs,rfl,by rw[dU this];exact hb,r2.ext xS,nT,rm⟩
   | x c as =>
    obtain⟨b,dx,vs,e2,hb,hd,r2,g1,g2⟩:=kN;exact⟨b,dx,vs,e2,by rw[dU (λz=>by rw[z,ha] at hb;cases hb)];exact hb,by rw[dU (λz=>by rw[z,ha] at hd;cases hd)];exact hd,r2.ext xS,g1,g2⟩
   | d b t kvs =>
    obtain⟨e2,zs,hb,r2,vp,nT,rm⟩:=kN;exact⟨e2,zs,by rw[dU (λz=>by rw[z,ha] at hb;exact mz hb)];exact hb,r2.ext xS,vp,nT,rm⟩
   | f b o kvs zs =>
    obtain⟨e2,hb,r2,nT,rm⟩:=kN;exact⟨e2,by rw[dU (λz=>by rw[z,ha] at hb;cases hb)];exact hb,r2.ext xS,nT,rm⟩
 .have g1:∃l,env[j]? = some (some (.o l)):=by
   rcases eJ h2 with⟨rfl,_⟩ | ⟨_,e1⟩
   .exact⟨_,he⟩
   .exact⟨_,e1⟩
  have g2:∃l,env[k]? = some (some (.o l)):=by
   rcases eJ h3 with⟨rfl,_⟩ | ⟨_,e1⟩
   .exact⟨_,he⟩
   .exact⟨_,e1⟩
  obtain⟨l1,g1⟩:=g1;obtain⟨l2,g2⟩:=g2;exact ok.ne j k _ _ b g1 g2 h4 h5
 .by_cases z:b=a
  .rw[z,dP];simp
  .rw[dU z];exact ok.has b hb
theorem dS.freeze (ok:dS M env pn σ S H n){ds:List ag}(he:env[i]? = some (some (.o ds))):∃a xs S',σ[i]? = some (some (.ref a))/\H a=some (.lst xs)/\eB S' H (.list ds) (.ref a)/\dS M (env.set i (some (.s (.list ds)))) pn σ S' H n:=by
 obtain⟨v',hv,a,xs,rfl,ha,r,hs,h0⟩:=ok.val i _ he;have less:∀b∈S.filter (·≠a),b∈S:=λb hb=>(aN.mp hb).1;have hr:eB (S.filter (·≠a)) H (.list ds) (.ref a):=.lst ha (!4) (r.less less);refine⟨a,xs,S.filter (·≠a),hv,ha,hr,λj e hj=>?_,λj k p7 tE b h2 h3 h4 h5=>?_,by rw[be,ok.len],ok.xu,ok.gd,ok.ext,λb hb=>?_,λb hb=>ok.sn b (less b hb),λb hb=>ok.has b (less b hb),λp hp=>(ok.pin p hp).less less⟩
 .rcases eJ hj with⟨rfl,e1⟩ | ⟨ne,e1⟩
  .cases e1
   exact⟨_,hv,hr⟩
  .obtain⟨w,hw,kN⟩:=ok.val j e e1
   refine⟨w,hw,?_⟩
   cases e with
   | s d=>exact eB.less less kN
   | o tE =>
    obtain⟨b,zs,e2,hb,r2,nT,rm⟩:=kN;subst e2;have:b≠a:=λz=>ne (ok.ne i j _ _ a he e1 hv (z ▸ hw));exact⟨b,zs,rfl,hb,r2.less less,aN.mpr ⟨nT,by simpa using this⟩,rm⟩
   | x c as =>
    obtain⟨b,dx,vs,e2,hb,hd,r2,g1,g2⟩:=kN;exact⟨b,dx,vs,e2,hb,hd,r2.less less,g1,g2⟩
   | d b t kvs =>
    obtain⟨e2,zs,hb,r2,vp,nT,rm⟩:=kN;have:b≠a:=λz=>by rw[z,ha] at hb;exact mz hb
    exact⟨e2,zs,hb,r2.less less,vp,aN.mpr ⟨nT,by simpa using this⟩,rm⟩
   | f b o kvs zs =>
    obtain⟨e2,hb,r2,nT,rm⟩:=kN;have:b≠a:=λz=>by rw[z,ha] at hb;cases hb
    exact⟨e2,hb,r2.less less,aN.mpr ⟨nT,by simpa using this⟩,rm⟩
 .rcases eJ h2 with⟨_,e1⟩ | ⟨_,e1⟩
  .cases e1
  .rcases eJ h3 with⟨_,e2⟩ | ⟨_,e2⟩
   .cases e2
   .exact ok.ne j k _ _ b e1 e2 h4 h5
 .refine aN.mpr ⟨ok.s0 b hb,?_⟩
  have:b≠a:=λz=>M.s9 b hb (z ▸ h0);simpa using this
theorem dS.pins (ok:dS M env pn σ S H n)(h:∀p∈qn,p∈pn):dS M env qn σ S H n:=⟨ok.val,ok.ne,ok.len,ok.xu,ok.gd,ok.ext,ok.s0,ok.sn,ok.has,λp hp=>ok.pin p (h p hp)⟩
theorem dS.Fc (ok:dS M env pn σ S H n)(h:eB S H d v):dS M env ((d,v)::pn) σ S H n:=⟨ok.val,ok.ne,ok.len,ok.xu,ok.gd,ok.ext,ok.s0,ok.sn,ok.has,λp hp=>by
 rcases ax.mp hp with rfl | hp
 .exact h
 .exact ok.pin p hp⟩
end
noncomputable abbrev UG:=ag->eU->(eU->Prop)->Prop
noncomputable def iT (i:Nat):UG:=λd env Q=>Q (env.set i (some (.s d)))
noncomputable def CZ:List UG->List ag->eU->(eU->Prop)->Prop
 | [],[],env,Q=>Q env
 | u::us,d::ds,env,Q=>u d env λeh=>CZ us ds eh Q
 | _,_,_,_=>False
noncomputable def IU (us:List UG):UG:=λd env Q=>match d with | .tuple ds=>CZ us ds env Q | _=>False
noncomputable def K8 (M:Fr)(u:UG):TG:=λv σ H R=>∃env pn S n d N,dS M env pn σ S H n/\eB S H d v/\u d env N/\∀eh σ',dS M eh pn σ' S H n->N eh->R σ' H
noncomputable def M9 (M:Fr)(us:List UG):LU:=λvs σ H R=>∃env pn S n ds N,dS M env pn σ S H n/\dO S H ds vs/\CZ us ds env N/\∀eh σ',dS M eh pn σ' S H n->N eh->R σ' H
structure KG (X:Cx) (M:Fr) (e:Expr) (u:UG):Prop where run:QG X e (K8 M u)
structure Sd (X:Cx) (M:Fr) (es:List Expr) (us:List UG):Prop where run:KD X es (M9 M us)
theorem QG.weaken (h:QG X e t)(w:∀v σ H Q,t' v σ H Q->t v σ H Q):QG X e t':=⟨λpins s σ H v u D I r q=>h.run pins s σ H v u D I r (w _ σ H _ q)⟩
theorem KD.weaken (h:KD X es t)(w:∀v σ H Q,t' v σ H Q->t v σ H Q):KD X es t':=⟨λpins s σ H v u D I r q=>h.run pins s σ H v u D I r (w _ σ H _ q)⟩
section
theorem W7 (hN:X.N.Nodup)(hx:Loc X.env.scope x)(hi:X.N[i]? = some x:=by rfl)(hf:X.fn x=true\/X.env.scope.names.lookup x=some .local:=by (first | exact .inl rfl | exact .inr rfl | assumption))(hfd:i ∉ M.fd:=by decide):KG X M (.Name x pos) (iT i) :=
 ⟨(n9 hN hi hx hf).weaken λv σ H R h=>R' h λenv pn S n d N h=>h.2.2.2 _ _ (h.1.set h.2.1 hfd) h.2.2.1⟩
theorem rq:Sd X M [] []:=⟨Ij.weaken λvs σ H R h=>R' h λenv pn S n ds N h=>by
 obtain⟨ok,r,hu,k⟩:=h
 cases ds with
 | nil=>exact⟨r.e9,k _ _ ok hu⟩
 | cons d ds=>exact False.elim hu⟩
theorem rA (h:KG X M e u)(hr:Sd X M es us)(hs:(assignEach (e::es) X.env).map (·.2)=assign e X.env::(assignEach es X.env).map (·.2):=by rfl):Sd X M (e::es) (u::us) :=
 ⟨(ED h.run hr.run hs).weaken λvs σ H R h=>R' h λenv pn S n ds N h=>by
  obtain⟨ok,r,hu,k⟩:=h
  cases ds with
  | nil=>exact False.elim hu
  | cons d ds =>
   obtain⟨x,t,rfl,r1,r2⟩:=r.of_cons;exact⟨x,t,rfl,env,pn,S,n,d,_,ok,r1,hu,λeh σ' jK q=>⟨eh,pn,S,n,ds,N,jK,r2,q,k⟩⟩⟩
theorem xG:∀{us:List UG} {ds:List ag} {env:eU} {Q:eU->Prop},CZ us ds env Q->(∀u∈us,∀d env (Q:eU->Prop),u d env Q->∃eh,Q eh)->ds.length=us.length
 | [],[],_,_,_,_=>rfl
 | [],_::_,_,_,h,_=>False.elim h
 | _::_,[],_,_,h,_=>False.elim h
 | u::us,d::ds,env,Q,h,k=>by
  obtain⟨eh,h'⟩:=k u (aq ..) d env _ h;simp only[av];rw[xG h' λw hw=>k w (ai _ hw)]
theorem Qz:∀d env (Q:eU->Prop),iT i d env Q->∃eh,Q eh:=λ_ _ _ h=>⟨_,h⟩
theorem QB (hc:X.calm=true)(h:Sd X M es us)(hu:∀u∈us,∀d env (Q:eU->Prop),u d env Q->∃eh,Q eh)(hl:us.length=n')(hn:(assignEach es X.env).length=n':=by rfl)(Cr:(assignEach es X.env).findIdx? (·.1)=none:=by rfl):KG X M (.Tuple es k pos) (IU us) :=
 ⟨(ML hc h.run hn Cr).weaken λv σ H R h=>R' h λenv pn S n d N h=>by
  obtain⟨ok,r,hh,k⟩:=h
  cases d with
  | tuple ds =>
   obtain⟨a,xs,rfl,ha,rs⟩:=r.fz;exact⟨a,xs,rfl,iQ.of ha,by rw[rs.length,xG hh hu,hl],env,pn,S,n,ds,N,ok,rs,hh,k⟩
  | _=>exact False.elim hh⟩
end
structure y9 (S:List Addr) (J:It) (its:List ag) (H:Hp):Prop where
 go:∀i,i<its.length->J.go i H
 G3:∀i x H',i<its.length->J.G3 i H x H'->∃d,its[i]? = some d/\Ext [] H H'/\eB S H' d x
 stop:∀i,its.length<=i->J.stop i H
noncomputable abbrev UI:=eU->Int->(List ag->eU->Int->Prop)->Prop
noncomputable abbrev UJ:=eU->Int->(List ag->Int->Prop)->Prop
theorem QI.kq (h:QI X tg iter wi):QI X tg iter (λσ H R=>wi σ H λJ H1=>ko H1->R J H1) :=
 ⟨λpins s σ H R I q=>fE (h.run pins s σ H _ I q) λv s1 q1=>fE q1 λit s2 ⟨a,fp,tn,J,H',e,I2,t,t0,f,r⟩=>⟨a,fp,tn,J,H',e,I2,t,t0,f,r I2.eP.kq⟩⟩
structure KI (X:Cx) (M:Fr) (tg iter:Expr) (u:UI):Prop where
 ex:∃wi,QI X tg iter wi/\∀σ H R env pn S n Q,dS M env pn σ S H n->u env n Q ->
  (∀J H' its eh S' n' p,dS M eh (p++pn) σ S' H' n'->(∀S2 H2,(∀q∈p,eB S2 H2 q.1 q.2)->y9 S2 J its H2)->Q its eh n'->R J H')->wi σ H R
structure KJ (X:Cx) (M:Fr) (tg iter:Expr) (u:UJ):Prop where
 ex:∃wi,QI X tg iter wi/\∀σ H R env pn S n Q,dS M env pn σ S H n->u env n Q ->
  (∀J H' its n',Ext M.gs H H'->M.G H' n'->(∀H2,Ext M.gs H' H2->y9 S J its H2)->its.length<=az->Q its n'->R J H')->wi σ H R
theorem zP {K:W.Frag}{S:List Addr}{H:Hp}{a:Addr}{xs:List V}{ds:List ag}(ha:H a=some (.tup xs))(r:dO S H ds xs):y9 S (Hz K a) ds H :=
 ⟨λi hi=>⟨xs,xs[i]'(by rw[r.length];exact hi),iQ.of ha,!4⟩,λi x H' _ ⟨e,y⟩=>by
  subst e;obtain⟨d,hd,rd⟩:=r.get (y xs (iQ.of ha));exact⟨d,hd,.refl _ _,rd⟩,λi hi=>⟨xs,iQ.of ha,by rw[r.length];exact hi⟩⟩
theorem vA {K:W.Frag}{S:List Addr}{H:Hp}{a:Addr}{xs:List V}{ds:List ag}(ha:H a=some (.lst xs))(r:dO S H ds xs):y9 S (Hy K a) ds H :=
 ⟨λi hi=>⟨xs,xs[i]'(by rw[r.length];exact hi),gD.of ha,!4⟩,λi x H' _ ⟨e,y⟩=>by
  subst e;obtain⟨d,hd,rd⟩:=r.get (y xs (gD.of ha));exact⟨d,hd,.refl _ _,rd⟩,λi hi=>⟨xs,gD.of ha,by rw[r.length];exact hi⟩⟩
noncomputable def i8 (ds:List ag):List ag:=ds.zipIdx.map λp=>.tuple [.int (p.2:Nat),p.1]
theorem jf (ds:List ag):(i8 ds).length=ds.length:=by simp[i8]
theorem xH {ds:List ag}{i:Nat}{d:ag}(h:ds[i]? = some d):(i8 ds)[i]? = some (.tuple [.int (i:Nat),d]):=by
 unfold i8;rw[aB,List.getElem?_zipIdx,h];simp
theorem xI {K:W.Frag}{S:List Addr}{H:Hp}{a:Addr}{xs:List V}{ds:List ag}(ha:H a=some (.tup xs))(r:dO S H ds xs):y9 S (Qg K a) (i8 ds) H :=
 ⟨λi hi=>⟨xs,xs[i]'(by rw[r.length,<- jf];exact hi),iQ.of ha,!4⟩,λi x H' _ ⟨T,xi,e1,hT,e2,T7⟩=>by
  subst e1 e2;obtain⟨d,hd,rd⟩:=r.get (T7 xs (iQ.of ha));exact⟨_,xH hd,.new hT,.tup dP (.cons (.int _) (.cons (rd.ext (.new hT)) .nil))⟩,λi hi=>⟨xs,iQ.of ha,by rw[r.length,<- jf];exact hi⟩⟩
theorem xJ {K:W.Frag}{S:List Addr}{H:Hp}{a:Addr}{xs:List V}{ds:List ag}(ha:H a=some (.lst xs))(r:dO S H ds xs):y9 S (Qi K a) (i8 ds) H :=
 ⟨λi hi=>⟨xs,xs[i]'(by rw[r.length,<- jf];exact hi),gD.of ha,!4⟩,λi x H' _ ⟨T,xi,e1,hT,e2,T7⟩=>by
  subst e1 e2;obtain⟨d,hd,rd⟩:=r.get (T7 xs (gD.of ha));exact⟨_,xH hd,.new hT,.tup dP (.cons (.int _) (.cons (rd.ext (.new hT)) .nil))⟩,λi hi=>⟨xs,gD.of ha,by rw[r.length,<- jf];exact hi⟩⟩
noncomputable def rB (lo:Int)(n:Nat):List ag:=(List.range n).map λ(k:Nat)=>.int (lo+k)
theorem Fd {S:List Addr}{H:Hp}{lo:Int}{n:Nat}:y9 S (R1 lo n) (rB lo n) H :=
 have hl:(rB lo n).length=n:=by simp[rB]
 ⟨λi hi=>by rw[hl] at hi;exact hi,λi x H' hi ⟨e1,e2⟩=>by
  subst e1 e2;rw[hl] at hi;exact⟨.int (lo+(i:Nat)),by simp[rB,cV hi],.refl _ _,.int _⟩,λi hi=>by rw[hl] at hi;exact hi⟩
noncomputable def M' (i:Nat):UI:=λenv n Q=>match env[i]? with | some (some (.s (.tuple ds)))=>Q ds env n | some (some (.s (.list ds)))=>Q ds env n | some (some (.o ds))=>Q ds (env.set i (some (.s (.list ds)))) n | _=>False
noncomputable def p8 (d:ag):Option (List ag):=match d with | .tuple ds=>some ds | .list ds=>some ds | _=>none
noncomputable def QC (u:UX):UI:=λenv n Q=>u env n λd n1=>lE (p8 d) λds=>Q ds env n1
noncomputable def K9 (u:UX):UJ:=λenv n Q=>u env n λd n1=>lE (p8 d) λds=>Q ds n1
noncomputable def T8 (u:UX):UJ:=λenv n Q=>u env n λd n1=>lE (p8 d) λds=>Q (i8 ds) n1
noncomputable def QD (u:UX):UI:=λenv n Q=>u env n λd n1=>lE (p8 d) λds=>Q (i8 ds) env n1
noncomputable def QF (u:UX):UJ:=λenv n Q=>u env n λd n1=>match d with | .int j=>(-(2 ^ 62)<=j/\j<=16777216)/\Q (rB 0 j.toNat) n1 | _=>False
noncomputable def QH (u:UX):UI:=λenv n Q=>u env n λd n1=>match d with | .int j=>-(2 ^ 62)<=j/\j<2 ^ 62/\Q (rB 0 j.toNat) env n1 | _=>False
noncomputable def T9 (K:W.Frag)(te:TE):TI:=λσ H R=>te σ H λx H1=>∃a,x=.ref a/\(((∃xs,gD K H1 a xs)/\R (Hy K a) H1)\/((∃xs,iQ K H1 a xs)/\R (Hz K a) H1))
noncomputable def Ua (K:W.Frag)(ta:TA):TI:=λσ H R=>ta σ H λvs H1=>∃a,vs=[.ref a]/\(((∃xs,gD K H1 a xs)/\R (Qi K a) H1)\/((∃xs,iQ K H1 a xs)/\R (Qg K a) H1))
section
variable {X:Cx}{M:Fr}{tg e a b:Expr}{u w:UX}{p pos IE:Pos}{xt:List Expr}{k:Nat}
theorem zQ (h:QE X e te):QI X tg e (T9 X.K te):=by
 refine⟨λpins s σ H R I q=>fE (h.run pins s σ H _ I q) λv s1 ⟨x,H1,I1,r1,q1⟩=>?_⟩;obtain⟨a,e,q1⟩:=q1;subst e;cases r1;rcases q1 with⟨⟨xs,hq⟩,q⟩ | ⟨⟨xs,hq⟩,q⟩
 .obtain⟨its,rv,p,hz⟩:=I1.list hq
  refine wpAny_pyIter_list p.isList ?_;refine⟨s1.heap.objs.size,[s1.heap.objs.size],_,_,H1,rfl,I1.kept (t':=s1.toks) λb o e=>ak _ e,tH a _,⟨_,ay _ rfl,rfl,rfl⟩,λb hb=>?_,q⟩;have e:b=s1.heap.objs.size:=by simpa using hb
  subst e;exact I1.oW (ap _) (I1.eP.fresh (ap _))
 .obtain⟨its,rv,p,hz⟩:=I1.tuple hq
  refine wpAny_pyIter_tuple (show s1.heap.IsTuple a its.toArray from p) ?_;refine⟨s1.heap.objs.size,[s1.heap.objs.size],_,_,H1,rfl,I1.kept (t':=s1.toks) λb o e=>ak _ e,qP a _,⟨_,ay _ rfl,rfl,rfl⟩,λb hb=>?_,q⟩;have e:b=s1.heap.objs.size:=by simpa using hb
  subst e;exact I1.oW (ap _) (I1.eP.fresh (ap _))
theorem Fe (hg:Gl X "enumerate")(hm:X.mg "enumerate" = none)(ha:QA X [a] ta):QI X (.Tuple xt k IE) (.Call (.Name "enumerate" p) [a] [] pos) (Ua X.K ta):=by
 refine⟨λpins s σ H R I h=>?_⟩;have hs:=fK (env:=X.env) (es:=[]) (m6 ha.ns).1;refine Call_ (oV I hg hm (by decide +kernel:bootBuiltins "enumerate" = some (.type "enumerate")) (PyProof.Rows.callWith_type1 (fE (ha.run pos pins s σ H _ I h) λus s1 ⟨vs,H1,I1,r1,q1⟩=>?_) hs rfl));obtain⟨t,e,q1⟩:=q1;subst e
 have VY:∀b∈[s1.heap.objs.size+1,s1.heap.objs.size],pW X pins H1 b:=λb hb=>by
  have y':s1.heap.objs.size<=b:=by
   rcases ax.mp hb with z | z
   .rw[z];exact dv _
   .have z':b=s1.heap.objs.size:=by simpa using z
    rw[z'];exact ap _
  obtain⟨p0,p1,p2,p3,p4,p5⟩:=I1.oW y' (I1.eP.fresh y');exact⟨p0,p1,p2,p3,p4,p5⟩
 cases r1 with
 | cons r rr =>
  cases rr;cases (show _=ah.ref t from r);rcases q1 with⟨⟨xs,hq⟩,q⟩ | ⟨⟨xs,hq⟩,q⟩
  .obtain⟨its,rv,pp,hz⟩:=I1.list hq
   refine call_enumerate_list pp.isList λh' en Ub sz kp=>?_;refine wpAny_pyIter_enum en ?_;have I2:Inv X pins σ H1 { s1 with heap:=h' }:=I1.kept (t':=s1.toks) kp;exact⟨s1.heap.objs.size+1,[s1.heap.objs.size+1,s1.heap.objs.size],_,_,H1,rfl,I2,zL t _ _ (cQ _),⟨⟨_,en⟩,Ub⟩,VY,q⟩
  .obtain⟨its,rv,pp,hz⟩:=I1.tuple hq
   refine zJ (show s1.heap.IsTuple t its.toArray from pp) λh' en Ub sz kp=>?_;refine wpAny_pyIter_enum en ?_;have I2:Inv X pins σ H1 { s1 with heap:=h' }:=I1.kept (t':=s1.toks) kp;exact⟨s1.heap.objs.size+1,[s1.heap.objs.size+1,s1.heap.objs.size],_,_,H1,rfl,I2,zK t _ _ (cQ _),⟨⟨_,en⟩,Ub⟩,VY,q⟩
theorem fb.its {K:W.Frag}{gs S:List Addr}{H:Hp}{d:ag}{v:V}{ds:List ag}(r:fb gs S H d v)(e:p8 d=some ds)(hg:∀a∈gs,a∈S):∃a,v=.ref a /\
  (((∃xs,H a=some (.lst xs)/\xs.length=ds.length)/\∀H2,Ext gs H H2->y9 S (Hy K a) ds H2/\y9 S (Qi K a) (i8 ds) H2)\/((∃xs,H a=some (.tup xs)/\xs.length=ds.length)/\∀H2,Ext gs H H2->y9 S (Hz K a) ds H2/\y9 S (Qg K a) (i8 ds) H2)):=by
 cases d with
 | tuple es =>
  cases e;obtain⟨a,xs,rfl,ha,rs⟩:=r.fz;exact⟨a,rfl,.inr ⟨⟨xs,ha,rs.length⟩,λH2 x=>⟨zP (x.tup _ _ ha) (rs.ext (x.mono hg)),xI (x.tup _ _ ha) (rs.ext (x.mono hg))⟩⟩⟩
 | list es =>
  cases e;have r0:=r;obtain⟨a,xs,rfl,ha,rs⟩:=r.fw;refine⟨a,rfl,.inl ⟨⟨xs,ha,rs.length⟩,λH2 x=>?_⟩⟩;obtain⟨a',pN,e',lp,By⟩:=(r0.ext hg x).fw;cases e';exact⟨vA lp By,xJ lp By⟩
 | _=>cases e
theorem uj (h:KL X M e u):KJ X M tg e (K9 u):=⟨_,(zQ h.run).kq,λσ H R env pn S n Q ok hu k=>⟨env,pn,S,n,_,ok,hu,λv H1 d n1 r1 x1 g1 sz q=>by
 obtain⟨ds,e,q⟩:=q;obtain⟨a,rfl,h⟩:=r1.its (K:=X.K) e ok.p6;rcases h with⟨⟨xs,ha,hl⟩,h⟩ | ⟨⟨xs,ha,hl⟩,h⟩
 .exact⟨a,rfl,.inl ⟨⟨xs,gD.of ha⟩,λsz=>k _ H1 ds n1 x1 g1 (λH2 x2=>(h H2 x2).1) (by rw[<- hl];exact sz a xs (.inl ha)) q⟩⟩
 .exact⟨a,rfl,.inr ⟨⟨xs,iQ.of ha⟩,λsz=>k _ H1 ds n1 x1 g1 (λH2 x2=>(h H2 x2).1) (by rw[<- hl];exact sz a xs (.inr ha)) q⟩⟩⟩⟩
theorem Na (hm:X.mg "enumerate" = none)(h:KL X M a u)(hs:eV a=true:=by rfl)(hg:Gl X "enumerate" := by rfl):KJ X M (.Tuple xt k IE) (.Call (.Name "enumerate" p) [a] [] pos) (T8 u) :=
 ⟨_,(Fe hg hm (gZ h.run fi hs)).kq,λσ H R env pn S n Q ok hu k=>⟨env,pn,S,n,_,ok,hu,λv H1 d n1 r1 x1 g1 sz q=>by
  obtain⟨ds,e,q⟩:=q;obtain⟨a,rfl,h⟩:=r1.its (K:=X.K) e ok.p6;rcases h with⟨⟨xs,ha,hl⟩,h⟩ | ⟨⟨xs,ha,hl⟩,h⟩
  .exact⟨a,rfl,.inl ⟨⟨xs,gD.of ha⟩,λsz=>k _ H1 _ n1 x1 g1 (λH2 x2=>(h H2 x2).2) (by rw[jf,<- hl];exact sz a xs (.inl ha)) q⟩⟩
  .exact⟨a,rfl,.inr ⟨⟨xs,iQ.of ha⟩,λsz=>k _ H1 _ n1 x1 g1 (λH2 x2=>(h H2 x2).2) (by rw[jf,<- hl];exact sz a xs (.inr ha)) q⟩⟩⟩⟩
theorem Ff (lo:Int)(n:Nat):(rB lo n).length=n:=by simp[rB]
theorem Bz (hm:X.mg "range" = none)(h:KE X M a u)(hs:eV a=true:=by rfl)(hg:Gl X "range" := by rfl):KJ X M tg (.Call (.Name "range" p) [a] [] pos) (QF u) :=
 ⟨_,tS hg hm (gZ h.run fi hs),λσ H R env pn S n Q ok hu k=>⟨env,pn,S,n,_,ok,hu,λv H1 d n1 r1 x1 g1 sz q=>by
  cases d with
  | int j =>
   have hsz:az=16777216:=by decide
   exact⟨j,by rw[r1.eQ],q.1.1,by have:=q.1.2;omega,k _ H1 _ n1 x1 g1 (λH2 _=>Fd) (by rw[Ff,hsz];have:=q.1.2;omega) q.2⟩
  | _=>exact False.elim q⟩⟩
theorem BA {K:W.Frag}{d:ag}{v:V}{ds:List ag}(e:p8 d=some ds){S:List Addr}{H:Hp}(r:eB S H d v):∃a,v=.ref a /\
  (((∃xs,H a=some (.lst xs))/\∀S2 H2,(∀q∈[(d,v)],eB S2 H2 q.1 q.2)->y9 S2 (Hy K a) ds H2/\y9 S2 (Qi K a) (i8 ds) H2)\/((∃xs,H a=some (.tup xs))/\∀S2 H2,(∀q∈[(d,v)],eB S2 H2 q.1 q.2)->y9 S2 (Hz K a) ds H2/\y9 S2 (Qg K a) (i8 ds) H2)):=by
 cases d with
 | tuple es =>
  cases e;obtain⟨a,xs,rfl,ha,rs⟩:=r.fz;refine⟨a,rfl,.inr ⟨⟨xs,ha⟩,λS2 H2 h=>?_⟩⟩;obtain⟨a',pN,e',lp,By⟩:=(h _ (au.mpr rfl)).fz;cases e';exact⟨zP lp By,xI lp By⟩
 | list es =>
  cases e;obtain⟨a,xs,rfl,ha,_,rs⟩:=r.fw;refine⟨a,rfl,.inl ⟨⟨xs,ha⟩,λS2 H2 h=>?_⟩⟩;obtain⟨a',pN,e',lp,_,By⟩:=(h _ (au.mpr rfl)).fw;cases e';exact⟨vA lp By,xJ lp By⟩
 | _=>cases e
theorem La (h:KE X M e u):KI X M tg e (QC u):=⟨_,zQ h.run,λσ H R env pn S n Q ok hu k=>⟨env,pn,S,n,_,ok,hu,λv H1 d n1 r1 x1 g1 sz q=>by
 obtain⟨ds,e,q⟩:=q;have iK:=(ok.step x1 g1).Fc r1;obtain⟨a,rfl,h⟩:=BA (K:=X.K) e r1;rcases h with⟨⟨xs,ha⟩,h⟩ | ⟨⟨xs,ha⟩,h⟩
 .exact⟨a,rfl,.inl ⟨⟨xs,gD.of ha⟩,k _ H1 ds env S n1 [_] iK (λS2 H2 hh=>(h S2 H2 hh).1) q⟩⟩
 .exact⟨a,rfl,.inr ⟨⟨xs,iQ.of ha⟩,k _ H1 ds env S n1 [_] iK (λS2 H2 hh=>(h S2 H2 hh).1) q⟩⟩⟩⟩
theorem Fg (hm:X.mg "enumerate" = none)(h:KE X M a u)(hs:eV a=true:=by rfl)(hg:Gl X "enumerate" := by rfl):KI X M (.Tuple xt k IE) (.Call (.Name "enumerate" p) [a] [] pos) (QD u) :=
 ⟨_,Fe hg hm (gZ h.run fi hs),λσ H R env pn S n Q ok hu k=>⟨env,pn,S,n,_,ok,hu,λv H1 d n1 r1 x1 g1 sz q=>by
  obtain⟨ds,e,q⟩:=q;have iK:=(ok.step x1 g1).Fc r1;obtain⟨a,rfl,h⟩:=BA (K:=X.K) e r1;rcases h with⟨⟨xs,ha⟩,h⟩ | ⟨⟨xs,ha⟩,h⟩
  .exact⟨a,rfl,.inl ⟨⟨xs,gD.of ha⟩,k _ H1 _ env S n1 [_] iK (λS2 H2 hh=>(h S2 H2 hh).2) q⟩⟩
  .exact⟨a,rfl,.inr ⟨⟨xs,iQ.of ha⟩,k _ H1 _ env S n1 [_] iK (λS2 H2 hh=>(h S2 H2 hh).2) q⟩⟩⟩⟩
theorem qw (hm:X.mg "range" = none)(h:KE X M a u)(hs:eV a=true:=by rfl)(hg:Gl X "range" := by rfl):KI X M tg (.Call (.Name "range" p) [a] [] pos) (QH u) :=
 ⟨_,tS hg hm (gZ h.run fi hs),λσ H R env pn S n Q ok hu k=>⟨env,pn,S,n,_,ok,hu,λv H1 d n1 r1 x1 g1 sz q=>by
  cases d with
  | int j=>exact⟨j,by rw[r1.eQ],q.1,q.2.1,k _ H1 _ env S n1 [] (ok.step x1 g1) (λS2 H2 _=>Fd) q.2.2⟩
  | _=>exact False.elim q⟩⟩
theorem QJ (i:Nat)(hN:X.N[i]? = some x:=by rfl)(hv:qM X.env.scope x:=by (first | exact Or.inl rfl | exact Or.inr (Or.inl rfl) | exact Or.inr (Or.inr rfl)))(hd:(x == (!12))=false:=by decide)
  (jb:(x == (!18))=false:=by decide):KI X M tg (.Name x pos) (M' i):=⟨_,zQ (qv i hN hv hd jb),λσ H R env pn S n Q ok hu k=>by
 unfold M' at hu;split at hu
 .rename_i ds he
  obtain⟨v,hv,r⟩:=ok.val i _ he;obtain⟨a,xs,rfl,ha,rs⟩:=eB.fz r;refine⟨_,hv,a,rfl,.inr ⟨⟨xs,iQ.of ha⟩,k _ H ds env S n [(.tuple ds,.ref a)] (ok.Fc r) (λS2 H2 hh=>?_) hu⟩⟩;obtain⟨a',pN,e',lp,By⟩:=(hh _ (au.mpr rfl)).fz;cases e';exact zP lp By
 .rename_i ds he
  obtain⟨v,hv,r⟩:=ok.val i _ he;obtain⟨a,xs,rfl,ha,_,rs⟩:=eB.fw r;refine⟨_,hv,a,rfl,.inl ⟨⟨xs,gD.of ha⟩,k _ H ds env S n [(.list ds,.ref a)] (ok.Fc r) (λS2 H2 hh=>?_) hu⟩⟩;obtain⟨a',pN,e',lp,_,By⟩:=(hh _ (au.mpr rfl)).fw;cases e';exact vA lp By
 .rename_i ds he
  obtain⟨a,xs,S',hv,ha,r,jK⟩:=ok.freeze he;refine⟨_,hv,a,rfl,.inl ⟨⟨xs,gD.of ha⟩,k _ H ds _ S' n [(.list ds,.ref a)] (jK.Fc r) (λS2 H2 hh=>?_) hu⟩⟩;obtain⟨a',pN,e',lp,_,By⟩:=(hh _ (au.mpr rfl)).fw;cases e';exact vA lp By
 .exact hu.elim⟩
end
noncomputable def d3 (u w:US):US:=λE env n=>u { E with nx:=w E } env n
noncomputable def iA:US:=λE env n=>E.nx env n
noncomputable def iU (c:UT)(u w:US):US:=λE env n=>c env n λb n1=>if b=true then u E env n1 else w E env n1
noncomputable def g6 (u:UX):US:=λE env n=>u env n E.rt
noncomputable def jL (i:Nat):US:=λE env n=>match env[i]? with | some (some (.s d))=>E.rt d n | some (some (.o ds))=>E.rt (.list ds) n | some (some (.d _ t kvs))=>E.rt (fg t kvs) n | _=>False
noncomputable def fc (i:Nat)(u:UX):US:=λE env n=>u env n λd n1=>E.nx (env.set i (some (.s d))) n1
noncomputable def vB (i:Nat)(u:eU->Int->(List ag->Int->Prop)->Prop):US:=λE env n=>u env n λds n1=>E.nx (env.set i (some (.o ds))) n1
noncomputable def IV (u:UX)(g:UG):US:=λE env n=>u env n λd n1=>g d env λeh=>E.nx eh n1
section
variable {X:Cx}{M:Fr}{st:Stmt}{MO body P8:List Stmt}{u w:US}{e c tg iter a b:Expr}{ue ua ub:UX}{uc:UT}{pos:Pos}
theorem KS.of (h:QS X st t)(k:∀D σ H env pn S n E,dS M env pn σ S H n->u E env n->(∀eh σ' S' H' n',dS M eh pn σ' S' H' n'->E.nx eh n'->D.nx σ' H')->(∀v H' d n',eB M.S0 H' d v->Ext M.gs M.H0 H'->M.G H' n'->E.rt d n'->D.rt v H')->t D σ H):KS X M st u :=
 ⟨h.weaken λD σ H h=>CS h λenv pn S n E h=>k D σ H env pn S n E h.1 h.2.1 h.2.2.1 h.2.2.2⟩
theorem jM:wC X M [] iA:=⟨ql.weaken λD σ H h=>CS h λenv pn S n E h=>h.2.2.1 _ _ _ _ _ h.1 h.2.1⟩
theorem d8 (h:KS X M st u):wC X M [st] u:=⟨ig h.run⟩
theorem eL (h:KS X M st u)(hr:wC X M MO w):wC X M (st::MO) (d3 u w):=⟨(eZ h.run hr.run).weaken λD σ H h=>CS h λenv pn S n E h =>
 ⟨env,pn,S,n,_,h.1,h.2.1,λeh σ' S' H' n' jK q=>⟨eh,pn,S',n',E,jK,q,h.2.2.1,h.2.2.2⟩,h.2.2.2⟩⟩
theorem xK (hc:KB X M c uc)(ha:wC X M body u)(hb:wC X M P8 w):KS X M (.If c body P8 pos) (iU uc u w):=.of (Bl hc.run ha.run hb.run) λD σ H env pn S n E ok hu k1 k2 =>
 ⟨env,pn,S,n,_,ok,hu,λb H1 n1 x1 g1 q=>by
  cases b with
  | true=>exact⟨env,pn,S,n1,E,ok.step x1 g1,q,k1,k2⟩
  | false=>exact⟨env,pn,S,n1,E,ok.step x1 g1,q,k1,k2⟩⟩
theorem ik (h:KE X M e ue):KS X M (.Return (some e) pos) (g6 ue):=.of (kO h.run) λD σ H env pn S n E ok hu k1 k2 =>
 ⟨env,pn,S,n,_,ok,hu,λv H1 d n1 r1 x1 g1 _ q=>k2 v H1 d n1 (r1.less ok.s0) (ok.step x1 g1).ext g1 q⟩
theorem vC (i:Nat)(hN:X.N[i]? = some x:=by rfl)(hv:qM X.env.scope x:=by (first | exact Or.inl rfl | exact Or.inr (Or.inl rfl) | exact Or.inr (Or.inr rfl)))(hd:(x == (!12))=false:=by decide)
  (jb:(x == (!18))=false:=by decide):KS X M (.Return (some (.Name x fX)) pos) (jL i):=.of (kO (qv i hN hv hd jb)) λD σ H env pn S n E ok hu k1 k2=>by
 unfold jL at hu;split at hu
 .rename_i d he
  obtain⟨v,hv,r⟩:=ok.val i _ he;exact⟨v,hv,k2 v H d n (eB.less ok.s0 r) ok.ext ok.gd hu⟩
 .rename_i ds he
  obtain⟨v,hv,a,xs,rfl,ha,r,hs,h0⟩:=ok.val i _ he;exact⟨_,hv,k2 _ H _ n (.lst ha (λz=>M.s9 a z h0) (r.less ok.s0)) ok.ext ok.gd hu⟩
 .rename_i a t kvs he
  obtain⟨v,hv,rfl,xs,ha,r,hk,hs,h0⟩:=ok.val i _ he;exact⟨_,hv,k2 _ H _ n (.Oz ha (λz=>M.s9 a z h0) hk (r.less ok.s0)) ok.ext ok.gd hu⟩
 .exact hu.elim
theorem QL (hN:X.N.Nodup)(hx:Loc X.env.scope x)(h:KE X M e ue)(hi:X.N[i]? = some x:=by rfl)(hs:swapsWith e (some (.Name x fX)) pos.line X.env=pure false:=by rfl)
  (hf:X.fn x=true\/X.env.scope.names.lookup x=some .local:=by (first | exact .inl rfl | exact .inr rfl | assumption)) (hfd:i ∉ M.fd:=by decide):KS X M (.Assign [.Name x fX] e pos) (fc i ue):=.of (gF hN hi hx h.run hs hf) λD σ H env pn S n E ok hu k1 k2 =>
 ⟨env,pn,S,n,_,ok,hu,λv H1 d n1 r1 x1 g1 _ q=>k1 _ _ _ _ _ ((ok.step x1 g1).set r1 hfd) q⟩
theorem QM (hN:X.N.Nodup)(hx:Loc X.env.scope x)(h:KN X M e un)(hi:X.N[i]? = some x:=by rfl)(hs:swapsWith e (some (.Name x fX)) pos.line X.env=pure false:=by rfl)
  (hf:X.fn x=true\/X.env.scope.names.lookup x=some .local:=by (first | exact .inl rfl | exact .inr rfl | assumption)) (hfd:i ∉ M.fd:=by decide):KS X M (.Assign [.Name x fX] e pos) (vB i un):=.of (gF hN hi hx h.run hs hf) λD σ H env pn S n E ok hu k1 k2 =>
 ⟨env,pn,S,n,_,ok,hu,λa xs H1 ds n1 h0 h1 r1 x1 g1 _ q=>k1 _ _ _ _ _ (ok.Qy h0 h1 r1 x1 g1 hfd) q⟩
theorem QN (he:KE X M e ue)(hg:KG X M tg g)(hs:swapsWithSole [tg] e pos.line X.env=pure false:=by rfl)(hw:swappedStores [tg] e X.env=pure none:=by rfl)
  (h1:(assignEach [tg] X.env).map (·.2)=[assign tg X.env]:=by rfl):KS X M (.Assign [tg] e pos) (IV ue g):=.of (vm he.run hg.run hs hw h1) λD σ H env pn S n E ok hu k1 k2 =>
 ⟨env,pn,S,n,_,ok,hu,λv H1 d n1 r1 x1 g1 _ q=>⟨env,pn,S,n1,d,_,ok.step x1 g1,r1,q,λeh σ' jK q'=>k1 _ _ _ _ _ jK q'⟩⟩
noncomputable def lq (ug:UG)(ub:US)(E:pM):List ag->eU->Int->Prop
 | [],env,n=>E.nx env n
 | d::ds,env,n=>ug d env λeh=>ub { nx:=lq ug ub E ds,rt:=E.rt } eh n
noncomputable def nz (ui:UI)(ug:UG)(ub:US):US:=λE env n=>ui env n λits Fh n1=>lq ug ub E its Fh n1
noncomputable def vD (c:UT)(ub:US):US:=λE env n=>∃W:Nat->eU->Int->Prop,(∃m,W m env n)/\∀m env n,W m env n->c env n λb n1=>if b=true then ub { nx:=λeh n'=>∃m',m' < m/\W m' eh n',rt:=E.rt } env n1 else E.nx env n1
theorem oo (hp:PassesOwn (!11) X.A X.env X.xe)(hc:X.calm=true)(hi:KI X M tg iter ui)(hg:KG X M tg ug)(hb:wC X M body u)(hs:∀x,foldedSetIterable iter X.env x=pure x:=by rw[6]):KS X M (.For tg iter body [] pos) (nz ui ug u):=by
 obtain⟨wi,qi,Lb⟩:=hi.ex;refine .of (vn hp hc qi hg.run hb.run hs) λD σ H env pn S n E ok hu k1 k2=>Lb σ H _ env pn S n _ ok hu λJ H1 its Fh S1 n1 p iK hJ q=>?_;refine⟨λi m σ' H'=>m=its.length - i/\i<=its.length/\∃eh S' n',dS M eh (p++pn) σ' S' H' n'/\lq ug u E (its.drop i) eh n',⟨its.length,!4,bD _,Fh,S1,n1,iK,q⟩,?_⟩;rintro i m σ' H' ⟨rfl,lr,eh,S',n',jK,q'⟩;have it:=hJ S' H' λr hr=>jK.pin r (bI _ hr);by_cases gh:i<its.length
 .refine .inr ⟨it.go i gh,λσ2 H2=>∃p9 S2 n2,dS M p9 (p++pn) σ2 S2 H2 n2/\lq ug u E (its.drop (i+1)) p9 n2,λσ2 H2 h=>⟨its.length - (i+1),!1,rfl,gh,h⟩,λx H2 hy=>?_⟩
  obtain⟨d,hd,x2,rd⟩:=it.G3 i x H2 gh hy
  have e:its.drop i=d::its.drop (i+1):=by
   rw[bh gh];congr;exact (aA.mp hd).2
  rw[e] at q';have um:=jK.step (x2.mono (!4)) (M.ix jK.gd x2 (!4));exact⟨eh,p++pn,S',n',d,_,um,rd,q',λxM σ3 Ha q3=>⟨xM,p++pn,S',n',_,Ha,q3,λNb σ4 S4 H4 n4 Uc q4=>⟨Nb,S4,n4,Uc,q4⟩,k2⟩⟩
 .refine .inl ⟨it.stop i (!1),?_⟩
  rw[bS (!1)] at q';exact k1 _ _ _ _ _ (jK.pins λr hr=>a6 _ hr) q'
theorem IW (hp:PassesOwn (!11) X.A X.env X.xe)(hc:KB X M c uc)(hb:wC X M body u):KS X M (.While c body [] pos) (vD uc u) :=
 .of (EE hp hc.run hb.run) λD σ H env pn S n E ok ⟨W,⟨m,hm⟩,hW⟩ k1 k2=>by
  refine⟨λm σ' H'=>∃eh S' n',dS M eh pn σ' S' H' n'/\W m eh n',⟨m,env,S,n,ok,hm⟩,?_⟩;rintro m σ' H' ⟨eh,S',n',jK,hw⟩;refine⟨eh,pn,S',n',_,jK,hW m eh n' hw,λb H1 n1 x1 g1 q=>?_⟩
  cases b with
  | true=>exact⟨λσ2 H2=>∃m',m' < m/\∃p9 S2 n2,dS M p9 pn σ2 S2 H2 n2/\W m' p9 n2,λσ2 H2 h=>h,eh,pn,S',n1,_,jK.step x1 g1,q,λp9 σ2 S2 H2 n2 um ⟨m',Ov,QP⟩=>⟨m',Ov,p9,S2,n2,um,QP⟩,k2⟩
  | false=>exact k1 _ _ _ _ _ (jK.step x1 g1) q
end
noncomputable def pO (mp:List (Option Nat))(env:eU):eU:=mp.map λo=>match o with | none=>none | some i=>(env[i]?).join
noncomputable def Fr.sub (M:Fr)(fd:List Nat):Fr:={ M with fd:=fd }
noncomputable def gA (ug:UG)(uc:UT)(ue:UX)(Q:List ag->Int->Prop):List ag->List ag->eU->Int->Prop
 | [],acc,_,n=>Q acc n
 | d::ds,acc,env,n=>ug d env λeh=>uc eh n λb n1=>if b=true then ue eh n1 λy n2=>gA ug uc ue Q ds (acc++[y]) eh n2 else gA ug uc ue Q ds acc eh n1
noncomputable def i9 (ui:UJ)(mp:List (Option Nat))(ug:UG)(uc:UT)(ue:UX):eU->Int->(List ag->Int->Prop)->Prop:=λenv n Q=>ui env n λits n1=>gA ug uc ue Q its [] (pO mp env) n1
noncomputable def vE:UT:=λ_ n Q=>Q true n
structure KK (X:Cx) (M:Fr) (n6:List Expr) (u:UT):Prop where run:QK X n6 (liftT M u)
section
theorem dS.lK (ok:dS M env pn σ S H n)(hfd:∀j∈fd,∃i∈M.fd,mp[j]? = some (some i))(DO:(mp.filterMap id).Nodup):dS (M.sub fd) (pO mp env) pn (lK mp σ) S H n:=by
 have at':∀(j:Nat) (e:Ent),(pO mp env)[j]? = some (some e)->∃i,mp[j]? = some (some i)/\env[i]? = some (some e):=λj e he=>by
  unfold pO at he;rw[aB] at he
  cases hm:mp[j]? with
  | none=>rw[hm] at he;cases he
  | some o =>
   rw[hm] at he
   cases o with
   | none=>cases he
   | some i =>
    refine⟨i,rfl,?_⟩;have zR:(env[i]?).join=some e:=Option.some.inj he
    cases hv:env[i]? with
    | none=>rw[hv] at zR;cases zR
    | some z=>rw[hv] at zR;exact congrArg some (show z=some e from zR)
 have Ud:∀(j i:Nat) (v:V),mp[j]? = some (some i)->σ[i]? = some (some v)->(L2.lK mp σ)[j]? = some (some v):=λj i v h1 h2=>by
  unfold L2.lK;rw[aB,h1];simp[h2]
 have Ue:∀(j i:Nat) (v:V),mp[j]? = some (some i)->(L2.lK mp σ)[j]? = some (some v)->σ[i]? = some (some v):=λj i v h1 h2=>by
  unfold L2.lK at h2;rw[aB,h1] at h2;have zR:(σ[i]?).join=some v:=Option.some.inj h2
  cases hv:σ[i]? with
  | none=>rw[hv] at zR;cases zR
  | some z=>rw[hv] at zR;exact congrArg some (show z=some v from zR)
 refine⟨λj e he=>?_,λj k ds es a h1 h2 h3 h4=>?_,by simp[pO,L2.lK],λj hj=>?_,ok.gd,ok.ext,ok.s0,ok.sn,ok.has,ok.pin⟩
 .obtain⟨i,hm,hv⟩:=at' j e he
  obtain⟨v,wD,r⟩:=ok.val i e hv;exact⟨v,Ud j i v hm wD,r⟩
 .obtain⟨i,hm,hv⟩:=at' j _ h1
  obtain⟨i2,QQ,za⟩:=at' k _ h2;have e:=ok.ne i i2 _ _ a hv za (Ue _ _ _ hm h3) (Ue _ _ _ QQ h4);subst e;have hj:j<mp.length:=(aA.mp hm).1;have hk:k<mp.length:=(aA.mp QQ).1;clear h1 h2 h3 h4 at' Ud Ue hfd
  induction mp generalizing j k with
  | nil=>cases hm
  | cons o mp ih =>
   have nd:∀{i:Nat},i∈mp.filterMap id->o≠some i:=λ{i} hi z=>by
    subst z;simp only[cU,id] at DO;exact (bf.mp DO).1 hi
   have Ug:(mp.filterMap id).Nodup:=by
    cases o with
    | none=>simpa using DO
    | some z=>simp only[cU,id] at DO;exact (bf.mp DO).2
   have mem:∀{k:Nat},mp[k]? = some (some i)->i∈mp.filterMap id:=λ{k} hk=>List.mem_filterMap.mpr ⟨some i,cg hk,rfl⟩
   cases j with
   | zero=>cases k with
    | zero=>rfl
    | succ k =>
     have h1:o=some i:=by simpa using hm
     have h2:mp[k]? = some (some i):=by simpa using QQ
     exact absurd h1 (nd (mem h2))
   | succ j=>cases k with
    | zero =>
     have h1:o=some i:=by simpa using QQ
     have h2:mp[j]? = some (some i):=by simpa using hm
     exact absurd h1 (nd (mem h2))
    | succ k=>rw[ih Ug j k (by simpa using hm) (by simpa using QQ) (by simpa using hj) (by simpa using hk)]
 .obtain⟨i,hi,hm⟩:=hfd j hj
  exact Ud j i _ hm (ok.xu i hi)
theorem o6:KK X M [] vE:=⟨⟨λpins s σ H Q I h=>CS h λenv pn S n R h=>MN.run pins s σ H Q I (h.2.2 true H n (!24) h.1.gd h.2.1)⟩⟩
theorem zS (h:KB X M c uc):KK X M [c] uc:=⟨zD h.run⟩
theorem vF (Lb:∀σ H R env pn S n Q,dS M env pn σ S H n->ui env n Q ->
  (∀J H' its n',Ext M.gs H H'->M.G H' n'->(∀H2,Ext M.gs H' H2->y9 S J its H2)->its.length<=az->Q its n'->R J H')->wi σ H R)
  (hfd:∀j∈fd,∃i∈M.fd,mp[j]? = some (some i)) (DO:(mp.filterMap id).Nodup) (ok:dS M env pn σ S H n) (hu:i9 ui mp ug uc ue env n Q)
  (k:∀ys H' ds n',dO S H' ds ys->Ext M.gs H H'->M.G H' n'->Q ds n'->R ys H'):tQ wi mp (K8 (M.sub fd) ug) (liftT (M.sub fd) uc) (Qk (M.sub fd) ue) σ H R:=by
 refine Lb σ H _ env pn S n _ ok hu λJ H1 its n1 x1 g1 hJ hl q=>?_;have iK:=ok.step x1 g1
 refine⟨λi m ys σ' H'=>m=its.length - i/\i<=its.length/\∃eh n' acc,dS (M.sub fd) eh pn σ' S H' n'/\dO S H' acc ys/\acc.length<=i/\Ext M.gs H1 H'/\gA ug uc ue Q (its.drop i) acc eh n',
  ⟨its.length,!4,bD _,_,n1,[],iK.lK hfd DO,.nil,ap _,.refl _ _,q⟩,?_⟩
 rintro i m ys σ' H' ⟨rfl,lr,eh,n',acc,jK,ra,ha,x',q'⟩;have it:=hJ H' x';by_cases gh:i<its.length
 .refine .inr ⟨it.go i gh,by rw[ra.length];omega,λx H2 hy=>?_⟩
  obtain⟨d,hd,x2,rd⟩:=it.G3 i x H2 gh hy
  have e:its.drop i=d::its.drop (i+1):=by
   rw[bh gh];congr;exact (aA.mp hd).2
  rw[e] at q';have um:dS (M.sub fd) eh pn σ' S H2 n':=jK.step (x2.mono (!4)) (M.ix jK.gd x2 (!4));refine⟨eh,pn,S,n',d,_,um,rd,q',λxM σ3 Ha q3=>⟨xM,pn,S,n',_,Ha,q3,λb H4 n4 x4 g4 q4=>?_⟩⟩;have Se:Ext M.gs H' H4:=(x2.mono (!4)).trans x4
  cases b with
  | true=>exact⟨xM,pn,S,n4,_,Ha.step x4 g4,q4,λy H5 dy n5 r5 x5 g5 _ q5=>⟨its.length - (i+1),!1,rfl,gh,xM,n5,acc++[dy],(Ha.step x4 g4).step x5 g5,(ra.ext ((Se.trans x5).mono ok.p6)).append (.cons r5 .nil),by simp;omega,x'.trans (Se.trans x5),q5⟩⟩
  | false=>exact⟨its.length - (i+1),!1,rfl,gh,xM,n4,acc,Ha.step x4 g4,ra.ext (Se.mono ok.p6),!1,x'.trans Se,q4⟩
 .refine .inl ⟨it.stop i (!1),by rw[ra.length];omega,?_⟩
  rw[bS (!1)] at q';exact k ys H' acc n' ra (x1.trans x') jK.gd q'
theorem lR (fd:List Nat)(hc:X.calm=true)(hi:KJ X M tg iter ui)(hk:sc.kind=.function)(hm:iR X.N X.env.scope sc N mp=true)
  (hb:∀(cl:List (Str × Addr)) (C:Addr) (s₂:aw) (H₂:Hp) (fp:List Addr),KG (!13) (M.sub fd) tg ug/\KK (!13) (M.sub fd) n6 uc/\KE (!13) (M.sub fd) oU ue)
  (hfd:∀j∈fd,∃i∈M.fd,mp[j]? = some (some i):=by decide) (DO:(mp.filterMap id).Nodup:=by decide) (hs:∀x,foldedSetIterable iter X.env x=pure x:=by rw[6]):KN X M (.ListComp oU [⟨tg,iter,n6,0⟩] sc pos) (i9 ui mp ug uc ue):=by
 obtain⟨wi,qi,Lb⟩:=hi.ex;refine .of (vo hc qi hk hm (λcl C s₂ H₂ fp=>⟨(hb cl C s₂ H₂ fp).1.run,(hb cl C s₂ H₂ fp).2.1.run,(hb cl C s₂ H₂ fp).2.2.run⟩) hs) λσ H R env pn S n Q ok hu k=>?_;refine vF Lb hfd DO ok hu λys H' ds n' r x g q D hD=>?_;have jK:=ok.step x g
 have Uh:H D=none:=by
  by_cases z:D∈M.gs
  .exact absurd hD (M.sZ g D z)
  .exact x.fresh z hD
 exact k D ys _ ds n' Uh dP ((r.fresh hD).ext (.new hD)) (x.trans (.new hD)) (M.ix g (.new (S:=[]) hD) (!4)) q
theorem Nc (own:Bool)(fd:List Nat)(hN:X.N.Nodup)(hc:X.calm=true)(hi:KJ X M tg iter ui)(hk:sc.kind=.function)(hm:iR X.N X.env.scope sc N mp=true)
  (hb:∀(cl:List (Str × Addr)) (C:Addr) (s₂:aw) (H₂:Hp) (fp:List Addr),KG (!13) (M.sub fd) tg ug/\KK (!13) (M.sub fd) n6 uc/\KE (!13) (M.sub fd) oU ue)
  (PX:X.N[i]? = some x:=by rfl) (hx:X.env.scope.names.lookup x=some .local:=by rfl)
  (hfd:∀j∈fd,∃i∈M.fd,mp[j]? = some (some i):=by decide) (DO:(mp.filterMap id).Nodup:=by decide) (hfi:i ∉ M.fd:=by decide)
  (PY:swapsWith (.ListComp oU [⟨tg,iter,n6,0⟩] sc pos) (some (.Name x py)) spos.line X.env=pure true:=by rfl) (hs:∀x,foldedSetIterable iter X.env x=pure x:=by rw[6]) :
  KS X M (.Assign [.Name x py] (.ListComp oU [⟨tg,iter,n6,0⟩] sc pos) spos) (if own then vB i (i9 ui mp ug uc ue) else fc i (uL (i9 ui mp ug uc ue))):=by
 obtain⟨wi,qi,Lb⟩:=hi.ex;have q:=Im (i:=i) (py:=py) (spos:=spos) (pos:=pos) hN PX hx hc qi hk hm (λcl C s₂ H₂ fp=>⟨(hb cl C s₂ H₂ fp).1.run,(hb cl C s₂ H₂ fp).2.1.run,(hb cl C s₂ H₂ fp).2.2.run⟩) PY hs
 cases own with
 | true =>
  refine .of q λD σ H env pn S n E ok hu k1 k2=>vF Lb hfd DO ok hu λys H' ds n' r x g q D hD=>?_
  have Uh:H D=none:=by
   by_cases z:D∈M.gs
   .exact absurd hD (M.sZ g D z)
   .exact x.fresh z hD
  exact k1 _ _ _ _ _ (ok.Qy Uh dP ((r.fresh hD).ext (.new hD)) (x.trans (.new hD)) (M.ix g (.new (S:=[]) hD) (!4)) hfi) q
 | false =>
  refine .of q λD σ H env pn S n E ok hu k1 k2=>vF Lb hfd DO ok hu λys H' ds n' r x g q D hD=>?_;have jK:=ok.step x g;exact k1 _ _ _ _ _ ((jK.step (.new hD) (M.ix g (.new (S:=[]) hD) (!4))).set (qp jK.has hD r) hfi) q
end
noncomputable def lS (i:Nat)(f:List ag->List ag->Option (List ag))(ua:UA):US:=λE env n=>match env[i]? with | some (some (.o ds))=>ua env n λas n1=>lE (f ds as) λp7=>E.nx (env.set i (some (.o p7))) n1 | _=>False
noncomputable def jc (ds as:List ag):Option (List ag):=match as with | [d]=>if ds.length<az then some (ds++[d]) else none | _=>none
noncomputable def jN (ds as:List ag):Option (List ag):=match as with | [.tuple es]=>if ds.length+es.length<=az then some (ds++es) else none | [.list es]=>if ds.length+es.length<=az then some (ds++es) else none | _=>none
structure Ui (X:Cx) (id:String) (f:List ag->List ag->Option (List ag)):Prop where
 ex:∃r,CC X id r/\∀S H a xs ds as vs p7 (R:VK),H a=some (.lst xs)->dO S H ds xs->dO S H as vs->f ds as=some p7->(∀ys v,dO S H p7 ys->R v (eM H a (.lst ys)))->r (.ref a) vs H R
section
variable {X:Cx}{M:Fr}{e o:Expr}{es:List Expr}{ua:UA}{pos gR fY:Pos}{name:Str}{id:String}{f:List ag->List ag->Option (List ag)}
theorem oq:Ui X "list.append" jc:=⟨_,CD,λS H a xs ds as vs p7 R ha r ra e k=>by
 obtain⟨d,rfl⟩:∃d,as=[d]:=by
  unfold jc at e;split at e
  .exact⟨_,rfl⟩
  .cases e
 simp only[jc] at e;split at e
 .rename_i hl
  cases e;obtain⟨v,t,rfl,r1,r2⟩:=ra.of_cons;cases r2.e9;exact⟨a,xs,v,rfl,rfl,ha,by rw[r.length];exact hl,k _ _ (r.append (.cons r1 .nil))⟩
 .cases e⟩
theorem Fi:Ui X "list.extend" jN:=⟨_,CC.or (CF (X:=X)) (zG X.K),λS H a xs ds as vs p7 R ha r ra e k=>by
 obtain⟨es,h⟩:∃es,as=[.tuple es]\/as=[.list es]:=by
  unfold jN at e;split at e
  .exact⟨_,.inl rfl⟩
  .exact⟨_,.inr rfl⟩
  .cases e
 rcases h with rfl | rfl
 .simp only[jN] at e
  split at e
  .rename_i hl
   cases e;obtain⟨v,t,rfl,r1,r2⟩:=ra.of_cons;cases r2.e9;obtain⟨b,ys,rfl,hb,rb⟩:=r1.fz;exact .inr ⟨a,b,xs,ys,rfl,rfl,ha,iQ.of hb,by rw[r.length,rb.length];exact hl,k _ _ (r.append rb)⟩
  .cases e
 .simp only[jN] at e
  split at e
  .rename_i hl
   cases e;obtain⟨v,t,rfl,r1,r2⟩:=ra.of_cons;cases r2.e9;obtain⟨b,ys,rfl,hb,_,rb⟩:=r1.fw;exact .inl ⟨a,b,xs,ys,rfl,rfl,ha,hb,by rw[r.length,rb.length];exact hl,k _ _ (r.append rb)⟩
  .cases e⟩
theorem rC (i:Nat)(pa:PlainAttrs "list")(slot:Slot "list" name id)(Eh:typeOf (.builtin id)=pure (.type "method_descriptor"))(hm:Ui X id f)(ha:KA X M (e::es) ua)
  (hN:X.N[i]? = some x:=by rfl) (hv:qM X.env.scope x:=by (first | exact Or.inl rfl | exact Or.inr (Or.inl rfl) | exact Or.inr (Or.inr rfl))) (hd:(x == (!12))=false:=by decide) (jb:(x == (!18))=false:=by decide)
  (jh:attributeBase (!25) name X.env (eval (!25) X.env)=eval (!25) X.env:=by rfl) (hl:decide ((e::es).length+0+0<30)=true:=by rfl) (ji:(gR.endLine == fY.line)=true:=by rfl)
  (hs:swapsWith (.Call (.Attribute (!25) name gR) (e::es) [] fY) none pos.line X.env=pure false:=by rfl):KS X M (.Expr (.Call (.Attribute (!25) name gR) (e::es) [] fY) pos) (lS i f ua):=by
 obtain⟨r,h1,h2⟩:=hm.ex;refine .of (Bk (MR X.K pa slot Eh h1 (qv i hN hv hd jb) ha.run rfl jh hl ji) hs) λD σ H env pn S n E ok hu k1 k2=>?_;unfold lS at hu;split at hu
 .rename_i ds he
  obtain⟨v,hv,a,xs,rfl,ha,ra,hs,h0⟩:=ok.val i _ he;refine⟨_,hv,.inl ⟨rfl,xs,gD.of ha⟩,env,pn,S,n,_,ok,hu,λvs H1 as n1 el r1 x1 g1 _ q=>?_⟩;obtain⟨p7,e',q⟩:=q;have iK:=ok.step x1 g1;obtain⟨v',wD,a',pN,W8,lp,W9,_,_⟩:=iK.val i _ he;subst W8;rw[hv] at wD;cases wD;exact h2 S H1 a pN ds as vs p7 _ lp W9 r1 e' λys w ry=>k1 _ _ _ _ _ (iK.put he hv lp ry) q
 .exact hu.elim
end
noncomputable abbrev XQ:=Str->List ag->Prop
noncomputable abbrev UF:=List ag->Int->(ag->Int->Prop)->XQ->Prop
noncomputable def BB:XQ:=λ_ _=>False
noncomputable def Rz (C:Xc)(S gs:List Addr)(H:Hp)(E:XK)(c:Str)(as:List ag):Prop:=∀(dx:Addr) (H':Hp) (vs:List V),dO S H' as vs->H' dx=some (.ext (KY dx ((C.fl c).zip vs)))->Ext gs H H'->E (.ref (C.cl c)) (some dx) H'
noncomputable def sR (C:Xc)(F:UF):Sp:=λvs H Q E=>∃S ds n Qp Xp,dO S H ds vs/\(∀a∈S,H a≠none)/\F ds n Qp Xp/\(∀d v H',eB S H' d v->Ext [] H H'->Qp d n->Q v H')/\∀c as,Xp c as->Rz C S [] H E c as
structure zT where
 iV:Hp->Addr->Addr->Int->Prop
 ext:∀{S:List Addr} {H H':Hp} {fa sa:Addr} {n:Int},iV H fa sa n->Ext S H H'->fa ∉ S->sa ∉ S->iV H' fa sa n
 fa:∀{H:Hp} {fa sa:Addr} {n:Int},iV H fa sa n->H fa≠none
 sa:∀{H:Hp} {fa sa:Addr} {n:Int},iV H fa sa n->H sa≠none
 nx:∀{H:Hp} {fa sa:Addr} {n:Int},iV H fa sa n->∀φ,H fa≠some (.ext φ)
noncomputable def xN (Y:zT)(F:UF):Sp:=λvs H Q E=>∃fa sa us S ds n Qp,vs=.ref fa::us/\Y.iV H fa sa n/\fa∈S/\dO S H ds us/\(∀a∈S,H a≠none)/\F ds n Qp BB/\(∀d n' v H',eB S H' d v->Y.iV H' fa sa n'->Ext [fa] H H'->Qp d n'->Q v H')
noncomputable def Fr.pure (C:Xc)(n0:Int)(S:List Addr)(H:Hp)(has:∀a∈S,H a≠none):Fr where
 G:=λ_ n=>n=n0
 gs:=[]
 S0:=S
 H0:=H
 fa:=.gC
 fd:=[]
 xc:=C
 ix:=λh _ _=>h
 sZ:=λ_ a h=>by cases h
 T1:=λ_ a h=>by cases h
 Qj:=λa h=>by cases h
 s9:=has
noncomputable def Fr.feed (C:Xc)(Y:zT)(i:Nat)(fa sa:Addr)(n0:Int)(S:List Addr)(H:Hp)(hf:Y.iV H fa sa n0)(hS:fa∈S)(has:∀a∈S,H a≠none):Fr where
 G:=λH n=>Y.iV H fa sa n
 gs:=[fa]
 S0:=S
 H0:=H
 fa:=.ref fa
 fd:=[i]
 xc:=C
 ix:=λh x k=>Y.ext h x (λz=>Y.fa hf (k _ z)) (λz=>Y.sa hf (k _ z))
 sZ:=λh a ha=>by have e:=au.mp ha;subst e;exact Y.fa h
 T1:=λh a ha=>by have e:=au.mp ha;subst e;exact Y.nx h
 Qj:=λa ha=>by have e:=au.mp ha;subst e;exact hS
 s9:=has
noncomputable def envOf (N:Nat)(ds:List ag):eU:=ds.map (λd=>some (.s d))++List.replicate (N - ds.length) none
noncomputable def nU (N np:Nat)(u:XQ->US):UF:=λds n Q Ex=>ds.length=np/\u Ex { nx:=λ_ n'=>Q .none n',rt:=Q } (envOf N ds) n
noncomputable def lz (N np:Nat)(u:XQ->US):UF:=λds n Q Ex=>ds.length+1=np/\u Ex { nx:=λ_ n'=>Q .none n',rt:=Q } (none::envOf (N - 1) ds) n
theorem C0 (h0:M.H0=H)(hS:M.S0=S)(r:dO S H ds vs)(hfd:M.fd=[])(g:M.G H n):dS M (envOf N.length ds) [] (start N vs) S H n:=by
 subst h0 hS;have hl:=r.length
 have key:∀(i:Nat) (e:Ent),(envOf N.length ds)[i]? = some (some e)->∃d,ds[i]? = some d/\e=.s d:=λi e h=>by
  unfold envOf at h;by_cases hi:i<ds.length
  .rw[bE (by simpa using hi),aB] at h
   cases hd:ds[i]? with
   | none=>rw[hd] at h;cases h
   | some d=>rw[hd] at h;exact⟨d,rfl,(Option.some.inj (Option.some.inj h)).symm⟩
  .rw[bJ (by simp;omega),cf] at h
   split at h<;>cases h
 refine⟨λi e h=>?_,λi j a b c h1=>?_,?_,(by rw[hfd];intro i hi;cases hi),g,.refl _ _,λa h=>h,λa h=>.inl h,M.s9,λp hp=>by cases hp⟩
 .obtain⟨d,hd,rfl⟩:=key i e h
  obtain⟨v,hv,rv⟩:=r.at hd;refine⟨v,?_,rv⟩;unfold start;rw[bE (by rw[ao];exact (aA.mp hv).1),aB,hv];rfl
 .obtain⟨d,_,e⟩:=key _ _ h1
  cases e
 .unfold envOf start
  simp[hl]
theorem zU (h0:M.H0=H)(hS:M.S0=S)(r:dO S H ds vs)(hfd:M.fd=[0])(xO:M.fa=.ref fa)(hN:1<=N.length)(g:M.G H n):dS M (none::envOf (N.length - 1) ds) [] (start N (.ref fa::vs)) S H n:=by
 subst h0 hS;have hl:=r.length
 have key:∀(i:Nat) (e:Ent),(none::envOf (N.length - 1) ds)[i]? = some (some e)->∃j d,i=j+1/\ds[j]? = some d/\e=.s d:=λi e h=>by
  cases i with
  | zero=>cases h
  | succ i =>
   rw[ae] at h;unfold envOf at h;by_cases hi:i<ds.length
   .rw[bE (by simpa using hi),aB] at h
    cases hd:ds[i]? with
    | none=>rw[hd] at h;cases h
    | some d=>rw[hd] at h;exact⟨i,d,rfl,hd,(Option.some.inj (Option.some.inj h)).symm⟩
   .rw[bJ (by simp;omega),cf] at h
    split at h<;>cases h
 refine⟨λi e h=>?_,λi j a b c h1=>?_,?_,?_,g,.refl _ _,λa h=>h,λa h=>.inl h,M.s9,λp hp=>by cases hp⟩
 .obtain⟨j,d,rfl,hd,rfl⟩:=key i e h
  obtain⟨v,hv,rv⟩:=r.at hd;refine⟨v,?_,rv⟩;unfold start;have YW:j<vs.length:=(aA.mp hv).1;rw[bE (by rw[ao,av];omega),ar,ae,aB,hv];rfl
 .obtain⟨j,d,_,_,e⟩:=key _ _ h1
  cases e
 .unfold envOf start
  simp[hl];omega
 .rw[hfd,xO]
  intro i hi;have e:=au.mp hi;subst e;unfold start;simp
section
variable {P:aV}{w:World}{K:W.Frag}{mg:Str->Option ah}{base:Heap}{f:Addr}{fd:b9}{x:Str}{fF:Str}{st:Stmt}{N ps:List Str}{k:Nat}{C:Xc}{u:XQ->US}{Y:zT}
theorem Uj (F:w6 K x fF st f fd)(hm:mg x=some (.ref f))(sc:fD N ps (dQ st))(hb:Binds K fd ps [])
  (body:∀(fG:ah) (A:Around) (outer:List Env) (s:aw) (H:Hp) (E:XK) (n0:Int) (S:List Addr) (has:∀a∈S,H a≠none),gy k (A.deeper (envOfC fF (dQ st) s.heap.objs.size f fG))->wC (nq vf P w K mg base N fF (dQ st) f fG A outer s H E).Cq (Fr.pure C n0 S H has) (fZ st) (u BB)) :
  eD P w K mg base (k+1) x ps (sR C (nU N.length ps.length λ_=>u BB)):=by
 refine⟨f,fd,F.MP sc (λvs H Q E h=>?_) (λfG A outer s H vs Q E hr h=>?_),hm,F.kp,hb⟩
 .obtain⟨S,ds,n,Qp,Xp,r,_,hF,_⟩:=h
  rw[r.length];exact hF.1
 .obtain⟨S,ds,n,Qp,Xp,r,has,hF,hq,hx⟩:=h
  refine⟨_,(body fG A outer s H E n S has hr).run,envOf N.length ds,[],S,n,_,C0 rfl rfl r rfl rfl,hF.2,λeh σ' S' H' n' ok q=>?_,λv H' d n' rv x g q=>?_⟩
  .have e:n'=n:=ok.gd
   subst e;exact hq _ _ H' .gC ok.ext q
  .have e:n'=n:=g
   subst e;exact hq d v H' rv x q
theorem Uk (F:w6 K x fF st f fd)(hm:mg x=some (.ref f))(sc:fD N ps (dQ st))(hb:Binds K fd ps [])(hN:1<=N.length)
  (body:∀(fG:ah) (A:Around) (outer:List Env) (s:aw) (H:Hp) (E:XK) (fa sa:Addr) (n0:Int) (S:List Addr) (hf:Y.iV H fa sa n0) (hS:fa∈S) (has:∀a∈S,H a≠none),gy k (A.deeper (envOfC fF (dQ st) s.heap.objs.size f fG)) ->
   wC (nq vf P w K mg base N fF (dQ st) f fG A outer s H E).Cq (Fr.feed C Y 0 fa sa n0 S H hf hS has) (fZ st) (u BB)) :
  eD P w K mg base (k+1) x ps (xN Y (lz N.length ps.length λ_=>u BB)):=by
 refine⟨f,fd,F.MP sc (λvs H Q E h=>?_) (λfG A outer s H vs Q E hr h=>?_),hm,F.kp,hb⟩
 .obtain⟨fa,sa,us,S,ds,n,Qp,rfl,_,_,r,_,hF,_⟩:=h
  rw[av,r.length];exact hF.1
 .obtain⟨fa,sa,us,S,ds,n,Qp,rfl,fe,hS,r,has,hF,hq⟩:=h
  refine⟨_,(body fG A outer s H E fa sa n S fe hS has hr).run,none::envOf (N.length - 1) ds,[],S,n,_,zU rfl rfl r rfl rfl hN fe,hF.2,λeh σ' S' H' n' ok q=>?_,λv H' d n' rv x g q=>?_⟩
  .exact hq _ n' _ H' .gC ok.gd ok.ext q
  .exact hq d n' v H' rv g x q
end
noncomputable def d6 (F:UF)(ua:UA):UX:=λenv n Q=>ua env n λds n1=>F ds n1 Q BB
mutual
def iL:ag->Bool
 | .list _=>false
 | .tuple ds=>gP ds
 | .dict _=>false
 | _=>true
def gP:List ag->Bool
 | []=>true
 | d::ds=>iL d && gP ds
end
mutual
theorem eB.any {S S':List Addr}{H:Hp}:∀{d:ag} {v:V},iL d=true->eB S H d v->eB S' H d v
 | .none,_,_,h=>h
 | .bool _,_,_,h=>h
 | .int _,_,_,h=>h
 | .str _,_,_,h=>h
 | .tuple ds,_,hn,h=>by
  obtain⟨a,xs,rfl,ha,r⟩:=h.fz;exact .tup ha (dO.any (by simpa [iL] using hn) r)
 | .list ds,_,hn,h=>by simp[iL] at hn
 | .dict _,_,hn,h=>by simp[iL] at hn
theorem dO.any {S S':List Addr}{H:Hp}:∀{ds:List ag} {vs:List V},gP ds=true->dO S H ds vs->dO S' H ds vs
 | [],_,_,h=>h
 | d::ds,_,hn,h=>by
  obtain⟨x,t,rfl,h1,h2⟩:=h.of_cons;simp only[gP,bP] at hn;exact .cons (eB.any hn.1 h1) (dO.any hn.2 h2)
end
noncomputable def nA (F:UF)(ua:UA):UX:=λenv n Q=>ua env n λds n1=>F ds n1 (λd n'=>iL d=true/\Q d n') BB
section
theorem gH (D:eD X.prog X.w X.K X.mg X.base k x ps (sR C F))(hr:gy k X.A)(ha:KA X M (e::es) ua)(hg:Gl X x:=by rfl)(oX:(x == (!12))=false:=by decide):KE X M (.Call (!25) (e::es) [] pos) (d6 F ua) :=
 .of (kj D hr ha.run hg oX) λσ H R env pn S n Q ok hu k=>⟨env,pn,S,n,_,ok,hu,λvs H1 ds n1 el r1 x1 g1 _ q=>⟨S,ds,n1,Q,BB,r1,(ok.step x1 g1).has,q,λd v H2 r2 x2 q2=>k v H2 d n1 r2 (x1.trans (x2.mono (!4))) (M.ix g1 x2 (!4)) q2,λc as z=>z.elim⟩⟩
theorem vG (D:eD X.prog X.w X.K X.mg X.base k x ps (sR C F))(hr:gy k X.A)(ha:KZ X M (e::es) ua)(hg:Gl X x:=by rfl)(oX:(x == (!12))=false:=by decide):KE X M (.Call (!25) (e::es) [] pos) (nA F ua) :=
 .of (kj D hr ha.run hg oX) λσ H R env pn S n Q ok hu k=>⟨env,pn,S,n,_,ok,hu,λvs H1 ds n1 r1 x1 g1 _ q=>⟨M.gs,ds,n1,_,BB,r1.less ok.p6,M.sZ g1,q,λd v H2 r2 x2 q2=>k v H2 d n1 (r2.any q2.1) (x1.trans (x2.mono (!4))) (M.ix g1 x2 (!4)) q2.2,λc as z=>z.elim⟩⟩
theorem ip (i:Nat){y:Str}{p2:Pos}{fa sa:Addr}(D:eD X.prog X.w X.K X.mg X.base k x ps (xN Y F))(hr:gy k X.A)(ha:KA X M es ua)
  (hG:M.G=λH n=>Y.iV H fa sa n:=by rfl) (xO:M.fa=.ref fa:=by rfl) (Nf:M.gs=[fa]:=by rfl) (hfd:i∈M.fd:=by decide)
  (hN:X.N[i]? = some y:=by rfl) (hv:qM X.env.scope y:=by (first | exact Or.inl rfl | exact Or.inr (Or.inl rfl) | exact Or.inr (Or.inr rfl))) (hd:(y == (!12))=false:=by decide) (jb:(y == (!18))=false:=by decide)
  (hg:Gl X x:=by rfl) (oX:(x == (!12))=false:=by decide):KE X M (.Call (!25) (.Name y p2::es) [] pos) (d6 F ua) :=
 .of (kj D hr (gZ (qv i hN hv hd jb) ha.run rfl) hg oX) λσ H R env pn S n Q ok hu k=>⟨_,ok.xu i hfd,env,pn,S,n,_,ok,hu,λvs H1 ds n1 el r1 x1 g1 _ q=>by
  have iK:=ok.step x1 g1;refine⟨fa,sa,vs,S,ds,n1,Q,by rw[xO],by rw[hG] at g1;exact g1,ok.p6 fa (by rw[Nf];simp),r1,iK.has,q,λd n2 v H2 r2 f2 x2 q2=>k v H2 d n2 r2 (x1.trans (by rw[Nf];exact x2)) (by rw[hG];exact f2) q2⟩⟩
end
section
theorem C1 (K:W.Frag)(hc:X.calm=true)(hk:X.K=K:=by rfl):f6 X (.builtin "sum") (λxs H Q=>∃(p:Addr) (ns:List Int),xs=[.ref p]/\gD K H p (!23)/\(∀n∈ns,-500000000000<=n/\n<=500000000000)/\Q (.int ns.sum) H):=by
 subst hk;intro pins s σ H xs us Q I r h;obtain⟨p,ns,rfl,hp,hb,q⟩:=h;obtain⟨u,rfl,ru⟩:=vals1 r;cases ru;obtain⟨its,rv,ht,hz⟩:=I.list hp;have hh:=I.ok.hd hc;have jE:p<s.heap.objs.size:=ht.lt;have hlen:its.toArray.size=ns.length:=by rw[aE,<- rv.length,ao]
 rw[ao] at hz;have hsz:az=16777216:=by decide
 have Ul:∀l:List Int,(∀n∈l,-500000000000<=n/\n<=500000000000)->-(500000000000 * (l.length:Int))<=l.sum/\l.sum<=500000000000 * l.length:=by
  intro l
  induction l with
  | nil=>intro _;simp
  | cons a l ih =>
   intro hl;have h1:=ih λn hn=>hl n (ai _ hn);have h2:=hl a (aq ..);rw[dj,av];omega
 refine call_sum_walk (wpAny_pyIter_list ht.isList ⟨s.heap.objs.size,_,_,its.toArray.size,_,_,λa=>ns.getD a 0,rfl,Walks.list (A:=X.A.in1) hh _ p (aR jE) its.toArray,⟨⟨_,ay _ rfl,rfl,rfl⟩,ht.isList.at λo e=>ak _ e⟩,?_,?_,?_,?_⟩)
 .intro b y'
  rw[bV];rcases ax.mp y' with e | y'
  .rw[e];exact cP _
  .have e:b=p:=by simpa using y'
   rw[e];exact b8 jE
 .intro a v e
  have e':its[a]? = some v:=by simpa using e
  obtain⟨x,hx,rx⟩:=rv.at' e';rw[aB] at hx
  cases hn:ns[a]? with
  | none=>rw[hn] at hx;cases hx
  | some b =>
   rw[hn] at hx;cases hx;obtain⟨t,rfl⟩:=rx;refine⟨t,?_⟩;show ah.int b t=ah.int (ns.getD a 0) t;rw[am,hn];rfl
 .intro j hj
  rw[hlen] at hj
  have hm:ns.getD j 0∈ns:=by
   have:ns[j]? = some ns[j]:=by simp[hj]
   rw[am,this];exact bC hj
  have h1:=hb _ hm;have h2:=Ul (ns.take (j+1)) λn hn=>hb n (dk hn);rw[bY] at h2;show InLong (ns.getD j 0)/\InLong (preSum (λa=>ns.getD a 0) (j+1));unfold InLong;rw[iJ ns (j+1) (!1)];have h3:(min (j+1) ns.length:Nat)<=16777216:=by omega
  constructor<;>constructor<;>omega
 .intro h' tk t' kp
  have I1:Inv X pins σ H { s with heap:=h',toks:=tk }:=I.kept λb o e=>kp b o (λz=>by
   have e2:b=s.heap.objs.size:=by simpa using z
   rw[e2] at e;exact absurd (aD e) (bM _)) (ak _ e)
  have e:preSum (λa=>ns.getD a 0) its.toArray.size=ns.sum:=by rw[hlen,iJ ns _ (ap _),dC]
  rw[e];exact⟨.int _,H,I1,⟨_,rfl⟩,q⟩
end
theorem fb.ty {K:W.Frag}{gs S:List Addr}{H:Hp}{d:ag}{v:V}(h:fb gs S H d v):mO K H v (.type (TF d)):=by
 rcases h with h | ⟨ds,a,xs,rfl,rfl,ha,_⟩ | ⟨t,kvs,a,xs,rfl,rfl,ha,_⟩
 .exact h.ty
 .exact .lst ha
 .cases t with
  | true=>exact .dT ha
  | false=>exact .dK ha
section
variable {X:Cx}{M:Fr}{e a b:Expr}{u w:UX}{p p2 q2 pos:Pos}{c:String}{x:Str}
theorem zV (ok:dS M env pn σ S H n)(x:Ext M.gs H H')(g:M.G H' n')(h:H' l=none):H l=none:=by
 by_cases z:l∈M.gs
 .exact absurd h (M.sZ g l z)
 .exact x.fresh z h
noncomputable def xP:ag->Option Int | .int i=>some i | _=>none
noncomputable def iq (ds:List ag):Option (List Int):=ds.mapM xP
@[simp] theorem g7 (ns:List Int):iq (ns.map .int)=some ns:=by
 unfold iq
 induction ns with
 | nil=>rfl
 | cons n ns ih=>rw[ar,cB,ih];rfl
theorem gw:∀{ds:List ag} {ns:List Int},iq ds=some ns->ds=ns.map .int
 | [],ns,h=>by cases h;rfl
 | d::ds,ns,h=>by
  unfold iq at h;rw[cB] at h
  cases d with
  | int i =>
   cases e:ds.mapM xP with
   | none=>simp[xP,e] at h
   | some ms =>
    simp[xP,e] at h;subst h;rw[gw (ds:=ds) e];rfl
  | _=>simp[xP] at h
theorem gL:∀{ns:List Int} {xs:List V},dO S H (ns.map .int) xs->xs=ns.map V.int
 | [],_,r=>r.e9
 | n::ns,_,r=>by
  obtain⟨x,t,rfl,r1,r2⟩:=r.of_cons;rw[r1.eQ,gL r2];rfl
noncomputable def zW:List ag->Option ag | [.list ds]=>(iq ds).bind λns=>if ∀n∈ns,-500000000000<=n/\n<=500000000000 then some (.int ns.sum) else none | _=>none
theorem QR (hc:X.calm=true):lj X (.builtin "sum") zW:=⟨_,C1 X.K hc,λgs S H ds vs d R _ _ rs e k=>by
 obtain⟨ds,rfl⟩:∃l,ds=[.list l]:=by
  unfold zW at e;split at e
  .exact⟨_,rfl⟩
  .cases e
 obtain⟨v,rfl,r⟩:=rs.one;obtain⟨a,xs,rfl,sq,_,rr⟩:=r.G9 (K:=X.K);simp only[zW] at e
 cases ei:iq ds with
 | none=>rw[ei] at e;cases e
 | some ns =>
  rw[ei] at e;simp only[Option.bind_some] at e;split at e
  .rename_i hb
   cases e;rw[gw ei] at rr;rw[gL rr] at sq;exact⟨a,ns,rfl,sq,hb,k _ H (.int _) (!24)⟩
  .cases e⟩
noncomputable def insI (a:Int):List Int->List Int | []=>[a] | b::l=>if a<=b then a::b::l else b::insI a l
noncomputable def sortI:List Int->List Int | []=>[] | a::l=>insI a (sortI l)
theorem insI_perm (a:Int):∀l,(insI a l).Perm (a::l)
 | []=>.refl _
 | b::l=>by
  unfold insI;split
  .exact .refl _
  .exact ((insI_perm a l).cons b).trans (.swap a b l)
theorem sortI_perm:∀l,(sortI l).Perm l
 | []=>.refl _
 | a::l=>(insI_perm a (sortI l)).trans ((sortI_perm l).cons a)
theorem pP (a:Int):∀l:List Int,l.Pairwise (·<=·)->(insI a l).Pairwise (·<=·)
 | [],_=>by simp[insI]
 | b::l,h=>by
  unfold insI;obtain⟨h1,h2⟩:=cm.mp h;split
  .rename_i wF
   exact cm.mpr ⟨λc hc=>by rcases ax.mp hc with rfl | hc;exact wF;exact bO wF (h1 c hc),h⟩
  .rename_i wF
   refine cm.mpr ⟨λc hc=>?_,pP a l h2⟩;rcases ax.mp ((insI_perm a l).mem_iff.mp hc) with rfl | hc
   .omega
   .exact h1 c hc
theorem gm:∀l,(sortI l).Pairwise (·<=·)
 | []=>.nil
 | a::l=>pP a _ (gm l)
theorem nB {l m:List Int}(h:l.Perm m)(hl:l.Pairwise (·<=·))(hm:m.Pairwise (·<=·)):l=m:=h.eq_of_pairwise (λa b _ _ h1 h2=>Int.le_antisymm h1 h2) hl hm
noncomputable def jO:List Int->List Int | []=>[] | a::l=>if a∈l then jO l else a::jO l
theorem jg:∀{l:List Int},k∈jO l↔k∈l
 | []=>Iff.rfl
 | a::l=>by
  unfold jO;split
  .rename_i h
   rw[jg,ax];exact⟨.inr,λz=>z.elim (λe=>e ▸ h) id⟩
  .rw[ax,jg,ax]
theorem jP:∀l:List Int,(jO l).Nodup
 | []=>cL
 | a::l=>by
  unfold jO;split
  .exact jP l
  .rename_i h
   exact bf.mpr ⟨λz=>h (jg.mp z),jP l⟩
noncomputable def zX (l:List Int):List Int:=sortI (jO l)
theorem kQ:k∈zX l↔k∈l:=((sortI_perm _).mem_iff).trans jg
theorem mD (l:List Int):(zX l).Pairwise (· < ·):=jI (gm _) ((sortI_perm _).nodup_iff.mpr (jP l))
theorem rD:∀{l m:List Int},l.Pairwise (· < ·)->m.Pairwise (· < ·)->(∀k,k∈l↔k∈m)->l=m:=λ{l m} hl hm h=>by
 have nl:l.Nodup:=hl.imp λh=>by omega
 have nm:m.Nodup:=hm.imp λh=>by omega
 exact nB ((bK nl nm).mpr h) (hl.imp λh=>by omega) (hm.imp λh=>by omega)
noncomputable def ou (u:UX):UX:=λenv n Q=>u env n λd n1=>Good d/\Q (.str d.shown) n1
theorem vH (hr:gy kk X.A)(hm:X.mg "repr" = none)(h:KE X M e u)(hg:Gl X "repr" := by rfl)(hs:eV e=true:=by rfl):KE X M (.Call (.Name "repr" p) [e] [] pos) (ou u) :=
 .of (gE (zA hr) hg hm (!3) (gZ h.run fi hs)) λσ H R env pn S n Q ok hu k=>⟨env,pn,S,n,_,ok,hu,λv H1 d n1 r1 x1 g1 _ q=>⟨S,d,v,rfl,r1,q.1,k _ H1 _ n1 (.str _) x1 g1 q.2⟩⟩
noncomputable def Ng:ag->Option Bool | .bool i=>some i | _=>none
noncomputable def BC (ds:List ag):Option (List Bool):=ds.mapM Ng
@[simp] theorem Lc (ns:List Bool):BC (ns.map .bool)=some ns:=by
 unfold BC
 induction ns with
 | nil=>rfl
 | cons n ns ih=>rw[ar,cB,ih];rfl
end
theorem nf (i:Nat)(l:List Nat)(h:l.contains i=false:=by rfl):i ∉ l:=λz=>by
 have:l.contains i=true:=List.contains_iff_mem.mpr z;rw[h] at this;cases this
theorem IY {P:Nat->Prop}:∀j∈([]:List Nat),P j:=λj h=>by cases h
noncomputable def ow:Int:=1099511627776
noncomputable def iW:UF:=λds n Q _=>match ds with | [.int m]=>(0<m/\m<1073741824/\n<ow)/\∀r:Int,0<=r->r<m->Q (.int r) (n+1) | _=>False
noncomputable def BE (Y:zT):Sp:=λvs H Q _=>∃(fa sa:Addr) (n many:Int),vs=[.ref fa,.int many]/\Y.iV H fa sa n/\0<many/\many<1073741824/\n<ow/\∀(r:Int) (H':Hp),0<=r->r<many->Y.iV H' fa sa (n+1)->Ext [fa] H H'->Q (.int r) H'
noncomputable def qx (Y:zT)(K:W.Frag):Sp:=λvs H Q _=>∃(a:Addr) (ns:List Int),vs=[.ref a]/\gD K H a (!23)/\∀(fa sa:Addr) (H':Hp),Y.iV H' fa sa 0->Ext [] H H'->H fa=none->H sa=none->Q (.ref fa) H'
noncomputable def xQ (K:W.Frag):Sp:=λvs H Q _=>∃(a:Addr) (ns:List Int),vs=[.ref a]/\gD K H a (!23)/\ns.length<=63/\∀H',Q (.bl true) H'
section
variable {P:aV}{w:World}{K:W.Frag}{mg:Str->Option ah}{base:Heap}{f:Addr}{fd:b9}{x:Str}{ps:List Str}{k:Nat}{C:Xc}{u:US}{Y:zT}{st DP:Stmt}{rest:List Stmt}{N:List Str}{sn:Str}
theorem eD.imp {sp Ph:Sp}(D:eD P w K mg base k x ps sp)(h:∀vs H Q E,Ph vs H Q E->sp vs H Q E):eD P w K mg base k x ps Ph:=let ⟨f,fd,F,r⟩:=D.ex;⟨f,fd,F.imp h,r⟩
theorem eD.up {sp:Sp}{k':Nat}(D:eD P w K mg base k x ps sp)(h:k<=k'):eD P w K mg base k' x ps sp:=let ⟨f,fd,F,r⟩:=D.ex;⟨f,fd,F.mono h,r⟩
theorem eD.draw (D:eD P w K mg base k x ps (BE Y)):eD P w K mg base k x ps (xN Y iW):=D.imp λvs H Q E h=>by
 obtain⟨fa,sa,us,S,ds,n,Qp,rfl,fe,hS,r,has,hF,hq⟩:=h;unfold iW at hF;split at hF
 .rename_i m
  obtain⟨⟨h1,h2,h3⟩,h4⟩:=hF;obtain⟨v,t,rfl,r1,r2⟩:=r.of_cons;cases r2.e9;cases r1.eQ;exact⟨fa,sa,n,m,rfl,fe,h1,h2,h3,λr H' r0 r1 W' x=>hq _ _ _ H' (.int r) W' x (h4 r r0 r1)⟩
 .exact hF.elim
theorem Um (F:w6 K "law" "law" st f fd)(sc:fD N [sn] (dQ st))(hN:2<=N.length)
  (body:∀(fG:ah) (A:Around) (outer:List Env) (s:aw) (H:Hp) (E:XK),gy k (A.deeper (envOfC "law" (dQ st) s.heap.objs.size f fG)) ->
   QS (nq vf P w K mg base N "law" (dQ st) f fG A outer s H E).Cq DP (D4 (qU (qx Y K) (Ea (Hn 0) Mg)) (wV 1)) /\
   ∀(fa sa:Addr) (n0:Int) (S:List Addr) (H1:Hp) (hf:Y.iV H1 fa sa n0) (hS:fa∈S) (has:∀a∈S,H1 a≠none),wC (nq vf P w K mg base N "law" (dQ st) f fG A outer s H E).Cq (Fr.feed C Y 1 fa sa n0 S H1 hf hS has) rest u)
  (hb:fZ st=DP::rest) (hu:u { nx:=λ_ _=>False,rt:=λd _=>d=.bool true } (List.replicate N.length none) 0):lx P w K mg base vf (k+1) f fd [sn] (xQ K):=by
 refine F.MP sc (λvs H Q E h=>?_) (λfG A outer s H vs Q E hr h=>?_)
 .obtain⟨a,ns,rfl,_⟩:=h
  rfl
 .obtain⟨a,ns,rfl,hs,_,q⟩:=h
  obtain⟨q0,qr⟩:=body fG A outer s H E hr
  have QU:xk (nq vf P w K mg base N "law" (dQ st) f fG A outer s H E).Cq rest (λD σ H'=>∃fa sa n0 S H1 hf hS has,Bq (Fr.feed C Y 1 fa sa n0 S H1 hf hS has) u D σ H') :=
   ⟨λpins s σ H D I ⟨fa,sa,n0,S,H1,hf,hS,has,h⟩=>(qr fa sa n0 S H1 hf hS has).run.run pins s σ H D I h⟩
  rw[hb];have Cr:start N [V.ref a]=some (.ref a)::List.replicate (N.length - 1) none:=rfl;refine⟨_,eZ q0 QU,_,by rw[Cr];rfl,a,ns,rfl,hs,λfa sa H1 fe x1 xO YX=>?_⟩;have has:∀b∈[fa],H1 b≠none:=λb hb=>by have e:=au.mp hb;subst e;exact Y.fa fe
  refine⟨fa,sa,0,[fa],H1,fe,au.mpr rfl,has,List.replicate N.length none,[],[fa],0,_,⟨λi e he=>?_,λi j ds es b h1=>?_,?_,?_,fe,.refl _ _,λb hb=>hb,λb hb=>.inl hb,has,λp hp=>by cases hp⟩,hu,λ_ _ _ _ _ _ z=>z.elim,λv H' d n' r _ _ e=>?_⟩
  .rw[cf] at he
   split at he<;>cases he
  .rw[cf] at h1
   split at h1<;>cases h1
  .rw[be,Cr,av,df,df]
   omega
  .intro i hi
   have e:i=1:=au.mp hi;subst e;rw[Cr];exact iG (by rw[av,df];omega)
  .subst e
   rw[r.lN];exact q H'
end
noncomputable def QV:UF:=λ_ _ _ _=>False
end L2
namespace L2
open PySem
mutual
def Gd (B:Nat):ag->Prop
 | .none=>True
 | .bool _=>True
 | .int i=>i.natAbs<=B
 | .str x=>(∀c∈x.cps.toList,c<1114112)/\x.cps.size<=60
 | .tuple ds=>Ld B ds
 | .list ds=>Ld B ds
 | .dict _=>False
def Ld (B:Nat):List ag->Prop
 | []=>True
 | d::ds=>Gd B d/\Ld B ds
end
theorem QX:(10:Nat) ^ 50<2 ^ 1920:=by decide +kernel
mutual
theorem vI:∀d:ag,Gd (10 ^ 50) d->d.canLay0=true/\d.showable=true/\d.leavesShort 60=true
 | .none,_=>⟨rfl,rfl,rfl⟩
 | .bool _,_=>⟨rfl,rfl,rfl⟩
 | .int i,g=>by
  simp only[Gd] at g;refine⟨rfl,?_,?_⟩
  .simp only[ag.showable,decide_eq_true_eq]
   by_cases h:i.natAbs=0
   .rw[h];decide
   .exact (Nat.log2_lt h).mpr (cv g QX)
  .simp only[ag.leavesShort,decide_eq_true_eq]
   have e:=int_text_length_le10 (k:=51) (!2) (cv g (by decide +kernel:(10:Nat) ^ 50<10 ^ 51));show (Str.ofString (toString i)).length<=60;rw[ofString_length];omega
 | .str x,g=>by
  simp only[Gd] at g;refine⟨?_,rfl,?_⟩
  .show ag.strOk x=true
   unfold ag.strOk;rw[Array.all_eq_true'];intro c hc;exact decide_eq_true (g.1 c (by simpa using hc))
  .simp only[ag.leavesShort,List.all_eq_true,decide_eq_true_eq]
   intro c hc;exact aW (g.1 c hc) (!2)
 | .tuple ds,g=>by simp only[Gd] at g;simpa only [ag.canLay0,ag.showable,ag.leavesShort] using vJ ds g
 | .list ds,g=>by simp only[Gd] at g;simpa only [ag.canLay0,ag.showable,ag.leavesShort] using vJ ds g
 | .dict _,g=>by simp only[Gd] at g
theorem vJ:∀ds:List ag,Ld (10 ^ 50) ds->ag.canLayAll0 ds=true/\ag.showableAll ds=true/\ag.leavesShortAll 60 ds=true
 | [],_=>⟨rfl,rfl,rfl⟩
 | d::ds,g=>by
  simp only[Ld] at g;obtain⟨a1,a2,a3⟩:=vI d g.1;obtain⟨b1,b2,b3⟩:=vJ ds g.2;simp only[ag.canLayAll0,ag.showableAll,ag.leavesShortAll,a1,a2,a3,b1,b2,b3];exact⟨rfl,rfl,rfl⟩
end
theorem IZ (g:Gd (10 ^ 50) d)(hd:d.depth<=60)(hw:d.weight<=200000):Good d:=⟨(vI d g).1,(vI d g).2.1,(vI d g).2.2,hd,hw⟩
theorem Le (h:i.natAbs<2 ^ k):ag.weight (.int i)<=k:=by
 simp only[ag.weight];split
 .omega
 .rename_i hV
  have:i.natAbs≠0:=λz=>hV (by simp;omega);have:=(Nat.log2_lt this).mpr h;omega
mutual
def Gq (B L:Nat):ag->Prop
 | .none=>True
 | .bool _=>True
 | .int i=>i.natAbs<=B
 | .str x=>(∀c∈x.cps.toList,c<1114112)/\x.cps.size<=L
 | .tuple ds=>DQ B L ds
 | .list ds=>DQ B L ds
 | .dict _=>False
def DQ (B L:Nat):List ag->Prop
 | []=>True
 | d::ds=>Gq B L d/\DQ B L ds
end
mutual
theorem vK {B L B' L':Nat}(h:B<=B')(k:L<=L'):∀d:ag,Gq B L d->Gq B' L' d
 | .none,_=>by simp[Gq]
 | .bool _,_=>by simp[Gq]
 | .int i,g=>by simp only[Gq] at g ⊢;omega
 | .str x,g=>by simp only[Gq] at g ⊢;exact⟨g.1,!1⟩
 | .tuple ds,g=>by simp only[Gq] at g ⊢;exact ox h k ds g
 | .list ds,g=>by simp only[Gq] at g ⊢;exact ox h k ds g
 | .dict _,g=>by simp only[Gq] at g
theorem ox {B L B' L':Nat}(h:B<=B')(k:L<=L'):∀ds:List ag,DQ B L ds->DQ B' L' ds
 | [],_=>by simp[DQ]
 | d::ds,g=>by simp only[DQ] at g ⊢;exact⟨vK h k d g.1,ox h k ds g.2⟩
end
mutual
theorem Lf:∀d:ag,Gq (10 ^ 50) 60 d->Gd (10 ^ 50) d
 | .none,_=>by simp[Gd]
 | .bool _,_=>by simp[Gd]
 | .int i,g=>by simp only[Gq] at g;simp only[Gd];exact g
 | .str x,g=>by simp only[Gq] at g;simp only[Gd];exact g
 | .tuple ds,g=>by simp only[Gq] at g;simp only[Gd];exact zY ds g
 | .list ds,g=>by simp only[Gq] at g;simp only[Gd];exact zY ds g
 | .dict _,g=>by simp only[Gq] at g
theorem zY:∀ds:List ag,DQ (10 ^ 50) 60 ds->Ld (10 ^ 50) ds
 | [],_=>by simp[Ld]
 | d::ds,g=>by simp only[DQ] at g;simp only[Ld];exact⟨Lf d g.1,zY ds g.2⟩
end
structure Sz (B L w p:Nat) (d:ag):Prop where
 gq:Gq B L d
 wt:d.weight<=w
 dp:d.depth<=p
structure mV (B L w p:Nat) (ds:List ag):Prop where
 gq:DQ B L ds
 wt:ag.weightAll ds<=w
 dp:ag.depthAll ds<=p
section
variable {B L B' L' w w' p p':Nat}{d:ag}{ds es:List ag}
theorem Sz.mono (h:Sz B L w p d)(hB:B<=B')(hL:L<=L')(hw:w<=w')(hp:p<=p'):Sz B' L' w' p' d:=⟨vK hB hL d h.gq,bq h.wt hw,bq h.dp hp⟩
theorem mV.mono (h:mV B L w p ds)(hB:B<=B')(hL:L<=L')(hw:w<=w')(hp:p<=p'):mV B' L' w' p' ds:=⟨ox hB hL ds h.gq,bq h.wt hw,bq h.dp hp⟩
theorem Sz.gd (h:Sz B L w p d)(hB:B<=10 ^ 50)(hL:L<=60):Gd (10 ^ 50) d:=Lf d (vK hB hL d h.gq)
theorem Sz.good (h:Sz B L w p d)(hB:B<=10 ^ 50)(hL:L<=60)(hw:w<=200000)(hp:p<=60):Good d:=IZ (h.gd hB hL) (bq h.dp hp) (bq h.wt hw)
theorem mV.nil:mV B L 0 0 []:=⟨by simp[DQ],by simp[ag.weightAll],by simp[ag.depthAll]⟩
theorem mV.cons (h:Sz B L w p d)(t:mV B L w' p' ds):mV B L (w+1+w') (max p p') (d::ds):=by
 refine⟨by simp only[DQ];exact⟨h.gq,t.gq⟩,?_,?_⟩
 .simp only[ag.weightAll];have:=h.wt;have:=t.wt;omega
 .simp only[ag.depthAll];have:=h.dp;have:=t.dp;omega
theorem Sz.tup (h:mV B L w p ds):Sz B L w (p+1) (.tuple ds):=⟨by simp only[Gq];exact h.gq,by simp only[ag.weight];exact h.wt,by simp only[ag.depth];have:=h.dp;omega⟩
theorem Sz.lst (h:mV B L w p ds):Sz B L w (p+1) (.list ds):=⟨by simp only[Gq];exact h.gq,by simp only[ag.weight];exact h.wt,by simp only[ag.depth];have:=h.dp;omega⟩
theorem Sz.int (h:i.natAbs<=B)(hB:B<=10 ^ 50):Sz B L 168 0 (.int i):=⟨by simpa only [Gq] using h,Le (cv (bq h hB) (!3)),by simp[ag.depth]⟩
theorem Sz.small (h:i.natAbs<1024)(hB:1023<=B):Sz B L 10 0 (.int i):=⟨by simp only[Gq];omega,Le h,by simp[ag.depth]⟩
theorem mV.ints (hB:1023<=B):∀{ns:List Int},(∀i∈ns,i.natAbs<1024)->mV B L (11 * ns.length) 0 (ns.map .int)
 | [],_=>mV.nil
 | n::ns,h=>by
  have t:=mV.ints (ns:=ns) hB λi hi=>h i (ai _ hi);have:=mV.cons (Sz.small (h n (aq ..)) hB) t;rw[ar,av];exact this.mono (ap _) (ap _) (!1) (!4)
theorem mV.all:∀{ds:List ag},(∀d∈ds,Sz B L w p d)->mV B L ((w+1) * ds.length) p ds
 | [],_=>mV.nil.mono (ap _) (ap _) (!4) (bD _)
 | d::ds,h=>by
  have t:=mV.all (ds:=ds) λi hi=>h i (ai _ hi);refine (mV.cons (h d (aq ..)) t).mono (ap _) (ap _) ?_ (!4);rw[av,Nat.mul_succ];omega
end
section
variable {i j:Int}{ns ms:List Int}{x y:ag}
theorem Fj (ns:List Int):ag.canLayAll0 (ns.map .int)=true:=by
 induction ns with
 | nil=>rfl
 | cons n ns ih=>simpa [ag.canLayAll0,ag.canLay0] using ih
theorem xR:∀ns ms:List Int,ag.eqvAll (ns.map .int) (ms.map .int)=decide (ns=ms)
 | [],[]=>rfl
 | [],m::ms=>rfl
 | n::ns,[]=>rfl
 | n::ns,m::ms=>by
  simp only[ar,ag.eqvAll,ag.eqv,xR ns ms,List.cons.injEq];by_cases h:n=m<;>simp[h]
theorem Nh (hx:x.canLay0=true)(hy:y.canLay0=true)(hd:x.depth<=60):IH x y=some (.bool (ag.eqv x y)):=if_pos ⟨hx,hy,hd⟩
theorem Ni (hx:x.canLay0=true)(hy:y.canLay0=true)(hd:x.depth<=60):Qq x y=some (.bool (!PyData.eqv x y)):=if_pos ⟨hx,hy,hd⟩
theorem qy:IH (.int i) (.int j)=some (.bool (decide (i=j))):=by
 rw[Nh rfl rfl (by simp[ag.depth])];simp only[ag.eqv];congr
theorem Fl:Qq (.bool a) (.bool b)=some (.bool (!(a == b))):=by
 rw[Ni rfl rfl (by simp[ag.depth])];simp only[ag.eqv]
theorem any_ints (i:Int)(ns:List Int):((ns.map ag.int).any λd=>ag.eqv d (.int i))=decide (i∈ns):=by
 induction ns with
 | nil=>rfl
 | cons n ns ih =>
  rw[ar,cp,ih];simp only[ag.eqv,ax];by_cases h:n=i
  .simp[h]
  .have h':¬ i=n:=λz=>h z.symm
   simp[h,h']
theorem Fm:K3 (.int i) (ns.map .int)=some (decide (i∈ns)):=by
 unfold K3;rw[if_pos ⟨rfl,Fj ns,by simp[ag.depth]⟩,any_ints]
theorem rE:E1 (.int i) (.tuple (ns.map .int))=some (.bool (!decide (i∈ns))):=by simp only[E1,Fm,bW]
end
section
variable {α:Type}
theorem nC (h0:0<=i)(h1:i<xs.length):oY xs i=xs[i.toNat]? := by
 unfold oY HU;rw[if_pos h0,if_pos h1];rfl
theorem fh (a:α)(l:List α):oY (a::l) 0=some a:=by rw[nC (!2) (by simp only[av];omega)];rfl
theorem fm (a b:α)(l:List α):oY (a::b::l) 1=some b:=by rw[nC (!2) (by simp only[av];omega)];rfl
theorem fW (a b c:α)(l:List α):oY (a::b::c::l) 2=some c:=by rw[nC (!2) (by simp only[av];omega)];rfl
theorem I8 (h:xs.getLast? = some x):oY xs (-1)=some x:=by
 have hl:0<xs.length:=by
  cases xs with
  | nil=>cases h
  | cons a l=>simp
 unfold oY HU;rw[if_neg (!2),if_pos (!1)];show xs[(-1+(xs.length:Int)).toNat]? = some x;rw[show (-1+(xs.length:Int)).toNat=xs.length - 1 by omega,<- List.getLast?_eq_getElem?];exact h
theorem Fn (xs:List α)(x:α):oY (xs++[x]) (-1)=some x:=I8 (!4)
theorem Fo {xs:List α}{i:Int}(h0:0<=i)(h1:i<xs.length):∃x,oY xs i=some x/\x∈xs:=by
 have:i.toNat<xs.length:=by omega
 exact⟨xs[i.toNat],by rw[nC h0 h1];simp[this],bC _⟩
theorem BF (xs:List α)(k:Int)(h:0<=k):vz xs none (some k)=xs.take k.toNat:=by
 unfold vz;rw[show k=((k.toNat:Nat):Int) by omega,HT.qj,HT.nW];simp only[List.drop_zero,Nat.sub_zero,bQ];by_cases hc:k.toNat<=xs.length
 .rw[Nat.min_eq_left hc]
 .rw[Nat.min_eq_right (!1),bT (ap _),bT (!1)]
theorem C2 (xs:List α)(k:Int)(h:0<=k):vz xs (some k) none=xs.drop k.toNat:=by
 unfold vz;rw[show k=((k.toNat:Nat):Int) by omega,HT.qj,HT.nW];simp only[bQ];by_cases hc:k.toNat<=xs.length
 .rw[Nat.min_eq_left hc,bT (by rw[List.length_drop];exact ap _)]
 .rw[Nat.min_eq_right (!1),bS (ap _),bS (!1)]
  simp
end
theorem eS:gJ (.tuple ds) (.int i)=oY ds i:=rfl
theorem gp:gJ (.list ds) (.int i)=oY ds i:=rfl
theorem jQ (h0:0<m)(h1:m<1073741824)(h2:n<ow)(h:∀r:Int,0<=r->r<m->Q (.int r) (n+1)):iW [.int m] n Q X:=⟨⟨h0,h1,h2⟩,h⟩
section
variable {i j:Nat}{ue:UX}{uc:UT}{Q:List ag->Int->Prop}{env:eU}
theorem pQ (f:ag->ag)(p:ag->Bool):∀(its acc:List ag) (n:Int) (env:eU),(∀d∈its,∀n Q,ue (env.set i (some (.s d))) n Q=Q (f d) n)->(∀d∈its,∀n Q,uc (env.set i (some (.s d))) n Q=Q (p d) n)->gA (iT i) uc ue Q its acc env n=Q (acc++(its.filter p).map f) n
 | [],acc,n,env,_,_=>by simp[gA]
 | d::ds,acc,n,env,h,k=>by
  have ih:=λacc=>pQ f p ds acc n (env.set i (some (.s d))) (λe he n Q=>by rw[dI];exact h e (ai _ he) n Q) (λe he n Q=>by rw[dI];exact k e (ai _ he) n Q);simp only[gA,iT,k d (aq ..),h d (aq ..),ih]
  cases hp:p d with
  | true=>simp[hp]
  | false=>simp[hp]
end
theorem iM (Inv:List ag->List ag->eU->Int->Prop) :
  ∀(its pre:List ag) (env:eU) (n:Int),(∀pre d post env n (E':pM),E'.rt=E.rt->Inv pre (d::post) env n->(∀eh n',Inv (pre++[d]) post eh n'->E'.nx eh n')->ug d env λFh=>ub E' Fh n)->Inv pre its env n->(∀pre env n,Inv pre [] env n->E.nx env n)->lq ug ub E its env n
 | [],pre,env,n,_,h0,hd=>hd pre env n h0
 | d::ds,pre,env,n,hb,h0,hd=>hb pre d ds env n { nx:=lq ug ub E ds,rt:=E.rt } rfl h0 λeh n' h'=>iM Inv ds (pre++[d]) eh n' hb h' hd
theorem BG (h:zk i j):zN (.int i) (.int j)=some (.int (i * j)):=if_pos h
theorem Fp:zN (.int c) (.int (if b=true then 1 else 0))=some (.int (if b=true then c else 0)):=by
 cases b with
 | true=>rw[if_pos rfl,if_pos rfl,BG (.inr ⟨!2,!2⟩),Int.mul_one]
 | false=>rw[if_neg (!2),if_neg (!2),BG (.inr ⟨!2,!2⟩),Int.mul_zero]
theorem zZ (h:xs.length+ys.length<=16777216):ie (.tuple xs) (.tuple ys)=some (.tuple (xs++ys)):=if_pos (by rw[show az=16777216 by decide];exact h)
theorem Fq (h:xs.length+ys.length<=16777216):ie (.list xs) (.list ys)=some (.list (xs++ys)):=if_pos (by rw[show az=16777216 by decide];exact h)
theorem kR (h:ds.length<16777216):jc ds [d]=some (ds++[d]):=if_pos (by rw[show az=16777216 by decide];exact h)
theorem I9 (h:0<j):IG (.int i) (.int j)=some (.int (i % j)):=if_pos h
noncomputable def fS (lo:Int)(n:Nat):List Int:=(List.range n).map λ(k:Nat)=>lo+(k:Int)
theorem qz (lo:Int)(n:Nat):rB lo n=(fS lo n).map .int:=by unfold rB fS;rw[bp];rfl
theorem fM:i∈fS lo n↔lo<=i/\i<lo+n:=by
 unfold fS;rw[aM];constructor
 .rintro⟨k,hk,rfl⟩
  have:=List.mem_range.mp hk;omega
 .intro h
  exact⟨(i - lo).toNat,List.mem_range.mpr (!1),!1⟩
theorem fN (lo:Int)(n:Nat):(fS lo n).length=n:=by simp[fS]
theorem xT (p:ag->Bool)(ns:List Int):(ns.map ag.int).filter p=(ns.filter λi=>p (.int i)).map .int:=by rw[List.filter_map];rfl
theorem Fs (f:ag->ag)(ns:List Int):(ns.map ag.int).map f=ns.map λi=>f (.int i):=by rw[bp];rfl
theorem mE (f:Int->ag)(p:Int->Bool)(ns:List Int)(acc:List ag)(n:Int)(env:eU)(h:∀k∈ns,∀n Q,ue (env.set i (some (.s (.int k)))) n Q=Q (f k) n)(hp:∀k∈ns,∀n Q,uc (env.set i (some (.s (.int k)))) n Q=Q (p k) n) :
  gA (iT i) uc ue Q (ns.map .int) acc env n=Q (acc++(ns.filter p).map f) n:=by
 rw[pQ (λd=>match d with | .int k=>f k | _=>.none) (λd=>match d with | .int k=>p k | _=>false) _ _ _ _ (λd hd n Q=>?_) (λd hd n Q=>?_),xT,Fs]
 .obtain⟨k,hk,rfl⟩:=aM.mp hd
  exact h k hk n Q
 .obtain⟨k,hk,rfl⟩:=aM.mp hd
  exact hp k hk n Q
noncomputable def z5 (x y:ag):Option ag:=match x,y with | .str a,.str b=>some (.bool (!decide (a=b))) | _,_=>none
theorem Ft:decide (V.str a=V.str b)=decide (a=b):=by
 rw[decide_eq_decide];exact⟨λh=>by cases h;rfl,λh=>by rw[h]⟩
theorem fb.BH (r:fb gs S H (.str x) v):v=.str x:=by
 rcases r with r | ⟨ds,a,xs,h,_⟩ | ⟨t,kvs,a,xs,h,_⟩
 .exact r.j4
 .cases h
 .cases h
section
theorem Lg:y8 X (compareOp .NotEq) z5:=⟨_,Pd,λgs S H dx dy x y d R _ _ r1 r2 e k=>by
 unfold z5 at e;split at e
 .rename_i a b
  cases e;have e1:=r1.BH;have e2:=r2.BH;subst e1 e2;refine⟨rfl,?_⟩;rw[Ft];exact k _ H (.bl _) (!24)
 .cases e⟩
end
end L2
namespace L2
open PySem PySem.Spec PyProof.Rows
noncomputable def Uo (x:ag):Prop:=match x with | .tuple _=>True | .list _=>True | _=>False
theorem BI {X:Cx}{o:Expr}{to:TE}{name:Str}{gR fY:Pos}{T id:String}{r:V->List V->Hp->VK->Prop}(pa:PlainAttrs T)(slot:Slot T name id)(Eh:typeOf (.builtin id)=pure (.type "method_descriptor"))(hm:CC X id r)(ho:QE X o to)
  (jh:attributeBase o name X.env (eval o X.env)=eval o X.env) (ji:(gR.endLine == fY.line)=true):QE X (.Call (.Attribute o name gR) [] [] fY) (Pw X.K T r to):=⟨Mv pa slot Eh hm ho.run jh ji⟩
section
variable {X:Cx}
theorem uo:∀l:List Int,(∀n∈l,-500000000000<=n/\n<=500000000000)->-(500000000000 * (l.length:Int))<=l.sum/\l.sum<=500000000000 * l.length
 | [],_=>by simp
 | a::l,hl=>by
  have h1:=uo l λn hn=>hl n (ai _ hn);have h2:=hl a (aq ..);rw[dj,av];omega
theorem C3 (K:W.Frag)(hc:X.calm=true)(hk:X.K=K:=by rfl):f6 X (.builtin "sum") (λxs H Q=>∃(p:Addr) (ns:List Int),xs=[.ref p]/\iQ K H p (!23)/\(∀n∈ns,-500000000000<=n/\n<=500000000000)/\Q (.int ns.sum) H):=by
 subst hk;intro pins s σ H xs us Q I r h;obtain⟨p,ns,rfl,hp,hb,q⟩:=h;obtain⟨u,rfl,ru⟩:=vals1 r;cases ru;obtain⟨its,rv,ht,hz⟩:=I.tuple hp;have OB:s.heap.IsTuple p its.toArray:=ht;have jE:p<s.heap.objs.size:=let ⟨o,e,_⟩:=OB;aD e;have hlen:its.toArray.size=ns.length:=by rw[aE,<- rv.length,ao]
 rw[ao] at hz;have hsz:az=16777216:=by decide
 refine call_sum_walk (wpAny_pyIter_tuple OB ⟨s.heap.objs.size,_,_,its.toArray.size,_,_,λa=>ns.getD a 0,rfl,Walks.tuple (A:=X.A.in1) (I.ok.hd hc) _ p (aR jE) its.toArray,⟨⟨_,ay _ rfl,rfl,rfl⟩,OB.at λo e=>ak _ e⟩,?_,?_,?_,?_⟩)
 .intro b y'
  rw[bV];rcases ax.mp y' with e | y'
  .rw[e];exact cP _
  .rw[show b=p by simpa using y'];exact b8 jE
 .intro a v e
  obtain⟨x,hx,rx⟩:=rv.at' (show its[a]? = some v by simpa using e);rw[aB] at hx
  cases hn:ns[a]? with
  | none=>rw[hn] at hx;cases hx
  | some b =>
   rw[hn] at hx;cases hx;obtain⟨t,rfl⟩:=rx;exact⟨t,by show ah.int b t=ah.int (ns.getD a 0) t;rw[show ns.getD a 0=b by rw[am,hn];rfl]⟩
 .intro j hj
  rw[hlen] at hj;have h1:=hb (ns.getD j 0) (by rw[am,show ns[j]? = some ns[j] by simp[hj]];exact bC hj);have h2:=uo (ns.take (j+1)) λn hn=>hb n (dk hn);rw[bY] at h2;show InLong (ns.getD j 0)/\InLong (preSum (λa=>ns.getD a 0) (j+1));unfold InLong;rw[iJ ns (j+1) (!1)];have h3:(min (j+1) ns.length:Nat)<=16777216:=by omega
  constructor<;>constructor<;>omega
 .intro h' tk t' kp
  have I1:Inv X pins σ H { s with heap:=h',toks:=tk }:=I.kept λb o e=>kp b o (λz=>by
   rw[show b=s.heap.objs.size by simpa using z] at e;exact absurd (aD e) (bM _)) (ak _ e)
  rw[show preSum (λa=>ns.getD a 0) its.toArray.size=ns.sum by rw[hlen,iJ ns _ (ap _),dC]];exact⟨.int _,H,I1,⟨_,rfl⟩,q⟩
noncomputable def xU (ds:List ag):Option ag:=match ds with | [.tuple ds]=>zW [.list ds] | ds=>zW ds
theorem Nj (hc:X.calm=true):lj X (.builtin "sum") xU:=by
 obtain⟨r,hr,hd⟩:=(QR (X:=X) hc).ex;refine⟨_,(show f6 X (.builtin "sum") λxs H Q=>(∃(p:Addr) (ns:List Int),xs=[.ref p]/\iQ X.K H p (!23)/\(∀n∈ns,-500000000000<=n/\n<=500000000000)/\Q (.int ns.sum) H)\/r xs H Q from λpins s σ H xs us Q I rv h=>h.elim (C3 X.K hc rfl pins s σ H xs us Q I rv) (hr pins s σ H xs us Q I rv)),λgs S H ds vs d R hs hz rs e k=>?_⟩;unfold xU at e;split at e
 .rename_i ds
  obtain⟨v,rfl,rl⟩:=rs.one;obtain⟨a,xs,rfl,sq,_,rr⟩:=rl.IK (K:=X.K);simp only[zW] at e
  cases ei:iq ds with
  | none=>rw[ei] at e;cases e
  | some ns =>
   rw[ei] at e;simp only[Option.bind_some] at e;split at e
   .rename_i hb
    cases e;rw[gw ei] at rr;rw[gL rr] at sq;exact .inl ⟨a,ns,rfl,sq,hb,k _ H (.int _) (!24)⟩
   .cases e
 .exact .inr (hd gs S H ds vs d R hs hz rs e k)
end
theorem Ja {α:Type}{us:List α}{n:Nat}(h:us.length=n+1):∃a r,us=a::r/\r.length=n:=by
 cases us with
 | nil=>cases h
 | cons a r=>exact⟨a,r,rfl,Nat.succ.inj h⟩
theorem Fu {α:Type}{us:List α}(h:us.length=1):∃a,us=[a]:=by
 obtain⟨a,r,rfl,k⟩:=Ja (n:=0) h;rw[cE k];exact⟨_,rfl⟩
theorem C4 {α:Type}{us:List α}(h:us.length=2):∃a b,us=[a,b]:=by
 obtain⟨a,r,rfl,k⟩:=Ja (n:=1) h;obtain⟨b,rfl⟩:=Fu k;exact⟨_,_,rfl⟩
theorem Fv {α:Type}{us:List α}(h:us.length=3):∃a b c,us=[a,b,c]:=by
 obtain⟨a,r,rfl,k⟩:=Ja (n:=2) h;obtain⟨b,c,rfl⟩:=C4 k;exact⟨_,_,_,rfl⟩
theorem QY {α:Type}{us:List α}(h:us.length=4):∃a b c d,us=[a,b,c,d]:=by
 obtain⟨a,r,rfl,k⟩:=Ja (n:=3) h;obtain⟨b,c,d,rfl⟩:=Fv k;exact⟨_,_,_,_,rfl⟩
section
theorem xV (ht:s.heap.IsTuple t vs.toArray)(hsz:vs.length<=1000)
  (h:∀h1:Heap,(∀b o,s.heap.get? b=some o->h1.get? b=some o)->Q vs { s with heap:=h1 }):aG (!10) A (collect (.ref t)) Q E s:=by
 obtain⟨o,ho,hc,n,hd⟩:=id ht;have h6:az=16777216:=by decide
 (unfold collect;refine aa (wpAny_runValue (codeAny_builtin entry_proto_collect' ?_)))
 show aG _ _ (newList [] >>= λz=>again (.builtin "list.__iadd__" ⟨[z,.ref t],[]⟩)) _ _ s;refine aa (wpAny_newList (aj ⟨Code.quiet_builtin _ (!3),codeAny_builtin entry_list_iadd' (?_:aG _ _ _ _ _ _)⟩));show aG _ _ (Builtin.List.listExtendWith (!14) (.ref t) (!14)) _ _ { s with heap:=s.heap.push (seqObj "list" #[] 0) };have g:(s.heap.push (seqObj "list" #[] 0)).get? t=some o:=ak _ ho
 (unfold Builtin.List.listExtendWith;refine aa (wpAny_typeOf (T := "tuple") ⟨o,g,hc⟩ ?_))
 rw[if_pos (!4)];refine aa (listItems_at g hd (aa (listItems_at (xs:=#[]) (n:=0) (ay _ rfl) rfl ?_)));rw[if_neg (!4)];refine aa (listUpdate_at (xs:=#[]) (n:=0) (ay _ rfl) rfl (aj ?_) (bD _) (by show (#[]++vs.toArray).size<=az+1;simp only[Array.size_append,aE,bz];omega));show aG (!10) A (load s.heap.objs.size >>= _) Q E { s with heap:=(s.heap.push (seqObj "list" #[] 0)).update s.heap.objs.size (Obj.mapSeq (·++vs.toArray)) };refine aa (wpAny_load (get?_update_seq (ay _ rfl) _) ?_);show aG _ _ (pure ((#[]:Array ah)++vs.toArray).toList) Q E _;rw[show ((#[]:Array ah)++vs.toArray).toList=vs by simp];refine aj (h _ λb ob e=>?_);rw[aI _ _ (bB (aD e))];exact ak _ e
end
section
theorem vL (K:W.Frag)(hk:X.K=K:=by rfl):f6 X (.builtin "sorted") (λxs H Q=>∃(p:Addr) (ns:List Int),xs=[.ref p]/\iQ K H p (!23)/\ns.length<64 /\
  ∀(l:Addr) (ms:List Int),ms.Perm ns->ms.Pairwise (·<=·)->H l=none->Q (.ref l) (eM H l (.lst (ms.map V.int)))):=by
 subst hk;intro pins s σ H xs us Q I r h;obtain⟨p,ns,rfl,hp,OA,q⟩:=h;obtain⟨u,rfl,ru⟩:=vals1 r;cases ru;obtain⟨its,rv,ht,hz⟩:=I.tuple hp;have hI:IntsAre its ns:=IntsAre.vq rv;have C5:its.length<64:=by rw[IntsAre.length hI];exact OA
 refine Calls.call_function_entry kind_sorted plain_sorted entry_sorted (args_sorted1 _) ?_
 (unfold Builtin.«sorted»;refine aa (m:=checkCount "sorted" 1 1 _) (aj ?_))
 refine aa (xV (A:=X.A.in1) (show s.heap.IsTuple p its.toArray from ht) (!1) λh1 Up=>?_);refine aa (wpAny_newList ?_);have DL:(h1.push (seqObj "list" its.toArray 0)).get? h1.objs.size=some (seqObj "list" its.toArray 0):=ay _ rfl;show aG _ _ _ _ _ { s with heap:=h1.push (seqObj "list" its.toArray 0) };refine aa (wpAny_holding (wpAny_call_entry slot_list_sort ⟨_,DL,rfl⟩ entry_list_sort (list_sort_tree DL hI C5 λout Sf a1 a2 a3=>⟨_,rfl,?_⟩) (args_list_sort _)));refine aj ⟨_,rfl,?_⟩;have hm:=a2.length_eq;have hv:eg (Sf.map V.int) out.toList:=eg.vt a1;have hsz:(Sf.map V.int).length<=az:=by rw[ao,show az=16777216 by decide];omega
 have I1:Inv X pins σ H { s with heap:=h1 }:=I.kept (t':=s.toks) Up
 have MX:∀b ob,h1.get? b=some ob->(sortedHeap (h1.push (seqObj "list" its.toArray 0)) h1.objs.size its out).get? b=some ob:=by
  intro b ob e;have hb:h1.objs.size≠b:=bB (aD e);unfold sortedHeap;rw[aI _ _ hb];refine ak _ (ak _ ?_);rw[aI _ _ hb];exact ak _ e
 have nw:∃n,(sortedHeap (h1.push (seqObj "list" its.toArray 0)) h1.objs.size its out).get? h1.objs.size=some { cls:=.type "list",data:=.seq out n }:=by
  have g2:=aT (Obj.mapSeq λ_=>(#[]:Array ah)) DL rfl;have g3:=ak (seqObj "list" #[] 0) (ak (seqObj "tuple" its.toArray 0) g2);exact⟨_,aT (Obj.mapSeq λ_=>out) g3 rfl⟩
 obtain⟨n,nw⟩:=nw;exact⟨.ref h1.objs.size,_,I1.laid (t':=s.toks) (o:=.lst (Sf.map V.int)) MX (ap _) ⟨hsz,out.toList,n,hv,by simpa using nw⟩,rfl,q _ Sf a2 a3 (I1.eP.fresh (ap _))⟩
end
noncomputable def Lh (u:UX):eU->Int->(List ag->Int->Prop)->Prop:=λenv n Q=>u env n λd n1=>lE (p8 d) λds=>lE (iq ds) λns=>ns.length<64/\Q ((sortI ns).map .int) n1
section
theorem Jb (hm:X.mg "sorted" = none)(h:KL X M e u)(hg:Gl X "sorted" := by rfl)(hs:eV e=true:=by rfl):KN X M (.Call (.Name "sorted" p) [e] [] pos) (Lh u) :=
 .of (gE (show f6 X (.builtin "sorted") _ from λpins s σ H xs us Q I r (hh:(∃(p:Addr) (ns:List Int),xs=[.ref p]/\(gD X.K H p (!23)\/iQ X.K H p (!23))/\ns.length<64/\∀(l:Addr) (ms:List Int),ms.Perm ns->ms.Pairwise (·<=·)->H l=none->Q (.ref l) (eM H l (.lst (ms.map V.int)))))=>by
  obtain⟨p,ns,e1,sq,rest⟩:=hh;rcases sq with sq | sq
  .exact kP X.K rfl pins s σ H xs us Q I r ⟨p,ns,e1,sq,rest⟩
  .exact vL X.K rfl pins s σ H xs us Q I r ⟨p,ns,e1,sq,rest⟩) hg hm (!3) (gZ h.run fi hs)) λσ H R env pn S n Q ok hu k=>⟨env,pn,S,n,_,ok,hu,λv H1 d n1 r1 x1 g1 _ q=>by
  obtain⟨ds,es,ns,ei,hl,q⟩:=q;have e2:=gw ei;subst e2
  have fin:∀(l:Addr) (ms:List Int),ms.Perm ns->ms.Pairwise (·<=·)->H1 l=none->R (.ref l) (eM H1 l (.lst (ms.map V.int))):=λl ms pm ps hl=>by
   have em:ms=sortI ns:=nB (pm.trans (sortI_perm ns).symm) ps (gm ns);subst em;exact k l _ _ _ n1 (zV ok x1 g1 hl) dP (.ints _) (x1.trans (.new hl)) (M.ix g1 (.new (S:=[]) hl) (!4)) q
  cases d with
  | list xs =>
   cases es;obtain⟨a,xs,rfl,sq,_,rs⟩:=r1.G9 (K:=X.K);rw[gL rs] at sq;exact⟨a,ns,rfl,.inl sq,hl,fin⟩
  | tuple xs =>
   cases es;obtain⟨a,xs,rfl,sq,_,rs⟩:=r1.IK (K:=X.K);rw[gL rs] at sq;exact⟨a,ns,rfl,.inr sq,hl,fin⟩
  | _=>cases es⟩
end
noncomputable abbrev Cx.low (X:Cx):Cx:={ X with calm:=false,xe:=λ_ _=>False }
noncomputable abbrev iy (h0 h1:Heap):Prop:=∀b o,h0.get? b=some o->h1.get? b=some o
noncomputable def uq (prog:aV)(w:World)(A:Around)(h0:Heap)(op:CmpOp)(P:Nat->ah->Prop)(bt:Nat->Nat->Bool):Prop :=
 ∀i j u v (s:aw) (Q:ah->aw->Prop) (E:ah->aw->Prop),iy h0 s.heap->P i u->P j v->Q (.bool (bt i j)) s->aG (!10) A (richCompare op u v) Q E s
section
variable {prog:aV}{w:World}{A:Around}{E:ah->aw->Prop}{s:aw}{R:Result->aw->Prop}{it:Addr}{fp wr:List Addr}{n:Nat}{P:Nat->ah->Prop}{St:Nat->Heap->Prop}
theorem Fw {h0:Heap}{kw:List (Str × ah)}(W:Walks prog w A.in1 it fp wr n P St)(nw:∀b∈wr,h0.get? b=none)(bt:Nat->Nat->Bool)(cmp:uq prog w A.in1 h0 .Lt P bt)(z:Addr)(zf:z ∉ fp)(z0:h0.get? z=none) :
  ∀(m j:Nat) (s:aw) (b:ah) (c:Nat),n=j+1+m->St (j+1) s.heap->P (argBest bt j) b->s.heap.get? z=some { cls:=.type "list",dict:=none,data:=.seq #[b,b] c,slots:=#[] }->iy h0 s.heap ->
  (∀v hh tk,P (argBest bt (n - 1)) v->iy h0 hh->R (.ok (.ret v)) { s with heap:=hh,toks:=tk })->codeAny (!10) A (.builtin "min.loop" ⟨[.ref it,.none,.ref z],kw⟩) R s:=by
 have zw:z ∉ wr:=λy=>zf (W.sub _ y);have nm:(toString "min" ++ toString ".loop" : String) = "min.loop" := by decide
 have Fx:∀{hh:Heap} {f:Obj->Obj},iy h0 hh->iy h0 (hh.update z f):=λ{hh f} k x o e=>(aI _ _ (λq:z=x=>by rw[<- q,z0] at e;cases e)).trans (k x o e);intro m
 induction m with
 | zero =>
  intro j s b c en st pb gz kp fin;refine codeAny_builtin F.entry_min_loop ?_;rw[Around.under_plainId F.plain_min_loop _];refine aa (m:=seqItems? (.ref z)) (wpAny_seqItems gz rfl ?_);refine aa (m:=tryCatch (pyNext (.ref it)) _) (wpAny_tryCatch (W.done s _ _ (by rw[en];exact st) λh1 t1 k1=>?_));have k2:iy h0 h1:=λx o e=>k1 x o (λy=>by rw[nw x y] at e;cases e) (kp x o e);refine aa (m:=updateSeq z λ_=>#[]) (wpAny_updateSeq (k1 z _ zw gz) rfl (aa (wpAny_letGo (aj (fin b _ t1 (by rw[en];exact pb) (Fx k2))))))
 | succ m ih =>
  intro j s b c en st pb gz kp fin;refine codeAny_builtin F.entry_min_loop ?_;rw[Around.under_plainId F.plain_min_loop _];refine aa (m:=seqItems? (.ref z)) (wpAny_seqItems gz rfl ?_);refine aa (m:=tryCatch (pyNext (.ref it)) _) (wpAny_tryCatch (W.item (j+1) s _ _ (!1) st λv h1 t1 pv QZ k1=>?_));have k2:iy h0 h1:=λx o e=>k1 x o (λy=>by rw[nw x y] at e;cases e) (kp x o e);have g1:=k1 z _ zw gz;refine aa (m:=tryCatch (holding [v,v] (richCompare .Lt v b >>= _)) _) (wpAny_tryCatch (wpAny_holding (aa (cmp (j+1) (argBest bt j) v b _ _ _ k2 pv pb (aa (wpAny_holding (wpAny_truthy_bool (aa (wpAny_letGo (aj ?_))))))))))
  cases eb:bt (j+1) (argBest bt j) with
  | true =>
   rw[if_pos rfl];refine aa (wpAny_updateSeq g1 rfl (aa (wpAny_letGo ?_)));rw[nm];exact aj ⟨plainId_quiet F.plain_min_loop _,ih (j+1) _ v _ (!1) (W.frame _ _ _ QZ λx xf o e=>(aI _ _ (λq:z=x=>zf (by rw[q];exact xf))).trans e) (by simp only[argBest,eb,if_true];exact pv) (aT _ g1 rfl) (Fx k2) λv' h2 t2 p2 k3=>fin v' h2 t2 p2 k3⟩
  | false =>
   rw[if_neg (!2)];refine aa (wpAny_letGo ?_);rw[nm];exact aj ⟨plainId_quiet F.plain_min_loop _,ih (j+1) _ b c (!1) QZ (by simp only[argBest,eb,bx,if_false];exact pb) g1 k2 λv' h2 t2 p2 k3=>fin v' h2 t2 p2 k3⟩
theorem Nk {l:Addr}{vs:Array ah}{bt:Nat->Nat->Bool}{Q:ah->aw->Prop}(hh:A.handled=none)(gl:s.heap.IsList l vs)(ne:0<vs.size)(cmp:uq prog w A.in1 s.heap .Lt (λi v=>vs[i]? = some v) bt)
  (fin:∀v h1 tk,vs[argBest bt (vs.size - 1)]? = some v->iy s.heap h1->Q v { s with heap:=h1,toks:=tk }):aG (!10) A (call (.builtin "min") [.ref l]) Q E s:=by
 have nm:(toString "min" ++ toString ".loop" : String) = "min.loop" := by decide
 have ll:l<s.heap.objs.size:=let ⟨_,e,_⟩:=gl;aD e;refine call_function_tree F.kind_min F.plain_min F.entry_min (F.args_min1 _) ?_;refine aa (m:=Builtin.Builtins.bindParams "min" ["key", "default"] 0 ⟨[],[]⟩) (wpAny_of_eq (show _=pure [none,none] from rfl) (aa (aj (aa ?_))));refine wpAny_pyIter_list gl (aa (aY ?_));rw[nm];have W:=Walks.list (prog:=prog) (w:=w) (A:=A.in1) hh s.heap.objs.size l (aR ll) vs;have no:∀k,s.heap.get? (s.heap.objs.size+k)=none:=λk=>by simp[Heap.get?]
 have gi:(s.heap.push { cls:=.type "list_iterator",data:=.fields #[.ref l,.int 0 0] }).IsListIter s.heap.objs.size l 0:=⟨_,ay _ rfl,rfl,rfl⟩;have sz:(s.heap.push { cls:=.type "list_iterator",data:=.fields #[.ref l,.int 0 0] }).objs.size=s.heap.objs.size+1:=bV ..;have oy:iy s.heap (s.heap.push { cls:=.type "list_iterator",data:=.fields #[.ref l,.int 0 0] }):=λb o e=>ak _ e;have DP:(s.heap.push { cls:=.type "list_iterator",data:=.fields #[.ref l,.int 0 0] }).IsList l vs:=gl.push _;show aG _ _ _ _ _ { s with heap:=(s.heap.push { cls:=.type "list_iterator",data:=.fields #[.ref l,.int 0 0] }).push { cls:=.type "list",data:=.seq #[] 0 } };generalize s.heap.push { cls:=.type "list_iterator",data:=.fields #[.ref l,.int 0 0] }=h1 at gi sz oy DP ⊢;have gz:(h1.push { cls:=.type "list",data:=.seq #[] 0 }).get? h1.objs.size=some { cls:=.type "list",data:=.seq #[] 0 }:=ay _ rfl;have m8:iy h1 (h1.push { cls:=.type "list",data:=.seq #[] 0 }):=λb o e=>ak _ e
 have zf:h1.objs.size ∉ [s.heap.objs.size,l]:=by
  rw[sz];simp only[ax,cR,or_false,not_or];exact⟨cQ _,bB (b8 ll)⟩
 have zw:h1.objs.size ∉ [s.heap.objs.size]:=λy=>zf (W.sub _ y);refine aj ⟨plainId_quiet F.plain_min_loop _,codeAny_builtin F.entry_min_loop ?_⟩;rw[Around.under_plainId F.plain_min_loop _];refine aa (m:=seqItems? (.ref h1.objs.size)) (wpAny_seqItems gz rfl ?_);refine aa (m:=tryCatch (pyNext (!14)) _) (wpAny_tryCatch (W.item 0 _ _ _ ne (W.frame _ _ _ ⟨gi,DP⟩ λb _ o e=>m8 b o e) λv h3 t3 pv zj k3=>?_));have g3:=k3 _ _ zw gz;have rF:iy s.heap h3:=λb o e=>k3 b o (λy=>by rw[au.mp y,<- cy s.heap.objs.size,no] at e;cases e) (m8 b o (oy b o e));refine aa (m:=updateSeq h1.objs.size λ_=>#[v,v]) (wpAny_updateSeq g3 rfl ?_);rw[nm];refine aj ⟨plainId_quiet F.plain_min_loop _,Fw W (λb hb=>by rw[au.mp hb,<- cy s.heap.objs.size];exact no 0) bt cmp h1.objs.size zf (by rw[sz];exact no 1) (vs.size - 1) 0 _ v _ (!1) (W.frame _ _ _ zj λx xf o e=>(aI _ _ (λq:h1.objs.size=x=>zf (by rw[q];exact xf))).trans e) pv (aT _ g3 rfl) (λx o e=>(aI _ _ (λq:h1.objs.size=x=>by rw[<- q,sz,no] at e;cases e)).trans (rF x o e)) λv' h4 t4 p4 k4=>fin v' h4 t4 p4 k4⟩
theorem Nl {h0:Heap}(W:Walks prog w A.in1 it fp wr n P St)(nw:∀b∈wr,h0.get? b=none)(bt:Nat->Nat->Bool)(cmp:uq prog w A.in1 h0 .Gt P bt)(z:Addr)(zf:z ∉ fp)(z0:h0.get? z=none) :
  ∀(m j:Nat) (s:aw) (b:ah) (c:Nat),n=j+1+m->St (j+1) s.heap->P (argBest bt j) b->s.heap.get? z=some { cls:=.type "list",dict:=none,data:=.seq #[b,b] c,slots:=#[] }->iy h0 s.heap ->
  (∀v hh tk,P (argBest bt (n - 1)) v->iy h0 hh->R (.ok (.ret v)) { s with heap:=hh,toks:=tk })->codeAny (!10) A (.builtin "max.loop" ⟨[.ref it,.none,.ref z],[]⟩) R s:=by
 have zw:z ∉ wr:=λy=>zf (W.sub _ y);have nm:(toString "max" ++ toString ".loop" : String) = "max.loop" := by decide
 have Fx:∀{hh:Heap} {f:Obj->Obj},iy h0 hh->iy h0 (hh.update z f):=λ{hh f} k x o e=>(aI _ _ (λq:z=x=>by rw[<- q,z0] at e;cases e)).trans (k x o e);intro m
 induction m with
 | zero =>
  intro j s b c en st pb gz kp fin;refine codeAny_builtin F.entry_max_loop ?_;rw[Around.under_plainId F.plain_max_loop _];refine aa (m:=seqItems? (.ref z)) (wpAny_seqItems gz rfl ?_);refine aa (m:=tryCatch (pyNext (.ref it)) _) (wpAny_tryCatch (W.done s _ _ (by rw[en];exact st) λh1 t1 k1=>?_));have k2:iy h0 h1:=λx o e=>k1 x o (λy=>by rw[nw x y] at e;cases e) (kp x o e);refine aa (m:=updateSeq z λ_=>#[]) (wpAny_updateSeq (k1 z _ zw gz) rfl (aa (wpAny_letGo (aj (fin b _ t1 (by rw[en];exact pb) (Fx k2))))))
 | succ m ih =>
  intro j s b c en st pb gz kp fin;refine codeAny_builtin F.entry_max_loop ?_;rw[Around.under_plainId F.plain_max_loop _];refine aa (m:=seqItems? (.ref z)) (wpAny_seqItems gz rfl ?_);refine aa (m:=tryCatch (pyNext (.ref it)) _) (wpAny_tryCatch (W.item (j+1) s _ _ (!1) st λv h1 t1 pv QZ k1=>?_));have k2:iy h0 h1:=λx o e=>k1 x o (λy=>by rw[nw x y] at e;cases e) (kp x o e);have g1:=k1 z _ zw gz;refine aa (m:=tryCatch (holding [v,v] (richCompare .Gt v b >>= _)) _) (wpAny_tryCatch (wpAny_holding (aa (cmp (j+1) (argBest bt j) v b _ _ _ k2 pv pb (aa (wpAny_holding (wpAny_truthy_bool (aa (wpAny_letGo (aj ?_))))))))))
  cases eb:bt (j+1) (argBest bt j) with
  | true =>
   rw[if_pos rfl];refine aa (wpAny_updateSeq g1 rfl (aa (wpAny_letGo ?_)));rw[nm];exact aj ⟨plainId_quiet F.plain_max_loop _,ih (j+1) _ v _ (!1) (W.frame _ _ _ QZ λx xf o e=>(aI _ _ (λq:z=x=>zf (by rw[q];exact xf))).trans e) (by simp only[argBest,eb,if_true];exact pv) (aT _ g1 rfl) (Fx k2) λv' h2 t2 p2 k3=>fin v' h2 t2 p2 k3⟩
  | false =>
   rw[if_neg (!2)];refine aa (wpAny_letGo ?_);rw[nm];exact aj ⟨plainId_quiet F.plain_max_loop _,ih (j+1) _ b c (!1) QZ (by simp only[argBest,eb,bx,if_false];exact pb) g1 k2 λv' h2 t2 p2 k3=>fin v' h2 t2 p2 k3⟩
theorem Nm {l:Addr}{vs:Array ah}{bt:Nat->Nat->Bool}{Q:ah->aw->Prop}(hh:A.handled=none)(gl:s.heap.IsList l vs)(ne:0<vs.size)(cmp:uq prog w A.in1 s.heap .Gt (λi v=>vs[i]? = some v) bt)
  (fin:∀v h1 tk,vs[argBest bt (vs.size - 1)]? = some v->iy s.heap h1->Q v { s with heap:=h1,toks:=tk }):aG (!10) A (call (.builtin "max") [.ref l]) Q E s:=by
 have nm:(toString "max" ++ toString ".loop" : String) = "max.loop" := by decide
 have ll:l<s.heap.objs.size:=let ⟨_,e,_⟩:=gl;aD e;refine call_function_tree F.kind_max F.plain_max F.entry_max (F.args_max1 _) ?_;refine aa (m:=Builtin.Builtins.bindParams "max" ["key", "default"] 0 ⟨[],[]⟩) (wpAny_of_eq (show _=pure [none,none] from rfl) (aa (aj (aa ?_))));refine wpAny_pyIter_list gl (aa (aY ?_));rw[nm];have W:=Walks.list (prog:=prog) (w:=w) (A:=A.in1) hh s.heap.objs.size l (aR ll) vs;have no:∀k,s.heap.get? (s.heap.objs.size+k)=none:=λk=>by simp[Heap.get?]
 have gi:(s.heap.push { cls:=.type "list_iterator",data:=.fields #[.ref l,.int 0 0] }).IsListIter s.heap.objs.size l 0:=⟨_,ay _ rfl,rfl,rfl⟩;have sz:(s.heap.push { cls:=.type "list_iterator",data:=.fields #[.ref l,.int 0 0] }).objs.size=s.heap.objs.size+1:=bV ..;have oy:iy s.heap (s.heap.push { cls:=.type "list_iterator",data:=.fields #[.ref l,.int 0 0] }):=λb o e=>ak _ e;have DP:(s.heap.push { cls:=.type "list_iterator",data:=.fields #[.ref l,.int 0 0] }).IsList l vs:=gl.push _;show aG _ _ _ _ _ { s with heap:=(s.heap.push { cls:=.type "list_iterator",data:=.fields #[.ref l,.int 0 0] }).push { cls:=.type "list",data:=.seq #[] 0 } };generalize s.heap.push { cls:=.type "list_iterator",data:=.fields #[.ref l,.int 0 0] }=h1 at gi sz oy DP ⊢;have gz:(h1.push { cls:=.type "list",data:=.seq #[] 0 }).get? h1.objs.size=some { cls:=.type "list",data:=.seq #[] 0 }:=ay _ rfl;have m8:iy h1 (h1.push { cls:=.type "list",data:=.seq #[] 0 }):=λb o e=>ak _ e
 have zf:h1.objs.size ∉ [s.heap.objs.size,l]:=by
  rw[sz];simp only[ax,cR,or_false,not_or];exact⟨cQ _,bB (b8 ll)⟩
 have zw:h1.objs.size ∉ [s.heap.objs.size]:=λy=>zf (W.sub _ y);refine aj ⟨plainId_quiet F.plain_max_loop _,codeAny_builtin F.entry_max_loop ?_⟩;rw[Around.under_plainId F.plain_max_loop _];refine aa (m:=seqItems? (.ref h1.objs.size)) (wpAny_seqItems gz rfl ?_);refine aa (m:=tryCatch (pyNext (!14)) _) (wpAny_tryCatch (W.item 0 _ _ _ ne (W.frame _ _ _ ⟨gi,DP⟩ λb _ o e=>m8 b o e) λv h3 t3 pv zj k3=>?_));have g3:=k3 _ _ zw gz;have rF:iy s.heap h3:=λb o e=>k3 b o (λy=>by rw[au.mp y,<- cy s.heap.objs.size,no] at e;cases e) (m8 b o (oy b o e));refine aa (m:=updateSeq h1.objs.size λ_=>#[v,v]) (wpAny_updateSeq g3 rfl ?_);rw[nm];refine aj ⟨plainId_quiet F.plain_max_loop _,Nl W (λb hb=>by rw[au.mp hb,<- cy s.heap.objs.size];exact no 0) bt cmp h1.objs.size zf (by rw[sz];exact no 1) (vs.size - 1) 0 _ v _ (!1) (W.frame _ _ _ zj λx xf o e=>(aI _ _ (λq:h1.objs.size=x=>zf (by rw[q];exact xf))).trans e) pv (aT _ g3 rfl) (λx o e=>(aI _ _ (λq:h1.objs.size=x=>by rw[<- q,sz,no] at e;cases e)).trans (rF x o e)) λv' h4 t4 p4 k4=>fin v' h4 t4 p4 k4⟩
end
noncomputable def lT (op:CmpOp)(A:Around)(s:aw)(y x:ah)(b:Bool):Prop :=
 ∀(prog:aV) (w:World) (E:ah->aw->Prop) (Q:ah->aw->Prop),Q (.bool b) s->aG (!10) A (richCompare op y x) Q E s
noncomputable def jl (e f:Nat->Bool)(fin:Bool):List Nat->Bool
 | []=>fin
 | i::r=>if e i then jl e f fin r else f i
mutual
def gI (g:Bool):ag->ag->Option Bool
 | .int i,.int j=>some (if g then decide (j<i) else decide (i<j))
 | .tuple xs,.tuple ys=>hZ g xs ys
 | _,_=>none
def hZ (g:Bool):List ag->List ag->Option Bool
 | [],[]=>some false
 | [],_::_=>some (!g)
 | _::_,[]=>some g
 | x::xs,y::ys=>if ag.eqv x y then hZ g xs ys else gI g x y
end
theorem o7:∀(xs ys:List ag) (j:Nat) (r:Bool),hZ g xs ys=some r->j<xs.length->j<ys.length->(∀i<j,SeqAt.pairEq xs ys i=true)->SeqAt.pairEq xs ys j=false->∃q,gI g (xs.getD j .none) (ys.getD j .none)=some q
 | [],_,_,_,_,h,_,_,_=>absurd h (dq _)
 | _::_,[],_,_,_,_,h,_,_=>absurd h (dq _)
 | x::xs,y::ys,j,r,e,h1,h2,al,hj=>by
  rw[hZ] at e
  cases j with
  | zero =>
   have:ag.eqv x y=false:=hj;rw[this,if_neg (!2)] at e;exact⟨r,e⟩
  | succ j =>
   have:ag.eqv x y=true:=al 0 (Nat.succ_pos _);rw[this,if_pos rfl] at e;exact o7 xs ys j r e (bU h1) (bU h2) (λi hi=>al (i+1) (Nat.succ_lt_succ hi)) hj
theorem fO:∀{vs:List ah} {xs:List ag} {as:List Addr},ReadsAll h vs xs as->∀{j:Nat} (hj:j<vs.length),∃bs,Reads h vs[j] (xs.getD j .none) bs
 | _::_,_::_,_,.cons r rs,j,hj=>by
  cases j with
  | zero=>exact⟨_,r⟩
  | succ j=>exact fO rs (bU hj)
theorem rG:∀{xs:List ag} {j:Nat},j<xs.length->(xs.getD j .none).depth<=ag.depthAll xs
 | x::xs,0,_=>by simp only[ag.depthAll,List.getD_cons_zero];omega
 | x::xs,j+1,h=>by
  have:=rG (xs:=xs) (j:=j) (bU h);simp only[ag.depthAll,List.getD_cons_succ];omega
theorem rH:∀{xs:List ag} {j:Nat},ag.canLayAll0 xs=true->j<xs.length->(xs.getD j .none).canLay0=true
 | x::xs,0,h,_=>by simp only[ag.canLayAll0,bP] at h;exact h.1
 | x::xs,j+1,h,hj=>by simp only[ag.canLayAll0,bP] at h;exact rH (xs:=xs) (j:=j) h.2 (bU hj)
theorem o8 (e f:Nat->Bool)(fin:Bool):∀l:List Nat,jl e f fin (l.map (· + 1))=jl (λi=>e (i+1)) (λi=>f (i+1)) fin l
 | []=>rfl
 | i::l=>by rw[ar,jl,jl,o8 e f fin l]
theorem Fy (l b:Addr)(xs ys:Array ah)(n m:Nat)(d1 d2:Option Addr)(s1 s2:Array (Option ah))(e f:Nat->Bool) :
  Meets (Builtin.«tuple.__lt__» ⟨[.ref l,.ref b],[]⟩) (λA R s=>s.heap.get? l=some { cls:=.type "tuple",dict:=d1,data:=.seq xs n,slots:=s1 }/\s.heap.get? b=some { cls:=.type "tuple",dict:=d2,data:=.seq ys m,slots:=s2 } /\
    (∀j (h1:j<xs.size) (h2:j<ys.size),SeqAt.EqAt A.in1 s xs[j] ys[j] (e j))/\(∀j (h1:j<xs.size) (h2:j<ys.size),(∀i<j,e i=true)->e j=false->lT .Lt A.in1 s xs[j] ys[j] (f j)) /\
    R (.ok (.ret (.bool (jl e f (decide (xs.size<ys.size)) (List.range (min xs.size ys.size)))))) s) :=
 .of_wp λprog w A R s h=>by
  obtain⟨hp,g,d,tk,os⟩:=s;obtain⟨gl,gb,he,hf,h⟩:=h;have sub:=AutoSeq1.sub_tuple_tuple;have zl:(xs.toList.zip ys.toList).length=min xs.size ys.size:=by simp
  wp_walk using AutoSeq1.wpAny_loadPart' gl,AutoSeq1.wpAny_loadPart' gb,wpAny_forIn_list _ (λleft b s'=>b.1=none/\s'=⟨hp,g,d,tk,os⟩/\∃i,left=(xs.toList.zip ys.toList).drop i/\(∀k<i,e k=true)/\R (.ok (.ret (.bool (jl e f (decide (xs.size<ys.size)) ((List.range (min xs.size ys.size)).drop i))))) ⟨hp,g,d,tk,os⟩) _
  case turn =>
   rintro⟨y,x⟩ left b s' ⟨nb,rfl,i,ez,al,rr⟩;have il:i<(xs.toList.zip ys.toList).length:=Nat.lt_of_not_le λq=>by rw[bS q] at ez;cases ez
   have im:i<min xs.size ys.size:=zl ▸ il;have i1:i<xs.size:=by omega
   have i2:i<ys.size:=by omega
   rw[bh il] at ez;injection ez with ep er;obtain rfl:y=xs[i]:=by simpa using congrArg Prod.fst ep
   obtain rfl:x=ys[i]:=by simpa using congrArg Prod.snd ep
   rw[show (List.range (min xs.size ys.size)).drop i=i::(List.range (min xs.size ys.size)).drop (i+1) by simp[bh,im],jl] at rr;refine aa (he i i1 i2 prog w _ _ ?_)
   cases ei:e i with
   | true =>
    rw[ei,if_pos rfl] at rr
    wp_walk
    exact⟨rfl,rfl,i+1,er,λk hk=>(Nat.lt_or_ge k i).elim (al k) λq=>by rw[show k=i by omega];exact ei,rr⟩
   | false =>
    rw[ei,if_neg (!2)] at rr;have hc:=hf i i1 i2 al ei prog w
    wp_walk using hc _ _
    exact⟨_,rfl,by simpa using rr⟩
  case fin =>
   rintro⟨b1,b2⟩ s' ⟨nb,rfl,i,ez,_,rr⟩;simp only at nb;subst nb;have ge:min xs.size ys.size<=i:=dB λq=>by rw[bh (zl.symm ▸ q)] at ez;cases ez
   rw[bS (by simpa using ge),jl] at rr
   wp_walk
   exact⟨_,rfl,by simpa [Builtin.Tuple.tupleCompareSizes] using rr⟩
  case h=>exact⟨rfl,rfl,0,!4,!4,by simpa using h⟩
theorem lT.Jc (hl:s.heap.IsTuple l xs)(hb:s.heap.IsTuple b ys)(hu:A.units<cLine)(he:∀j (h1:j<xs.size) (h2:j<ys.size),SeqAt.EqAt A.in1 s xs[j] ys[j] (e j))
  (hf:∀j (h1:j<xs.size) (h2:j<ys.size),(∀i<j,e i=true)->e j=false->lT .Lt A.in1 s xs[j] ys[j] (f j)):lT .Lt A s (.ref l) (.ref b) (jl e f (decide (xs.size<ys.size)) (List.range (min xs.size ys.size))):=λprog w E Q h=>by
 obtain⟨⟨c1,d1,data,s1⟩,ho,hc,n,hd⟩:=id hl;obtain⟨⟨c2,d2,data2,s2⟩,CB,DM,n2,u9⟩:=id hb;simp only at hc hd DM u9;subst hc hd DM u9;exact richCompare_meets_room (op:=.Lt) ⟨_,ho,rfl⟩ ⟨_,CB,rfl⟩ F.slot_tuple_lt F.entry_tuple_lt (F.args_tuple_lt_2 _ _) (Fy l b xs ys n n2 d1 d2 s1 s2 e f) ⟨ho,CB,he,hf,show ah.bool _≠ah.notImplemented/\Q (.bool _) s from ⟨(λx=>nomatch x),h⟩⟩ hu
theorem lex_lt:∀(xs ys:List ag) (r:Bool),hZ false xs ys=some r->jl (SeqAt.pairEq xs ys) (λj=>(gI false (xs.getD j .none) (ys.getD j .none)).getD false) (decide (xs.length<ys.length)) (List.range (min xs.length ys.length))=r
 | [],[],r,e=>by cases e;rfl
 | [],y::ys,r,e=>by cases e;simp[jl]
 | x::xs,[],r,e=>by cases e;simp[jl]
 | x::xs,y::ys,r,e=>by
  rw[hZ] at e;rw[av,av,Nat.succ_min_succ,cG,jl]
  cases q:ag.eqv x y with
  | true =>
   rw[q,if_pos rfl] at e;rw[if_pos (show SeqAt.pairEq (x::xs) (y::ys) 0=true from q)];have:=lex_lt xs ys r e;rw[show List.map Nat.succ=List.map (· + 1) from rfl,o8,show decide (xs.length+1<ys.length+1)=decide (xs.length<ys.length) by simp];exact this
  | false =>
   rw[q,if_neg (!2)] at e;rw[if_neg (by rw[show SeqAt.pairEq (x::xs) (y::ys) 0=false from q];decide)];simp only[List.getD_cons_zero,e,bZ]
theorem BJ:∀(N:Nat) (da db:ag) (r:Bool) (A:Around) (s:aw) (a b:ah) (as bs:List Addr),da.depth<=N->Reads s.heap a da as->Reads s.heap b db bs->da.canLay0=true->db.canLay0=true->A.units+N<cLine->gI false da db=some r->lT .Lt A s a b r:=by
 intro N
 induction N with
 | zero =>
  intro da db r A s a b as bs hN ra rb ha hb hu e
  cases ra with
  | int i t =>
   cases rb with
   | int j u =>
    cases e;exact λprog w E Q h=>richCompare_gives (op:=.Lt) (typeIs_int s _ t) (typeIs_int s _ u) F.slot_int_lt F.entry_int_lt (F.args_int_lt_2 _ _) (gives_int_lt _ _ t u) (λx=>nomatch x) h
   | _=>simp[gI] at e
  | tuple=>simp[ag.depth] at hN
  | _=>simp[gI] at e
 | succ N ih =>
  intro da db r A s a b as bs hN ra rb ha hb hu e
  cases ra with
  | int i t =>
   cases rb with
   | int j u =>
    cases e;exact λprog w E Q h=>richCompare_gives (op:=.Lt) (typeIs_int s _ t) (typeIs_int s _ u) F.slot_int_lt F.entry_int_lt (F.args_int_lt_2 _ _) (gives_int_lt _ _ t u) (λx=>nomatch x) h
   | _=>simp[gI] at e
  | @tuple l o vs n xs Q0 h1 h2 h3 h4 =>
   cases rb with
   | @tuple l' o' ws n' ys Q1 k1 k2 k3 k4 =>
    have n1:vs.size=xs.length:=by simpa using SeqAt.ReadsAll.length _ _ _ h4
    have n2:ws.size=ys.length:=by simpa using SeqAt.ReadsAll.length _ _ _ k4
    simp only[ag.depth] at hN;simp only[gI] at e
    have he:∀j (j1:j<vs.size) (j2:j<ws.size),SeqAt.EqAt A.in1 s vs[j] ws[j] (SeqAt.pairEq xs ys j):=λj j1 j2=>by
     have IL:A.in1.units+min (ag.depthAll xs) (ag.depthAll ys)<cLine:=by show A.units+1+_<_;omega
     have q:=SeqAt.eqAt_readsAll xs ys A.in1 s vs.toList ws.toList _ _ h4 k4 ha hb IL j (by simpa using j1) (by simpa using j2);rw[bo,bo] at q;exact q
    have hf:∀j (j1:j<vs.size) (j2:j<ws.size),(∀i<j,SeqAt.pairEq xs ys i=true)->SeqAt.pairEq xs ys j=false->lT .Lt A.in1 s vs[j] ws[j] ((gI false (xs.getD j .none) (ys.getD j .none)).getD false):=λj j1 j2 al hj=>by
     obtain⟨q,hq⟩:=o7 xs ys j r e (!1) (!1) al hj;obtain⟨Sh,r1⟩:=fO h4 (j:=j) (by simpa using j1);obtain⟨Si,r2⟩:=fO k4 (j:=j) (by simpa using j2);rw[hq];have d1:=rG (xs:=xs) (j:=j) (!1);have q2:=ih _ _ q A.in1 s _ _ Sh Si (!1) r1 r2 (rH ha (!1)) (rH hb (!1)) (by show A.units+1+_<_;omega) hq;rw[bo,bo] at q2;exact q2
    have:=lT.Jc ⟨_,h1,h2,_,h3⟩ ⟨_,k1,k2,_,k3⟩ (show A.units<cLine by omega) he hf;rw[n1,n2,lex_lt xs ys r e] at this;exact this
   | _=>simp[gI] at e
  | _=>simp[gI] at e
theorem Nn (l b:Addr)(xs ys:Array ah)(n m:Nat)(d1 d2:Option Addr)(s1 s2:Array (Option ah))(e f:Nat->Bool) :
  Meets (Builtin.«tuple.__gt__» ⟨[.ref l,.ref b],[]⟩) (λA R s=>s.heap.get? l=some { cls:=.type "tuple",dict:=d1,data:=.seq xs n,slots:=s1 }/\s.heap.get? b=some { cls:=.type "tuple",dict:=d2,data:=.seq ys m,slots:=s2 } /\
    (∀j (h1:j<xs.size) (h2:j<ys.size),SeqAt.EqAt A.in1 s xs[j] ys[j] (e j))/\(∀j (h1:j<xs.size) (h2:j<ys.size),(∀i<j,e i=true)->e j=false->lT .Gt A.in1 s xs[j] ys[j] (f j)) /\
    R (.ok (.ret (.bool (jl e f (decide (xs.size > ys.size)) (List.range (min xs.size ys.size)))))) s) :=
 .of_wp λprog w A R s h=>by
  obtain⟨hp,g,d,tk,os⟩:=s;obtain⟨gl,gb,he,hf,h⟩:=h;have sub:=AutoSeq1.sub_tuple_tuple;have zl:(xs.toList.zip ys.toList).length=min xs.size ys.size:=by simp
  wp_walk using AutoSeq1.wpAny_loadPart' gl,AutoSeq1.wpAny_loadPart' gb,wpAny_forIn_list _ (λleft b s'=>b.1=none/\s'=⟨hp,g,d,tk,os⟩/\∃i,left=(xs.toList.zip ys.toList).drop i/\(∀k<i,e k=true)/\R (.ok (.ret (.bool (jl e f (decide (xs.size > ys.size)) ((List.range (min xs.size ys.size)).drop i))))) ⟨hp,g,d,tk,os⟩) _
  case turn =>
   rintro⟨y,x⟩ left b s' ⟨nb,rfl,i,ez,al,rr⟩;have il:i<(xs.toList.zip ys.toList).length:=Nat.lt_of_not_le λq=>by rw[bS q] at ez;cases ez
   have im:i<min xs.size ys.size:=zl ▸ il;have i1:i<xs.size:=by omega
   have i2:i<ys.size:=by omega
   rw[bh il] at ez;injection ez with ep er;obtain rfl:y=xs[i]:=by simpa using congrArg Prod.fst ep
   obtain rfl:x=ys[i]:=by simpa using congrArg Prod.snd ep
   rw[show (List.range (min xs.size ys.size)).drop i=i::(List.range (min xs.size ys.size)).drop (i+1) by simp[bh,im],jl] at rr;refine aa (he i i1 i2 prog w _ _ ?_)
   cases ei:e i with
   | true =>
    rw[ei,if_pos rfl] at rr
    wp_walk
    exact⟨rfl,rfl,i+1,er,λk hk=>(Nat.lt_or_ge k i).elim (al k) λq=>by rw[show k=i by omega];exact ei,rr⟩
   | false =>
    rw[ei,if_neg (!2)] at rr;have hc:=hf i i1 i2 al ei prog w
    wp_walk using hc _ _
    exact⟨_,rfl,by simpa using rr⟩
  case fin =>
   rintro⟨b1,b2⟩ s' ⟨nb,rfl,i,ez,_,rr⟩;simp only at nb;subst nb;have ge:min xs.size ys.size<=i:=dB λq=>by rw[bh (zl.symm ▸ q)] at ez;cases ez
   rw[bS (by simpa using ge),jl] at rr
   wp_walk
   exact⟨_,rfl,by simpa [Builtin.Tuple.tupleCompareSizes] using rr⟩
  case h=>exact⟨rfl,rfl,0,!4,!4,by simpa using h⟩
theorem lT.Jd (hl:s.heap.IsTuple l xs)(hb:s.heap.IsTuple b ys)(hu:A.units<cLine)(he:∀j (h1:j<xs.size) (h2:j<ys.size),SeqAt.EqAt A.in1 s xs[j] ys[j] (e j))
  (hf:∀j (h1:j<xs.size) (h2:j<ys.size),(∀i<j,e i=true)->e j=false->lT .Gt A.in1 s xs[j] ys[j] (f j)):lT .Gt A s (.ref l) (.ref b) (jl e f (decide (xs.size > ys.size)) (List.range (min xs.size ys.size))):=λprog w E Q h=>by
 obtain⟨⟨c1,d1,data,s1⟩,ho,hc,n,hd⟩:=id hl;obtain⟨⟨c2,d2,data2,s2⟩,CB,DM,n2,u9⟩:=id hb;simp only at hc hd DM u9;subst hc hd DM u9;exact richCompare_meets_room (op:=.Gt) ⟨_,ho,rfl⟩ ⟨_,CB,rfl⟩ F.slot_tuple_gt F.entry_tuple_gt (F.args_tuple_gt_2 _ _) (Nn l b xs ys n n2 d1 d2 s1 s2 e f) ⟨ho,CB,he,hf,show ah.bool _≠ah.notImplemented/\Q (.bool _) s from ⟨(λx=>nomatch x),h⟩⟩ hu
theorem Fz:∀(xs ys:List ag) (r:Bool),hZ true xs ys=some r->jl (SeqAt.pairEq xs ys) (λj=>(gI true (xs.getD j .none) (ys.getD j .none)).getD false) (decide (xs.length > ys.length)) (List.range (min xs.length ys.length))=r
 | [],[],r,e=>by cases e;rfl
 | [],y::ys,r,e=>by cases e;simp[jl]
 | x::xs,[],r,e=>by cases e;simp[jl]
 | x::xs,y::ys,r,e=>by
  rw[hZ] at e;rw[av,av,Nat.succ_min_succ,cG,jl]
  cases q:ag.eqv x y with
  | true =>
   rw[q,if_pos rfl] at e;rw[if_pos (show SeqAt.pairEq (x::xs) (y::ys) 0=true from q)];have:=Fz xs ys r e;rw[show List.map Nat.succ=List.map (· + 1) from rfl,o8,show decide (xs.length+1 > ys.length+1)=decide (xs.length > ys.length) by simp];exact this
  | false =>
   rw[q,if_neg (!2)] at e;rw[if_neg (by rw[show SeqAt.pairEq (x::xs) (y::ys) 0=false from q];decide)];simp only[List.getD_cons_zero,e,bZ]
theorem Q2:∀(N:Nat) (da db:ag) (r:Bool) (A:Around) (s:aw) (a b:ah) (as bs:List Addr),da.depth<=N->Reads s.heap a da as->Reads s.heap b db bs->da.canLay0=true->db.canLay0=true->A.units+N<cLine->gI true da db=some r->lT .Gt A s a b r:=by
 intro N
 induction N with
 | zero =>
  intro da db r A s a b as bs hN ra rb ha hb hu e
  cases ra with
  | int i t =>
   cases rb with
   | int j u =>
    cases e;exact λprog w E Q h=>richCompare_gives (op:=.Gt) (typeIs_int s _ t) (typeIs_int s _ u) F.slot_int_gt F.entry_int_gt (F.args_int_gt_2 _ _) (gives_int_gt _ _ t u) (λx=>nomatch x) h
   | _=>simp[gI] at e
  | tuple=>simp[ag.depth] at hN
  | _=>simp[gI] at e
 | succ N ih =>
  intro da db r A s a b as bs hN ra rb ha hb hu e
  cases ra with
  | int i t =>
   cases rb with
   | int j u =>
    cases e;exact λprog w E Q h=>richCompare_gives (op:=.Gt) (typeIs_int s _ t) (typeIs_int s _ u) F.slot_int_gt F.entry_int_gt (F.args_int_gt_2 _ _) (gives_int_gt _ _ t u) (λx=>nomatch x) h
   | _=>simp[gI] at e
  | @tuple l o vs n xs Q0 h1 h2 h3 h4 =>
   cases rb with
   | @tuple l' o' ws n' ys Q1 k1 k2 k3 k4 =>
    have n1:vs.size=xs.length:=by simpa using SeqAt.ReadsAll.length _ _ _ h4
    have n2:ws.size=ys.length:=by simpa using SeqAt.ReadsAll.length _ _ _ k4
    simp only[ag.depth] at hN;simp only[gI] at e
    have he:∀j (j1:j<vs.size) (j2:j<ws.size),SeqAt.EqAt A.in1 s vs[j] ws[j] (SeqAt.pairEq xs ys j):=λj j1 j2=>by
     have IL:A.in1.units+min (ag.depthAll xs) (ag.depthAll ys)<cLine:=by show A.units+1+_<_;omega
     have q:=SeqAt.eqAt_readsAll xs ys A.in1 s vs.toList ws.toList _ _ h4 k4 ha hb IL j (by simpa using j1) (by simpa using j2);rw[bo,bo] at q;exact q
    have hf:∀j (j1:j<vs.size) (j2:j<ws.size),(∀i<j,SeqAt.pairEq xs ys i=true)->SeqAt.pairEq xs ys j=false->lT .Gt A.in1 s vs[j] ws[j] ((gI true (xs.getD j .none) (ys.getD j .none)).getD false):=λj j1 j2 al hj=>by
     obtain⟨q,hq⟩:=o7 xs ys j r e (!1) (!1) al hj;obtain⟨Sh,r1⟩:=fO h4 (j:=j) (by simpa using j1);obtain⟨Si,r2⟩:=fO k4 (j:=j) (by simpa using j2);rw[hq];have d1:=rG (xs:=xs) (j:=j) (!1);have q2:=ih _ _ q A.in1 s _ _ Sh Si (!1) r1 r2 (rH ha (!1)) (rH hb (!1)) (by show A.units+1+_<_;omega) hq;rw[bo,bo] at q2;exact q2
    have:=lT.Jd ⟨_,h1,h2,_,h3⟩ ⟨_,k1,k2,_,k3⟩ (show A.units<cLine by omega) he hf;rw[n1,n2,Fz xs ys r e] at this;exact this
   | _=>simp[gI] at e
  | _=>simp[gI] at e
noncomputable def iN (g:Bool):ag->List ag->ag
 | b,[]=>b
 | b,d::ds=>iN g (if (gI g d b).getD false=true then d else b) ds
theorem rJ (g:Bool)(x:ag):∀(b:ag) (l:List ag),iN g b (l++[x])=if (gI g x (iN g b l)).getD false=true then x else iN g b l
 | b,[]=>rfl
 | b,d::l=>by rw[bw,iN,iN,rJ g x _ l]
noncomputable def vM (g:Bool)(ds:List ag):Prop:=∀x∈ds,(x.canLay0=true/\x.depth<=50)/\∀y∈ds,(gI g x y).isSome=true
open Classical in
noncomputable def rK (g:Bool)(as:List ag):Option ag:=match as with | [.list (d::ds)]=>if vM g (d::ds) then some (iN g d ds) else none | _=>none
noncomputable abbrev BK:=rK false
noncomputable def DR (g:Bool)(L:List ag)(i j:Nat):Bool:=(gI g (L.getD i .none) (L.getD j .none)).getD false
theorem vN (g:Bool)(d:ag)(ds:List ag):∀k,k<=ds.length->(d::ds).getD (argBest (DR g (d::ds)) k) .none=iN g d (ds.take k)
 | 0,_=>rfl
 | k+1,h=>by
  have ih:=vN g d ds k (!1);have hk:k<ds.length:=h;rw[argBest,List.take_succ_eq_append_getElem hk,rJ,<- ih]
  have e:DR g (d::ds) (k+1) (argBest (DR g (d::ds)) k)=(gI g ds[k] ((d::ds).getD (argBest (DR g (d::ds)) k) .none)).getD false:=by
   unfold DR;simp[am,hk]
  rw[e];split
  .simp[am,hk]
  .rfl
theorem dO.Uq:∀{ds:List ag} {xs:List V} {us:List ah},dO S H ds xs->eg xs us->∀(j:Nat) (hj:j<us.length),∃v,eB S H (ds.getD j .none) v/\RelV v us[j]
 | [],_,us,r,q,j,hj=>by
  cases r.e9;cases q;exact absurd hj (dq _)
 | d::ds,_,us,r,q,j,hj=>by
  obtain⟨x,t,rfl,h1,h2⟩:=r.of_cons
  cases q with
  | cons q1 q2 =>
   cases j with
   | zero=>exact⟨_,h1,q1⟩
   | succ j=>exact dO.Uq h2 q2 j (bU hj)
theorem nD:∀{ds:List ag},(∀x∈ds,x.canLay0=true)->ag.canLayAll0 ds=true
 | [],_=>rfl
 | d::ds,h=>by rw[ag.canLayAll0,h d (aq ..),nD λx hx=>h x (ai _ hx)];rfl
section
theorem z6 (g:Bool)(hc:X.calm=true)(hu:X.A.units+64<cLine):f6 X (.builtin (if g then "max" else "min")) (λxs H Q=>∃p ys S d ds,xs=[.ref p]/\gD X.K H p ys/\dO S H (d::ds) ys/\vM g (d::ds)/\∀v,eB S H (iN g d ds) v->Q v H):=by
 intro pins s σ H xs us Q I r h;obtain⟨p,ys,S,d,ds,rfl,hp,hr,C6,q⟩:=h;obtain⟨u,rfl,ru⟩:=vals1 r;cases ru;obtain⟨its,rv,ht,hz⟩:=I.list hp;have hlen:its.length=(d::ds).length:=by rw[<- rv.length,hr.length]
 have Hb:ag.canLayAll0 (d::ds)=true:=nD λx hx=>(C6 x hx).1.1
 have qa:∀i,i<its.length->(d::ds).getD i .none∈d::ds:=λi hi=>by
  rw[am,aK (!1),bZ];exact bC _
 have Q3:∀op:CmpOp,(∀(a b:ag) (r:Bool) (A:Around) (s:aw) (u v:ah) (as bs:List Addr),a.depth<=50->Reads s.heap u a as->Reads s.heap v b bs->a.canLay0=true->b.canLay0=true->A.units+50<cLine->gI g a b=some r->lT op A s u v r) ->
   uq X.prog X.w X.A.in1 s.heap op (λi v=>its.toArray[i]? = some v) (DR g (d::ds)):=λop Xa i j u v s' Q' E' held hi hj hq=>by
  have hi:its.toArray[i]? = some u:=hi;have hj:its.toArray[j]? = some v:=hj;rw[dg] at hi hj;obtain⟨as,ra⟩:=dO.reads (I.kept (h':=s'.heap) (t':=s.toks) held).eP Hb hr rv;obtain⟨i1,rfl⟩:=aA.mp hi;obtain⟨j1,rfl⟩:=aA.mp hj;obtain⟨Ur,r1⟩:=fO ra i1;obtain⟨Us,r2⟩:=fO ra j1;have mi:=qa i i1;have mj:=qa j j1;obtain⟨r,hr⟩:=bX.mp ((C6 _ mi).2 _ mj);have e:DR g (d::ds) i j=r:=by unfold DR;rw[hr];rfl
  rw[e] at hq;exact Xa _ _ r X.A.in1 s' _ _ Ur Us (C6 _ mi).1.2 r1 r2 (C6 _ mi).1.1 (C6 _ mj).1.1 (by show X.A.units+1+50<_;omega) hr X.prog X.w E' Q' hq
 have fin:∀(v:ah) (h1:Heap) (tk:Nat),its.toArray[argBest (DR g (d::ds)) (its.toArray.size - 1)]? = some v->iy s.heap h1->EP X pins σ Q v { s with heap:=h1,toks:=tk }:=λv h1 tk hv held=>by
  rw[dg] at hv;obtain⟨k1,rfl⟩:=aA.mp hv;obtain⟨x,rx,lh⟩:=hr.Uq rv _ k1;have hs:its.toArray.size - 1=ds.length:=by rw[aE,hlen,av];omega
  rw[hs,vN g d ds ds.length (ap _),dC] at rx;exact⟨x,H,I.kept held,lh,q x rx⟩
 have hV:0<its.toArray.size:=by rw[aE,hlen,av];omega
 cases g with
 | true=>exact Nm (I.ok.hd hc) ht.isList hV (Q3 .Gt λa b r A s u v as bs=>Q2 50 a b r A s u v as bs) fin
 | false=>exact Nk (I.ok.hd hc) ht.isList hV (Q3 .Lt λa b r A s u v as bs=>BJ 50 a b r A s u v as bs) fin
theorem Je (g:Bool)(hc:X.calm=true)(hu:X.A.units+64<cLine):lj X (.builtin (if g then "max" else "min")) (rK g):=⟨_,z6 g hc hu,λgs S H as vs d R _ _ rs e k=>by
 unfold rK at e;split at e
 .rename_i d0 ds
  split at e
  .rename_i C6
   cases e;obtain⟨v,rfl,rl⟩:=rs.one;obtain⟨a,xs,rfl,sq,_,rr⟩:=rl.G9 (K:=X.K);exact⟨a,xs,S,d0,ds,rfl,sq,rr,C6,λv rv=>k v H rv (!24)⟩
  .cases e
 .cases e⟩
theorem Np (hc:X.calm=true)(hu:X.A.units+64<cLine):lj X (.builtin "min") BK:=Je false hc hu
end
theorem RM (hr:gy k A)(h:d<=k:=by decide):gy d A:=hr.mono h
theorem nd (N:List Str)(h:N.Nodup:=by decide +kernel):N.Nodup:=h
theorem co (N:List Str)(s:Scope)(h:iR N s sc N' mp=true:=by decide +kernel):iR N s sc N' mp=true:=h
theorem Sj (h1:s.kind=.function:=by rfl)(h2:s.isCoroutine=false:=by rfl)(h3:s.isGenerator=false:=by rfl)(h4:N.Nodup:=by decide +kernel)(h5:N.take ps.length=ps:=by rfl)
  (h6:∀x∈ps,s.names.lookup x=some .local\/s.names.lookup x=some .cell:=by decide +kernel) (h7:∀y∈s.names,y.2≠.free:=by decide +kernel):fD N ps s:=⟨h1,h2,h3,h4,h5,h6,h7⟩
theorem Q4 (is:List Nat)(h:us=is.map iT:=by rfl):∀u∈us,∀d env (Q:eU->Prop),u d env Q->∃eh,Q eh:=λu hu=>by
 subst h;obtain⟨i,_,rfl⟩:=aM.mp hu;exact Qz
section
theorem pR (i:Nat)(hN:X.N.Nodup)(hx:Loc X.env.scope x:=by exact Or.inl rfl)(hi:X.N[i]? = some x:=by rfl)(hf:X.fn x=true\/X.env.scope.names.lookup x=some .local:=by (first | exact .inl rfl | exact .inr rfl | assumption))(hfd:i ∉ M.fd:=by exact nf _ _ rfl):KG X M (.Name x pos) (iT i):=W7 hN hx hi hf hfd
theorem jm (i:Nat)(hN:X.N.Nodup)(h:KE X M e ue)(hx:Loc X.env.scope x:=by exact Or.inl rfl)(hi:X.N[i]? = some x:=by rfl)(hs:swapsWith e (some (.Name x fX)) pos.line X.env=pure false:=by rfl)
  (hf:X.fn x=true\/X.env.scope.names.lookup x=some .local:=by (first | exact .inl rfl | exact .inr rfl | assumption)) (hfd:i ∉ M.fd:=by exact nf _ _ rfl):KS X M (.Assign [.Name x fX] e pos) (fc i ue):=QL hN hx h hi hs hf hfd
theorem Jf (i:Nat)(hN:X.N.Nodup)(h:KN X M e un)(hx:Loc X.env.scope x:=by exact Or.inl rfl)(hi:X.N[i]? = some x:=by rfl)(hs:swapsWith e (some (.Name x fX)) pos.line X.env=pure false:=by rfl)
  (hf:X.fn x=true\/X.env.scope.names.lookup x=some .local:=by (first | exact .inl rfl | exact .inr rfl | assumption)) (hfd:i ∉ M.fd:=by exact nf _ _ rfl):KS X M (.Assign [.Name x fX] e pos) (vB i un):=QM hN hx h hi hs hf hfd
end
structure FM (K:W.Frag) (mg:Str->Option ah) (x:Str) (st:Stmt):Prop where
 ex:∃f fd,w6 K x x st f fd/\mg x=some (.ref f)
structure Nq (K:W.Frag) (x:Str) (st:Stmt):Prop where
 ex:∃f fd,w6 K x x st f fd/\W.nsIn K bn x=some (some (.ref f))
theorem Nq.of {K:W.Frag}{x:Str}{st:Stmt}{f:Addr}{oc:ah}{od an:Option Addr}{G4:Array (Option ah)}{kV sP pm fG ct:ah}(a:W.nsIn K bn x=some (some (.ref f)))(l:K.lookup f=some ⟨oc,od,.func (W.fnOf x x (jH st) (fZ st) (dQ st) .none kV sP pm an fG ct),G4⟩)
  (c:W.codeIn K fG x=true) (k:W.keepIn K (.ref f)=true):Nq K x st:=⟨f,_,En l c k,a⟩
theorem Nq.m {K:W.Frag}{x:Str}{st:Stmt}{h:Heap}{mg:Str->Option ah}(a:Nq K x st)(X:K.In h)(G:h.Ns bn mg):FM K mg x st :=
 let ⟨f,fd,F,n⟩:=a.ex;⟨f,fd,F,W.mg_of X G n⟩
noncomputable def FA (K:W.Frag)(t:Nat->Stmt):List (Str × Nat)->Prop
 | []=>True
 | (x,i)::r=>Nq K x (t i)/\FA K t r
theorem FC {K:W.Frag}{t:Nat->Stmt}:FA K t []:=trivial
theorem Nr {K:W.Frag}{t:Nat->Stmt}{x:Str}{i:Nat}{r:List (Str × Nat)}(h:Nq K x (t i))(hr:FA K t r):FA K t ((x,i)::r):=⟨h,hr⟩
noncomputable def BD (x:Str)(st:Stmt)(ps:List Str):Prop:=∀(kV sP pm:ah) (an:Option Addr) (fG ct:ah) (us:List ah),us.length=ps.length->bindArgs (W.fnOf x x (jH st) (fZ st) (dQ st) .none kV sP pm an fG ct) ⟨us,[]⟩=pure (ps.zip us)
section
variable {P:aV}{w:World}{K:W.Frag}{mg:Str->Option ah}{base:Heap}{x:Str}{st:Stmt}{N ps:List Str}{k:Nat}{C:Xc}{Y:zT}
theorem jn (u:US)(N:List Str)(F:FM K mg x st)
  (body:fD N ps (dQ st)->∀(f:Addr) (fG:ah) (A:Around) (outer:List Env) (s:aw) (H:Hp) (E:XK) (n0:Int) (S:List Addr) (has:∀a∈S,H a≠none),gy k (A.deeper (envOfC x (dQ st) s.heap.objs.size f fG))->(A.deeper (envOfC x (dQ st) s.heap.objs.size f fG)).units+64<cLine->wC (nq vf P w K mg base N x (dQ st) f fG A outer s H E).Cq (Fr.pure C n0 S H has) (fZ st) u)
  (sc:fD N ps (dQ st):=by exact Sj) (hb:BD x st ps:=by rw[999]) :
  eD P w K mg base (k+1) x ps (sR C (nU N.length ps.length λ_=>u)) :=
 let ⟨f,_,F,hm⟩:=F.ex;Uj (u:=λ_=>u) F hm sc (F.binds hb) λfG A outer s H E n0 S has hr=>body sc f fG A outer s H E n0 S has hr hr.units
theorem FD (u:US)(N:List Str)(F:FM K mg x st)
  (body:fD N ps (dQ st)->∀(f:Addr) (fG:ah) (A:Around) (outer:List Env) (s:aw) (H:Hp) (E:XK) (fa sa:Addr) (n0:Int) (S:List Addr) (hf:Y.iV H fa sa n0) (hS:fa∈S) (has:∀a∈S,H a≠none),gy k (A.deeper (envOfC x (dQ st) s.heap.objs.size f fG))->(A.deeper (envOfC x (dQ st) s.heap.objs.size f fG)).units+64<cLine ->
   wC (nq vf P w K mg base N x (dQ st) f fG A outer s H E).Cq (Fr.feed C Y 0 fa sa n0 S H hf hS has) (fZ st) u)
  (sc:fD N ps (dQ st):=by exact Sj) (hN:1<=N.length:=by decide) (hb:BD x st ps:=by rw[999]) :
  eD P w K mg base (k+1) x ps (xN Y (lz N.length ps.length λ_=>u)) :=
 let ⟨f,_,F,hm⟩:=F.ex;Uk (u:=λ_=>u) F hm sc (F.binds hb) hN λfG A outer s H E fa sa n0 S hf hS has hr=>body sc f fG A outer s H E fa sa n0 S hf hS has hr hr.units
end
end L2
namespace PySem
open Sem (wp)
open PyProof.Rows Builtin Builtin.Frozenset
end PySem
namespace L2
open PySem PySem.Spec PyProof.Rows
open PySem.W (KasT kas_asc kas_desc kas_tail3 kas_descPart kas_count kas_place kas_bin kas_sort kas_rev kas_ask kas_item kat_run kat_snds KatTups KatLex KatGo kat_cons kat_nil kat_go kat_yes kat_no kat_one kat_lt kas_mapM kas_first_eq)
noncomputable abbrev Nt (n:Nat)(p:Array Nat):Prop:=p.Perm (cq (List.range n))
section
variable {prog:aV}{w:World}{A:Around}{E:ah->aw->Prop}{s:aw}
theorem rL (vs:List ah):(List.range vs.length).map (λi=>vs.getD i ah.none)=vs:=by
 refine cS (!4) λi h1 h2=>?_;simp[am,h2]
noncomputable def mF (prog:aV)(w:World)(A:Around)(vs:List ah)(s:aw)(G:Array Nat->Prop):Prop:=2<=vs.length->∃κ:SortKind,(∀(Q:SortKind->aw->Prop) (E:ah->aw->Prop),Q κ s->aG (!10) A (keyKind' vs.toArray) Q E s)/\∀E:ah->aw->Prop,aG (!10) A (sortRuns'.run (SortSt.mk' κ (((vs.toArray.zip vs.toArray))) #[] 7 none)) (λr s'=>s'=s/\∃p:Array Nat,Nt vs.length p/\G p/\arrOf r.2=p.map (kas_item (((vs.toArray.zip vs.toArray))))/\failedOf r.2=none) E s
theorem m9 {a:Addr}{vs:List ah}{n:Nat}{P:Fin->aw->Prop}{G:Array Nat->Prop}(hG:vs.length<2->G (cq (List.range vs.length)))(ho:s.heap.get? a=some (seqObj "list" vs.toArray n))(OA:vs.length<1000000)
  (hk:∀s':aw,(∀b o,b≠a->s.heap.get? b=some o->s'.heap.get? b=some o)->mF prog w A vs s' G)
  (h:∀p:Array Nat,Nt vs.length p->G p->P (.done (.ret .none)) { s with heap:=sortedHeap s.heap a vs (cq (p.toList.map λi=>vs.getD i ah.none)) }) :
  aG (!10) A (Builtin.«list.sort» ⟨[.ref a],[]⟩) P E s:=by
 rw[list_sort_plain];have ha:a<s.heap.objs.size:=aD ho;refine aa (listItems_at ho rfl ?_);refine aa (listUpdate_at ho rfl ?_);obtain⟨e1,VZ⟩:∃e1,(s.heap.update a (Obj.mapSeq λ_=>#[])).get? a=some (seqObj "list" #[] e1):=⟨_,get?_update_seq ho (λ_=>#[])⟩;refine aa (seqEpoch_at VZ rfl ?_);refine aa (wpAny_newTuple ?_);refine aa (wpAny_newList ?_);refine wpAny_holding ?_
 have Sl:(((s.heap.update a (Obj.mapSeq λ_=>#[])).push (seqObj "tuple" vs.toArray 0)).push (seqObj "list" #[] 0)).get? a=some (seqObj "list" #[] e1):=by
  rw[dw _ _ _ (by rw[size_push',Heap.size_update];exact aR (b8 ha)),dw _ _ _ (by rw[Heap.size_update];exact aR ha)];exact VZ
 have Up:∀b o,b≠a->s.heap.get? b=some o->(((s.heap.update a (Obj.mapSeq λ_=>#[])).push (seqObj "tuple" vs.toArray 0)).push (seqObj "list" #[] 0)).get? b=some o:=λb o hb e=>ak _ (ak _ ((Heap.get?_update_ne _ _ _ _ hb).trans e));show aG (!10) A _ P E { s with heap:=((s.heap.update a (Obj.mapSeq λ_=>#[])).push (seqObj "tuple" vs.toArray 0)).push (seqObj "list" #[] 0) };dsimp only;have hsz:vs.toArray.size=vs.length:=by simp
 by_cases h2:vs.toArray.size<2
 .rw[if_pos h2,if_pos h2]
  refine aa (aj ?_);rw[StateT.run_pure];refine aa (aj ?_);dsimp only;refine aa (seqEpoch_at Sl rfl ?_);refine aa (listUpdate_at Sl rfl ?_ (hsz2:=by rw[Array.size_map];show (pairsOf vs).size<=_;rw[pairsOf_size,sizeLine_eq];omega));simp only[bne_self_eq_false,bx,if_false];have:=h (cq (List.range vs.length)) (Array.Perm.refl _) (hG (!1));rw[cW,rL] at this
  have e:(arrOf (SortSt.mk' general' (((vs.toArray.zip vs.toArray))) #[] 7 none)).map (·.2)=vs.toArray:=by
   show (((vs.toArray.zip vs.toArray))).map (·.2)=vs.toArray;apply cC.mp;simp[List.map_snd_zip]
  refine aj ?_;rw[<- e] at this;exact this
 .rw[if_neg h2,if_neg h2]
  obtain⟨κ,kk,ka⟩:=hk { s with heap:=((s.heap.update a (Obj.mapSeq λ_=>#[])).push (seqObj "tuple" vs.toArray 0)).push (seqObj "list" #[] 0) } Up (!1);refine aa (kk _ _ ?_);refine aa (ca (ka E) ?_ λ_ _ e=>e);rintro⟨⟨⟩,eK⟩ s' ⟨rfl,p,hp,hg,Xb,hf⟩;dsimp only;have Jg:=kat_snds (ks:=vs) (vs:=vs) rfl Xb;have Q5:p.size=vs.length:=by have:=hp.size_eq;simpa using this
  refine aa (seqEpoch_at Sl rfl ?_);refine aa (listUpdate_at Sl rfl ?_ (hsz2:=by rw[Jg,aE,ao,bj,Q5,sizeLine_eq];omega));rw[hf];simp only[bne_self_eq_false,bx,if_false];refine aj ?_;have:=h p hp hg;rw[<- Jg] at this;exact this
theorem z7 {l:Addr}{vs:List ah}{Q:ah->aw->Prop}{G:Array Nat->Prop}(hG:vs.length<2->G (cq (List.range vs.length)))(hl:s.heap.IsList l vs.toArray)(OA:vs.length<1000000)
  (hk:∀s':aw,(∀b o,s.heap.get? b=some o->s'.heap.get? b=some o)->∀A',A'.units<=A.units+8->mF prog w A' vs s' G)
  (h:∀p:Array Nat,Nt vs.length p->G p->Q (.ref (s.heap.objs.size+1)) { s with heap:=sortedAll s.heap vs (cq (p.toList.map λi=>vs.getD i ah.none)) }) :
  aG (!10) A (call (.builtin "sorted") [.ref l]) Q E s:=by
 refine Calls.call_function_entry kind_sorted plain_sorted entry_sorted (args_sorted1 _) ?_;unfold Builtin.«sorted»;refine aa (m:=checkCount "sorted" 1 1 _) (aj ?_);refine aa (collect_list hl ?_);refine aa (wpAny_newList ?_)
 have hsz:((s.heap.push (seqObj "list" #[] 0)).update s.heap.objs.size (Obj.mapSeq (·++vs.toArray))).objs.size=s.heap.objs.size+1:=by
  rw[Heap.size_update,size_push']
 have DL:(((s.heap.push (seqObj "list" #[] 0)).update s.heap.objs.size (Obj.mapSeq (·++vs.toArray))).push (seqObj "list" vs.toArray 0)).get? (s.heap.objs.size+1)=some (seqObj "list" vs.toArray 0):=by
  rw[<- hsz];exact ay _ rfl
 have keep:∀b o,s.heap.get? b=some o->(((s.heap.push (seqObj "list" #[] 0)).update s.heap.objs.size (Obj.mapSeq (·++vs.toArray))).push (seqObj "list" vs.toArray 0)).get? b=some o:=λb o q=>by
  have gh:b<s.heap.objs.size:=aD q;rw[dw _ _ _ (by rw[hsz];exact aR (b8 gh)),Heap.get?_update_ne _ _ _ _ (aR gh),dw _ _ _ (aR gh)];exact q
 show aG _ _ _ _ _ { s with heap:=((s.heap.push (seqObj "list" #[] 0)).update s.heap.objs.size (Obj.mapSeq (·++vs.toArray))).push (seqObj "list" vs.toArray 0) };rw[hsz];refine aa (wpAny_holding (wpAny_call_entry slot_list_sort ⟨_,DL,rfl⟩ entry_list_sort (m9 hG DL OA (λs' ly=>hk s' (λb o e=>ly b o (aR (b8 (aD e))) (keep b o e)) _ ?_) λp hp hg=>⟨_,rfl,?_⟩) (args_list_sort _)))
 .show A.units+1+1<=A.units+8
  omega
 .exact aj ⟨_,rfl,h p hp hg⟩
noncomputable def Nu (h:Heap)(v:ah):Prop:=∃(a:Addr) (o:Obj) (xs:Array ah) (n:Nat) (row:List Int) (as:List Addr),v=.ref a/\h.get? a=some o/\o.cls=.type "tuple" /\ o.data=.seq xs n/\ReadsAll h xs.toList (row.map .int) as
theorem rM:∀{us:List ah} {row:List Int} {as:List Addr},ReadsAll h us (row.map .int) as->∀v∈us,∃i t,v=ah.int i t
 | [],_,_,_,v,hv=>by cases hv
 | u::us,[],_,r,v,hv=>by cases r
 | u::us,i::row,_,.cons r rs,v,hv=>by
  rcases ax.mp hv with rfl | hv
  .cases r
   exact⟨_,_,rfl⟩
  .exact rM rs v hv
theorem BL (i j:Int)(t u:Tok)(A:Around)(s:aw):lT .Lt A s (.int i t) (.int j u) (decide (i<j)):=λprog w E Q h=>richCompare_gives (op:=.Lt) (typeIs_int s _ t) (typeIs_int s _ u) F.slot_int_lt F.entry_int_lt (F.args_int_lt_2 _ _) (gives_int_lt _ _ t u) (λx=>nomatch x) h
theorem gx:∀row:List Int,ag.canLayAll0 (row.map ag.int)=true
 | []=>rfl
 | i::row=>by simp only[ar,ag.canLayAll0,ag.canLay0,gx row,Bool.and_self]
theorem kx:∀row:List Int,ag.depthAll (row.map ag.int)=0
 | []=>rfl
 | i::row=>by simp only[ar,ag.depthAll,ag.depth,kx row];rfl
noncomputable def vO (h:Heap):List ah->List (Option ah)->Prop
 | [],[]=>True
 | v::vs,f::fs=>(∃a o xs n,v=.ref a/\h.get? a=some o/\o.cls=.type "tuple" /\ o.data=.seq xs n/\xs[0]? = f)/\vO h vs fs
 | _,_=>False
theorem nE:∀(vs:List ah) (fs:List (Option ah)) {Q:List (Option ah)->aw->Prop},vO s.heap vs fs->Q fs s->aG (!10) A (vs.mapM firstOfTuple') Q E s
 | [],[],_,_,h=>by rw[List.mapM_nil];exact aj h
 | [],_::_,_,t,_=>t.elim
 | _::_,[],_,t,_=>t.elim
 | v::vs,f::fs,Q,t,h=>by
  obtain⟨⟨a,o,xs,n,rfl,ho,hc,hd,hf⟩,t⟩:=t;rw[cB];refine aa ?_;rw[kas_first_eq];refine aa (W.Looks.here (show W.Looks (!10) s.heap (typeOf (.ref a)) o.cls from (W.Looks.ld ho).andThen .now) ?_);rw[hc,if_neg (by first | decide | simp)];refine aa (listItems_at ho hd (aj ?_));rw[hf];exact aa (nE vs fs (Q:=λbs s'=>aG (!10) A (pure (f::bs)) Q E s') t (aj h))
theorem uu:∀(vs:List ah),(∀v∈vs,Nu s.heap v)->∃fs,vO s.heap vs fs/\∀f∈fs,f=none\/∃i t,f=some (ah.int i t)
 | [],_=>⟨[],trivial,!4⟩
 | v::vs,h=>by
  obtain⟨fs,h1,h2⟩:=uu vs λv hv=>h v (ai _ hv);obtain⟨a,o,xs,n,row,as,rfl,k1,k2,k3,k4⟩:=h v (aq ..);refine⟨xs[0]? :: fs,⟨⟨a,o,xs,n,rfl,k1,k2,k3,rfl⟩,h1⟩,λf hf=>?_⟩;rcases ax.mp hf with rfl | hf
  .cases e:xs[0]? with
   | none=>exact .inl rfl
   | some u =>
    obtain⟨i,t,rfl⟩:=rM k4 u (by have:=Array.mem_of_getElem? e;simpa using this);exact .inr ⟨i,t,rfl⟩
  .exact h2 f hf
theorem rN:∀(vs:List ah) (fs:List (Option ah)),vO h vs fs->fs.all (·.isSome)=true->∃gs:List ah,fs=gs.map some/\KatTups h vs gs
 | [],[],_,_=>⟨[],rfl,trivial⟩
 | [],_::_,t,_=>t.elim
 | _::_,[],t,_=>t.elim
 | v::vs,none::fs,_,e=>by simp at e
 | v::vs,some g::fs,t,e=>by
  obtain⟨⟨a,o,xs,n,rfl,ho,hc,hd,hf⟩,t⟩:=t;obtain⟨gs,rfl,k⟩:=rN vs fs t (by simpa using e);exact⟨g::gs,rfl,W.KatTups.cons ho hc hd hf k⟩
theorem pS:∀{vs gs:List ah},KatTups h vs gs->gs.length=vs.length
 | [],[],_=>rfl
 | [],_::_,t=>t.elim
 | _::_,[],t=>t.elim
 | v::vs,g::gs,t=>by rw[av,av,pS t.2]
theorem C7 {vs:List ah}(h:∀v∈vs,Nu s.heap v)(h2:2<=vs.length):∃κ:SortKind,(κ=tuples' true\/κ=general'\/κ=oneType')/\∀(Q:SortKind->aw->Prop) (E:ah->aw->Prop),Q κ s->aG (!10) A (keyKind' vs.toArray) Q E s:=by
 obtain⟨fs,hf,hfi⟩:=uu vs h;by_cases oZ:(fs.toArray.all (·.isSome))=true
 .refine⟨tuples' true,.inl rfl,λQ E hq=>?_⟩
  obtain⟨gs,rfl,k⟩:=rN vs fs hf (by simpa using oZ);refine W.kat_kind (T:=ah.type "int") k (by rw[pS k];omega) (λv hv=>?_) rfl hq;rcases hfi (some v) (cY hv) with e | ⟨i,t,e⟩
  .cases e
  .cases e
   exact W.Looks.of_pure rfl
 .by_cases h0:(fs.toArray[0]?.bind id).isSome=true
  .refine⟨general',.inr (.inl rfl),λQ E hq=>?_⟩
   rw[PyProof.Rows.kat_kind_eq,List.mapM_toArray,map_eq_pure_bind];refine aa (aa (nE vs fs hf (aj ?_)));rw[if_neg oZ,if_pos h0];exact aj hq
  .refine⟨oneType',.inr (.inr rfl),λQ E hq=>?_⟩
   rw[PyProof.Rows.kat_kind_eq,List.mapM_toArray,map_eq_pure_bind];refine aa (aa (nE vs fs hf (aj ?_)));rw[if_neg oZ,if_neg h0]
   obtain⟨v₁,rest,rfl⟩:∃v₁ rest,vs=v₁::rest:=by
    match vs,h2 with
    | [],h2=>simp at h2
    | v₁::rest,_=>exact⟨v₁,rest,rfl⟩
   rw[oneTypeOnly'_eq,List.mapM_toArray,map_eq_pure_bind];refine aa (aa (aa (kas_mapM (r:=ah.type "tuple") _ (λv hv Q' hq=>?_) (aj ?_))))
   .obtain⟨a,o,xs,n,row,as,rfl,k1,k2,k3,k4⟩:=h v hv
    refine W.Looks.here ?_ hq;exact (show W.Looks (!10) s.heap (typeOf (.ref a)) o.cls from (W.Looks.ld k1).andThen .now) |> λz=>by rw[k2] at z;exact z
   .have Q6:((List.map (λ_=>ah.type "tuple") (v₁::rest)).toArray.all λx=>x == ah.type "tuple")=true:=by
     simp only[List.all_toArray,List.all_map,List.all_eq_true];intro _ _;rfl
    have DS:(List.map (λ_=>ah.type "tuple") (v₁::rest)).toArray[0]? = some (ah.type "tuple"):=by simp
    rw[DS];simp only[Q6,if_true];exact aj (aj hq)
end
noncomputable def xW:ag->Option (List Int) | .tuple ds=>iq ds | _=>none
noncomputable def rO (ds:List ag):Option (List (List Int)):=ds.mapM xW
noncomputable def iO (r:List Int):ag:=.tuple (r.map .int)
theorem FE (h:xW d=some r):d=iO r:=by
 cases d with
 | tuple ds=>rw[iO,<- gw h]
 | _=>cases h
theorem z8 (rs:List (List Int)):rO (rs.map iO)=some rs:=by
 unfold rO
 induction rs with
 | nil=>rfl
 | cons r rs ih=>rw[ar,cB,ih,iO,xW,g7];rfl
theorem uw:∀{ds:List ag} {rs:List (List Int)},rO ds=some rs->ds=rs.map iO
 | [],rs,h=>by cases h;rfl
 | d::ds,rs,h=>by
  unfold rO at h;rw[cB] at h
  cases e1:xW d with
  | none=>rw[e1] at h;cases h
  | some r =>
   cases e:ds.mapM xW with
   | none=>rw[e1,e] at h;cases h
   | some ms =>
    rw[e1,e] at h;cases h;rw[FE e1,uw (ds:=ds) e];rfl
theorem eg.at:∀{xs:List V} {us:List ah},eg xs us->∀j,j<us.length->RelV (xs.getD j .gC) (us.getD j ah.none)
 | _,[],_,j,hj=>absurd hj (dq _)
 | _,u::us,q,j,hj=>by
  cases q with
  | cons q1 q2 =>
   cases j with
   | zero=>exact q1
   | succ j=>exact eg.at q2 j (bU hj)
theorem dO.Ut:∀{ds:List ag} {xs:List V},dO S H ds xs->∀j,j<ds.length->eB S H (ds.getD j .none) (xs.getD j .gC)
 | [],_,_,j,hj=>absurd hj (dq _)
 | d::ds,_,r,j,hj=>by
  obtain⟨x,t,rfl,h1,h2⟩:=r.of_cons
  cases j with
  | zero=>exact h1
  | succ j=>exact dO.Ut h2 j (bU hj)
theorem eg.pick (q:eg xs us):∀l:List Nat,(∀j∈l,j<us.length)->eg (l.map λj=>xs.getD j .gC) (l.map λj=>us.getD j ah.none)
 | [],_=>.nil
 | j::l,h=>.cons (q.at j (h j (aq ..))) (eg.pick q l λk hk=>h k (ai _ hk))
theorem dO.pick {S:List Addr}{H:Hp}{rs:List (List Int)}{xs:List V}(r:dO S H (rs.map iO) xs):∀l:List Nat,(∀j∈l,j<rs.length)->dO S H ((l.map λj=>rs.getD j []).map iO) (l.map λj=>xs.getD j .gC)
 | [],_=>.nil
 | j::l,h=>by
  have hj:=h j (aq ..);have:=r.Ut j (by rw[ao];exact hj);have e:(rs.map iO).getD j .none=iO (rs.getD j []):=by simp[am,hj]
  rw[e] at this;exact .cons this (dO.pick r l λk hk=>h k (ai _ hk))
section
theorem xX (rs:List (List Int)):ag.canLayAll0 (rs.map iO)=true:=by
 have:∀r:List Int,ag.canLayAll0 (r.map .int)=true:=λr=>by
  induction r with
  | nil=>rfl
  | cons a r ih=>simpa [ag.canLayAll0,ag.canLay0] using ih
 induction rs with
 | nil=>rfl
 | cons r rs ih=>simp only[ar,ag.canLayAll0,iO,ag.canLay0,this,ih];rfl
end
noncomputable def Jh:Bool->Keyed->Array Keyed->Nat->Nat->Nat->StateT SortSt Sem (Option Nat):=sortPriv% PySem.Builtin.gallop
noncomputable def nc:Nat->StateT SortSt Sem Unit:=sortPriv% PySem.Builtin.setMinGallop
noncomputable def FF:Array Keyed->Array Keyed->StateT SortSt Sem (Array Keyed):=sortPriv% PySem.Builtin.mergeLo
noncomputable def FG:Array Keyed->Array Keyed->StateT SortSt Sem (Array Keyed):=sortPriv% PySem.Builtin.mergeHi
noncomputable abbrev nF (st:SortSt)(g:Nat):SortSt:=SortSt.mk' (kindOf st) (!15) (pendingOf st) g (failedOf st)
theorem o9 (g:Nat):nc g=modify λs=>nF s g:=rfl
section
theorem eW {arr:Array Keyed}{i:Nat}{st:SortSt}{Q:Keyed->SortSt->Prop}(hi:i<arr.size)(h:Q arr[i] st):wpS (!10) A E s (elem' arr i) Q st:=by
 rw[elem'_eq,getElem?_pos arr i hi];exact wpS_pure h
theorem Ji {β:Type}{a b:Nat}{f:Nat->β->StateT SortSt Sem (ForInStep β)}(I:β->SortSt->Prop)(Q7:∀i c st,I c st->wpS (!10) A E s (f i c) (λr eK=>match r with | .done c'=>I c' eK | .yield c'=>I c' eK) st){c:β}{st:SortSt}(h:I c st):wpS (!10) A E s (forIn [a:b] c f) I st :=
 wpS_forRange (I:=λ_=>I) (λi c st _ _ h=>Q7 i c st h) (λ_ _ h=>h) h
end
section
variable {prog:aV}{w:World}{A:Around}{E:ah->aw->Prop}{s:aw}
theorem C8 {st:SortSt}{g:Nat}{Q:Unit->SortSt->Prop}(h:Q () (nF st g)):wpS (!10) A E s (nc g) Q st:=by
 rw[o9];exact wpS_modify h
noncomputable def Lo (a b out:Array Keyed)(ia ib:Nat):Prop:=(out.toList++a.toList.drop ia++b.toList.drop ib).Perm (a.toList++b.toList)
theorem vP (a:Array Keyed)(i:Nat):(a.extract i a.size).toList=a.toList.drop i:=by
 rw[cM,cx,bT (!4)]
theorem dY {α:Type}{c:Prop}[Decidable c]{m1 m2:StateT SortSt Sem α}{Q:α->SortSt->Prop}{st:SortSt}(h1:c->wpS (!10) A E s m1 Q st)(h2:¬c->wpS (!10) A E s m2 Q st):wpS (!10) A E s (if c then m1 else m2) Q st:=by
 by_cases h:c
 .rw[if_pos h];exact h1 h
 .rw[if_neg h];exact h2 h
theorem Lo.done (h:Lo a b out ia ib):(out++a.extract ia a.size++b.extract ib b.size).toList.Perm (a.toList++b.toList):=by
 rw[aU,aU,vP,vP];exact h
theorem Lo.last (h:Lo a b out ia ib):(out++b.extract ib b.size++a.extract ia a.size).toList.Perm (a.toList++b.toList):=by
 refine List.Perm.trans ?_ h;rw[aU,aU,vP,vP,aJ,aJ];exact List.Perm.append_left _ cJ
theorem Lo.as (k:Nat)(h:Lo a b out ia ib):Lo a b (out++a.extract ia (ia+k)) (ia+k) ib:=by
 unfold Lo at h ⊢
 have e:a.toList.drop ia=(a.extract ia (ia+k)).toList++a.toList.drop (ia+k):=by
  rw[cM,cx,c8,<- List.drop_drop,List.take_append_drop]
 rw[e] at h;simpa using h
theorem Lo.bs (k:Nat)(h:Lo a b out ia ib):Lo a b (out++b.extract ib (ib+k)) ia (ib+k):=by
 unfold Lo at h ⊢
 have e:b.toList.drop ib=(b.extract ib (ib+k)).toList++b.toList.drop (ib+k):=by
  rw[cM,cx,c8,<- List.drop_drop,List.take_append_drop]
 rw[e] at h;refine List.Perm.trans ?_ h;rw[aU,aJ,aJ,aJ];refine List.Perm.append_left _ ?_;rw[<- aJ,<- aJ];exact List.Perm.append_right _ cJ
theorem Lo.a1 (h:Lo a b out ia ib)(hi:ia<a.size):Lo a b (out.push a[ia]) (ia+1) ib:=by
 have:=h.as 1;rwa [show out++a.extract ia (ia+1)=out.push a[ia] from cC.mp (by simp[bh,hi,List.take])] at this
theorem Lo.b1 (h:Lo a b out ia ib)(hi:ib<b.size):Lo a b (out.push b[ib]) ia (ib+1):=by
 have:=h.bs 1;rwa [show out++b.extract ib (ib+1)=out.push b[ib] from cC.mp (by simp[bh,hi,List.take])] at this
structure Mo (a b:Array Keyed) (i:Nat) (out:Array Keyed) (ia ib:Nat):Prop where
 lo:Lo a b out ia ib
 la:ia+1<a.size
 lb:ib<b.size
 up:i<ia+ib
theorem Mo.a1 (h:Mo a b i out ia ib)(e:¬ (ia+1+1 == a.size)=true):Mo a b i (out.push (a[ia]'(by have:=h.la;omega))) (ia+1) ib:=by
 have:=h.la;have:=h.up;rw[beq_iff_eq] at e;exact⟨h.lo.a1 _,!1,h.lb,!1⟩
theorem Mo.as (h:Mo a b i out ia ib)(hk:k<=a.size - ia)(e:¬ (ia+k+1 == a.size)=true)(e':¬ (ia+k == a.size)=true):Mo a b i (out++a.extract ia (ia+k)) (ia+k) ib:=by
 have:=h.la;have:=h.up;rw[beq_iff_eq] at e e';exact⟨h.lo.as k,!1,h.lb,!1⟩
theorem Mo.bs (h:Mo a b i out ia ib)(hk:k<=b.size - ib)(e:¬ (ib+k == b.size)=true):Mo a b i (out++b.extract ib (ib+k)) ia (ib+k):=by
 have:=h.lb;have:=h.up;rw[beq_iff_eq] at e;exact⟨h.lo.bs k,h.la,!1,!1⟩
theorem Mo.b1 (h:Mo a b i out ia ib)(e:¬ (ib+1 == b.size)=true):Mo a b i (out.push (b[ib]'h.lb)) ia (ib+1):=by
 have:=h.lb;have:=h.up;rw[beq_iff_eq] at e;exact⟨h.lo.b1 _,h.la,!1,!1⟩
theorem Mo.lt (h:Mo a b i out ia ib):ia<a.size:=by
 have:=h.la;omega
noncomputable def Hi (a b out:Array Keyed)(na nb:Nat):Prop:=(a.toList.take na++b.toList.take nb++out.toList).Perm (a.toList++b.toList)
theorem qA (a:Array Keyed)(i:Nat):(a.extract 0 i).toList=a.toList.take i:=by
 rw[cM,cx,Nat.sub_zero,List.drop_zero]
theorem Hi.done (h:Hi a b out na nb):(a.extract 0 na++b.extract 0 nb++out.reverse).toList.Perm (a.toList++b.toList):=by
 rw[aU,aU,qA,qA,ci];exact (List.Perm.append_left _ (dz _)).trans h
theorem Hi.first (h:Hi a b out na nb):(b.extract 0 nb++a.extract 0 na++out.reverse).toList.Perm (a.toList++b.toList):=by
 rw[aU,aU,qA,qA,ci];exact ((List.Perm.append_left _ (dz _)).trans (List.Perm.append_right _ cJ)).trans h
theorem qB (a:Array Keyed)(h:k<=n):a.toList.take n=a.toList.take k++(a.extract k n).toList:=by
 rw[cM,cx,show n=k+(n - k) by omega,List.take_add,c8]
theorem Hi.as (h:Hi a b out na nb)(hk:k<=na):Hi a b (out++(a.extract k na).reverse) k nb:=by
 unfold Hi at h ⊢;rw[qB a hk] at h;refine List.Perm.trans ?_ h;rw[aU,ci,aJ,aJ,aJ];refine List.Perm.append_left _ ?_;rw[<- aJ,<- aJ];refine (List.Perm.append_left _ (dz _)).trans ?_;exact cJ.trans (by rw[aJ])
theorem Hi.bs (h:Hi a b out na nb)(hk:k<=nb):Hi a b (out++(b.extract k nb).reverse) na k:=by
 unfold Hi at h ⊢;rw[qB b hk] at h;refine List.Perm.trans ?_ h;rw[aU,ci,aJ,aJ,aJ];refine List.Perm.append_left _ (List.Perm.append_left _ ?_);exact (List.Perm.append_left _ (dz _)).trans cJ
theorem z9 (a:Array Keyed)(h:n<a.size):(a.extract n (n+1)).reverse=#[a[n]]:=cC.mp (by simp[bh,h,List.take])
theorem Hi.a1 (h:Hi a b out na nb)(h0:0<na)(hi:na - 1<a.size):Hi a b (out.push a[na - 1]) (na - 1) nb:=by
 have:=h.as (Nat.sub_le na 1);have e:=z9 a hi;rw[show na - 1+1=na by omega] at e;rw[e] at this;simpa using this
theorem Hi.b1 (h:Hi a b out na nb)(h0:0<nb)(hi:nb - 1<b.size):Hi a b (out.push b[nb - 1]) na (nb - 1):=by
 have:=h.bs (Nat.sub_le nb 1);have e:=z9 b hi;rw[show nb - 1+1=nb by omega] at e;rw[e] at this;simpa using this
structure Mh (a b:Array Keyed) (i:Nat) (out:Array Keyed) (na nb:Nat):Prop where
 hi:Hi a b out na nb
 la:0<na
 lb:1<nb
 ua:na<a.size
 ub:nb<=b.size
 up:i+na+nb<a.size+b.size
theorem Mh.xa (h:Mh a b i out na nb):na - 1<a.size:=by
 have:=h.ua;omega
theorem Mh.xb (h:Mh a b i out na nb):nb - 1<b.size:=by
 have:=h.ub;have:=h.lb;omega
theorem Mh.a1 (h:Mh a b i out na nb)(e:¬ (na - 1 == 0)=true):Mh a b i (out.push (a[na - 1]'h.xa)) (na - 1) nb:=by
 obtain⟨h1,h2,h3,h4,h5,h6⟩:=h;rw[beq_iff_eq] at e;exact⟨h1.a1 h2 _,!1,h3,!1,h5,!1⟩
theorem Mh.b1 (h:Mh a b i out na nb)(e:¬ (nb - 1 == 1)=true):Mh a b i (out.push (b[nb - 1]'h.xb)) na (nb - 1):=by
 obtain⟨h1,h2,h3,h4,h5,h6⟩:=h;rw[beq_iff_eq] at e;exact⟨h1.b1 (!1) _,h2,!1,h4,!1,!1⟩
theorem Mh.as (h:Mh a b i out na nb)(hk:k<=na)(e:¬ (k == 0)=true):Mh a b i (out++(a.extract k na).reverse) k nb:=by
 obtain⟨h1,h2,h3,h4,h5,h6⟩:=h;rw[beq_iff_eq] at e;exact⟨h1.as hk,!1,h3,!1,h5,!1⟩
theorem Mh.bs (h:Mh a b i out na nb)(hk:k<=nb)(e:¬ (k == 1)=true)(e':¬ (k == 0)=true):Mh a b i (out++(b.extract k nb).reverse) na k:=by
 obtain⟨h1,h2,h3,h4,h5,h6⟩:=h;rw[beq_iff_eq] at e e';exact⟨h1.bs hk,h2,!1,h4,!1,!1⟩
end
section
variable {prog:aV}{w:World}{A:Around}{E:ah->aw->Prop}{s:aw}{a₀:Array Keyed}{κ:SortKind}
noncomputable abbrev Run:=Nat × Nat × Nat
noncomputable def Ch:Nat->List Run->Nat->Prop
 | lo,[],hi=>lo=hi
 | lo,(s,n,_)::l,hi=>s=lo/\1<=n/\Ch (lo+n) l hi
structure Sb (a₀:Array Keyed) (κ:SortKind) (hi:Nat) (st:SortSt):Prop where
 perm:(!15).Perm a₀
 kind:kindOf st=κ
 failed:failedOf st=none
 ch:Ch 0 (pendingOf st).toList hi
 le:hi<=a₀.size
theorem Sb.size {st:SortSt}{hi:Nat}(h:Sb a₀ κ hi st):(!15).size=a₀.size:=h.perm.size_eq
theorem Sb.arr {st:SortSt}{hi:Nat}(h:Sb a₀ κ hi st){xs:Array Keyed}(hp:xs.Perm (!15)):Sb a₀ κ hi (setArr st xs):=⟨hp.trans h.perm,h.kind,h.failed,h.ch,h.le⟩
theorem Sb.g {st:SortSt}{hi:Nat}(h:Sb a₀ κ hi st)(g:Nat):Sb a₀ κ hi (nF st g):=⟨h.perm,h.kind,h.failed,h.ch,h.le⟩
theorem Ch.split:∀{l:List Run} {lo hi i:Nat},Ch lo l hi->i+1<l.length->∃pre sa na p nb q post,l=pre++(sa,na,p)::(sa+na,nb,q)::post/\pre.length=i/\lo<=sa/\1<=na/\1<=nb/\sa+na+nb<=hi/\∀p',Ch lo (pre++(sa,na+nb,p')::post) hi
 | (sa,na,p)::(sb,nb,q)::post,lo,hi,0,h,_=>by
  obtain⟨rfl,h1,rfl,h2,h3⟩:=h
  have le:∀{l:List Run} {lo hi:Nat},Ch lo l hi->lo<=hi:=λ{l}=>by
   induction l with
   | nil=>intro lo hi h;exact Nat.le_of_eq h
   | cons x l ih=>intro lo hi h;exact bq (Nat.le_add_right _ _) (ih h.2.2)
  exact⟨[],_,_,_,_,_,_,rfl,rfl,ap _,h1,h2,le h3,λp'=>⟨rfl,!1,by rw[<- Nat.add_assoc];exact h3⟩⟩
 | (s,n,p)::l,lo,hi,i+1,h,Bm=>by
  obtain⟨rfl,h1,h2⟩:=h;obtain⟨pre,sa,na,p',nb,q,post,rfl,e,b1,b2,b3,b4,b5⟩:=Ch.split h2 (bU Bm);exact⟨(s,n,p)::pre,sa,na,p',nb,q,post,rfl,by rw[av,e],!1,b2,b3,b4,λp'=>⟨rfl,h1,b5 p'⟩⟩
 | [_],_,_,0,_,h=>by simp at h
 | [],_,_,_,_,h=>by simp at h
theorem Ch.push (h1:1<=n):∀{l:List Run} {lo hi:Nat},Ch lo l hi->Ch lo (l++[(hi,n,p)]) (hi+n)
 | [],lo,hi,h=>⟨h.symm,h1,by rw[show lo=hi from h];rfl⟩
 | _::_,lo,hi,h=>⟨h.1,h.2.1,Ch.push h1 h.2.2⟩
theorem Ch.mod (pw:Nat):∀{l:List Run} {i lo hi:Nat},Ch lo l hi->Ch lo (l.modify i λx=>(x.1,x.2.1,pw)) hi
 | [],i,lo,hi,h=>by simpa using h
 | _::_,0,lo,hi,h=>h
 | _::l,i+1,lo,hi,h=>⟨h.1,h.2.1,Ch.mod pw (l:=l) (i:=i) h.2.2⟩
theorem BM (f:Nat):∀(l:List Keyed) (j:Nat) (xs:Array Keyed),f+j+l.length<=xs.size->((l.zipIdx j).foldl (λa x=>a.setIfInBounds (f+x.2) x.1) xs).toList=xs.toList.take (f+j)++l++xs.toList.drop (f+j+l.length)
 | [],j,xs,_=>by simp
 | z::l,j,xs,h=>by
  rw[av] at h;rw[List.zipIdx_cons,dn];dsimp only;rw[BM f l (j+1) _ (by rw[Array.size_setIfInBounds];omega),Array.toList_setIfInBounds,av];have hz:f+j<xs.toList.length:=by rw[bj];omega
  have e1:(xs.toList.set (f+j) z).take (f+(j+1))=xs.toList.take (f+j)++[z]:=by
   rw[<- Nat.add_assoc,List.take_succ,List.take_set_of_le (ap _),cF hz];rfl
  have e2:(xs.toList.set (f+j) z).drop (f+(j+1)+l.length)=xs.toList.drop (f+j+(l.length+1)):=by
   rw[List.drop_set_of_lt (!1)];congr 1;omega
  rw[e1,e2,aJ,aJ,aJ];rfl
end
section
variable {prog:aV}{w:World}{A:Around}{E:ah->aw->Prop}{s:aw}{a₀:Array Keyed}{κ:SortKind}
theorem Jj {x st:SortSt}{Q:PUnit->SortSt->Prop}(h:Q ⟨⟩ x):wpS (!10) A E s (set x:StateT SortSt Sem PUnit) Q st:=by
 unfold wpS;rw[StateT.run_set];exact aj ⟨rfl,h⟩
theorem vQ {a:Array Keyed}{i j:Nat}{x:Keyed}(h:x∈a.extract i j):x∈a:=by
 obtain⟨k,hk,rfl⟩:=cN h;rw[cw];exact bi _
end
open PySem.W (kas_ask kas_item)
theorem BN {α:Type}(d:α){l m:List α}(h:l.Perm m):∃p:List Nat,p.Perm (List.range m.length)/\l=p.map λi=>m.getD i d:=by
 induction h with
 | nil=>exact⟨[],.nil,rfl⟩
 | cons x _ ih =>
  obtain⟨p,hp,e⟩:=ih;refine⟨0::p.map (· + 1),?_,?_⟩
  .rw[av,cG]
   exact (hp.map _).cons 0
  .rw[ar,bp,e]
   rfl
 | swap x y l =>
  refine⟨1::0::(List.range l.length).map (· + 2),?_,?_⟩
  .rw[av,av,cG,cG,ar,bp]
   exact .swap ..
  .have e:(List.range l.length).map (λi=>l.getD i d)=l:=cS (!4) λi h1 h2=>by simp[am,h2]
   rw[ar,ar,bp];show _=_::_::(List.range l.length).map (λi=>l.getD i d);rw[e];rfl
 | trans _ _ Xd Xe =>
  obtain⟨p,hp,e⟩:=Xd;obtain⟨q,hq,e2⟩:=Xe;have hl:=hq.length_eq;subst e2;rw[ao] at hp;refine⟨p.map λi=>q.getD i 0,?_,?_⟩
  .refine List.Perm.trans ?_ hq
   have:=hp.map λi=>q.getD i 0;rwa [show (List.range q.length).map (λi=>q.getD i 0)=q from cS (!4) λi h1 h2=>by simp[am,h2]] at this
  .rw[e,bp]
   refine bu λi hi=>?_;have Bm:i<q.length:=by simpa using hp.mem_iff.mp hi
   simp[am,Bm]
section
variable {prog:aV}{w:World}{A:Around}{E:ah->aw->Prop}{s:aw}{key:Keyed->Int}
noncomputable def rP (prog:aV)(w:World)(A:Around)(s:aw)(key:Keyed->Int)(κ:SortKind)(x y:Keyed):Prop:=∀C:Bool->aw->Prop,C (decide (key x<key y)) s->aG (!10) A (keyLt' κ x.1 y.1) C (λ_ _=>False) s
theorem FH {x y:Keyed}{st:SortSt}{Q:Option Bool->SortSt->Prop}(hc:rP prog w A s key (kindOf st) x y)(h:Q (some (decide (key x<key y))) st):wpS (!10) A E s (lt' x y) Q st:=by
 rw[lt'_eq];refine wpS_bind (wpS_get ?_);refine wpS_bind (wpS_lift (wpAny_attempt (ca (hc (λb s'=>s'=s/\wpS (!10) A E s (pure (some b)) Q st) ⟨rfl,wpS_pure h⟩) (λb s' hb=>hb) λ_ _ hF=>hF.elim)))
noncomputable def kA (key:Keyed->Int)(xs:Array Keyed)(i:Nat):Int:=match xs[i]? with | some x=>key x | none=>0
theorem ic (h:i<xs.size):kA key xs i=key xs[i]:=by
 unfold kA;rw[getElem?_pos xs i h]
noncomputable def Aa (left:Bool)(q a:Int):Bool:=if left=true then decide (a<q) else !decide (q<a)
theorem FI (h:a<=b)(hb:Aa left q b=true):Aa left q a=true:=by
 unfold Aa at hb ⊢
 cases left with
 | true =>
  rw[if_pos rfl,decide_eq_true_eq] at hb ⊢;omega
 | false =>
  rw[if_neg (!2),Bool.not_eq_true',decide_eq_false_iff_not] at hb ⊢;omega
theorem ky {left:Bool}{it:Keyed}{arr:Array Keyed}{base n hint:Nat}{st:SortSt}{Q:Option Nat->SortSt->Prop}(hn:base+n<=arr.size)(hh:hint<n)
  (hc:∀x∈arr,rP prog w A s key (kindOf st) it x/\rP prog w A s key (kindOf st) x it) (hs:∀i j,i<=j->j<n->kA key arr (base+i)<=kA key arr (base+j))
  (h:∀k,k<=n->(∀i,i<k->Aa left (key it) (kA key arr (base+i))=true)->(∀i,k<=i->i<n->Aa left (key it) (kA key arr (base+i))=false)->Q (some k) st):wpS (!10) A E s (Jh left it arr base n hint) Q st:=by
 obtain⟨B,hB⟩:∃B:Nat->Bool,∀i,Aa left (key it) (kA key arr (base+i))=B i:=⟨_,λ_=>rfl⟩
 have an:∀i j,i<=j->j<n->B j=true->B i=true:=λi j h1 h2 h3=>by
  rw[<- hB] at h3 ⊢;exact FI (hs i j h1 h2) h3
 simp only[hB] at h
 have hb:∀{i:Nat} {Q:Option Bool->SortSt->Prop},i<n->Q (some (B i)) st->wpS (!10) A E s (elem' arr (base+i) >>= λx=>if left=true then lt' x it else lt' it x >>= λr=>pure (r.map λb=>!b)) Q st:=λ{i Q} hi q=>by
  have gh:base+i<arr.size:=by omega
  refine wpS_bind (eW gh ?_);have e:=hB i;rw[ic gh] at e;unfold Aa at e
  cases left with
  | true =>
   rw[if_pos rfl] at e ⊢;exact FH (hc _ (bi _)).2 (e ▸ q)
  | false =>
   rw[if_neg (!2)] at e ⊢;exact wpS_bind (FH (hc _ (bi _)).1 (wpS_pure (by rw[bW,e];exact q)))
 have Q8:∀{f:Nat->Option (Option Nat) × Nat × Nat->StateT SortSt Sem (ForInStep (Option (Option Nat) × Nat × Nat))} {lo hi:Nat},hi<=n->(∀i,i<lo->i<n->B i=true)->(∀i,hi<=i->i<n->B i=false) ->
   (∀i lo hi (Q:ForInStep (Option (Option Nat) × Nat × Nat)->SortSt->Prop),hi<=n->(hi<=lo->Q (.done (none,lo,hi)) st)->(∀m,lo+(hi - lo) / 2=m->m<hi->(B m=true->Q (.yield (none,m+1,hi)) st)/\(B m=false->Q (.yield (none,lo,m)) st))->wpS (!10) A E s (f i (none,lo,hi)) Q st) ->
   wpS (!10) A E s (forIn [0:n] ((none,lo,hi):Option (Option Nat) × Nat × Nat) f) (λc eK=>eK=st/\∃lo hi,c=(none,lo,hi)/\hi<=n/\(∀i,i<lo->i<n->B i=true)/\(∀i,hi<=i->i<n->B i=false)/\hi<=lo) st:=λ{f lo hi} h1 h2 h3 hf=>by
  refine wpS_forRange (I:=λi c eK=>eK=st/\∃lo hi,c=(none,lo,hi)/\hi<=n/\(∀i,i<lo->i<n->B i=true)/\(∀i,hi<=i->i<n->B i=false)/\hi<=lo+(n - i)) ?_ ?_ ⟨rfl,_,_,rfl,h1,h2,h3,!1⟩
  .rintro i _ st a1 a2 ⟨rfl,lo,hi,rfl,b1,b2,b3,b4⟩
   refine hf i lo hi _ b1 (λlr=>⟨rfl,_,_,rfl,b1,b2,b3,lr⟩) λm hm gh=>⟨λe=>⟨rfl,_,_,rfl,b1,λj j1 j2=>an j m (!1) (!1) e,b3,!1⟩,λe=>⟨rfl,_,_,rfl,!1,b2,λj j1 j2=>?_,!1⟩⟩
   cases e2:B j with
   | false=>rfl
   | true=>rw[an m j j1 j2 e2] at e;cases e
  .rintro _ st ⟨rfl,lo,hi,rfl,b1,b2,b3,b4⟩
   exact⟨rfl,_,_,rfl,b1,b2,b3,!1⟩
 refine wpS_bind (hb hh ?_);dsimp only
 cases e0:B hint with
 | true =>
  refine wpS_bind (wpS_mono (wpS_forRange (I:=λi c eK=>eK=st/\∃l u,c=(none,l,u)/\hint+l<n/\B (hint+l)=true/\i+1<=u) (Q:=λc eK=>eK=st/\∃l u,c=(none,l,u)/\hint+l<n/\B (hint+l)=true/\(n - hint<=u\/hint+u<n/\B (hint+u)=false)) ?_ ?_ ⟨rfl,_,_,rfl,hh,e0,ap _⟩) ?_)
  .rintro i _ st a1 a2 ⟨rfl,l,u,rfl,b1,b2,b3⟩
   dsimp only;refine dY (λ_=>wpS_pure ⟨rfl,_,_,rfl,b1,b2,.inl (!1)⟩) λgh=>wpS_bind (hb (!1) ?_);dsimp only
   cases e:B (hint+u) with
   | true=>exact wpS_pure ⟨rfl,_,_,rfl,!1,e,!1⟩
   | false=>exact wpS_pure ⟨rfl,_,_,rfl,b1,b2,.inr ⟨!1,e⟩⟩
  .rintro _ st ⟨rfl,l,u,rfl,b1,b2,b3⟩
   exact⟨rfl,_,_,rfl,b1,b2,.inl (!1)⟩
  .rintro _ st ⟨rfl,l,u,rfl,b1,b2,b3⟩
   have Uu:∀i,hint+min u (n - hint)<=i->i<n->B i=false:=λi i1 i2=>by
    rcases b3 with b3 | ⟨b3,b4⟩
    .omega
    .cases e:B i with
     | false=>rfl
     | true=>rw[an (hint+u) i (!1) i2 e] at b4;cases b4
   dsimp only;refine wpS_bind (wpS_mono (Q8 (lo:=hint+l+1) (hi:=hint+min u (n - hint)) (!1) (λi i1 i2=>an i _ (!1) b1 b2) Uu ?_) ?_)
   .intro i lo hi Q q0 q1 q2
    dsimp only;refine dY (λ_=>wpS_pure (q1 (!1))) λ_=>wpS_bind (hb (!1) ?_);have:=q2 _ rfl (!1);dsimp only
    cases e:B (lo+(hi - lo) / 2) with
    | true=>exact wpS_pure (this.1 e)
    | false=>exact wpS_pure (this.2 e)
   .rintro _ st ⟨rfl,lo,hi,rfl,c1,c2,c3,c4⟩
    exact wpS_pure (h hi c1 (λj hj=>c2 j (!1) (!1)) c3)
 | false =>
  refine wpS_bind (wpS_mono (wpS_forRange (I:=λi c eK=>eK=st/\∃l u,c=(none,l,u)/\l<=hint/\B (hint - l)=false/\i+1<=u) (Q:=λc eK=>eK=st/\∃l u,c=(none,l,u)/\l<=hint/\B (hint - l)=false/\(hint+1<=u\/u<=hint/\B (hint - u)=true)) ?_ ?_ ⟨rfl,_,_,rfl,bD _,e0,ap _⟩) ?_)
  .rintro i _ st a1 a2 ⟨rfl,l,u,rfl,b1,b2,b3⟩
   dsimp only;refine dY (λ_=>wpS_pure ⟨rfl,_,_,rfl,b1,b2,.inl (!1)⟩) λgh=>wpS_bind (hb (!1) ?_);dsimp only
   cases e:B (hint - u) with
   | true=>exact wpS_pure ⟨rfl,_,_,rfl,b1,b2,.inr ⟨!1,e⟩⟩
   | false=>exact wpS_pure ⟨rfl,_,_,rfl,!1,e,!1⟩
  .rintro _ st ⟨rfl,l,u,rfl,b1,b2,b3⟩
   exact⟨rfl,_,_,rfl,b1,b2,.inl (!1)⟩
  .rintro _ st ⟨rfl,l,u,rfl,b1,b2,b3⟩
   have PD:∀i,i<hint+1 - min u (hint+1)->i<n->B i=true:=λi i1 i2=>by
    rcases b3 with b3 | ⟨b3,b4⟩
    .omega
    .exact an i (hint - u) (!1) (!1) b4
   have Uu:∀i,hint - l<=i->i<n->B i=false:=λi i1 i2=>by
    cases e:B i with
    | false=>rfl
    | true=>rw[an (hint - l) i i1 i2 e] at b2;cases b2
   dsimp only;refine wpS_bind (wpS_mono (Q8 (lo:=hint+1 - min u (hint+1)) (hi:=hint - l) (!1) PD Uu ?_) ?_)
   .intro i lo hi Q q0 q1 q2
    dsimp only;refine dY (λ_=>wpS_pure (q1 (!1))) λ_=>wpS_bind (hb (!1) ?_);have:=q2 _ rfl (!1);dsimp only
    cases e:B (lo+(hi - lo) / 2) with
    | true=>exact wpS_pure (this.1 e)
    | false=>exact wpS_pure (this.2 e)
   .rintro _ st ⟨rfl,lo,hi,rfl,c1,c2,c3,c4⟩
    exact wpS_pure (h hi c1 (λj hj=>c2 j (!1) (!1)) c3)
end
section
variable {prog:aV}{w:World}{A:Around}{E:ah->aw->Prop}{s:aw}{key:Keyed->Int}
theorem V0 {P:Nat->Prop}{ia k:Nat}(h:∀j,j<k->P (ia+j)):∀i,ia<=i->i<ia+k->P i:=λi h1 h2=>Nat.add_sub_cancel' h1 ▸ h (i - ia) (!1)
theorem V1 {P:Nat->Prop}{ia k n:Nat}(h:∀j,k<=j->j<n - ia->P (ia+j)):∀i,ia+k<=i->i<n->P i:=λi h1 h2=>Nat.add_sub_cancel' (show ia<=i by omega) ▸ h (i - ia) (!1) (!1)
noncomputable abbrev Nd (key:Keyed->Int)(l:List Keyed):Prop:=l.Pairwise λx y=>key x<=key y
noncomputable def Sk (key:Keyed->Int)(a:Array Keyed):Prop:=∀i j,i<=j->j<a.size->kA key a i<=kA key a j
theorem gN (h:x∈(a.extract i j).toList):∃k,i<=k/\k<j/\k<a.size/\key x=kA key a k:=by
 obtain⟨k,hk,rfl⟩:=cb h;rw[bj,br] at hk;refine⟨i+k,!1,!1,!1,?_⟩;rw[bo,cw,ic (!1)]
theorem lU (h:Sk key a)(i j:Nat):Nd key (a.extract i j).toList:=by
 refine List.pairwise_iff_getElem.mpr λp q hp hq YY=>?_;rw[bj,br] at hp hq;rw[bo,bo,cw,cw];have:=h (i+p) (i+q) (!1) (!1);rwa [ic (!1),ic (!1)] at this
theorem Q9 (h:Sk key a):Nd key a.toList:=by
 have:=lU h 0 a.size;rwa [Array.extract_size] at this
theorem BO (out a:Array Keyed)(hi:i<a.size):out++a.extract i (i+1)=out.push a[i]:=cC.mp (by simp[bh,hi,List.take])
structure tj (key:Keyed->Int) (a b out:Array Keyed) (ia ib:Nat):Prop where
 FJ:Nd key out.toList
 ba:∀x∈out.toList,∀i,ia<=i->i<a.size->key x<=kA key a i
 bb:∀x∈out.toList,∀i,ib<=i->i<b.size->key x<=kA key b i
theorem j5 (h1:Nd key l)(h2:Nd key m)(h3:∀x∈l,∀y∈m,key x<=key y):Nd key (l++m):=List.pairwise_append.mpr ⟨h1,h2,h3⟩
section
variable {a b out:Array Keyed}{ia ib:Nat}
theorem tj.as (h:tj key a b out ia ib)(sa:Sk key a)(k:Nat)(lr:∀i,ia<=i->i<ia+k->i<a.size->∀j,ib<=j->j<b.size->kA key a i<=kA key b j):tj key a b (out++a.extract ia (ia+k)) (ia+k) ib:=by
 refine⟨?_,λx hx i i1 i2=>?_,λx hx i i1 i2=>?_⟩
 .rw[aU]
  refine j5 h.FJ (lU sa _ _) λx hx y hy=>?_;obtain⟨k,k1,k2,k3,e⟩:=gN (key:=key) hy;rw[e];exact h.ba x hx k k1 k3
 all_goals
  rw[aU] at hx;rcases aL.mp hx with hx | hx
 .exact h.ba x hx i (!1) i2
 .obtain⟨k,k1,k2,k3,e⟩:=gN (key:=key) hx
  rw[e];exact sa _ _ (!1) i2
 .exact h.bb x hx i i1 i2
 .obtain⟨k,k1,k2,k3,e⟩:=gN (key:=key) hx
  rw[e];exact lr k k1 k2 k3 i i1 i2
theorem tj.bs (h:tj key a b out ia ib)(sb:Sk key b)(k:Nat)(lr:∀i,ib<=i->i<ib+k->i<b.size->∀j,ia<=j->j<a.size->kA key b i<=kA key a j):tj key a b (out++b.extract ib (ib+k)) ia (ib+k):=by
 have:=tj.as (key:=key) (a:=b) (b:=a) (out:=out) (ia:=ib) (ib:=ia) ⟨h.FJ,h.bb,h.ba⟩ sb k lr;exact⟨this.FJ,this.bb,this.ba⟩
theorem tj.a1 (h:tj key a b out ia ib)(sa:Sk key a)(hi:ia<a.size)(lr:∀j,ib<=j->j<b.size->kA key a ia<=kA key b j):tj key a b (out.push a[ia]) (ia+1) ib:=by
 have:=h.as sa 1 λi i1 i2 i3 j j1 j2=>by rw[show i=ia by omega];exact lr j j1 j2
 rwa [BO out a hi] at this
theorem tj.b1 (h:tj key a b out ia ib)(sb:Sk key b)(hi:ib<b.size)(lr:∀j,ia<=j->j<a.size->kA key b ib<=kA key a j):tj key a b (out.push b[ib]) ia (ib+1):=by
 have:=h.bs sb 1 λi i1 i2 i3 j j1 j2=>by rw[show i=ib by omega];exact lr j j1 j2
 rwa [BO out b hi] at this
theorem tj.done (h:tj key a b out ia ib)(sa:Sk key a)(sb:Sk key b)(he:a.size<=ia\/b.size<=ib):Nd key (out++a.extract ia a.size++b.extract ib b.size).toList:=by
 rw[aU,aU];refine j5 (j5 h.FJ (lU sa _ _) λx hx y hy=>?_) (lU sb _ _) λx hx y hy=>?_
 .obtain⟨k,k1,k2,k3,e⟩:=gN (key:=key) hy
  rw[e];exact h.ba x hx k k1 k3
 .obtain⟨k,k1,k2,k3,e⟩:=gN (key:=key) hy
  rw[e];rcases aL.mp hx with hx | hx
  .exact h.bb x hx k k1 k3
  .obtain⟨j,j1,j2,j3,_⟩:=gN (key:=key) hx
   omega
theorem tj.last (h:tj key a b out ia ib)(sa:Sk key a)(sb:Sk key b)(hl:∀j,j<b.size->kA key b j<=kA key a (a.size - 1))(he:ia+1=a.size):Nd key (out++b.extract ib b.size++a.extract ia a.size).toList:=by
 rw[aU,aU];refine j5 (j5 h.FJ (lU sb _ _) λx hx y hy=>?_) (lU sa _ _) λx hx y hy=>?_
 .obtain⟨k,k1,k2,k3,e⟩:=gN (key:=key) hy
  rw[e];exact h.bb x hx k k1 k3
 .obtain⟨k,k1,k2,k3,e⟩:=gN (key:=key) hy
  rw[e];rcases aL.mp hx with hx | hx
  .exact h.ba x hx k k1 k3
  .obtain⟨j,j1,j2,j3,e⟩:=gN (key:=key) hx
   rw[e,show k=a.size - 1 by omega];exact hl j j3
end
theorem FK:Aa false q a=true↔a<=q:=by unfold Aa;rw[if_neg (!2),Bool.not_eq_true',decide_eq_false_iff_not];omega
theorem Ab:Aa false q a=false↔q<a:=by unfold Aa;rw[if_neg (!2),Bool.not_eq_false',decide_eq_true_eq]
theorem FN:Aa true q a=true↔a<q:=by unfold Aa;rw[if_pos rfl,decide_eq_true_eq]
theorem Ac:Aa true q a=false↔q<=a:=by unfold Aa;rw[if_pos rfl,decide_eq_false_iff_not];omega
inductive Sm {γ:Type} (key:Keyed->Int) (a b:Array Keyed) (st:SortSt) (i:Nat) (P:Nat->Nat->Prop):Option (Array Keyed) × Array Keyed × Nat × Nat × γ->SortSt->Prop
 | mk (out:Array Keyed) (ia ib:Nat) (z:γ) (g:Nat) (m:Mo a b i out ia ib) (o:tj key a b out ia ib) (p:P ia ib):Sm key a b st i P (none,out,ia,ib,z) (nF st g)
inductive Sn {γ:Type} (key:Keyed->Int) (a b:Array Keyed) (st:SortSt) (i:Nat):Option (Array Keyed) × Array Keyed × Nat × Nat × γ->SortSt->Prop
 | nx (out:Array Keyed) (ia ib:Nat) (z:γ) (g:Nat) (m:Mo a b i out ia ib) (o:tj key a b out ia ib):Sn key a b st i (none,out,ia,ib,z) (nF st g)
 | rt (x out:Array Keyed) (ia ib:Nat) (z:γ) (g:Nat) (h:x.toList.Perm (a.toList++b.toList)) (n:Nd key x.toList):Sn key a b st i (some x,out,ia,ib,z) (nF st g)
inductive Uv {γ:Type} (key:Keyed->Int) (a b:Array Keyed) (st:SortSt):Option (Array Keyed) × γ->SortSt->Prop
 | mk (x:Array Keyed) (z:γ) (g:Nat) (h:x.toList.Perm (a.toList++b.toList)) (n:Nd key x.toList):Uv key a b st (some x,z) (nF st g)
noncomputable abbrev Jk:Nat->Nat->Prop:=λ_ _=>True
theorem C9 {a b:Array Keyed}{st:SortSt}{Q:Array Keyed->SortSt->Prop}(ha:1<=a.size)(hb:1<=b.size)(hc:∀x∈a,∀y∈b,rP prog w A s key (kindOf st) x y/\rP prog w A s key (kindOf st) y x)
  (sa:Sk key a) (sb:Sk key b) (DS:kA key b 0<=kA key a 0) (OE:∀j,j<b.size->kA key b j<=kA key a (a.size - 1))
  (h:∀out g,out.toList.Perm (a.toList++b.toList)->Nd key out.toList->Q out (nF st g)):wpS (!10) A E s (FF a b) Q st:=by
 refine wpS_bind (wpS_lift (wpAny_rule ⟨rfl,?_⟩));refine wpS_bind (eW (!1) ?_)
 have h0:Lo a b #[b[0]] 0 1:=by
  have:=Lo.b1 (a:=a) (b:=b) (out:=#[]) (ia:=0) (ib:=0) (by simp[Lo]) (!1);simpa using this
 have o0:tj key a b #[b[0]] 0 1:=by
  have:=tj.b1 (key:=key) (a:=a) (b:=b) (out:=#[]) (ia:=0) (ib:=0) ⟨!4,!4,!4⟩ sb (!1) λj _ hj=>bO DS (sa _ _ (bD _) hj);simpa using this
 dsimp only;refine dY (λe=>wpS_pure (h _ (gallopOf st) h0.done (o0.done sa sb (.inr (by rw[beq_iff_eq] at e;omega))))) λe1=>?_;refine dY (λe=>wpS_pure (h _ (gallopOf st) h0.last (o0.last sa sb OE (by rw[beq_iff_eq] at e;omega)))) λe2=>?_;refine wpS_bind (wpS_get ?_);rw[beq_iff_eq] at e1 e2;refine wpS_bind (wpS_mono (wpS_forRange (I:=λi=>Sm key a b st i Jk) (Q:=Uv key a b st) ?step ?fin (.mk _ _ _ _ (gallopOf st) ⟨h0,!1,!1,!1⟩ o0 trivial)) ?post)
 case post =>
  rintro _ _ ⟨x,t,g',hx,hn⟩;exact wpS_pure (h _ _ hx hn)
 case fin =>
  rintro _ _ ⟨out,ia,ib,g,g',m,o,_⟩;have:=m.la;have:=m.lb;have:=m.up;omega
 case step =>
  rintro i _ _ _ hi ⟨out,ia,ib,g,g',m,o,_⟩;dsimp only;refine wpS_bind (wpS_mono (wpS_forRange (I:=λj=>Sm key a b st i λia ib=>0<j->i+1<ia+ib) (Q:=Sn key a b st (i+1)) ?s1 ?f1 (.mk _ _ _ _ _ m o (!1))) ?p1)
  case f1 =>
   rintro _ _ ⟨out,ia,ib,z,g',m,o,hp⟩;exact .nx _ _ _ _ _ ⟨m.lo,m.la,m.lb,hp (!1)⟩ o
  case s1 =>
   rintro j _ _ _ hj ⟨out,ia,ib,⟨ac,bc⟩,g',⟨lo,la,lb,up⟩,o,hp⟩;dsimp only;have Nv:ia<a.size:=by omega
   refine wpS_bind (eW lb (wpS_bind (eW Nv (wpS_bind (FH (hc _ (bi _) _ (bi _)).2 ?_)))));dsimp only;rw[<- ic (key:=key) lb,<- ic (key:=key) Nv];refine dY (λhw=>wpS_bind (eW lb ?_)) λhw=>wpS_bind (eW Nv ?_)
   .have hw:kA key b ib<kA key a ia:=of_decide_eq_true hw
    have o1:=o.b1 sb lb λj j1 j2=>bO (cH hw) (sa _ _ j1 j2);refine dY (λe=>wpS_pure (.rt _ _ _ _ _ _ (lo.b1 lb).done (o1.done sa sb (.inr (by rw[beq_iff_eq] at e;omega))))) λe=>?_;rw[beq_iff_eq] at e;refine dY (λ_=>wpS_pure (.nx _ _ _ _ _ ⟨lo.b1 lb,la,!1,!1⟩ o1)) λ_=>wpS_pure (.mk _ _ _ _ _ ⟨lo.b1 lb,la,!1,!1⟩ o1 (!1))
   .have hw:kA key a ia<=kA key b ib:=by have:¬ kA key b ib<kA key a ia:=λz=>hw (decide_eq_true z);omega
    have o1:=o.a1 sa Nv λj j1 j2=>bO hw (sb _ _ j1 j2);refine dY (λe=>wpS_pure (.rt _ _ _ _ _ _ (lo.a1 Nv).last (o1.last sa sb OE (by rw[beq_iff_eq] at e;omega)))) λe=>?_;rw[beq_iff_eq] at e;refine dY (λ_=>wpS_pure (.nx _ _ _ _ _ ⟨lo.a1 Nv,!1,!1,!1⟩ o1)) λ_=>wpS_pure (.mk _ _ _ _ _ ⟨lo.a1 Nv,!1,!1,!1⟩ o1 (!1))
  case p1 =>
   rintro _ _ (⟨out,ia,ib,⟨ac,bc⟩,g',m,o⟩ | ⟨x,out,ia,ib,t,g',hx,hn⟩)
   .dsimp only
    refine wpS_bind (wpS_lift (wpAny_rule ⟨rfl,?_⟩));refine wpS_bind (wpS_mono (wpS_forRange (I:=λ_=>Sm key a b st (i+1) Jk) (Q:=Sn key a b st (i+1)) ?s2 ?f2 (.mk _ _ _ _ _ m o trivial)) ?p2)
    case f2 =>
     rintro _ _ ⟨out,ia,ib,z,g',m,o,_⟩;exact .nx _ _ _ _ _ m o
    case p2 =>
     rintro _ _ (⟨out,ia,ib,⟨mg,ac,bc⟩,g',m,o⟩ | ⟨x,out,ia,ib,t,g',hx,hn⟩)
     .exact wpS_bind (C8 (wpS_pure (.mk _ _ _ _ _ m o trivial)))
     .exact wpS_pure (.mk _ _ _ hx hn)
    case s2 =>
     rintro j _ _ _ hj ⟨out,ia,ib,⟨mg,ac,bc⟩,g',m,o,_⟩;dsimp only;refine dY (λ_=>wpS_bind (C8 ?_)) λ_=>wpS_bind (C8 ?_)
     all_goals
      have hl:=m.la;have Sq:=m.lb;refine wpS_bind (eW m.lb (wpS_bind (ky (key:=key) (!1) (!1) (λx hx=>⟨(hc x hx _ (bi _)).2,(hc x hx _ (bi _)).1⟩) (λi j h1 h2=>sa _ _ (!1) (!1)) λk hk C' vp=>?_)));rw[<- ic (key:=key) m.lb] at C' vp;have g1:=V0 (P:=λi=>kA key a i<=kA key b ib) λj hj=>FK.mp (C' j hj);have g2:=V1 (P:=λi=>kA key b ib<=kA key a i) λj h1 h2=>cH (Ab.mp (vp j h1 h2));have oA:=o.as sa k λi i1 i2 i3 j j1 j2=>bO (g1 i i1 i2) (sb _ _ j1 j2);dsimp only;refine dY (λ_=>dY (λe=>wpS_pure (.rt _ _ _ _ _ _ (m.lo.as k).last (oA.last sa sb OE (by rw[beq_iff_eq] at e;omega)))) λe=>dY (λe'=>wpS_pure (.rt _ _ _ _ _ _ (m.lo.as k).done (oA.done sa sb (.inl (by rw[beq_iff_eq] at e';omega))))) λe'=>?_) λFO=>?_
      all_goals first
       | (replace m:=m.as hk e e';replace o:=oA)
       | (have FO:k=0:=(!1);subst FO;rw[cy] at g2)
      all_goals
       have Sq:=m.lb;have oB:=o.b1 sb m.lb λj j1 j2=>g2 j j1 j2;refine wpS_bind (eW m.lb (dY (λe=>wpS_pure (.rt _ _ _ _ _ _ (m.lo.b1 m.lb).done (oB.done sa sb (.inr (by rw[beq_iff_eq] at e;omega))))) λe=>?_));replace m:=m.b1 e;replace o:=oB;have Sq:=m.lb;have Xf:=m.lt;refine wpS_bind (eW m.lt (wpS_bind (ky (key:=key) (!1) (!1) (λx hx=>hc _ (bi _) x hx) (λi j h1 h2=>sb _ _ (!1) (!1)) λk' Bv Ra Rb=>?_)));rw[<- ic (key:=key) m.lt] at Ra Rb;have q3:=V0 (P:=λi=>kA key b i<_) λj hj=>FN.mp (Ra j hj);have oC:=o.bs sb k' λi i1 i2 i3 j j1 j2=>bO (cH (q3 i i1 i2)) (sa _ _ j1 j2);have g3:=V1 (P:=λi=>_<=kA key b i) λj h1 h2=>Ac.mp (Rb j h1 h2);dsimp only;refine dY (λ_=>dY (λe=>wpS_pure (.rt _ _ _ _ _ _ (m.lo.bs k').done (oC.done sa sb (.inr (by rw[beq_iff_eq] at e;omega))))) λe=>?_) λFO=>?_
       all_goals first
        | (replace m:=m.bs Bv e;replace o:=oC)
        | (have FO:k'=0:=(!1);subst FO;rw[cy] at g3)
       all_goals
        have Xf:=m.lt;have oD:=o.a1 sa m.lt λj j1 j2=>g3 j j1 j2;exact wpS_bind (eW m.lt (dY (λe=>wpS_pure (.rt _ _ _ _ _ _ (m.lo.a1 m.lt).last (oD.last sa sb OE (by rw[beq_iff_eq] at e;omega)))) λe=>dY (λ_=>wpS_pure (.nx _ _ _ _ _ (m.a1 e) oD)) λ_=>wpS_pure (.mk _ _ _ _ _ (m.a1 e) oD trivial)))
   .exact wpS_pure (.mk _ _ _ hx hn)
end
section
variable {prog:aV}{w:World}{A:Around}{E:ah->aw->Prop}{s:aw}{key:Keyed->Int}
structure tm (key:Keyed->Int) (a b out:Array Keyed) (na nb:Nat):Prop where
 FJ:Nd key out.toList.reverse
 ba:∀x∈out.toList,∀i,i<na->i<a.size->kA key a i<=key x
 bb:∀x∈out.toList,∀i,i<nb->i<b.size->kA key b i<=key x
section
theorem tm.as (h:tm key a b out na nb)(sa:Sk key a)(hk:k<=na)(lr:∀i,k<=i->i<na->i<a.size->∀j,j<nb->j<b.size->kA key b j<=kA key a i):tm key a b (out++(a.extract k na).reverse) k nb:=by
 refine⟨?_,λx hx i i1 i2=>?_,λx hx i i1 i2=>?_⟩
 .rw[aU,ci,List.reverse_append,List.reverse_reverse]
  refine j5 (lU sa _ _) h.FJ λx hx y hy=>?_;obtain⟨k,k1,k2,k3,e⟩:=gN (key:=key) hx;rw[e];exact h.ba y (dh.mp hy) k k2 k3
 all_goals
  rw[aU,ci] at hx;rcases aL.mp hx with hx | hx
 .exact h.ba x hx i (!1) i2
 .obtain⟨k,k1,k2,k3,e⟩:=gN (key:=key) (dh.mp hx)
  rw[e];exact sa _ _ (!1) k3
 .exact h.bb x hx i i1 i2
 .obtain⟨k,k1,k2,k3,e⟩:=gN (key:=key) (dh.mp hx)
  rw[e];exact lr k k1 k2 k3 i i1 i2
theorem tm.bs (h:tm key a b out na nb)(sb:Sk key b)(hk:k<=nb)(lr:∀i,k<=i->i<nb->i<b.size->∀j,j<na->j<a.size->kA key a j<=kA key b i):tm key a b (out++(b.extract k nb).reverse) na k:=by
 have:=tm.as (key:=key) (a:=b) (b:=a) (out:=out) (na:=nb) (nb:=na) ⟨h.FJ,h.bb,h.ba⟩ sb hk lr;exact⟨this.FJ,this.bb,this.ba⟩
theorem FP (out a:Array Keyed)(h0:0<n)(h:n - 1<a.size):out++(a.extract (n - 1) n).reverse=out.push a[n - 1]:=by
 have e:=z9 a h;rw[show n - 1+1=n by omega] at e;rw[e];simp
theorem tm.a1 (h:tm key a b out na nb)(sa:Sk key a)(h0:0<na)(hi:na - 1<a.size)(lr:∀j,j<nb->j<b.size->kA key b j<=kA key a (na - 1)):tm key a b (out.push a[na - 1]) (na - 1) nb:=by
 have:=h.as sa (Nat.sub_le na 1) λi i1 i2 i3 j j1 j2=>by rw[show i=na - 1 by omega];exact lr j j1 j2
 rwa [FP out a h0 hi] at this
theorem tm.b1 (h:tm key a b out na nb)(sb:Sk key b)(h0:0<nb)(hi:nb - 1<b.size)(lr:∀j,j<na->j<a.size->kA key a j<=kA key b (nb - 1)):tm key a b (out.push b[nb - 1]) na (nb - 1):=by
 have:=h.bs sb (Nat.sub_le nb 1) λi i1 i2 i3 j j1 j2=>by rw[show i=nb - 1 by omega];exact lr j j1 j2
 rwa [FP out b h0 hi] at this
theorem tm.done (h:tm key a b out na nb)(sa:Sk key a)(sb:Sk key b)(he:na=0\/nb=0):Nd key (a.extract 0 na++b.extract 0 nb++out.reverse).toList:=by
 rw[aU,aU,ci];refine j5 (j5 (lU sa _ _) (lU sb _ _) λx hx y hy=>?_) h.FJ λx hx y hy=>?_
 .obtain⟨k,k1,k2,k3,e⟩:=gN (key:=key) hx
  obtain⟨j,j1,j2,j3,_⟩:=gN (key:=key) hy;omega
 .have hy:=dh.mp hy
  rcases aL.mp hx with hx | hx
  .obtain⟨k,k1,k2,k3,e⟩:=gN (key:=key) hx
   rw[e];exact h.ba y hy k k2 k3
  .obtain⟨k,k1,k2,k3,e⟩:=gN (key:=key) hx
   rw[e];exact h.bb y hy k k2 k3
theorem tm.first (h:tm key a b out na nb)(sa:Sk key a)(sb:Sk key b)(DS:kA key b 0<=kA key a 0)(he:nb<=1):Nd key (b.extract 0 nb++a.extract 0 na++out.reverse).toList:=by
 rw[aU,aU,ci];refine j5 (j5 (lU sb _ _) (lU sa _ _) λx hx y hy=>?_) h.FJ λx hx y hy=>?_
 .obtain⟨k,k1,k2,k3,e⟩:=gN (key:=key) hx
  obtain⟨j,j1,j2,j3,e'⟩:=gN (key:=key) hy;rw[e,e',show k=0 by omega];exact bO DS (sa _ _ (bD _) j3)
 .have hy:=dh.mp hy
  rcases aL.mp hx with hx | hx
  .obtain⟨k,k1,k2,k3,e⟩:=gN (key:=key) hx
   rw[e];exact h.bb y hy k k2 k3
  .obtain⟨k,k1,k2,k3,e⟩:=gN (key:=key) hx
   rw[e];exact h.ba y hy k k2 k3
end
inductive Sr {γ:Type} (key:Keyed->Int) (a b:Array Keyed) (st:SortSt) (i:Nat) (P:Nat->Nat->Prop):Option (Array Keyed) × Nat × Nat × Array Keyed × γ->SortSt->Prop
 | mk (na nb:Nat) (out:Array Keyed) (z:γ) (g:Nat) (m:Mh a b i out na nb) (o:tm key a b out na nb) (p:P na nb):Sr key a b st i P (none,na,nb,out,z) (nF st g)
inductive Ss {γ:Type} (key:Keyed->Int) (a b:Array Keyed) (st:SortSt) (i:Nat):Option (Array Keyed) × Nat × Nat × Array Keyed × γ->SortSt->Prop
 | nx (na nb:Nat) (out:Array Keyed) (z:γ) (g:Nat) (m:Mh a b i out na nb) (o:tm key a b out na nb):Ss key a b st i (none,na,nb,out,z) (nF st g)
 | rt (x:Array Keyed) (na nb:Nat) (out:Array Keyed) (z:γ) (g:Nat) (h:x.toList.Perm (a.toList++b.toList)) (n:Nd key x.toList):Ss key a b st i (some x,na,nb,out,z) (nF st g)
theorem Dc {a b:Array Keyed}{st:SortSt}{Q:Array Keyed->SortSt->Prop}(ha:1<=a.size)(hb:1<=b.size)(hc:∀x∈a,∀y∈b,rP prog w A s key (kindOf st) x y/\rP prog w A s key (kindOf st) y x)
  (sa:Sk key a) (sb:Sk key b) (DS:kA key b 0<=kA key a 0) (OE:∀j,j<b.size->kA key b j<=kA key a (a.size - 1))
  (h:∀out g,out.toList.Perm (a.toList++b.toList)->Nd key out.toList->Q out (nF st g)):wpS (!10) A E s (FG a b) Q st:=by
 refine wpS_bind (wpS_lift (wpAny_rule ⟨rfl,?_⟩));refine wpS_bind (eW (!1) ?_)
 have h0:Hi a b #[a[a.size - 1]] (a.size - 1) b.size:=by
  have:=Hi.a1 (a:=a) (b:=b) (out:=#[]) (na:=a.size) (nb:=b.size) (by simp[Hi,bT]) (!1) (!1);simpa using this
 have o0:tm key a b #[a[a.size - 1]] (a.size - 1) b.size:=by
  have:=tm.a1 (key:=key) (a:=a) (b:=b) (out:=#[]) (na:=a.size) (nb:=b.size) ⟨!4,!4,!4⟩ sa (!1) (!1) λj j1 _=>OE j j1;simpa using this
 dsimp only;refine dY (λe=>wpS_pure (h _ (gallopOf st) h0.done (o0.done sa sb (.inl (by rw[beq_iff_eq] at e;omega))))) λe1=>?_;refine dY (λe=>wpS_pure (h _ (gallopOf st) h0.first (o0.first sa sb DS (by rw[beq_iff_eq] at e;omega)))) λe2=>?_;refine wpS_bind (wpS_get ?_);rw[beq_iff_eq] at e1 e2;refine wpS_bind (wpS_mono (wpS_forRange (I:=λi=>Sr key a b st i Jk) (Q:=Uv key a b st) ?step ?fin (.mk _ _ _ _ (gallopOf st) ⟨h0,!1,!1,!1,!1,!1⟩ o0 trivial)) ?post)
 case post =>
  rintro _ _ ⟨x,t,g',hx,hn⟩;exact wpS_pure (h _ _ hx hn)
 case fin =>
  rintro _ _ ⟨na,nb,out,g,g',m,o,_⟩;have:=m.up;omega
 case step =>
  rintro i _ _ _ hi ⟨na,nb,out,g,g',m,o,_⟩;dsimp only;refine wpS_bind (wpS_mono (wpS_forRange (I:=λj=>Sr key a b st i λna nb=>0<j->i+1+na+nb<a.size+b.size) (Q:=Ss key a b st (i+1)) ?s1 ?f1 (.mk _ _ _ _ _ m o (!1))) ?p1)
  case f1 =>
   rintro _ _ ⟨na,nb,out,z,g',m,o,hp⟩;exact .nx _ _ _ _ _ ⟨m.hi,m.la,m.lb,m.ua,m.ub,hp (!1)⟩ o
  case s1 =>
   rintro j _ _ _ hj ⟨na,nb,out,⟨ac,bc⟩,g',m,o,hp⟩;dsimp only;have:=m.la;have:=m.lb;have:=m.up;refine wpS_bind (eW m.xb (wpS_bind (eW m.xa (wpS_bind (FH (hc _ (bi _) _ (bi _)).2 ?_)))));dsimp only;rw[<- ic (key:=key) m.xb,<- ic (key:=key) m.xa];refine dY (λhw=>wpS_bind (eW m.xa ?_)) λhw=>wpS_bind (eW m.xb ?_)
   .have hw:kA key b (nb - 1)<kA key a (na - 1):=of_decide_eq_true hw
    have o1:=o.a1 sa m.la m.xa λj j1 j2=>bO (sb _ _ (!1) m.xb) (cH hw);refine dY (λe=>wpS_pure (.rt _ _ _ _ _ _ (m.hi.a1 m.la m.xa).done (o1.done sa sb (.inl (by rw[beq_iff_eq] at e;omega))))) λe=>?_;have m1:=m.a1 e;refine dY (λ_=>wpS_pure (.nx _ _ _ _ _ ⟨m1.hi,m1.la,m1.lb,m1.ua,m1.ub,!1⟩ o1)) λ_=>wpS_pure (.mk _ _ _ _ _ m1 o1 (!1))
   .have hw:kA key a (na - 1)<=kA key b (nb - 1):=by have:¬ kA key b (nb - 1)<kA key a (na - 1):=λz=>hw (decide_eq_true z);omega
    have o1:=o.b1 sb (!1) m.xb λj j1 j2=>bO (sa _ _ (!1) m.xa) hw;refine dY (λe=>wpS_pure (.rt _ _ _ _ _ _ (m.hi.b1 (!1) m.xb).first (o1.first sa sb DS (by rw[beq_iff_eq] at e;omega)))) λe=>?_;have m1:=m.b1 e;refine dY (λ_=>wpS_pure (.nx _ _ _ _ _ ⟨m1.hi,m1.la,m1.lb,m1.ua,m1.ub,!1⟩ o1)) λ_=>wpS_pure (.mk _ _ _ _ _ m1 o1 (!1))
  case p1 =>
   rintro _ _ (⟨na,nb,out,⟨ac,bc⟩,g',m,o⟩ | ⟨x,na,nb,out,t,g',hx,hn⟩)
   .dsimp only
    refine wpS_bind (wpS_lift (wpAny_rule ⟨rfl,?_⟩));refine wpS_bind (wpS_mono (wpS_forRange (I:=λ_=>Sr key a b st (i+1) Jk) (Q:=Ss key a b st (i+1)) ?s2 ?f2 (.mk _ _ _ _ _ m o trivial)) ?p2)
    case f2 =>
     rintro _ _ ⟨na,nb,out,z,g',m,o,_⟩;exact .nx _ _ _ _ _ m o
    case p2 =>
     rintro _ _ (⟨na,nb,out,⟨mg,ac,bc⟩,g',m,o⟩ | ⟨x,na,nb,out,t,g',hx,hn⟩)
     .exact wpS_bind (C8 (wpS_pure (.mk _ _ _ _ _ m o trivial)))
     .exact wpS_pure (.mk _ _ _ hx hn)
    case s2 =>
     rintro j _ _ _ hj ⟨na,nb,out,⟨mg,ac,bc⟩,g',m,o,_⟩;dsimp only;refine dY (λ_=>wpS_bind (C8 ?_)) λ_=>wpS_bind (C8 ?_)
     all_goals
      have h1:=m.la;have h2:=m.ua;have h5:=m.ub;refine wpS_bind (eW m.xb (wpS_bind (ky (key:=key) (!1) (!1) (λx hx=>⟨(hc x hx _ (bi _)).2,(hc x hx _ (bi _)).1⟩) (λi j q1 q2=>sa _ _ (!1) (!1)) λk hk C' vp=>?_)));rw[<- ic (key:=key) m.xb] at C' vp
      have g1:∀i,i<k->kA key a i<=kA key b (nb - 1):=λi i1=>by
       have:=FK.mp (C' i i1);rwa [dG] at this
      have g2:∀i,k<=i->i<na->kA key b (nb - 1)<=kA key a i:=λi i1 i2=>by
       have:=Ab.mp (vp i i1 i2);rw[dG] at this;omega
      have Xg:=m.xb;have oA:=o.as sa hk λi i1 i2 i3 j j1 j2=>bO (sb _ _ (!1) Xg) (g2 i i1 i2);dsimp only;refine dY (λ_=>dY (λe=>wpS_pure (.rt _ _ _ _ _ _ (m.hi.as hk).done (oA.done sa sb (.inl (by rw[beq_iff_eq] at e;omega))))) λe=>?_) λFO=>?_
      all_goals first
       | (replace m:=m.as hk e;replace o:=oA)
       | (have FO:k=na:=(!1);subst FO)
      all_goals
       have h3:=m.lb;have oB:=o.b1 sb (!1) m.xb λj j1 j2=>g1 j j1;refine wpS_bind (eW m.xb (dY (λe=>wpS_pure (.rt _ _ _ _ _ _ (m.hi.b1 (!1) m.xb).first (oB.first sa sb DS (by rw[beq_iff_eq] at e;omega)))) λe=>?_));replace m:=m.b1 e;replace o:=oB;have h4:=m.lb;have h5:=m.ub;have h6:=m.la;have h7:=m.ua;refine wpS_bind (eW m.xa (wpS_bind (ky (key:=key) (!1) (!1) (λx hx=>hc _ (bi _) x hx) (λi j q1 q2=>sb _ _ (!1) (!1)) λk' Bv Ra Rb=>?_)));rw[<- ic (key:=key) m.xa] at Ra Rb
       have g3:∀i,i<k'->kA key b i<=_:=λi i1=>by
        have:=FN.mp (Ra i i1);rw[dG] at this;exact cH this
       have Xh:=m.xa
       have oC:=o.bs sb Bv λi i1 i2 i3 j j1 j2=>by
        have:=Ac.mp (Rb i i1 i2);rw[dG] at this;exact bO (sa _ _ (!1) Xh) this
       dsimp only;refine dY (λ_=>dY (λe=>wpS_pure (.rt _ _ _ _ _ _ (m.hi.bs Bv).first (oC.first sa sb DS (by rw[beq_iff_eq] at e;omega)))) λe=>dY (λe'=>wpS_pure (.rt _ _ _ _ _ _ (m.hi.bs Bv).done (oC.done sa sb (.inr (by rw[beq_iff_eq] at e';omega))))) λe'=>?_) λFO=>?_
       all_goals first
        | (replace m:=m.bs Bv e e';replace o:=oC)
        | (have FO:k'=_:=Nat.le_antisymm Bv (!1);subst FO)
       all_goals
        have oD:=o.a1 sa m.la m.xa λj j1 j2=>g3 j j1;exact wpS_bind (eW m.xa (dY (λe=>wpS_pure (.rt _ _ _ _ _ _ (m.hi.a1 m.la m.xa).done (oD.done sa sb (.inl (by rw[beq_iff_eq] at e;omega))))) λe=>dY (λ_=>wpS_pure (.nx _ _ _ _ _ (m.a1 e) oD)) λ_=>wpS_pure (.mk _ _ _ _ _ (m.a1 e) oD trivial)))
   .exact wpS_pure (.mk _ _ _ hx hn)
end
section
variable {prog:aV}{w:World}{A:Around}{E:ah->aw->Prop}{s:aw}{a₀:Array Keyed}{κ:SortKind}{key:Keyed->Int}
noncomputable def Sg (key:Keyed->Int)(xs:Array Keyed)(lo hi:Nat):Prop:=∀i j,lo<=i->i<=j->j<hi->kA key xs i<=kA key xs j
noncomputable def Dg (key:Keyed->Int)(xs:Array Keyed)(lo hi:Nat):Prop:=∀i j,lo<=i->i<=j->j<hi->kA key xs j<=kA key xs i
theorem Sg.more {xs:Array Keyed}{lo m:Nat}(h:Sg key xs lo m)(h1:lo<m)(h2:kA key xs (m - 1)<=kA key xs m):Sg key xs lo (m+1):=λi j i1 i2 i3=>by
 by_cases hj:j=m
 .subst hj
  by_cases hi:i=j
  .subst hi;exact bF _
  .exact bO (h i (j - 1) i1 (!1) (!1)) h2
 .exact h i j i1 i2 (!1)
theorem Dg.more {xs:Array Keyed}{lo m:Nat}(h:Dg key xs lo m)(h1:lo<m)(h2:kA key xs m<=kA key xs (m - 1)):Dg key xs lo (m+1):=λi j i1 i2 i3=>by
 by_cases hj:j=m
 .subst hj
  by_cases hi:i=j
  .subst hi;exact bF _
  .exact bO h2 (h i (j - 1) i1 (!1) (!1))
 .exact h i j i1 i2 (!1)
theorem Sg.one (xs:Array Keyed)(lo:Nat):Sg key xs lo (lo+1):=λi j i1 i2 i3=>by rw[show i=j by omega];exact bF _
theorem Sg.Ad {xs ys:Array Keyed}{lo hi:Nat}(h:Sg key xs lo hi)(e:∀i,lo<=i->i<hi->kA key ys i=kA key xs i):Sg key ys lo hi:=λi j i1 i2 i3=>by
 rw[e i i1 (!1),e j (!1) i3];exact h i j i1 i2 i3
theorem Dg.Ad {xs ys:Array Keyed}{lo hi:Nat}(h:Dg key xs lo hi)(e:∀i,lo<=i->i<hi->kA key ys i=kA key xs i):Dg key ys lo hi:=λi j i1 i2 i3=>by
 rw[e i i1 (!1),e j (!1) i3];exact h i j i1 i2 i3
theorem Ch.within:∀{l:List Run} {lo hi:Nat},Ch lo l hi->lo<=hi/\∀r∈l,lo<=r.1/\r.1+r.2.1<=hi
 | [],lo,hi,h=>⟨Nat.le_of_eq h,!4⟩
 | (s,n,p)::l,lo,hi,h=>by
  obtain⟨rfl,h1,h2⟩:=h;obtain⟨h3,h4⟩:=Ch.within h2;refine⟨!1,λr hr=>?_⟩;rcases ax.mp hr with rfl | hr
  .exact⟨ap _,h3⟩
  .have:=h4 r hr
   omega
structure So (key:Keyed->Int) (a₀:Array Keyed) (κ:SortKind) (hi:Nat) (st:SortSt):Prop where
 sb:Sb a₀ κ hi st
 seg:∀r∈(pendingOf st).toList,Sg key (!15) r.1 (r.1+r.2.1)
theorem So.arr {st:SortSt}{hi:Nat}(h:So key a₀ κ hi st){xs:Array Keyed}(hp:xs.Perm (!15))(e:∀i,i<hi->kA key xs i=kA key (!15) i):So key a₀ κ hi (setArr st xs) :=
 ⟨h.sb.arr hp,λr hr=>(h.seg r hr).Ad λi i1 i2=>e i (by have:=(Ch.within h.sb.ch).2 r hr;omega)⟩
noncomputable def Call3 (prog:aV)(w:World)(A:Around)(s:aw)(key:Keyed->Int)(κ:SortKind)(a₀:Array Keyed):Prop:=∀x∈a₀,∀y∈a₀,rP prog w A s key κ x y
theorem So.cmp {st:SortSt}{hi:Nat}(h:So key a₀ κ hi st)(hc:Call3 prog w A s key κ a₀){x y:Keyed}(hx:x∈arrOf st)(hy:y∈arrOf st):rP prog w A s key (kindOf st) x y:=by
 rw[h.sb.kind];exact hc x (h.sb.perm.mem_iff.mp hx) y (h.sb.perm.mem_iff.mp hy)
theorem So.lt {st:SortSt}{hi i j:Nat}{Q:Option Bool->SortSt->Prop}(h:So key a₀ κ hi st)(hc:Call3 prog w A s key κ a₀)(hi:i<a₀.size)(hj:j<a₀.size)(q:Q (some (decide (kA key (!15) i<kA key (!15) j))) st):wpS (!10) A E s (ltAt' i j) Q st:=by
 rw[ltAt'_eq];have e:=h.sb.size;rw[ic (!1),ic (!1)] at q;refine wpS_bind (wpS_get (wpS_bind (eW (!1) (wpS_bind (eW (!1) (FH ?_ q))))));exact h.cmp hc (bi _) (bi _)
theorem FQ {α:Type}{r:Option α}{lo n lA hi:Nat}{st:SortSt}{f:Nat->Option α × Nat->StateT SortSt Sem (ForInStep (Option α × Nat))}{Q:Option α × Nat->SortSt->Prop}(h:So key a₀ κ hi st)(hc:Call3 prog w A s key κ a₀)(hl:lo+lA<=a₀.size)(h1:1<=n)(hn:n<=lA)(hs:Sg key (!15) lo (lo+n))
  (hf:∀i m,f i (none,m)=ltAt' (lo+m) (lo+m - 1) >>= λx=>match x with | some b=>if b=true then pure (ForInStep.done (none,m)) else pure (ForInStep.yield (none,m+1)) | none=>pure (ForInStep.done (r,m)))
  (q:∀m,n<=m->m<=lA->Sg key (!15) lo (lo+m)->(m<lA->kA key (!15) (lo+m)<kA key (!15) (lo+m - 1))->Q (none,m) st):wpS (!10) A E s (forIn [n:lA] ((none,n):Option α × Nat) f) Q st:=by
 refine wpS_forRange (I:=λx c eK=>eK=st/\c=(none,x)/\Sg key (!15) lo (lo+x)) ?_ ?_ ⟨rfl,rfl,hs⟩
 .rintro x _ st a1 a2 ⟨rfl,rfl,hx⟩
  rw[hf];refine wpS_bind (h.lt hc (!1) (!1) ?_);by_cases gh:kA key (!15) (lo+x)<kA key (!15) (lo+x - 1)
  .rw[decide_eq_true gh]
   exact wpS_pure (q _ a1 (!1) hx λ_=>gh)
  .rw[decide_eq_false gh]
   exact wpS_pure ⟨rfl,rfl,hx.more (!1) (!1)⟩
 .rintro _ st ⟨rfl,rfl,hx⟩
  rw[show max n lA=lA by omega] at hx ⊢;exact q _ hn (ap _) hx λz=>absurd z (bM _)
theorem xY {i j lo:Nat}{st:SortSt}{Q:Unit->SortSt->Prop}(h:So key a₀ κ lo st)(hi:lo<=i)(hj:j<=a₀.size)(q:∀eK,So key a₀ κ lo eK->(∀k,kA key (!26) k=if i<=k/\k<j then kA key (!15) (i+j - 1 - k) else kA key (!15) k)->Q () eK):wpS (!10) A E s (reverseSlice' i j) Q st:=by
 rw[reverseSlice'_eq]
 have e:∀k,kA key (mirror (!15) i j ((j - i) / 2)) k=if i<=k/\k<j then kA key (!15) (i+j - 1 - k) else kA key (!15) k:=λk=>by
  have:=getElem?_mirror_all (xs:=arrOf st) (i:=i) (j:=j) (by rw[h.sb.size];exact hj) k;unfold kA;rw[this];by_cases hk:i<=k/\k<j
  .rw[if_pos hk,if_pos hk]
  .rw[if_neg hk,if_neg hk]
 refine wpS_modify (q _ (h.arr (mirror_perm _ _ _ _) λk hk=>?_) e);rw[e,if_neg (!1)]
theorem Ae {lo lA:Nat}{st:SortSt}{Q:Option Nat->SortSt->Prop}(h:So key a₀ κ lo st)(hc:Call3 prog w A s key κ a₀)(hl:lo+lA<=a₀.size)(h1:1<=lA)
  (q:∀m eK,So key a₀ κ lo eK->1<=m->m<=lA->Sg key (!26) lo (lo+m)->Q (some m) eK):wpS (!10) A E s (countRun' lo lA) Q st:=by
 rw[countRun'_eq];refine wpS_bind (FQ (r:=some none) h hc hl (ap 1) h1 (Sg.one _ _) (λi m=>bind_congr λx=>by cases x<;>rfl) λm m1 m2 hs Uw=>?_);dsimp only;refine dY (λ_=>wpS_pure (q _ _ h m1 m2 hs)) λe=>?_;rw[beq_iff_eq] at e;have Uw:=Uw (!1)
 have go:∀eK,So key a₀ κ lo eK->Dg key (!26) lo (lo+(m+1))->∀{f:Nat->Option (Option Nat) × Nat × Nat->StateT SortSt Sem (ForInStep (Option (Option Nat) × Nat × Nat))},
   (∀x wG eK (Q:ForInStep (Option (Option Nat) × Nat × Nat)->SortSt->Prop),So key a₀ κ lo eK->m+1<=x->x<lA->wG<x->(∀i,lo+x - (wG+1)<=i->i<lo+x->kA key (!26) i=kA key (!26) (lo+x - 1)) ->
    (kA key (!26) (lo+x)<kA key (!26) (lo+x - 1)->∀Jl,So key a₀ κ lo Jl->(∀k,kA key (arrOf Jl) k=kA key (!26) k)->Q (.yield (none,x+1,0)) Jl) ->
    (kA key (!26) (lo+x - 1)<kA key (!26) (lo+x)->Q (.done (none,x,wG)) eK)->(kA key (!26) (lo+x)=kA key (!26) (lo+x - 1)->Q (.yield (none,x+1,wG+1)) eK)->wpS (!10) A E s (f x (none,x,wG)) Q eK) ->
   wpS (!10) A E s (forIn [m+1:lA] ((none,m+1,0):Option (Option Nat) × Nat × Nat) f) (λc eK=>∃x wG,c=(none,x,wG)/\m+1<=x/\x<=lA/\So key a₀ κ lo eK/\Dg key (!26) lo (lo+x)/\wG<x/\∀i,lo+x - (wG+1)<=i->i<lo+x->kA key (!26) i=kA key (!26) (lo+x - 1)) eK:=λeK h hd f hf=>by
  refine wpS_forRange (I:=λx c eK=>∃wG,c=(none,x,wG)/\m+1<=x/\x<=lA/\So key a₀ κ lo eK/\Dg key (!26) lo (lo+x)/\wG<x/\∀i,lo+x - (wG+1)<=i->i<lo+x->kA key (!26) i=kA key (!26) (lo+x - 1)) ?_ ?_ ⟨_,rfl,ap _,!1,h,hd,!1,λi i1 i2=>by rw[show i=lo+(m+1) - 1 by omega]⟩
  .rintro x _ st a1 a2 ⟨wG,rfl,b1,b2,h,hd,b3,b4⟩
   refine hf x wG st _ h b1 a2 b3 b4 (λgh Jl h2 e2=>⟨_,rfl,!1,!1,h2,?_,!1,λi i1 i2=>by rw[show i=lo+(x+1) - 1 by omega]⟩) (λgh=>⟨_,_,rfl,b1,b2,h,hd,b3,b4⟩) λXi=>⟨_,rfl,!1,!1,h,Dg.more (m:=lo+x) hd (!1) (!1),!1,λi i1 i2=>?_⟩
   .refine Dg.Ad (Dg.more (m:=lo+x) hd (!1) (!1)) λi _ _=>e2 i
   .by_cases hi:i=lo+x
    .rw[hi];rfl
    .rw[b4 i (!1) (!1),<- Xi];rfl
  .rintro _ st ⟨wG,rfl,b1,b2,h,hd,b3,b4⟩
   rw[show max (m+1) lA=lA by omega] at *;exact⟨_,_,rfl,b1,b2,h,hd,b3,b4⟩
 have hD:∀eK,So key a₀ κ lo eK->(∀k,kA key (!26) k=kA key (!15) k)->(m > 1->¬ kA key (!15) lo<kA key (!15) (lo+m - 1))->Dg key (!26) lo (lo+(m+1)):=λeK _ e2 hr=>by
  refine Dg.Ad (Dg.more (m:=lo+m) (λi j i1 i2 i3=>?_) (!1) (cH Uw)) λi _ _=>e2 i;by_cases hm:m > 1
  .have:=hr hm
   have a:=hs lo i (ap _) i1 (!1);have b:=hs j (lo+m - 1) (!1) (!1) (!1);omega
  .rw[show i=j by omega];exact bF _
 refine dY (λhm=>wpS_bind (h.lt hc (!1) (!1) (dY (λ_=>wpS_pure (q _ _ h m1 m2 hs)) λhr=>wpS_bind (xY h (ap _) (!1) λHB h2 e2=>?_)))) λhm=>?_;have hr:¬ kA key (!15) lo<kA key (!15) (lo+m - 1):=λz=>hr (decide_eq_true z)
 have e2:∀k,kA key (arrOf HB) k=kA key (!15) k:=λk=>by
  rw[e2];split
  .rename_i hk
   have a1:=hs lo k (ap _) hk.1 (!1);have a2:=hs k (lo+m - 1) (!1) (!1) (!1);have a3:=hs lo (lo+(lo+m) - 1 - k) (ap _) (!1) (!1);have a4:=hs (lo+(lo+m) - 1 - k) (lo+m - 1) (!1) (!1) (!1);omega
  .rfl
 have hd:=hD HB h2 e2 λ_=>hr;clear e2;generalize HB=st at h2 hd ⊢;replace h:=h2
 rotate_left
 have hd:=hD st h (λk=>rfl) λz=>absurd z hm
 all_goals
  refine wpS_bind (wpS_lift (wpAny_rule ⟨rfl,wpS_bind (wpS_mono (go st h hd ?_) ?_)⟩))
  .intro x wG eK Q h c1 c2 c3 c4 k1 k2 k3
   dsimp only;refine wpS_bind (h.lt hc (!1) (!1) (dY (λhw=>?_) λhw=>wpS_bind (h.lt hc (!1) (!1) (dY (λUx=>wpS_pure (k2 (of_decide_eq_true Ux))) λUx=>wpS_pure (k3 ?_)))))
   .have hw:=of_decide_eq_true hw
    refine dY (λhq=>wpS_bind (xY h (!1) (!1) λzj h3 e3=>wpS_pure (k1 hw zj h3 λk=>?_))) λhq=>wpS_pure (k1 hw eK h λk=>rfl);rw[e3];split
    .rw[c4 k (!1) (!1),c4 _ (!1) (!1)]
    .rfl
   .have:¬ kA key (!26) (lo+x)<kA key (!26) (lo+x - 1):=λz=>hw (decide_eq_true z)
    have:¬ kA key (!26) (lo+x - 1)<kA key (!26) (lo+x):=λz=>Ux (decide_eq_true z);omega
  .rintro _ st ⟨x,wG,rfl,x1,x2,h,hd,c3,c4⟩
   dsimp only;refine dY (λ_=>wpS_bind (xY h (!1) (!1) λzj h3 e3=>wpS_bind (xY h3 (ap _) (!1) λXj h4 e4=>?_))) λ_=>wpS_bind (xY h (ap _) (!1) λXj h4 e4=>?_)
   .have e3:∀k,kA key (arrOf zj) k=kA key (!15) k:=λk=>by
     rw[e3];split
     .rw[c4 k (!1) (!1),c4 _ (!1) (!1)]
     .rfl
    refine wpS_bind (FQ (r:=some none) h4 hc hl (!1) x2 (λi j i1 i2 i3=>?_) (λi m=>bind_congr λx=>by cases x<;>rfl) λm m1 m2 hs _=>wpS_pure (q _ _ h4 (!1) m2 hs));rw[e4,e4,if_pos ⟨!1,!1⟩,if_pos ⟨!1,!1⟩,e3,e3];exact hd _ _ (!1) (!1) (!1)
   .refine wpS_bind (FQ (r:=some none) h4 hc hl (!1) x2 (λi j i1 i2 i3=>?_) (λi m=>bind_congr λx=>by cases x<;>rfl) λm m1 m2 hs _=>wpS_pure (q _ _ h4 (!1) m2 hs))
    rw[e4,e4,if_pos ⟨!1,!1⟩,if_pos ⟨!1,!1⟩];exact hd _ _ (!1) (!1) (!1)
end
section
variable {prog:aV}{w:World}{A:Around}{E:ah->aw->Prop}{s:aw}{a₀:Array Keyed}{κ:SortKind}{key:Keyed->Int}
theorem Dd (hs:src<xs.size)(hd:d<=src)(k:Nat):kA key (bubble xs src d) k=if k=src - d then kA key xs src else if src - d<k/\k<=src then kA key xs (k - 1) else kA key xs k:=by
 have e:=getElem?_bubble hs d hd k;unfold kA;rw[e];by_cases h1:k=src - d
 .rw[if_pos h1,if_pos h1]
 .rw[if_neg h1,if_neg h1]
  by_cases h2:src - d<k/\k<=src
  .rw[if_pos h2,if_pos h2]
  .rw[if_neg h2,if_neg h2]
theorem vR {lo n ok:Nat}{st:SortSt}{Q:Bool->SortSt->Prop}(h:So key a₀ κ lo st)(hc:Call3 prog w A s key κ a₀)(hl:lo+n<=a₀.size)(h1:1<=ok)(h2:ok<=n)(hs:Sg key (!15) lo (lo+ok))(q:∀eK,So key a₀ κ lo eK->Sg key (!26) lo (lo+n)->Q true eK):wpS (!10) A E s (binarySort' lo n ok) Q st:=by
 rw[binarySort'_eq];refine wpS_bind (wpS_mono (wpS_forRange (I:=λk c eK=>c=(none,())/\So key a₀ κ lo eK/\Sg key (!26) lo (lo+k)) (Q:=λc eK=>c=(none,())/\So key a₀ κ lo eK/\Sg key (!26) lo (lo+n)) ?_ ?_ ⟨rfl,h,by rw[show max ok 1=ok by omega];exact hs⟩) ?_)
 .rintro k _ st a1 a2 ⟨rfl,h,hs⟩
  have sz:=h.sb.size;dsimp only;refine wpS_bind (wpS_mono (wpS_forRange (I:=λi c eK=>eK=st/\∃l r,c=(none,l,r)/\l<=r/\r<=k/\(∀i,i<l->kA key (!15) (lo+i)<=kA key (!15) (lo+k))/\(∀i,r<=i->i<k->kA key (!15) (lo+k)<=kA key (!15) (lo+i))/\r<=l+(k - i)) (Q:=λc eK=>eK=st/\∃l r,c=(none,l,r)/\l=r/\r<=k/\(∀i,i<l->kA key (!15) (lo+i)<=kA key (!15) (lo+k))/\(∀i,r<=i->i<k->kA key (!15) (lo+k)<=kA key (!15) (lo+i))) ?_ ?_ ⟨rfl,_,_,rfl,bD _,ap _,λi hi=>by omega,λi i1 i2=>by omega,!1⟩) ?_)
  .rintro i _ eK b1 b2 ⟨rfl,l,r,rfl,c1,c2,c3,c4,c5⟩
   dsimp only;refine dY (λe=>wpS_pure ⟨rfl,_,_,rfl,!1,c2,c3,c4⟩) λe=>wpS_bind (h.lt hc (!1) (!1) ?_);generalize hm:(l+r) / 2=m;dsimp only;by_cases gh:kA key (!26) (lo+k)<kA key (!26) (lo+m)
   .rw[decide_eq_true gh,if_pos rfl]
    exact wpS_pure ⟨rfl,_,_,rfl,!1,!1,c3,λi i1 i2=>bO (cH gh) (hs _ _ (!1) (!1) (!1)),!1⟩
   .rw[decide_eq_false gh,if_neg (!2)]
    exact wpS_pure ⟨rfl,_,_,rfl,!1,c2,λi i1=>bO (hs _ (lo+m) (!1) (!1) (!1)) (!1),c4,!1⟩
  .rintro _ eK ⟨rfl,l,r,rfl,c1,c2,c3,c4,c5⟩
   exact⟨rfl,_,_,rfl,!1,c2,c3,c4⟩
  .rintro _ eK ⟨rfl,l,r,rfl,rfl,c2,c3,c4⟩
   dsimp only;rw[moveDown'_eq];have e:=Dd (key:=key) (xs:=arrOf eK) (src:=lo+k) (d:=lo+k - (lo+l)) (!1) (!1);rw[show lo+k - (lo+k - (lo+l))=lo+l by omega] at e;refine wpS_bind (wpS_modify (wpS_pure ⟨rfl,h.arr (bubble_perm _ _ _) λi hi=>?_,λi j i1 i2 i3=>?_⟩))
   .rw[e,if_neg (!1),if_neg (!1)]
   .show kA key (bubble (!26) (lo+k) (lo+k - (lo+l))) i<=kA key (bubble (!26) (lo+k) (lo+k - (lo+l))) j
    rw[e,e];by_cases x1:i=lo+l
    .rw[if_pos x1]
     by_cases y1:j=lo+l
     .rw[if_pos y1];exact bF _
     .rw[if_neg y1,if_pos ⟨!1,!1⟩]
      have:=c4 (j - 1 - lo) (!1) (!1);rwa [show lo+(j - 1 - lo)=j - 1 by omega] at this
    .rw[if_neg x1]
     by_cases x2:lo+l<i/\i<=lo+k
     .rw[if_pos x2,if_neg (!1),if_pos ⟨!1,!1⟩]
      exact hs _ _ (!1) (!1) (!1)
     .rw[if_neg x2]
      have hi:i<lo+l:=by omega
      by_cases y1:j=lo+l
      .rw[if_pos y1]
       have:=c3 (i - lo) (!1);rwa [show lo+(i - lo)=i by omega] at this
      .rw[if_neg y1]
       by_cases y2:lo+l<j/\j<=lo+k
       .rw[if_pos y2]
        exact hs _ _ (!1) (!1) (!1)
       .rw[if_neg y2]
        exact hs _ _ (!1) (!1) (!1)
 .rintro _ st ⟨rfl,h,hs⟩
  rw[show max (max ok 1) n=n by omega] at hs;exact⟨rfl,h,hs⟩
 .rintro _ st ⟨rfl,h,hs⟩
  exact wpS_pure (q _ h hs)
theorem Ch.two:∀{l m:List Run} {lo hi:Nat},Ch lo (l++m) hi->∃mid,Ch lo l mid/\Ch mid m hi
 | [],m,lo,hi,h=>⟨lo,rfl,h⟩
 | (s,n,p)::l,m,lo,hi,h=>by
  obtain⟨rfl,h1,h2⟩:=h;obtain⟨mid,h3,h4⟩:=Ch.two h2;exact⟨mid,⟨rfl,h1,h3⟩,h4⟩
theorem Nw (h:ys.toList=xs.toList.take f++l++xs.toList.drop (f+l.length))(hf:f+l.length<=xs.size):(∀i,i<f\/f+l.length<=i->kA key ys i=kA key xs i)/\∀i (hi:i<l.length),kA key ys (f+i)=key l[i]:=by
 have ht:(xs.toList.take f).length=f:=by rw[bY,bj];omega
 have e:∀i,ys[i]? = (xs.toList.take f++l++xs.toList.drop (f+l.length))[i]? := λi=>by rw[<- h,ck]
 refine⟨λi hi=>?_,λi hi=>?_⟩
 .unfold kA
  rw[e]
  have:(xs.toList.take f++l++xs.toList.drop (f+l.length))[i]? = xs[i]? := by
   rcases hi with hi | hi
   .rw[aJ,bE (!1),List.getElem?_take,if_pos hi,ck]
   .rw[bJ (by rw[aH,ht];exact hi),aH,ht,List.getElem?_drop,ck]
    congr 1;omega
  rw[this]
 .unfold kA
  rw[e,aJ,bJ (!1),ht,show f+i - f=i by omega,bE hi,aK hi]
theorem Li {xs:Array Keyed}{lo hi:Nat}(h:Sg key xs lo hi)(hh:hi<=xs.size){i j:Nat}(Uy:lo<=i)(hj:j<=hi):Sk key (xs.extract i j):=λp q h1 h2=>by
 rw[br] at h2
 have e:∀p,p<(xs.extract i j).size->kA key (xs.extract i j) p=kA key xs (i+p):=λp hp=>by
  rw[br] at hp;rw[ic (by rw[br];omega),cw,ic (!1)]
 rw[e p (by rw[br];omega),e q (by rw[br];omega)];exact h _ _ (!1) (!1) (!1)
theorem BP (hp:p<j - i)(hj:j<=xs.size):kA key (xs.extract i j) p=kA key xs (i+p):=by
 rw[ic (by rw[br];omega),cw,ic (!1)]
theorem ux {i hi:Nat}{st:SortSt}{Q:Bool->SortSt->Prop}(h:So key a₀ κ hi st)(hc:Call3 prog w A s key κ a₀)(hl:i+1<(pendingOf st).size)(q:∀eK,So key a₀ κ hi eK->(pendingOf eK).size+1=(pendingOf st).size->(∀i,hi<=i->kA key (!26) i=kA key (!15) i)->Q true eK):wpS (!10) A E s (mergeAt' i) Q st:=by
 obtain⟨pre,sa,na,p,nb,p2,post,e,rfl,b1,b2,b3,b4,b5⟩:=Ch.split h.sb.ch (by simpa using hl);refine wpS_bind (wpS_get ?_);have g1:(pendingOf st)[pre.length]? = some (sa,na,p):=by rw[<- ck,e];simp
 have g2:(pendingOf st)[pre.length+1]? = some (sa+na,nb,p2):=by rw[<- ck,e];simp[List.getElem?_append]
 have g3:(((pendingOf st).setIfInBounds pre.length (sa,na+nb,p)).eraseIdxIfInBounds (pre.length+1)).toList=pre++(sa,na+nb,p)::post:=by
  rw[Array.toList_eraseIdxIfInBounds,Array.toList_setIfInBounds,e];rw[List.set_append_right _ _ (ap _),Nat.sub_self,aC,List.eraseIdx_append_of_length_le (!1),c8];rfl
 rw[g1,g2];refine wpS_bind (Jj ?_);generalize ((pendingOf st).setIfInBounds pre.length (sa,na+nb,p)).eraseIdxIfInBounds (pre.length+1)=pd at g3 ⊢
 have hsz:pd.size+1=(pendingOf st).size:=by
  have x1:=congrArg List.length g3;have x2:=congrArg List.length e;simp only[bj,aH,av] at x1 x2;omega
 have Uz:Sb a₀ κ hi (setPending st pd):=⟨h.sb.perm,h.sb.kind,h.sb.failed,by show Ch 0 pd.toList hi;rw[g3];exact b5 p,h.sb.le⟩;have sz:=h.sb.size;have le:=h.sb.le;have sA:Sg key (!15) sa (sa+na):=h.seg (sa,na,p) (by rw[e];simp);have sB:Sg key (!15) (sa+na) (sa+na+nb):=h.seg (sa+na,nb,p2) (by rw[e];simp)
 have CH:∀r∈pre,r.1+r.2.1<=sa:=λr hr=>by
  have:=h.sb.ch;rw[e] at this;obtain⟨mid,c1,c2⟩:=Ch.two this;have:=(Ch.within c1).2 r hr;have:=c2.1;omega
 have Rf:∀r∈post,sa+na+nb<=r.1:=λr hr=>by
  have:=h.sb.ch;rw[e] at this;obtain⟨mid,c1,c2⟩:=Ch.two this;have:=(Ch.within c2.2.2.2.2).2 r hr;have:=c2.1;omega
 have all:∀(xs:Array Keyed),(∀i,i<sa\/sa+na+nb<=i->kA key xs i=kA key (!15) i)->Sg key xs sa (sa+na+nb)->∀r∈pd.toList,Sg key xs r.1 (r.1+r.2.1):=λxs hx hs r hr=>by
  rw[g3] at hr;rcases aL.mp hr with hr | hr
  .have h1:=CH r hr
   exact (h.seg r (by rw[e];exact bI _ hr)).Ad λi i1 i2=>hx i (.inl (!1))
  .rcases ax.mp hr with rfl | hr
   .show Sg key xs sa (sa+(na+nb))
    rw[<- Nat.add_assoc];exact hs
   .have h1:=Rf r hr
    exact (h.seg r (by rw[e];exact a6 _ (ai _ (ai _ hr)))).Ad λi i1 i2=>hx i (.inr (!1))
 have xb:sa+na<(!15).size:=by omega
 refine wpS_bind (eW (arr:=arrOf st) xb (wpS_bind (ky (key:=key) (arr:=arrOf st) (!1) (!1) (λx hx=>⟨h.cmp hc (bi _) hx,h.cmp hc hx (bi _)⟩) (λi j q1 q2=>sA _ _ (!1) (!1) (!1)) λk hk k1 k2=>?_)));rw[<- ic (key:=key) xb] at k1 k2
 have k1:∀i,sa<=i->i<sa+k->kA key (!15) i<=kA key (!15) (sa+na):=λi i1 i2=>by
  have:=FK.mp (k1 (i - sa) (!1));rwa [show sa+(i - sa)=i by omega] at this
 have k2:∀i,sa+k<=i->i<sa+na->kA key (!15) (sa+na)<kA key (!15) i:=λi i1 i2=>by
  have:=Ab.mp (k2 (i - sa) (!1) (!1));rwa [show sa+(i - sa)=i by omega] at this
 dsimp only;refine dY (λe1=>wpS_pure (q _ ⟨Uz,all _ (λi _=>rfl) λi j i1 i2 i3=>?_⟩ hsz λ_ _=>rfl)) λe1=>?_
 .rw[beq_iff_eq] at e1
  show kA key (!15) i<=kA key (!15) j;by_cases x1:j<sa+na
  .exact sA _ _ i1 i2 x1
  .by_cases x2:sa+na<=i
   .exact sB _ _ x2 i2 i3
   .exact bO (k1 i i1 (!1)) (sB _ _ (ap _) (!1) i3)
 rw[beq_iff_eq] at e1;have xa:sa+k+(na - k) - 1<(!15).size:=by omega
 refine wpS_bind (eW (arr:=arrOf st) xa (wpS_bind (ky (key:=key) (arr:=arrOf st) (!1) (!1) (λx hx=>⟨h.cmp hc (bi _) hx,h.cmp hc hx (bi _)⟩) (λi j q1 q2=>sB _ _ (!1) (!1) (!1)) λk' Bv k3 k4=>?_)));rw[<- ic (key:=key) xa,show sa+k+(na - k) - 1=sa+na - 1 by omega] at k3 k4
 have k3:∀i,sa+na<=i->i<sa+na+k'->kA key (!15) i<kA key (!15) (sa+na - 1):=λi i1 i2=>by
  have:=FN.mp (k3 (i - (sa+na)) (!1));rwa [show sa+na+(i - (sa+na))=i by omega] at this
 have k4:∀i,sa+na+k'<=i->i<sa+na+nb->kA key (!15) (sa+na - 1)<=kA key (!15) i:=λi i1 i2=>by
  have:=Ac.mp (k4 (i - (sa+na)) (!1) (!1));rwa [show sa+na+(i - (sa+na))=i by omega] at this
 dsimp only;refine dY (λe2=>wpS_pure (q _ ⟨Uz,all _ (λi _=>rfl) λi j i1 i2 i3=>?_⟩ hsz λ_ _=>rfl)) λe2=>?_
 .rw[beq_iff_eq] at e2
  show kA key (!15) i<=kA key (!15) j;by_cases x1:j<sa+na
  .exact sA _ _ i1 i2 x1
  .by_cases x2:sa+na<=i
   .exact sB _ _ x2 i2 i3
   .exact bO (sA i (sa+na - 1) i1 (!1) (!1)) (k4 j (!1) i3)
 rw[beq_iff_eq] at e2
 have fin:∀(out:Array Keyed) (g:Nat),out.toList.Perm (((!15).extract (sa+k) (sa+na)).toList++((!15).extract (sa+na) (sa+na+k')).toList)->Nd key out.toList->wpS (!10) A E s (do
   modify λs=>setArr s (out.toList.zipIdx.foldl (λa x=>a.setIfInBounds (sa+k+x.2) x.1) (arrOf s))
   return (failedOf (<- get)).isNone) Q (nF (setPending st pd) g):=λout g ho hn=>by
  refine wpS_bind (wpS_modify (wpS_bind (wpS_get ?_)))
  have hlen:out.toList.length=na - k+k':=by
   rw[ho.length_eq,aH,bj,bj,br,br];omega
  have jE:=BM (sa+k) out.toList 0 (!15) (!1);rw[cy] at jE
  have hp:(out.toList.zipIdx.foldl (λa x=>a.setIfInBounds (sa+k+x.2) x.1) (!15)).Perm (!15):=by
   rw[bA,jE]
   have e3:(!15).toList=(!15).toList.take (sa+k)++(((!15).extract (sa+k) (sa+na)).toList++((!15).extract (sa+na) (sa+na+k')).toList)++(!15).toList.drop (sa+k+out.toList.length):=by
    rw[<- aJ,<- qB _ (!1),<- qB _ (!1),show sa+k+out.toList.length=sa+na+k' by omega,List.take_append_drop]
   exact ((List.Perm.append_left _ ho).append_right _).trans (.of_eq e3.symm)
  obtain⟨z1,z2⟩:=Nw (key:=key) jE (!1);generalize V2:(out.toList.zipIdx.foldl (λa x=>a.setIfInBounds (sa+k+x.2) x.1) (!15))=xs at hp z1 z2;rw[hlen] at z1
  have zb:∀i,sa+k<=i->i<sa+na+k'->∃j,(sa+k<=j/\j<sa+na+k')/\kA key xs i=kA key (!15) j:=λi i1 i2=>by
   have DN:i - (sa+k)<out.toList.length:=by omega
   have:=z2 (i - (sa+k)) DN;rw[show sa+k+(i - (sa+k))=i by omega] at this;have hm:=ho.mem_iff.mp (bC DN);rcases aL.mp hm with hm | hm
   .obtain⟨j,j1,j2,j3,ej⟩:=gN (key:=key) hm
    exact⟨j,⟨j1,!1⟩,this.trans ej⟩
   .obtain⟨j,j1,j2,j3,ej⟩:=gN (key:=key) hm
    exact⟨j,⟨!1,j2⟩,this.trans ej⟩
  have Rh:∀i j,sa<=i->i<sa+k->sa+k<=j->j<sa+na+nb->kA key (!15) i<=kA key (!15) j:=λi j i1 i2 j1 j2=>by
   by_cases x:j<sa+na
   .exact sA _ _ i1 (!1) x
   .exact bO (k1 i i1 i2) (sB _ _ (ap _) (!1) j2)
  have Xk:∀i j,sa<=i->i<sa+na+k'->sa+na+k'<=j->j<sa+na+nb->kA key (!15) i<=kA key (!15) j:=λi j i1 i2 j1 j2=>by
   by_cases x:i<sa+na
   .exact bO (sA i (sa+na - 1) i1 (!1) (!1)) (k4 j j1 j2)
   .exact sB _ _ (!1) (!1) j2
  have UB:Sg key xs sa (sa+na+nb):=λi j i1 i2 i3=>by
   by_cases x1:i<sa+k
   .rw[z1 i (.inl x1)]
    by_cases y1:j<sa+k
    .rw[z1 j (.inl y1)]
     exact sA _ _ i1 i2 (!1)
    .by_cases y2:j<sa+na+k'
     .obtain⟨j',⟨u1,u2⟩,ej⟩:=zb j (!1) y2
      rw[ej];exact Rh i j' i1 x1 u1 (!1)
     .rw[z1 j (.inr (!1))]
      exact Rh i j i1 x1 (!1) i3
   .by_cases x2:i<sa+na+k'
    .by_cases y2:j<sa+na+k'
     .have v1:=z2 (i - (sa+k)) (!1)
      have v2:=z2 (j - (sa+k)) (!1);rw[show sa+k+(i - (sa+k))=i by omega] at v1;rw[show sa+k+(j - (sa+k))=j by omega] at v2;rw[v1,v2];by_cases OG:i=j
      .subst OG;exact bF _
      .exact List.pairwise_iff_getElem.mp hn _ _ (!1) (!1) (!1)
     .obtain⟨i',⟨u1,u2⟩,ei⟩:=zb i (!1) x2
      rw[ei,z1 j (.inr (!1))];exact Xk i' j (!1) u2 (!1) i3
    .rw[z1 i (.inr (!1)),z1 j (.inr (!1))]
     exact sB _ _ (!1) i2 i3
  have h2:So key a₀ κ hi (setArr (nF (setPending st pd) g) xs):=⟨(Uz.g g).arr hp,all xs (λi hi=>z1 i (!1)) UB⟩;have ef:=h2.sb.failed;refine wpS_pure ?_;have:(failedOf (setArr (nF (setPending st pd) g) xs)).isNone=true:=by rw[ef];rfl
  have:=this ▸ q _ h2 hsz λi hi=>z1 i (!1);exact this
 have BQ:∀x∈(!15).extract (sa+k) (sa+na),∀y∈(!15).extract (sa+na) (sa+na+k'),rP prog w A s key (kindOf st) x y/\rP prog w A s key (kindOf st) y x:=λx hx y hy=>⟨h.cmp hc (vQ hx) (vQ hy),h.cmp hc (vQ hy) (vQ hx)⟩;have m1:Sk key ((!15).extract (sa+k) (sa+na)):=Li sA (!1) (!1) (ap _);have m2:Sk key ((!15).extract (sa+na) (sa+na+k')):=Li sB (!1) (ap _) (!1)
 have m3:kA key ((!15).extract (sa+na) (sa+na+k')) 0<=kA key ((!15).extract (sa+k) (sa+na)) 0:=by
  rw[BP (!1) (!1),BP (!1) (!1)];exact cH (k2 _ (!1) (!1))
 have m4:∀j,j<((!15).extract (sa+na) (sa+na+k')).size->kA key ((!15).extract (sa+na) (sa+na+k')) j<=kA key ((!15).extract (sa+k) (sa+na)) (((!15).extract (sa+k) (sa+na)).size - 1):=λj hj=>by
  rw[br] at hj;rw[br,BP (!1) (!1),BP (!1) (!1),show sa+k+(min (sa+na) (!15).size - (sa+k) - 1)=sa+na - 1 by omega];exact cH (k3 _ (!1) (!1))
 exact dY (λ_=>wpS_bind (C9 (a:=(!15).extract (sa+k) (sa+na)) (b:=(!15).extract (sa+na) (sa+na+k')) (by rw[br];omega) (by rw[br];omega) BQ m1 m2 m3 m4 fin)) λ_=>wpS_bind (Dc (a:=(!15).extract (sa+k) (sa+na)) (b:=(!15).extract (sa+na) (sa+na+k')) (by rw[br];omega) (by rw[br];omega) BQ m1 m2 m3 m4 fin)
theorem Ch.count:∀{l:List Run} {lo hi:Nat},Ch lo l hi->lo+l.length<=hi
 | [],lo,hi,h=>Nat.le_of_eq h
 | (s,n,p)::l,lo,hi,h=>by
  have:=Ch.count h.2.2;have:=h.2.1;rw[av];omega
theorem rQ {st:SortSt}{Q:Unit->SortSt->Prop}(h:So key a₀ κ 0 st)(hc:Call3 prog w A s key κ a₀)(q:∀eK,(!26).Perm a₀->Nd key (!26).toList->failedOf eK=none->Q () eK):wpS (!10) A E s sortRuns' Q st:=by
 rw[sortRuns'_eq];refine wpS_bind (wpS_get ?_);have sz:=h.sb.size;dsimp only;rw[sz];generalize minRun' a₀.size a₀.size 0=mr;refine wpS_bind (wpS_mono (wpS_forRange (I:=λi c eK=>∃lo,c=(none,lo)/\So key a₀ κ lo eK/\(i<=lo\/a₀.size<=lo)) (Q:=λc eK=>∃lo,c=(none,lo)/\So key a₀ κ lo eK/\a₀.size<=lo) ?_ ?_ ⟨_,rfl,h,.inl (ap _)⟩) ?_)
 .rintro i _ st a1 a2 ⟨lo,rfl,h,PD⟩
  have:=h.sb.le;dsimp only;refine dY (λe=>wpS_pure ⟨_,rfl,h,e⟩) λe=>wpS_bind (Ae h hc (!1) (!1) λm st h m1 m2 hs=>?_);dsimp only
  have push:∀(n:Nat) (st:SortSt),1<=n->lo+n<=a₀.size->So key a₀ κ lo st->Sg key (!15) lo (lo+n)->wpS (!10) A E s (do
    modify λs=>setPending s ((pendingOf s).push (lo,n,0))
    pure (ForInStep.yield ((none,lo+n):Option Unit × Nat))) (λr eK =>
   match r with
   | ForInStep.done c'=>∃lo,c'=(none,lo)/\So key a₀ κ lo eK/\a₀.size<=lo
   | ForInStep.yield c'=>∃lo,c'=(none,lo)/\So key a₀ κ lo eK/\(i+1<=lo\/a₀.size<=lo)) st:=λn st n1 n2 h hs=>by
   refine wpS_bind (wpS_modify (wpS_pure ⟨_,rfl,⟨⟨h.sb.perm,h.sb.kind,h.sb.failed,?_,n2⟩,λr hr=>?_⟩,!1⟩))
   .show Ch 0 ((pendingOf st).push (lo,n,0)).toList _
    rw[Array.toList_push];exact h.sb.ch.push n1
   .have hr:r∈((pendingOf st).push (lo,n,0)).toList:=hr
    rw[Array.toList_push] at hr;rcases aL.mp hr with hr | hr
    .exact h.seg r hr
    .rw[au.mp hr];exact hs
  refine dY (λe1=>wpS_bind (wpS_lift (wpAny_rule ⟨rfl,wpS_bind (vR h hc (!1) m1 (!1) hs λst h hs=>?_)⟩))) λ_=>?_
  all_goals
   try rw[if_neg (!2)]
   refine wpS_bind (wpS_get ?_)
   cases (pendingOf st).back? with
   | none=>exact push _ _ (!1) (!1) h hs
   | some x =>
    dsimp only;refine wpS_bind (wpS_mono (Ji (λc eK=>c=(none,())/\So key a₀ κ lo eK/\Sg key (!26) lo (lo+_)) ?_ ⟨rfl,h,hs⟩) ?_)
    .rintro i _ st ⟨rfl,h,hs⟩
     refine wpS_bind (wpS_get ?_);by_cases e3:(pendingOf st).size > 1
     .rw[if_pos e3,getElem?_pos (pendingOf st) _ (!1)]
      dsimp only;refine dY (λ_=>wpS_pure ⟨rfl,h,hs⟩) λ_=>wpS_bind (ux h hc (!1) λst h _ hk=>wpS_pure ⟨rfl,h,hs.Ad λi i1 _=>hk i i1⟩)
     .rw[if_neg e3]
      exact wpS_pure ⟨rfl,h,hs⟩
    .rintro _ st ⟨rfl,h,hs⟩
     dsimp only;refine wpS_bind (wpS_modify (push _ _ (!1) (!1) ⟨⟨h.sb.perm,h.sb.kind,h.sb.failed,?_,h.sb.le⟩,λr hr=>?_⟩ hs))
     .show Ch 0 (Array.modify _ _ _).toList _
      rw[Array.toList_modify];exact h.sb.ch.mod _
     .have hr:r∈(Array.modify _ _ _).toList:=hr
      rw[Array.toList_modify] at hr;obtain⟨j,hj,rfl⟩:=cb hr;rw[List.length_modify] at hj;rw[List.getElem_modify];split
      .exact h.seg (pendingOf st).toList[j] (bC hj)
      .exact h.seg _ (bC hj)
 .rintro _ st ⟨lo,rfl,h,PD⟩
  exact⟨_,rfl,h,!1⟩
 .rintro _ st ⟨lo,rfl,h,PD⟩
  have e0:lo=a₀.size:=by have:=h.sb.le;omega
  subst e0;dsimp only;refine wpS_bind (wpS_mono (wpS_forRange (I:=λi c eK=>c=(none,())/\So key a₀ κ a₀.size eK/\((pendingOf eK).size<=1\/(pendingOf eK).size+i<=a₀.size)) (Q:=λc eK=>c=(none,())/\So key a₀ κ a₀.size eK/\(pendingOf eK).size<=1) ?_ ?_ ⟨rfl,h,.inr (by have:=Ch.count h.sb.ch;rw[bj] at this;omega)⟩) ?_)
  .rintro i _ st a1 a2 ⟨rfl,h,hp⟩
   refine wpS_bind (wpS_get (dY (λe=>wpS_pure ⟨rfl,h,e⟩) λe=>wpS_bind (ux h hc ?_ λst h hsz _=>wpS_pure ⟨rfl,h,.inr (!1)⟩)));have:∀(c:Prop) [Decidable c] (x:Nat),(if c then x - 1 else x)<=x:=λc _ x=>by split<;>omega
   exact cv (Nat.succ_le_succ (this _ _)) (!1)
  .rintro _ st ⟨rfl,h,hp⟩
   exact⟨rfl,h,!1⟩
  .rintro _ st ⟨rfl,h,hp⟩
   refine wpS_pure (q _ h.sb.perm ?_ h.sb.failed);have A4:=h.sb.ch;have V3:=h.seg;have hsz:=h.sb.size;have hl:(pendingOf st).toList.length<=1:=by rw[bj];exact hp
   generalize (pendingOf st).toList=l at A4 V3 hl;refine Q9 λi j i1 i2=>?_
   match l,hl with
   | [],_ =>
    have:0=a₀.size:=A4;omega
   | [(s,n,p)],_ =>
    obtain⟨rfl,_,h3⟩:=A4;have h3:0+n=a₀.size:=h3;exact V3 (0,n,p) (au.mpr rfl) i j (bD _) i1 (by show j<0+n;omega)
end
open PySem.W (KatLex kat_cons kat_yes kat_no kat_one kat_lt kas_item)
noncomputable def jd:List Int->List Int->Bool
 | [],[]=>false
 | [],_::_=>true
 | _::_,[]=>false
 | a::r,b::t=>if a=b then jd r t else decide (a<b)
theorem vS (a b:Int):ag.eqv (.int a) (.int b)=decide (a=b):=by
 by_cases h:a=b
 .subst h;simp[ag.eqv]
 .simp[ag.eqv,h]
theorem qC:∀xs ys:List Int,hZ false (xs.map ag.int) (ys.map ag.int)=some (jd xs ys)
 | [],[]=>rfl
 | [],_::_=>rfl
 | _::_,[]=>rfl
 | x::xs,y::ys=>by
  rw[ar,ar,hZ,jd,vS,qC xs ys];by_cases h:x=y
  .rw[if_pos h,if_pos (decide_eq_true h)]
  .rw[if_neg h,if_neg (by simpa using h)]
   rfl
theorem qD:∀a:List Int,jd a a=false
 | []=>rfl
 | x::a=>by rw[jd,if_pos rfl,qD a]
theorem vT:∀{a b c:List Int},jd a b=true->jd b c=true->jd a c=true
 | [],[],_,h,_=>by cases h
 | [],_::_,[],_,h=>by cases h
 | [],_::_,_::_,_,_=>rfl
 | _::_,[],_,h,_=>by cases h
 | _::_,_::_,[],_,h=>by cases h
 | x::a,y::b,z::c,h,k=>by
  rw[jd] at h k ⊢;by_cases h1:x=y
  .subst h1
   rw[if_pos rfl] at h;by_cases h2:x=z
   .rw[if_pos h2] at k ⊢
    exact vT h k
   .rw[if_neg h2] at k ⊢
    exact k
  .rw[if_neg h1,decide_eq_true_eq] at h
   by_cases h2:y=z
   .subst h2
    rw[if_neg h1];exact decide_eq_true h
   .rw[if_neg h2,decide_eq_true_eq] at k
    rw[if_neg (!1)];exact decide_eq_true (!1)
theorem vU:∀{a b:List Int},jd a b=false->jd b a=false->a=b
 | [],[],_,_=>rfl
 | [],_::_,h,_=>by cases h
 | _::_,[],_,h=>by cases h
 | x::a,y::b,h,k=>by
  rw[jd] at h k;by_cases h1:x=y
  .subst h1
   rw[if_pos rfl] at h k;rw[vU h k]
  .rw[if_neg h1,decide_eq_false_iff_not] at h
   rw[if_neg (λz=>h1 z.symm),decide_eq_false_iff_not] at k;omega
theorem Nx (h:jd a b=true):jd b a=false:=by
 cases e:jd b a with
 | false=>rfl
 | true =>
  have:=vT h e;rw[qD] at this;cases this
theorem FR {a b c:List Int}(h:jd b a=false)(k:jd c b=false):jd c a=false:=by
 cases e:jd c a with
 | false=>rfl
 | true =>
  cases e2:jd a b with
  | true=>rw[vT e e2] at k;cases k
  | false =>
   have:=vU e2 h;subst this;rw[e] at k;cases k
noncomputable def Hc (R:List (List Int))(a:List Int):Int:=((R.countP λt=>jd t a:Nat):Int)
theorem FT:∀{l:List (List Int)} {a:List Int},(∀x∈l,p x=true->q x=true)->a∈l->q a=true->p a=false->l.countP p<l.countP q
 | [],a,_,h,_,_=>by cases h
 | x::l,a,h,ha,hq,hp=>by
  have lr:l.countP p<=l.countP q:=List.countP_mono_left λy hy=>h y (ai _ hy);rw[List.countP_cons,List.countP_cons];rcases ax.mp ha with rfl | ha
  .simp[hq,hp]
   omega
  .have ih:=FT (λy hy=>h y (ai _ hy)) ha hq hp
   have hx:=h x (aq ..)
   cases e1:p x with
   | true=>rw[hx e1];simp;omega
   | false =>
    cases q x<;>simp<;>omega
theorem BR (ha:a∈R):decide (Hc R a<Hc R b)=jd a b:=by
 cases e:jd a b with
 | true =>
  refine decide_eq_true ?_;unfold Hc;exact Int.ofNat_lt.mpr (FT (λx _ hx=>vT hx e) ha e (qD a))
 | false =>
  refine decide_eq_false ?_;unfold Hc
  have:R.countP (λt=>jd t b)<=R.countP (λt=>jd t a):=List.countP_mono_left λx _ hx=>by
   cases e2:jd x a with
   | true=>rfl
   | false =>
    have:=FR e e2;rw[hx] at this;cases this
  omega
noncomputable def gB (rs:List (List Int)):List (List Int):=rs.mergeSort λa b=>!jd b a
noncomputable abbrev wH (rs:List (List Int)):Prop:=rs.Pairwise λa b=>jd b a=false
theorem fB (rs:List (List Int)):(gB rs).Perm rs:=List.mergeSort_perm _ _
theorem xZ (rs:List (List Int)):wH (gB rs):=by
 have:=List.pairwise_mergeSort (le:=λa b=>!jd b a) (λa b c h k=>by
  rw[Bool.not_eq_true'] at h k ⊢
  exact FR h k) (λa b=>by
  cases h:jd b a with
  | false=>simp
  | true=>simp[Nx h]) rs
 exact this.imp λh=>by simpa using h
theorem BS:∀{a b:List (List Int)},a.Perm b->wH a->wH b->a=b
 | [],b,h,_,_=>by rw[List.nil_perm.mp h]
 | x::a,[],h,_,_=>by have:=h.length_eq;simp at this
 | x::a,y::b,h,h1,h2=>by
  obtain⟨a1,a2⟩:=cm.mp h1;obtain⟨b1,b2⟩:=cm.mp h2
  have BQ:x=y:=by
   have hx:x∈y::b:=h.mem_iff.mp (aq ..);have hy:y∈x::a:=h.mem_iff.mpr (aq ..);rcases ax.mp hx with e | hx
   .exact e
   .rcases ax.mp hy with e | hy
    .exact e.symm
    .exact vU (b1 x hx |> λz=>z) (a1 y hy) |>.symm ▸ rfl
  subst BQ;rw[BS (h.cons_inv) a2 b2]
theorem mG (h:a.Perm b)(h1:wH a):a=gB b:=BS (h.trans (fB b).symm) h1 (xZ b)
theorem Af (h:a.Perm b):gB a=gB b:=mG ((fB a).trans h) (xZ a)
section
variable {prog:aV}{w:World}{A:Around}{E:ah->aw->Prop}{s:aw}
noncomputable def nG (h:Heap)(v:ah)(row:List Int):Prop:=∃(a:Addr) (o:Obj) (xs:Array ah) (n:Nat) (as:List Addr),v=.ref a/\h.get? a=some o/\o.cls=.type "tuple" /\ o.data=.seq xs n/\ReadsAll h xs.toList (row.map .int) as
theorem nG.tup (t:nG h v row):Nu h v:=by
 obtain⟨a,o,xs,n,as,h⟩:=t;exact⟨a,o,xs,n,row,as,h⟩
noncomputable def vInt:ah->Int | .int i _=>i | _=>0
noncomputable def jF (h:Heap)(v:ah):List Int:=match v with
 | .ref a=>(match h.get? a with | some o=>(match o.data with | .seq xs _=>xs.toList.map vInt | _=>[]) | none=>[])
 | _=>[]
theorem uy:∀{us:List ah} {row:List Int} {as:List Addr},ReadsAll h us (row.map .int) as->us.map vInt=row
 | [],[],_,_=>rfl
 | [],_::_,_,r=>by cases r
 | u::us,[],_,r=>by cases r
 | u::us,i::row,_,r=>by
  rw[ar] at r
  cases r with
  | cons r rs =>
   cases r;rw[ar,uy rs];rfl
theorem nG.row {h:Heap}{v:ah}{row:List Int}(t:nG h v row):jF h v=row:=by
 obtain⟨a,o,xs,n,as,rfl,h1,h2,h3,h4⟩:=t;unfold jF;simp only[h1,h3];exact uy h4
theorem De (hu:A.units<cLine):∀(us vs:List ah) (r t:List Int) (as bs:List Addr) (i:Nat),ReadsAll s.heap us (r.map .int) as->ReadsAll s.heap vs (t.map .int) bs->(fin=decide (r.length<t.length)\/True)->(∀b,(b=if r.take (min r.length t.length)=t.take (min r.length t.length) then fin else jd r t)->Q b s)->KatLex prog w A true fin Q (us.zip vs) i s:=by
 intro us vs r t as bs i h1 h2 _ hq
 induction us generalizing vs r t as bs i with
 | nil =>
  cases r with
  | nil=>exact hq _ (!4)
  | cons _ _=>cases h1
 | cons u us ih =>
  cases r with
  | nil=>cases h1
  | cons a r =>
   cases vs with
   | nil =>
    cases t with
    | nil=>exact hq _ (!4)
    | cons _ _=>cases h2
   | cons v vs =>
    cases t with
    | nil=>cases h2
    | cons b t =>
     rw[ar] at h1 h2
     cases h1 with
     | cons g1 h1 =>
      cases h2 with
      | cons g2 h2 =>
       cases g1 with
       | int _ t1 =>
        cases g2 with
        | int _ t2 =>
         rw[List.zip_cons_cons];have he:=SeqAt.eqAt_reads (.int a) (.int b) A s _ _ [] [] (.int a t1) (.int b t2) rfl rfl (by simpa [ag.depth] using hu);rw[vS] at he;refine kat_cons (he prog w _ _ ?_);by_cases wF:a=b
         .subst wF
          rw[decide_eq_true rfl];refine kat_yes (ih vs r t _ _ (i+1) h1 h2 (.inr trivial) λb hb=>hq b ?_);rw[hb,jd,if_pos rfl];have:min (a::r).length (a::t).length=min r.length t.length+1:=by simp only[av];omega
          rw[this,cA,cA];simp
         .rw[decide_eq_false wF]
          have Ri:Q (decide (a<b)) s:=hq _ (by
           have:min (a::r).length (b::t).length=min r.length t.length+1:=by simp only[av];omega
           rw[this,cA,cA,if_neg (by simp[wF]),jd,if_neg wF])
          refine kat_no ?_
          cases i with
          | zero=>exact oneLt_int Ri
          | succ i=>exact kat_one _ _ (BL a b t1 t2 A s prog w _ _ Ri)
theorem BU:∀r t:List Int,(if r.take (min r.length t.length)=t.take (min r.length t.length) then decide (r.length<t.length) else jd r t)=jd r t
 | [],[]=>rfl
 | [],_::_=>by simp[jd]
 | _::_,[]=>by simp[jd]
 | a::r,b::t=>by
  have ih:=BU r t;have:min (a::r).length (b::t).length=min r.length t.length+1:=by simp only[av];omega
  rw[this,cA,cA,jd];by_cases h:a=b
  .subst h
   rw[if_pos rfl];simpa using ih
  .rw[if_neg (by simp[h])]
theorem Ag (hx:nG s.heap x r)(hy:nG s.heap y t)(hu:A.units+1<cLine)(hq:Q (jd r t) s):aG (!10) A (keyLt' (tuples' true) x y) Q E s:=by
 obtain⟨a,o,xs,n,as,rfl,h1,h2,h3,h4⟩:=hx;obtain⟨b,o',ys,m,bs,rfl,k1,k2,k3,k4⟩:=hy;have n1:xs.size=r.length:=by have:=SeqAt.ReadsAll.length _ _ _ h4;simpa using this
 have n2:ys.size=t.length:=by have:=SeqAt.ReadsAll.length _ _ _ k4;simpa using this
 refine kat_lt h1 h3 k1 k3 (De (!1) xs.toList ys.toList r t as bs 0 h4 k4 (.inr trivial) λb hb=>?_);rw[hb,n1,n2,BU];exact hq
theorem ya (hx:nG s.heap x r)(hy:nG s.heap y t)(hu:A.units+1<cLine)(hq:Q (jd r t) s):aG (!10) A (keyLt' general' x y) Q E s:=by
 obtain⟨a,o,xs,n,as,rfl,h1,h2,h3,h4⟩:=hx;obtain⟨b,o',ys,m,bs,rfl,k1,k2,k3,k4⟩:=hy;have e:∀x y,keyLt' general' x y=oneLt' false x y:=λ_ _=>rfl;rw[e];exact kat_one _ _ (BJ 1 (.tuple (r.map .int)) (.tuple (t.map .int)) (jd r t) A s _ _ as bs (by rw[ag.depth,kx];exact ap _) (.tuple h1 h2 h3 h4) (.tuple k1 k2 k3 k4) (by rw[ag.canLay0];exact gx r) (by rw[ag.canLay0];exact gx t) hu (by rw[gI];exact qC r t) prog w _ _ hq)
theorem Jm (hx:nG s.heap x row)(hy:nG s.heap y oz)(hu:A.units+2<cLine)(hq:Q (jd row oz) s):aG (!10) A (keyLt' oneType' x y) Q E s:=by
 obtain⟨a,⟨c1,d1,data,s1⟩,xs,n,as,rfl,h1,h2,h3,h4⟩:=hx;obtain⟨b,⟨c2,d2,data2,s2⟩,ys,m,bs,rfl,k1,k2,k3,k4⟩:=hy;simp only at h2 h3 k2 k3;subst h2 h3 k2 k3;rw[keyLt'_oneType,oneLt'_eq];simp only[if_true];refine aa (wpAny_cRoomFor (!1) ?_);have n1:xs.size=row.length:=by have:=SeqAt.ReadsAll.length _ _ _ h4;simpa using this
 have n2:ys.size=oz.length:=by have:=SeqAt.ReadsAll.length _ _ _ k4;simpa using this
 have he:∀j (j1:j<xs.size) (j2:j<ys.size),SeqAt.EqAt A.in1 s xs[j] ys[j] (SeqAt.pairEq (row.map ag.int) (oz.map ag.int) j):=λj j1 j2=>by
  have IL:A.in1.units+min (ag.depthAll (row.map ag.int)) (ag.depthAll (oz.map ag.int))<cLine:=by rw[kx];show A.units+1+_<_;omega
  have q:=SeqAt.eqAt_readsAll (row.map ag.int) (oz.map ag.int) A.in1 s xs.toList ys.toList _ _ h4 k4 (gx row) (gx oz) IL j (by simpa using j1) (by simpa using j2);rw[bo,bo] at q;exact q
 have hf:∀j (j1:j<xs.size) (j2:j<ys.size),(∀i<j,SeqAt.pairEq (row.map ag.int) (oz.map ag.int) i=true)->SeqAt.pairEq (row.map ag.int) (oz.map ag.int) j=false->lT .Lt A.in1 s xs[j] ys[j] ((gI false ((row.map ag.int).getD j .none) ((oz.map ag.int).getD j .none)).getD false):=λj j1 j2 _ _=>by
  obtain⟨Sh,r1⟩:=fO h4 (j:=j) (by simpa using j1);obtain⟨Si,r2⟩:=fO k4 (j:=j) (by simpa using j2);have e1:(row.map ag.int).getD j .none=.int (row.getD j 0):=by simp[am,show j<row.length by omega]
  have e2:(oz.map ag.int).getD j .none=.int (oz.getD j 0):=by simp[am,show j<oz.length by omega]
  rw[e1,bo] at r1;rw[e2,bo] at r2;rw[e1,e2];generalize xs[j]=X1 at r1 ⊢;generalize ys[j]=Y1 at r2 ⊢;cases r1;cases r2;exact BL _ _ _ _ _ _
 refine aa (wpAny_callSpecialIfBound?_slot ⟨_,h1,rfl⟩ F.slot_tuple_lt (call_meets F.slot_tuple_lt ⟨_,h1,rfl⟩ F.entry_tuple_lt (F.args_tuple_lt_2 _ _) (Fy a b xs ys n m d1 d2 s1 s2 _ _) ⟨h1,k1,he,hf,?_⟩));have:=lex_lt (row.map ag.int) (oz.map ag.int) _ (qC row oz);rw[ao,ao,<- n1,<- n2] at this;rw[this];exact wpAny_truthy_bool hq
theorem rR {vs:List ah}(h:∀v∈vs,nG s.heap v (jF s.heap v))(hu:A.units+2<cLine):mF prog w A vs s (λp=>wH (p.toList.map λi=>jF s.heap (vs.getD i ah.none))):=λh2=>by
 obtain⟨κ,hk,kk⟩:=C7 (prog:=prog) (w:=w) (A:=A) (λv hv=>(h v hv).tup) h2;have hz:(((vs.toArray.zip vs.toArray))).size=vs.length:=by simp
 refine⟨κ,kk,λE=>rQ (key:=λx=>Hc (vs.map (jF s.heap)) (jF s.heap x.1)) (a₀:=vs.toArray.zip vs.toArray) (κ:=κ) (Q:=λ_ eK=>∃p:Array Nat,Nt vs.length p/\wH (p.toList.map λi=>jF s.heap (vs.getD i ah.none))/\arrOf eK=p.map (kas_item (((vs.toArray.zip vs.toArray))))/\failedOf eK=none) ⟨⟨Array.Perm.refl _,rfl,rfl,rfl,bD _⟩,λr hr=>by cases hr⟩ (λx hx y hy=>?_) λeK hp hn hf=>?_⟩
 .obtain⟨i,hi,rfl⟩:=cN hx
  obtain⟨j,hj,rfl⟩:=cN hy;intro C hC;have yb:vs[i]'(!1)∈vs:=bC _;have DT:vs[j]'(!1)∈vs:=bC _;have e1:((((vs.toArray.zip vs.toArray)))[i]).1=vs[i]'(!1):=by simp
  have e2:((((vs.toArray.zip vs.toArray)))[j]).1=vs[j]'(!1):=by simp
  have e:decide (Hc (vs.map (jF s.heap)) (jF s.heap ((((vs.toArray.zip vs.toArray)))[i]).1)<Hc (vs.map (jF s.heap)) (jF s.heap ((((vs.toArray.zip vs.toArray)))[j]).1))=jd (jF s.heap (vs[i]'(!1))) (jF s.heap (vs[j]'(!1))):=by
   simp only[e1,e2];exact BR (cY yb)
  replace hC:C (jd (jF s.heap (vs[i]'(!1))) (jF s.heap (vs[j]'(!1)))) s:=e ▸ hC;rw[e1,e2];rcases hk with rfl | rfl | rfl
  .exact Ag (h _ yb) (h _ DT) (!1) hC
  .exact ya (h _ yb) (h _ DT) (!1) hC
  .exact Jm (h _ yb) (h _ DT) (!1) hC
 .obtain⟨p,h1,h2⟩:=BN ((ah.none,ah.none):Keyed) (bA.mp hp)
  have gh:∀i∈p,i<vs.length:=λi hi=>by have:=h1.mem_iff.mp hi;simpa [hz] using this
  refine⟨p.toArray,?_,?_,?_,hf⟩
  rotate_left 2
  .refine cC.mp ?_
   rw[h2];simp[kas_item]
  .rw[Nt,bA]
   simpa [hz] using h1
  .rw[h2] at hn
   rw[cW];refine de.mpr ((de.mp hn).imp_of_mem ?_);intro i j hi hj lr;have hi:=gh i hi;have hj:=gh j hj;have e:∀i,i<vs.length->((((vs.toArray.zip vs.toArray))).toList.getD i ((ah.none,ah.none):Keyed)).1=vs.getD i ah.none:=λi hi=>by simp[am,hi]
   have hm:jF s.heap (vs.getD j ah.none)∈vs.map (jF s.heap):=cY (by rw[am,aK hj];exact bC _);have:=BR (R:=vs.map (jF s.heap)) (b:=jF s.heap (vs.getD i ah.none)) hm;rw[<- this];refine decide_eq_false ?_;simp only[e i hi,e j hj] at lr;omega
end
section
theorem Ah (hM:N<=1000000)(hu:X.A.units+64<cLine):f6 X (.builtin "sorted") (λxs H Q=>∃(p:Addr) (ys:List V) (S:List Addr) (rs:List (List Int)),xs=[.ref p]/\gD X.K H p ys/\dO S H (rs.map iO) ys/\rs.length<N/\∀(l:Addr) (FU:List V),dO S H ((gB rs).map iO) FU->H l=none->Q (.ref l) (eM H l (.lst FU))):=by
 intro pins s σ H xs us Q I r h;obtain⟨p,ys,S,rs,rfl,hp,hr,OA,q⟩:=h;obtain⟨u,rfl,ru⟩:=vals1 r;cases ru;obtain⟨its,rv,ht,hz⟩:=I.list hp;have hlen:its.length=rs.length:=by rw[<- rv.length,hr.length,ao]
 refine z7 (G:=λp=>wH (p.toList.map λi=>rs.getD i [])) (λh2=>?_) ht.isList (!1) (λs' held A' hA=>?_) λpm DU pf=>?_
 .rw[hlen] at h2 ⊢
  rw[cW]
  match rs,h2 with
  | [],_=>exact List.Pairwise.nil
  | [a],_=>simp[wH]
 .have oE:∀j (hj:j<its.length),nG s'.heap its[j] (rs.getD j []):=λj hj=>by
   obtain⟨as,ra⟩:=dO.reads (I.kept (h':=s'.heap) (t':=s.toks) held).eP (xX rs) hr rv;obtain⟨bs,rj⟩:=fO ra hj;have e:(rs.map iO).getD j .none=iO (rs.getD j []):=by simp[am,show j<rs.length by omega]
   rw[e,iO] at rj;generalize its[j]=z at rj ⊢
   cases rj with
   | tuple a1 a2 a3 a4=>exact⟨_,_,_,_,_,rfl,a1,a2,a3,a4⟩
  have:=rR (prog:=X.prog) (w:=X.w) (A:=A') (s:=s') (vs:=its) (λv hv=>by
   obtain⟨j,hj,rfl⟩:=cb hv;rw[(oE j hj).row];exact oE j hj) (!1)
  intro h2;obtain⟨κ,kk,kr⟩:=this h2;refine⟨κ,kk,λE=>ca (kr E) ?_ λ_ _ e=>e⟩;rintro r s2 ⟨rfl,p,hp,pf,rest⟩;refine⟨rfl,p,hp,?_,rest⟩;have jE:p.toList.Perm (List.range its.length):=by have:=bA.mp hp;simpa using this
  show wH (p.toList.map λi=>rs.getD i [])
  rw[show (p.toList.map λi=>rs.getD i [])=p.toList.map λi=>jF s2.heap (its.getD i ah.none) from bu λi hi=>by
   have hi:i<its.length:=by simpa using jE.mem_iff.mp hi
   rw[am (l:=its),aK hi,bZ,(oE i hi).row]]
  exact pf
 .have jE:pm.toList.Perm (List.range rs.length):=by have:=bA.mp DU;simpa [hlen] using this
  have gh:∀j∈pm.toList,j<rs.length:=λj hj=>by simpa using jE.mem_iff.mp hj
  have hv:eg (pm.toList.map λj=>ys.getD j .gC) (pm.toList.map λj=>its.getD j ah.none):=rv.pick _ λj hj=>by rw[hlen];exact gh j hj
  have Su:=hr.pick _ gh
  have FV:(pm.toList.map λj=>rs.getD j []).Perm rs:=by
   have:=jE.map λj=>rs.getD j [];rwa [show (List.range rs.length).map (λj=>rs.getD j [])=rs from cS (!4) λi h1 h2=>by simp[am,h2]] at this
  rw[mG FV pf] at Su;have hsz:(pm.toList.map λj=>ys.getD j V.gC).length<=az:=by rw[ao,jE.length_eq,List.length_range,show az=16777216 by decide];omega
  have kp:∀b o,s.heap.get? b=some o->(sortedAll s.heap its (cq (pm.toList.map λj=>its.getD j ah.none))).get? b=some o:=λb o e=>sortedAll_old e;obtain⟨n,nw⟩:=sortedAll_at s.heap its (cq (pm.toList.map λj=>its.getD j ah.none));exact⟨.ref (s.heap.objs.size+1),_,I.laid (t':=s.toks) (o:=.lst (pm.toList.map λj=>ys.getD j V.gC)) kp (dv _) ⟨hsz,_,n,hv,by simpa using nw⟩,rfl,q _ _ Su (I.eP.fresh (dv _))⟩
end
noncomputable def FW (u:UX):eU->Int->(List ag->Int->Prop)->Prop:=λenv n Q=>u env n λd n1=>match d with | .list ds=>lE (rO ds) λrs=>rs.length<4000/\Q ((gB rs).map iO) n1 | _=>False
section
theorem Jn (hm:X.mg "sorted" = none)(hu:X.A.units+64<cLine)(h:KL X M e u)(hg:Gl X "sorted" := by rfl)(hs:eV e=true:=by rfl):KN X M (.Call (.Name "sorted" p) [e] [] pos) (FW u) :=
 .of (gE (Ah (N:=4000) (!2) hu) hg hm (!3) (gZ h.run fi hs)) λσ H R env pn S n Q ok hu k=>⟨env,pn,S,n,_,ok,hu,λv H1 d n1 r1 x1 g1 _ q=>by
  cases d with
  | list es =>
   obtain⟨rs,ei,hl,q⟩:=q;have e2:=uw ei;subst e2;obtain⟨a,xs,rfl,sq,_,rr⟩:=r1.G9 (K:=X.K);refine⟨a,xs,S,rs,rfl,sq,rr,hl,λl FU Df hl=>?_⟩;exact k l _ _ _ n1 (zV ok x1 g1 hl) dP ((Df.fresh hl).ext (.new hl)) (x1.trans (.new hl)) (M.ix g1 (.new (S:=[]) hl) (!4)) q
  | _=>exact False.elim q⟩
end
noncomputable abbrev fI:=List (List Int × ag)
noncomputable def lB (t:Bool)(d:ag):Option (List Int):=match t,d with | false,.int i=>some [i] | true,.tuple ds=>iq ds | _,_=>none
noncomputable def eO (kvs:fI)(k:List Int):Option ag:=(kvs.find? λp=>decide (p.1=k)).map (·.2)
noncomputable def gQ (kvs:fI)(k:List Int)(d:ag):fI:=if (kvs.any λp=>decide (p.1=k))=true then kvs.map (λp=>if p.1=k then (p.1,d) else p) else kvs++[(k,d)]
section
variable {κ:Type}[DecidableEq κ]{S:List Addr}{H:Hp}{f:List Int->κ}
noncomputable def nH (f:List Int->κ):fI->List V->List (κ × V)
 | p::kvs,x::xs=>(f p.1,x)::nH f kvs xs
 | _,_=>[]
theorem qE (f:List Int->κ):∀{kvs:fI} {xs:List V},dO S H (!20) xs->(nH f kvs xs).length=kvs.length
 | [],_,r=>by cases r.e9;rfl
 | p::kvs,_,r=>by
  obtain⟨x,t,rfl,r1,r2⟩:=r.of_cons;rw[nH,av,qE f r2,av]
theorem oF:∀{kvs:fI} {xs:List V},dO S H (!20) xs->(∀p∈kvs,f p.1=f k->p.1=k)->(eO kvs k=none/\ij (nH f kvs xs) (f k)=none)\/∃d v,eO kvs k=some d/\ij (nH f kvs xs) (f k)=some v/\eB S H d v
 | [],_,r,_=>by cases r.e9;exact .inl ⟨rfl,rfl⟩
 | p::kvs,_,r,inj=>by
  obtain⟨x,t,rfl,r1,r2⟩:=r.of_cons;by_cases e:p.1=k
  .refine .inr ⟨p.2,x,?_,?_,r1⟩
   .unfold eO;rw[bN,decide_eq_true e];rfl
   .rw[nH,f9 (by rw[e])]
  .have e2:¬ f p.1=f k:=λz=>e (inj p (aq ..) z)
   have ih:=oF r2 λq hq=>inj q (ai _ hq);have h1:eO (p::kvs) k=eO kvs k:=by unfold eO;rw[bN,decide_eq_false e]
   rw[h1,nH,f' (p:=(f p.1,x)) e2];exact ih
theorem BV:∀{kvs:fI} {xs:List V},dO S H (!20) xs->(∀p∈kvs,f p.1=f k->p.1=k)->((nH f kvs xs).any λkv=>decide (kv.1=f k))=kvs.any λp=>decide (p.1=k)
 | [],_,r,_=>by cases r.e9;rfl
 | p::kvs,_,r,inj=>by
  obtain⟨x,t,rfl,r1,r2⟩:=r.of_cons;rw[nH,cp,cp,BV r2 λq hq=>inj q (ai _ hq)];congr 1;rw[decide_eq_decide];exact⟨inj p (aq ..),λz=>by rw[z]⟩
theorem BW (rv:eB S H d v):∀{kvs:fI} {xs:List V},dO S H (!20) xs->(∀p∈kvs,f p.1=f k->p.1=k) ->
  ∃ys,(nH f kvs xs).map (λkv=>if kv.1=f k then (kv.1,v) else kv)=nH f (kvs.map λp=>if p.1=k then (p.1,d) else p) ys/\dO S H ((kvs.map λp=>if p.1=k then (p.1,d) else p).map (·.2)) ys
 | [],_,r,_=>⟨[],by cases r.e9;rfl,.nil⟩
 | p::kvs,_,r,inj=>by
  obtain⟨x,t,rfl,r1,r2⟩:=r.of_cons;obtain⟨ys,h1,h2⟩:=BW rv r2 λq hq=>inj q (ai _ hq);by_cases e:p.1=k
  .refine⟨v::ys,?_,?_⟩
   .rw[nH,ar,ar,h1,if_pos e,nH,if_pos (by rw[e])]
   .rw[ar,ar,if_pos e]
    exact .cons rv h2
  .have e2:¬ f p.1=f k:=λz=>e (inj p (aq ..) z)
   refine⟨x::ys,?_,?_⟩
   .rw[nH,ar,ar,h1,if_neg e,nH,if_neg e2]
   .rw[ar,ar,if_neg e]
    exact .cons r1 h2
theorem yd:∀{kvs:fI} {xs:List V} (d:ag),dO S H (!20) xs->nH f kvs xs++[(f k,v)]=nH f (kvs++[(k,d)]) (xs++[v])
 | [],_,d,r=>by cases r.e9;rfl
 | p::kvs,_,d,r=>by
  obtain⟨x,t,rfl,r1,r2⟩:=r.of_cons;rw[nH,bw,yd d r2];rfl
theorem vV (rv:eB S H d v)(r:dO S H (!20) xs)(inj:∀p∈kvs,f p.1=f k->p.1=k) :
  ∃ys,jj (nH f kvs xs) (f k) v=nH f (gQ kvs k d) ys/\dO S H ((gQ kvs k d).map (·.2)) ys:=by
 unfold jj gQ;rw[BV r inj];split
 .exact BW rv r inj
 .refine⟨xs++[v],yd d r,?_⟩
  rw[aO];exact r.append (.cons rv .nil)
end
theorem Ai:∀(kvs:fI) (xs:List V),G7 kvs xs=nH (λk=>(Sum.inl (k.headD 0):Key)) kvs xs
 | [],xs=>by cases xs<;>rfl
 | p::kvs,[]=>rfl
 | p::kvs,x::xs=>by rw[G7,nH,Ai kvs xs]
theorem lV:∀(kvs:fI) (xs:List V),nv kvs xs=nH (λk=>(k.map Sum.inl:List Key)) kvs xs
 | [],xs=>by cases xs<;>rfl
 | p::kvs,[]=>rfl
 | p::kvs,x::xs=>by rw[nv,nH,lV kvs xs]
theorem oG:∀{a b:List Int},(a.map Sum.inl:List Key)=b.map Sum.inl->a=b
 | [],[],_=>rfl
 | [],_::_,h=>by cases h
 | _::_,[],h=>by cases h
 | x::a,y::b,h=>by
  rw[ar,ar] at h;injection h with h1 h2;injection h1 with h1;rw[h1,oG h2]
theorem one_inj {a b:List Int}(ha:a.length=1)(hb:b.length=1)(h:(Sum.inl (a.headD 0):Key)=Sum.inl (b.headD 0)):a=b:=by
 match a,b,ha,hb with
 | [x],[y],_,_=>injection h with h;simpa using h
theorem oH {gs S:List Addr}{H:Hp}{t:Bool}{d:ag}{v:V}{k:List Int}(r:fb gs S H d v)(e:lB t d=some k):(t=false->k.length=1) /\
  (∀(a:Addr) (kvs:fI) (xs:List V),H a=some (mR t kvs xs)->dO S H (!20) xs->(t=false->∀p∈kvs,p.1.length=1) ->
   ((eO kvs k=none/\iS H a v none)\/∃d v',eO kvs k=some d/\iS H a v (some v')/\eB S H d v') /\
   ∀(d':ag) (v':V),eB S H d' v'->kvs.length<az->∃ys,pY H a v v' (eM H a (mR t (gQ kvs k d') ys))/\dO S H ((gQ kvs k d').map (·.2)) ys):=by
 cases t with
 | false =>
  obtain⟨i,rfl⟩:∃i,d=.int i:=by
   cases d with
   | int i=>exact⟨i,rfl⟩
   | _=>cases e
  cases e;rw[r.eQ];refine⟨λ_=>rfl,λa kvs xs ha rr hk=>?_⟩;have lp:H a=some (.dK (nH (λk=>(Sum.inl (k.headD 0):Key)) kvs xs)):=by rw[<- Ai];exact ha
  have inj:∀p∈kvs,(Sum.inl (p.1.headD 0):Key)=Sum.inl (([i]:List Int).headD 0)->p.1=[i]:=λp hp h=>one_inj (hk rfl p hp) rfl h;refine⟨?_,λd' v' rv hl=>?_⟩
  .have hg:iS H a (.int i) (ij (nH (λk=>(Sum.inl (k.headD 0):Key)) kvs xs) (Sum.inl i)):=iS.k (k:=Sum.inl i) lp
   rcases oF (f:=λk=>(Sum.inl (k.headD 0):Key)) (k:=[i]) rr inj with⟨h1,h2⟩ | ⟨d,v,h1,h2,h3⟩
   .have UC:ij (nH (λk=>(Sum.inl (k.headD 0):Key)) kvs xs) (Sum.inl i)=none:=h2
    rw[UC] at hg;exact .inl ⟨h1,hg⟩
   .have UC:ij (nH (λk=>(Sum.inl (k.headD 0):Key)) kvs xs) (Sum.inl i)=some v:=h2
    rw[UC] at hg;exact .inr ⟨d,v,h1,hg,h3⟩
  .obtain⟨ys,h1,h2⟩:=vV (f:=λk=>(Sum.inl (k.headD 0):Key)) (k:=[i]) rv rr inj
   refine⟨ys,?_,h2⟩;have hp:=pY.k (k:=Sum.inl i) (v:=v') lp (by rw[qE _ rr];exact hl);have Xl:jj (nH (λk=>(Sum.inl (k.headD 0):Key)) kvs xs) (Sum.inl i) v'=nH (λk=>(Sum.inl (k.headD 0):Key)) (gQ kvs [i] d') ys:=h1;rw[Xl,<- Ai] at hp;exact hp
 | true =>
  obtain⟨ds,rfl⟩:∃ds,d=.tuple ds:=by
   cases d with
   | tuple ds=>exact⟨ds,rfl⟩
   | _=>cases e
  have e':ds=k.map .int:=gw e;subst e';obtain⟨b,ys,rfl,hb,rb⟩:=r.fz;rw[gL rb] at hb;have y':H b=some (.tup ((k.map (Sum.inl:Int->Key)).map kV)):=by rw[bp];exact hb
  refine⟨(λz=>by cases z),λa kvs xs ha rr hk=>?_⟩;have lp:H a=some (.dT (nH (λk=>(k.map Sum.inl:List Key)) kvs xs)):=by rw[<- lV];exact ha
  have inj:∀p∈kvs,(p.1.map Sum.inl:List Key)=k.map Sum.inl->p.1=k:=λp _ h=>oG h;refine⟨?_,λd' v' rv hl=>?_⟩
  .have hg:=iS.t lp y'
   rcases oF (f:=λk=>(k.map Sum.inl:List Key)) (k:=k) rr inj with⟨h1,h2⟩ | ⟨d,v,h1,h2,h3⟩
   .rw[h2] at hg
    exact .inl ⟨h1,hg⟩
   .rw[h2] at hg
    exact .inr ⟨d,v,h1,hg,h3⟩
  .obtain⟨ys,h1,h2⟩:=vV (f:=λk=>(k.map Sum.inl:List Key)) (k:=k) rv rr inj
   refine⟨ys,?_,h2⟩;have hp:=pY.t (v:=v') lp y' (by rw[qE _ rr];exact hl);rw[h1,<- lV] at hp;exact hp
theorem Ext.ye (hp:p∈S)(h:H p=Option.some (mR t kvs xs)):Ext S H (eM H p o) :=
 ⟨λb u hb e=>by rw[dU (λ(z:b=p)=>hb (by rw[z];exact hp))];exact e,λb ys e=>by rw[dU (λz=>by rw[z,h] at e;cases t<;>cases e)];exact e⟩
theorem Ext.BX (a:Ext S H0 H)(h0:H0 p=none):Ext S H0 (eM H p o) :=
 ⟨λb u hb e=>by rw[dU (λz=>by rw[z,h0] at e;cases e)];exact a.keep b u hb e,λb ys e=>by rw[dU (λz=>by rw[z,h0] at e;cases e)];exact a.tup b ys e⟩
noncomputable def FX (env:eU)(i:Nat)(a:Addr):Prop:=∀j t kvs,j≠i->env[j]? ≠ some (some (.d a t kvs))
section
theorem dS.Ny (ok:dS M env pn σ S H n)(h0:H a=none)(h1:H' a=some (mR t kvs xs))(r:dO (a::S) H' (!20) xs)(hk:t=false->∀p∈kvs,p.1.length=1)(x:Ext M.gs H H')(g:M.G H' n')(hi:i ∉ M.fd) :
  dS M (env.set i (some (.d a t kvs))) pn (σ.set i (some (.ref a))) (a::S) H' n':=by
 have hg:∀b∈M.gs,b∈a::S:=λb hb=>ai _ (ok.p6 b hb);have jK:=ok.step x g;refine⟨λj e he=>?_,λj k ds es b h2 h3 h4 h5=>?_,by rw[be,be,ok.len],λj hj=>?_,g,jK.ext,λb hb=>ai _ (ok.s0 b hb),λb hb=>?_,λb hb=>?_,λp hp=>?_⟩
 .rcases eJ he with⟨rfl,e1⟩ | ⟨ne,e1⟩
  .cases e1
   have:i<env.length:=by
    by_cases z:i<env.length
    .exact z
    .rw[bL (by rw[be];omega)] at he;cases he
   exact⟨.ref a,iG (by rw[<- ok.len];exact this),rfl,xs,h1,r,hk,aq ..,ok.anew h0⟩
  .obtain⟨v',hv,rv⟩:=ok.val j e e1
   exact⟨v',by rw[aP ne];exact hv,(rv.fresh h0).step hg x⟩
 .rcases eJ h2 with⟨_,e1⟩ | ⟨n1,e1⟩
  .cases e1
  .rcases eJ h3 with⟨_,e2⟩ | ⟨n2,e2⟩
   .cases e2
   .rw[aP n1] at h4
    rw[aP n2] at h5;exact ok.ne j k ds es b e1 e2 h4 h5
 .have:i≠j:=λz=>hi (z ▸ hj)
  rw[aP this];exact ok.xu j hj
 .rcases ax.mp hb with z | z
  .rw[z];exact .inr (ok.anew h0)
  .exact ok.sn b z
 .rcases ax.mp hb with z | z
  .rw[z,h1];simp
  .exact jK.has b z
 .exact ((ok.pin p hp).fresh h0).ext (x.mono hg)
theorem dS.only (ok:dS M env pn σ S H n)(h0:H a=none)(j:Nat)(t:Bool)(kvs:fI):env[j]? ≠ some (some (.d a t kvs)):=λz=>by
 obtain⟨v,_,_,xs,ha,_,_,hs,_⟩:=ok.val j _ z;exact ok.has a hs h0
theorem dS.putD (ok:dS M env pn σ S H n)(he:env[i]? = some (some (.d a t kvs)))(ho:FX env i a)(r:dO S H (kvs'.map (·.2)) ys)(hk:t=false->∀p∈kvs',p.1.length=1) :
  dS M (env.set i (some (.d a t kvs'))) pn σ S (eM H a (mR t kvs' ys)) n:=by
 obtain⟨v',hv,rfl,xs,ha,_,_,hs,h0⟩:=ok.val i _ he;have x:Ext [a] H (eM H a (mR t kvs' ys)):=.ye (!4) ha;have xS:Ext S H (eM H a (mR t kvs' ys)):=x.mono (by simpa using hs);refine⟨λj e hj=>?_,λj k p7 tE b h2 h3 h4 h5=>?_,by rw[be,ok.len],ok.xu,M.ix ok.gd x (by simpa using h0),ok.ext.BX h0,ok.s0,ok.sn,λb hb=>?_,λp hp=>(ok.pin p hp).ext xS⟩
 .rcases eJ hj with⟨rfl,e1⟩ | ⟨ne,e1⟩
  .cases e1
   exact⟨_,hv,rfl,ys,dP,r.ext xS,hk,hs,h0⟩
  .obtain⟨w,hw,kN⟩:=ok.val j e e1
   refine⟨w,hw,?_⟩
   cases e with
   | s d=>exact eB.ext xS kN
   | o tE =>
    obtain⟨b,zs,e2,hb,r2,nT,rm⟩:=kN;subst e2;exact⟨b,zs,rfl,by rw[dU (λz=>by rw[z,ha] at hb;exact mz hb.symm)];exact hb,r2.ext xS,nT,rm⟩
   | x c as =>
    obtain⟨b,dx,vs,e2,hb,hd,r2,g1,g2⟩:=kN;exact⟨b,dx,vs,e2,by rw[dU (λz=>by rw[z,ha] at hb;cases t<;>cases hb)];exact hb,by rw[dU (λz=>by rw[z,ha] at hd;cases t<;>cases hd)];exact hd,r2.ext xS,g1,g2⟩
   | d b t2 Aj =>
    obtain⟨e2,zs,hb,r2,vp,nT,rm⟩:=kN;have UD:b≠a:=λz=>ho j t2 Aj (λz2=>ne z2.symm) (z ▸ e1);exact⟨e2,zs,by rw[dU UD];exact hb,r2.ext xS,vp,nT,rm⟩
   | f b o Aj zs =>
    obtain⟨e2,hb,r2,nT,rm⟩:=kN;exact⟨e2,by rw[dU (λz=>by rw[z,ha] at hb;cases t<;>cases hb)];exact hb,r2.ext xS,nT,rm⟩
 .rcases eJ h2 with⟨_,e1⟩ | ⟨n1,e1⟩
  .cases e1
  .rcases eJ h3 with⟨_,e2⟩ | ⟨n2,e2⟩
   .cases e2
   .exact ok.ne j k p7 tE b e1 e2 h4 h5
 .by_cases z:b=a
  .rw[z,dP];simp
  .rw[dU z];exact ok.has b hb
end
theorem rf {X:Cx}(h:X.A.units+64<cLine):X.A.units+1<cLine:=by omega
noncomputable def FY (i:Nat)(t:Bool):US:=λE env n=>∀a:Addr,(∀(j:Nat) (t':Bool) (kv:fI),env[j]? ≠ some (some (Ent.d a t' kv)))->E.nx (env.set i (some (.d a t []))) n
noncomputable def ng (i:Nat)(uk uv:UX):US:=λE env n=>uv env n λd n1=>match env[i]? with | some (some (.d a t kvs))=>uk env n1 λk n2=>lE (lB t k) λkk=>(kvs.length<az/\FX env i a)/\E.nx (env.set i (some (.d a t (gQ kvs kk d)))) n2 | _=>False
noncomputable def yf (i:Nat)(uk:UX):UX:=λenv n Q=>match env[i]? with | some (some (.d a t kvs))=>uk env n λk n1=>lE (lB t k) λkk=>lE (eO kvs kk) λd=>Q d n1 | _=>False
noncomputable def BY (i:Nat)(uk:UX):UX:=λenv n Q=>uk env n λk n1=>match env[i]? with | some (some (.d a t kvs))=>lE (lB t k) λkk=>Q (.bool (!(eO kvs kk).isSome)) n1 | _=>False
theorem Jo (hk:t=false->∀p∈kvs,p.1.length=1)(h1:t=false->k.length=1):t=false->∀p∈gQ kvs k d,p.1.length=1:=λht p hp=>by
 unfold gQ at hp;split at hp
 .obtain⟨q,hq,rfl⟩:=aM.mp hp
  split
  .exact hk ht q hq
  .exact hk ht q hq
 .rcases aL.mp hp with hp | hp
  .exact hk ht p hp
  .rw[au.mp hp];exact h1 ht
section
theorem FZ:QE X (.Dict [] [] pos) EL:=⟨EN⟩
theorem Jp (hN:X.N.Nodup)(hx:Loc X.env.scope x)(hi:X.N[i]? = some x:=by rfl)(hs:swapsWith (.Dict [] [] p) (some (.Name x fX)) pos.line X.env=pure false:=by rfl)
  (hf:X.fn x=true\/X.env.scope.names.lookup x=some .local:=by (first | exact .inl rfl | exact .inr rfl | assumption)) (hfd:i ∉ M.fd:=by decide):KS X M (.Assign [.Name x fX] (.Dict [] [] p) pos) (FY i true):=.of (gF hN hi hx FZ hs hf) λD σ H env pn S n E ok hu k1 k2 a ha =>
 k1 _ _ _ _ _ (ok.Ny (t:=true) (kvs:=[]) (xs:=[]) ha dP .nil (!4) (.new ha) (ok.grow (.new ha)) hfd) (hu a λj t kv=>ok.only ha j t kv)
theorem Ak (i:Nat)(hu:X.A.units+1<cLine)(hk:KL X M ke uk)(hv:KE X M ve uv)(hN:X.N[i]? = some x:=by rfl)(Jq:qM X.env.scope x:=by (first | exact Or.inl rfl | exact Or.inr (Or.inl rfl) | exact Or.inr (Or.inr rfl)))(hd:(x == (!12))=false:=by decide)(jb:(x == (!18))=false:=by decide)
  (hs:swapsWith ve (some (.Subscript (!25) ke fX)) pos.line X.env=pure false:=by rfl):KS X M (.Assign [.Subscript (!25) ke fX] ve pos) (ng i uk uv):=.of (qm hu (qv i hN Jq hd jb) hk.run hv.run hs) λD σ H env pn S n E ok rS k1 k2=>by
 refine⟨env,pn,S,n,_,ok,rS,λv H1 d n1 r1 x1 g1 _ q=>?_⟩;have iK:=ok.step x1 g1;split at q
 .rename_i a t kvs he
  obtain⟨v0,Hd,rfl,xs,ha,rr,CT,Lj,h0⟩:=iK.val i _ he;refine⟨_,Hd,env,pn,S,n1,_,iK,q,λy H3 kd n2 r2 x2 g2 _ q2=>?_⟩;obtain⟨kk,ek,⟨hl,ho⟩,q2⟩:=q2;have um:=iK.step x2 g2;obtain⟨Xm,UE,e',pN,lp,Df,Dh,_,_⟩:=um.val i _ he;obtain⟨h1,h2⟩:=oH r2 ek;obtain⟨ys,hp,hr⟩:=(h2 a kvs pN lp Df Dh).2 d v (r1.ext (x2.mono iK.p6)) hl;exact⟨a,_,rfl,hp,k1 _ _ _ _ _ (um.putD he ho hr (Jo Dh h1)) q2⟩
 .exact q.elim
theorem Nz (i:Nat)(hu:X.A.units+1<cLine)(hk:KL X M ke uk)(hN:X.N[i]? = some x:=by rfl)(Jq:qM X.env.scope x:=by (first | exact Or.inl rfl | exact Or.inr (Or.inl rfl) | exact Or.inr (Or.inr rfl)))(hd:(x == (!12))=false:=by decide)(jb:(x == (!18))=false:=by decide)
  (hs:CN ke:=by exact λ_ _=>rfl):KE X M (.Subscript (!25) ke pos) (yf i uk):=.of (mB hu (qv i hN Jq hd jb) hk.run hs) λσ H R env pn S n Q ok rS k=>by
 unfold yf at rS;split at rS
 .rename_i a t kvs he
  obtain⟨v0,Hd,rfl,xs,ha,rr,CT,Lj,h0⟩:=ok.val i _ he;refine⟨_,Hd,env,pn,S,n,_,ok,rS,λy H1 kd n1 r1 x1 g1 _ q=>?_⟩;obtain⟨kk,ek,d,ed,q⟩:=q;have iK:=ok.step x1 g1;obtain⟨Xm,UE,e',pN,lp,Df,Dh,_,_⟩:=iK.val i _ he;rcases ((oH r1 ek).2 a kvs pN lp Df Dh).1 with⟨z,_⟩ | ⟨d',v',z,hg,hr⟩
  .rw[z] at ed;cases ed
  .rw[z] at ed
   cases ed;exact⟨a,v',rfl,hg,k v' H1 _ n1 hr x1 g1 q⟩
 .exact rS.elim
theorem NA (i:Nat)(hu:X.A.units+1<cLine)(hk:KL X M ke uk)(hN:X.N[i]? = some x:=by rfl)(Jq:qM X.env.scope x:=by (first | exact Or.inl rfl | exact Or.inr (Or.inl rfl) | exact Or.inr (Or.inr rfl)))(hd:(x == (!12))=false:=by decide)(jb:(x == (!18))=false:=by decide)
  (hm:behindInMarks .NotIn (!25)=false:=by first | exact jZ _ | rfl):KB X M (.Compare ke [.NotIn] [.Name x p] pos) (fA (BY i uk)):=.of (⟨zh (tW hu hk.run.run (qv i hN Jq hd jb).run) hm⟩:QT X _ _) λσ H R env pn S n Q ok rS k=>by
 refine⟨env,pn,S,n,_,ok,rS,λy H1 kd n1 r1 x1 g1 _ q=>?_⟩;have iK:=ok.step x1 g1;split at q
 .rename_i a t kvs he
  obtain⟨kk,ek,q⟩:=q;obtain⟨v0,Hd,rfl,pN,lp,Df,Dh,_,_⟩:=iK.val i _ he;rcases ((oH r1 ek).2 a kvs pN lp Df Dh).1 with⟨z,hg⟩ | ⟨d',v',z,hg,hr⟩
  .rw[z] at q
   exact⟨_,Hd,a,_,rfl,hg,_,rfl,k _ H1 n1 x1 g1 q⟩
  .rw[z] at q
   exact⟨_,Hd,a,_,rfl,hg,_,rfl,k _ H1 n1 x1 g1 q⟩
 .exact q.elim
end
noncomputable def oI (p:ag × ag):Option (List Int × ag):=match p.1 with | .tuple ks=>(iq ks).map λk=>(k,p.2) | _=>none
noncomputable def He (d:ag):Option (Bool × fI):=match d with | .dict ((.bool t,.none)::l)=>(l.mapM oI).map λkvs=>(t,kvs) | _=>none
theorem F0:∀kvs:fI,(kvs.map λp=>(ag.tuple (p.1.map .int),p.2)).mapM oI=some kvs
 | []=>rfl
 | p::kvs=>by
  have e:oI (ag.tuple (p.1.map .int),p.2)=some p:=by
   unfold oI;simp only[g7];rfl
  rw[ar,cB,F0 kvs,e];rfl
theorem nI (t:Bool)(kvs:fI):He (fg t kvs)=some (t,kvs):=by
 unfold fg mZ He;simp only[F0,bW]
theorem yg:∀{l:List (ag × ag)} {kvs:fI},l.mapM oI=some kvs->l=kvs.map λp=>(ag.tuple (p.1.map .int),p.2)
 | [],kvs,h=>by cases h;rfl
 | p::l,kvs,h=>by
  rw[cB] at h
  cases hp:oI p with
  | none=>rw[hp] at h;cases h
  | some q =>
   cases hl:l.mapM oI with
   | none=>rw[hp,hl] at h;cases h
   | some r =>
    rw[hp,hl] at h;cases h;rw[ar,<- yg hl];congr 1;unfold oI at hp;split at hp
    .rename_i ks he
     cases ha:iq ks with
     | none=>rw[ha] at hp;cases hp
     | some k =>
      rw[ha] at hp;cases hp;rw[<- gw ha];cases p;simp only at he;rw[he]
    .cases hp
theorem yh (h:He d=some (t,kvs)):d=fg t kvs:=by
 unfold He at h;split at h
 .rename_i t' l
  cases hl:l.mapM oI with
  | none=>rw[hl] at h;cases h
  | some r =>
   rw[hl] at h;cases h;rw[fg,mZ,<- yg hl]
 .cases h
theorem F3 (h:mZ t kvs=mZ t' kvs'):t=t'/\kvs=kvs':=by
 have h1:=nI t kvs;rw[fg,h,<- fg,nI] at h1;cases h1;exact⟨rfl,rfl⟩
theorem fb.BZ (r:fb gs S H d v)(e:He d=some (t,kvs)):∃a xs,v=.ref a/\H a=some (mR t kvs xs)/\dO S H (!20) xs/\(t=false->∀p∈kvs,p.1.length=1):=by
 rw[yh e] at r;obtain⟨a,t',kvs',xs,e1,e2,ha,hk,hr⟩:=fb.lM r;obtain⟨rfl,rfl⟩:=F3 e2;exact⟨a,xs,e1,ha,hr,hk⟩
noncomputable def nh (ud uk:UX):UX:=λenv n Q=>ud env n λd n1=>lE (He d) λtk=>uk env n1 λk n2=>lE (lB tk.1 k) λkk=>lE (eO tk.2 kk) λx=>Q x n2
noncomputable def yi (uk ud:UX):UX:=λenv n Q=>uk env n λk n1=>ud env n1 λd n2=>lE (He d) λtk=>lE (lB tk.1 k) λkk=>Q (.bool (eO tk.2 kk).isSome) n2
section
variable {X:Cx}{M:Fr}{o e ke ve:Expr}{uk uv ud:UX}{pos fX p p2:Pos}
theorem vW (hu:X.A.units+1<cLine)(ho:KL X M o ud)(hk:KL X M ke uk)(hs:CN ke:=by exact λ_ _=>rfl):KE X M (.Subscript o ke pos) (nh ud uk):=.of (mB hu ho.run hk.run hs) λσ H R env pn S n Q ok rS k=>by
 refine⟨env,pn,S,n,_,ok,rS,λv H1 d n1 r1 x1 g1 _ q=>?_⟩;obtain⟨⟨t,kvs⟩,e,q⟩:=q;have iK:=ok.step x1 g1;refine⟨env,pn,S,n1,_,iK,q,λy H2 kd n2 r2 x2 g2 _ q2=>?_⟩;obtain⟨kk,ek,x,ex,q2⟩:=q2;obtain⟨a,xs,rfl,ha,rr,CT⟩:=(r1.ext iK.p6 x2).BZ e;rcases ((oH r2 ek).2 a kvs xs ha rr CT).1 with⟨z,_⟩ | ⟨d',v',z,hg,hr⟩
 .rw[z] at ex;cases ex
 .rw[z] at ex
  cases ex;exact⟨a,v',rfl,hg,k v' H2 _ n2 hr (x1.trans x2) g2 q2⟩
theorem Rj {σ:St}{H:Hp}{env:eU}{pn:List (ag × V)}{S:List Addr}{n:Int}{Q:ag->Int->Prop}{f:Bool->Bool}{R:Addr->Option V->V->Hp->Prop}(ok:dS M env pn σ S H n)
  (rS:uk env n λk n1=>ud env n1 λd n2=>lE (He d) λtk=>lE (lB tk.1 k) λkk=>Q (.bool (f (eO tk.2 kk).isSome)) n2)
  (k:∀a y ov H2 n2,iS H2 a y ov->Ext M.gs H H2->M.G H2 n2->Q (.bool (f ov.isSome)) n2->R a ov y H2) :
  xv M uk σ H λy H1=>xv M ud σ H1 λx H2=>∃a ov,x=.ref a/\iS H2 a y ov/\R a ov y H2 :=
 ⟨env,pn,S,n,_,ok,rS,λy H1 kd n1 r1 x1 g1 _ q=>⟨env,pn,S,n1,_,ok.step x1 g1,q,λv H2 d n2 r2 x2 g2 _ q2=>by
  obtain⟨⟨t,kvs⟩,e,kk,ek,q2⟩:=q2;obtain⟨a,xs,rfl,ha,rr,CT⟩:=r2.BZ e;rcases ((oH (r1.ext ok.p6 x2) ek).2 a kvs xs ha rr CT).1 with⟨z,hg⟩ | ⟨d',v',z,hg,hr⟩
  .rw[z] at q2
   exact⟨a,none,rfl,hg,k a y none H2 n2 hg (x1.trans x2) g2 q2⟩
  .rw[z] at q2
   exact⟨a,some v',rfl,hg,k a y (some v') H2 n2 hg (x1.trans x2) g2 q2⟩⟩⟩
theorem Lk (hu:X.A.units+1<cLine)(hk:KL X M ke uk)(ho:KL X M o ud)(hm:behindInMarks .In o=false:=by first | exact jZ _ | rfl):KE X M (.Compare ke [.In] [o] pos) (yi uk ud):=.of (⟨LO (EJ hu hk.run.run ho.run.run) hm⟩:QE X _ _) λσ H R env pn S n Q ok rS k =>
 Rj (f:=id) ok rS λa y ov H2 n2 hg x g q=>k _ H2 _ n2 (.bl _) x g q
theorem Ll (hu:X.A.units+1<cLine)(hk:KL X M ke uk)(ho:KL X M o ud)(hm:behindInMarks .In o=false:=by first | exact jZ _ | rfl):KB X M (.Compare ke [.In] [o] pos) (fA (yi uk ud)):=.of (⟨zh (EJ hu hk.run.run ho.run.run) hm⟩:QT X _ _) λσ H R env pn S n Q ok rS k =>
 Rj (f:=id) (Q:=λd n'=>T3 d λb=>Q b n') ok rS λa y ov H2 n2 hg x g q=>⟨_,rfl,k _ H2 n2 x g q⟩
end
section
theorem dS.hold (ok:dS M env pn σ S H n){a:Addr}(h0:H a=none)(h1:H' a≠none)(x:Ext M.gs H H')(g:M.G H' n'):dS M env pn σ (a::S) H' n':=by
 have hg:∀b∈M.gs,b∈a::S:=λb hb=>ai _ (ok.p6 b hb);have jK:=ok.step x g;refine⟨λj e he=>?_,ok.ne,ok.len,ok.xu,g,jK.ext,λb hb=>ai _ (ok.s0 b hb),λb hb=>?_,λb hb=>?_,λp hp=>((ok.pin p hp).fresh h0).ext (x.mono hg)⟩
 .obtain⟨v',hv,rv⟩:=ok.val j e he
  exact⟨v',hv,(rv.fresh h0).step hg x⟩
 .rcases ax.mp hb with z | z
  .rw[z];exact .inr (ok.anew h0)
  .exact ok.sn b z
 .rcases ax.mp hb with z | z
  .rw[z];exact h1
  .exact jK.has b z
theorem dS.F4 (ok:dS M env pn σ S H n){a:Addr}{t:Bool}{kvs:fI}{xs:List V}(ha:H a=some (mR t kvs xs))(r:dO S H (!20) xs)(hk:t=false->∀p∈kvs,p.1.length=1)(hs:a∈S)(h0:M.H0 a=none)(hi:i ∉ M.fd) :
  dS M (env.set i (some (.d a t kvs))) pn (σ.set i (some (.ref a))) S H n:=by
 refine⟨λj e he=>?_,λj k ds es b h2 h3 h4 h5=>?_,by rw[be,be,ok.len],λj hj=>?_,ok.gd,ok.ext,ok.s0,ok.sn,ok.has,ok.pin⟩
 .rcases eJ he with⟨rfl,e1⟩ | ⟨ne,e1⟩
  .cases e1
   have:i<env.length:=by
    by_cases z:i<env.length
    .exact z
    .rw[bL (by rw[be];omega)] at he;cases he
   exact⟨.ref a,iG (by rw[<- ok.len];exact this),rfl,xs,ha,r,hk,hs,h0⟩
  .obtain⟨v',hv,rv⟩:=ok.val j e e1
   exact⟨v',by rw[aP ne];exact hv,rv⟩
 .rcases eJ h2 with⟨_,e1⟩ | ⟨n1,e1⟩
  .cases e1
  .rcases eJ h3 with⟨_,e2⟩ | ⟨n2,e2⟩
   .cases e2
   .rw[aP n1] at h4
    rw[aP n2] at h5;exact ok.ne j k ds es b e1 e2 h4 h5
 .have:i≠j:=λz=>hi (z ▸ hj)
  rw[aP this];exact ok.xu j hj
end
noncomputable def Al (i:Nat)(uk uv:UX):US:=λE env n=>uk env n λk n1=>uv env n1 λd n2=>lE (lB false k) λkk=>∀a:Addr,(∀(j:Nat) (t':Bool) (kv:fI),env[j]? ≠ some (some (Ent.d a t' kv)))->E.nx (env.set i (some (.d a false [(kk,d)]))) n2
section
theorem Jr (hN:X.N.Nodup)(hx:Loc X.env.scope x)(hk:KE X M ke uk)(hv:KE X M ve uv)(hi:X.N[i]? = some x:=by rfl)(hs:swapsWith (.Dict [some ke] [ve] p) (some (.Name x fX)) pos.line X.env=pure false:=by rfl)
  (hf:X.fn x=true\/X.env.scope.names.lookup x=some .local:=by (first | exact .inl rfl | exact .inr rfl | assumption)) (hfd:i ∉ M.fd:=by decide):KS X M (.Assign [.Name x fX] (.Dict [some ke] [ve] p) pos) (Al i uk uv) :=
 .of (gF hN hi hx (⟨IB (EO hk.run.run hv.run.run IA) rfl rfl (!4) (!4)⟩:QE X _ _) hs hf) λD σ H env pn S n E ok hu k1 k2 a ha=>by
  have x0:Ext M.gs H (eM H a (.dK [])):=.new ha;have Lm:=ok.hold (H':=eM H a (.dK [])) ha (by rw[dP];simp) x0 (ok.grow (.new ha));have Ln:a ∉ M.gs:=M.out (ok.anew ha);refine⟨env,pn,a::S,n,_,Lm,hu,λy H1 kd n1 r1 x1 g1 _ q=>?_⟩;have iK:=Lm.step x1 g1;refine⟨env,pn,a::S,n1,_,iK,q,λv H2 d n2 r2 x2 g2 _ q=>?_⟩;have um:=iK.step x2 g2;obtain⟨kk,ek,q⟩:=q;have h2:H2 a=some (.dK []):=x2.keep _ _ Ln (x1.keep _ _ Ln dP)
  obtain⟨j,rfl⟩:∃j:Int,kd=.int j:=by
   cases kd with
   | int j=>exact⟨j,rfl⟩
   | _=>cases ek
  cases ek;refine⟨h2,[(.inl j,v)],by rw[r1.eQ];rfl,!4,?_⟩;have UH:=um.F4 (i:=i) (t:=false) (kvs:=[]) (xs:=[]) h2 .nil (!4) (aq ..) (ok.anew ha) hfd
  have qa:(env.set i (some (Ent.d a false [])))[i]? = some (some (Ent.d a false []))\/env.length<=i:=by
   by_cases z:i<env.length
   .exact .inl (iG z)
   .exact .inr (!1)
  have pJ:=λj' t' kv=>ok.only ha j' t' kv;rcases qa with qa | hlen
  .have Rk:=UH.putD (kvs':=[([j],d)]) (ys:=[v]) qa (λj' t' kv hV z=>by
    rw[aP (λz=>hV z.symm)] at z;exact pJ j' t' kv z) (.cons r2 .nil) (λ_ p hp=>by rw[au.mp hp];rfl)
   rw[dI] at Rk;exact k1 _ _ _ _ _ Rk (q a pJ)
  .have Hf:∀y,env.set i y=env:=λy=>c6 hlen
   have sQ:∀y,σ.set i y=σ:=λy=>c6 (by rw[<- ok.len];exact hlen);have UK:=ok.hold (H':=eM H2 a (mR false [([j],d)] [v])) (n':=n2) ha (by rw[dP];simp) (((x0.trans x1).trans x2).BX ha) (M.ix g2 (Ext.ye (S:=[a]) (t:=false) (kvs:=[]) (xs:=[]) (!4) h2) (by simpa using ok.anew ha));have:=q a pJ;rw[Hf] at this;refine k1 _ _ _ _ _ (?_:dS M env pn _ (a::S) _ n2) this;rw[sQ];exact UK
end
section
theorem vX {id:String}{b:Builtin}{args:List ah}{kw:List (Str × ah)}{Q:ah->aw->Prop}(hk:builtinKind id=none)(hp:plainId id=true)(hb:entryFor table id=some b)(ha:argsOk id ⟨args,kw⟩)
  (hc:aG (!10) A.in1 (b ⟨args,kw⟩) (λfin s'=>match fin with
   | .done f=>(match (Except.ok f:Result) with | .ok (.ret v)=>Q v s' | .ok _=>False | .error e=>E e s')
   | .again c'=>c'.quiet=true/\codeAny (!10) A c' (λr s'=>match r with | .ok (.ret v)=>Q v s' | .ok _=>False | .error e=>E e s') s') E s):aG (!10) A (call (.builtin id) args kw) Q E s:=by
 refine wpAny_call (codeAny_call_builtin hp hb ?_);simp only[checkBuiltinCall,hk]
 cases UL:Manifest.signature? id with
 | none=>exact aj hc
 | some sig =>
  simp only[argsOk,UL] at ha;have h2:Bind.checkArgs id sig ⟨args,kw⟩=pure ():=ha;show aG _ A.in1 (Bind.checkArgs id sig ⟨args,kw⟩) _ _ s;rw[h2];exact aj hc
theorem Di (a d:ah):argsOk "min" ⟨[a],[("default",d)]⟩:=by unfold argsOk;kernel_rfl
theorem Js (hh:A.handled=none)(gl:s.heap.IsList l vs)(cmp:uq prog w A.in1 s.heap .Lt (λi v=>vs[i]? = some v) bt)
  (gC:vs.size=0->∀h1 tk,iy s.heap h1->Q .none { s with heap:=h1,toks:=tk })
  (fin:∀v h1 tk,0<vs.size->vs[argBest bt (vs.size - 1)]? = some v->iy s.heap h1->Q v { s with heap:=h1,toks:=tk }):aG (!10) A (call (.builtin "min") [.ref l] [("default",.none)]) Q E s:=by
 have nm:(toString "min" ++ toString ".loop" : String) = "min.loop" := by decide
 have ll:l<s.heap.objs.size:=let ⟨_,e,_⟩:=gl;aD e;refine vX F.kind_min F.plain_min F.entry_min (Di _ _) ?_;refine aa (m:=Builtin.Builtins.bindParams "min" ["key", "default"] 0 ⟨[],[("default",.none)]⟩) (wpAny_of_eq (show _=pure [none,some .none] from rfl) (aa (aj (aa ?_))));refine wpAny_pyIter_list gl (aa (aY ?_));rw[nm];have W:=Walks.list (prog:=prog) (w:=w) (A:=A.in1) hh s.heap.objs.size l (aR ll) vs;have no:∀k,s.heap.get? (s.heap.objs.size+k)=none:=λk=>by simp[Heap.get?]
 have gi:(s.heap.push { cls:=.type "list_iterator",data:=.fields #[.ref l,.int 0 0] }).IsListIter s.heap.objs.size l 0:=⟨_,ay _ rfl,rfl,rfl⟩;have sz:(s.heap.push { cls:=.type "list_iterator",data:=.fields #[.ref l,.int 0 0] }).objs.size=s.heap.objs.size+1:=bV ..;have oy:iy s.heap (s.heap.push { cls:=.type "list_iterator",data:=.fields #[.ref l,.int 0 0] }):=λb o e=>ak _ e;have DP:(s.heap.push { cls:=.type "list_iterator",data:=.fields #[.ref l,.int 0 0] }).IsList l vs:=gl.push _;show aG _ _ _ _ _ { s with heap:=(s.heap.push { cls:=.type "list_iterator",data:=.fields #[.ref l,.int 0 0] }).push { cls:=.type "list",data:=.seq #[] 0 } };generalize s.heap.push { cls:=.type "list_iterator",data:=.fields #[.ref l,.int 0 0] }=h1 at gi sz oy DP ⊢;have gz:(h1.push { cls:=.type "list",data:=.seq #[] 0 }).get? h1.objs.size=some { cls:=.type "list",data:=.seq #[] 0 }:=ay _ rfl;have m8:iy h1 (h1.push { cls:=.type "list",data:=.seq #[] 0 }):=λb o e=>ak _ e
 have zf:h1.objs.size ∉ [s.heap.objs.size,l]:=by
  rw[sz];simp only[ax,cR,or_false,not_or];exact⟨cQ _,bB (b8 ll)⟩
 have zw:h1.objs.size ∉ [s.heap.objs.size]:=λy=>zf (W.sub _ y);refine aj ⟨plainId_quiet F.plain_min_loop _,codeAny_builtin F.entry_min_loop ?_⟩;rw[Around.under_plainId F.plain_min_loop _];refine aa (m:=seqItems? (.ref h1.objs.size)) (wpAny_seqItems gz rfl ?_);by_cases hV:0<vs.size
 .refine aa (m:=tryCatch (pyNext (!14)) _) (wpAny_tryCatch (W.item 0 _ _ _ hV (W.frame _ _ _ ⟨gi,DP⟩ λb _ o e=>m8 b o e) λv h3 t3 pv zj k3=>?_))
  have g3:=k3 _ _ zw gz;have rF:iy s.heap h3:=λb o e=>k3 b o (λy=>by rw[au.mp y,<- cy s.heap.objs.size,no] at e;cases e) (m8 b o (oy b o e));refine aa (m:=updateSeq h1.objs.size λ_=>#[v,v]) (wpAny_updateSeq g3 rfl ?_);rw[nm];refine aj ⟨plainId_quiet F.plain_min_loop _,Fw W (λb hb=>by rw[au.mp hb,<- cy s.heap.objs.size];exact no 0) bt cmp h1.objs.size zf (by rw[sz];exact no 1) (vs.size - 1) 0 _ v _ (!1) (W.frame _ _ _ zj λx xf o e=>(aI _ _ (λq:h1.objs.size=x=>zf (by rw[q];exact xf))).trans e) pv (aT _ g3 rfl) (λx o e=>(aI _ _ (λq:h1.objs.size=x=>by rw[<- q,sz,no] at e;cases e)).trans (rF x o e)) λv' h4 t4 p4 k4=>fin v' h4 t4 hV p4 k4⟩
 .have e0:vs.size=0:=by omega
  refine aa (m:=tryCatch (pyNext (!14)) _) (wpAny_tryCatch (W.done _ _ _ (by rw[e0];exact W.frame _ _ _ ⟨gi,DP⟩ λb _ o e=>m8 b o e) λh3 t3 k3=>?_));have rF:iy s.heap h3:=λb o e=>k3 b o (λy=>by rw[au.mp y,<- cy s.heap.objs.size,no] at e;cases e) (m8 b o (oy b o e));exact aa (wpAny_rule (aj (gC e0 h3 t3 rF)))
end
noncomputable def F5 (ue:UX):UX:=λenv n Q=>ue env n λd n1=>match d with | .list []=>Q .none n1 | .list (d::ds)=>vM false (d::ds)/\Q (iN false d ds) n1 | _=>False
section
variable {X:Cx}{M:Fr}{e:Expr}{ue:UX}{p kp p3 pos:Pos}
theorem Dj (hc:X.calm=true)(hu:X.A.units+64<cLine)(I:Inv X pins σ H s)(hp:gD X.K H q ys)(hr:dO S H ds ys)
  (h:match (generalizing:=false) ds with | []=>Q .gC H | d::ds=>vM false (d::ds)/\∀v,eB S H (iN false d ds) v->Q v H):aG (!11) X.A (call (.builtin "min") [.ref q] [("default",.none)]) (EP X pins σ Q) X.xe s:=by
 obtain⟨its,rv,ht,hz⟩:=I.list hp;have hlen:its.length=ds.length:=by rw[<- rv.length,hr.length]
 have C6:vM false ds:=by
  cases ds with
  | nil=>intro x hx;cases hx
  | cons d ds=>exact h.1
 have Hb:ag.canLayAll0 ds=true:=nD λx hx=>(C6 x hx).1.1
 have qa:∀i,i<its.length->ds.getD i .none∈ds:=λi hi=>by
  rw[am,aK (!1),bZ];exact bC _
 refine Js (I.ok.hd hc) ht.isList (bt:=DR false ds) (λi j u v s' Q' E' held hi hj hq=>?_) (λh0 h1 tk held=>?_) λv h1 tk h0 hv held=>?_
 .have hi:its.toArray[i]? = some u:=hi
  have hj:its.toArray[j]? = some v:=hj;rw[dg] at hi hj;obtain⟨as,ra⟩:=dO.reads (I.kept (h':=s'.heap) (t':=s.toks) held).eP Hb hr rv;obtain⟨i1,rfl⟩:=aA.mp hi;obtain⟨j1,rfl⟩:=aA.mp hj;obtain⟨Ur,r1⟩:=fO ra i1;obtain⟨Us,r2⟩:=fO ra j1;have mi:=qa i i1;have mj:=qa j j1;obtain⟨r,hr⟩:=bX.mp ((C6 _ mi).2 _ mj);have e:DR false ds i j=r:=by unfold DR;rw[hr];rfl
  rw[e] at hq;exact BJ 50 _ _ r X.A.in1 s' _ _ Ur Us (C6 _ mi).1.2 r1 r2 (C6 _ mi).1.1 (C6 _ mj).1.1 (by show X.A.units+1+50<_;omega) hr X.prog X.w E' Q' hq
 .rw[aE,hlen] at h0
  cases ds with
  | nil=>exact⟨.gC,H,I.kept held,rfl,h⟩
  | cons d ds=>simp at h0
 .rw[dg] at hv
  obtain⟨k1,rfl⟩:=aA.mp hv;obtain⟨x,rx,lh⟩:=hr.Uq rv _ k1
  cases ds with
  | nil=>rw[aE,hlen] at h0;simp at h0
  | cons d ds =>
   have hs:its.toArray.size - 1=ds.length:=by rw[aE,hlen,av];omega
   rw[hs,vN false d ds ds.length (ap _),dC] at rx;exact⟨x,H,I.kept held,lh,h.2 x rx⟩
noncomputable def Rl (te:TE):TE:=λσ H Q=>te σ H λx H1=>∃q ys S ds,x=.ref q/\gD X.K H1 q ys/\dO S H1 ds ys/\match ds with | []=>Q .gC H1 | d::ds=>vM false (d::ds)/\∀v,eB S H1 (iN false d ds) v->Q v H1
theorem Jt {j}(hc:X.calm=true)(hu:X.A.units+64<cLine)(he:QE X e te)(hm:X.mg "min" = none)(hg:Gl X "min")(hs:eV e=true)(h1:backTo pos (starEach [e] X.env)=(false,eval e X.env)::backTo pos (starEach [] X.env))(h2:(backTo pos (starEach [e] X.env)).any (·.1)=false) :
  QE X (.Call (.Name "min" p) [e] [⟨some "default",.Constant .none j p3,kp⟩] pos) (Rl (X:=X) te):=⟨λpins s σ H Q I h=>by
 refine wpAny_Call_Name_kw (oV (u:=.builtin "min") I hg hm (!3) ?_);have ha:=(gZ he fi hs).run pos pins s σ H (λvs H1=>match vs with | [x]=>∃q ys S ds,x=.ref q/\gD X.K H1 q ys/\dO S H1 ds ys/\(match ds with | []=>Q .gC H1 | d::ds=>vM false (d::ds)/\∀v,eB S H1 (iN false d ds) v->Q v H1) | _=>False) I h;refine callWith_kw (fE ha λus s1 ⟨vs,H1,I1,r1,q1⟩=>?_) h1 h2
 match vs,r1,q1 with
 | [x],r1,⟨q,ys,S,ds,ex,sq,rr,q2⟩ =>
  subst ex;obtain⟨u,rfl,ru⟩:=vals1 r1;cases ru;refine kws_cons (fE (DZ pins s1 σ H1 (λx H2=>x=.gC/\H2=H1) I1 ⟨rfl,rfl⟩) λv s2 ⟨x,H2,I2,rx,hx,hH⟩=>kws_nil ?_);subst hx hH;cases (show v=ah.none from rx);exact Dj hc hu I2 sq rr q2⟩
theorem NB {j}(hc:X.calm=true)(hu:X.A.units+64<cLine)(he:KL X M e ue)(hm:X.mg "min" = none)(hg:Gl X "min" := by rfl)(hs:eV e=true:=by rfl)(h1:backTo pos (starEach [e] X.env)=(false,eval e X.env)::backTo pos (starEach [] X.env):=by rfl)(h2:(backTo pos (starEach [e] X.env)).any (·.1)=false:=by rfl) :
  KE X M (.Call (.Name "min" p) [e] [⟨some "default",.Constant .none j p3,kp⟩] pos) (F5 ue):=.of (Jt hc hu he.run hm hg hs h1 h2) λσ H R env pn S n Q ok rS k=>by
 refine⟨env,pn,S,n,_,ok,rS,λv H1 d n1 r1 x1 g1 _ q=>?_⟩;have iK:=ok.step x1 g1;split at q
 .obtain⟨a,xs,rfl,sq,_,rr⟩:=r1.G9 (K:=X.K)
  exact⟨a,xs,S,[],rfl,sq,rr,k _ H1 _ n1 .gC x1 g1 q⟩
 .rename_i d ds
  obtain⟨a,xs,rfl,sq,_,rr⟩:=r1.G9 (K:=X.K);exact⟨a,xs,S,d::ds,rfl,sq,rr,q.1,λv rv=>k v H1 _ n1 rv x1 g1 q.2⟩
 .exact q.elim
end
section
variable {prog:aV}{w:World}{A:Around}{E:ah->aw->Prop}{s:aw}{d it:Addr}{o:Obj}{es:Array DictEntry}{ep i:Nat}
theorem yj {Q:ah->aw->Prop}(hd:(d == sysModules)=false)(ho:s.heap.get? d=some o)(hc:o.ExactDict)(hk:o.data=.dict es ep)
  (q:Q (!14) { s with heap:=s.heap.push { cls:=.type "dict_keyiterator",data:=.fields #[.ref d,.int 0 0,.int es.size 0,.int ep 0] } }):aG (!10) A (pyIter (.ref d)) Q E s:=by
 have ty:s.TypeIs (.ref d) "dict" := ⟨o,ho,hc.1⟩;refine wpAny_pyIter_slot ty F.slot_dict_iter (wpAny_call_entry F.slot_dict_iter ty F.entry_dict_iter (aa ?_) (F.args_dict_iter_1 _));refine aa (wpAny_notOrdered_dict ty (aj ?_));refine (aa ?_:aG _ _ (Builtin.Dict.showsAll d >>= _) _ _ s);unfold Builtin.Dict.showsAll;rw[if_neg (by rw[hd];decide)];refine aj (aa (wpAny_dictEntries ho hk (aa (wpAny_dictEpoch ho hk (aa (aY (aj ⟨_,rfl, "dict_keyiterator",_,⟨_,ay _ rfl,rfl⟩,F.slot_dict_keyiterator_next.lookup,?_⟩)))))));simpa [rawInt] using q
theorem yk {Q:Option ah->aw->Prop}(st:s.heap.IsKeyIter it d i es.size ep)(ho:s.heap.get? d=some o)(hk:o.data=.dict es ep)(hi:i<es.size)
  (q:∀h',h'.IsKeyIter it d (i+1) es.size ep->Heap.SameBut it s.heap h'->Q (some es[i].key) { s with heap:=h' }):aG (!10) A (pyNext (.ref it)) Q E s:=by
 obtain⟨u,hu,c,f⟩:=id st;unfold pyNext;refine aa (wpAny_attempt (wpAny_callSpecial?_slot (name:=Str.ofString "__next__") st.typeIs F.slot_dict_keyiterator_next (wpAny_call_entry F.slot_dict_keyiterator_next st.typeIs F.entry_dict_keyiterator_next (aa (aj ?_)) (F.args_dict_keyiterator_next_1 _))));refine aa (aa ?_);first | refine aa (wpAny_typeNameOfWhole_keyiter st.typeIs (aj (aa (wpAny_fieldsOf hu f ?_)))) | refine aa (wpAny_typeNameOf_keyiter st.typeIs (aj (aa (wpAny_fieldsOf hu f ?_))))
 simp only[show Builtin.Dict_items.ownsTuple "dict_keyiterator" = false by decide,bx,if_false];show aG _ _ (ite ((ah.ref d == ah.none)=true) _ _) _ _ s;rw[if_neg (show ¬ ((ah.ref d == ah.none)=true) from aX)];refine aa (aj (aa (wpAny_dictEntries ho hk ?_)));rw[if_neg (!4)];refine aa (aj (aa (wpAny_dictEpoch ho hk ?_)));rw[if_neg (!4)];refine aj ?_;simp only[show ¬ ((i:Int)<0) from by omega,if_false,bQ,cT hi];refine aa ?_;first | refine aa (wpAny_typeNameOfWhole_keyiter st.typeIs (aj (aa (wpAny_isOneOf_keyiter st.typeIs ?_)))) | refine aa (wpAny_typeNameOf_keyiter st.typeIs (aj (aa (wpAny_isOneOf_keyiter st.typeIs ?_))))
 refine (aa (wpAny_setField hu f (!4) ?_):aG _ _ (setField (.ref it) 1 (rawInt ((i:Int)+1)) >>= _) _ _ s);have eK:(s.heap.update it (Obj.mapFields (·.setIfInBounds 1 (rawInt ((i:Int)+1))))).IsKeyIter it d (i+1) es.size ep:=⟨_,aT _ hu (Obj.isFreed_of_fields (Obj.data_mapFields f _)),(Obj.cls_mapFields ..).trans c,by rw[Obj.data_mapFields f];simp[rawInt]⟩;refine aa (wpAny_holding (aa (wpAny_isOneOf_keyiter (s:={ s with heap:=s.heap.update it (Obj.mapFields (·.setIfInBounds 1 (rawInt ((i:Int)+1)))) }) eK.typeIs ?_)));show aG _ _ (pure es[i].key) _ _ _;exact aj (aj ⟨_,rfl,aj (q _ eK (Heap.SameBut.update ..))⟩)
theorem B0 {Q:Option ah->aw->Prop}(hh:A.handled=none)(st:s.heap.IsKeyIter it d i es.size ep)(ho:s.heap.get? d=some o)(hk:o.data=.dict es ep)(hi:es.size<=i)
  (q:∀h',Heap.ExtBut it s.heap h'->Q none { s with heap:=h' }):aG (!10) A (pyNext (.ref it)) Q E s:=by
 obtain⟨u,hu,c,f⟩:=id st;unfold pyNext;refine aa (wpAny_attempt (wpAny_callSpecial?_slot (name:=Str.ofString "__next__") st.typeIs F.slot_dict_keyiterator_next (wpAny_call_entry F.slot_dict_keyiterator_next st.typeIs F.entry_dict_keyiterator_next (aa (aj ?_)) (F.args_dict_keyiterator_next_1 _))));refine aa (aa ?_);first | refine aa (wpAny_typeNameOfWhole_keyiter st.typeIs (aj (aa (wpAny_fieldsOf hu f ?_)))) | refine aa (wpAny_typeNameOf_keyiter st.typeIs (aj (aa (wpAny_fieldsOf hu f ?_))))
 simp only[show Builtin.Dict_items.ownsTuple "dict_keyiterator" = false by decide,bx,if_false];show aG _ _ (ite ((ah.ref d == ah.none)=true) _ _) _ _ s;rw[if_neg (show ¬ ((ah.ref d == ah.none)=true) from aX)];refine aa (aj (aa (wpAny_dictEntries ho hk ?_)));rw[if_neg (!4)];refine aa (aj (aa (wpAny_dictEpoch ho hk ?_)));rw[if_neg (!4)];refine aj ?_;simp only[show ¬ ((i:Int)<0) from by omega,if_false,bQ,Array.getElem?_eq_none hi];refine aa ?_;first | refine aa (wpAny_typeNameOfWhole_keyiter st.typeIs (aj ?_)) | refine aa (wpAny_typeNameOf_keyiter st.typeIs (aj ?_))
 refine (aa (wpAny_setField hu f (!4) ?_):aG _ _ (setField (.ref it) 0 .none >>= _) _ _ s);refine (aa ?_:aG _ _ (newExc (.type "StopIteration") [] >>= _) _ _ _);simp only[newExc,newTuple];refine aa (aY (aa (m:=firstArgMember _ _) (wpAny_of_eq (a:=ah.none) (by first | rfl | (simp only[firstArgMember];rfl)) (aY ?_ (by size_fits)))) (by size_fits));simp only[raiseNew];refine aa (wpAny_handled ?_);rw[show A.in1.handled=none from hh];refine aa (aj (wpAny_throw (aa ?_)));exact wpAny_isInstance (T := "StopIteration") (b:=true) ⟨_,ay _ rfl,rfl⟩ isSubtype_stop (aj (q _ (((Heap.SameBut.update ..).extBut.push _).push _)))
end
theorem Paired.at {α β:Type}{F:α->β->Prop}:∀{l:List α} {m:List β},Paired F l m->∀(i:Nat) (p:α),l[i]? = some p->∃q,m[i]? = some q/\F p q
 | _,_,.nil,i,p,h=>by simp at h
 | _,_,.cons r t,0,p,h=>by
  rw[af] at h;cases h;exact⟨_,rfl,r⟩
 | _,_,.cons r t,i+1,p,h=>by
  rw[ae] at h;exact Paired.at t i p h
noncomputable def V4 (o:Obj)(a:Addr)(kvs:List (List Key × V)):It :=
 ⟨λi H=>H a=some (.nj o (.dT kvs))/\i<kvs.length,λi H x H'=>H'=H/\∃k v b,kvs[i]? = some (k,v)/\x=.ref b/\H b=some (.tup (k.map kV)),λi H=>H a=some (.nj o (.dT kvs))/\kvs.length<=i⟩
section
variable {X:Cx}{pins:List (Addr × Obj)}{s:aw}{σ:St}{H:Hp}{a:Addr}{o:Obj}{kvs:List (List Key × V)}{es:Array DictEntry}{ep:Nat}{tg:Expr}
theorem Lp (x:fH X.prog X.w H s.heap a (.dT kvs)):∃o es ep,s.heap.get? a=some o/\o.ExactDict/\o.data=.dict es ep/\(a == sysModules)=false/\es.size=kvs.length/\∀(i:Nat) (h:i<es.size) (p:List Key × V),kvs[i]? = some p->∃b,es[i].key=.ref b/\H b=some (.tup (p.1.map kV)):=by
 obtain⟨_,y,xs,r,o,es,ep,e,c,d,k,_⟩:=x;have hl:es.size=xs.length:=size_of_entries k;refine⟨o,es,ep,e,c,d,y,by rw[hl];exact (Paired.length r).symm,λi h p hp=>?_⟩;obtain⟨q,hq,z1,z2,_⟩:=Paired.at r i p hp;have:=entry_at k i;rw[hq,cT h] at this;exact⟨q.2.1,by rw[Option.some.inj this];rfl,z2⟩
theorem Lq (I:Inv X pins σ H s)(h:H a=some (.nj o (.dT kvs)))(hd:o.data=.dict es ep):s.heap.get? a=some o/\es.size=kvs.length/\∀(i:Nat) (h:i<es.size) (p:List Key × V),kvs[i]? = some p->∃b,es[i].key=.ref b/\H b=some (.tup (p.1.map kV)):=by
 obtain⟨e,x⟩:=I.eP a _ h;obtain⟨o',tE,LM,e',_,d',_,hl,hk⟩:=Lp x;rw[e] at e';cases e';rw[hd] at d';cases d';exact⟨e,hl,hk⟩
theorem NC {P:aV}{w:World}{K:W.Frag}(a it:Addr)(hd:o.data=.dict es ep):wW P w K tg (V4 o a kvs) [it] it (λi h=>h.IsKeyIter it a i kvs.length ep) where
 mem:=by simp
 obj:=λi h st b hb=>by
  have e:b=it:=by simpa using hb
  subst e;obtain⟨o,e,c,d⟩:=st;exact⟨o,e,λv z=>by rw[d] at z;cases z⟩
 keep:=λi h h' st k=>st.at λo e=>k it (!4) o e
 item:=by
  intro X hP hw hK hc i pins s σ H E I hf st hg;subst hP hw hK;obtain⟨hg,hi⟩:=hg;obtain⟨e,hl,hk⟩:=Lq I hg hd;have Bm:i<es.size:=by omega
  obtain⟨b,hb,hH⟩:=hk i Bm kvs[i] (by simp[hi]);obtain⟨f0,f1,f2,f3,f4,f5⟩:=hf it (!4);rw[<- hl] at st;refine yk st e hd Bm λh' eK sb=>?_;have I1:Inv X pins σ H { s with heap:=h' }:=I.turned (t':=s.toks) (λb o hb e=>(sb.2 b hb).trans e) f0 f1 f3 f4 f5;obtain⟨o',e',c',d'⟩:=id eK;rw[hb];exact⟨.ref b,rfl,wX (s:={ s with heap:=h' }) e' c' d' (!2) ⟨.ref b,H,I1,rfl,⟨rfl,kvs[i].1,kvs[i].2,b,by rw[aK hi],rfl,hH⟩,by rw[<- hl];exact eK,λb hb=>(hf b hb).1⟩⟩
 done:=by
  intro X hP hw hK hc i pins s σ H E I hf st hg;subst hP hw hK;obtain⟨hg,hi⟩:=hg;obtain⟨e,hl,hk⟩:=Lq I hg hd;obtain⟨f0,f1,f2,f3,f4,f5⟩:=hf it (!4);rw[<- hl] at st;exact B0 (I.ok.hd hc) st e hd (!1) λh' eb=>⟨rfl,I.turned (t':=s.toks) (λb o hb e=>eb b o hb e) f0 f1 f3 f4 f5⟩
 self:=λ_ _ _ _ _ st h=>wpAny_pyIter_keyiter st h
theorem Inv.Ju (I:Inv X pins σ H s)(h:H a=some (.dT kvs)):∃o es ep,o.data=.dict es ep/\Inv X pins σ (eM H a (.nj o (.dT kvs))) s/\s.heap.get? a=some o/\o.ExactDict/\(a == sysModules)=false/\es.size=kvs.length:=by
 have x:=I.eP a _ h;obtain⟨o,es,ep,e,c,d,y,hl,_⟩:=Lp x;refine⟨o,es,ep,d,?_,e,c,y,hl⟩;exact I.write (x:=a) (e:=a) (h':=s.heap) (t':=s.toks) (o:=.nj o (.dT kvs)) (by rw[h];exact trivial) (.inl rfl) (λb u _ q=>q) ⟨o,e⟩ ⟨e,x.ze (λ_ _ _ q=>q) (λb hb=>by rw[dU (λz=>by rw[z,h] at hb;cases hb)];exact hb) λb ys hb=>by rw[dU (λz=>by rw[z,h] at hb;cases hb)];exact hb⟩
noncomputable def ND (tl:TE):TI:=λσ H R=>tl σ H λx H1=>∃a kvs,x=.ref a/\H1 a=some (.dT kvs)/\∀o,R (V4 o a kvs) (eM H1 a (.nj o (.dT kvs)))
theorem F6 {l:Expr}{tl:TE}(hl:QE X l tl):QI X tg l (ND tl):=by
 refine⟨λpins s σ H R I h=>fE (hl.run pins s σ H _ I h) λv s1 ⟨x,H1,I1,r1,q1⟩=>?_⟩;obtain⟨a,kvs,e,ha,q⟩:=q1;subst e;cases r1;obtain⟨o,es,ep,hd,I2,e,c,hy,hlen⟩:=I1.Ju ha;refine yj hy e c hd ?_;refine⟨s1.heap.objs.size,[s1.heap.objs.size],_,_,_,rfl,I2.kept (t':=s1.toks) λb o e=>ak _ e,NC a _ hd,⟨_,ay _ rfl,rfl,by rw[hlen];rfl⟩,λb hb=>?_,q o⟩;have e:b=s1.heap.objs.size:=by simpa using hb
 subst e;exact I2.oW (ap _) (I2.eP.fresh (ap _))
end
section
variable {prog:aV}{w:World}{A:Around}{E:ah->aw->Prop}{s:aw}{a d:Addr}{o u:Obj}{es fs:Array DictEntry}{ep eq:Nat}
theorem Jv {b:Addr}{Q:Bool->aw->Prop}(ty:s.TypeIs (.ref b) "tuple")(q:Q false s):aG (!10) A (Builtin.Dict.quietEq (.ref b)) Q E s:=by
 unfold Builtin.Dict.quietEq;exact aa (wpAny_specialOf ty F.slot_tuple_eq.lookup (aj q))
structure UM (s:aw) (es:Array DictEntry):Prop where
 key:∀e∈es.toList,∃b,e.key=.ref b/\s.TypeIs (.ref b) "tuple"
 one:∀e∈es.toList,(es.filter (·.hash == e.hash)).size<=1
theorem Jw {id:String}{Q:Array DictEntry->aw->Prop}(ho:s.heap.get? a=some o)(hk:o.data=.dict es ep)(un:UM s es)(q:Q es s):aG (!10) A (Builtin.Dict.entriesForEmpty id a) Q E s:=by
 unfold Builtin.Dict.entriesForEmpty;refine aa (wpAny_dictEntries ho hk (aa ?_));rw[<- Array.forIn_toList];refine wpAny_forIn_list _ (λrest _ s'=>s'=s/\∀e∈rest,e∈es.toList) _ ?_ ?_ _ _ ⟨rfl,λ_ h=>h⟩
 .rintro e rest _ _ ⟨rfl,hm⟩
  have he:=hm e (aq ..);obtain⟨b,hb,ty⟩:=un.key e he;rw[hb];refine aa (Jv ty ?_);rw[if_pos (!2),if_neg (by have:=un.one e he;omega)];exact aj ⟨rfl,λe h=>hm e (ai _ h)⟩
 .rintro _ _ ⟨rfl,_⟩
  exact aj q
theorem Jx {nm:String}{Q:Unit->aw->Prop}(UN:d≠a)(ha:(a == sysModules)=false)(ho:s.heap.get? a=some o)(hk:o.data=.dict es ep)(hu:s.heap.get? d=some u)(hv:u.data=.dict #[] eq)(un:UM s es)(hz:es.size<=az)
  (hc:u.ExactDict) (q:∀h' u' Xn,h'.get? d=some u'->u'.ExactDict->u'.data=.dict es Xn->Heap.SameBut d s.heap h'->Q () { s with heap:=h' }):aG (!10) A (Builtin.Dict.mergeDict nm d a) Q E s:=by
 unfold Builtin.Dict.mergeDict;rw[if_neg (by simpa using UN)];unfold Builtin.Dict.showsAll;rw[if_neg (by rw[ha];decide)];refine aa (aj (aa (wpAny_dictEntries ho hk ?_)));by_cases h0:es=#[]
 .subst h0
  dsimp only;rw[if_neg (!4)];refine aa (wpAny_dictEpoch ho hk (aa (wpAny_dictEntries ho hk (aa ?_))));rw[Std.Legacy.Range.forIn_eq_forIn_range'];exact aj (aj (q _ _ _ hu hc hv (Heap.SameBut.refl _ _)))
 .have Mw:(decide (es.size<=8) && es.all λe=>(keyPart e.key).isSome)=false:=by
   rw[Bool.and_eq_false_iff];refine .inr ?_;obtain⟨e,he⟩:∃e,e∈es.toList:=List.exists_mem_of_ne_nil _ (by simpa using h0);obtain⟨b,hb,_⟩:=un.key e he;rw[<- Array.all_toList,List.all_eq_false];exact⟨e,he,by rw[hb];exact aX⟩
  rw[Mw];dsimp only;rw[if_pos (!2)];refine aa (wpAny_dictEntries hu hv ?_);rw[if_pos (!2)];refine aa (Jw ho hk un ?_);rw[if_pos (by simpa using h0)];exact aa (wpAny_updateDictKeysTo hu hv (aj (q _ _ (eq+1) (aT _ hu (Obj.isFreed_of_dict (Obj.data_mapDictKeys hv _))) (hc.mapDictKeys _) (Obj.data_mapDictKeys hv _) (Heap.SameBut.update ..))) (Nat.le_succ_of_le hz))
theorem Am {Q:ah->aw->Prop}(ha:(a == sysModules)=false)(ho:s.heap.get? a=some o)(hc:o.ExactDict)(hk:o.data=.dict es ep)(un:UM s es)(hz:es.size<=az)
  (q:∀h' u eq,h'.get? s.heap.objs.size=some u->u.ExactDict->u.data=.dict es eq->(∀b v,s.heap.get? b=some v->h'.get? b=some v)->Q (!14) { s with heap:=h' }):aG (!10) A (call (.type "dict") [.ref a]) Q E s:=by
 have gh:=aD ho;refine callType_codes (Q₁:=λobj s₁=>obj=.ref s.heap.objs.size/\s₁={ s with heap:=s.heap.push { cls:=.type "dict",data:=.dict #[] } }) F.kt_called_dict (F.kt_typeCall_dict_1 _) F.entry_dict_init (kt_code_dict_new _ ⟨rfl,rfl⟩) ?_;rintro obj s₁ ⟨rfl,rfl⟩;have hn:(s.heap.push { cls:=.type "dict",data:=.dict #[] }).get? s.heap.objs.size=some { cls:=.type "dict",data:=.dict #[] }:=ay _ rfl;have hold:=ak { cls:=.type "dict",data:=.dict #[] } ho;have ty:aw.TypeIs { s with heap:=s.heap.push { cls:=.type "dict",data:=.dict #[] } } (!14) "dict" := ⟨_,hn,rfl⟩;have UP:aw.TypeIs { s with heap:=s.heap.push { cls:=.type "dict",data:=.dict #[] } } (.ref a) "dict" := ⟨_,hold,hc.1⟩;refine⟨ty,F.args_dict_init_2 _ _,?_⟩;unfold Builtin.«dict.__init__»;refine aa (aa (wpAny_notOrdered_dict ty (aj ?_)));refine (?_:aG _ _ (Builtin.Dict.updateFrom "dict.__init__" s.heap.objs.size (.ref a) [] .none) _ _ _);unfold Builtin.Dict.updateFrom;refine aa (wpAny_typeOf UP ?_);rw[if_neg (!2)];refine aa (aa (aa (wpAny_isInstance UP isSubtype_dict_dict ?_)));simp only[Bool.not_true,bx,if_false];refine aa (wpAny_specialOf UP F.slot_dict_iter.lookup (aj ?_));simp only[beq_self_eq_true,if_true];refine aa (aj (Jx (u:={ cls:=.type "dict",data:=.dict #[] }) (eq:=0) (bB gh) ha hold hk hn rfl ?_ hz ⟨rfl,rfl,rfl⟩ λh' u eq h1 h2 h3 h4=>?_))
 .exact⟨λe he=>let ⟨b,hb,o,h1,h2⟩:=un.key e he;⟨b,hb,o,ak _ h1,h2⟩,un.one⟩
 .show aG _ _ (Builtin.Dict.addKeywords s.heap.objs.size [] >>= _) _ _ _
  refine aa (aj (aj ⟨rfl,q h' u eq h1 h2 h3 λb v hb=>?_⟩));rw[h4.2 b (aR (aD hb))];exact ak _ hb
end
noncomputable def uz (k:List Int):Int:=reduceHash (Builtin.Tuple.tupleHashOf (k.map hashInt))
theorem NF (P:aV)(w:World)(k:List Int):(tupleKind (eI P w)).hash (k.map Sum.inl)=uz k:=by
 show reduceHash (Builtin.Tuple.tupleHashOf ((k.map Sum.inl).map (eI P w).hash))=_;rw[bp];rfl
section
variable {X:Cx}{pins:List (Addr × Obj)}{s:aw}{σ:St}{H:Hp}{a:Addr}{o:Obj}{kvs:List (List Key × V)}{es:Array DictEntry}{ep:Nat}
theorem An {es:Array DictEntry}(h:(es.toList.map (·.hash)).Nodup):∀e∈es.toList,(es.filter (·.hash == e.hash)).size<=1:=λe he=>by
 rw[<- bj,Array.toList_filter]
 have key:∀l:List DictEntry,(l.map (·.hash)).Nodup->(l.filter (·.hash == e.hash)).length<=1:=by
  intro l
  induction l with
  | nil=>intro _;simp
  | cons x l ih =>
   intro hn;rw[ar,bf] at hn;rw[di];split
   .rename_i hx
    have hx:x.hash=e.hash:=by simpa using hx
    have:l.filter (·.hash == e.hash)=[]:=List.filter_eq_nil_iff.mpr λy hy z=>hn.1 (aM.mpr ⟨y,hy,(beq_iff_eq.mp z).trans hx.symm⟩);rw[av,this];exact ap _
   .exact ih hn.2
 exact key _ h
theorem Ao:f6 X (.type "dict") (λxs H Q=>∃(p:Addr) (kvs:List (List Key × V)),xs=[.ref p]/\Rd H p (.dT kvs)/\(kvs.map λp=>(tupleKind (eI X.prog X.w)).hash p.1).Nodup/\∀l,H l=none->Q (.ref l) (eM H l (.dT kvs))):=by
 intro pins s σ H xs us Q I r h;obtain⟨p,kvs,rfl,hp,hn,q⟩:=h;obtain⟨u,rfl,ru⟩:=vals1 r;cases ru;obtain⟨z,y,xs,lh,o,es,ep,e,c,d,k,nd⟩:=EH I.eP hp;have hl:es.size=xs.length:=size_of_entries k;have YZ:kvs.length=xs.length:=Paired.length lh
 have hh:es.toList.map (·.hash)=kvs.map λp=>(tupleKind (eI X.prog X.w)).hash p.1:=by
  rw[k,bp]
  have:∀{l:List (List Key × V)} {m:List (List Key × Addr × ah)},KT H l m->m.map ((·.hash) ∘ entryOfKey (tupleKind (eI X.prog X.w)))=l.map λp=>(tupleKind (eI X.prog X.w)).hash p.1:=by
   intro l m t
   induction t with
   | nil=>rfl
   | cons h t ih=>rw[ar,ar,ih,h.1];rfl
  exact this lh
 refine Am y e c d ⟨λx hx=>?_,An (by rw[hh];exact hn)⟩ (!1) λh' u eq h1 h2 h3 h4=>?_
 .rw[k] at hx
  obtain⟨q,hq,rfl⟩:=aM.mp hx;obtain⟨i,hi⟩:=List.getElem?_of_mem hq;have:i<kvs.length:=by have:=(aA.mp hi).1;omega
  obtain⟨q',Ri,z1,z2,_⟩:=Paired.at lh i kvs[i] (by rw[aK this]);rw[hi] at Ri;cases Ri;obtain⟨_,its,_,ob,g1,g2,_⟩:=I.eP _ _ z2;exact⟨q.2.1,rfl,ob,g1,g2⟩
 .have fr:=I.eP.fresh (ap s.heap.objs.size)
  have hs:(s.heap.objs.size == sysModules)=false:=beq_eq_false_iff_ne.mpr (bB I.big);refine⟨.ref s.heap.objs.size,_,I.laid (a:=s.heap.objs.size) (o:=.dT kvs) (t':=s.toks) h4 (ap _) ⟨z,hs,xs,KT.keeps lh λb ys hb=>?_,u,es,eq,h1,h2,h3,k,nd⟩,rfl,q _ fr⟩;rw[dU (λz=>by rw[z,fr] at hb;cases hb)];exact hb
noncomputable def NG (tk tv:TE):TE:=λσ H Q=>∀p,H p=none->tk σ (eM H p (.dT [])) λy H1=>tv σ H1 λv H2=>H2 p=some (.dT [])/\∃b ks,y=.ref b/\H2 b=some (.tup (ks.map kV))/\Q (.ref p) (eM H2 p (.dT [(ks,v)]))
theorem ym {k v:Expr}{tk tv:TE}{pos:Pos}(hu:X.A.units+1<cLine)(hk:PE X k tk)(hv:PE X v tv):PE X (.Dict [some k] [v] pos) (NG tk tv):=by
 intro pins s σ H Q I q;have hn:=I.eP.fresh (ap s.heap.objs.size);have I1:=I.laid (a:=s.heap.objs.size) (o:=.dT []) (h':=s.heap.push { cls:=.type "dict",data:=.dict #[] }) (t':=s.toks) (λ_ _ q=>ak _ q) (ap _) (xp s.heap I.big);refine wpAny_Dict_any rfl rfl (!4) (!4) (pairTrees_cons_walk (fE (hk pins _ σ _ _ I1 (q _ hn)) λu s2 ⟨y,H2,I2,ry,q2⟩=>fE (hv pins s2 σ H2 _ I2 q2) λw3 s3 ⟨x,H3,I3,rx,e,b,ks,ey,eb,q3⟩=>pairTrees_nil_walk ?_));subst ey;cases (show u=ah.ref b from ry);obtain⟨z,hd,V5,r0,dd⟩:=KQ I3.eP e;cases r0;unfold storeAll;rw[List.forIn_cons];refine aa (aa (wpAny_dictSet_heap (knd:=tupleKind (eI X.prog X.w)) (show X.A.units<cLine by omega) (ny I3.eP eb) dd (λh' Iu hs=>aj ?_) (!4)));show aG _ _ (pure PUnit.unit) _ _ _;obtain⟨o',tE,LM,g1,g2,g3,g4,_,g5⟩:=Iu;refine aj ⟨.ref s.heap.objs.size,_,oj (ob:=.dT [(ks,x)]) I3 (by rw[e];exact True.intro) hs ⟨o',g1⟩ ⟨(by decide:1<=az),hd,_,.cons ⟨rfl,?_,rx⟩ .nil,o',tE,LM,g1,g2,g3,g4,g5⟩,rfl,q3⟩;have hV:b≠s.heap.objs.size:=λz=>by rw[z,e] at eb;cases eb
 exact (dU hV).trans eb
end
theorem Ap (k:List Int):(k.map (Sum.inl:Int->Key)).map kV=k.map V.int:=by rw[bp];rfl
theorem qF {gs S:List Addr}{H:Hp}{d:ag}{v:V}{k:List Int}(r:fb gs S H d v)(e:lB true d=some k):∃b,v=.ref b/\H b=some (.tup ((k.map (Sum.inl:Int->Key)).map kV)):=by
 obtain⟨ds,rfl⟩:∃ds,d=.tuple ds:=by
  cases d with
  | tuple ds=>exact⟨ds,rfl⟩
  | _=>cases e
 have e':ds=k.map .int:=gw e;subst e';obtain⟨b,ys,rfl,hb,rb⟩:=r.fz;rw[gL rb] at hb;exact⟨b,rfl,by rw[Ap];exact hb⟩
theorem Jy {S:List Addr}{H:Hp}{b:Addr}{k:List Int}(h:H b=some (.tup ((k.map (Sum.inl:Int->Key)).map kV))):eB S H (.tuple (k.map .int)) (.ref b):=by
 rw[Ap] at h;exact .tup h (.ints k)
theorem Aq {S:List Addr}{H:Hp}:∀{kvs:fI} {xs:List V},dO S H (!20) xs->∀(i:Nat) (k:List Key) (v:V),(nv kvs xs)[i]? = some (k,v)->∃p,kvs[i]? = some p/\k=p.1.map Sum.inl
 | [],_,r,i,k,v,h=>by cases r.e9;simp[nv] at h
 | p::kvs,_,r,0,k,v,h=>by
  obtain⟨x,t,rfl,r1,r2⟩:=r.of_cons;rw[nv,af] at h;cases h;exact⟨p,rfl,rfl⟩
 | p::kvs,_,r,i+1,k,v,h=>by
  obtain⟨x,t,rfl,r1,r2⟩:=r.of_cons;rw[nv,ae] at h;exact Aq r2 i k v h
theorem qG {S:List Addr}{H:Hp}{kvs:fI}{xs:List V}(r:dO S H (!20) xs):(nv kvs xs).length=kvs.length:=by rw[lV];exact qE _ r
theorem B1 {S:List Addr}{H:Hp}{α:Type}(g:List Key->α):∀{kvs:fI} {xs:List V},dO S H (!20) xs->(nv kvs xs).map (λp=>g p.1)=kvs.map λp=>g (p.1.map Sum.inl)
 | [],_,r=>by cases r.e9;rfl
 | p::kvs,_,r=>by
  obtain⟨x,t,rfl,r1,r2⟩:=r.of_cons;rw[nv,ar,B1 g r2,ar]
section
variable {M:Fr}{env:eU}{pn:List (ag × V)}{σ:St}{S:List Addr}{H H':Hp}{n n':Int}{i:Nat}
theorem dS.ye (ok:dS M env pn σ S H n){a:Addr}{t:Bool}{kvs:fI}{en:Ent}{ob:HO}(he:env[i]? = some (some (.d a t kvs)))(ho:FX env i a)(hn:∀es,en≠.o es)
  (r:∀xs,H a=some (mR t kvs xs)->dO S H (!20) xs->Ext S H (eM H a ob)->pL M S (eM H a ob) en (.ref a)):dS M (env.set i (some en)) pn σ S (eM H a ob) n:=by
 obtain⟨v',hv,rfl,xs,ha,hr,_,hs,h0⟩:=ok.val i _ he;have x:Ext [a] H (eM H a ob):=.ye (!4) ha;have xS:Ext S H (eM H a ob):=x.mono (by simpa using hs);refine⟨λj e hj=>?_,λj k p7 tE b h2 h3 h4 h5=>?_,by rw[be,ok.len],ok.xu,M.ix ok.gd x (by simpa using h0),ok.ext.BX h0,ok.s0,ok.sn,λb hb=>?_,λp hp=>(ok.pin p hp).ext xS⟩
 .rcases eJ hj with⟨rfl,e1⟩ | ⟨ne,e1⟩
  .cases e1
   exact⟨_,hv,r xs ha hr xS⟩
  .obtain⟨w,hw,kN⟩:=ok.val j e e1
   refine⟨w,hw,?_⟩
   cases e with
   | s d=>exact eB.ext xS kN
   | o tE =>
    obtain⟨b,zs,e2,hb,r2,nT,rm⟩:=kN;subst e2;exact⟨b,zs,rfl,by rw[dU (λz=>by rw[z,ha] at hb;exact mz hb.symm)];exact hb,r2.ext xS,nT,rm⟩
   | x c as =>
    obtain⟨b,dx,vs,e2,hb,hd,r2,g1,g2⟩:=kN;exact⟨b,dx,vs,e2,by rw[dU (λz=>by rw[z,ha] at hb;cases t<;>cases hb)];exact hb,by rw[dU (λz=>by rw[z,ha] at hd;cases t<;>cases hd)];exact hd,r2.ext xS,g1,g2⟩
   | d b t2 Aj =>
    obtain⟨e2,zs,hb,r2,vp,nT,rm⟩:=kN;have UD:b≠a:=λz=>ho j t2 Aj (λz2=>ne z2.symm) (z ▸ e1);exact⟨e2,zs,by rw[dU UD];exact hb,r2.ext xS,vp,nT,rm⟩
   | f b o Aj zs =>
    obtain⟨e2,hb,r2,nT,rm⟩:=kN;exact⟨e2,by rw[dU (λz=>by rw[z,ha] at hb;cases t<;>cases hb)];exact hb,r2.ext xS,nT,rm⟩
 .rcases eJ h2 with⟨_,e1⟩ | ⟨n1,e1⟩
  .exact absurd (Option.some.inj e1.symm) (λz=>hn _ z.symm)
  .rcases eJ h3 with⟨_,e2⟩ | ⟨n2,e2⟩
   .exact absurd (Option.some.inj e2.symm) (λz=>hn _ z.symm)
   .exact ok.ne j k p7 tE b e1 e2 h4 h5
 .by_cases z:b=a
  .rw[z,dP];simp
  .rw[dU z];exact ok.has b hb
end
noncomputable def ni (kvs:fI):List ag:=kvs.map λp=>ag.tuple (p.1.map ag.int)
theorem uB (kvs:fI):(ni kvs).length=kvs.length:=by unfold ni;rw[ao]
noncomputable abbrev UQ (env:eU)(a:Addr):Prop:=∀(j:Nat) (t':Bool) (kv:fI),env[j]? ≠ some (some (Ent.d a t' kv))
noncomputable def Ar (i:Nat)(uk uv:UX):US:=λE env n=>uk env n λk n1=>uv env n1 λd n2=>lE (lB true k) λkk=>∀a:Addr,UQ env a->E.nx (env.set i (some (.d a true [(kk,d)]))) n2
noncomputable def ph (i j:Nat):US:=λE env n=>match env[j]? with | some (some (.d _ true kvs))=>(kvs.map λp=>uz p.1).Nodup/\∀a:Addr,UQ env a->E.nx (env.set i (some (.d a true kvs))) n | _=>False
noncomputable def rT (i j:Nat):US:=λE env n=>match env[j]? with | some (some (.d a t kvs))=>E.nx ((env.set j none).set i (some (.d a t kvs))) n | _=>False
noncomputable def nJ (i:Nat)(e:Ent)(ug:UG)(ub:US)(E:pM):List ag->eU->Int->Prop
 | [],env,n=>env[i]? = some (some e)/\E.nx env n
 | d::ds,env,n=>env[i]? = some (some e)/\ug d env λeh=>ub { nx:=nJ i e ug ub E ds,rt:=E.rt } eh n
noncomputable def yn (i:Nat)(ug:UG)(ub:US):US:=λE env n=>match env[i]? with
 | some (some (.d a true kvs))=>FX env i a/\∀(o:Obj) (xs:List V),nJ i (.f a o kvs xs) ug ub E (ni kvs) (env.set i (some (.f a o kvs xs))) n
 | _=>False
noncomputable def pT (i:Nat)(uk:UX):UX:=λenv n Q=>match env[i]? with | some (some (.f a o kvs xs))=>uk env n λk n1=>lE (lB true k) λkk=>lE (eO kvs kk) λd=>Q d n1 | _=>False
section
variable {X:Cx}{M:Fr}{e ke ve:Expr}{uk uv ud:UX}{pos fX p p2:Pos}
theorem F7 {i:Nat}{x:Str}(hu:X.A.units+1<cLine)(hN:X.N.Nodup)(hx:Loc X.env.scope x)(hk:KE X M ke uk)(hv:KE X M ve uv)(hi:X.N[i]? = some x:=by rfl)(hs:swapsWith (.Dict [some ke] [ve] p) (some (.Name x fX)) pos.line X.env=pure false:=by rfl)
  (hf:X.fn x=true\/X.env.scope.names.lookup x=some .local:=by (first | exact .inl rfl | exact .inr rfl | assumption)) (hfd:i ∉ M.fd:=by decide):KS X M (.Assign [.Name x fX] (.Dict [some ke] [ve] p) pos) (Ar i uk uv) :=
 .of (gF hN hi hx (⟨ym hu hk.run.run hv.run.run⟩:QE X _ _) hs hf) λD σ H env pn S n E ok hu k1 k2 a ha=>by
  have x0:Ext M.gs H (eM H a (.dT [])):=.new ha;have Lm:=ok.hold (H':=eM H a (.dT [])) ha (by rw[dP];simp) x0 (ok.grow (.new ha));have Ln:a ∉ M.gs:=M.out (ok.anew ha);refine⟨env,pn,a::S,n,_,Lm,hu,λy H1 kd n1 r1 x1 g1 _ q=>?_⟩;have iK:=Lm.step x1 g1;refine⟨env,pn,a::S,n1,_,iK,q,λv H2 d n2 r2 x2 g2 _ q=>?_⟩;have um:=iK.step x2 g2;obtain⟨kk,ek,q⟩:=q;have h2:H2 a=some (.dT []):=x2.keep _ _ Ln (x1.keep _ _ Ln dP);obtain⟨b,rfl,hb⟩:=qF (gs:=M.gs) (.inl (r1.ext (x2.mono iK.p6))) ek;refine⟨h2,b,_,rfl,hb,?_⟩;have UH:=um.F4 (i:=i) (t:=true) (kvs:=[]) (xs:=[]) h2 .nil (!4) (aq ..) (ok.anew ha) hfd;have pJ:=λj' t' kv=>ok.only ha j' t' kv;by_cases z:i<env.length
  .have Rk:=UH.putD (kvs':=[(kk,d)]) (ys:=[v]) (iG z) (λj' t' kv hV z=>by
    rw[aP (λz=>hV z.symm)] at z;exact pJ j' t' kv z) (.cons r2 .nil) (λz=>by cases z)
   rw[dI] at Rk;exact k1 _ _ _ _ _ Rk (q a pJ)
  .have hlen:env.length<=i:=by omega
   have Hf:∀y,env.set i y=env:=λy=>c6 hlen;have sQ:∀y,σ.set i y=σ:=λy=>c6 (by rw[<- ok.len];exact hlen);have UK:=ok.hold (H':=eM H2 a (mR true [(kk,d)] [v])) (n':=n2) ha (by rw[dP];simp) (((x0.trans x1).trans x2).BX ha) (M.ix g2 (Ext.ye (S:=[a]) (t:=true) (kvs:=[]) (xs:=[]) (!4) h2) (by simpa using ok.anew ha));have:=q a pJ;rw[Hf] at this;refine k1 _ _ _ _ _ (?_:dS M env pn _ (a::S) _ n2) this;rw[sQ];exact UK
theorem Jz {i:Nat}(j:Nat){x y:Str}{p3:Pos}(hm:X.mg "dict" = none)(hN:X.N.Nodup)(hx:Loc X.env.scope x)(hi:X.N[i]? = some x:=by rfl)(hj:X.N[j]? = some y:=by rfl)(hv:qM X.env.scope y:=by (first | exact Or.inl rfl | exact Or.inr (Or.inl rfl) | exact Or.inr (Or.inr rfl)))(hd:(y == (!12))=false:=by decide)
  (jb:(y == (!18))=false:=by decide) (hg:Gl X "dict" := by rfl) (hs:swapsWith (.Call (.Name "dict" p2) [.Name y p3] [] p) (some (.Name x fX)) pos.line X.env=pure false:=by rfl)
  (hf:X.fn x=true\/X.env.scope.names.lookup x=some .local:=by (first | exact .inl rfl | exact .inr rfl | assumption)) (hfd:i ∉ M.fd:=by decide):KS X M (.Assign [.Name x fX] (.Call (.Name "dict" p2) [.Name y p3] [] p) pos) (ph i j) :=
 .of (gF hN hi hx (kl Ao hg hm (!3) (gZ (qv j hj hv hd jb) fi)) hs hf) λD σ H env pn S n E ok hu k1 k2=>by
  unfold ph at hu;split at hu
  .rename_i a kvs he
   obtain⟨hn,hu⟩:=hu;obtain⟨v,hv,rfl,xs,ha,r,hk,Lj,h0⟩:=ok.val j _ he;refine⟨_,hv,a,nv kvs xs,rfl,.inl ha,?_,λl hl=>?_⟩
   .have e:=B1 (λk=>(tupleKind (eI X.prog X.w)).hash k) r
    rw[e];have e2:(kvs.map λp=>(tupleKind (eI X.prog X.w)).hash (p.1.map Sum.inl))=kvs.map λp=>uz p.1:=bu λp _=>NF _ _ _;rw[e2];exact hn
   .exact k1 _ _ _ _ _ (ok.Ny (t:=true) (kvs:=kvs) (xs:=xs) hl dP ((r.fresh hl).ext (.new hl)) (!4) (.new hl) (ok.grow (.new hl)) hfd) (hu l λj t kv=>ok.only hl j t kv)
  .exact hu.elim
theorem JA {i:Nat}(j:Nat){x y:Str}{p3:Pos}(hN:X.N.Nodup)(hx:Loc X.env.scope x)(OG:i≠j)(hi:X.N[i]? = some x:=by rfl)(hj:X.N[j]? = some y:=by rfl)(hv:qM X.env.scope y:=by (first | exact Or.inl rfl | exact Or.inr (Or.inl rfl) | exact Or.inr (Or.inr rfl)))(hd:(y == (!12))=false:=by decide)
  (jb:(y == (!18))=false:=by decide) (hs:swapsWith (.Name y p3) (some (.Name x fX)) pos.line X.env=pure false:=by rfl)
  (hf:X.fn x=true\/X.env.scope.names.lookup x=some .local:=by (first | exact .inl rfl | exact .inr rfl | assumption)) (hfd:i ∉ M.fd:=by decide):KS X M (.Assign [.Name x fX] (.Name y p3) pos) (rT i j) :=
 .of (gF hN hi hx (qv j hj hv hd jb) hs hf) λD σ H env pn S n E ok hu k1 k2=>by
  unfold rT at hu;split at hu
  .rename_i a t kvs he
   obtain⟨v,hv,rfl,xs,ha,r,hk,Lj,h0⟩:=ok.val j _ he
   have Xo:dS M (env.set j none) pn σ S H n:=⟨λk e h=>by
     rcases eJ h with⟨_,e1⟩ | ⟨_,e1⟩
     .cases e1
     .exact ok.val k e e1,λk l ds es b h1 h2 h3 h4=>by
     rcases eJ h1 with⟨_,e1⟩ | ⟨_,e1⟩
     .cases e1
     .rcases eJ h2 with⟨_,e2⟩ | ⟨_,e2⟩
      .cases e2
      .exact ok.ne k l ds es b e1 e2 h3 h4,by rw[be,ok.len],ok.xu,ok.gd,ok.ext,ok.s0,ok.sn,ok.has,ok.pin⟩
   exact⟨_,hv,k1 _ _ _ _ _ (Xo.F4 (i:=i) ha r hk Lj h0 hfd) hu⟩
  .exact hu.elim
theorem F8 (i:Nat){x:Str}(hu:X.A.units+1<cLine)(hk:KL X M ke uk)(hN:X.N[i]? = some x:=by rfl)(Jq:qM X.env.scope x:=by (first | exact Or.inl rfl | exact Or.inr (Or.inl rfl) | exact Or.inr (Or.inr rfl)))(hd:(x == (!12))=false:=by decide)(jb:(x == (!18))=false:=by decide)
  (hs:CN ke:=by exact λ_ _=>rfl):KE X M (.Subscript (!25) ke pos) (pT i uk):=.of (mB hu (qv i hN Jq hd jb) hk.run hs) λσ H R env pn S n Q ok rS k=>by
 unfold pT at rS;split at rS
 .rename_i a o kvs xs he
  obtain⟨v0,Hd,rfl,ha,rr,Lj,h0⟩:=ok.val i _ he;refine⟨_,Hd,env,pn,S,n,_,ok,rS,λy H1 kd n1 r1 x1 g1 _ q=>?_⟩;obtain⟨kk,ek,d,ed,q⟩:=q;have iK:=ok.step x1 g1;obtain⟨_,_,e',lp,Df,_,_⟩:=iK.val i _ he;obtain⟨b,rfl,hb⟩:=qF r1 ek;have inj:∀q∈kvs,(q.1.map Sum.inl:List Key)=kk.map Sum.inl->q.1=kk:=λq _ h=>oG h;rcases oF (f:=λk=>(k.map Sum.inl:List Key)) (k:=kk) Df inj with⟨z,_⟩ | ⟨d',v',z,hg,hr⟩
  .rw[z] at ed;cases ed
  .rw[z] at ed
   cases ed;rw[<- lV] at hg;exact⟨a,v',rfl,.inr ⟨_,_,b,.inr ⟨o,lp⟩,rfl,hb,hg.symm⟩,k v' H1 _ n1 hr x1 g1 q⟩
 .exact rS.elim
theorem NH (i:Nat){x:Str}{tg:Expr}{body:List Stmt}{ug:UG}{u:US}(hp:PassesOwn (!11) X.A X.env X.xe)(hc:X.calm=true)(hg:KG X M tg ug)(hb:wC X M body u)(hN:X.N[i]? = some x:=by rfl)(Jq:qM X.env.scope x:=by (first | exact Or.inl rfl | exact Or.inr (Or.inl rfl) | exact Or.inr (Or.inr rfl)))(hd:(x == (!12))=false:=by decide)(jb:(x == (!18))=false:=by decide)
  (hs:∀y,foldedSetIterable (!25) X.env y=pure y:=by rw[6]):KS X M (.For tg (!25) body [] pos) (yn i ug u) :=
 .of (vn hp hc (F6 (qv i hN Jq hd jb)) hg.run hb.run hs) λD σ H env pn S n E ok hu k1 k2=>by
  unfold yn at hu;split at hu
  .rename_i a kvs he
   obtain⟨ho,hu⟩:=hu;obtain⟨v,hv,rfl,xs,ha,r,hk,Lj,h0⟩:=ok.val i _ he;refine⟨_,hv,a,nv kvs xs,rfl,ha,λo=>?_⟩;have iK:dS M (env.set i (some (.f a o kvs xs))) pn σ S (eM H a (.nj o (.dT (nv kvs xs)))) n:=ok.ye he ho (λes z=>by cases z) λ_ _ _ x'=>⟨rfl,dP,r.ext x',Lj,h0⟩;have hl:=qG r;refine⟨λj m σ' H'=>m=kvs.length - j/\j<=kvs.length/\∃eh S' n',dS M eh pn σ' S' H' n'/\nJ i (.f a o kvs xs) ug u E ((ni kvs).drop j) eh n',⟨kvs.length,!4,bD _,_,S,n,iK,hu o xs⟩,?_⟩;rintro j m σ' H' ⟨rfl,lr,eh,S',n',jK,q'⟩
   have Bm:eh[i]? = some (some (.f a o kvs xs)):=by
    cases e:(ni kvs).drop j with
    | nil=>rw[e] at q';exact q'.1
    | cons d ds=>rw[e] at q';exact q'.1
   obtain⟨_,_,_,lp,r',_,_⟩:=jK.val i _ Bm;by_cases gh:j<kvs.length
   .refine .inr ⟨⟨lp,!1⟩,λσ2 H2=>∃p9 S2 n2,dS M p9 pn σ2 S2 H2 n2/\nJ i (.f a o kvs xs) ug u E ((ni kvs).drop (j+1)) p9 n2,λσ2 H2 h=>⟨kvs.length - (j+1),!1,rfl,gh,h⟩,λy H2 hy=>?_⟩
    obtain⟨rfl,k,v,b,vp,rfl,hb⟩:=hy;obtain⟨p,hp,rfl⟩:=Aq r' j k v vp
    have e:(ni kvs).drop j=.tuple (p.1.map .int)::(ni kvs).drop (j+1):=by
     rw[bh (by rw[uB];exact gh)];congr 1;unfold ni;rw[List.getElem_map,(aA.mp hp).2]
    rw[e] at q';exact⟨eh,pn,S',n',_,_,jK,Jy hb,q'.2,λxM σ3 Ha q3=>⟨xM,pn,S',n',_,Ha,q3,λNb σ4 S4 H4 n4 Uc q4=>⟨Nb,S4,n4,Uc,q4⟩,k2⟩⟩
   .refine .inl ⟨⟨lp,!1⟩,?_⟩
    rw[bS (by rw[uB];omega)] at q';exact k1 _ _ _ _ _ jK q'.2
  .exact hu.elim
end
structure kz where
 T:List Int->ag->Prop
 L:List (List Int)
 b:List Int
 TQ:L.length<100000
structure JB (Y:kz) (kvs:fI):Prop where
 ok:∀p∈kvs,Y.T p.1 p.2/\iL p.2=true
 nd:(kvs.map (·.1)).Nodup
 sub:∀p∈kvs,p.1∈Y.L
 UR:Y.b∈kvs.map (·.1)
theorem pj:∀{kvs:fI},(∀p∈kvs,iL p.2=true)->gP (!20)=true
 | [],_=>rfl
 | p::kvs,h=>by
  rw[ar,gP,h p (aq ..),pj λq hq=>h q (ai _ hq)];rfl
theorem JB.nl {Y:kz}{kvs:fI}(t:JB Y kvs):gP (!20)=true:=pj λp hp=>(t.ok p hp).2
theorem F9 {l m:List (List Int)}(h:l.Nodup)(hs:∀k∈l,k∈m):l.length<=m.length:=by
 induction l generalizing m with
 | nil=>exact bD _
 | cons a l ih =>
  obtain⟨h1,h2⟩:=bf.mp h;have ha:=hs a (aq ..);have:=ih (m:=m.erase a) h2 λk hk=>(List.mem_erase_of_ne (λ(z:k=a)=>h1 (z ▸ hk))).mpr (hs k (ai _ hk));rw[dA ha] at this;have:=dH ha;rw[av];omega
theorem JB.len {Y:kz}{kvs:fI}(t:JB Y kvs):kvs.length<100000:=by
 have:=F9 t.nd λk hk=>by
  obtain⟨p,hp,rfl⟩:=aM.mp hk;exact t.sub p hp
 rw[ao] at this;have:=Y.TQ;omega
theorem vY {kvs:fI}{k:List Int}:(kvs.any λp=>decide (p.1=k))=true↔k∈kvs.map (·.1):=by
 rw[cD,aM];exact⟨λ⟨p,h1,h2⟩=>⟨p,h1,of_decide_eq_true h2⟩,λ⟨p,h1,h2⟩=>⟨p,h1,decide_eq_true h2⟩⟩
theorem JB.put {Y:kz}{kvs:fI}(t:JB Y kvs){k:List Int}{d:ag}(hT:Y.T k d)(hn:iL d=true)(hL:k∈Y.L):JB Y (gQ kvs k d):=by
 unfold gQ;split
 .rename_i ha
  have hm:∀p∈kvs.map (λp=>if p.1=k then (p.1,d) else p),(∃q∈kvs,p=q)\/p=(k,d):=λp hp=>by
   obtain⟨q,hq,rfl⟩:=aM.mp hp;split
   .rename_i e;exact .inr (by rw[e])
   .exact .inl ⟨q,hq,rfl⟩
  have Lr:(kvs.map (λp=>if p.1=k then (p.1,d) else p)).map (·.1)=kvs.map (·.1):=by
   rw[bp];exact bu λp _=>by simp only[Function.comp];split<;>rfl
  refine⟨λp hp=>?_,by rw[Lr];exact t.nd,λp hp=>?_,by rw[Lr];exact t.UR⟩
  .rcases hm p hp with⟨q,hq,rfl⟩ | rfl
   .exact t.ok _ hq
   .exact⟨hT,hn⟩
  .rcases hm p hp with⟨q,hq,rfl⟩ | rfl
   .exact t.sub _ hq
   .exact hL
 .rename_i ha
  have hk:k ∉ kvs.map (·.1):=λz=>ha (vY.mpr z);refine⟨λp hp=>?_,?_,λp hp=>?_,by rw[aO];exact bI _ t.UR⟩
  .rcases aL.mp hp with hp | hp
   .exact t.ok p hp
   .rw[au.mp hp];exact⟨hT,hn⟩
  .rw[aO]
   refine cz.mpr ⟨t.nd,!4,λa ha b hb z=>?_⟩;have:b=k:=by simpa using hb
   exact hk (this ▸ z ▸ ha)
  .rcases aL.mp hp with hp | hp
   .exact t.sub p hp
   .rw[au.mp hp];exact hL
theorem uD (kvs:fI)(k:List Int)(d:ag):eO (gQ kvs k d) k=some d:=by
 unfold gQ;split
 .rename_i ha
  unfold eO
  induction kvs with
  | nil=>cases ha
  | cons p t ih =>
   rw[ar,bN];by_cases e:p.1=k
   .rw[if_pos e,decide_eq_true (show (p.1,d).1=k from e)];rfl
   .rw[if_neg e,decide_eq_false e]
    rw[cp,decide_eq_false e,Bool.false_or] at ha;exact ih ha
 .rename_i ha
  unfold eO;have:kvs.find? (λp=>decide (p.1=k))=none:=List.find?_eq_none.mpr λp hp z=>ha (cD.mpr ⟨p,hp,z⟩);rw[List.find?_append,this];simp
noncomputable def As (Y:kz)(H:Hp)(a:Addr):Prop:=∃kvs xs,H a=some (mR true kvs xs)/\dO [] H (!20) xs/\JB Y kvs
theorem As.ext {Y:kz}{S:List Addr}{H H':Hp}{a:Addr}(h:As Y H a)(x:Ext S H H')(ha:a ∉ S):As Y H' a:=by
 obtain⟨kvs,xs,e,r,t⟩:=h;exact⟨kvs,xs,x.keep _ _ ha e,((r.any (S':=S) t.nl).ext x).any t.nl,t⟩
theorem As.ne {Y:kz}{H:Hp}{a:Addr}(h:As Y H a):H a≠none:=by
 obtain⟨_,_,e,_⟩:=h;rw[e];simp
noncomputable def Fr.known (C:Xc)(Y:kz)(i:Nat)(a:Addr)(n0:Int)(S:List Addr)(H:Hp)(hk:As Y H a)(hS:a∈S)(has:∀b∈S,H b≠none):Fr where
 G:=λH n=>n=n0/\As Y H a
 gs:=[a]
 S0:=S
 H0:=H
 fa:=.ref a
 fd:=[i]
 xc:=C
 ix:=λh x k=>⟨h.1,h.2.ext x λz=>hk.ne (k _ z)⟩
 sZ:=λh b hb=>by rw[au.mp hb];exact h.2.ne
 T1:=λh b hb φ z=>by
  rw[au.mp hb] at z;obtain⟨_,_,_,e,_⟩:=h;rw[e] at z;cases z
 Qj:=λb hb=>by rw[au.mp hb];exact hS
 s9:=has
noncomputable def Hg (F:kz->UF):Sp:=λvs H Q E=>∃Y a us S ds n Qp,vs=us++[.ref a]/\As Y H a/\a∈S/\dO S H ds us/\(∀b∈S,H b≠none)/\F Y ds n Qp BB/\∀d v H',eB S H' d v->As Y H' a->Ext [a] H H'->Qp d n->Q v H'
noncomputable def F' (N np:Nat)(u:US):UF:=λds n Q Ex=>ds.length+1=np/\u { nx:=λ_ n'=>Q .none n',rt:=Q } (envOf N ds) n
theorem Au {M:Fr}{N:List Str}{ds:List ag}{vs:List V}{S:List Addr}{H:Hp}{n:Int}{a:Addr}(h0:M.H0=H)(hS:M.S0=S)(r:dO S H ds vs)(hfd:M.fd=[ds.length])(xO:M.fa=.ref a)(hN:ds.length+1<=N.length)(g:M.G H n):dS M (envOf N.length ds) [] (start N (vs++[.ref a])) S H n:=by
 subst h0 hS;have hl:=r.length
 have key:∀(i:Nat) (e:Ent),(envOf N.length ds)[i]? = some (some e)->∃d,ds[i]? = some d/\e=.s d:=λi e h=>by
  unfold envOf at h;by_cases hi:i<ds.length
  .rw[bE (by simpa using hi),aB] at h
   cases hd:ds[i]? with
   | none=>rw[hd] at h;cases h
   | some d=>rw[hd] at h;exact⟨d,rfl,(Option.some.inj (Option.some.inj h)).symm⟩
  .rw[bJ (by simp;omega),cf] at h
   split at h<;>cases h
 refine⟨λi e h=>?_,λi j a b c h1=>?_,?_,?_,g,.refl _ _,λa h=>h,λa h=>.inl h,M.s9,λp hp=>by cases hp⟩
 .obtain⟨d,hd,rfl⟩:=key i e h
  obtain⟨v,hv,rv⟩:=r.at hd;refine⟨v,?_,rv⟩;have hi:i<vs.length:=(aA.mp hv).1;unfold start;rw[aO,aJ,bE (by rw[ao];exact hi),aB,hv];rfl
 .obtain⟨d,_,e⟩:=key _ _ h1
  cases e
 .unfold envOf start
  simp[hl];omega
 .rw[hfd,xO]
  intro i hi;rw[au.mp hi,<- hl];unfold start;rw[aO,aJ,bJ (!4)];simp
section
variable {P:aV}{w:World}{K:W.Frag}{mg:Str->Option ah}{base:Heap}{x:Str}{st:Stmt}{ps:List Str}{k:Nat}{C:Xc}
theorem Rm (u:kz->US)(N:List Str)(F:FM K mg x st)
  (body:fD N ps (dQ st)->∀(f:Addr) (fG:ah) (A:Around) (outer:List Env) (s:aw) (H:Hp) (E:XK) (Y:kz) (a:Addr) (n0:Int) (S:List Addr) (hk:As Y H a) (hS:a∈S) (has:∀b∈S,H b≠none),gy k (A.deeper (envOfC x (dQ st) s.heap.objs.size f fG))->(A.deeper (envOfC x (dQ st) s.heap.objs.size f fG)).units+64<cLine ->
   wC (nq vf P w K mg base N x (dQ st) f fG A outer s H E).Cq (Fr.known C Y (ps.length - 1) a n0 S H hk hS has) (fZ st) (u Y))
  (sc:fD N ps (dQ st):=by exact Sj) (hN:ps.length<=N.length:=by decide) (hb:BD x st ps:=by rw[999]) :
  eD P w K mg base (k+1) x ps (Hg λY=>F' N.length ps.length (u Y)):=by
 obtain⟨f,fd,F,hm⟩:=F.ex;refine⟨f,fd,F.MP sc (λvs H Q E h=>?_) (λfG A outer s H vs Q E hr h=>?_),hm,F.kp,F.binds hb⟩
 .obtain⟨Y,a,us,S,ds,n,Qp,rfl,_,_,r,_,hF,_⟩:=h
  rw[aH,r.length];exact hF.1
 .obtain⟨Y,a,us,S,ds,n,Qp,rfl,hk,hS,r,has,hF,hq⟩:=h
  have hlen:ds.length=ps.length - 1:=by have:=hF.1;omega
  refine⟨_,(body sc f fG A outer s H E Y a n S hk hS has hr hr.units).run,envOf N.length ds,[],S,n,_,Au rfl rfl r (by rw[hlen];rfl) rfl (by have:=hF.1;omega) ⟨rfl,hk⟩,hF.2,λeh σ' S' H' n' ok q=>?_,λv H' d n' rv x g q=>?_⟩
  .have g:=ok.gd
   have e:n'=n:=g.1;subst e;exact hq _ _ H' .gC g.2 ok.ext q
  .have e:n'=n:=g.1
   subst e;exact hq d v H' rv g.2 x q
end
section
variable {X:Cx}{M:Fr}{e1 e2 ve ke:Expr}{u1 u2 uv uk:UX}{p p2 p3 p4 pos fX UU UW:Pos}{F:kz->UF}{x y z:Str}{ps:List Str}{k:Nat}{Y:kz}{a:Addr}{n0:Int}
theorem Rn {P:aV}{w:World}{K:W.Frag}{mg:Str->Option ah}{base:Heap}{st:Stmt}{k:Nat}(F:FM K mg x st)(hb:BD x st ps:=by rw[999]):eD P w K mg base k x ps (Hg λ_=>QV) :=
 let ⟨f,fd,F,hm⟩:=F.ex;⟨f,fd,⟨λvs H Q E ⟨_,_,_,_,_,_,_,_,_,_,_,_,h,_⟩=>h.elim,λ_ _ _ _ _ _ _ _ _ _ _ _ _ ⟨_,_,_,_,_,_,_,_,_,_,_,_,h,_⟩=>h.elim⟩,hm,F.kp,F.binds hb⟩
theorem vZ (i:Nat)(D:eD X.prog X.w X.K X.mg X.base k x ps (Hg F))(hr:gy k X.A)(h1:KE X M e1 u1)(h2:KE X M e2 u2)
  (hG:M.G=λH n=>n=n0/\As Y H a:=by rfl) (xO:M.fa=.ref a:=by rfl) (Nf:M.gs=[a]:=by rfl) (hfd:i∈M.fd:=by exact au.mpr rfl)
  (hN:X.N[i]? = some y:=by rfl) (hv:qM X.env.scope y:=by (first | exact Or.inl rfl | exact Or.inr (Or.inl rfl) | exact Or.inr (Or.inr rfl))) (hd:(y == (!12))=false:=by decide) (jb:(y == (!18))=false:=by decide)
  (hg:Gl X x:=by rfl) (oX:(x == (!12))=false:=by decide) (V6:eV e1=true:=by rfl) (nT:eV e2=true:=by rfl):KE X M (.Call (!25) [e1,e2,.Name y p2] [] pos) (d6 (F Y) (dM u1 (dM u2 dR))) :=
 .of (kj D hr (gZ h1.run (gZ h2.run (gZ (qv i hN hv hd jb) fi rfl) nT) V6) hg oX) λσ H R env pn S n Q ok hu k=>⟨env,pn,S,n,_,ok,hu,λv1 H1 d1 n1 r1 x1 g1 _ q=>by
  have iK:=ok.step x1 g1;refine⟨env,pn,S,n1,_,iK,q,λv2 H2 d2 n2 r2 x2 g2 _ q=>?_⟩;have um:=iK.step x2 g2;have wD:=um.xu i hfd;rw[xO] at wD;have UY:=g2;rw[hG] at UY;refine⟨_,wD,Y,a,[v1,v2],S,[d1,d2],n2,_,rfl,UY.2,ok.p6 a (by rw[Nf];simp),.cons (r1.ext (x2.mono iK.p6)) (.cons r2 .nil),um.has,q,λd v H3 r3 k3 x3 q3=>k v H3 d n2 r3 ((x1.trans x2).trans (by rw[Nf];exact x3)) (by rw[hG];exact⟨UY.1,k3⟩) q3⟩⟩
noncomputable def Ga (Y:kz)(j:Nat)(uA:US)(uv:UX):US:=λE env n=>∃kk:List Int,env[j]? = some (some (.s (.tuple (kk.map .int))))/\kk∈Y.L/\(∀d,Y.T kk d->E.rt d n) /\
 (kk≠Y.b->uA { nx:=λeh n'=>eh[j]? = env[j]? /\ uv eh n' λd n2=>iL d=true/\Y.T kk d/\E.rt d n2,rt:=E.rt } env n)
theorem Ls {H:Hp}{kk:List Int}{b:Addr}{kvs:fI}{xs:List V}{S:List Addr}(ha:H a=some (mR true kvs xs))(r:dO S H (!20) xs)(hb:H b=some (.tup ((kk.map (Sum.inl:Int->Key)).map kV))) :
  (eO kvs kk=none/\iS H a (.ref b) none)\/∃d v,eO kvs kk=some d/\iS H a (.ref b) (some v)/\eB S H d v:=by
 have hg:=iS.t (show H a=some (.dT (nv kvs xs)) from ha) hb;rw[lV] at hg;rcases oF (f:=λk=>(k.map Sum.inl:List Key)) (k:=kk) r (λ_ _ h=>oG h) with⟨h1,h2⟩ | ⟨d,v,h1,h2,h3⟩
 .rw[h2] at hg;exact .inl ⟨h1,hg⟩
 .rw[h2] at hg;exact .inr ⟨d,v,h1,hg,h3⟩
theorem oJ {kvs:fI}{k:List Int}{d:ag}(h:eO kvs k=some d):(k,d)∈kvs:=by
 unfold eO at h
 cases e:kvs.find? λp=>decide (p.1=k) with
 | none=>rw[e] at h;cases h
 | some p =>
  rw[e] at h;cases h;have h1:=List.mem_of_find?_eq_some e;have h2:p.1=k:=by simpa using List.find?_some e
  rw[<- h2];exact h1
theorem Gb (i j:Nat){body:Stmt}{uA:US}{q1 q2 q3 q4:Pos}(hu:X.A.units+1<cLine)(hA:KS X M body uA)(Xq:KE X M ve uv)
  (hG:M.G=λH n=>n=n0/\As Y H a) (xO:M.fa=.ref a) (Nf:M.gs=[a]) (hfd:i∈M.fd)
  (hN:X.N[i]? = some y:=by rfl) (hv:qM X.env.scope y:=by (first | exact Or.inl rfl | exact Or.inr (Or.inl rfl) | exact Or.inr (Or.inr rfl))) (hd:(y == (!12))=false:=by decide) (jb:(y == (!18))=false:=by decide)
  (UZ:X.N[j]? = some z:=by rfl) (za:qM X.env.scope z:=by (first | exact Or.inl rfl | exact Or.inr (Or.inl rfl) | exact Or.inr (Or.inr rfl))) (u9:(z == (!12))=false:=by decide) (NI:(z == (!18))=false:=by decide)
  (hm:behindInMarks .NotIn (.Name y p)=false:=by first | exact jZ _ | rfl) (hs:swapsWith ve (some (.Subscript (.Name y p2) (.Name z p3) fX)) pos.line X.env=pure false:=by rfl) :
  wC X M [.If (.Compare (.Name z p4) [.NotIn] [.Name y p] UU) [body,.Assign [.Subscript (.Name y p2) (.Name z p3) fX] ve pos] [] UW,.Return (some (.Subscript (.Name y q1) (.Name z q2) q3)) q4] (Ga Y j uA uv) :=
 ⟨(eZ (Bl (⟨zh (tW hu (qv j UZ za u9 NI).run (qv i hN hv hd jb).run) hm⟩:QT X _ _) (eZ hA.run (ig (qm hu (qv i hN hv hd jb) (qv j UZ za u9 NI) Xq.run hs))) ql) (ig (kO (mB hu (qv i hN hv hd jb) (qv j UZ za u9 NI) λ_ _=>rfl)))).weaken λD σ H h=>CS h λenv pn S n E h=>by
  obtain⟨ok,⟨kk,hj,hL,Xr,Jg⟩,zc,Dk⟩:=h
  have go:∀{eh:eU} {σ':St} {S':List Addr} {H':Hp} {n':Int},dS M eh pn σ' S' H' n'->eh[j]? = some (some (.s (.tuple (kk.map .int))))->∃b kvs xs,σ'[j]? = some (some (.ref b))/\σ'[i]? = some (some (.ref a))/\H' b=some (.tup ((kk.map (Sum.inl:Int->Key)).map kV))/\H' a=some (mR true kvs xs)/\dO [] H' (!20) xs/\JB Y kvs/\n'=n0:=λ{eh σ' S' H' n'} jK Hh=>by
   obtain⟨v,hv,r⟩:=jK.val j _ Hh;obtain⟨b,rfl,hb⟩:=qF (gs:=M.gs) (d:=.tuple (kk.map .int)) (k:=kk) (.inl r) (by simp[lB]);have yb:=jK.xu i hfd;rw[xO] at yb;have g:=jK.gd;rw[hG] at g;obtain⟨e,kvs,xs,h1,h2,h3⟩:=g;exact⟨b,kvs,xs,hv,yb,hb,h1,h2,h3,e⟩
  obtain⟨b,kvs,xs,DT,yb,hb,ha,r,t,en⟩:=go ok hj;have aS:a∈M.gs:=by rw[Nf];simp
  rcases Ls ha r hb with⟨pJ,hg⟩ | ⟨d,v,Av,hg,hr⟩
  .refine⟨_,DT,_,yb,a,none,rfl,hg,true,rfl,?_⟩
   have Xs:kk≠Y.b:=λz=>by
    have hm:=t.UR;rw[<- z] at hm;have h1:=vY.mpr hm;unfold eO at pJ
    cases hf:kvs.find? λp=>decide (p.1=kk) with
    | none =>
     obtain⟨p,hp,Sv⟩:=cD.mp h1;exact List.find?_eq_none.mp hf p hp Sv
    | some p=>rw[hf] at pJ;cases pJ
   refine⟨env,pn,S,n,_,ok,Jg Xs,λeh σ' S' H' n' jK q=>?_,Dk⟩;obtain⟨Hh,q⟩:=q;rw[hj] at Hh;refine⟨eh,pn,S',n',_,jK,q,λv H1 d n1 r1 x1 g1 _ q=>?_⟩;obtain⟨OH,hT,hq⟩:=q;have iK:=jK.step x1 g1;obtain⟨b,kvs,xs,DT,yb,hb,ha,r,t,en⟩:=go iK Hh;have hlen:kvs.length<az:=aW t.len (!2);have r0:dO S' H1 (!20) xs:=r.any t.nl;obtain⟨ys,hp,hr⟩:=vV (f:=λk=>(k.map Sum.inl:List Key)) (k:=kk) r1 r0 (λ_ _ h=>oG h);have Ge:=pY.t (v:=v) (show H1 a=some (.dT (nv kvs xs)) from ha) hb (by rw[qG r0];exact hlen);rw[lV,hp,<- lV] at Ge;have x2:Ext M.gs H1 (eM H1 a (mR true (gQ kvs kk d) ys)):=.ye aS ha;have t2:=t.put hT OH hL;have Sw:dO S' (eM H1 a (mR true (gQ kvs kk d) ys)) ((gQ kvs kk d).map (·.2)) ys:=hr.ext (x2.mono iK.p6)
   have g2:M.G (eM H1 a (mR true (gQ kvs kk d) ys)) n1:=by
    rw[hG];exact⟨en,_,ys,dP,Sw.any t2.nl,t2⟩
   refine⟨_,yb,_,DT,a,_,rfl,Ge,?_⟩;have NJ:eM H1 a (mR true (gQ kvs kk d) ys) b=some (.tup ((kk.map (Sum.inl:Int->Key)).map kV)):=x2.tup _ _ hb;refine⟨_,yb,_,DT,a,?_⟩;rcases Ls (S:=S') dP Sw NJ with⟨pJ,_⟩ | ⟨d',v',Av,hg,Xt⟩
   .rw[uD] at pJ;cases pJ
   .rw[uD] at Av
    cases Av;exact⟨v',rfl,hg,Dk v' _ d n1 (Xt.less iK.s0) ((iK.step x2 g2).ext) g2 hq⟩
  .refine⟨_,DT,_,yb,a,some v,rfl,hg,false,rfl,_,yb,_,DT,a,v,rfl,hg,?_⟩
   have hp:=t.ok _ (oJ Av);exact Dk v H d n (hr.any hp.2) ok.ext ok.gd (Xr d hp.1)⟩
noncomputable def JC (o:Option Ent):Option Ent:=match o with | some (.s d)=>some (.s d) | _=>none
theorem B2 {env:eU}{i j:Nat}{e:Ent}(h:((env.map JC).set i none)[j]? = some (some e)):j≠i/\∃d,e=.s d/\env[j]? = some (some (.s d)):=by
 rcases eJ h with⟨_,e1⟩ | ⟨ne,e1⟩
 .cases e1
 .refine⟨λz=>ne z.symm,?_⟩
  rw[aB] at e1
  cases ho:env[j]? with
  | none=>rw[ho] at e1;cases e1
  | some o =>
   rw[ho] at e1
   cases o with
   | none=>cases e1
   | some en =>
    cases en with
    | s d=>cases e1;exact⟨d,rfl,rfl⟩
    | _=>cases e1
noncomputable def v3 (i:Nat)(uk uv:UX)(w:kz->US):US:=λE env n=>i<env.length/\uk env n λk n1=>uv env n1 λd n2=>lE (lB true k) λkk=>∃Y:kz,Y.T kk d/\iL d=true/\kk∈Y.L/\Y.b=kk/\w Y { nx:=λ_ _=>False,rt:=E.rt } ((env.map JC).set i none) n2
theorem Dl {i:Nat}{C:Xc}{S0:List Addr}{H0:Hp}{has:∀b∈S0,H0 b≠none}{rest:List Stmt}{w:kz->US}(hu:X.A.units+1<cLine)(hN:X.N.Nodup)(hx:Loc X.env.scope x)(hk:KE X (Fr.pure C n0 S0 H0 has) ke uk)(hv:KE X (Fr.pure C n0 S0 H0 has) ve uv)
  (hr:∀(Y:kz) (a:Addr) (S:List Addr) (H:Hp) (hk:As Y H a) (hS:a∈S) (hs:∀b∈S,H b≠none),wC X (Fr.known C Y i a n0 S H hk hS hs) rest (w Y)) (hi:X.N[i]? = some x:=by rfl) (hs:swapsWith (.Dict [some ke] [ve] p) (some (.Name x fX)) pos.line X.env=pure false:=by rfl)
  (hf:X.fn x=true\/X.env.scope.names.lookup x=some .local:=by (first | exact .inl rfl | exact .inr rfl | assumption)):wC X (Fr.pure C n0 S0 H0 has) (.Assign [.Name x fX] (.Dict [some ke] [ve] p) pos::rest) (v3 i uk uv w):=by
 have Gf:xk X rest (λD σ H=>∃(Y:kz) (a:Addr) (S:List Addr) (H1:Hp) (hk:As Y H1 a) (hS:a∈S) (hs:∀b∈S,H1 b≠none),Bq (Fr.known C Y i a n0 S H1 hk hS hs) (w Y) D σ H) :=
  ⟨λpins s σ H D I q=>let ⟨Y,a,S,H1,hk,hS,hs,h⟩:=q;(hr Y a S H1 hk hS hs).run.run pins s σ H D I h⟩
 refine⟨(eZ (gF hN hi hx (⟨ym hu hk.run.run hv.run.run⟩:QE X _ _) hs hf) Gf).weaken λD σ H h=>CS h λenv pn S n E h=>?_⟩;obtain⟨ok,⟨hlen,hu⟩,zc,Dk⟩:=h;intro a ha;have x0:Ext (Fr.pure C n0 S0 H0 has).gs H (eM H a (.dT [])):=.new ha;have Lm:=ok.hold (H':=eM H a (.dT [])) ha (by rw[dP];simp) x0 (ok.grow (.new ha));have Ln:a ∉ (Fr.pure C n0 S0 H0 has).gs:=by simp[Fr.pure]
 refine⟨env,pn,a::S,n,_,Lm,hu,λy H1 kd n1 r1 x1 g1 _ q=>?_⟩;have iK:=Lm.step x1 g1;refine⟨env,pn,a::S,n1,_,iK,q,λv H2 d n2 r2 x2 g2 _ q=>?_⟩;have um:=iK.step x2 g2;obtain⟨kk,ek,Y,hT,OH,hL,Xu,hw⟩:=q;have h2:H2 a=some (.dT []):=x2.keep _ _ Ln (x1.keep _ _ Ln dP);obtain⟨b,rfl,hb⟩:=qF (gs:=[]) (.inl (r1.ext (x2.mono iK.p6))) ek;have DS:H0 a=none:=ok.anew ha;have xS:Ext (a::S) H2 (eM H2 a (mR true [(kk,d)] [v])):=.ye (t:=true) (kvs:=[]) (xs:=[]) (!4) h2;have Sx:As Y (eM H2 a (mR true [(kk,d)] [v])) a:=⟨[(kk,d)],[v],dP,(dO.cons (r2.ext xS) .nil).any (by simp[gP,OH]),λp hp=>by rw[au.mp hp];exact⟨hT,OH⟩,!4,λp hp=>by rw[au.mp hp];exact hL,by simp[Xu]⟩
 have nT:∀c∈a::S,eM H2 a (mR true [(kk,d)] [v]) c≠none:=λc hc=>by
  by_cases z:c=a
  .rw[z,dP];simp
  .rw[dU z];exact um.has c hc
 refine⟨h2,b,_,rfl,hb,Y,a,a::S,_,Sx,aq ..,nT,(env.map JC).set i none,[],a::S,n2,_,⟨λj e he=>?_,λj l ds es c h1=>?_,by rw[be,ao,be,ok.len],λj hj=>?_,⟨g2,Sx⟩,.refl _ _,λc hc=>hc,λc hc=>.inl hc,nT,λq hq=>by cases hq⟩,hw,λ_ _ _ _ _ _ z=>z.elim,λv' H' d' n' rv xx g q=>?_⟩
 .obtain⟨Xv,d',rfl,zR⟩:=B2 he
  obtain⟨w',QP,kN⟩:=um.val j _ zR;exact⟨w',by rw[aP (λz=>Xv z.symm)];exact QP,eB.ext xS kN⟩
 .obtain⟨_,d',e,_⟩:=B2 h1
  cases e
 .have e:j=i:=au.mp hj
  rw[e];exact iG (by rw[<- ok.len];exact hlen)
 .refine Dk v' H' d' n' (rv.less λc hc=>ai _ (ok.s0 c hc)) ⟨λc o hc Ro=>?_,λc ys Ro=>?_⟩ ?_ q
  .have V7:c≠a:=λz=>by rw[z] at Ro;exact absurd (Ro.symm.trans DS) (!4)
   refine xx.keep c o (by simpa [Fr.known] using V7) ?_;show eM H2 a _ c=_;rw[dU V7];exact um.ext.keep c o hc Ro
  .exact xx.tup c ys (xS.tup c ys (um.ext.tup c ys Ro))
  .exact g.1
end
end L2
namespace L2
open PySem PySem.Spec PyProof.Rows PySem.W
noncomputable def Gg (x0:ah)(f:Bool)(d:Addr)(i n ep:Nat)(k v:ah):Obj:={ cls:=.type "dict_itemiterator",data:=.fields #[x0,.bool f,.ref d,.int i 0,.int n 0,.int ep 0,k,v] }
inductive yo (h:Heap) (it:Addr):ah->Bool->Prop
 | no:yo h it .none false
 | pair (a:Addr) (oa:Obj) (f:Bool) (h1:h.get? a=some oa) (h2:a≠it):yo h it (rawInt a) f
noncomputable def JD (h:Heap)(it d:Addr)(i n ep:Nat):Prop:=∃x0 f k v,h.get? it=some (Gg x0 f d i n ep k v)/\yo h it x0 f
section
variable {prog:aV}{w:World}{A:Around}{E:ah->aw->Prop}{s:aw}{d it v:Addr}{o:Obj}{es:Array DictEntry}{ep i:Nat}{x0 ok ov:ah}{f:Bool}
theorem JE {Q:ah->aw->Prop}(hv:s.heap.IsItemsView v d)(ho:s.heap.get? d=some o)(hd:o.data=.dict es ep)
  (q:Q (!14) { s with heap:=s.heap.push (Gg .none false d 0 es.size ep .none .none) }):aG (!10) A (pyIter (.ref v)) Q E s:=by
 obtain⟨u,hu,_,hf⟩:=id hv;refine wpAny_pyIter_slot hv.typeIs F.slot_dict_items_iter (wpAny_call_entry F.slot_dict_items_iter hv.typeIs F.entry_dict_items_iter (aa (aj (aa (aa (wpAny_field hu hf (x:=.ref d) rfl (aj (aa ?_))))))) (F.args_dict_items_iter_1 _));unfold Builtin.Dict_items.newIterator;refine aa (wpAny_dictEntries ho hd (aa (wpAny_dictEpoch ho hd ?_)));simp only[show Builtin.Dict_items.ownsTuple "dict_itemiterator" = true by decide,if_true];refine aY (aj ⟨_,rfl, "dict_itemiterator",_,⟨_,ay _ rfl,rfl⟩,F.slot_dict_itemiterator_next.lookup,?_⟩) (by simp only[sizeOk,Builtin.Dict_items.ownedTupleFields,aE,aH,av,bz,sizeLine_eq];omega);simpa [rawInt,Builtin.Dict_items.ownedTupleFields,Gg] using q
theorem JF {Q:ah->aw->Prop}{a b:ah}{n:Nat}(wB:s.heap.get? it=some (Gg x0 f d i n ep ok ov))(hh:yo s.heap it x0 f)
  (q:∀h',JD h' it d i n ep->h'.get? s.heap.objs.size=some { cls:=.type "tuple",data:=.seq #[a,b] }->h'.objs.size=s.heap.objs.size+1->(∀c u,c≠it->s.heap.get? c=some u->h'.get? c=some u)->Q (!14) { s with heap:=h' }) :
  aG (!10) A (Builtin.Dict_items.pairFromOwner (.ref it) 6 a b) Q E s:=by
 have DN:it<s.heap.objs.size:=aD wB;unfold Builtin.Dict_items.pairFromOwner;refine aa (wpAny_newTuple ?_);have e2:=ak { cls:=.type "tuple",data:=.seq #[a,b] } wB;have t2:(s.heap.push { cls:=.type "tuple",data:=.seq #[a,b] }).get? s.heap.objs.size=some { cls:=.type "tuple",data:=.seq #[a,b] }:=ay _ rfl;have z2:(s.heap.push { cls:=.type "tuple",data:=.seq #[a,b] }).objs.size=s.heap.objs.size+1:=bV ..;have k2:∀c u,s.heap.get? c=some u->(s.heap.push { cls:=.type "tuple",data:=.seq #[a,b] }).get? c=some u:=λc u e=>ak _ e;have fin:∀h',JD h' it d i n ep->Heap.SameBut it (s.heap.push { cls:=.type "tuple",data:=.seq #[a,b] }) h'->Q (!14) { s with heap:=h' }:=λh' st sb=>q h' st (sb.extBut _ _ (bB DN) t2) (by rw[sb.1,z2]) λc u hc e=>sb.extBut c u hc (k2 c u e);show aG _ _ (Builtin.Dict_items.ownedTupleIsFree (.ref it) >>= _) _ _ { s with heap:=_ };generalize s.heap.push { cls:=.type "tuple",data:=.seq #[a,b] }=h2 at *;refine aa ?_;unfold Builtin.Dict_items.ownedTupleIsFree
 cases hh with
 | no =>
  refine aa (wpAny_field e2 rfl (x:=.none) rfl (aj ?_));simp only[if_true];refine aa (wpAny_field e2 rfl (x:=ok) rfl (aa (wpAny_field e2 rfl (x:=ov) rfl (aa (wpAny_setField_rec e2 (!4) λh3 e3 s3=>aa (wpAny_setField_rec e3 (!4) λh4 e4 s4=>aa (wpAny_setField_rec e4 (!4) λh5 e5 s5=>aa (wpAny_setField_rec e5 (!4) λh6 e6 s6=>aa (wpAny_letGo (aj ?_))))))))));replace s3:Heap.SameBut it h2 h3:=s3;replace s4:Heap.SameBut it h3 h4:=s4;replace s5:Heap.SameBut it h4 h5:=s5;replace s6:Heap.SameBut it h5 h6:=s6;have sb:Heap.SameBut it h2 h6:=((s3.trans s4).trans s5).trans s6;exact fin h6 ⟨_,_,_,_,e6,.pair _ _ _ (sb.extBut _ _ (bB DN) t2) (bB DN)⟩ sb
 | pair c oc f h1 hV =>
  refine aa (wpAny_field e2 rfl (x:=rawInt c) rfl ?_);show aG _ _ (loadIfAlive ((c:Int).toNat) >>= _) _ _ _;rw[bQ];refine aa (kdx_alive (k2 c oc h1) ?_);simp only[Option.isNone_some,bx,if_false];refine aa (wpAny_field e2 rfl (x:=.bool f) rfl ?_)
  cases f with
  | true =>
   rw[if_neg (show ¬ ((ah.bool true != ah.bool true)=true) from aX)];refine aj ?_;simp only[bx,if_false];exact aj (fin h2 ⟨_,_,_,_,e2,.pair c oc _ (k2 c oc h1) hV⟩ (Heap.SameBut.refl _ _))
  | false =>
   rw[if_pos (show (ah.bool false != ah.bool true)=true from rfl)];refine aa (wpAny_setField_rec e2 (!4) λh3 e3 s3=>aj ?_);replace s3:Heap.SameBut it h2 h3:=s3;simp only[bx,if_false];exact aj (fin h3 ⟨_,_,_,_,e3,.pair c oc _ (s3.extBut _ _ hV (k2 c oc h1)) hV⟩ s3)
theorem JG {Q:Option ah->aw->Prop}(Cr:JD s.heap it d i es.size ep)(ho:s.heap.get? d=some o)(hd:o.data=.dict es ep)(hi:i<es.size)(hV:d≠it)
  (q:∀h',JD h' it d (i+1) es.size ep->h'.get? s.heap.objs.size=some { cls:=.type "tuple",data:=.seq #[es[i].key,es[i].val] }->h'.objs.size=s.heap.objs.size+1->(∀c u,c≠it->s.heap.get? c=some u->h'.get? c=some u)->Q (some (!14)) { s with heap:=h' }) :
  aG (!10) A (pyNext (.ref it)) Q E s:=by
 obtain⟨x0,f,ok,ov,wB,hh⟩:=Cr;have ty:s.TypeIs (.ref it) "dict_itemiterator" := ⟨_,wB,rfl⟩;unfold pyNext;refine aa (wpAny_attempt (wpAny_callSpecial?_slot (name:=Str.ofString "__next__") ty F.slot_dict_itemiterator_next (wpAny_call_entry F.slot_dict_itemiterator_next ty F.entry_dict_itemiterator_next (aa (aj (aa (aa ?_)))) (F.args_dict_itemiterator_next_1 _))));first | refine aa (wpAny_typeNameOfWhole_itemiter ty (aj (aa (wpAny_fieldsOf wB rfl ?_)))) | refine aa (wpAny_typeNameOf_itemiter ty (aj (aa (wpAny_fieldsOf wB rfl ?_))))
 simp only[show Builtin.Dict_items.ownsTuple "dict_itemiterator" = true by decide,if_true];show aG _ _ (ite ((ah.ref d == ah.none)=true) _ _) _ _ s;rw[if_neg (show ¬ ((ah.ref d == ah.none)=true) from aX)];refine aa (aj (aa (wpAny_dictEntries ho hd ?_)));rw[if_neg (!4)];refine aa (aj (aa (wpAny_dictEpoch ho hd ?_)));rw[if_neg (!4)];refine aj ?_;simp only[show ¬ ((i:Int)<0) from by omega,if_false,bQ,cT hi];refine aa ?_;first | refine aa (wpAny_typeNameOfWhole_itemiter ty (aj (aa (wpAny_isOneOf_itemiter ty ?_)))) | refine aa (wpAny_typeNameOf_itemiter ty (aj (aa (wpAny_isOneOf_itemiter ty ?_))))
 show aG _ _ (setField (.ref it) 3 (rawInt ((i:Int)+1)) >>= _) _ _ s;refine aa (wpAny_setField_rec wB (!4) λh1 e1 s1=>?_);replace s1:Heap.SameBut it s.heap h1:=s1
 replace e1:h1.get? it=some (Gg x0 f d (i+1) es.size ep ok ov):=by
  have e:((i+1:Nat):Int)=(i:Int)+1:=by omega
  unfold Gg;rw[e];simpa [rawInt,Gg] using e1
 have V8:aw.TypeIs { s with heap:=h1 } (.ref it) "dict_itemiterator" := ⟨_,e1,rfl⟩
 have Xw:yo h1 it x0 f:=by
  cases hh with
  | no=>exact .no
  | pair a oa f g1 g2=>exact .pair a oa _ (s1.extBut _ _ g2 g1) g2
 refine aa (wpAny_holding (aa (wpAny_isOneOf_itemiter V8 (aa (wpAny_isOneOf_itemiter V8 ?_)))));show aG _ _ (Builtin.Dict_items.pairFromOwner (.ref it) 6 es[i].key es[i].val) _ _ { s with heap:=h1 };refine JF (s:={ s with heap:=h1 }) e1 Xw λh' st t z k=>aj ⟨_,rfl,aj ?_⟩;have z1:h1.objs.size=s.heap.objs.size:=s1.1;simp only[z1] at t z ⊢;exact q h' st t z λc u hc e=>k c u hc (s1.extBut _ _ hc e)
theorem JH {Q:Option ah->aw->Prop}(hA:A.handled=none)(Cr:JD s.heap it d i es.size ep)(ho:s.heap.get? d=some o)(hd:o.data=.dict es ep)(hi:es.size<=i)
  (q:∀h',Heap.ExtBut it s.heap h'->Q none { s with heap:=h' }):aG (!10) A (pyNext (.ref it)) Q E s:=by
 obtain⟨x0,f,ok,ov,wB,hh⟩:=Cr;have ty:s.TypeIs (.ref it) "dict_itemiterator" := ⟨_,wB,rfl⟩;unfold pyNext;refine aa (wpAny_attempt (wpAny_callSpecial?_slot (name:=Str.ofString "__next__") ty F.slot_dict_itemiterator_next (wpAny_call_entry F.slot_dict_itemiterator_next ty F.entry_dict_itemiterator_next (aa (aj (aa (aa ?_)))) (F.args_dict_itemiterator_next_1 _))));first | refine aa (wpAny_typeNameOfWhole_itemiter ty (aj (aa (wpAny_fieldsOf wB rfl ?_)))) | refine aa (wpAny_typeNameOf_itemiter ty (aj (aa (wpAny_fieldsOf wB rfl ?_))))
 simp only[show Builtin.Dict_items.ownsTuple "dict_itemiterator" = true by decide,if_true];show aG _ _ (ite ((ah.ref d == ah.none)=true) _ _) _ _ s;rw[if_neg (show ¬ ((ah.ref d == ah.none)=true) from aX)];refine aa (aj (aa (wpAny_dictEntries ho hd ?_)));rw[if_neg (!4)];refine aa (aj (aa (wpAny_dictEpoch ho hd ?_)));rw[if_neg (!4)];refine aj ?_;simp only[show ¬ ((i:Int)<0) from by omega,if_false,bQ,Array.getElem?_eq_none hi];refine aa ?_;first | refine aa (wpAny_typeNameOfWhole_itemiter ty (aj ?_)) | refine aa (wpAny_typeNameOf_itemiter ty (aj ?_))
 show aG _ _ (setField (.ref it) 2 .none >>= _) _ _ s;refine aa (wpAny_setField wB rfl (!4) ?_);show aG _ _ (newExc (.type "StopIteration") [] >>= _) _ _ _;refine aa ?_;simp only[newExc,newTuple];refine aa (aY ?_ (by size_fits));refine aa (m:=firstArgMember _ _) (wpAny_of_eq (a:=ah.none) (by first | rfl | (simp only[firstArgMember];rfl)) ?_);refine aY ?_ (by size_fits);simp only[raiseNew];refine aa (wpAny_handled ?_);rw[show A.in1.handled=none from hA];refine aa (aj (wpAny_throw ?_));refine aa (wpAny_isInstance (T := "StopIteration") (b:=true) ⟨_,ay _ rfl,rfl⟩ isSubtype_stop ?_);exact aj (q _ (((Heap.SameBut.update ..).extBut.push _).push _))
end
structure Rp (es:Array DictEntry) (lo:Addr) (h:Heap) (as:List Addr):Prop where
 rise:as.Pairwise (· < ·)
 above:∀a∈as,lo<a
 pair:∀(j:Nat) (a:Addr),as[j]? = some a->∃hj:j<es.size,h.get? a=some { cls:=.type "tuple",data:=.seq #[es[j].key,es[j].val] }
theorem JD.other {h h':Heap}{it d:Addr}{i n ep:Nat}(st:JD h it d i n ep)(wB:∀u,h.get? it=some u->h'.get? it=some u)(k:∀a u,h.get? a=some u->∃u',h'.get? a=some u'):JD h' it d i n ep:=by
 obtain⟨x0,f,ok,ov,e,hh⟩:=st;refine⟨x0,f,ok,ov,wB _ e,?_⟩
 cases hh with
 | no=>exact .no
 | pair a oa f g1 g2 =>
  obtain⟨u,hu⟩:=k a oa g1;exact .pair a u _ hu g2
section
variable {prog:aV}{w:World}{A:Around}{E:ah->aw->Prop}{s:aw}{d it v:Addr}{o:Obj}{es:Array DictEntry}{ep:Nat}{R:Result->aw->Prop}
theorem JI {S I:Addr}(hA:A.handled=none)(hd:o.data=.dict es ep)(Rq:S<I)(Rr:d≠S)(V9:d≠I)(hn:es.size<=az)(res:ah){h1:Heap}
  (q:∀h' tk acc c as,(∀b u,b≠S->b≠I->h1.get? b=some u->h'.get? b=some u)->h'.get? S=some { cls:=.type "list",data:=.seq acc c }->as.length=es.size->Rp es I h' as->acc.toList=as.map ah.ref->R (.ok (.ret res)) { s with heap:=h',toks:=tk }) :
  ∀(k i:Nat) (h:Heap) (tk c:Nat) (acc:Array ah) (as:List Addr),es.size - i=k->i<=es.size->JD h I d i es.size ep->h.get? d=some o->(∀b u,b≠S->b≠I->h1.get? b=some u->h.get? b=some u) ->
   h.get? S=some { cls:=.type "list",data:=.seq acc c }->acc.toList=as.map ah.ref->as.length=i->Rp es I h as->I<h.objs.size ->
   codeAny (!10) A (.builtin "list.extend.loop" ⟨[.ref S,.ref I,res],[]⟩) R { s with heap:=h,toks:=tk }:=by
 have hV:S≠I:=aR Rq;intro k
 induction k with
 | zero =>
  intro i h tk c acc as hk hi st ho kp hS xj C5 g hI;refine codeAny_builtin PySem.F.entry_extend_loop ?_;rw[Around.under_plainId PySem.F.plain_extend_loop _];show aG _ A.in1 (pyNext (.ref I) >>= _) _ _ _;refine aa (JH (s:={ s with heap:=h,toks:=tk }) (A:=A.in1) hA st ho hd (!1) λh' eb=>aj (q h' tk acc c as (λb u n1 n2 e=>eb b u n2 (kp b u n1 n2 e)) (eb S _ hV hS) (!1) ⟨g.rise,g.above,λj a ha=>?_⟩ xj));obtain⟨hj,e⟩:=g.pair j a ha;exact⟨hj,eb a _ (bB (g.above a (cg ha))) e⟩
 | succ k ih =>
  intro i h tk c acc as hk hi st ho kp hS xj C5 g hI;have gh:i<es.size:=by omega
  have hsz:acc.size=i:=by rw[<- bj,xj,ao,C5]
  refine codeAny_builtin PySem.F.entry_extend_loop ?_;rw[Around.under_plainId PySem.F.plain_extend_loop _];show aG _ A.in1 (pyNext (.ref I) >>= _) _ _ _;refine aa (JG (s:={ s with heap:=h,toks:=tk }) st ho hd gh V9 λh' eK t z NK=>?_);dsimp only at t z NK ⊢;have Sy:=NK S _ hV hS;have up:∀b u,b≠S->h'.get? b=some u->(h'.update S (Obj.mapSeq (·.push (ah.ref h.objs.size)))).get? b=some u:=λb u hb e=>(aI _ _ (Ne.symm hb)).trans e;have uS:=aT (Obj.mapSeq (·.push (ah.ref h.objs.size))) Sy rfl;have SA:S<h.objs.size:=aD hS
  have al:∀a∈as,a<h.objs.size:=λa ha=>by
   obtain⟨j,hj⟩:=List.mem_iff_getElem?.mp ha;obtain⟨_,e⟩:=g.pair j a hj;exact aD e
  show aG _ A.in1 (updateSeq S (·.push (ah.ref h.objs.size)) >>= _) _ _ _
  refine aa (wpAny_updateSeq Sy rfl (aj ⟨plainId_quiet PySem.F.plain_extend_loop _,ih (i+1) _ tk _ (acc.push (ah.ref h.objs.size)) (as++[h.objs.size]) (!1) gh (eK.other (λu e=>up I u (Ne.symm hV) e) λa u e=>?_) (up d o Rr (NK d o V9 ho))
   (λb u n1 n2 e=>up b u n1 (NK b u n2 (kp b u n1 n2 e))) uS (by rw[Array.toList_push,xj,aO];rfl) (by rw[aH,C5];rfl) ⟨?_,?_,?_⟩ ?_⟩) (by rw[hsz];omega) (by show (acc.push (ah.ref h.objs.size)).size<=az+1;rw[Array.size_push,hsz];omega))
  .by_cases e1:a=S
   .subst e1;exact⟨_,uS⟩
   .exact⟨u,up a u e1 e⟩
  .refine List.pairwise_append.mpr ⟨g.rise,List.pairwise_singleton _ _,λa ha b hb=>?_⟩
   rw[au.mp hb];exact al a ha
  .intro a ha
   rcases aL.mp ha with ha | ha
   .exact g.above a ha
   .rw[au.mp ha];exact hI
  .intro j b hj
   by_cases h1:j<as.length
   .rw[bE h1] at hj
    obtain⟨h2,e⟩:=g.pair j b hj;have hb:=g.above b (cg hj);exact⟨h2,up b _ (bB (dr Rq hb)) (NK b _ (bB hb) e)⟩
   .rw[bJ (!1)] at hj
    obtain⟨h2,h3⟩:=aA.mp hj;have h4:j=i:=by simp at h2;omega
    subst h4;have h5:h.objs.size=b:=by simpa [C5] using h3
    subst h5;exact⟨gh,up _ _ (bB SA) t⟩
  .exact dr hI (aD (up _ _ (bB SA) t))
theorem Aw {r:Addr}{Q:List ah->aw->Prop}(hA:A.handled=none)(hv:s.heap.IsItemsView r d)(ho:s.heap.get? d=some o)(hd:o.data=.dict es ep)(hn:es.size<=az)
  (q:∀(h':Heap) (tk:Nat) (as:List Addr),(∀b u,s.heap.get? b=some u->h'.get? b=some u)->as.length=es.size->Rp es s.heap.objs.size h' as->Q (as.map ah.ref) { s with heap:=h',toks:=tk }) :
  aG (!10) A (collect (.ref r)) Q E s:=by
 have hr:r<s.heap.objs.size:=let ⟨_,e,_⟩:=hv;aD e;have Rt:d<s.heap.objs.size:=aD ho;unfold collect;refine aa (wpAny_runValue (codeAny_builtin entry_proto_collect' ?_));rw[Around.under_plainId PySem.F.plain_proto_collect _];show aG _ A.in1 (newList [] >>= λl=>again (.builtin "list.__iadd__" ⟨[l,.ref r],[]⟩)) _ _ s;refine aa (aY (aj ⟨plainId_quiet PySem.F.plain_list_iadd _,codeAny_builtin entry_list_iadd' ?_⟩));rw[Around.under_plainId PySem.F.plain_list_iadd _];have hS:(s.heap.push { cls:=.type "list",data:=.seq ([]:List ah).toArray }).get? s.heap.objs.size=some { cls:=.type "list",data:=.seq #[] }:=ay _ rfl;have z1:(s.heap.push { cls:=.type "list",data:=.seq ([]:List ah).toArray }).objs.size=s.heap.objs.size+1:=bV ..;have k1:∀b u,s.heap.get? b=some u->(s.heap.push { cls:=.type "list",data:=.seq ([]:List ah).toArray }).get? b=some u:=λb u e=>ak _ e;show aG _ A.in1 (Builtin.List.listExtendWith (!14) (.ref r) (!14)) _ _ { s with heap:=_ };generalize s.heap.push { cls:=.type "list",data:=.seq ([]:List ah).toArray }=h1 at *;have V':Heap.IsItemsView h1 r d:=let ⟨u,e,x⟩:=hv;⟨u,k1 r u e,x⟩;have za:aw.TypeIs { s with heap:=h1 } (.ref r) "dict_items" := Heap.IsItemsView.typeIs (s:={ s with heap:=h1 }) V';unfold Builtin.List.listExtendWith;refine aa (wpAny_typeOf (T := "dict_items") za ?_);have g1:Builtin.List.listSameRef (!14) (.ref r)=false:=by simp[Builtin.List.listSameRef,bB hr]
 simp only[g1,show (ah.type "dict_items" == ah.type "list")=false by decide,show (ah.type "dict_items" == ah.type "tuple")=false by decide,Bool.or_false,bx,if_false];refine aa (JE (s:={ s with heap:=h1 }) V' (k1 d o ho) hd ?_);have hI:(h1.push (Gg .none false d 0 es.size ep .none .none)).get? h1.objs.size=some (Gg .none false d 0 es.size ep .none .none):=ay _ rfl
 have key:∀(h:Heap) (c tk:Nat),(∀b u,b≠s.heap.objs.size->(h1.push (Gg .none false d 0 es.size ep .none .none)).get? b=some u->h.get? b=some u)->h.get? s.heap.objs.size=some { cls:=.type "list",data:=.seq #[] c } ->
   codeAny (!10) A (.builtin "list.extend.loop" ⟨[.ref s.heap.objs.size,.ref h1.objs.size,.ref s.heap.objs.size],[]⟩) (λy s'=>∃(h':Heap) (tk:Nat) (acc:Array ah) (c:Nat) (as:List Addr),y=.ok (.ret (!14))/\s'={ s with heap:=h',toks:=tk }/\h'.get? s.heap.objs.size=some { cls:=.type "list",data:=.seq acc c }/\(∀b u,s.heap.get? b=some u->h'.get? b=some u)/\as.length=es.size/\Rp es s.heap.objs.size h' as/\acc.toList=as.map ah.ref) { s with heap:=h,toks:=tk }:=λh c tk kp SD=>by
  have hV:h1.objs.size≠s.heap.objs.size:=by rw[z1];exact cQ _
  refine JI (s:=s) (h1:=s.heap) (S:=s.heap.objs.size) (I:=h1.objs.size) hA hd (by rw[z1];exact cP _) (aR Rt) (by rw[z1];exact aR (b8 Rt)) hn _ (λh' SE acc c' as NK e hl g ha=>⟨h',SE,acc,c',as,rfl,rfl,e,λb u eb=>NK b u (aR (aD eb)) (by rw[z1];exact aR (b8 (aD eb))) eb,hl,⟨g.rise,λa ha=>dr (by rw[z1];exact cP _) (g.above a ha),g.pair⟩,ha⟩)
   es.size 0 h tk c #[] [] (Nat.sub_zero _) (bD _) ⟨_,_,_,_,kp _ _ hV hI,.no⟩ (kp d o (aR Rt) (ak _ (k1 d o ho))) (λb u n1 _ e=>kp b u n1 (ak _ (k1 b u e))) SD rfl rfl ⟨List.Pairwise.nil,λa ha=>(nomatch ha),λj a hj=>by simp at hj⟩ (aD (kp _ _ hV hI))
 have SF:=ak (Gg .none false d 0 es.size ep .none .none) hS;refine aa (wpAny_holding (kdx_hint (let ⟨u,e,c⟩:=za;⟨u,ak _ e,c⟩) ?_));refine wpAny_ite_split (λ_=>aa (wpAny_rule (aa ?_))) (λ_=>aj ⟨plainId_quiet PySem.F.plain_extend_loop _,codeAny_mono (key _ _ _ (λb u _ e=>e) SF) λy s2 z=>?_⟩)
 rotate_left
 .obtain⟨h',tk,acc,c,as,rfl,rfl,e,kp,hl,g,ha⟩:=z
  show aG _ A (load s.heap.objs.size >>= _) Q E _;refine aa (wpAny_load e (aj ?_));show Q acc.toList _;rw[ha];exact q h' tk as kp hl g
 show aG _ _ (updateSeq s.heap.objs.size (·.push .none) >>= λ_=>updateSeq s.heap.objs.size (·.pop)) _ _ _;refine aa (wpAny_updateSeq SF rfl ?_);have SD:=aT (Obj.mapSeq (·.push ah.none)) SF rfl;refine wpAny_updateSeq (hz:=by seq_fits) SD rfl ?_;have Xx:=aT (Obj.mapSeq (·.pop)) SD rfl;refine aj ⟨plainId_quiet PySem.F.plain_extend_loop _,codeAny_mono (key _ _ _ (λb u hb e=>(aI _ _ (Ne.symm hb)).trans ((aI _ _ (Ne.symm hb)).trans e)) Xx) λy s2 z=>?_⟩;obtain⟨h',tk,acc,c,as,rfl,rfl,e,kp,hl,g,ha⟩:=z;show aG _ A (load s.heap.objs.size >>= _) Q E _;refine aa (wpAny_load e (aj ?_));show Q acc.toList _;rw[ha];exact q h' tk as kp hl g
end
section
variable {X:Cx}{pins:List (Addr × Obj)}{s s0:aw}{σ:St}{H H0:Hp}{a:Addr}{kvs:List (List Key × V)}
theorem v5 (x:fH X.prog X.w H s.heap a (.dT kvs)):∃o es ep,s.heap.get? a=some o/\o.ExactDict/\o.data=.dict es ep/\(a == sysModules)=false/\es.size=kvs.length/\es.size<=az/\∀(i:Nat) (h:i<es.size) (p:List Key × V),kvs[i]? = some p->∃b,es[i].key=.ref b/\H b=some (.tup (p.1.map kV))/\RelV p.2 es[i].val:=by
 obtain⟨z,y,xs,r,o,es,ep,e,c,d,k,_⟩:=x;have hl:es.size=xs.length:=size_of_entries k;have sQ:=Paired.length r;refine⟨o,es,ep,e,c,d,y,!1,!1,λi h p hp=>?_⟩;obtain⟨q,hq,z1,z2,z3⟩:=Paired.at r i p hp;have:=entry_at k i;rw[hq,cT h] at this;rw[Option.some.inj this];exact⟨q.2.1,rfl,z2,z3⟩
noncomputable def NL:V->List V->Hp->VK->Prop:=λx vs H Q=>∃a kvs,x=.ref a/\vs=[]/\H a=some (.dT kvs)/\∀r,H r=none->Q (.ref r) (eM H r (.ext λh=>h.IsItemsView r a))
theorem Gh:CC X "dict.items" NL:=by
 intro pins s σ H x vs v us Q I rx rv h;obtain⟨a,kvs,rfl,rfl,hH,q⟩:=h;cases rx;have U0:=rv.zero;subst U0;obtain⟨o,es,ep,e,c,d,y,_⟩:=v5 (I.eP a _ hH);have ty:s.TypeIs (.ref a) "dict" := ⟨o,e,c.1⟩;refine wpAny_call_entry PySem.F.slot_dict_items ty PySem.F.entry_dict_items ?_ (PySem.F.args_dict_items_1 _);unfold Builtin.«dict.items» Builtin.Dict.noArgs;refine aa (aa (wpAny_notOrdered_dict ty ?_));show aG _ _ (pure a) _ _ s;refine aj ?_;show aG _ _ (Builtin.Dict.showsAll a >>= _) _ _ s;unfold Builtin.Dict.showsAll;rw[if_neg (by rw[y];exact aX)];refine aa (aj (aa (aY (aj ⟨_,rfl,?_⟩))));have hv:(s.heap.push { cls:=.type "dict_items",data:=.fields #[.ref a] }).IsItemsView s.heap.objs.size a:=⟨_,ay _ rfl,rfl,rfl⟩;exact⟨.ref s.heap.objs.size,_,I.laid (t':=s.toks) (o:=.ext λh=>h.IsItemsView s.heap.objs.size a) (λb u e=>ak _ e) (ap _) ⟨hv,let ⟨o,e,_⟩:=hv;⟨o,e⟩,λh1 h2 ⟨o,e,z⟩ k=>⟨o,k o e,z⟩⟩,rfl,q _ (I.eP.fresh (ap _))⟩
theorem Inv.pairs (I0:Inv X pins σ H0 s0):∀(as:List Addr) (ks:List (Addr × V)) (H:Hp),Inv X pins σ H s->as.length=ks.length->as.Pairwise (· < ·)->(∀a∈as,s0.heap.objs.size<=a/\H a=none)->(∀(j:Nat) (a:Addr) (k:Addr × V),as[j]? = some a->ks[j]? = some k->∃u,RelV k.2 u/\s.heap.get? a=some { cls:=.type "tuple",data:=.seq #[.ref k.1,u] }) ->
  ∃H',Inv X pins σ H' s/\Ext [] H H'/\(∀b,b ∉ as->H' b=H b)/\∀(j:Nat) (a:Addr) (k:Addr × V),as[j]? = some a->ks[j]? = some k->H' a=some (.tup [.ref k.1,k.2])
 | [],_,H,I,_,_,_,_=>⟨H,I,.refl _ _,λ_ _=>rfl,λj a k h=>by simp at h⟩
 | a::as,[],H,I,hl,_,_,_=>by simp at hl
 | a::as,k::ks,H,I,hl,hr,hf,hp=>by
  obtain⟨Xy,Sw⟩:=cm.mp hr;obtain⟨Xz,Wa⟩:=hf a (aq ..);obtain⟨u,ru,e⟩:=hp 0 a k rfl rfl;obtain⟨p0,p1,p2,p3,p4,p5⟩:=I0.oW (H':=H) Xz Wa;have I1:Inv X pins σ (eM H a (.tup [.ref k.1,k.2])) s:=I.Be (o:=.tup [.ref k.1,k.2]) e p0 p1 p3 p4 p5 ⟨by show 2<=az;decide,[.ref k.1,u],.cons rfl (.cons ru .nil),⟨_,e,rfl,_,rfl,rfl⟩⟩;have hV:∀b∈as,b≠a:=λb hb=>bB (Xy b hb);obtain⟨H',I2,x,same,all⟩:=Inv.pairs I0 as ks _ I1 (by simpa using hl) Sw (λb hb=>⟨(hf b (ai _ hb)).1,by rw[dU (hV b hb)];exact (hf b (ai _ hb)).2⟩) λj b k' h1 h2=>hp (j+1) b k' h1 h2;have U1:a ∉ as:=λz=>hV a z rfl;refine⟨H',I2,(Ext.new Wa).trans x,λb hb=>?_,λj b k' h1 h2=>?_⟩
  .rw[same b λz=>hb (ai _ z),dU λ(z:b=a)=>hb (by rw[z];exact aq ..)]
  .cases j with
   | zero =>
    cases h1;cases h2;rw[same a U1,dP]
   | succ j=>exact all j b k' h1 h2
noncomputable def Gi:ah->Addr | .ref b=>b | _=>0
theorem yp:∀as:List Addr,eg (as.map V.ref) (as.map ah.ref)
 | []=>.nil
 | a::as=>.cons rfl (yp as)
end
section
variable {X:Cx}{M:Fr}{x:Str}{p p2 pos gR fY:Pos}
noncomputable def j6 (kvs:fI):List ag:=kvs.map λp=>.tuple [.tuple (p.1.map .int),p.2]
theorem rV {S:List Addr}{H':Hp}:∀{kvs:fI} {xs:List V} {as:List Addr},dO S H' (!20) xs->as.length=(nv kvs xs).length->(∀(j:Nat) (p:List Key × V) (c:Addr),(nv kvs xs)[j]? = some p->as[j]? = some c->∃b,H' c=some (.tup [.ref b,p.2])/\H' b=some (.tup (p.1.map kV)))->dO S H' (j6 kvs) (as.map V.ref)
 | [],_,as,r,hl,_=>by
  cases r.e9;have:as=[]:=cE hl;subst this;exact .nil
 | p::kvs,_,as,r,hl,h=>by
  obtain⟨x,t,rfl,r1,r2⟩:=r.of_cons
  cases as with
  | nil=>simp[nv] at hl
  | cons c as =>
   obtain⟨b,h1,h2⟩:=h 0 _ c rfl rfl
   have hi:∀ns:List Int,dO S H' (ns.map .int) ((ns.map (Sum.inl:Int->Key)).map kV):=λns=>by
    induction ns with
    | nil=>exact .nil
    | cons n ns ih=>exact .cons (.int _) ih
   exact .cons (.tup h1 (.cons (.tup h2 (hi p.1)) (.cons r1 .nil))) (rV r2 (by simpa [nv] using hl) λj q d e1 e2=>h (j+1) q d e1 e2)
end
end L2
namespace PySem
open Sem (wp)
section
variable {prog:aV}{w:World}{A:Around}{E:ah->aw->Prop}{s:aw}{d:Addr}{o:Obj}{es:Array DictEntry}{ep:Nat}
theorem Gj {Q:Bool->aw->Prop}(ty:s.TypeIs (.ref d) "dict")(h:Q false s):aG (!10) A (Builtin.List.listLengthHint (.ref d)) Q E s:=by
 unfold Builtin.List.listLengthHint;refine aa (wpAny_specialOf ty F.slot_dict_len.lookup ?_);generalize hj:("dict.__len__" : String)=j0
 wp_delta
 rw[show splitId j0=some ("dict", "__len__") from by subst hj;decide +kernel];subst hj;refine aa (wpAny_isInstance (T := "dict") (b:=true) ty (by rw[isSubtype_type];kernel_rfl) ?_);refine wpAny_ite_split (λz=>absurd z (!2)) (λ_=>?_);refine wpAny_ite_split (λ_=>?_) (λz=>absurd (!3) z);exact aa (wpAny_typeOf ty (aj h))
theorem Dm (hh:A.handled=none)(I d:Addr)(hV:d≠I)(hk:o.data=.dict es ep):Walks prog w A I [I,d] [I] es.size (λi v=>∃h:i<es.size,v=es[i].key) (λi h=>h.IsKeyIter I d i es.size ep/\h.get? d=some o) where
 sub:=λb hb=>by simp at hb;simp[hb]
 frame:=λ_ _ _ st hk=>⟨st.1.at λo e=>hk I (!4) o e,hk d (!4) _ st.2⟩
 item:=λi s Q E hi st hQ=>L2.yk st.1 st.2 hk hi λh' U2 ly=>hQ _ h' s.toks ⟨hi,rfl⟩ ⟨U2,ly.extBut d o hV st.2⟩ λb o hb e=>ly.extBut b o (λh=>hb (by simp[h])) e
 done:=λs Q E st hQ=>L2.B0 hh st.1 st.2 hk (ap _) λh' zR=>hQ h' s.toks λb o hb e=>zR b o (λh=>hb (by simp[h])) e
 self:=λ_ _ _ _ st hQ=>wpAny_pyIter_keyiter st.1 hQ
theorem Ax {R:Result->aw->Prop}(hh:A.handled=none)(ho:s.heap.get? d=some o)(hc:o.ExactDict)(hk:o.data=.dict es ep)(hd:(d == sysModules)=false)(hlen:es.size<=az)(S:Addr)(res:ah)(c₀:Nat)
  (hS:s.heap.get? S=some { cls:=.type "list",data:=.seq #[] c₀ })
  (hR:∀h' tk JJ c',(∀b o,b≠S->s.heap.get? b=some o->h'.get? b=some o)->h'.get? S=some { cls:=.type "list",dict:=none,data:=.seq JJ c',slots:=#[] }->ItemsOf (λi v=>∃h:i<es.size,v=es[i].key) JJ es.size ->
   R (.ok (.ret res)) { s with heap:=h',toks:=tk }) :
  aG (!10) A.in1 (Builtin.List.listExtendWith (.ref S) (.ref d) res)
   (λfin s'=>match fin with | .done f=>R (.ok f) s' | .again c'=>c'.quiet=true/\codeAny (!10) A c' R s') (λe s'=>R (.error e) s') s:=by
 have ty:s.TypeIs (.ref d) "dict" := ⟨o,ho,hc.1⟩;have Rt:d<s.heap.objs.size:=aD ho;have SA:S<s.heap.objs.size:=aD hS
 have Rr:S≠d:=λz=>by
  obtain⟨o,e,c⟩:=ty;rw[<- z,hS] at e;cases e;exact absurd (show ah.type "list" = ah.type "dict" from c) (!2)
 have Rq:S≠s.heap.objs.size:=aR SA
 have XA:S ∉ [s.heap.objs.size,d]:=λz=>by
  rcases ax.mp z with z | z
  .exact Rq z
  .exact Rr (by simpa using z)
 have W:=(Dm (prog:=prog) (w:=w) (A:=A.in1) hh s.heap.objs.size d (aR Rt) hk).toS
 have run:∀(h:Heap) (c₁ tk:Nat),h.IsKeyIter s.heap.objs.size d 0 es.size ep->h.get? d=some o->(∀b o,b≠S->s.heap.get? b=some o->h.get? b=some o) ->
   h.get? S=some { cls:=.type "list",data:=.seq #[] c₁ }->codeAny (!10) A (.builtin "list.extend.loop" ⟨[.ref S,.ref s.heap.objs.size,res],[]⟩) R { s with heap:=h,toks:=tk }:=by
  intro h c₁ tk wB UN C' uE;refine codeAny_extend_loopS W hlen S XA res es.size 0 _ #[] c₁ rfl (bD _) ⟨wB,UN⟩ uE (ItemsOf.nil _) λs' JJ c' mv Sy xj=>?_;rw[Moved.eq_with mv];refine hR s'.heap s'.toks JJ c' (λb o hb e=>mv.heap b o (λz=>?_) (C' b o hb e)) Sy xj;rcases ax.mp z with z | z
  .exact hb z
  .have:b=s.heap.objs.size:=by simpa using z
   exact absurd (aD e) (by rw[this];exact bM _)
 unfold Builtin.List.listExtendWith;refine aa (wpAny_typeOf ty ?_);have n1:Builtin.List.listSameRef (.ref S) (.ref d)=false:=by simp[Builtin.List.listSameRef,Rr]
 have n2:(ah.type "dict" == ah.type "list")=false:=by decide
 have n3:(ah.type "dict" == ah.type "tuple")=false:=by decide
 simp only[n1,n2,n3,Bool.or_false,bx,if_false];refine aa (L2.yj hd ho hc hk ?_);have B3:(s.heap.push { cls:=.type "dict_keyiterator",data:=.fields #[.ref d,.int 0 0,.int es.size 0,.int ep 0] }).get? d=some o:=ak _ ho;have Ay:(s.heap.push { cls:=.type "dict_keyiterator",data:=.fields #[.ref d,.int 0 0,.int es.size 0,.int ep 0] }).IsKeyIter s.heap.objs.size d 0 es.size ep:=⟨_,ay _ rfl,rfl,rfl⟩;have B4:∀b o,s.heap.get? b=some o->(s.heap.push { cls:=.type "dict_keyiterator",data:=.fields #[.ref d,.int 0 0,.int es.size 0,.int ep 0] }).get? b=some o:=λb o e=>ak _ e;have uE:=B4 S _ hS;generalize s.heap.push { cls:=.type "dict_keyiterator",data:=.fields #[.ref d,.int 0 0,.int es.size 0,.int ep 0] }=h1 at B3 Ay B4 uE ⊢;refine aa (wpAny_holding (Gj (s:={ s with heap:=h1 }) ⟨o,B3,hc.1⟩ ?_));refine wpAny_ite_split (λ_=>?_) (λ_=>aj ⟨plainId_quiet F.plain_extend_loop _,run h1 c₀ s.toks Ay B3 (λb o _ e=>B4 b o e) uE⟩);refine aa (wpAny_rule (aa ?_));show aG _ _ (updateSeq S (·.push .none) >>= λ_=>updateSeq S (·.pop)) _ _ { s with heap:=h1 };refine aa (wpAny_updateSeq uE rfl ?_);have Lu:=aT (Obj.mapSeq (·.push ah.none)) uE rfl;refine wpAny_updateSeq (hz:=by seq_fits) Lu rfl ?_;have Ru:=aT (Obj.mapSeq (·.pop)) Lu rfl
 have Gk:∀b o,b≠S->h1.get? b=some o->((h1.update S (Obj.mapSeq (·.push ah.none))).update S (Obj.mapSeq (·.pop))).get? b=some o:=λb o hb e =>
  (aI _ _ (Ne.symm hb)).trans ((aI _ _ (Ne.symm hb)).trans e)
 exact aj ⟨plainId_quiet F.plain_extend_loop _,run _ _ s.toks (Ay.at λo e=>Gk _ o (Ne.symm Rq) e) (Gk _ o (Ne.symm Rr) B3) (λb o hb e=>Gk b o hb (B4 b o e)) Ru⟩
theorem yq {Q:List ah->aw->Prop}(hh:A.handled=none)(ho:s.heap.get? d=some o)(hc:o.ExactDict)(hk:o.data=.dict es ep)(hd:(d == sysModules)=false)(hlen:es.size<=az)
  (hQ:∀h' tk (acc:Array ah),(∀b o,s.heap.get? b=some o->h'.get? b=some o)->ItemsOf (λi v=>∃h:i<es.size,v=es[i].key) acc es.size->Q acc.toList { s with heap:=h',toks:=tk }) :
  aG (!10) A (collect (.ref d)) Q E s:=by
 unfold collect;refine aa (wpAny_runValue (codeAny_builtin F.entry_proto_collect ?_));rw[Around.under_plainId F.plain_proto_collect _];show aG _ A.in1 (newList [] >>= λl=>again (.builtin "list.__iadd__" ⟨[l,.ref d],[]⟩)) _ _ s;refine aa (aY (aj ⟨plainId_quiet F.plain_list_iadd _,codeAny_builtin F.entry_list_iadd ?_⟩));rw[Around.under_plainId F.plain_list_iadd _];show aG _ A.in1 (Builtin.List.listExtendWith (!14) (.ref d) (!14)) _ _ _;have hS:(s.heap.push { cls:=.type "list",data:=.seq ([]:List ah).toArray }).get? s.heap.objs.size=some { cls:=.type "list",data:=.seq #[] 0 }:=ay _ rfl
 have Rv:∀(h':Heap) (tk:Nat) (acc:Array ah) (c':Nat),(∀b o,b≠s.heap.objs.size->(s.heap.push { cls:=.type "list",data:=.seq ([]:List ah).toArray }).get? b=some o->h'.get? b=some o) ->
   h'.get? s.heap.objs.size=some { cls:=.type "list",dict:=none,data:=.seq acc c',slots:=#[] }->ItemsOf (λi v=>∃h:i<es.size,v=es[i].key) acc es.size ->
   aG (!10) A (match ah.ref s.heap.objs.size with
   | ah.ref a=>do
    match (<- load a).data with
     | Data.seq xs _=>pure xs.toList
     | _=>unsupported "internal:collect"
   | _=>unsupported "internal:collect") Q E { s with heap:=h',toks:=tk }:=λh' tk acc c' kp e hi=>by
  show aG _ A (load s.heap.objs.size >>= _) _ _ _;refine aa (wpAny_load e ?_);exact aj (hQ h' tk acc (λb o hb=>kp b o (aR (aD hb)) (ak _ hb)) hi)
 refine ca (Ax (A:=A) (R:=λr' s'=>r'=.ok (.ret (!14))/\∃h' tk acc c',s'={ s with heap:=h',toks:=tk }/\(∀b o,b≠s.heap.objs.size->(s.heap.push { cls:=.type "list",data:=.seq ([]:List ah).toArray }).get? b=some o->h'.get? b=some o) /\
   h'.get? s.heap.objs.size=some { cls:=.type "list",dict:=none,data:=.seq acc c',slots:=#[] }/\ItemsOf (λi v=>∃h:i<es.size,v=es[i].key) acc es.size)
  (s:={ s with heap:=s.heap.push { cls:=.type "list",data:=.seq ([]:List ah).toArray } }) hh (ak _ ho) hc hk hd hlen s.heap.objs.size (!14) 0 hS
  λh' tk acc c' kp e hi=>⟨rfl,h',tk,acc,c',rfl,kp,e,hi⟩) (λfin s' h=>?_) (λe s' h=>?_)
 .cases fin with
  | done f =>
   obtain⟨e,h',tk,acc,c',rfl,kp,q,hi⟩:=h;cases e;exact Rv h' tk acc c' kp q hi
  | again c'=>exact⟨h.1,codeAny_mono h.2 λr Ot hr=>by obtain⟨rfl,h',tk,acc,c',rfl,kp,q,hi⟩:=hr;exact Rv h' tk acc c' kp q hi⟩
 .exact absurd h.1 (!4)
end
end PySem
namespace L2
open PySem PySem.Spec PyProof.Rows
open PySem.W (KatLex kat_cons kat_yes kat_no kat_one kat_lt kas_item)
section
variable {X:Cx}{pins:List (Addr × Obj)}{s:aw}{σ:St}{H:Hp}
theorem uF {p:Addr}{Q:VK}{Res:Heap->Nat->List ah->Prop}(U3:∀(Q':List ah->aw->Prop) (E':ah->aw->Prop),(∀(h1:Heap) (tk:Nat) (its:List ah),Res h1 tk its->Q' its { s with heap:=h1,toks:=tk })->aG (!11) X.A.in1 (collect (.ref p)) Q' E' s)
  (res:∀(h1:Heap) (tk:Nat) (its:List ah),Res h1 tk its->∃(H1:Hp) (ys:List V) (ks:List (List Int)),Inv X pins σ H1 { s with heap:=h1,toks:=tk }/\eg ys its/\ks.length=its.length/\its.length<4000/\(∀s':aw,(∀b o,h1.get? b=some o->s'.heap.get? b=some o)->∀A':Around,A'.units+4<cLine->mF X.prog X.w A' its s' (λp=>wH (p.toList.map λi=>ks.getD i []))) /\
   ∀(pm:List Nat),pm.Perm (List.range its.length)->wH (pm.map λi=>ks.getD i [])->∀l,H1 l=none->Q (.ref l) (eM H1 l (.lst (pm.map λj=>ys.getD j .gC)))) (hu:X.A.units+64<cLine) :
  aG (!11) X.A (call (.builtin "sorted") [.ref p]) (EP X pins σ Q) X.xe s:=by
 refine Calls.call_function_entry kind_sorted plain_sorted entry_sorted (args_sorted1 _) ?_
 (unfold Builtin.«sorted»;refine aa (m:=checkCount "sorted" 1 1 _) (aj ?_))
 refine aa (U3 _ _ λh1 tk its Gm=>?_);obtain⟨H1,ys,ks,I1,rv,U4,hl,ord,q⟩:=res h1 tk its Gm;refine aa (wpAny_newList ?_);have DL:(h1.push (seqObj "list" its.toArray 0)).get? h1.objs.size=some (seqObj "list" its.toArray 0):=ay _ rfl;show aG _ _ _ _ _ { s with heap:=h1.push (seqObj "list" its.toArray 0),toks:=tk };refine aa (wpAny_holding (wpAny_call_entry slot_list_sort ⟨_,DL,rfl⟩ entry_list_sort (m9 (G:=λp=>wH (p.toList.map λi=>ks.getD i [])) (λh2=>?_) DL (!1) (λs' held=>?_) λpm DU pf=>⟨_,rfl,?_⟩) (args_list_sort _)))
 .rw[cW]
  match its,h2 with
  | [],_=>exact List.Pairwise.nil
  | [a],_=>simp[wH]
 .exact ord s' (λb o e=>held b o (aR (aD e)) (ak _ e)) _ (show X.A.units+1+1+4<cLine by omega)
 .refine aj ⟨_,rfl,?_⟩
  have jE:pm.toList.Perm (List.range its.length):=by have:=bA.mp DU;simpa using this
  have gh:∀j∈pm.toList,j<its.length:=λj hj=>by simpa using jE.mem_iff.mp hj
  have hv:eg (pm.toList.map λj=>ys.getD j .gC) (pm.toList.map λj=>its.getD j ah.none):=rv.pick _ λj hj=>gh j hj;have hsz:(pm.toList.map λj=>ys.getD j V.gC).length<=az:=by rw[ao,jE.length_eq,List.length_range,show az=16777216 by decide];omega
  have MX:∀b ob,h1.get? b=some ob->(sortedHeap (h1.push (seqObj "list" its.toArray 0)) h1.objs.size its (cq (pm.toList.map λj=>its.getD j ah.none))).get? b=some ob:=by
   intro b ob e;have hb:h1.objs.size≠b:=bB (aD e);unfold sortedHeap;rw[aI _ _ hb];refine ak _ (ak _ ?_);rw[aI _ _ hb];exact ak _ e
  obtain⟨n,nw⟩:∃n,(sortedHeap (h1.push (seqObj "list" its.toArray 0)) h1.objs.size its (cq (pm.toList.map λj=>its.getD j ah.none))).get? h1.objs.size=some { cls:=.type "list",data:=.seq (cq (pm.toList.map λj=>its.getD j ah.none)) n }:=by
   have g2:=aT (Obj.mapSeq λ_=>(#[]:Array ah)) DL rfl;have g3:=ak (seqObj "list" #[] 0) (ak (seqObj "tuple" its.toArray 0) g2);exact⟨_,aT (Obj.mapSeq λ_=>cq (pm.toList.map λj=>its.getD j ah.none)) g3 rfl⟩
  exact⟨.ref h1.objs.size,_,I1.laid (t':=tk) (o:=.lst (pm.toList.map λj=>ys.getD j V.gC)) MX (ap _) ⟨hsz,_,n,hv,by simpa using nw⟩,rfl,q _ jE pf _ (I1.eP.fresh (ap _))⟩
end
open PySem.W (KatLex kat_cons kat_yes kat_no kat_one kat_lt kat_nil kas_item)
section
variable {prog:aV}{w:World}{A:Around}{E:ah->aw->Prop}{s:aw}
theorem Gn {vs:List ah}{κ:SortKind}(r:ah->List Int)(kk:∀(Q:SortKind->aw->Prop) (E:ah->aw->Prop),Q κ s->aG (!10) A (keyKind' vs.toArray) Q E s)
  (cmp:∀x∈vs,∀y∈vs,∀(Q:Bool->aw->Prop) (E:ah->aw->Prop),Q (jd (r x) (r y)) s->aG (!10) A (keyLt' κ x y) Q E s):mF prog w A vs s (λp=>wH (p.toList.map λi=>r (vs.getD i ah.none))):=λh2=>by
 have hz:(((vs.toArray.zip vs.toArray))).size=vs.length:=by simp
 refine⟨κ,kk,λE=>rQ (key:=λx=>Hc (vs.map (r)) (r x.1)) (a₀:=vs.toArray.zip vs.toArray) (κ:=κ) (Q:=λ_ eK=>∃p:Array Nat,Nt vs.length p/\wH (p.toList.map λi=>r (vs.getD i ah.none))/\arrOf eK=p.map (kas_item (((vs.toArray.zip vs.toArray))))/\failedOf eK=none) ⟨⟨Array.Perm.refl _,rfl,rfl,rfl,bD _⟩,λr hr=>by cases hr⟩ (λx hx y hy=>?_) λeK hp hn hf=>?_⟩
 .obtain⟨i,hi,rfl⟩:=cN hx
  obtain⟨j,hj,rfl⟩:=cN hy;intro C hC;have yb:vs[i]'(!1)∈vs:=bC _;have DT:vs[j]'(!1)∈vs:=bC _;have e1:((((vs.toArray.zip vs.toArray)))[i]).1=vs[i]'(!1):=by simp
  have e2:((((vs.toArray.zip vs.toArray)))[j]).1=vs[j]'(!1):=by simp
  have e:decide (Hc (vs.map (r)) (r ((((vs.toArray.zip vs.toArray)))[i]).1)<Hc (vs.map (r)) (r ((((vs.toArray.zip vs.toArray)))[j]).1))=jd (r (vs[i]'(!1))) (r (vs[j]'(!1))):=by
   simp only[e1,e2];exact BR (cY yb)
  replace hC:C (jd (r (vs[i]'(!1))) (r (vs[j]'(!1)))) s:=e ▸ hC;rw[e1,e2];exact cmp _ yb _ DT _ _ hC
 .obtain⟨p,h1,h2⟩:=BN ((ah.none,ah.none):Keyed) (bA.mp hp)
  have gh:∀i∈p,i<vs.length:=λi hi=>by have:=h1.mem_iff.mp hi;simpa [hz] using this
  refine⟨p.toArray,?_,?_,?_,hf⟩
  rotate_left 2
  .refine cC.mp ?_
   rw[h2];simp[kas_item]
  .rw[Nt,bA]
   simpa [hz] using h1
  .rw[h2] at hn
   rw[cW];refine de.mpr ((de.mp hn).imp_of_mem ?_);intro i j hi hj lr;have hi:=gh i hi;have hj:=gh j hj;have e:∀i,i<vs.length->((((vs.toArray.zip vs.toArray))).toList.getD i ((ah.none,ah.none):Keyed)).1=vs.getD i ah.none:=λi hi=>by simp[am,hi]
   have hm:r (vs.getD j ah.none)∈vs.map (r):=cY (by rw[am,aK hj];exact bC _);have:=BR (R:=vs.map (r)) (b:=r (vs.getD i ah.none)) hm;rw[<- this];refine decide_eq_false ?_;simp only[e i hi,e j hj] at lr;omega
noncomputable def rW (h:Heap)(v:ah)(row:List Int)(i:Int):Prop:=∃(a:Addr) (o:Obj) (xs:Array ah) (n:Nat) (x:ah) (t:Tok),v=.ref a/\h.get? a=some o/\o.cls=.type "tuple" /\ o.data=.seq xs n/\xs.toList=[x,.int i t]/\nG h x row
noncomputable def v7 (h:Heap)(v:ah):List Int:=match v with
 | .ref a=>(match h.get? a with | some o=>(match o.data with | .seq xs _=>jF h (xs.toList.headD .none) | _=>[]) | none=>[])
 | _=>[]
theorem rW.row {h:Heap}{v:ah}{row:List Int}{i:Int}(t:rW h v row i):v7 h v=row:=by
 obtain⟨a,o,xs,n,x,tk,rfl,h1,h2,h3,h4,h5⟩:=t;unfold v7;simp only[h1,h3,h4];exact h5.row
theorem Dn {x y:ah}{r t:List Int}{i j:Int}{Q:Bool->aw->Prop}(hx:rW s.heap x r i)(hy:rW s.heap y t j)(OG:r=t->i=j)(hu:A.units+3<cLine)(hq:Q (jd r t) s):aG (!10) A (keyLt' (tuples' false) x y) Q E s:=by
 obtain⟨a,o,xs,n,p,tk,rfl,h1,h2,h3,h4,h5⟩:=hx;obtain⟨b,o',ys,m,q,SE,rfl,k1,k2,k3,k4,k5⟩:=hy;obtain⟨a5,o5,Y0,n5,as,rfl,g1,g2,g3,g4⟩:=h5;obtain⟨b5,p5,Y2,m5,bs,rfl,f1,f2,f3,f4⟩:=k5;have n1:xs.size=2:=by have:=congrArg List.length h4;simpa using this
 have n2:ys.size=2:=by have:=congrArg List.length k4;simpa using this
 refine kat_lt h1 h3 k1 k3 ?_;rw[h4,k4,n1,n2,List.zip_cons_cons,List.zip_cons_cons,List.zip_nil_left];have he:=SeqAt.eqAt_reads (.tuple (r.map .int)) (.tuple (t.map .int)) A s _ _ as bs (.tuple g1 g2 g3 g4) (.tuple f1 f2 f3 f4) (by rw[ag.canLay0];exact gx r) (by rw[ag.canLay0];exact gx t) (by simp only[ag.depth,kx];omega);rw[show ag.eqv (.tuple (r.map .int)) (.tuple (t.map .int))=decide (r=t) from by simp only[ag.eqv,xR]] at he;refine kat_cons (he prog w _ _ ?_);by_cases Dk:r=t
 .rw[decide_eq_true Dk]
  have e:=OG Dk;subst Dk e;have OI:=SeqAt.eqAt_reads (.int i) (.int i) A s _ _ [] [] (.int i tk) (.int i SE) rfl rfl (by simp only[ag.depth];omega);rw[vS,decide_eq_true rfl] at OI;refine kat_yes (kat_cons (OI prog w _ _ (kat_yes (kat_nil ?_))));rw[qD] at hq;exact hq
 .rw[decide_eq_false Dk]
  refine kat_no (kat_one _ _ (BJ 1 (.tuple (r.map .int)) (.tuple (t.map .int)) (jd r t) A s _ _ as bs (by rw[ag.depth,kx];exact ap _) (.tuple g1 g2 g3 g4) (.tuple f1 f2 f3 f4) (by rw[ag.canLay0];exact gx r) (by rw[ag.canLay0];exact gx t) (!1) (by rw[gI];exact qC r t) prog w _ _ hq))
theorem kat_pairs {h:Heap}:∀(vs:List ah),(∀v∈vs,∃r i,rW h v r i)->∃fs:List ah,W.KatTups h vs fs/\fs.length=vs.length/\∀f∈fs,∃r,nG h f r
 | [],_=>⟨[],trivial,rfl,!4⟩
 | v::vs,hp=>by
  obtain⟨fs,h1,hl,h2⟩:=kat_pairs vs λv hv=>hp v (ai _ hv);obtain⟨r,i,a,o,xs,n,x,t,rfl,k1,k2,k3,k4,k5⟩:=hp v (aq ..);refine⟨x::fs,W.KatTups.cons k1 k2 k3 (by rw[<- ck,k4];rfl) h1,by rw[av,av,hl],λf hf=>?_⟩;rcases ax.mp hf with rfl | hf
  .exact⟨r,k5⟩
  .exact h2 f hf
theorem yr {vs:List ah}(h:∀v∈vs,∃i,rW s.heap v (v7 s.heap v) i)(OG:∀x∈vs,∀y∈vs,v7 s.heap x=v7 s.heap y->x=y)(hu:A.units+4<cLine):mF prog w A vs s (λp=>wH (p.toList.map λi=>v7 s.heap (vs.getD i ah.none))):=λh2=>by
 obtain⟨fs,kt,hl,ft⟩:=kat_pairs vs λv hv=>⟨_,h v hv⟩;refine Gn (κ:=tuples' false) (v7 s.heap) (λQ E hq=>W.kat_kind (T:=ah.type "tuple") kt (!1) (λv hv=>?_) rfl hq) (λx hx y hy Q E hq=>?_) h2
 .obtain⟨r,a,o,xs,n,as,rfl,k1,k2,k3,k4⟩:=ft v hv
  exact (show W.Looks (!10) s.heap (typeOf (.ref a)) o.cls from (W.Looks.ld k1).andThen .now) |> λz=>by rw[k2] at z;exact z
 .obtain⟨i,hi⟩:=h x hx
  obtain⟨j,hj⟩:=h y hy;refine Dn hi hj (λe=>?_) (!1) hq;have:=OG x hx y hy e;subst this;obtain⟨a,o,xs,n,p,tk,e1,h1,h2,h3,h4,h5⟩:=hi;obtain⟨b,o',ys,m,q,SE,e2,k1,k2,k3,k4,k5⟩:=hj;rw[e1] at e2;cases e2;rw[h1] at k1;cases k1;rw[h3] at k3;cases k3;rw[h4] at k4;cases k4;rfl
end
noncomputable def oK (kvs:fI)(k:List Int):ag:=.tuple [.tuple (k.map .int),(eO kvs k).getD .none]
theorem v8:∀{kvs:fI},(kvs.map (·.1)).Nodup->∀{p:List Int × ag},p∈kvs->eO kvs p.1=some p.2
 | [],_,_,h=>nomatch h
 | q::kvs,hn,p,h=>by
  rw[ar] at hn;obtain⟨n1,n2⟩:=bf.mp hn;rcases ax.mp h with rfl | h
  .unfold eO;rw[bN,decide_eq_true rfl];rfl
  .have hV:q.1≠p.1:=λz=>n1 (by rw[z];exact aM.mpr ⟨p,h,rfl⟩)
   have:=v8 n2 h;unfold eO at this ⊢;rw[bN,decide_eq_false hV];exact this
theorem Gp {kvs:fI}(hn:(kvs.map (·.1)).Nodup):j6 kvs=(kvs.map (·.1)).map (oK kvs):=by
 unfold j6;rw[bp]
 exact bu λp hp=>by
  show _=oK kvs p.1;rw[oK,v8 hn hp];rfl
theorem uG:∀{kvs:fI},(∀p∈kvs,∃v,p.2=ag.int v)->ag.canLayAll0 (j6 kvs)=true
 | [],_=>rfl
 | p::kvs,h=>by
  obtain⟨v,e⟩:=h p (aq ..);have ih:=uG (kvs:=kvs) λq hq=>h q (ai _ hq);unfold j6 at ih ⊢;rw[ar,ag.canLayAll0,ih,e];simp[ag.canLay0,ag.canLayAll0,gx]
theorem dO.Lv {S:List Addr}{H:Hp}{ds:List ag}{xs:List V}(r:dO S H ds xs):∀l:List Nat,(∀j∈l,j<ds.length)->dO S H (l.map λj=>ds.getD j .none) (l.map λj=>xs.getD j .gC)
 | [],_=>.nil
 | j::l,h=>.cons (r.Ut j (h j (aq ..))) (r.Lv l λi hi=>h i (ai _ hi))
theorem Gr {α β:Type}(f:α->β)(l:List α)(d:α)(e:β)(pm:List Nat)(h:∀j∈pm,j<l.length):pm.map (λj=>(l.map f).getD j e)=(pm.map λj=>l.getD j d).map f:=by
 rw[bp];exact bu λj hj=>by simp[am,h j hj]
section
variable {X:Cx}
theorem Az (hc:X.calm=true)(hu:X.A.units+64<cLine):f6 X (.builtin "sorted") (λxs H Q=>∃(r a:Addr) (kv:fI) (S:List Addr) (x0:List V),xs=[.ref r]/\H r=some (.ext λh=>h.IsItemsView r a)/\H a=some (.dT (nv kv x0))/\dO S H (kv.map (·.2)) x0/\kv.length<4000/\(!21).Nodup/\(∀p∈kv,∃v,p.2=ag.int v) /\
  ∀(l:Addr) (H':Hp) (FU:List V),Ext [] H H'->dO S H' ((gB (!21)).map (oK kv)) FU->H' l=none->Q (.ref l) (eM H' l (.lst FU))):=by
 intro pins s σ H xs us Q I rr h;obtain⟨vw,a,kv,S,x0,rfl,hv,hH,Rw,gh,JK,hint,q⟩:=h;obtain⟨u,rfl,ru⟩:=vals1 rr;cases ru;have OJ:=qG Rw;generalize zd:nv kv x0=kvs at hH OJ;obtain⟨Rx,_⟩:=I.eP vw _ hv;obtain⟨o,es,ep,e,c,d,y,hsz,lr,hk⟩:=v5 (I.eP a _ hH);refine uF (Res:=λh' tk its=>∃as:List Addr,(∀b o,s.heap.get? b=some o->h'.get? b=some o)/\as.length=es.size/\Rp es s.heap.objs.size h' as/\its=as.map ah.ref) (λQ' E' k=>Aw (A:=X.A.in1) (show X.A.in1.handled=none from I.ok.hd hc) Rx e d lr λh' tk as kp hl g=>k h' tk _ ⟨as,kp,hl,g,rfl⟩) (λh' tk its Gm=>?_) hu;obtain⟨as,kp,hl,g,rfl⟩:=Gm;have I1:Inv X pins σ H { s with heap:=h',toks:=tk }:=I.kept kp
 have U4:∀(j:Nat) (k:Addr × V),((es.toList.zip kvs).map λq=>(Gi q.1.key,q.2.2))[j]? = some k->∃(hj:j<es.size) (p:List Key × V),kvs[j]? = some p/\es[j].key=.ref k.1/\H k.1=some (.tup (p.1.map kV))/\k.2=p.2/\RelV k.2 es[j].val:=λj k h=>by
  rw[aB] at h;obtain⟨q,hq,e2⟩:=cu.mp h;obtain⟨h1,h2⟩:=List.getElem?_zip_eq_some.mp hq;obtain⟨hj,h3⟩:=aA.mp h1;have Hh:j<es.size:=by simpa using hj
  have h4:es[j]=q.1:=by rw[<- h3];simp
  obtain⟨b,b1,b2,b3⟩:=hk j Hh q.2 h2;subst e2;refine⟨Hh,q.2,h2,?_,?_,rfl,b3⟩
  .rw[<- h4,b1];rfl
  .rw[<- h4,b1];exact b2
 obtain⟨H',I2,x,same,all⟩:=Inv.pairs (s:={ s with heap:=h',toks:=tk }) I as ((es.toList.zip kvs).map λq=>(Gi q.1.key,q.2.2)) H I1 (by simp[hl,hsz]) g.rise (λc hc=>⟨c9 (g.above c hc),I.eP.fresh (c9 (g.above c hc))⟩) λj c k h1 h2=>by
  obtain⟨hj,p,h3,h4,h5,h6,h7⟩:=U4 j k h2;obtain⟨_,h8⟩:=g.pair j c h1;rw[h4] at h8;exact⟨_,h7,h8⟩
 have Ry:dO S H' (j6 kv) (as.map V.ref):=rV (Rw.ext (x.mono (!4))) (by rw[zd];omega) λj p c h1 h2=>by
  rw[zd] at h1;have hj:j<es.size:=by have:=(aA.mp h1).1;omega
  obtain⟨k,CT⟩:∃k,((es.toList.zip kvs).map λq=>(Gi q.1.key,q.2.2))[j]? = some k:=⟨_,aK (by simp;omega)⟩;obtain⟨_,p',h3,h4,h5,h6,_⟩:=U4 j k CT;rw[h1] at h3;cases h3;have h7:=all j c k h2 CT;exact⟨k.1,by rw[h7,h6],x.tup _ _ h5⟩
 have C5:as.length=kv.length:=by omega
 have DN:(j6 kv).length=kv.length:=by unfold j6;rw[ao]
 have rv:=yp as;refine⟨H',as.map V.ref,kv.map (·.1),I2,rv,by rw[ao,ao,C5],by rw[ao];omega,λs' held A' hA=>?_,λpm DU pf l U5=>?_⟩
 .have oE:∀j (hj:j<(as.map ah.ref).length),∃i,rW s'.heap (as.map ah.ref)[j] ((!21).getD j []) i:=λj hj=>by
   obtain⟨bs,ra⟩:=dO.reads (I2.kept (h':=s'.heap) (t':=tk) held).eP (uG hint) Ry rv;obtain⟨bs,rj⟩:=fO ra hj;have NM:j<kv.length:=by rw[ao] at hj;omega
   obtain⟨v,ev⟩:=hint kv[j] (bC _)
   have e1:(j6 kv).getD j .none=.tuple [.tuple ((kv[j]).1.map .int),.int v]:=by
    unfold j6;simp[am,NM,ev]
   have e2:(!21).getD j []=(kv[j]).1:=by simp[am,NM]
   rw[e1] at rj;rw[e2];refine⟨v,?_⟩;generalize (as.map ah.ref)[j]=z at rj ⊢
   cases rj with
   | tuple a1 a2 a3 a4 =>
    rename_i _ V5 _;generalize V2:V5.toList=us at a4
    cases a4 with
    | cons b1 b2 =>
     cases b1 with
     | tuple c1 c2 c3 c4 =>
      cases b2 with
      | cons d1 d2 =>
       cases d1;cases d2;exact⟨_,_,_,_,_,_,rfl,a1,a2,a3,V2,⟨_,_,_,_,_,rfl,c1,c2,c3,c4⟩⟩
  have SG:∀j (hj:j<(as.map ah.ref).length),v7 s'.heap (as.map ah.ref)[j]=(!21).getD j []:=λj hj=>by
   obtain⟨i,hi⟩:=oE j hj;exact hi.row
  have:=yr (prog:=X.prog) (w:=X.w) (A:=A') (s:=s') (vs:=as.map ah.ref) (λv hv=>by
   obtain⟨j,hj,rfl⟩:=cb hv;rw[SG j hj]
   exact oE j hj) (λv hv v' wD ee=>by
   obtain⟨j,hj,rfl⟩:=cb hv;obtain⟨j',Hh,rfl⟩:=cb wD;rw[SG j hj,SG j' Hh] at ee;have h1:j<(!21).length:=by rw[ao] at hj ⊢;omega
   have h2:j' < (!21).length:=by rw[ao] at Hh ⊢;omega
   rw[am,am,aK h1,aK h2,bZ,bZ] at ee;have:=(List.getElem_inj JK).mp ee;subst this;rfl) hA
  intro h2;obtain⟨κ,kk,kr⟩:=this h2;refine⟨κ,kk,λE=>ca (kr E) ?_ λ_ _ e=>e⟩;rintro r s2 ⟨rfl,pp,hp,pf,rest⟩;refine⟨rfl,pp,hp,?_,rest⟩;have jE:pp.toList.Perm (List.range (as.map ah.ref).length):=by have:=bA.mp hp;simpa using this
  show wH (pp.toList.map λi=>(!21).getD i [])
  rw[show (pp.toList.map λi=>(!21).getD i [])=pp.toList.map λi=>v7 s2.heap ((as.map ah.ref).getD i ah.none) from bu λi hi=>by
   have hi:i<(as.map ah.ref).length:=by simpa using jE.mem_iff.mp hi
   rw[am (l:=as.map ah.ref),aK hi,bZ,SG i hi]]
  exact pf
 .rw[ao,C5] at DU
  have JL:∀j∈pm,j<kv.length:=λj hj=>by simpa using DU.mem_iff.mp hj
  have FV:(pm.map λj=>(!21).getD j []).Perm (!21):=by
   have:=DU.map λj=>(!21).getD j []
   rwa [show (List.range kv.length).map (λj=>(!21).getD j [])=kv.map (·.1) from cS (!4) λi h1 h2=>by
    have h3:i<kv.length:=by simpa using h2
    simp[am,h3]] at this
  have hs:=mG FV pf;refine q l H' _ x ?_ U5;have Su:=Ry.Lv pm λj hj=>by rw[DN];exact JL j hj
  rw[<- hs,<- Gr (oK kv) (!21) [] .none pm (λj hj=>by rw[ao];exact JL j hj),<- Gp JK];exact Su
end
theorem B5 {S:List Addr}{H:Hp}:∀{ds:List ag} {xs:List V},ds.length=xs.length->(∀(i:Nat) (d:ag) (x:V),ds[i]? = some d->xs[i]? = some x->eB S H d x)->dO S H ds xs
 | [],[],_,_=>.nil
 | [],_::_,h,_=>by cases h
 | _::_,[],h,_=>by cases h
 | d::ds,x::xs,h,f=>.cons (f 0 d x rfl rfl) (B5 (by simpa using h) λi e y h1 h2=>f (i+1) e y (by simpa using h1) (by simpa using h2))
section
variable {X:Cx}
theorem AA (hc:X.calm=true)(hu:X.A.units+64<cLine):f6 X (.builtin "sorted") (λxs H Q=>∃(a:Addr) (kv:fI) (S:List Addr) (x0:List V),xs=[.ref a]/\H a=some (.dT (nv kv x0))/\dO S H (kv.map (·.2)) x0/\kv.length<4000 /\
  ∀(l:Addr) (FU:List V),dO S H ((gB (!21)).map iO) FU->H l=none->Q (.ref l) (eM H l (.lst FU))):=by
 intro pins s σ H xs us Q I rr h;obtain⟨a,kv,S,x0,rfl,hH,Rw,gh,q⟩:=h;obtain⟨u,rfl,ru⟩:=vals1 rr;cases ru;have OJ:=qG Rw;have RA:∀(i:Nat) (k:List Key) (v:V),(nv kv x0)[i]? = some (k,v)->∃p,kv[i]? = some p/\k=p.1.map Sum.inl:=λi k v e=>Aq Rw i k v e;generalize nv kv x0=kvs at hH OJ RA;obtain⟨o,es,ep,e,c,d,y,hsz,lr,hk⟩:=v5 (I.eP a _ hH);refine uF (Res:=λh' tk its=>∃acc:Array ah,(∀b o,s.heap.get? b=some o->h'.get? b=some o)/\ItemsOf (λi v=>∃h:i<es.size,v=es[i].key) acc es.size/\its=acc.toList) (λQ' E' k=>yq (A:=X.A.in1) (show X.A.in1.handled=none from I.ok.hd hc) e c d y lr λh' tk acc kp hi=>k h' tk _ ⟨acc,kp,hi,rfl⟩) (λh' tk its Gm=>?_) hu;obtain⟨acc,kp,hi,rfl⟩:=Gm;have I1:Inv X pins σ H { s with heap:=h',toks:=tk }:=I.kept kp;have C5:acc.toList.length=kv.length:=by have:=hi.1;rw[bj];omega
 have Av:∀j (hj:j<acc.toList.length),∃b,acc.toList[j]=.ref b/\H b=some (.tup (((!21).getD j []).map V.int)):=λj hj=>by
  obtain⟨h1,h2⟩:=hi.2 j acc.toList[j] (by rw[<- ck];exact aK hj);have NM:j<kvs.length:=by omega
  obtain⟨b,b1,b2,_⟩:=hk j h1 kvs[j] (aK NM);obtain⟨p,hp,ep⟩:=RA j kvs[j].1 kvs[j].2 (aK NM);refine⟨b,by rw[h2,b1],?_⟩;rw[b2,ep,Ap];simp[am,hp]
 have rv:eg (acc.toList.map λu=>V.ref (Gi u)) acc.toList:=Bp (by rw[ao]) λi x u h1 h2=>by
  obtain⟨hj,e2⟩:=aA.mp h2;obtain⟨b,hb,_⟩:=Av i hj;rw[aB,h2] at h1;cases h1;rw[<- e2,hb];rfl
 have Ry:dO S H ((!21).map iO) (acc.toList.map λu=>V.ref (Gi u)):=B5 (by rw[ao,ao,ao,C5]) λi dd x h1 h2=>by
  rw[aB] at h1 h2;obtain⟨k,C',rfl⟩:=cu.mp h1;obtain⟨u,rf,rfl⟩:=cu.mp h2;obtain⟨hj,e2⟩:=aA.mp rf;obtain⟨b,hb,hH⟩:=Av i hj;rw[<- e2,hb];rw[am,C',bZ] at hH;exact .tup hH (.ints k)
 refine⟨H,_,kv.map (·.1),I1,rv,by rw[ao,C5],!1,λs' held A' hA=>?_,λpm DU pf l U5=>?_⟩
 .have oE:∀j (hj:j<acc.toList.length),nG s'.heap acc.toList[j] ((!21).getD j []):=λj hj=>by
   obtain⟨as,ra⟩:=dO.reads (I1.kept (h':=s'.heap) (t':=tk) held).eP (xX (!21)) Ry rv;obtain⟨bs,rj⟩:=fO ra hj;have NM:j<kv.length:=by omega
   have e:((!21).map iO).getD j .none=iO ((!21).getD j []):=by simp[am,NM]
   rw[e,iO] at rj;generalize acc.toList[j]=z at rj ⊢
   cases rj with
   | tuple a1 a2 a3 a4=>exact⟨_,_,_,_,_,rfl,a1,a2,a3,a4⟩
  have:=rR (prog:=X.prog) (w:=X.w) (A:=A') (s:=s') (vs:=acc.toList) (λv hv=>by
   obtain⟨j,hj,rfl⟩:=cb hv;rw[(oE j hj).row];exact oE j hj) (!1)
  intro h2;obtain⟨κ,kk,kr⟩:=this h2;refine⟨κ,kk,λE=>ca (kr E) ?_ λ_ _ e=>e⟩;rintro r s2 ⟨rfl,pp,hp,pf,rest⟩;refine⟨rfl,pp,hp,?_,rest⟩;have jE:pp.toList.Perm (List.range acc.toList.length):=by have:=bA.mp hp;simpa using this
  show wH (pp.toList.map λi=>(!21).getD i [])
  rw[show (pp.toList.map λi=>(!21).getD i [])=pp.toList.map λi=>jF s2.heap (acc.toList.getD i ah.none) from bu λi hi=>by
   have hi:i<acc.toList.length:=by simpa using jE.mem_iff.mp hi
   rw[am (l:=acc.toList),aK hi,bZ,(oE i hi).row]]
  exact pf
 .rw[C5] at DU
  have JL:∀j∈pm,j<(!21).length:=λj hj=>by have:=DU.mem_iff.mp hj;simpa using this
  have FV:(pm.map λj=>(!21).getD j []).Perm (!21):=by
   have:=DU.map λj=>(!21).getD j []
   rwa [show (List.range kv.length).map (λj=>(!21).getD j [])=kv.map (·.1) from cS (!4) λi h1 h2=>by
    have h3:i<kv.length:=by simpa using h2
    simp[am,h3]] at this
  refine q l _ ?_ U5;rw[<- mG FV pf];exact Ry.pick pm JL
end
section
variable {X:Cx}{M:Fr}{e:Expr}{u:UX}{x:Str}{p p2 pos fX gR fY:Pos}
noncomputable def Gs (u:UX):eU->Int->(List ag->Int->Prop)->Prop:=λenv n Q=>u env n λd n1=>lE (He d) λtk=>tk.1=true/\tk.2.length<4000/\Q ((gB (tk.2.map (·.1))).map iO) n1
theorem JM (hm:X.mg "sorted" = none)(hc:X.calm=true)(hu:X.A.units+64<cLine)(h:KL X M e u)(hg:Gl X "sorted" := by rfl)(hs:eV e=true:=by rfl):KN X M (.Call (.Name "sorted" p) [e] [] pos) (Gs u) :=
 .of (gE (AA hc hu) hg hm (!3) (gZ h.run fi hs)) λσ H R env pn S n Q ok hu k=>⟨env,pn,S,n,_,ok,hu,λv H1 d n1 r1 x1 g1 _ q=>by
  obtain⟨⟨t,kvs⟩,e,ht,hl,q⟩:=q;have ht:t=true:=ht;subst ht;obtain⟨a,xs,rfl,ha,rr,_⟩:=r1.BZ e;exact⟨a,kvs,S,xs,rfl,ha,rr,hl,λl FU Df hl=>k l _ _ _ n1 (zV ok x1 g1 hl) dP ((Df.fresh hl).ext (.new hl)) (x1.trans (.new hl)) (M.ix g1 (.new (S:=[]) hl) (!4)) q⟩⟩
noncomputable def B6 (i:Nat):eU->Int->(List ag->Int->Prop)->Prop:=λenv n Q=>match env[i]? with | some (some (.d _ true kvs))=>(kvs.length<4000/\(kvs.map (·.1)).Nodup/\∀p∈kvs,∃v,p.2=ag.int v)/\Q ((gB (kvs.map (·.1))).map (oK kvs)) n | _=>False
theorem JN (i:Nat)(hm:X.mg "sorted" = none)(hc:X.calm=true)(hu:X.A.units+64<cLine)(hN:X.N[i]? = some x:=by rfl)(hv:qM X.env.scope x:=by (first | exact Or.inl rfl | exact Or.inr (Or.inl rfl) | exact Or.inr (Or.inr rfl)))(hd:(x == (!12))=false:=by decide)(jb:(x == (!18))=false:=by decide)
  (hg:Gl X "sorted" := by rfl) (jh:attributeBase (!25) "items" X.env (eval (!25) X.env)=eval (!25) X.env:=by rfl) (ji:(gR.endLine == fY.line)=true:=by rfl) :
  KN X M (.Call (.Name "sorted" p2) [.Call (.Attribute (!25) "items" gR) [] [] fY] [] pos) (B6 i) :=
 .of (gE (Az hc hu) hg hm (!3) (gZ (BI PySem.F.plainAttrs_dict PySem.F.slot_dict_items PySem.F.type_dict_items Gh (qv i hN hv hd jb) jh ji) fi)) λσ H R env pn S n Q ok hu k=>by
  unfold B6 at hu;split at hu
  .rename_i a0 kvs he
   obtain⟨⟨hl,JK,hint⟩,q⟩:=hu;obtain⟨v0,Hd,rfl,xs,ha,rr,CT,Lj,h0⟩:=ok.val i _ he;refine⟨_,Hd,.inr (.inr (.inl ⟨rfl,.inr ⟨_,ha⟩⟩)),a0,_,rfl,rfl,ha,λr hr=>⟨r,a0,kvs,S,xs,rfl,dP,(dU (fo ha hr)).trans ha,rr.ext ((Ext.new (S:=[]) hr).mono (!4)),hl,JK,hint,λl H' FU xe Df hl'=>?_⟩⟩;have x0:Ext [] H H':=(Ext.new hr).trans xe;have XB:H l=none:=x0.fresh (!4) hl';exact k l _ _ _ n XB dP ((Df.fresh hl').ext (.new hl')) ((x0.mono (!4)).trans (.new hl')) (M.ix (M.ix ok.gd x0 (!4)) (.new (S:=[]) hl') (!4)) q
  .exact hu.elim
end
section
variable {X:Cx}
noncomputable def JO:V->List V->Hp->VK->Prop:=λx vs H Q=>∃a kvs,x=.ref a/\vs=[]/\H a=some (.dT kvs)/\Q .gC (eM H a (.dT []))
theorem Dp:CC X "dict.clear" JO:=by
 intro pins s σ H x vs v us Q I rx rv h;obtain⟨a,kvs,rfl,rfl,hH,q⟩:=h;cases rx;have U0:=rv.zero;subst U0;obtain⟨o,es,ep,e,c,d,y,hsz,lr,_⟩:=v5 (I.eP a _ hH);have ty:s.TypeIs (.ref a) "dict" := ⟨o,e,c.1⟩;refine wpAny_call_entry PySem.F.slot_dict_clear ty PySem.F.entry_dict_clear ?_ (PySem.F.args_dict_clear_1 _);unfold Builtin.«dict.clear»;refine aa ?_;unfold Builtin.Dict.noArgs;refine aa (wpAny_notOrdered_dict ty ?_);show aG _ _ (pure a) _ _ s;refine aj (aa (wpAny_dictEntries e d (aa ?_)));unfold bearsInstanceDictMark;refine aa (wpAny_load e (aj (aa (wpAny_updateDictKeys (hz:=lr) e d ?_))));have hg:=aT (Obj.mapDictKeys λ_=>(#[]:Array DictEntry)) e (Obj.isFreed_of_dict (Obj.data_mapDictKeys d _));have fin:EP X pins σ Q .none { s with heap:=s.heap.update a (Obj.mapDictKeys λ_=>#[]) }:=⟨.gC,_,oj (ob:=.dT []) (t':=s.toks) I (by rw[hH];exact True.intro) (Heap.SameBut.update ..) ⟨_,hg⟩ ⟨bD _,y,[],.nil,_,#[],ep+1,hg,c.mapDictKeys _,Obj.data_mapDictKeys d _,rfl,cL⟩,rfl,q⟩;split
 .exact aa (wpAny_letGo (aj ⟨.none,rfl,fin⟩))
 .exact aa (aj (aj ⟨.none,rfl,fin⟩))
variable {M:Fr}{e:Expr}{es:List Expr}{u:UX}{ua:UA}{F:UF}{C:Xc}{x f:Str}{ps:List Str}{k:Nat}{p p2 pos fX gR fY:Pos}
noncomputable def yt (i:Nat):US:=λE env n=>match env[i]? with | some (some (.d a true _))=>FX env i a/\E.nx (env.set i (some (.d a true []))) n | _=>False
theorem NN (i:Nat)(hN:X.N[i]? = some x:=by rfl)(hv:qM X.env.scope x:=by (first | exact Or.inl rfl | exact Or.inr (Or.inl rfl) | exact Or.inr (Or.inr rfl)))(hd:(x == (!12))=false:=by decide)(jb:(x == (!18))=false:=by decide)
  (jh:attributeBase (!25) "clear" X.env (eval (!25) X.env)=eval (!25) X.env:=by rfl) (ji:(gR.endLine == fY.line)=true:=by rfl)
  (hs:swapsWith (.Call (.Attribute (!25) "clear" gR) [] [] fY) none pos.line X.env=pure false:=by rfl):KS X M (.Expr (.Call (.Attribute (!25) "clear" gR) [] [] fY) pos) (yt i):=by
 refine .of (Bk (BI PySem.F.plainAttrs_dict PySem.F.slot_dict_clear PySem.F.type_dict_clear Dp (qv i hN hv hd jb) jh ji) hs) λD σ H env pn S n E ok hu k1 k2=>?_;unfold yt at hu;split at hu
 .rename_i a kvs he
  obtain⟨ho,hu⟩:=hu;obtain⟨v,hv,rfl,xs,ha,r,hk,hs,h0⟩:=ok.val i _ he;exact⟨_,hv,.inr (.inr (.inl ⟨rfl,.inr ⟨_,ha⟩⟩)),a,_,rfl,rfl,ha,k1 _ _ _ _ _ (ok.putD (kvs':=[]) (ys:=[]) he ho .nil (!4)) hu⟩
 .exact hu.elim
noncomputable def Gu (d:ag):Bool:=match d with | .dict _=>true | _=>false
noncomputable def Gv (u:UX):UX:=λenv n Q=>u env n λd n1=>Q (.bool (Gu d)) n1
theorem NO (hm:X.mg "isinstance" = none)(hx:X.mg "dict" = none)(h:KL X M e u)(hg:Gl X "isinstance" := by rfl)(XD:Gl X "dict" := by rfl)(hs:eV e=true:=by rfl) :
  KE X M (.Call (.Name "isinstance" p) [e,.Name "dict" p2] [] pos) (Gv u) :=
 .of (gE (TH X.K) hg hm (!3) (gZ h.run (gZ (P4 "dict" XD hx (!3) (!2) (!2)) fi rfl) hs)) λσ H R env pn S n Q ok hu k=>⟨env,pn,S,n,_,ok,hu,λv H1 d n1 r1 x1 g1 _ q=>⟨v,_, "dict",_,rfl,r1.ty,(by cases d<;>rfl:W.kitOne X.K (.type (TF d)) (.type "dict")=some (Gu d)),k _ H1 _ n1 (.bl _) x1 g1 q⟩⟩
noncomputable def U6 (H:Hp):Prop:=∃B,∀b,B<=b->H b=none
theorem QA.fin {ta:TA}(h:QA X es ta):QA X es (λσ H R=>ta σ H λv H1=>U6 H1->R v H1) :=
 ⟨λpos pins s σ H Q I q=>fE (h.run pos pins s σ H _ I q) λv s1 ⟨x,H1,I1,r1,q1⟩=>⟨x,H1,I1,r1,q1 ⟨s1.heap.objs.size,λb hb=>I1.eP.fresh hb⟩⟩,h.ns⟩
noncomputable def v9 (i:Nat)(F:UF)(ua:UA):US:=λE env n=>ua env n λds n1=>gP ds=true/\F ds n1 (λd n'=>lE (He d) λtk=>gP (tk.2.map (·.2))=true/\∀a:Addr,UQ env a->E.nx (env.set i (some (.d a tk.1 tk.2))) n') BB
theorem JP {i:Nat}(hN:X.N.Nodup)(hx:Loc X.env.scope x)(D:eD X.prog X.w X.K X.mg X.base k f ps (sR C F))(hr:gy k X.A)(ha:KA X M (e::es) ua)(hi:X.N[i]? = some x:=by rfl)(hg:Gl X f:=by rfl)(oX:(f == (!12))=false:=by decide)
  (hs:swapsWith (.Call (.Name f p) (e::es) [] fY) (some (.Name x fX)) pos.line X.env=pure false:=by rfl) (hf:X.fn x=true\/X.env.scope.names.lookup x=some .local:=by (first | exact .inl rfl | exact .inr rfl | assumption)) (hfd:i ∉ M.fd:=by decide) :
  KS X M (.Assign [.Name x fX] (.Call (.Name f p) (e::es) [] fY) pos) (v9 i F ua) :=
 .of (gF hN hi hx (kj D hr (QA.fin ha.run) hg oX) hs hf) λD σ H env pn S n E ok hu k1 k2=>⟨env,pn,S,n,_,ok,hu,λvs H1 ds n1 el r1 x1 g1 _ q U7=>by
  obtain⟨B,hB⟩:=U7;obtain⟨OH,q⟩:=q;have iK:=ok.step x1 g1;refine⟨(List.range B).filter λb=>(H1 b).isSome,ds,n1,_,BB,r1.any OH,λa ha=>?_,q,λd v H2 r2 x2 q2=>?_,λc as z=>z.elim⟩
  .have:=(aN.mp ha).2
   intro z;rw[z] at this;cases this
  .obtain⟨⟨t,kvs⟩,ed,za,q2⟩:=q2
   obtain⟨a,xs,rfl,h2,rr,hk⟩:=fb.BZ (gs:=[]) (.inl r2) ed;have u9:=yh ed;rw[u9] at r2;obtain⟨a',_,_,_,ea,_,_,U1,_⟩:=r2.lM;cases ea
   have h1:H1 a=none:=by
    cases z:H1 a with
    | none=>rfl
    | some ob =>
     refine absurd (aN.mpr ⟨List.mem_range.mpr ?_,by rw[z];rfl⟩) U1;by_cases y:a<B
     .exact y
     .rw[hB a (dB y)] at z;cases z
   have h0:H a=none:=x1.fresh (λz=>iK.has a (ok.p6 a z) h1) h1;exact k1 _ _ _ _ _ (ok.Ny h0 h2 (rr.any za) hk (x1.trans (x2.mono (!4))) (M.ix g1 x2 (!4)) hfd) (q2 a λj t kv=>ok.only h0 j t kv)⟩
end
end L2
open PySem
namespace Odj
end Odj
open PySem
namespace Odj
noncomputable abbrev sS:=List (Int × Bool)
noncomputable def gT (o:sS)(k:Int):Bool:=((o.find? λp=>decide (p.1=k)).map (·.2)).getD false
noncomputable def fP (o:sS)(k:Int):sS:=if o.any (λp=>decide (p.1=k)) then o.map (λp=>if p.1=k then (p.1,!(gT o k)) else p) else o++[(k,!(gT o k))]
noncomputable def eu (row:List Int):sS:=row.foldl fP []
noncomputable def jR (o:sS):List Int:=(o.filter (·.2)).map (·.1)
noncomputable def ff (o:sS):List Int:=o.map (·.1)
theorem uH (o:sS)(k:Int):ff (fP o k)=if k∈ff o then ff o else ff o++[k]:=by
 unfold fP ff;by_cases h:k∈o.map (·.1)
 .have h':o.any (λp=>decide (p.1=k))=true:=by
   obtain⟨p,hp,e⟩:=aM.mp h;exact cD.mpr ⟨p,hp,decide_eq_true e⟩
  rw[if_pos h',if_pos h,bp];apply bu;intro p _;simp only[Function.comp];split<;>rfl
 .have h':¬ o.any (λp=>decide (p.1=k))=true:=by
   intro z;obtain⟨p,hp,e⟩:=cD.mp z;exact h (aM.mpr ⟨p,hp,of_decide_eq_true e⟩)
  rw[if_neg h',if_neg h,aO];rfl
theorem AB (h:(ff o).Nodup):(ff (fP o k)).Nodup:=by
 rw[uH];split
 .exact h
 .rename_i hk
  rw[cz];refine⟨h,!4,λa ha b hb=>?_⟩;have:b=k:=by simpa using hb
  subst this;intro z;subst z;exact hk ha
theorem Gw (o:sS)(k:Int):(fP o k).length<=o.length+1:=by
 unfold fP;split
 .simp
 .simp
theorem Gx (h:x∈ff (fP o k)):x=k\/x∈ff o:=by
 rw[uH] at h;split at h
 .exact .inr h
 .rcases aL.mp h with z | z
  .exact .inr z
  .exact .inl (by simpa using z)
theorem Gy {o:sS}(h:(ff o).Nodup){i:Nat}{p:Int × Bool}(hp:o[i]? = some p):gT o p.1=p.2:=by
 induction o generalizing i with
 | nil=>cases hp
 | cons q o ih =>
  unfold ff at h;rw[ar,bf] at h
  cases i with
  | zero =>
   have:q=p:=by simpa using hp
   subst this;simp[gT]
  | succ i =>
   have RB:o[i]? = some p:=by simpa using hp
   have hm:p.1∈o.map (·.1):=aM.mpr ⟨p,cg RB,rfl⟩;have hV:¬ q.1=p.1:=λz=>h.1 (z ▸ hm);have:=ih h.2 RB;unfold gT at this ⊢;rw[bN];simp only[hV,decide_false];exact this
end Odj
open PySem
namespace Odj
theorem rX:∀{l1 l2:List Int},l1.Pairwise (· < ·)->l2.Pairwise (· < ·)->(∀k,k∈l1↔k∈l2)->l1=l2
 | [],[],_,_,_=>rfl
 | [],b::l2,_,_,h=>absurd ((h b).mpr (aq ..)) (!4)
 | a::l1,[],_,_,h=>absurd ((h a).mp (aq ..)) (!4)
 | a::l1,b::l2,h1,h2,h=>by
  obtain⟨q1,r1⟩:=cm.mp h1;obtain⟨q2,r2⟩:=cm.mp h2
  have e:a=b:=by
   rcases ax.mp ((h a).mp (aq ..)) with z | z
   .exact z
   .rcases ax.mp ((h b).mpr (aq ..)) with y | y
    .exact y.symm
    .have:=q2 a z
     have:=q1 b y;omega
  subst e;rw[rX r1 r2 λk=>?_];constructor
  .intro hk
   rcases ax.mp ((h k).mp (ai _ hk)) with z | z
   .have:=q1 k hk
    omega
   .exact z
  .intro hk
   rcases ax.mp ((h k).mpr (ai _ hk)) with z | z
   .have:=q2 k hk
    omega
   .exact z
noncomputable def AD (row ns:List Int):Prop:=ns.Pairwise (· < ·)/\∀k,k∈ns↔row.count k % 2=1
end Odj
namespace Odj
open PySem L2
noncomputable def eA (row:List Int):List Int:=zX (row.filter λk=>decide (row.count k % 2=1))
noncomputable def fT:UF:=λds n Q _=>match ds with
 | [.list es]=>lE (iq es) λrow=>((jO row).length<=60/\row.length<=100000)/\Q (.tuple ((eA row).map .int)) n
 | [.tuple es]=>lE (iq es) λrow=>((jO row).length<=60/\row.length<=100000)/\Q (.tuple ((eA row).map .int)) n
 | _=>False
noncomputable def FL (c:Str):List Str:=(([]:List (Str × List Str)).lookup c).getD []
noncomputable abbrev XC (cl:Str->Addr):Xc:=⟨cl,FL⟩
noncomputable def nK:US:=(g6 (d6 fT (dM (eF ie (dJ 0) (dJ 1)) dR)))
noncomputable def g8:UF:=nU 2 2 (λ_=>nK)
noncomputable def pk:US:=(d3 (vB 2 dR)
 (d3 (nz (M' 1) (iT 3)
 (lS 2 jN (dM (E9 (eF gJ (eF gJ (dJ 0) (uC (.int 1))) (dJ 3)) E7 (E8 (uC (.int 2)))) dR)))
 (g6 (nA fT (dM (dJ 2) dR)))))
noncomputable def mH:UF:=nU 4 2 (λ_=>pk)
noncomputable def nL:US:=(g6 (uf xU (dM (uL (i9 (K9 (dJ 1)) [none,some 0] (iT 0) vE (eF gJ (eF gJ (eF gJ (dJ 1) (uC (.int 1))) (dJ 0)) (uC (.int 2))))) dR)))
noncomputable def kS:UF:=nU 2 2 (λ_=>nL)
noncomputable def wc:US:=(g6 (uf jk (dM (uL (i9 (T8 (eF gJ (dJ 0) (uC (.int 1)))) [none,none] (IU [(iT 0),(iT 1)]) (fA (eF EZ (eF gJ (dJ 1) (uC (.int 2))) (!22))) (d7 0))) dR)))
noncomputable def oM:UF:=nU 1 1 (λ_=>wc)
noncomputable def rY:US:=(g6 (eR (dM (eF gJ (dJ 0) (!22)) (dM (uf jk (dM (uL (i9 (K9 (eF gJ (dJ 0) (uC (.int 1)))) [none,none,none] (IU [(iT 1),(iT 0),(iT 2)]) vE (eR (dM (d7 1) (dM (d7 0) (dM (uf Fb (dM (dJ 2) dR)) dR)))))) dR)) dR))))
noncomputable def oN:UF:=nU 1 1 (λ_=>rY)
noncomputable def j7:US:=(g6 (d6 g8 (dM (d7 1) (dM (d6 mH (dM (d7 0) (dM (d6 oM (dM (d7 0) dR)) dR))) dR))))
noncomputable def iH:UF:=nU 2 2 (λ_=>j7)
noncomputable def lW:US:=(g6 (EX (fA (eF IH (eF gJ (dJ 0) (!22)) (dJ 1))) (eF gJ (dJ 0) (uC (.int 1))) (eF gJ (dJ 0) (!22))))
noncomputable def jS:UF:=nU 2 2 (λ_=>lW)
noncomputable def iX:US:=(d3 (vB 2 dR)
 (d3 (nz (QD (eF gJ (dJ 0) (uC (.int 1)))) (IU [(iT 3),(iT 4)])
 (iU (fA (eF Qq (yi (eF gJ (dJ 4) (!22)) (dJ 1)) (yi (eF gJ (dJ 4) (uC (.int 1))) (dJ 1)))) (d3 (fc 5 (EX (fA (yi (eF gJ (dJ 4) (!22)) (dJ 1))) (eF gJ (dJ 4) (!22)) (eF gJ (dJ 4) (uC (.int 1)))))
 (lS 2 jc (dM (eR (dM (eF ie (eF gJ (nh (dJ 1) (dJ 5)) (!22)) (eF gJ (dJ 4) (uC (.int 2)))) (dM (d6 jS (dM (d7 4) (dM (d7 5) dR))) (dM (d6 g8 (dM (eF gJ (nh (dJ 1) (dJ 5)) (uC (.int 1))) (dM (eR (dM (d7 3) dR)) dR))) dR)))) dR))) iA))
 (g6 (F5 (dJ 2)))))
noncomputable def fJ:UF:=nU 6 2 (λ_=>iX)
noncomputable def lX:US:=(d3 (Al 2 (d7 1) (eR (dM (!22) (dM (eR dR) dR))))
 (d3 (fc 3 (nA fJ (dM (dJ 0) (dM (dJ 2) dR))))
 (d3 (vD (fA (eF mU (dJ 3) (uC .none)))
 (d3 (ng 2 (eF gJ (dJ 3) (uC (.int 1))) (eR (dM (eF gJ (dJ 3) (!22)) (dM (eF gJ (dJ 3) (uC (.int 2))) dR))))
 (fc 3 (nA fJ (dM (dJ 0) (dM (dJ 2) dR))))))
 (jL 2))))
noncomputable def jT:UF:=nU 4 2 (λ_=>lX)
noncomputable def jo:US:=(d3 (fc 2 (d6 jT (dM (d7 0) (dM (d7 1) dR))))
 (g6 (uf jk (dM (uL (i9 (QF (eF gJ (dJ 0) (!22))) [none,some 2] (iT 0) vE (EX (fA (yi (dJ 0) (dJ 1))) (eF gJ (nh (dJ 1) (dJ 0)) (!22)) (uC .none)))) dR))))
noncomputable def ir:UF:=nU 3 2 (λ_=>jo)
noncomputable def j8:US:=(g6 (uL (i9 (QF (eF gJ (dJ 0) (!22))) [none,some 0] (iT 0) vE (d6 ir (dM (d7 1) (dM (d7 0) dR))))))
noncomputable def iI:UF:=nU 1 1 (λ_=>j8)
noncomputable def iC (Y:kz)(Rc:kz->UF):US:=(d3 (fc 3 (eF gJ (dJ 1) (!22)))
 (d3 (vB 4 dR)
 (d3 (nz (QC (E9 (dJ 1) (E8 (uC (.int 1))) E7)) (iT 5)
 (d3 (fc 6 (d6 (Rc Y) (dM (d7 0) (dM (d6 g8 (dM (d7 1) (dM (eR (dM (d7 3) (dM (d7 5) dR))) dR))) dR))))
 (iU (CU (fA (eF mU (eF gJ (eF gJ (dJ 0) (dJ 3)) (dJ 5)) (uC .none))) (fA (eF mU (dJ 6) (uC .none)))) (lS 4 jc (dM (eR (dM (eF ie (eF gJ (eF gJ (dJ 0) (dJ 3)) (dJ 5)) (dJ 6)) (dM (d7 5) dR))) dR)) iA)))
 (jL 4))))
noncomputable def gc (Rc:kz->UF):kz->UF:=λY=>F' 7 3 (iC Y Rc)
noncomputable def iY (Y:kz)(Rc:kz->UF):US:=(Ga Y 1 (fc 3 (d6 (Rc Y) (dM (d7 0) (dM (d7 1) dR)))) (EX (fA (eF OD (uf xC (dM (dJ 3) dR)) (!22))) (eF gJ (uf BK (dM (dJ 3) dR)) (!22)) (uC .none)))
noncomputable def iZ (Rc:kz->UF):kz->UF:=λY=>F' 4 3 (iY Y Rc)
noncomputable def gf:Nat->kz->UF
 | 0=>λ_=>QV
 | d+1=>iZ (gc (gf d))
noncomputable def gV:kz->UF:=gf 5
noncomputable def pq:kz->UF:=gc gV
noncomputable def lY:US:=(d3 (fc 1 (uL (dM (eR dR) dR)))
 (d3 (nz (QH (eF gJ (dJ 0) (!22))) (iT 2)
 (fc 1 (eF ie (dJ 1) (uL (i9 (K9 (dJ 1)) [none,some 2] (iT 0) vE (eF ie (dJ 0) (eR (dM (d7 1) dR))))))))
 (g6 (uL (FW (dJ 1))))))
noncomputable def jU:UF:=nU 3 1 (λ_=>lY)
noncomputable def jq:US:=(d3 (fc 1 (d6 iI (dM (d6 oN (dM (d7 0) dR)) dR)))
 (v3 2 (eR dR) (!22) λY=>(d3 (fc 3 (d6 kS (dM (d7 0) (dM (d6 oM (dM (d7 0) dR)) dR))))
 (d3 (FY 4 true)
 (d3 (nz (QC (d6 jU (dM (d7 0) dR))) (iT 5)
 (d3 (fc 6 (d6 (gV Y) (dM (d7 1) (dM (d6 iH (dM (d7 0) (dM (d7 5) dR))) dR))))
 (iU (fA (eF mU (dJ 6) (uC .none))) (ng 4 (dJ 5) (eF ie (dJ 3) (dJ 6))) iA)))
 (jL 4))))))
noncomputable def iu:UF:=nU 7 1 (λ_=>jq)
noncomputable def lZ:US:=(d3 (fc 2 (eF gJ (uL (dM (!22) (dM (uC (.int 1)) (dM (uC (.int 2)) (dM (uC (.int 3)) (dM (uC (.int 5)) (dM (uC (.int 7)) (dM (OC xw (uC (.int 1))) (dM (OC xw (uC (.int 2))) (dM (OC xw (uC (.int 3))) (dM (uC (.int 99)) (dM (OC xw (uC (.int 99))) (dM (uC (.int 1)) dR))))))))))))) (d6 iW (dM (uC (.int 12)) dR))))
 (g6 (EX (fA (d7 1)) (uf Fb (dM (dJ 2) dR)) (d7 2))))
noncomputable def jV:UF:=lz 3 2 (λ_=>lZ)
noncomputable def px:US:=(d3 (fc 4 (eF ie (uC (.int 1)) (d6 iW (dM (d7 1) dR))))
 (d3 (vB 5 dR)
 (d3 (nz (QH (eF zN (d6 iW (dM (eF ie (dJ 2) (uC (.int 1))) dR)) (uf intD (dM (eF OD (dJ 4) (uC (.int 1))) dR)))) (iT 6)
 (d3 (fc 7 (d6 iW (dM (d7 4) dR)))
 (d3 (fc 8 (eF IG (eF ie (eF ie (dJ 7) (uC (.int 1))) (d6 iW (dM (eF EY (dJ 4) (uC (.int 1))) dR))) (dJ 4)))
 (d3 (lS 5 jc (dM (eR (dM (uf xD (dM (dJ 7) (dM (dJ 8) dR))) (dM (uf xE (dM (dJ 7) (dM (dJ 8) dR))) (dM (d6 jV (dM (d7 3) dR)) dR)))) dR))
 (iU (CU (fA (eF IH (d6 iW (dM (uC (.int 8)) dR)) (!22))) (fA (eF EZ (uf xC (dM (dJ 5) dR)) (dJ 2)))) (lS 5 jc (dM (eF gJ (dJ 5) (OC xw (uC (.int 1)))) dR)) iA)))))
 (g6 (eR (dM (d7 4) (dM (uf jk (dM (E9 (dJ 5) E7 (E8 (d7 2))) dR)) dR)))))))
noncomputable def mI:UF:=lz 9 4 (λ_=>px)
noncomputable def jr:US:=(d3 (fc 2 (eF ie (uL (i9 (K9 (dJ 0)) [none,some 1] (iT 0) (fA (eF E1 (dJ 0) (dJ 1))) (d7 0))) (uL (i9 (K9 (dJ 1)) [none,some 0] (iT 0) (fA (eF E1 (dJ 0) (dJ 1))) (d7 0)))))
 (g6 (uf jk (dM (uL (Lh (dJ 2))) dR))))
noncomputable def gg:UF:=nU 3 2 (λ_=>jr)
noncomputable def l0:US:=(d3 (Ar 1 (eR dR) (eR (dM (!22) (dM (eR dR) dR))))
 (d3 (nz (QD (eF gJ (dJ 0) (uC (.int 1)))) (IU [(iT 2),(iT 3)])
 (d3 (ph 4 1)
 (d3 (yn 1 (iT 5)
 (d3 (fc 6 (d6 gg (dM (d7 5) (dM (E9 (dJ 3) E7 (E8 (uC (.int 2)))) dR))))
 (d3 (fc 7 (eR (dM (eF ie (eF gJ (pT 1 (dJ 5)) (!22)) (eF gJ (dJ 3) (uC (.int 2)))) (dM (eF ie (eF gJ (pT 1 (dJ 5)) (uC (.int 1))) (eR (dM (d7 2) dR))) dR))))
 (iU (M1 (fA (BY 4 (dJ 6))) (fA (eF EZ (eF gJ (dJ 7) (!22)) (eF gJ (yf 4 (dJ 6)) (!22))))) (ng 4 (dJ 6) (d7 7)) iA))))
 (rT 1 4))))
 (jL 1)))
noncomputable def jW:UF:=nU 8 1 (λ_=>l0)
noncomputable def l3:US:=(d3 (fc 2 (d6 iW (dM (uC (.int 12)) dR)))
 (d3 (iU (CU (fA (eF IH (dJ 2) (!22))) (fA (eF IH (dJ 1) (!22)))) (g6 (eR (dM (uC (.int 9)) (dM (uC (.int 16)) dR)))) iA)
 (g6 (EX (fA (eF EZ (dJ 2) (uC (.int 3)))) (eR (dM (uC (.int 3)) (dM (uC (.int 16)) dR))) (eR (dM (uC (.int 6)) (dM (uC (.int 9)) dR)))))))
noncomputable def jX:UF:=lz 3 2 (λ_=>l3)
noncomputable def yu:US:=(d3 (nz (QH (uC (.int 3))) (iT 2)
 (d3 (IV (d6 jX (dM (d7 2) dR)) (IU [(iT 3),(iT 4)]))
 (d3 (fc 5 (d6 mI (dM (d7 3) (dM (d7 4) (dM (eF IH (d6 iW (dM (uC (.int 3)) dR)) (!22)) dR)))))
 (d3 (fc 6 (d6 jW (dM (d7 5) dR)))
 (d3 (fc 7 (uL (i9 (K9 (uL (Gs (dJ 6)))) [none,some 6] (iT 0) vE (eR (dM (d7 0) (dM (eF gJ (nh (dJ 1) (dJ 0)) (!22)) dR))))))
 (d3 (fc 8 (ou (d7 5)))
 (d3 (nz (QH (uC (.int 2))) (iT 9)
 (d3 (v9 10 iu (dM (d7 5) dR))
 (d3 (iU (M1 (M3 (fA (Gv (dJ 10)))) (fA (eF z5 (ou (uL (B6 10))) (ou (d7 7))))) (g6 (uC (.bool false))) iA)
 (yt 10))))
 (iU (fA (eF z5 (ou (d7 5)) (dJ 8))) (g6 (uC (.bool false))) iA))))))))
 (g6 (uC (.bool true))))
noncomputable def top (i:Nat):Stmt:=PySem.Challenge.pw_oddjoins_k26_least_prices_told.main.body.getD i (.Pass ⟨0,0,0,0⟩)
structure oO (mg:Str->Option ah):Prop where
 abs:mg "abs" = none
 dict:mg "dict" = none
 enumerate:mg "enumerate" = none
 int:mg "int" = none
 isinstance:mg "isinstance" = none
 len:mg "len" = none
 list:mg "list" = none
 max:mg "max" = none
 min:mg "min" = none
 range:mg "range" = none
 repr:mg "repr" = none
 sorted:mg "sorted" = none
 sum:mg "sum" = none
 tuple:mg "tuple" = none
noncomputable abbrev N2:List Str:=["one", "other"]
noncomputable abbrev N3:List Str:=["web", "some", "ends", "number"]
noncomputable abbrev N4:List Str:=["number", "web"]
noncomputable abbrev N5:List Str:=["web", "some"]
noncomputable abbrev N6:List Str:=["number", "tie"]
noncomputable abbrev N7:List Str:=["web"]
noncomputable abbrev N8:List Str:=["high", "low", "price"]
noncomputable abbrev N9:List Str:=["web", "told"]
noncomputable abbrev XE:List Str:=["tie", "place"]
noncomputable abbrev XF:List Str:=["web", "place", "found", "step"]
noncomputable abbrev XG:List Str:=["web", "found", "steps", "number", "tie", "near"]
noncomputable abbrev Wb:List Str:=["other", "found"]
noncomputable abbrev Wc:List Str:=["web", "place", "found"]
noncomputable abbrev Wd:List Str:=["place", "web"]
noncomputable abbrev XH:List Str:=["heights", "told", "known", "offers"]
noncomputable abbrev XI:List Str:=["heights", "told", "known", "first", "offers", "other", "rest"]
noncomputable abbrev We:List Str:=["side", "place"]
noncomputable abbrev Wf:List Str:=["web", "sides", "place"]
noncomputable abbrev XJ:List Str:=["web", "heights", "known", "base", "prices", "told", "price"]
noncomputable abbrev XM:List Str:=["_law_feed_here", "_law_is_plain", "_law_price_here"]
noncomputable abbrev XN:List Str:=["_law_feed_here", "_law_most", "_law_many_ties", "_law_is_plain", "_law_many", "_law_ties", "_law_k", "_law_a", "_law_b"]
noncomputable abbrev Wg:List Str:=["_law_thing", "_law_other"]
noncomputable abbrev U8:List Str:=["_law_one", "_law_other", "_law_both"]
noncomputable abbrev Wh:List Str:=["_law_thing", "_law_one"]
noncomputable abbrev XO:List Str:=["_law_web_here", "_law_found", "_law_number", "_law_tie", "_law_more", "_law_odds", "_law_other", "_law_best"]
noncomputable abbrev XR:List Str:=["_law_feed_here", "_law_k", "_law_way"]
noncomputable abbrev Wi:List Str:=["_law_told", "_law_least_here"]
noncomputable abbrev Wj:List Str:=["_law_script", "_law_feed_here", "_law_k", "_law_most", "_law_many", "_law_web_here", "_law_least_here", "_law_due", "_law_kept", "_law_turn", "_law_found"]
section
variable (P:aV)(w:World)(K:W.Frag)(mg:Str->Option ah)(base:Heap)(cl:Str->Addr)(Y:zT)
noncomputable abbrev nM:Prop:=eD P w K mg base 1 "odd_ones" ["row"] (sR (XC cl) fT)
noncomputable abbrev gn:Prop:=eD P w K mg base 2 "by_turns" ["one", "other"] (sR (XC cl) g8)
noncomputable abbrev pz:Prop:=eD P w K mg base 2 "odds_of" ["web", "some"] (sR (XC cl) mH)
noncomputable abbrev nN:Prop:=eD P w K mg base 1 "price_of" ["web", "some"] (sR (XC cl) kS)
noncomputable abbrev qH:Prop:=eD P w K mg base 1 "below" ["web"] (sR (XC cl) oM)
noncomputable abbrev rZ:Prop:=eD P w K mg base 1 "turned" ["web"] (sR (XC cl) oN)
noncomputable abbrev j9:Prop:=eD P w K mg base 3 "turned_told" ["web", "told"] (sR (XC cl) iH)
noncomputable abbrev l4:Prop:=eD P w K mg base 1 "other_end" ["tie", "place"] (sR (XC cl) jS)
noncomputable abbrev l5:Prop:=eD P w K mg base 4 "ways_from" ["web", "place"] (sR (XC cl) jT)
noncomputable abbrev i5:Prop:=eD P w K mg base 3 "cheapest_step" ["web", "found"] (sR (XC cl) fJ)
noncomputable abbrev js:Prop:=eD P w K mg base 5 "heights_from" ["web", "place"] (sR (XC cl) ir)
noncomputable abbrev kc:Prop:=eD P w K mg base 6 "all_heights" ["web"] (sR (XC cl) iI)
noncomputable abbrev gW:Prop:=eD P w K mg base 12 "pairing_price" ["heights", "told", "known"] (Hg gV)
noncomputable abbrev kB:Prop:=eD P w K mg base 13 "partner_offers" ["heights", "told", "known"] (Hg pq)
noncomputable abbrev l6:Prop:=eD P w K mg base 1 "all_sides" ["web"] (sR (XC cl) jU)
noncomputable abbrev jt:Prop:=eD P w K mg base 13 "least_prices" ["web"] (sR (XC cl) iu)
noncomputable abbrev ju:Prop:=eD P w K mg base 1 "_law_take" ["_law_feed_here", "_law_many"] (xN Y iW)
noncomputable abbrev l7:Prop:=eD P w K mg base 2 "_law_price" ["_law_feed_here", "_law_is_plain"] (xN Y jV)
noncomputable abbrev pA:Prop:=eD P w K mg base 3 "_law_web" ["_law_feed_here", "_law_most", "_law_many_ties", "_law_is_plain"] (xN Y mI)
noncomputable abbrev jv:Prop:=eD P w K mg base 1 "_law_by_turns" ["_law_one", "_law_other"] (sR (XC cl) gg)
noncomputable abbrev l8:Prop:=eD P w K mg base 2 "_law_least" ["_law_web_here"] (sR (XC cl) jW)
noncomputable abbrev l9:Prop:=eD P w K mg base 2 "_law_sizes" ["_law_feed_here", "_law_k"] (xN Y jX)
end
end Odj
namespace L2
open PySem PySem.Spec PyProof.Rows
theorem gD.new {K:W.Frag}{H:Hp}{a p:Addr}{xs:List V}{o:HO}(h:gD K H a xs)(hp:H p=none):gD K (eM H p o) a xs:=by
 rcases h with h | h
 .refine .inl ?_
  rcases h with h | ⟨u,h⟩
  .exact .inl (by rw[dU (fo h hp)];exact h)
  .exact .inr ⟨u,by rw[dU (fo h hp)];exact h⟩
 .exact .inr h
noncomputable def U9 (K:W.Frag):R2:=λx y H Q=>∃(a b:Addr) (ns:List Int),x=.ref a/\y=.ref b/\gD K H a (!23)/\H b=some (.lst [])/\ag.canLayAll0 (ns.map ag.int)=true/\(ag.list (ns.map ag.int)).depth<=60/\Q (.bl (ag.eqv (.list (ns.map .int)) (.list []))) H
theorem NP {X:Cx}{k:Nat}(K:W.Frag)(hr:gy k X.A)(hk:X.K=K:=by rfl):lg X (compareOp .Eq) (U9 K):=by
 subst hk;intro pins s σ H x y v u Q I rx ry h;obtain⟨a,b,ns,rfl,rfl,ha,hb,c1,d1,q⟩:=h;cases rx;obtain⟨its,rv,⟨o,n,e,hc,_,hd⟩,_⟩:=I.list ha;obtain⟨as,ra⟩:=dO.reads (S:=[]) I.eP (by simpa [ag.canLay0] using c1) (.ints ns) rv;obtain⟨bs,rb⟩:=eB.reads I.eP rfl (eB.lst (S:=[]) hb (!4) .nil) ry;have G8:=hr.units;exact SeqAt.compareEq_reads (.list e hc hd (by simpa using ra)) rb c1 rfl (!1) ⟨.bl _,H,I,rfl,q⟩
end L2
namespace Odj
open PySem L2
theorem yv (ns:List Int):ag.canLayAll0 (ns.map ag.int)=true:=by
 induction ns with
 | nil=>rfl
 | cons n ns ih=>simpa [ag.canLayAll0,ag.canLay0] using ih
theorem AE (ns:List Int):ag.depthAll (ns.map ag.int)=0:=by
 induction ns with
 | nil=>rfl
 | cons n ns ih=>simpa [ag.depthAll,ag.depth] using ih
structure iV (H:Hp) (fa sa:Addr) (n:Int):Prop where
 ex:∃(k:Int) (ns:List Int) (i c:Int),H fa=some (.lst [.ref sa,.int i,.int c])/\H sa=some (.lst ((k::ns).map V.int))/\0<=i/\i<=n
 ne:sa≠fa
 lo:0<=n
theorem iV.ext {S:List Addr}{H H':Hp}{fa sa:Addr}{n:Int}(f:iV H fa sa n)(x:Ext S H H')(h1:fa ∉ S)(h2:sa ∉ S):iV H' fa sa n:=by
 obtain⟨k,ns,i,c,e1,e2,e3⟩:=f.ex;exact⟨⟨k,ns,i,c,x.keep _ _ h1 e1,x.keep _ _ h2 e2,e3⟩,f.ne,f.lo⟩
theorem iV.put {H:Hp}{fa sa:Addr}{n:Int}(f:iV H fa sa n)(i c n':Int)(h0:0<=i)(h:i<=n'):iV (eM H fa (.lst [.ref sa,.int i,.int c])) fa sa n'/\Ext [fa] H (eM H fa (.lst [.ref sa,.int i,.int c])):=by
 obtain⟨k,ns,i0,c0,e1,e2,_⟩:=f.ex;exact⟨⟨⟨k,ns,i,c,dP,by rw[dU f.ne];exact e2,h0,h⟩,f.ne,!1⟩,.set (!4) e1⟩
noncomputable def AF:zT where
 iV:=iV
 ext:=λf x h1 h2=>f.ext x h1 h2
 fa:=λf=>let ⟨_,_,_,_,e,_⟩:=f.ex;by rw[e];simp
 sa:=λf=>let ⟨_,_,_,_,_,e,_⟩:=f.ex;by rw[e];simp
 nx:=λf φ=>let ⟨_,_,_,_,e,_⟩:=f.ex;by rw[e];simp
noncomputable abbrev NQ (K:W.Frag):Sp:=qx AF K
noncomputable abbrev NR:Sp:=BE AF
section
variable {P:aV}{w:World}{K:W.Frag}{mg:Str->Option ah}{base:Heap}{f:Addr}{fd:b9}
theorem NS (F:w6 K "_law_feed" "_law_feed" (top 23) f fd)(hm:mg "_law_feed" = some (.ref f))(B:oO mg):eD P w K mg base 1 "_law_feed" ["_law_script"] (NQ K):=by
 refine⟨f,fd,?_,hm,F.kp,F.binds λ_ _ _ _ _ _ us hl=>by obtain⟨_,rfl⟩:=Fu hl;rfl⟩;have sc:fD ["_law_script"] ["_law_script"] (dQ (top 23)):=⟨rfl,rfl,rfl,!3,rfl,!3,!3⟩;refine F.MP sc (λvs H Q E h=>?_) (λfG A outer s H vs Q E hr h=>?_)
 .obtain⟨a,ns,rfl,_⟩:=h
  rfl
 .obtain⟨a,ns,rfl,hs,q⟩:=h
  refine⟨_,(ig (kO (vk (gZ (fV Ei (xl (VU K) (qv 0) Bi (Bj eT)) (fV Ej (vk (gZ eT fi)) (kl tI (by rfl) B.int (!3) (gZ (Bg (NP K hr) (qv 0) (vk fi) (jZ _)) fi)))) (gZ eT (gZ eT fi)))))),?_⟩;refine⟨_,rfl,63,rfl,a,_,rfl,hs,λp hp=>⟨by show 1<=az;decide,λp1 JQ=>⟨_,rfl,bD _,λp2 Bn=>⟨a,p2,ns,rfl,rfl,((hs.new hp).new JQ).new Bn,dP,yv ns,by simp[ag.depth,AE],.inr ⟨_,rfl,?_⟩⟩⟩⟩⟩
  obtain⟨cs,Ou,Hb,XS⟩:∃cs:List Int,nY (!23) none (some 63)=cs.map V.int/\cs.length<=63/\(cs=[]->ns=[]):=by
   refine⟨(ns.drop (HT.gK (!23).length 0 none)).take (HT.gK (!23).length (!23).length (some 63) - HT.gK (!23).length 0 none),?_,?_,?_⟩
   .unfold nY
    rw[List.map_take,List.map_drop]
   .rw[HT.nW,show (63:Int)=((63:Nat):Int) from rfl,HT.qj]
    simp only[bY];omega
   .rw[HT.nW,show (63:Int)=((63:Nat):Int) from rfl,HT.qj]
    cases ns with
    | nil=>intro _;rfl
    | cons z zs=>intro h;simp at h
  rw[Ou] at JQ Bn ⊢;have y1:Ext [] H (eM H p (.lst (cs.map V.int))):=.new hp;have ep:(eM H p (.lst (cs.map V.int))) p=some (.lst (cs.map V.int)):=dP;generalize eM H p (.lst (cs.map V.int))=H1 at y1 ep JQ Bn ⊢;have y2:Ext [] H1 (eM H1 p1 (.lst [.int 0])):=.new JQ;have Wl:(eM H1 p1 (.lst [.int 0])) p1=some (.lst [.int 0]):=dP;generalize eM H1 p1 (.lst [.int 0])=H2 at y2 Wl Bn ⊢;have y3:Ext [] H2 (eM H2 p2 (.lst [])):=.new Bn;generalize eM H2 p2 (.lst [])=H3 at y3 ⊢;have z1:=y3.keep _ _ (!4) Wl;have z0:=y3.keep _ _ (!4) (y2.keep _ _ (!4) ep);have Wm:=(y1.trans y2).trans y3;generalize hb:ag.eqv (.list (ns.map .int)) (.list [])=b;have Qh:ns=[]->b=true:=λz=>by rw[<- hb,z];rfl
  refine⟨p1,_,_,rfl,rfl,z1,by cases b<;>decide,by cases b<;>decide,by cases b<;>decide,λp3 XT=>?_⟩;have y4:Ext [] H3 (eM H3 p3 (.lst (List.replicate (if b=true then (1:Int) else 0).toNat [V.int 0]).flatten)):=.new XT;have z3:(eM H3 p3 (.lst (List.replicate (if b=true then (1:Int) else 0).toNat [V.int 0]).flatten)) p3=some (.lst (List.replicate (if b=true then (1:Int) else 0).toNat [V.int 0]).flatten):=dP;generalize eM H3 p3 (.lst (List.replicate (if b=true then (1:Int) else 0).toNat [V.int 0]).flatten)=H4 at y4 z3 ⊢;have Y3:az=16777216:=by decide
  refine⟨p,p3,_,_,rfl,rfl,y4.keep _ _ (!4) z0,z3,by rw[vd,ao];cases b<;>simp<;>omega,λp4 Wn=>?_⟩
  obtain⟨k,ks,hk⟩:∃(k:Int) (ks:List Int),cs.map V.int++(List.replicate (if b=true then (1:Int) else 0).toNat [V.int 0]).flatten=(k::ks).map V.int:=by
   cases cs with
   | nil=>rw[Qh (XS rfl)];exact⟨0,[],rfl⟩
   | cons z zs =>
    cases b with
    | true=>exact⟨z,zs++[0],!4⟩
    | false=>exact⟨z,zs,!4⟩
  rw[hk];refine⟨by show 3<=az;decide,λfa xO=>?_⟩;have y5:Ext [] H4 (eM H4 p4 (.lst ((k::ks).map V.int))):=.new Wn;have z4:(eM H4 p4 (.lst ((k::ks).map V.int))) p4=some (.lst ((k::ks).map V.int)):=dP;have U':H p4=none:=(Wm.trans y4).fresh (!4) Wn;generalize eM H4 p4 (.lst ((k::ks).map V.int))=H5 at y5 z4 xO ⊢;have Wo:=(Wm.trans y4).trans y5;have hV:p4≠fa:=λz=>by rw[z,xO] at z4;cases z4
  exact q fa p4 _ ⟨⟨k,ks,0,0,dP,by rw[dU hV];exact z4,!2,!2⟩,hV,!2⟩ (Wo.trans (.new xO)) (Wo.fresh (!4) xO) U'
theorem NT (F:w6 K "_law_take" "_law_take" (top 24) f fd)(hm:mg "_law_take" = some (.ref f))(B:oO mg):eD P w K mg base 1 "_law_take" ["_law_feed_here", "_law_many"] NR:=by
 refine⟨f,fd,?_,hm,F.kp,F.binds λ_ _ _ _ _ _ us hl=>by obtain⟨_,_,rfl⟩:=C4 hl;rfl⟩;have sc:fD ["_law_feed_here", "_law_many", "_law_found", "_law_spot", "_law_cell", "_law_mixed"] ["_law_feed_here", "_law_many"] (dQ (top 24)):=⟨rfl,rfl,rfl,!3,rfl,!3,!3⟩;refine F.MP sc (λvs H Q E h=>?_) (λfG A outer s H vs Q E hr h=>?_)
 .obtain⟨fa,sa,n,many,rfl,_⟩:=h
  rfl
 .obtain⟨fa,sa,n,many,rfl,fe,m0,m1,nm,q⟩:=h
  have Y4:ow=1099511627776:=rfl
  refine⟨_,(eZ (Bl (qk Kt (n8 (Io K) (qv 0) eT (λ_ _=>rfl)) eT (jZ _)) (eZ (gF (i:=2) sc.nd rfl (Or.inl rfl) (fV kM (n8 (Io K) (qv 0) eT (λ_ _=>rfl)) (qv 1)))
   (eZ (vm (fV A6 (n8 (Io K) (qv 0) eT (λ_ _=>rfl)) (qv 1)) (zC (qv 0) eT qS))
   (ig (kO (qv 2))))) ql)
   (eZ (gF (i:=3) sc.nd rfl (Or.inl rfl) (n8 (Io K) (qv 0) eT (λ_ _=>rfl)))
   (eZ (vm (fV lH (qv 3) eT) (zC (qv 0) eT qS))
   (eZ (gF (i:=4) sc.nd rfl (Or.inl rfl) (n8 (Io K) (n8 (Io K) (qv 0) eT (λ_ _=>rfl)) (fV kM (qv 3) (gE (MQ K) (by rfl) B.len (!3) (gZ (n8 (Io K) (qv 0) eT (λ_ _=>rfl)) fi))) (λ_ _=>rfl)))
   (Il (Bl (QW.pt (EA (qk Pe (qv 4) (fV Mb eT eT) (jZ _)) (Bh (qk Ks (qv 3) (gE (MQ K) (by rfl) B.len (!3) (gZ (n8 (Io K) (qv 0) eT (λ_ _=>rfl)) fi)) (jZ _))))) (eZ (vm (fV A6 (qv 4) (qv 1)) (zC (qv 0) eT qS))
   (ig (kO (fV kM (qv 4) (qv 1))))) ql)
   (eZ (gF (i:=5) sc.nd rfl (Or.inl rfl) (fV kM (fV lI (fV lH (fV lH (fV lH (fV kM (qv 4) eT) (fV lI (fV lI eT (qv 3)) (qv 3))) (fV lI eT (qv 3))) eT) eT) eT))
   (eZ (gF (i:=5) sc.nd rfl (Or.inl rfl) (fV kM (fV lH (fV lH (fV lI (qv 5) (qv 5)) (fV lI eT (qv 3))) eT) eT))
   (ig (kO (fV kM (fV kM (fV lH (fV lI (qv 5) eT) (qv 3)) eT) (qv 1))))))))))),?_⟩
  obtain⟨k,ns,i,c,e1,e2,i0,i1⟩:=fe.ex;have n0:=fe.lo;refine⟨_,rfl,fa,_,2,_,rfl,rfl,gD.of e1,rfl,c,0,rfl,rfl,_,rfl,MD (λhc=>?_) (λhc=>?_)⟩
  .refine⟨_,rfl,fa,_,2,_,rfl,rfl,gD.of e1,rfl,_,rfl,c,many,rfl,rfl,m0,?_⟩
   refine⟨_,rfl,fa,_,2,_,rfl,rfl,gD.of e1,rfl,_,rfl,c,many,rfl,rfl,⟨m0,m1⟩,_,rfl,fa,_,2,2,rfl,rfl,e1,rfl,?_⟩;obtain⟨f2,x2⟩:=fe.put i (c / many) (n+1) i0 (!1);exact⟨_,rfl,q _ _ (c7 _ (!1)) (cI _ m0) f2 x2⟩
  .refine⟨_,rfl,fa,_,1,_,rfl,rfl,gD.of e1,rfl,?_⟩
   obtain⟨f2,x2⟩:=fe.put (i+1) c (n+1) (!1) (!1);refine⟨_,rfl,i,1,rfl,rfl,_,rfl,fa,_,1,1,rfl,rfl,e1,rfl,?_⟩;have g1:(eM H fa (.lst [.ref sa,.int (i+1),.int c])) fa=some (.lst [.ref sa,.int (i+1),.int c]):=dP;have g2:(eM H fa (.lst [.ref sa,.int (i+1),.int c])) sa=some (.lst ((k::ns).map V.int)):=by rw[dU fe.ne];exact e2
   dsimp only [aF,aC];generalize eM H fa (.lst [.ref sa,.int (i+1),.int c])=H1 at f2 x2 g1 g2 ⊢;have hl:(0:Int)<(((k::ns).map V.int).length:Nat):=by simp
   obtain⟨v,hv,za⟩:=MG (xs:=(k::ns).map V.int) (c7 i (!1)) (cI i hl)
   obtain⟨cell,rfl⟩:∃z,v=V.int z:=by
    rw[aB] at za
    cases e:(k::ns)[(i % (((k::ns).map V.int).length:Nat)).toNat]? with
    | none=>rw[e] at za;cases za
    | some z=>rw[e] at za;exact⟨z,(Option.some.inj za).symm⟩
   refine⟨_,rfl,fa,_,0,_,rfl,rfl,gD.of g1,rfl,_,rfl,_,rfl,fa,_,0,_,rfl,rfl,gD.of g1,rfl,sa,_,rfl,.inl (gD.of g2),i,_,rfl,rfl,hl,sa,_,_,_,rfl,rfl,gD.of g2,hv,?_⟩;have ib:-(2 ^ 64)<i/\i<2 ^ 64:=by constructor<;>omega
   refine⟨λσ' H'=>σ'=[some (.ref fa),some (.int many),none,some (.int i),some (.int cell),none]/\H'=H1,?_,?_⟩
   .refine⟨_,rfl,10,18,rfl,rfl,⟨!2,!2,!2⟩,cell,_,rfl,rfl,_,rfl,MD (λhb=>?_) (λhb=>MC ⟨rfl,rfl⟩)⟩
    refine⟨_,rfl,_,rfl,fa,_,0,_,rfl,rfl,gD.of g1,rfl,sa,_,rfl,.inl (gD.of g2),_,_,rfl,rfl,_,rfl,MD (λhd=>?_) (λhd=>⟨rfl,rfl⟩)⟩;refine⟨_,rfl,_,rfl,cell,many,rfl,rfl,⟨m0,m1⟩,_,rfl,fa,_,2,2,rfl,rfl,g1,rfl,?_⟩;obtain⟨f4,x4⟩:=f2.put (i+1) (cell / many) (n+1) (!1) (!1);exact⟨_,rfl,_,rfl,cell,many,rfl,rfl,m0,q _ _ (c7 _ (!1)) (cI _ m0) f4 (x2.trans x4)⟩
   .rintro σ' H3 ⟨rfl,rfl⟩
    refine⟨_,rfl,_,_,rfl,rfl,(by show (0:Int)<1000003;decide),_,rfl,_,_,rfl,rfl,.inl ⟨!2,!2⟩,_,rfl,_,_,rfl,rfl,.inr ib,_,_,rfl,rfl,_,rfl,_,_,rfl,rfl,.inl ⟨!2,!2⟩,_,_,rfl,rfl,_,_,rfl,rfl,_,_,rfl,rfl,.inr ⟨!2,!2⟩,_,_,rfl,rfl,(by show (0:Int)<2147483629;decide),?_⟩;generalize hM:(cell % 1000003+37 * i * i+11 * i+5) * 48271 % 2147483629=M;have Y5:0<=M:=by rw[<- hM];exact c7 _ (!2)
    have Y6:M<2147483629:=by rw[<- hM];exact cI _ (!2)
    dsimp only;rw[hM];refine⟨_,rfl,_,rfl,M,M,rfl,rfl,.inl ⟨!1,!1⟩,_,rfl,_,_,rfl,rfl,.inl ⟨!2,!2⟩,_,_,rfl,rfl,_,_,rfl,rfl,_,_,rfl,rfl,(by show (0:Int)<2147483587;decide),?_⟩;exact⟨_,rfl,_,_,rfl,rfl,.inr ⟨!2,!2⟩,_,rfl,_,_,rfl,rfl,_,_,rfl,rfl,(by show (0:Int)<999979;decide),_,rfl,_,_,rfl,rfl,m0,q _ _ (c7 _ (!1)) (cI _ m0) f2 x2⟩
end
end Odj
namespace L2
open PySem
theorem Ext.put {S:List Addr}{H0 H:Hp}{p:Addr}{o:HO}(a:Ext S H0 H)(h0:H0 p=none):Ext S H0 (eM H p o) :=
 ⟨λb u hb e=>by rw[dU (λz=>by rw[z,h0] at e;cases e)];exact a.keep b u hb e,λb ys e=>by rw[dU (λz=>by rw[z,h0] at e;cases e)];exact a.tup b ys e⟩
end L2
namespace Odj
open PySem L2
noncomputable def fU (o:sS):List (Key × V):=o.map λp=>((Sum.inl p.1:Key),V.bl p.2)
theorem uI (o:sS)(k:Int):ij (fU o) (Sum.inl k)=((o.find? λp=>decide (p.1=k)).map (·.2)).map V.bl:=by
 induction o with
 | nil=>rfl
 | cons p o ih =>
  have e:fU (p::o)=((Sum.inl p.1:Key),V.bl p.2)::fU o:=rfl;by_cases h:p.1=k
  .rw[e,f9 (by rw[h]),bN]
   simp[h]
  .rw[e,f' (λz=>h (Sum.inl.inj z)),ih,bN]
   simp[h]
theorem oP (o:sS)(k:Int):(ij (fU o) (Sum.inl k)).getD (.bl false)=.bl (gT o k):=by
 rw[uI];unfold gT;cases (o.find? λp=>decide (p.1=k))<;>rfl
theorem B7 {o:sS}(h:(ff o).Nodup){i:Nat}{p:Int × Bool}(hp:o[i]? = some p):ij (fU o) (Sum.inl p.1)=some (.bl p.2):=by
 have e:=Gy h hp;rw[uI];unfold gT at e
 cases hf:(o.find? λq=>decide (q.1=p.1)) with
 | none =>
  have:=List.find?_eq_none.mp hf p (cg hp);simp at this
 | some q =>
  rw[hf] at e;have e':q.2=p.2:=e;simp[e']
theorem r6 (o:sS)(k:Int):jj (fU o) (Sum.inl k) (.bl (!gT o k))=fU (fP o k):=by
 have ha:((fU o).any λkv=>decide (kv.1=Sum.inl k))=o.any λp=>decide (p.1=k):=by
  unfold fU;rw[List.any_map];congr 1;funext p;show decide ((Sum.inl p.1:Key)=Sum.inl k)=decide (p.1=k);by_cases h:p.1=k
  .simp[h]
  .have:¬ (Sum.inl p.1:Key)=Sum.inl k:=λz=>h (Sum.inl.inj z)
   simp[h]
 unfold jj fP;rw[ha];split
 .unfold fU
  rw[bp,bp];apply bu;intro p _;simp only[Function.comp];by_cases h:p.1=k
  .simp[h]
  .have:¬ (Sum.inl p.1:Key)=Sum.inl k:=λz=>h (Sum.inl.inj z)
   simp[h]
 .unfold fU
  rw[aO];rfl
theorem oQ (o:sS):(fU o).length=o.length:=by unfold fU;rw[ao]
theorem uJ (row:List Int)(k:Int):eu (row++[k])=fP (eu row) k:=by
 unfold eu;rw[List.foldl_append];rfl
noncomputable def JR (row ns:List Int):Prop:=ns.Perm (jR (eu row))/\ns.Pairwise (·<=·)
theorem AG (o:sS)(k j:Int):gT (fP o k) j=if j=k then !gT o k else gT o j:=by
 have e:=oP (fP o k) j;rw[<- r6,EG] at e;by_cases h:j=k
 .subst h
  rw[if_pos rfl] at e;rw[if_pos rfl];exact (V.bl.inj e).symm
 .rw[if_neg (λz=>h (Sum.inl.inj z)),oP] at e
  rw[if_neg h];exact (V.bl.inj e).symm
theorem r9 (k:Int):∀(row:List Int) (o:sS),gT (row.foldl fP o) k=(gT o k != decide (row.count k % 2=1))
 | [],o=>by simp
 | x::row,o=>by
  rw[dn,r9 k row,AG,List.count_cons];by_cases h:k=x
  .subst h
   rw[if_pos rfl];have h2:=Nat.mod_two_eq_zero_or_one (row.count k);rcases h2 with z | z
   .have e1:(row.count k+if (k == k)=true then 1 else 0) % 2=1:=by simp;omega
    simp only[e1,z];cases gT o k<;>rfl
   .have e1:(row.count k+if (k == k)=true then 1 else 0) % 2=0:=by simp;omega
    simp only[e1,z];cases gT o k<;>rfl
  .rw[if_neg h]
   have e1:(x == k)=false:=by
    rw[beq_eq_false_iff_ne];exact λz=>h z.symm
   simp[e1]
theorem pU (row:List Int)(k:Int):gT (eu row) k=decide (row.count k % 2=1):=by
 unfold eu;rw[r9];have:gT [] k=false:=rfl;rw[this];cases decide (row.count k % 2=1)<;>rfl
theorem sd:∀(row:List Int) (o:sS),(ff o).Nodup->(ff (row.foldl fP o)).Nodup
 | [],o,h=>h
 | x::row,o,h=>sd row _ (AB h)
theorem kT (row:List Int):(ff (eu row)).Nodup:=sd row [] (by simp[ff])
theorem se:∀(row:List Int) (o:sS),(row.foldl fP o).length<=o.length+row.length
 | [],o=>by simp
 | x::row,o=>by
  rw[dn,av];have:=se row (fP o x);have:=Gw o x;omega
theorem nO (row:List Int):(eu row).length<=row.length:=by
 have:=se row [];unfold eu;simpa using this
theorem JS {o:sS}{k:Int}(h:gT o k=true):k∈ff o:=by
 unfold gT at h
 cases hf:(o.find? λp=>decide (p.1=k)) with
 | none=>rw[hf] at h;cases h
 | some p=>exact aM.mpr ⟨p,List.mem_of_find?_eq_some hf,by simpa using List.find?_some hf⟩
theorem Gz {o:sS}(hn:(ff o).Nodup):jR o=(ff o).filter (gT o):=by
 unfold jR ff;rw[List.filter_map];congr 1;apply List.filter_congr;intro p hp;obtain⟨i,hi⟩:=List.getElem?_of_mem hp;exact (Gy hn hi).symm
theorem qI {row ns:List Int}(h:JR row ns):AD row ns/\ns.length<=row.length:=by
 have hn:=kT row;have ht:=Gz hn;have JK:ns.Nodup:=h.1.symm.nodup (by rw[ht];exact hn.filter _);refine⟨⟨?_,λk=>?_⟩,?_⟩
 .have:=h.2.and JK
  exact this.imp λz=>by
   have h1:=z.1;have h2:=z.2;omega
 .rw[h.1.mem_iff,ht,aN,pU]
  constructor
  .intro z;exact of_decide_eq_true z.2
  .intro z
   exact⟨JS (by rw[pU];exact decide_eq_true z),decide_eq_true z⟩
 .rw[h.1.length_eq]
  unfold jR;rw[ao];exact bq (cc _ _) (nO row)
noncomputable def Dq:Sp:=λvs H Q _=>∃(a:Addr) (row:List Int),vs=[.ref a]/\(H a=some (.lst (row.map V.int))\/H a=some (.tup (row.map V.int)))/\(eu row).length<=60/\row.length<=100000 /\
 ∀(ns:List Int) (p:Addr) (H':Hp),AD row ns->ns.length<=row.length->H' p=some (.tup (!23))->Ext [] H H'->Q (.ref p) H'
section
variable {P:aV}{w:World}{K:W.Frag}{mg:Str->Option ah}{base:Heap}{f:Addr}{fd:b9}
theorem yy (F:w6 K "odd_ones" "odd_ones" (top 1) f fd)(hm:mg "odd_ones" = some (.ref f))(B:oO mg):eD P w K mg base 1 "odd_ones" ["row"] Dq:=by
 refine⟨f,fd,?_,hm,F.kp,F.binds λ_ _ _ _ _ _ us hl=>by obtain⟨_,rfl⟩:=Fu hl;rfl⟩;have sc:fD ["row", "odd", "number"] ["row"] (dQ (top 1)):=⟨rfl,rfl,rfl,!3,rfl,!3,!3⟩;refine F.MP sc (λvs H Q E h=>?_) (λfG A outer s H vs Q E hr h=>?_)
 .obtain⟨a,row,rfl,_⟩:=h
  rfl
 .obtain⟨a,row,rfl,ha,hb,Y7,q⟩:=h
  have hsz:az=16777216:=by decide
  have hu:=PK hr;rcases ha with ha | ha
  .skip
   refine⟨_,(eZ (gF (i:=1) sc.nd rfl (Or.inr rfl) xq)
   (eZ (vn PassesOwn.never rfl (EF K (qv 0)) (n9 (i:=2) sc.nd rfl (Or.inl rfl)) (ig (qm hu (qv 1) (qv 2) (EB (xr hu (qv 1) (qv 2) Ez ⟨rfl,rfl,rfl,rfl⟩)))))
   (ig (kO (kl (zE K) (by rfl) B.tuple (!3) (gZ (gE (kP K) (by rfl) B.sorted (!3) (gZ (vo (N:=["number", "odd"]) (mp:=[none,some 1]) rfl (Bo (qv 1)) rfl (by show iR ["row", "odd", "number"] (dQ (top 1)) _ _ _=true;decide +kernel) λ_ _ _ _ _=>⟨(n9 (i:=0) (by show List.Nodup [("number" : Str),("odd" : Str)];decide +kernel) rfl (Or.inl rfl)),(zD (zB (mB hu (qv 1) (qv 0) (λ_ _=>rfl)))),(qv 0)⟩) fi)) fi)))))),?_⟩
   intro d hd;have Va:a≠d:=fo ha hd
   refine⟨_,rfl,a,rfl,⟨_,gD.of (by rw[dU Va];exact ha)⟩,D9 (xs:=row.map V.int) (λi σ' H'=>(∃y,σ'=[some (.ref a),some (.ref d),y])/\H' d=some (.dK (fU (eu (row.take i))))/\Ext [] H H')
    ⟨⟨none,rfl⟩,dP,.new hd⟩ (λi σ' H' _ h=>gD.of (h.2.2.keep _ _ (!4) ha)) ?_ ?_⟩
   .rintro i x σ' H' hx ⟨⟨y,rfl⟩,hD,x1⟩
    rw[aB] at hx
    cases hk:row[i]? with
    | none=>rw[hk] at hx;cases hx
    | some k =>
     rw[hk] at hx;cases hx;have ol:=nO (row.take i);rw[bY] at ol;refine⟨_,rfl,d,rfl,.inl ⟨_,.inl hD⟩,_,rfl,_,iS.k (k:=Sum.inl k) hD,_,oP _ _,_,rfl,_,rfl,d,_,rfl,pY.k (k:=Sum.inl k) hD (by rw[oQ];omega),⟨_,rfl⟩,?_,x1.put hd⟩;rw[dP,r6,dc,hk];show _=some (HO.dK (fU (eu (row.take i++[k]))));rw[uJ]
   .rintro σ' H' ⟨⟨y,rfl⟩,hD,x1⟩
    rw[bT (by rw[ao];exact ap _)] at hD;have ol:(eu row).length<=60/\(ff (eu row)).Nodup:=⟨hb,kT row⟩
    refine⟨_,rfl,d,_,rfl,hD,λo=>tX (λi ys σ' H2=>(∃y,σ'=[y,some (.ref d)])/\H2=eM H' d (.nj o (.dK (fU (eu row))))/\ys=(((eu row).take i).filter (·.2)).map λp=>V.int p.1) ⟨⟨none,rfl⟩,rfl,rfl⟩
     (λi ys σ' H2 h=>by rw[h.2.1];exact dP) ?_ ?_⟩
    .rintro i k v ys σ' H2 zd ⟨⟨y,rfl⟩,rfl,rfl⟩
     unfold fU at zd;rw[aB] at zd
     cases hp:(eu row)[i]? with
     | none=>rw[hp] at zd;cases zd
     | some p =>
      rw[hp] at zd;cases zd
      have hl:((((eu row).take i).filter (·.2)).map λp=>V.int p.1).length<az:=by
       rw[ao];have:=cc (·.2) ((eu row).take i);rw[bY] at this;omega
      refine⟨hl,_,rfl,_,rfl,d,.bl p.2,rfl,.inl ⟨_,Sum.inl p.1,.inr ⟨o,dP⟩,rfl,(B7 ol.2 hp).symm⟩,_,rfl,?_⟩;have et:(eu row).take (i+1)=(eu row).take i++[p]:=by rw[dc,hp];rfl
      cases NJ:p.2 with
      | true=>exact PL ⟨_,rfl,⟨_,rfl⟩,rfl,by rw[et,du,aO];simp[di,NJ];rfl⟩
      | false=>exact MC ⟨⟨_,rfl⟩,rfl,by rw[et,du,aO];simp[di,NJ]⟩
    .rintro ys σ' H2 ⟨⟨y,rfl⟩,rfl,rfl⟩
     rw[bT (by rw[oQ];exact ap _)];have e:((eu row).filter (·.2)).map (λp=>V.int p.1)=(jR (eu row)).map V.int:=by unfold jR;rw[bp];rfl
     rw[e]
     have hl:(jR (eu row)).length<=60:=by
      unfold jR;rw[ao];have:=cc (·.2) (eu row);omega
     refine⟨by rw[ao];omega,λD Vb=>⟨D,jR (eu row),rfl,gD.of dP,!1,λl ms p1 p2 sQ=>⟨l,_,rfl,.inl ⟨gD.of dP,λt ht=>q ms t _ (qI ⟨p1,p2⟩).1 (qI ⟨p1,p2⟩).2 dP ?_⟩⟩⟩⟩;exact (((x1.put hd).trans (.new Vb)).trans (.new sQ)).trans (.new ht)
  .skip
   refine⟨_,(eZ (gF (i:=1) sc.nd rfl (Or.inr rfl) xq)
   (eZ (vn PassesOwn.never rfl (Ip K (qv 0)) (n9 (i:=2) sc.nd rfl (Or.inl rfl)) (ig (qm hu (qv 1) (qv 2) (EB (xr hu (qv 1) (qv 2) Ez ⟨rfl,rfl,rfl,rfl⟩)))))
   (ig (kO (kl (zE K) (by rfl) B.tuple (!3) (gZ (gE (kP K) (by rfl) B.sorted (!3) (gZ (vo (N:=["number", "odd"]) (mp:=[none,some 1]) rfl (Bo (qv 1)) rfl (by show iR ["row", "odd", "number"] (dQ (top 1)) _ _ _=true;decide +kernel) λ_ _ _ _ _=>⟨(n9 (i:=0) (by show List.Nodup [("number" : Str),("odd" : Str)];decide +kernel) rfl (Or.inl rfl)),(zD (zB (mB hu (qv 1) (qv 0) (λ_ _=>rfl)))),(qv 0)⟩) fi)) fi)))))),?_⟩
   intro d hd;have Va:a≠d:=fo ha hd
   refine⟨_,rfl,a,rfl,⟨_,iQ.of (by rw[dU Va];exact ha)⟩,HC (K:=K) (a:=a) (xs:=row.map V.int) (λi σ' H'=>(∃y,σ'=[some (.ref a),some (.ref d),y])/\H' d=some (.dK (fU (eu (row.take i))))/\Ext [] H H')
    ⟨⟨none,rfl⟩,dP,.new hd⟩ (λi σ' H' _ h=>iQ.of (h.2.2.tup _ _ ha)) ?_ ?_⟩
   .rintro i x σ' H' hx ⟨⟨y,rfl⟩,hD,x1⟩
    rw[aB] at hx
    cases hk:row[i]? with
    | none=>rw[hk] at hx;cases hx
    | some k =>
     rw[hk] at hx;cases hx;have ol:=nO (row.take i);rw[bY] at ol;refine⟨_,rfl,d,rfl,.inl ⟨_,.inl hD⟩,_,rfl,_,iS.k (k:=Sum.inl k) hD,_,oP _ _,_,rfl,_,rfl,d,_,rfl,pY.k (k:=Sum.inl k) hD (by rw[oQ];omega),⟨_,rfl⟩,?_,x1.put hd⟩;rw[dP,r6,dc,hk];show _=some (HO.dK (fU (eu (row.take i++[k]))));rw[uJ]
   .rintro σ' H' ⟨⟨y,rfl⟩,hD,x1⟩
    rw[bT (by rw[ao];exact ap _)] at hD;have ol:(eu row).length<=60/\(ff (eu row)).Nodup:=⟨hb,kT row⟩
    refine⟨_,rfl,d,_,rfl,hD,λo=>tX (λi ys σ' H2=>(∃y,σ'=[y,some (.ref d)])/\H2=eM H' d (.nj o (.dK (fU (eu row))))/\ys=(((eu row).take i).filter (·.2)).map λp=>V.int p.1) ⟨⟨none,rfl⟩,rfl,rfl⟩
     (λi ys σ' H2 h=>by rw[h.2.1];exact dP) ?_ ?_⟩
    .rintro i k v ys σ' H2 zd ⟨⟨y,rfl⟩,rfl,rfl⟩
     unfold fU at zd;rw[aB] at zd
     cases hp:(eu row)[i]? with
     | none=>rw[hp] at zd;cases zd
     | some p =>
      rw[hp] at zd;cases zd
      have hl:((((eu row).take i).filter (·.2)).map λp=>V.int p.1).length<az:=by
       rw[ao];have:=cc (·.2) ((eu row).take i);rw[bY] at this;omega
      refine⟨hl,_,rfl,_,rfl,d,.bl p.2,rfl,.inl ⟨_,Sum.inl p.1,.inr ⟨o,dP⟩,rfl,(B7 ol.2 hp).symm⟩,_,rfl,?_⟩;have et:(eu row).take (i+1)=(eu row).take i++[p]:=by rw[dc,hp];rfl
      cases NJ:p.2 with
      | true=>exact PL ⟨_,rfl,⟨_,rfl⟩,rfl,by rw[et,du,aO];simp[di,NJ];rfl⟩
      | false=>exact MC ⟨⟨_,rfl⟩,rfl,by rw[et,du,aO];simp[di,NJ]⟩
    .rintro ys σ' H2 ⟨⟨y,rfl⟩,rfl,rfl⟩
     rw[bT (by rw[oQ];exact ap _)];have e:((eu row).filter (·.2)).map (λp=>V.int p.1)=(jR (eu row)).map V.int:=by unfold jR;rw[bp];rfl
     rw[e]
     have hl:(jR (eu row)).length<=60:=by
      unfold jR;rw[ao];have:=cc (·.2) (eu row);omega
     refine⟨by rw[ao];omega,λD Vb=>⟨D,jR (eu row),rfl,gD.of dP,!1,λl ms p1 p2 sQ=>⟨l,_,rfl,.inl ⟨gD.of dP,λt ht=>q ms t _ (qI ⟨p1,p2⟩).1 (qI ⟨p1,p2⟩).2 dP ?_⟩⟩⟩⟩;exact (((x1.put hd).trans (.new Vb)).trans (.new sQ)).trans (.new ht)
theorem uK:∀(row:List Int) (o:sS) (k:Int),k∈ff (row.foldl fP o)->k∈ff o\/k∈row
 | [],o,k,h=>.inl h
 | x::row,o,k,h=>by
  rcases uK row _ k h with h | h
  .rcases Gx h with h | h
   .exact .inr (by rw[h];exact aq ..)
   .exact .inl h
  .exact .inr (ai _ h)
theorem Dr (row:List Int)(k:Int)(h:k∈ff (eu row)):k∈row:=by
 rcases uK row [] k h with h | h
 .simp[ff] at h
 .exact h
theorem kU {S:List Addr}{H:Hp}:∀ns:List Int,dO S H (ns.map .int) (!23)
 | []=>.nil
 | n::ns=>.cons (.int n) (kU ns)
theorem GA {row ns:List Int}(h:AD row ns):ns=eA row:=by
 refine rX h.1 (mD _) λk=>?_;unfold eA;rw[h.2,kQ,aN];constructor
 .intro z
  exact⟨ce.mp (!1),decide_eq_true z⟩
 .intro z
  exact of_decide_eq_true z.2
theorem uM (row:List Int):(eu row).length<=(jO row).length:=by
 have h:=gk (kT row) (ns:=jO row) λk hk=>jg.mpr ?_
 .unfold ff at h
  rwa [ao] at h
 .exact Dr row k hk
theorem AH (F:w6 K "odd_ones" "odd_ones" (top 1) f fd)(hm:mg "odd_ones" = some (.ref f))(B:oO mg){C:Xc}:eD P w K mg base 1 "odd_ones" ["row"] (sR C fT) :=
 (yy F hm B).imp λvs H Q E ⟨S,ds,n,Qp,Xp,r,has,hF,hq,_⟩=>by
  unfold fT at hF;split at hF
  .rename_i es
   obtain⟨row,e,⟨h1,h2⟩,q⟩:=hF;obtain⟨v,t,rfl,rv,rn⟩:=r.of_cons;cases rn.e9;obtain⟨a,xs,rfl,ha,_,rs⟩:=rv.fw;rw[gw e] at rs;rw[gL rs] at ha;refine⟨a,row,rfl,.inl ha,bq (uM row) h1,h2,λns p H' ho _ hp x=>hq _ _ H' (.tup hp (kU _)) x ?_⟩;rw[GA ho];exact q
  .rename_i es
   obtain⟨row,e,⟨h1,h2⟩,q⟩:=hF;obtain⟨v,t,rfl,rv,rn⟩:=r.of_cons;cases rn.e9;obtain⟨a,xs,rfl,ha,rs⟩:=rv.fz;rw[gw e] at rs;rw[gL rs] at ha;refine⟨a,row,rfl,.inr ha,bq (uM row) h1,h2,λns p H' ho _ hp x=>hq _ _ H' (.tup hp (kU _)) x ?_⟩;rw[GA ho];exact q
  .exact hF.elim
end
end Odj
namespace Odj
open PySem PySem.Spec L2
section
variable {P:aV}{w:World}{K:W.Frag}{mg:Str->Option ah}{base:Heap}{f:Addr}{fd:b9}{cl:Str->Addr}{Y:zT}
theorem AI (F:FM K mg "by_turns" (top 3))(B:oO mg)(iD:nM P w K mg base cl) :
  gn P w K mg base cl :=
 jn nK N2 F λsc f fG A outer s H E n0 S has hr hu =>
 (d8 (ik (gH iD (RM hr) (d9 (mT ku (fj 0) (fj 1)) dZ))))
theorem Ds (F:FM K mg "odds_of" (top 4))(B:oO mg)(iD:nM P w K mg base cl) :
  pz P w K mg base cl :=
 jn pk N3 F λsc f fG A outer s H E n0 S has hr hu =>
 (eL (Jf 2 sc.nd (o4 dZ))
 (eL (oo PassesOwn.never rfl (QJ 1) (pR 3 sc.nd)
 (d8 (rC 2 PySem.F.plainAttrs_list PySem.F.slot_list_extend PySem.F.type_list_extend (Fi) (d9 (IP (KE.loose (fR (KE.loose (fR (fj 0) (!17))) (fj 3))) qt (qu d4)) dZ))))
 (d8 (ik (vG iD (RM hr) (gS (fj 2) fL))))))
theorem AJ (F:FM K mg "price_of" (top 5))(B:oO mg) :
  nN P w K mg base cl :=
 jn nL N5 F λsc f fG A outer s H E n0 S has hr hu =>
 (d8 (ik (xB (Nj rfl) B.sum (gS (KE.loose (KN.data (lR [] (N:=N4) (mp:=[none,some 0]) rfl (uj (fj 1)) rfl (co N5 (dQ (top 5))) (λ_ _ _ _ _=>⟨(pR 0 (nd N4)),o6,(fR (KE.loose (fR (KE.loose (fR (fj 1) (!17))) (fj 0))) (!17))⟩) (hfd:=IY)))) fL))))
theorem JT (F:FM K mg "below" (top 7))(B:oO mg) :
  qH P w K mg base cl :=
 jn wc N7 F λsc f fG A outer s H E n0 S has hr hu =>
 (d8 (ik (CY om B.tuple (gS (KE.loose (KN.data (lR [] (N:=N6) (mp:=[none,none]) rfl (Na B.enumerate (KE.loose (fR (fj 0) (!17)))) rfl (co N7 (dQ (top 7))) (λ_ _ _ _ _=>⟨(QB (n':=2) rfl (rA (pR 0 (nd N6)) (rA (pR 1 (nd N6)) rq)) (Q4 [0,1]) rfl),(zS (iz II (KE.loose (fR (fj 1) (!17))) (!17))),(i7 0)⟩) (hfd:=IY)))) fL))))
end
section
variable {P:aV}{w:World}{K:W.Frag}{mg:Str->Option ah}{base:Heap}{f:Addr}{fd:b9}{cl:Str->Addr}{Y:zT}
theorem GB (F:FM K mg "turned" (top 8))(B:oO mg) :
  rZ P w K mg base cl :=
 jn rY N7 F λsc f fG A outer s H E n0 S has hr hu =>
 (d8 (ik (gG (d9 (fR (fj 0) (!17)) (d9 (CY om B.tuple (gS (KE.loose (KN.data (lR [] (N:=N8) (mp:=[none,none,none]) rfl (uj (KE.loose (fR (fj 0) (!17)))) rfl (co N7 (dQ (top 8))) (λ_ _ _ _ _=>⟨(QB (n':=3) rfl (rA (pR 1 (nd N8)) (rA (pR 0 (nd N8)) (rA (pR 2 (nd N8)) rq))) (Q4 [1,0,2]) rfl),o6,(gG (d9 (i7 1) (d9 (i7 0) (d9 (xB K7 B.abs (gS (fj 2) fL)) dZ))))⟩) (hfd:=IY)))) fL)) dZ)))))
theorem tp (F:FM K mg "turned_told" (top 9))(B:oO mg)(eG:gn P w K mg base cl)(pB:pz P w K mg base cl)(mJ:qH P w K mg base cl) :
  j9 P w K mg base cl :=
 jn j7 N9 F λsc f fG A outer s H E n0 S has hr hu =>
 (d8 (ik (gH eG (RM hr) (d9 (i7 1) (d9 (gH pB (RM hr) (d9 (i7 0) (d9 (gH mJ (RM hr) (d9 (i7 0) dZ)) dZ))) dZ)))))
theorem yz (F:FM K mg "other_end" (top 11))(B:oO mg) :
  l4 P w K mg base cl :=
 jn lW XE F λsc f fG A outer s H E n0 S has hr hu =>
 (d8 (ik (CV (iz (E4 hu) (KE.loose (fR (fj 0) (!17))) (fj 1)) (fR (fj 0) (!17)) (fR (fj 0) (!17)))))
theorem yB (F:FM K mg "ways_from" (top 13))(B:oO mg)(gX:i5 P w K mg base cl) :
  l5 P w K mg base cl :=
 jn lX XF F λsc f fG A outer s H E n0 S has hr hu =>
 (eL (Jr (i:=2) sc.nd (Or.inl rfl) (i7 1) (gG (d9 d4 (d9 (gG dZ) dZ))) (hfd:=(nf 2 [])))
 (eL (jm 3 sc.nd (vG gX (RM hr) (gS (fj 0) (gS (fj 2) fL))))
 (eL (IW PassesOwn.never (iz Bx (fj 3) (KE.loose tY))
 (eL (Ak 2 (rf hu) (KE.loose (fR (fj 3) (!17))) (gG (d9 (fR (fj 3) (!17)) (d9 (fR (fj 3) (!17)) dZ))))
 (d8 (jm 3 sc.nd (vG gX (RM hr) (gS (fj 0) (gS (fj 2) fL)))))))
 (d8 (vC 2)))))
end
section
variable {P:aV}{w:World}{K:W.Frag}{mg:Str->Option ah}{base:Heap}{f:Addr}{fd:b9}{cl:Str->Addr}{Y:zT}
theorem qb (F:FM K mg "cheapest_step" (top 14))(B:oO mg)(eG:gn P w K mg base cl)(ma:l4 P w K mg base cl) :
  i5 P w K mg base cl :=
 jn iX XG F λsc f fG A outer s H E n0 S has hr hu =>
 (eL (Jf 2 sc.nd (o4 dZ))
 (eL (oo PassesOwn.never rfl (Fg B.enumerate (fR (fj 0) (!17))) (QB (n':=2) rfl (rA (pR 3 sc.nd) (rA (pR 4 sc.nd) rq)) (Q4 [3,4]) rfl)
 (d8 (xK (iz (T5 hu) (KE.loose (Lk (rf hu) (KE.loose (fR (fj 4) (!17))) (fj 1))) (KE.loose (Lk (rf hu) (KE.loose (fR (fj 4) (!17))) (fj 1)))) (eL (jm 5 sc.nd (CV (Ll (rf hu) (KE.loose (fR (fj 4) (!17))) (fj 1)) (fR (fj 4) (!17)) (fR (fj 4) (!17))))
 (d8 (rC 2 PySem.F.plainAttrs_list PySem.F.slot_list_append PySem.F.type_list_append (oq) (d9 (gG (d9 (mT ku (KE.loose (fR (KE.loose (vW (rf hu) (fj 1) (fj 5))) (!17))) (KE.loose (fR (fj 4) (!17)))) (d9 (gH ma (RM hr) (d9 (i7 4) (d9 (i7 5) dZ))) (d9 (gH eG (RM hr) (d9 (fR (KE.loose (vW (rf hu) (fj 1) (fj 5))) (!17)) (d9 (gG (d9 (i7 3) dZ)) dZ))) dZ)))) dZ)))) jM)))
 (d8 (ik (NB rfl hu (fj 2) B.min)))))
theorem sf (F:FM K mg "heights_from" (top 15))(B:oO mg)(md:l5 P w K mg base cl) :
  js P w K mg base cl :=
 jn jo Wc F λsc f fG A outer s H E n0 S has hr hu =>
 (eL (jm 2 sc.nd (gH md (RM hr) (d9 (i7 0) (d9 (i7 1) dZ))) (Or.inr rfl))
 (d8 (ik (CY om B.tuple (gS (KE.loose (KN.data (lR [] (N:=Wb) (mp:=[none,some 2]) rfl (Bz B.range (fR (fj 0) (!17))) rfl (co Wc (dQ (top 15))) (λ_ _ _ _ _=>⟨(pR 0 (nd Wb)),o6,(CV (Ll (rf hu) (fj 0) (fj 1)) (fR (KE.loose (vW (rf hu) (fj 1) (fj 0))) (!17)) tY)⟩) (hfd:=IY)))) fL)))))
theorem tq (F:FM K mg "all_heights" (top 17))(B:oO mg)(jw:js P w K mg base cl) :
  kc P w K mg base cl :=
 jn j8 N7 F λsc f fG A outer s H E n0 S has hr hu =>
 (d8 (ik (KN.data (lR [] (N:=Wd) (mp:=[none,some 0]) rfl (Bz B.range (fR (fj 0) (!17))) rfl (co N7 (dQ (top 17))) (λ_ _ _ _ _=>⟨(pR 0 (nd Wd)),o6,(gH jw (RM hr) (d9 (i7 1) (d9 (i7 0) dZ)))⟩) (hfd:=IY)))))
theorem qc {kk:Nat}(Rc:kz->UF)(CT:2<=kk)(F:FM K mg "pairing_price" (top 18))(B:oO mg)(eG:gn P w K mg base cl)(kC:eD P w K mg base kk "partner_offers" ["heights", "told", "known"] (Hg Rc)):eD P w K mg base (kk+1) "pairing_price" ["heights", "told", "known"] (Hg (iZ Rc)) :=
 Rm (C:=XC λ_=>0) (λY=>iY Y Rc) XH F λsc f fG A outer s H E Y a n0 S hk hS has hr hu =>
 (Gb 2 1 (rf hu) (jm 3 sc.nd (vZ 2 kC (hr.mono (!1)) (i7 0) (i7 1))) (CV (iz Qs (KE.loose (xB K6 B.len (gS (fj 3) fL))) (!17)) (fR (KE.loose (xB (Np rfl hu) B.min (gS (fj 3) fL))) (!17)) tY) rfl rfl rfl (au.mpr rfl))
theorem kD {kk:Nat}(Rc:kz->UF)(CT:2<=kk)(F:FM K mg "partner_offers" (top 19))(B:oO mg)(eG:gn P w K mg base cl)(eX:eD P w K mg base kk "pairing_price" ["heights", "told", "known"] (Hg Rc)):eD P w K mg base (kk+1) "partner_offers" ["heights", "told", "known"] (Hg (gc Rc)) :=
 Rm (C:=XC λ_=>0) (λY=>iC Y Rc) XI F λsc f fG A outer s H E Y a n0 S hk hS has hr hu =>
 (eL (jm 3 sc.nd (fR (fj 1) (!17)))
 (eL (Jf 4 sc.nd (o4 dZ))
 (eL (oo PassesOwn.never rfl (La (IP (fj 1) (qu d4) qt)) (pR 5 sc.nd)
 (eL (jm 6 sc.nd (vZ 2 eX (hr.mono (!1)) (i7 0) (gH eG (hr.mono (!1)) (d9 (i7 1) (d9 (gG (d9 (i7 3) (d9 (i7 5) dZ))) dZ)))))
 (d8 (xK (KW.kb (w_and (iz Bx (KE.loose (fR (KE.loose (fR (fj 0) (fj 3))) (fj 5))) (KE.loose tY)) (zM (iz Bx (fj 6) (KE.loose tY))))) (d8 (rC 4 PySem.F.plainAttrs_list PySem.F.slot_list_append PySem.F.type_list_append (oq) (d9 (gG (d9 (mT ku (KE.loose (fR (KE.loose (fR (fj 0) (fj 3))) (fj 5))) (fj 6)) (d9 (i7 5) dZ))) dZ))) jM))))
 (d8 (vC 4)))))
theorem kE (F:FM K mg "pairing_price" (top 18))(F2:FM K mg "partner_offers" (top 19))(B:oO mg)(eG:gn P w K mg base cl):∀d:Nat,eD P w K mg base (2+2 * d) "pairing_price" ["heights", "told", "known"] (Hg (gf d))
 | 0=>Rn F
 | d+1=>qc (kk:=2+2 * d+1) _ (!1) F B eG (kD (kk:=2+2 * d) _ (!1) F2 B eG (kE F F2 B eG d))
theorem qd (F:FM K mg "pairing_price" (top 18))(F2:FM K mg "partner_offers" (top 19))(B:oO mg)(eG:gn P w K mg base cl):gW P w K mg base  := kE F F2 B eG 5
theorem pC (F:FM K mg "partner_offers" (top 19))(B:oO mg)(eG:gn P w K mg base cl)(eX:gW P w K mg base ):kB P w K mg base  := kD _ (!2) F B eG eX
end
section
variable {P:aV}{w:World}{K:W.Frag}{mg:Str->Option ah}{base:Heap}{f:Addr}{fd:b9}{cl:Str->Addr}{Y:zT}
theorem yC (F:FM K mg "all_sides" (top 20))(B:oO mg) :
  l6 P w K mg base cl :=
 jn lY Wf F λsc f fG A outer s H E n0 S has hr hu =>
 (eL (jm 1 sc.nd (KN.data (o4 (d9 (gG dZ) dZ))))
 (eL (oo PassesOwn.never rfl (qw B.range (fR (fj 0) (!17))) (pR 2 sc.nd (Or.inr rfl))
 (d8 (jm 1 sc.nd (mT ku (fj 1) (KE.loose (KN.data (lR [] (N:=We) (mp:=[none,some 2]) rfl (uj (fj 1)) rfl (co Wf (dQ (top 20))) (λ_ _ _ _ _=>⟨(pR 0 (nd We)),o6,(mT ku (fj 0) (KE.loose (gG (d9 (i7 1) dZ))))⟩) (hfd:=IY))))))))
 (d8 (ik (KN.data (Jn B.sorted hu (fj 1)))))))
theorem sg (F:FM K mg "least_prices" (top 21))(B:oO mg)(me:l6 P w K mg base cl)(eX:gW P w K mg base )(kf:j9 P w K mg base cl)(nP:nN P w K mg base cl)(mJ:qH P w K mg base cl)(kg:kc P w K mg base cl)(sh:rZ P w K mg base cl) :
  jt P w K mg base cl :=
 jn jq XJ F λsc f fG A outer s H E n0 S has hr hu =>
 (eL (jm 1 sc.nd (gH kg (RM hr) (d9 (gH sh (RM hr) (d9 (i7 0) dZ)) dZ)))
 (Dl (i:=2) (rf hu) sc.nd (Or.inl rfl) (gG dZ) d4 λY a1 S1 H1 C' SF V6 =>
 (eL (jm 3 sc.nd (gH nP (RM hr) (d9 (i7 0) (d9 (gH mJ (RM hr) (d9 (i7 0) dZ)) dZ))))
 (eL (Jp (i:=4) sc.nd (Or.inl rfl) (hfd:=(nf 4 [2])))
 (eL (oo PassesOwn.never rfl (La (gH me (RM hr) (d9 (i7 0) dZ))) (pR 5 sc.nd)
 (eL (jm 6 sc.nd (vZ 2 eX (RM hr) (i7 1) (gH kf (RM hr) (d9 (i7 0) (d9 (i7 5) dZ)))))
 (d8 (xK (iz Bx (fj 6) (KE.loose tY)) (d8 (Ak 4 (rf hu) (fj 5) (mT ku (fj 3) (fj 6)))) jM))))
 (d8 (vC 4)))))))
theorem yD (F:FM K mg "_law_price" (top 25))(B:oO mg)(eN:ju P w K mg base Y) :
  l7 P w K mg base Y :=
 FD (C:=XC λ_=>0) lZ XM F λsc f fG A outer s H E fa sa n0 S hf hS has hr hu =>
 (eL (jm 2 sc.nd (fR (KE.loose (KN.data (o4 (d9 d4 (d9 d4 (d9 d4 (d9 d4 (d9 d4 (d9 d4 (d9 (xy d4) (d9 (xy d4) (d9 (xy d4) (d9 d4 (d9 (xy d4) (d9 d4 dZ))))))))))))))) (KE.loose (ip 0 eN (RM hr) (d9 d4 dZ) (hfd:=(by decide:0∈[0]))))))
 (d8 (ik (CV (K1 (i7 1)) (xB K7 B.abs (gS (fj 2) fL)) (i7 2)))))
theorem Dt (F:FM K mg "_law_web" (top 26))(B:oO mg)(eN:ju P w K mg base Y)(mf:l7 P w K mg base Y) :
  pA P w K mg base Y :=
 FD (C:=XC λ_=>0) px XN F λsc f fG A outer s H E fa sa n0 S hf hS has hr hu =>
 (eL (jm 4 sc.nd (mT ku (!17) (KE.loose (ip 0 eN (RM hr) (d9 (i7 1) dZ) (hfd:=(by decide:0∈[0]))))))
 (eL (Jf 5 sc.nd (o4 dZ))
 (eL (oo PassesOwn.never rfl (qw B.range (mT Qv (KE.loose (ip 0 eN (RM hr) (d9 (mT ku (fj 2) (!17)) dZ) (hfd:=(by decide:0∈[0])))) (KE.loose (CY Qx B.int (gS (KE.loose (K0 Qs (fj 4) (!17))) fL))))) (pR 6 sc.nd)
 (eL (jm 7 sc.nd (ip 0 eN (RM hr) (d9 (i7 4) dZ) (hfd:=(by decide:0∈[0]))))
 (eL (jm 8 sc.nd (mT Qt (KE.loose (mT ku (KE.loose (mT ku (fj 7) (!17))) (KE.loose (ip 0 eN (RM hr) (d9 (mT Qr (fj 4) (!17)) dZ) (hfd:=(by decide:0∈[0])))))) (fj 4)))
 (eL (rC 5 PySem.F.plainAttrs_list PySem.F.slot_list_append PySem.F.type_list_append (oq) (d9 (gG (d9 (xB (M7 rfl) B.min (gS (fj 7) (gS (fj 8) fL))) (d9 (xB (M8 rfl) B.max (gS (fj 7) (gS (fj 8) fL))) (d9 (ip 0 mf (RM hr) (d9 (i7 3) dZ) (hfd:=(by decide:0∈[0]))) dZ)))) dZ))
 (d8 (xK (KW.kb (w_and (iz (E4 hu) (KE.loose (ip 0 eN (RM hr) (d9 d4 dZ) (hfd:=(by decide:0∈[0])))) (!17)) (zM (iz II (KE.loose (xB K6 B.len (gS (fj 5) fL))) (fj 2))))) (d8 (rC 5 PySem.F.plainAttrs_list PySem.F.slot_list_append PySem.F.type_list_append (oq) (d9 (fR (fj 5) (KE.loose (xy d4))) dZ))) jM))))))
 (d8 (ik (gG (d9 (i7 4) (d9 (CY om B.tuple (gS (KE.loose (IP (fj 5) qt (qu (i7 2)))) fL)) dZ))))))))
end
section
variable {P:aV}{w:World}{K:W.Frag}{mg:Str->Option ah}{base:Heap}{f:Addr}{fd:b9}{cl:Str->Addr}{Y:zT}
theorem si (F:FM K mg "_law_by_turns" (top 27))(B:oO mg) :
  jv P w K mg base cl :=
 jn jr U8 F λsc f fG A outer s H E n0 S has hr hu =>
 (eL (jm 2 sc.nd (mT ku (KE.loose (KN.data (lR [] (N:=Wg) (mp:=[none,some 1]) rfl (uj (fj 0)) rfl (co U8 (dQ (top 27))) (λ_ _ _ _ _=>⟨(pR 0 (nd Wg)),(zS (iz (K4 hu) (fj 0) (fj 1))),(i7 0)⟩) (hfd:=IY)))) (KE.loose (KN.data (lR [] (N:=Wh) (mp:=[none,some 0]) rfl (uj (fj 1)) rfl (co U8 (dQ (top 27))) (λ_ _ _ _ _=>⟨(pR 0 (nd Wh)),(zS (iz (K4 hu) (fj 0) (fj 1))),(i7 0)⟩) (hfd:=IY))))))
 (d8 (ik (CY om B.tuple (gS (KE.loose (KN.data (Jb B.sorted (fj 2)))) fL)))))
theorem yE (F:FM K mg "_law_least" (top 28))(B:oO mg)(jx:jv P w K mg base cl) :
  l8 P w K mg base cl :=
 jn l0 XO F λsc f fG A outer s H E n0 S has hr hu =>
 (eL (F7 (i:=1) (rf hu) sc.nd (Or.inl rfl) (gG dZ) (gG (d9 d4 (d9 (gG dZ) dZ))) (hfd:=(nf 1 [])))
 (eL (oo PassesOwn.never rfl (Fg B.enumerate (fR (fj 0) (!17))) (QB (n':=2) rfl (rA (pR 2 sc.nd) (rA (pR 3 sc.nd) rq)) (Q4 [2,3]) rfl)
 (eL (Jz (i:=4) 1 B.dict sc.nd (Or.inl rfl) (hfd:=(nf 4 [])))
 (eL (NH 1 PassesOwn.never rfl (pR 5 sc.nd)
 (eL (jm 6 sc.nd (gH jx (RM hr) (d9 (i7 5) (d9 (IP (fj 3) qt (qu d4)) dZ))))
 (eL (jm 7 sc.nd (gG (d9 (mT ku (KE.loose (fR (KE.loose (F8 1 (rf hu) (fj 5))) (!17))) (KE.loose (fR (fj 3) (!17)))) (d9 (mT ku (KE.loose (fR (KE.loose (F8 1 (rf hu) (fj 5))) (!17))) (KE.loose (gG (d9 (i7 2) dZ)))) dZ))))
 (d8 (xK (KW.kb (w_or (NA 4 (rf hu) (fj 6)) (K2 (iz II (KE.loose (fR (fj 7) (!17))) (KE.loose (fR (KE.loose (Nz 4 (rf hu) (fj 6))) (!17))))))) (d8 (Ak 4 (rf hu) (fj 6) (i7 7))) jM)))))
 (d8 (JA (i:=1) 4 sc.nd (Or.inl rfl) (!2) (hfd:=(nf 1 [])))))))
 (d8 (vC 1))))
theorem yF (F:FM K mg "_law_sizes" (top 29))(B:oO mg)(eN:ju P w K mg base Y) :
  l9 P w K mg base Y :=
 FD (C:=XC λ_=>0) l3 XR F λsc f fG A outer s H E fa sa n0 S hf hS has hr hu =>
 (eL (jm 2 sc.nd (ip 0 eN (RM hr) (d9 d4 dZ) (hfd:=(by decide:0∈[0]))))
 (eL (xK (KW.kb (w_and (iz (E4 hu) (fj 2) (!17)) (zM (iz (E4 hu) (fj 1) (!17))))) (d8 (ik (gG (d9 d4 (d9 d4 dZ))))) jM)
 (d8 (ik (CV (iz II (fj 2) (!17)) (gG (d9 d4 (d9 d4 dZ))) (gG (d9 d4 (d9 d4 dZ))))))))
end
section
variable {P:aV}{w:World}{K:W.Frag}{mg:Str->Option ah}{base:Heap}{f:Addr}{fd:b9}{cl:Str->Addr}{Y:zT}
theorem RC (F:w6 K "law" "law" (top 30) f fd)(B:oO mg)(nQ:eD P w K mg base 1 "_law_feed" ["_law_script"] (qx Y K))(jy:jt P w K mg base cl)(mh:l8 P w K mg base cl)(pD:pA P w K mg base Y)(eN:ju P w K mg base Y)(ml:l9 P w K mg base Y)(XU:yu { nx:=λ_ _=>False,rt:=λd _=>d=.bool true } (List.replicate 11 none) 0) :
  lx P w K mg base vf 40 f fd ["_law_script"] (xQ K):=by
 have sc:fD Wj ["_law_script"] (dQ (top 30)):=Sj;refine Um (C:=XC cl) (Y:=Y) (k:=39) (u:=yu) F sc (!2) (λfG A outer s H E hr=>⟨gF (i:=1) sc.nd rfl (Or.inl rfl) (kj nQ (RM hr) (gZ (qv 0) fi)),λfa sa n0 S H1 hf hS has=>?_⟩) rfl XU;have hu:=hr.units;unfold yu;exact (eL (oo PassesOwn.never rfl (qw B.range d4) (pR 2 sc.nd)
 (eL (QN (ip 1 ml (RM hr) (d9 (i7 2) dZ) (hfd:=(by decide:1∈[1]))) (QB (n':=2) rfl (rA (pR 3 sc.nd) (rA (pR 4 sc.nd) rq)) (Q4 [3,4]) rfl))
 (eL (jm 5 sc.nd (ip 1 pD (RM hr) (d9 (i7 3) (d9 (i7 4) (d9 (K0 (E4 hu) (KE.loose (ip 1 eN (RM hr) (d9 d4 dZ) (hfd:=(by decide:1∈[1])))) (!17)) dZ))) (hfd:=(by decide:1∈[1]))))
 (eL (jm 6 sc.nd (gH mh (RM hr) (d9 (i7 5) dZ)) (Or.inr rfl))
 (eL (Nc (i:=7) false [] sc.nd (N:=Wi) (mp:=[none,some 6]) rfl (uj (KE.loose (KN.data (JM B.sorted rfl hu (fj 6))))) rfl (co Wj (dQ (top 30))) (λ_ _ _ _ _=>⟨(pR 0 (nd Wi)),o6,(gG (d9 (i7 0) (d9 (fR (KE.loose (vW (rf hu) (fj 1) (fj 0))) (!17)) dZ)))⟩) (hfd:=IY) (hfi:=(nf 7 [1])))
 (eL (jm 8 sc.nd (vH hr B.repr (i7 5)))
 (eL (oo PassesOwn.never rfl (qw B.range d4) (pR 9 sc.nd)
 (eL (JP (i:=10) sc.nd (Or.inl rfl) jy (RM hr) (d9 (i7 5) dZ) (hfd:=(nf 10 [1])))
 (eL (xK (KW.kb (w_or (Qo (K1 (NO B.isinstance B.dict (fj 10)))) (K2 (iz Lg (KE.loose (vH hr B.repr (KN.data (JN 10 B.sorted rfl hu)))) (KE.loose (vH hr B.repr (i7 7))))))) (d8 (ik M0)) jM)
 (d8 (NN 10)))))
 (d8 (xK (iz Lg (KE.loose (vH hr B.repr (i7 5))) (fj 8)) (d8 (ik M0)) jM)))))))))
 (d8 (ik M0)))
end
end Odj
namespace Odj
open PySem L2
local macro_rules | `(tactic| simp! [$ls,*]) => do let ex <- ("nU lz envOf List.length_cons List.length_nil List.map_cons List.map_nil List.cons_append List.nil_append List.append_nil List.replicate_succ List.replicate_zero Nat.reduceSub Nat.reduceAdd true_and and_true d3 iA iU g6 jL fc vB IV d7 dJ uC dR dM eR uL eF fA fu CU M1 M3 EX OC uf d6 nA lS nz M' QC QD QH i9 K9 T8 QF vE E9 E7 E8 Lh Uo ou iT IU CZ pO dN Qn p8 eS gp List.getElem?_cons_zero List.getElem?_cons_succ List.set_cons_zero List.set_cons_succ Option.join_some Option.join_none if_true if_false Bool.not_true Bool.not_false Bool.true_eq_false Bool.false_eq_true reduceIte".splitOn " ").toArray.mapM λs => `(Lean.Parser.Tactic.simpLemma| $(Lean.mkIdent s.toName):ident);`(tactic| simp only[$ls,*, $ex,*])
noncomputable abbrev eE:=Int × Int × Int
noncomputable def fk (t:eE):ag:=.tuple [.int t.1,.int t.2.1,.int t.2.2]
noncomputable def fy (many:Int)(ts:List eE):ag:=.tuple [.int many,.tuple (ts.map fk)]
noncomputable def dW (ns:List Int):ag:=.tuple (ns.map .int)
theorem Lw (i j:Int):EY (.int i) (.int j)=some (.int (i - j)):=by simp only[EY]
theorem sj (i j:Int):ie (.int i) (.int j)=some (.int (i+j)):=by simp only[ie]
section
variable {n:Int}{Q:ag->Int->Prop}{X:XQ}
noncomputable def mK (t:eE)(x:Int):Int:=if t.1=x then t.2.1 else t.1
theorem wd (t:eE)(x:Int):jS [fk t,.int x] n Q X=Q (.int (mK t x)) n:=by
 simp! [jS,lW,fk,fh,fm,qy,mK];by_cases h:t.1=x<;>simp[h]
theorem oR {ts:List eE}{i:Int}(h0:0<=i)(h1:i<(ts.length:Int)):∃t,ts[i.toNat]? = some t/\t∈ts/\oY (ts.map fk) i=some (fk t):=by
 have hl:i.toNat<ts.length:=by omega
 refine⟨ts[i.toNat],by simp[hl],bC _,?_⟩;rw[nC h0 (by simpa using h1),aB];simp[hl]
end
theorem GC (k:List Int):eO [] k=none:=rfl
theorem iE (p:List Int × ag)(kvs:fI)(k:List Int):eO (p::kvs) k=if p.1=k then some p.2 else eO kvs k:=by
 unfold eO;rw[bN];by_cases h:p.1=k
 .rw[decide_eq_true h,if_pos h];rfl
 .rw[decide_eq_false h,if_neg h]
theorem uN (k j:List Int)(d:ag):∀kvs:fI,(kvs.any λp=>decide (p.1=k))=false->eO (kvs++[(k,d)]) j=if j=k then some d else eO kvs j
 | [],_=>by
  rw[bg,iE,GC];by_cases h:j=k
  .rw[if_pos h.symm,if_pos h]
  .rw[if_neg (λz=>h z.symm),if_neg h]
 | p::kvs,ha=>by
  rw[cp,Bool.or_eq_false_iff] at ha;have hp:¬ p.1=k:=of_decide_eq_false ha.1;rw[bw,iE,uN k j d kvs ha.2,iE];by_cases h:p.1=j
  .rw[if_pos h,if_pos h,if_neg (λz=>hp (h.trans z))]
  .rw[if_neg h,if_neg h]
theorem yG (k j:List Int)(d:ag):∀kvs:fI,eO (kvs.map λp=>if p.1=k then (p.1,d) else p) j=(eO kvs j).map λx=>if j=k then d else x
 | []=>rfl
 | p::kvs=>by
  rw[ar,iE,iE,yG k j d kvs];by_cases h:p.1=k
  .rw[if_pos h]
   by_cases h2:p.1=j
   .rw[if_pos h2,if_pos h2,bW,if_pos (h2.symm.trans h)]
   .rw[if_neg h2,if_neg h2]
  .rw[if_neg h]
   by_cases h2:p.1=j
   .rw[if_pos h2,if_pos h2,bW,if_neg (λz=>h (h2.trans z))]
   .rw[if_neg h2,if_neg h2]
theorem sk (k:List Int):∀kvs:fI,(kvs.any λp=>decide (p.1=k))=(eO kvs k).isSome
 | []=>rfl
 | p::kvs=>by
  rw[cp,iE,sk k kvs];by_cases h:p.1=k
  .rw[if_pos h,decide_eq_true h];rfl
  .rw[if_neg h,decide_eq_false h];rfl
theorem mm (kvs:fI)(k j:List Int)(d:ag):eO (gQ kvs k d) j=if j=k then some d else eO kvs j:=by
 unfold gQ;split
 .rename_i h
  rw[sk] at h;rw[yG];by_cases hj:j=k
  .subst hj
   obtain⟨x,hx⟩:=bX.mp h;rw[hx,if_pos rfl,bW,if_pos rfl]
  .rw[if_neg hj]
   cases eO kvs j with
   | none=>rfl
   | some x=>rw[bW,if_neg hj]
 .rename_i h
  exact uN k j d kvs (Bool.eq_false_iff.mpr h)
noncomputable def ja (kvs:fI):List (List Int):=kvs.map (·.1)
theorem yH (kvs:fI)(k:List Int)(d:ag):ja (gQ kvs k d)=if k∈ja kvs then ja kvs else ja kvs++[k]:=by
 have ha:((kvs.any λp=>decide (p.1=k))=true)↔k∈ja kvs:=by
  rw[cD,ja,aM];constructor
  .rintro⟨p,hp,h⟩;exact⟨p,hp,of_decide_eq_true h⟩
  .rintro⟨p,hp,h⟩;exact⟨p,hp,decide_eq_true h⟩
 unfold gQ;by_cases h:(kvs.any λp=>decide (p.1=k))=true
 .rw[if_pos h,if_pos (ha.mp h),ja,ja,bp]
  refine bu λp _=>?_;show (if p.1=k then (p.1,d) else p).1=p.1;split<;>rfl
 .rw[if_neg h,if_neg (λz=>h (ha.mpr z)),ja,ja,aO]
  rfl
noncomputable def jz (ts:List eE)(k:Int):List Int:=[(ts.getD k.toNat (0,0,0)).1,(ts.getD k.toNat (0,0,0)).2.1]
noncomputable def d5 (ts:List eE)(ks:List Int):List Int:=(ks.map (jz ts)).flatten
noncomputable abbrev fQ (ts:List eE)(ks:List Int):Prop:=∀k∈ks,0<=k/\k<(ts.length:Int)
theorem jA (ts:List eE)(k:Int)(ks:List Int):d5 ts (k::ks)=jz ts k++d5 ts ks:=rfl
theorem iw (ts:List eE)(a b:List Int):d5 ts (a++b)=d5 ts a++d5 ts b:=by
 unfold d5;rw[aO,List.flatten_append]
theorem jB {ts:List eE}{a b:List Int}(h:a.Perm b):(d5 ts a).Perm (d5 ts b):=(h.map _).flatten
theorem sm:∀{l r:List Int},l.Nodup->r.Nodup->(∀k∈r,k∈l)->l.Perm (r++l.filter (λk=>!decide (k∈r))):=λ{l r} hl hr h=>by
 refine (bK hl ?_).mpr λk=>?_
 .refine cz.mpr ⟨hr,hl.filter _,λa ha b hb e=>?_⟩
  subst e;have:=(aN.mp hb).2;simp[ha] at this
 .rw[aL,aN]
  by_cases hk:k∈r
  .simp[hk,h k hk]
  .simp[hk]
theorem pE {ts:List eE}{l r:List Int}(hl:l.Nodup)(hr:r.Nodup)(h:∀k∈r,k∈l)(v:Int):(d5 ts l).count v=(d5 ts r).count v+(d5 ts (l.filter λk=>!decide (k∈r))).count v:=by
 rw[(jB (sm hl hr h)).count_eq,iw,bR]
noncomputable def jG (ts:List eE)(k:Int):Int:=(ts.getD k.toNat (0,0,0)).2.2
noncomputable def eC (ts:List eE)(ks:List Int):Int:=(ks.map (jG ts)).sum
theorem GD {a b:List Int}(h:a.Perm b):a.sum=b.sum:=by
 induction h with
 | nil=>rfl
 | cons x _ ih=>rw[dj,dj,ih]
 | swap x y l=>simp only[dj];omega
 | trans _ _ h1 h2=>exact h1.trans h2
theorem iF {ts:List eE}{a b:List Int}(h:a.Perm b):eC ts a=eC ts b:=GD (h.map _)
theorem iP (ts:List eE)(a b:List Int):eC ts (a++b)=eC ts a+eC ts b:=by
 unfold eC;rw[aO,List.sum_append]
theorem kW (ts:List eE)(p:Int->Bool)(a:List Int):eC ts a=eC ts (a.filter p)+eC ts (a.filter λk=>!p k):=by
 induction a with
 | nil=>rfl
 | cons k a ih =>
  have e:∀l,eC ts (k::l)=jG ts k+eC ts l:=λl=>rfl
  cases hp:p k with
  | true=>rw[dD hp,dE (by simp[hp]),e,e,ih];omega
  | false=>rw[dE (by simp[hp]),dD (by simp[hp]),e,e,ih];omega
theorem oS {l:List Int}(h:l.Nodup)(k:Int):l.count k=if k∈l then 1 else 0:=List.Nodup.count h
theorem e8 {row:List Int}{v:Int}:v∈eA row↔row.count v % 2=1:=by
 unfold eA;rw[kQ,aN];constructor
 .intro z
  exact of_decide_eq_true z.2
 .intro z
  exact⟨ce.mp (!1),decide_eq_true z⟩
theorem gY (row:List Int):(eA row).Pairwise (· < ·):=mD _
theorem lu {l:List Int}(h:l.Pairwise (· < ·)):l.Nodup:=h.imp λh z=>by omega
theorem gM (row:List Int):(eA row).Nodup:=lu (gY row)
theorem kF {a b:List Int}(ha:a.Nodup)(hb:b.Nodup){k:Int}:k∈eA (a++b)↔¬ (k∈a↔k∈b):=by
 rw[e8,bR,oS ha,oS hb];by_cases h1:k∈a<;>by_cases h2:k∈b<;>simp[h1,h2]
noncomputable def Vc (ts:List eE)(a s:List Int):Int:=eC ts (s.filter λk=>!decide (k∈a)) - eC ts (s.filter λk=>decide (k∈a))
theorem kX {a s:List Int}(ha:a.Nodup)(hs:s.Nodup):(eA (a++s)).Perm ((a.filter λk=>!decide (k∈s))++(s.filter λk=>!decide (k∈a))):=by
 refine (bK (gM _) (cz.mpr ⟨ha.filter _,hs.filter _,λx hx y hy e=>?_⟩)).mpr λk=>?_
 .subst e
  have h1:=(aN.mp hx).1;have h2:=(aN.mp hy).2;simp[h1] at h2
 .rw[kF ha hs,aL,aN,aN]
  by_cases h1:k∈a<;>by_cases h2:k∈s<;>simp[h1,h2]
theorem uO {a s:List Int}(ha:a.Nodup)(hs:s.Nodup):(a.filter λk=>decide (k∈s)).Perm (s.filter λk=>decide (k∈a)):=by
 refine (bK (ha.filter _) (hs.filter _)).mpr λk=>?_;rw[aN,aN];simp[and_comm]
theorem NU {ts:List eE}{a s:List Int}(ha:a.Nodup)(hs:s.Nodup):eC ts (eA (a++s)) - eC ts a=Vc ts a s:=by
 have h1:=iF (ts:=ts) (kX ha hs);have h2:=kW ts (λk=>decide (k∈s)) a;have h3:=iF (ts:=ts) (uO ha hs);rw[iP] at h1;unfold Vc;omega
noncomputable abbrev Hs:=List (Option Int)
noncomputable def mn (hs:Hs)(v:Int):Option Int:=hs.getD v.toNat none
noncomputable def mq (hs:Hs)(one other p:Int):Hs:=match mn hs one with
 | none=>hs
 | some c=>match mn hs other with
  | none=>hs.set other.toNat (some (c+p))
  | some d=>if c+p<d then hs.set other.toNat (some (c+p)) else hs
noncomputable def kY (hs:Hs)(t:eE):Hs:=mq (mq hs t.1 t.2.1 t.2.2) t.2.1 t.1 t.2.2
noncomputable def so (ts:List eE)(hs:Hs):Hs:=ts.foldl kY hs
noncomputable def jC (ts:List eE):Nat->Hs->Hs
 | 0,hs=>hs
 | j+1,hs=>jC ts j (so ts hs)
noncomputable def yI (many:Nat)(place:Int):Hs:=(List.replicate many none).set place.toNat (some 0)
noncomputable def gr (many:Nat)(ts:List eE)(place:Int):Hs:=jC ts many (yI many place)
theorem kG (hs:Hs)(one other p:Int):(mq hs one other p).length=hs.length:=by
 unfold mq;split
 .rfl
 .split
  .simp
  .split<;>simp
theorem kZ (hs:Hs)(t:eE):(kY hs t).length=hs.length:=by unfold kY;rw[kG,kG]
theorem pF (ts:List eE):∀hs:Hs,(so ts hs).length=hs.length:=by
 unfold so
 induction ts with
 | nil=>intro hs;rfl
 | cons t ts ih=>intro hs;rw[dn,ih,kZ]
theorem nR (ts:List eE):∀(j:Nat) (hs:Hs),(jC ts j hs).length=hs.length
 | 0,_=>rfl
 | j+1,hs=>by rw[jC,nR ts j,pF]
theorem jY {hs:Hs}{u v:Int}{x:Option Int}(u0:0<=u)(v0:0<=v)(hv:v<(hs.length:Int)):mn (hs.set v.toNat x) u=if u=v then x else mn hs u:=by
 unfold mn;rw[am,List.getElem?_set];by_cases e:u=v
 .subst e
  rw[if_pos rfl,if_pos (!1),if_pos rfl];rfl
 .rw[if_neg (!1),if_neg e,am]
noncomputable def DV (m:Int)(hs ly:Hs):Prop:=∀v c,0<=v->v<m->mn ly v=some c->∃c',mn hs v=some c'/\c'<=c
theorem DV.refl (m:Int)(hs:Hs):DV m hs hs:=λv c _ _ h=>⟨c,h,bF _⟩
theorem DV.trans {m:Int}{a b c:Hs}(h1:DV m a b)(h2:DV m b c):DV m a c:=λv x v0 v1 h=>by
 obtain⟨y,hy,BQ⟩:=h2 v x v0 v1 h;obtain⟨z,hz,Y8⟩:=h1 v y v0 v1 hy;exact⟨z,hz,!1⟩
section
variable {m:Int}{hs:Hs}(hl:(hs.length:Int)=m)
include hl
theorem mL {one other p:Int}(o0:0<=other)(o1:other<m):DV m (mq hs one other p) hs:=by
 intro v c v0 v1 h;unfold mq;split
 .exact⟨c,h,bF _⟩
 .split
  .rename_i hn
   rw[jY v0 o0 (!1)];by_cases e:v=other
   .subst e;rw[hn] at h;cases h
   .rw[if_neg e];exact⟨c,h,bF _⟩
  .rename_i d hd
   split
   .rw[jY v0 o0 (!1)]
    by_cases e:v=other
    .subst e
     rw[hd] at h;cases h;rw[if_pos rfl];exact⟨_,rfl,!1⟩
    .rw[if_neg e];exact⟨c,h,bF _⟩
   .exact⟨c,h,bF _⟩
theorem uP {one other p c:Int}(o0:0<=other)(o1:other<m)(h:mn hs one=some c):∃c',mn (mq hs one other p) other=some c'/\c'<=c+p:=by
 unfold mq;rw[h];dsimp only;split
 .rw[jY o0 o0 (!1),if_pos rfl]
  exact⟨_,rfl,bF _⟩
 .rename_i d hd
  split
  .rw[jY o0 o0 (!1),if_pos rfl]
   exact⟨_,rfl,bF _⟩
  .exact⟨d,hd,!1⟩
end
noncomputable abbrev k8 (m:Int)(ts:List eE):Prop:=∀t∈ts,0<=t.1/\t.1<m/\0<=t.2.1/\t.2.1<m
theorem sr {m:Int}{hs:Hs}(hl:(hs.length:Int)=m){t:eE}(ht:0<=t.1/\t.1<m/\0<=t.2.1/\t.2.1<m):DV m (kY hs t) hs:=by
 unfold kY;exact (mL (by rw[kG];exact hl) ht.1 ht.2.1).trans (mL hl ht.2.2.1 ht.2.2.2)
theorem pG {m:Int}:∀{ts:List eE} {hs:Hs},(hs.length:Int)=m->k8 m ts->DV m (so ts hs) hs
 | [],hs,_,_=>DV.refl m hs
 | t::ts,hs,hl,he=>by
  have h1:=sr hl (he t (aq ..));have h2:=pG (ts:=ts) (hs:=kY hs t) (by rw[kZ];exact hl) λu hu=>he u (ai _ hu);exact h2.trans h1
theorem uQ {m:Int}:∀{ts:List eE} {hs:Hs},(hs.length:Int)=m->k8 m ts->∀t∈ts,∀u v c,(u=t.1/\v=t.2.1\/u=t.2.1/\v=t.1)->mn hs u=some c->∃c',mn (so ts hs) v=some c'/\c'<=c+t.2.2
 | [],_,_,_,t,ht,_,_,_,_,_=>by cases ht
 | s::ts,hs,hl,he,t,ht,u,v,c,NV,hc=>by
  have ly:=he s (aq ..);have sQ:((kY hs s).length:Int)=m:=by rw[kZ];exact hl
  have OI:k8 m ts:=λu hu=>he u (ai _ hu);have hb:=pG (ts:=ts) sQ OI;rcases ax.mp ht with rfl | ht
  .have Hf:((mq hs t.1 t.2.1 t.2.2).length:Int)=m:=by rw[kG];exact hl
   obtain⟨c1,h1,h2⟩:∃c1,mn (kY hs t) v=some c1/\c1<=c+t.2.2:=by
    rcases NV with⟨rfl,rfl⟩ | ⟨rfl,rfl⟩
    .obtain⟨c1,h1,h2⟩:=uP hl (one:=t.1) (other:=t.2.1) (p:=t.2.2) ly.2.2.1 ly.2.2.2 hc
     obtain⟨c2,h3,h4⟩:=mL Hf (one:=t.2.1) (other:=t.1) (p:=t.2.2) ly.1 ly.2.1 _ _ ly.2.2.1 ly.2.2.2 h1;exact⟨c2,h3,!1⟩
    .obtain⟨c1,h1,h2⟩:=mL hl (one:=t.1) (other:=t.2.1) (p:=t.2.2) ly.2.2.1 ly.2.2.2 _ _ ly.2.2.1 ly.2.2.2 hc
     obtain⟨c2,h3,h4⟩:=uP Hf (one:=t.2.1) (other:=t.1) (p:=t.2.2) ly.1 ly.2.1 h1;exact⟨c2,h3,!1⟩
   have hv:0<=v/\v<m:=by rcases NV with⟨_,rfl⟩ | ⟨_,rfl⟩<;>omega
   obtain⟨c3,h5,h6⟩:=hb v c1 hv.1 hv.2 h1;exact⟨c3,h5,!1⟩
  .have hu:0<=u/\u<m:=by have:=OI t ht;rcases NV with⟨rfl,_⟩ | ⟨rfl,_⟩<;>omega
   obtain⟨c1,h1,h2⟩:=sr hl ly u c hu.1 hu.2 hc;obtain⟨c2,h3,h4⟩:=uQ (ts:=ts) sQ OI t ht u v c1 NV h1;exact⟨c2,h3,!1⟩
inductive Wk (ts:List eE) (s:Int):Int->List Int->Int->Prop
 | nil:Wk ts s s [] 0
 | step {u:Int} {vs:List Int} {c:Int} (w:Wk ts s u vs c) (t:eE) (ht:t∈ts) (v:Int) (h:u=t.1/\v=t.2.1\/u=t.2.1/\v=t.1):Wk ts s v (u::vs) (c+t.2.2)
noncomputable abbrev Plain (ts:List eE):Prop:=∀t∈ts,0<=t.2.2
theorem Wk.ahead {ts:List eE}{s:Int}(hp:Plain ts):∀{u:Int} {vs:List Int} {c:Int},Wk ts s u vs c->∀x∈u::vs,∃Du c2,Wk ts s x Du c2/\(x::Du) <:+ (u::vs)/\c2<=c
 | _,_,_,.nil,x,hx=>by
  rw[au.mp hx];exact⟨[],0,.nil,List.suffix_refl _,bF _⟩
 | _,_,_,.step (u:=u) (vs:=vs) (c:=c) w t ht v h,x,hx=>by
  rcases ax.mp hx with rfl | hx
  .exact⟨_,_,.step w t ht x h,List.suffix_refl _,bF _⟩
  .obtain⟨Du,c2,w2,hs,hc⟩:=Wk.ahead hp w x hx
   have:=hp t ht;exact⟨Du,c2,w2,hs.trans (List.suffix_cons v _),!1⟩
theorem Wk.short {ts:List eE}{s:Int}(hp:Plain ts):∀{u:Int} {vs:List Int} {c:Int},Wk ts s u vs c->∃Du c2,Wk ts s u Du c2/\(u::Du).Nodup/\c2<=c
 | _,_,_,.nil=>⟨[],0,.nil,!4,bF _⟩
 | _,_,_,.step (u:=u) (vs:=vs) (c:=c) w t ht v h=>by
  obtain⟨Du,c2,w2,hn,hc⟩:=Wk.short hp w;have h0:=hp t ht;by_cases hv:v∈u::Du
  .obtain⟨XW,c3,w3,hs,Y9⟩:=Wk.ahead hp w2 v hv
   exact⟨XW,c3,w3,hn.sublist hs.sublist,!1⟩
  .exact⟨u::Du,c2+t.2.2,.step w2 t ht v h,bf.mpr ⟨hv,hn⟩,!1⟩
theorem Wk.inR {m:Int}{ts:List eE}{s:Int}(he:k8 m ts)(s0:0<=s)(s1:s<m):∀{u:Int} {vs:List Int} {c:Int},Wk ts s u vs c->∀x∈u::vs,0<=x/\x<m
 | _,_,_,.nil,x,hx=>by rw[au.mp hx];exact⟨s0,s1⟩
 | _,_,_,.step w t ht v h,x,hx=>by
  rcases ax.mp hx with rfl | hx
  .have:=he t ht
   rcases h with⟨_,rfl⟩ | ⟨_,rfl⟩<;>omega
  .exact Wk.inR he s0 s1 w x hx
noncomputable def Lx (m:Int)(ts:List eE)(s:Int)(hs:Hs):Prop:=∀v c,0<=v->v<m->mn hs v=some c->∃vs,Wk ts s v vs c
theorem uR {m:Int}{ts:List eE}{s:Int}{hs:Hs}(hl:(hs.length:Int)=m)(h:Lx m ts s hs){t:eE}(ht:t∈ts){one other:Int}(e:one=t.1/\other=t.2.1\/one=t.2.1/\other=t.1)(o0:0<=other)(o1:other<m)(u0:0<=one)(u1:one<m):Lx m ts s (mq hs one other t.2.2):=by
 intro v c v0 v1 hc;unfold mq at hc;split at hc
 .exact h v c v0 v1 hc
 .rename_i d hd
  obtain⟨vs,w⟩:=h one d u0 u1 hd;have hw:Wk ts s other (one::vs) (d+t.2.2):=.step w t ht other e;split at hc
  .rw[jY v0 o0 (!1)] at hc
   by_cases ev:v=other
   .rw[if_pos ev] at hc
    cases hc;rw[ev];exact⟨_,hw⟩
   .rw[if_neg ev] at hc;exact h v c v0 v1 hc
  .split at hc
   .rw[jY v0 o0 (!1)] at hc
    by_cases ev:v=other
    .rw[if_pos ev] at hc
     cases hc;rw[ev];exact⟨_,hw⟩
    .rw[if_neg ev] at hc;exact h v c v0 v1 hc
   .exact h v c v0 v1 hc
theorem uT {m:Int}{Vd:List eE}{s:Int}:∀{ts:List eE} {hs:Hs},(hs.length:Int)=m->k8 m ts->(∀t∈ts,t∈Vd)->Lx m Vd s hs->Lx m Vd s (so ts hs)
 | [],_,_,_,_,h=>h
 | t::ts,hs,hl,he,hi,h=>by
  have ht:=he t (aq ..);have hm:=hi t (aq ..);have h1:=uR hl h hm (.inl ⟨rfl,rfl⟩) ht.2.2.1 ht.2.2.2 ht.1 ht.2.1;have h2:=uR (by rw[kG];exact hl) h1 hm (.inr ⟨rfl,rfl⟩) ht.1 ht.2.1 ht.2.2.1 ht.2.2.2;exact uT (ts:=ts) (hs:=kY hs t) (by rw[kZ];exact hl) (λu hu=>he u (ai _ hu)) (λu hu=>hi u (ai _ hu)) h2
theorem su {m:Int}{ts:List eE}{s:Int}(he:k8 m ts):∀(j:Nat) {hs:Hs},(hs.length:Int)=m->Lx m ts s hs->Lx m ts s (jC ts j hs)
 | 0,_,_,h=>h
 | j+1,hs,hl,h=>su he j (by rw[pF];exact hl) (uT hl he (λ_ h=>h) h)
theorem sv {m:Int}{ts:List eE}(he:k8 m ts):∀(j:Nat) {hs:Hs},(hs.length:Int)=m->DV m (jC ts j hs) hs
 | 0,hs,_=>DV.refl m hs
 | j+1,hs,hl=>(sv he j (by rw[pF];exact hl)).trans (pG hl he)
theorem pV (ts:List eE):∀(j:Nat) (hs:Hs),jC ts (j+1) hs=so ts (jC ts j hs)
 | 0,_=>rfl
 | j+1,hs=>by rw[jC,pV ts j,jC]
theorem sx {m:Int}{ts:List eE}{s:Int}(he:k8 m ts){hs:Hs}(hl:(hs.length:Int)=m)(s0:0<=s)(s1:s<m)(h0:mn hs s=some 0):∀{u:Int} {vs:List Int} {c:Int},Wk ts s u vs c->∀j,vs.length<=j->∃c',mn (jC ts j hs) u=some c'/\c'<=c
 | _,_,_,.nil,j,_=>sv he j hl s 0 s0 s1 h0
 | _,_,_,.step w t ht v h,0,hj=>by simp at hj
 | _,_,_,.step w t ht v h,j+1,hj=>by
  rw[av] at hj;obtain⟨c1,h1,h2⟩:=sx he hl s0 s1 h0 w j (!1);rw[pV];obtain⟨c2,h3,h4⟩:=uQ (by rw[nR];exact hl) he t ht _ v c1 h h1;exact⟨c2,h3,!1⟩
theorem NW {many:Nat}{s:Int}(s0:0<=s)(s1:s<many):mn (yI many s) s=some 0:=by
 unfold yI;rw[jY s0 s0 (by simpa using s1),if_pos rfl]
theorem JU {many:Nat}{ts:List eE}{s:Int}(s0:0<=s)(s1:s<many):Lx many ts s (yI many s):=λv c v0 v1 h=>by
 unfold yI at h;rw[jY v0 s0 (by simpa using s1)] at h;by_cases e:v=s
 .rw[if_pos e] at h
  cases h;rw[e];exact⟨[],.nil⟩
 .rw[if_neg e] at h
  unfold mn at h;rw[am,cf] at h;split at h<;>cases h
structure oT (many:Nat) (ts:List eE) (s:Int) (hs:Hs):Prop where
 len:hs.length=many
 XX:mn hs s=some 0
 fit:∀t∈ts,∀u v c,(u=t.1/\v=t.2.1\/u=t.2.1/\v=t.1)->mn hs u=some c->∃c',mn hs v=some c'/\c'<=c+t.2.2
 way:∀(v c:Int),0<=v->v<(many:Int)->mn hs v=some c->∃vs,Wk ts s v vs c/\(v::vs).Nodup
theorem AK {many:Nat}{ts:List eE}{s:Int}(he:k8 many ts)(hp:Plain ts)(s0:0<=s)(s1:s<many):oT many ts s (gr many ts s):=by
 have hl:((yI many s).length:Int)=many:=by unfold yI;simp
 have hw:∀{u:Int} {vs:List Int} {c:Int},Wk ts s u vs c->∃c',mn (gr many ts s) u=some c'/\c'<=c:=λw=>by
  obtain⟨Du,c2,w2,hn,hc⟩:=w.short hp;have hr:=w2.inR he s0 s1;have hlen:=gk hn (ns:=fS 0 many) λx hx=>fM.mpr (by have:=hr x hx;omega);rw[av,fN] at hlen;obtain⟨c',h1,h2⟩:=sx he hl s0 s1 (NW s0 s1) w2 many (!1);exact⟨c',h1,!1⟩
 have NY:Lx many ts s (gr many ts s):=su he many hl (JU s0 s1)
 have Ve:∀{u:Int} {vs:List Int} {c:Int},Wk ts s u vs c->0<=c:=λw=>by
  induction w with
  | nil=>exact bF _
  | step w t ht v h ih=>have:=hp t ht;omega
 refine⟨?_,?_,λt ht u v c NV hc=>?_,λv c v0 v1 hc=>?_⟩
 .unfold gr
  rw[nR];unfold yI;simp
 .obtain⟨c,h1,h2⟩:=hw (.nil (ts:=ts) (s:=s))
  obtain⟨vs,w⟩:=NY s c s0 s1 h1;have:=Ve w;rw[h1];congr 1;omega
 .have hu:0<=u/\u<many:=by have:=he t ht;rcases NV with⟨rfl,_⟩ | ⟨rfl,_⟩<;>omega
  obtain⟨vs,w⟩:=NY u c hu.1 hu.2 hc;exact hw (.step w t ht v NV)
 .obtain⟨vs,w⟩:=NY v c v0 v1 hc
  obtain⟨Du,c2,w2,hn,DM⟩:=w.short hp;obtain⟨c',h1,h2⟩:=hw w2;rw[hc] at h1;cases h1;have e:c2=c:=by omega
  exact⟨Du,e ▸ w2,hn⟩
noncomputable abbrev NZ (many:Int)(ts:List eE):Prop:=∀t∈ts,0<=t.1/\t.1<many/\0<=t.2.1/\t.2.1<many
noncomputable def Dv (ts:List eE)(k:Int):eE:=ts.getD k.toNat (0,0,0)
theorem Wk.set {ts:List eE}{s:Int}:∀{u:Int} {vs:List Int} {c:Int},Wk ts s u vs c->(u::vs).Nodup ->
  ∃ks:List Int,fQ ts ks/\ks.Nodup/\(∀x:Int,(d5 ts ks).count x % 2=([s].count x + [u].count x) % 2)/\(ks.map λk=>(Dv ts k).2.2).sum=c/\∀k∈ks,(Dv ts k).1∈u::vs/\(Dv ts k).2.1∈u::vs
 | _,_,_,.nil,_=>⟨[],(λk hk=>by cases hk),cL,λx=>by rw[show d5 ts []=[] from rfl,List.count_nil];omega,rfl,λk hk=>by cases hk⟩
 | _,_,_,.step (u:=u) (vs:=vs) (c:=c) w t ht v h,hn=>by
  obtain⟨n1,n2⟩:=bf.mp hn;obtain⟨ks,h1,h2,h3,h4,h5⟩:=Wk.set w n2;obtain⟨i,hi,e⟩:=cb ht;have ek:Dv ts (i:Int)=t:=by unfold Dv;rw[bQ,am,aK hi,<- e];rfl
  have hv:v=t.1\/v=t.2.1:=by rcases h with⟨_,e⟩ | ⟨_,e⟩<;>simp[e]
  have Ek:(i:Int) ∉ ks:=λz=>by
   have:=h5 _ z;rw[ek] at this;rcases hv with e | e
   .exact n1 (e ▸ this.1)
   .exact n1 (e ▸ this.2)
  have SH:jz ts (i:Int)=[t.1,t.2.1]:=by
   have:=ek;unfold Dv at this;unfold jz;rw[this]
  refine⟨(i:Int)::ks,λk hk=>?_,bf.mpr ⟨Ek,h2⟩,λx=>?_,?_,λk hk=>?_⟩
  .rcases ax.mp hk with rfl | hk
   .omega
   .exact h1 k hk
  .rw[jA,SH,bR]
   have:=h3 x
   have e2:[t.1,t.2.1].count x=[u].count x + [v].count x:=by
    rcases h with⟨rfl,rfl⟩ | ⟨rfl,rfl⟩
    .rw[List.count_cons,cr,cr];omega
    .rw[List.count_cons,cr,cr]
   rw[e2];omega
  .rw[ar,dj,h4,ek]
   omega
  .rcases ax.mp hk with rfl | hk
   .rw[ek]
    rcases h with⟨e1,e2⟩ | ⟨e1,e2⟩
    .rw[<- e1,<- e2];simp
    .rw[<- e1,<- e2];simp
   .have:=h5 k hk
    exact⟨ai _ this.1,ai _ this.2⟩
theorem oT.set {many:Nat}{ts:List eE}{s:Int}{hs:Hs}(h:oT many ts s hs){v c:Int}(v0:0<=v)(v1:v<(many:Int))(hc:mn hs v=some c) :
  ∃ks:List Int,fQ ts ks/\ks.Pairwise (· < ·)/\eA (d5 ts ks)=eA ([s]++[v])/\eC ts ks=c:=by
 obtain⟨vs,w,hn⟩:=h.way v c v0 v1 hc;obtain⟨ks,h1,h2,h3,h4,_⟩:=w.set hn;have hp:=sortI_perm ks;refine⟨sortI ks,λk hk=>h1 k (hp.mem_iff.mp hk),jI (gm _) (hp.nodup_iff.mpr h2),?_,?_⟩
 .refine rD (mD _) (mD _) λx=>?_
  have Y':=(jB (ts:=ts) hp).count_eq x;have Za:=h3 x;rw[eA,eA,kQ,kQ,aN,aN,bR];constructor
  .rintro⟨_,hx⟩
   have hx:=of_decide_eq_true hx;have N0:([s].count x + [v].count x) % 2=1:=by omega
   refine⟨?_,decide_eq_true N0⟩;have:0<([s]++[v]).count x:=by rw[bR];omega
   exact ce.mp this
  .rintro⟨_,hx⟩
   have hx:=of_decide_eq_true hx;have N0:(d5 ts (sortI ks)).count x % 2=1:=by omega
   exact⟨ce.mp (!1),decide_eq_true N0⟩
 .rw[iF hp]
  exact h4
noncomputable def we (x:Option Int):ag:=match x with | none=>.none | some c=>.int c
theorem JV {hs:Hs}{v:Int}(v0:0<=v)(v1:v<(hs.length:Int)):oY (hs.map we) v=some (we (mn hs v)):=by
 rw[nC v0 (by rw[ao];exact v1),aB];have hl:v.toNat<hs.length:=by omega
 unfold mn;rw[am,aK hl];rfl
section
variable {n:Int}{X:XQ}{Q:ag->Int->Prop}
noncomputable def Dw (hs:Hs):ag:=.tuple (hs.map we)
end
noncomputable abbrev Dx (ts:List eE):Prop:=∀t∈ts,t.2.2.natAbs<=99
theorem B8 (row:List Int):(jO row).length<=row.length:=gk (jP row) λk hk=>jg.mp hk
theorem mw {α:Type}(I:eU->Prop)(g f:α->ag)(p:α->Bool){ug:UG}{uc:UT}{ue:UX}{Q:List ag->Int->Prop}{n:Int}:∀(xs:List α) (acc:List ag) (env:eU),(∀k∈xs,∀env,I env->∃eh,I eh/\(∀K,ug (g k) env K=K eh)/\(∀n Q,uc eh n Q=Q (p k) n)/\(∀n Q,ue eh n Q=Q (f k) n))->I env ->
  gA ug uc ue Q (xs.map g) acc env n=Q (acc++(xs.filter p).map f) n
 | [],acc,env,_,_=>by simp[gA]
 | a::xs,acc,env,h,hi=>by
  obtain⟨eh,Bm,h1,h2,h3⟩:=h a (aq ..) env hi;have ih:=λacc=>mw I g f p (ug:=ug) (uc:=uc) (ue:=ue) (Q:=Q) (n:=n) xs acc eh (λk hk=>h k (ai _ hk)) Bm;rw[ar,gA,h1,h2]
  cases hp:p a with
  | true =>
   rw[if_pos rfl,h3,ih,dD hp,ar,aJ];rfl
  | false=>rw[if_neg (!2),ih,dE (by simp[hp])]
noncomputable def GF (m:Nat)(p:Int->Bool):List Int:=(fS 0 m).filter p
theorem N1 {m:Nat}{p:Int->Bool}{k:Int}(h:k∈GF m p):0<=k/\k<(m:Int):=by have:=fM.mp (aN.mp h).1;omega
theorem yJ {α:Type}(f:α->ag)(d:α)(xs:List α):i8 (xs.map f)=(fS 0 xs.length).map λk=>.tuple [.int k,f (xs.getD k.toNat d)]:=by
 refine List.ext_getElem? λi=>?_;unfold i8 fS;rw[aB,List.getElem?_zipIdx,aB,aB,aB];by_cases hi:i<xs.length
 .rw[aK hi,aK (by simpa using hi)]
  simp[am,hi]
 .rw[bL (!1),bL (by simp;omega)]
  rfl
noncomputable def gu (ts:List eE)(k:Int):eE:=ts.getD k.toNat (0,0,0)
theorem sy (ns:List Int):iL (dW ns)=true:=by
 have:∀ns:List Int,gP (ns.map .int)=true:=by
  intro ns
  induction ns with
  | nil=>rfl
  | cons a ns ih=>simpa [gP,iL] using ih
 exact this _
theorem mx {ts:List eE}{k:Int}{t:eE}(h:ts[k.toNat]? = some t):jz ts k=[t.1,t.2.1]:=by
 unfold jz;rw[am,h];rfl
theorem Mp (t:eE):Qw (fk t) none (some 2)=some (.tuple [.int t.1,.int t.2.1]):=by
 simp only[fk,Qw,BF _ 2 (!2)];rfl
section
variable {n:Int}{X:XQ}{Q:ag->Int->Prop}
theorem AL {row:List Int}(h1:(jO row).length<=60)(h2:row.length<=100000):fT [.tuple (row.map .int)] n Q X=Q (dW (eA row)) n:=by
 simp only[fT,g7,dN,h1,h2,true_and,dW,and_self]
theorem my {a b:List Int}(h:a.length+b.length<=60):g8 [dW a,dW b] n Q X=Q (dW (eA (a++b))) n:=by
 have e:ie (.tuple (a.map .int)) (.tuple (b.map .int))=some (.tuple ((a++b).map .int)):=by rw[zZ (by rw[ao,ao];omega),aO]
 have hl:(a++b).length<=60:=by rw[aH];exact h
 simp! [g8,nK];rw[dW,dW];simp! [e,AL (bq (B8 (a++b)) hl) (!1)]
theorem AM {row:List Int}(h1:(jO row).length<=60)(h2:row.length<=100000):fT [.list (row.map .int)] n Q X=Q (dW (eA row)) n:=by
 simp only[fT,g7,dN,h1,h2,true_and,dW,and_self]
theorem AO {many:Int}{ts:List eE}{ks:List Int}(hk:fQ ts ks)(hl:2 * ks.length<=60):mH [fy many ts,dW ks] n Q X=Q (dW (eA (d5 ts ks))) n:=by
 simp! [mH,pk,dW];have hsz:az=16777216:=by decide
 have key:∀(us ps:List Int) (x1 x3:Option Ent),fQ ts us->ps.length+2 * us.length<=60->lq (iT 3) (lS 2 jN (dM (E9 (eF gJ (eF gJ (dJ 0) (uC (.int 1))) (dJ 3)) E7 (E8 (uC (.int 2)))) dR))
   { nx:=g6 (nA fT (dM (dJ 2) dR)) { nx:=λx n'=>Q ag.none n',rt:=Q },rt:=Q } (us.map .int) [some (.s (fy many ts)),x1,some (.o (ps.map .int)),x3] n=Q (dW (eA (ps++d5 ts us))) n:=by
  intro us
  induction us with
  | nil =>
   intro ps x1 x3 _ hl;have XY:ps.length<=60:=by simp at hl;omega
   simp! [lq,bH,AM (bq (B8 ps) XY) (by omega:ps.length<=100000),sy];simp[d5]
  | cons k us ih =>
   intro ps x1 x3 hu hl;rw[av] at hl;obtain⟨t,ht,_,ha⟩:=oR (hu k (aq ..)).1 (hu k (aq ..)).2
   have ex:jN (ps.map .int) [.tuple [.int t.1,.int t.2.1]]=some ((ps++jz ts k).map .int):=by
    simp only[jN];rw[if_pos (by rw[ao,hsz];simp;omega),mx ht,aO];rfl
   have:=ih (ps++jz ts k) x1 (some (.s (.int k))) (λj hj=>hu j (ai _ hj)) (by rw[aH,mx ht];simp;omega);rw[fy] at this ⊢;simp! [lq,fm,ha,Mp,ex];rw[this,aJ,<- jA]
 exact key ks [] _ _ hk (by simp only[bz];omega)
end
theorem k9 {α:Type}(l:List α):l.filter (λ_=>true)=l:=by simp
theorem JW {ts:List eE}{k:Int}(h:0<=k/\k<(ts.length:Int)):oY (ts.map fk) k=some (fk (ts.getD k.toNat (0,0,0))):=by
 obtain⟨t,h1,_,h2⟩:=oR h.1 h.2;rw[h2,am,h1];rfl
theorem GG {ts:List eE}(hp:Dx ts){k:Int}(h:0<=k/\k<(ts.length:Int)):(jG ts k).natAbs<=99:=by
 obtain⟨t,h1,h3,_⟩:=oR h.1 h.2;unfold jG;rw[am,h1];exact hp t h3
theorem Dy {ts:List eE}{ks:List Int}(hp:Dx ts)(hk:fQ ts ks):xU [.list ((ks.map (jG ts)).map .int)]=some (.int (eC ts ks)):=by
 simp only[xU,zW,g7,Option.bind_some]
 rw[if_pos λn hn=>by
  obtain⟨k,Bv,rfl⟩:=aM.mp hn;have:=GG hp (hk k Bv);omega]
 rfl
theorem JX {ts:List eE}{a b:List Int}(ha:fQ ts a)(hb:fQ ts b):fQ ts (eA (a++b)):=λk hk=>by
 have:k∈a++b:=ce.mp (by have:=e8.mp hk;omega);exact (aL.mp this).elim (ha k) (hb k)
theorem AQ {a b:List Int}(ha:a.Pairwise (· < ·))(hb:b.Pairwise (·<=·))(h:b.Perm a):b=a:=nB h hb (ha.imp λh=>by omega)
section
variable {n:Int}{X:XQ}{Q:ag->Int->Prop}
theorem yL {many:Int}{ts:List eE}{ks:List Int}(hp:Dx ts)(hk:fQ ts ks):kS [fy many ts,dW ks] n Q X=Q (.int (eC ts ks)) n:=by
 rw[dW];simp! [kS,nL]
 rw[mE (λk=>.int (jG ts k)) (λ_=>true) _ _ _ _ (λk Bv n Q=>by
  rw[fy];simp! [fm,JW (hk k Bv),fk,fW,jG]) (λk _ n Q=>by simp! [d3])]
 have e:([]++(ks.filter λ_=>true).map λk=>ag.int (jG ts k))=(ks.map (jG ts)).map .int:=by rw[k9,bg,bp];rfl
 rw[e];simp! [Dy hp hk]
end
inductive wI (ts:List eE) (s:Int):Int->List Int->List Int->Int->Prop
 | nil:wI ts s s [] [s] 0
 | step {u:Int} {es ps:List Int} {c:Int} (w:wI ts s u es ps c) (k:Int) (t:eE) (v:Int) (k0:0<=k) (ht:ts[k.toNat]? = some t) (h:u=t.1/\v=t.2.1\/u=t.2.1/\v=t.1) (hv:v ∉ ps):wI ts s v (k::es) (v::ps) (c+t.2.2)
section
variable {ts:List eE}{s v:Int}{es ps:List Int}{c:Int}
theorem wI.last (h:wI ts s v es ps c):v∈ps:=by cases h<;>simp
theorem wI.wk (h:wI ts s v es ps c):∃vs,Wk ts s v vs c:=by
 induction h with
 | nil=>exact⟨[],.nil⟩
 | step w k t v k0 ht h hv ih =>
  obtain⟨vs,ih⟩:=ih;exact⟨_,ih.step t (cg ht) v h⟩
theorem wI.ends (h:wI ts s v es ps c):∀k∈es,0<=k/\∃t,ts[k.toNat]? = some t/\t.1∈ps/\t.2.1∈ps:=by
 induction h with
 | nil=>intro k hk;cases hk
 | @step u es ps c w k t v k0 ht h hv ih =>
  intro j hj;rcases ax.mp hj with rfl | hj
  .refine⟨k0,t,ht,?_⟩
   have:=w.last;rcases h with⟨rfl,rfl⟩ | ⟨rfl,rfl⟩
   .exact⟨ai _ this,aq ..⟩
   .exact⟨aq ..,ai _ this⟩
  .obtain⟨h0,t',h1,h2,h3⟩:=ih j hj
   exact⟨h0,t',h1,ai _ h2,ai _ h3⟩
theorem wI.num (h:wI ts s v es ps c):fQ ts es:=λk hk=>by
 obtain⟨h0,t,ht,_⟩:=h.ends k hk;have:=(aA.mp ht).1;exact⟨h0,!1⟩
theorem wI.RD (h:wI ts s v es ps c):es.Nodup:=by
 induction h with
 | nil=>exact cL
 | @step u es ps c w k t v k0 ht h hv ih =>
  refine bf.mpr ⟨λz=>?_,ih⟩;obtain⟨_,t',Wq,h1,h2⟩:=w.ends k z;rw[ht] at Wq;cases Wq;rcases h with⟨_,rfl⟩ | ⟨_,rfl⟩
  .exact hv h2
  .exact hv h1
theorem Wk.low (hp:Plain ts){u:Int}{vs:List Int}(h:Wk ts s u vs c):0<=c:=by
 induction h with
 | nil=>exact bF 0
 | step w t ht v h ih=>have:=hp t ht;omega
theorem Wk.Ly {K:List Int}(hp:Plain ts)(hs:s∈K){u:Int}{vs:List Int}(h:Wk ts s u vs c)(hu:u ∉ K):∃x y t Qb c0,x∈K/\y ∉ K/\t∈ts/\(x=t.1/\y=t.2.1\/x=t.2.1/\y=t.1)/\Wk ts s x Qb c0/\c0+t.2.2<=c:=by
 induction h with
 | nil=>exact absurd hs hu
 | @step u vs c w t ht v h ih =>
  by_cases hk:u∈K
  .exact⟨u,v,t,vs,c,hk,hu,ht,h,w,bF _⟩
  .obtain⟨x,y,t',Qb,c0,h1,h2,h3,h4,h5,h6⟩:=ih hk
   have:=hp t ht;exact⟨x,y,t',Qb,c0,h1,h2,h3,h4,h5,!1⟩
theorem oT.low {many:Nat}{hs:Hs}(hg:oT many ts s hs){u:Int}{vs:List Int}(h:Wk ts s u vs c):∃c',mn hs u=some c'/\c'<=c:=by
 induction h with
 | nil=>exact⟨0,hg.XX,bF _⟩
 | step w t ht v h ih =>
  obtain⟨c1,h1,h2⟩:=ih;obtain⟨c2,h3,h4⟩:=hg.fit t ht _ v c1 h h1;exact⟨c2,h3,!1⟩
end
structure uU (ts:List eE) (s:Int) (K:List Int) (kvs:fI):Prop where
 keys:ja kvs=K.map λv=>[v]
 nd:K.Nodup
 st:s∈K
 val:∀v∈K,∃es ps c,wI ts s v es ps c/\(∀x∈ps,x∈K)/\eO kvs [v]=some (.tuple [.int c,dW (sortI es)])/\∀vs c',Wk ts s v vs c'->c<=c'
theorem sC {kvs:fI}{k:List Int}:(eO kvs k).isSome=true↔k∈ja kvs:=by
 rw[<- sk,cD,ja,aM];constructor
 .rintro⟨p,hp,h⟩;exact⟨p,hp,of_decide_eq_true h⟩
 .rintro⟨p,hp,h⟩;exact⟨p,hp,decide_eq_true h⟩
section
variable {ts:List eE}{s:Int}{K:List Int}{kvs:fI}
theorem uU.has (h:uU ts s K kvs)(v:Int):(eO kvs [v]).isSome=decide (v∈K):=by
 rw[dm,sC,h.keys,decide_eq_true_eq,aM];constructor
 .rintro⟨x,hx,e⟩
  have:x=v:=by simpa using e
  rwa [<- this]
 .intro hv;exact⟨v,hv,rfl⟩
theorem uU.none (h:uU ts s K kvs){v:Int}(hv:v ∉ K):eO kvs [v]=none:=by
 have:=h.has v;rw[decide_eq_false hv] at this;exact Option.not_isSome_iff_eq_none.mp (by simp[this])
theorem uU.len (h:uU ts s K kvs):kvs.length=K.length:=by
 have:=congrArg List.length h.keys;rw[ja,ao,ao] at this;exact this
theorem uU.one (hp:Plain ts)(s:Int):uU ts s [s] [([s],.tuple [.int 0,.tuple []])]:=by
 refine⟨rfl,!4,!4,λv hv=>?_⟩;rw[au.mp hv];refine⟨[],[s],0,.nil,!4,?_,λvs c' w=>w.low hp⟩;rw[iE,if_pos rfl];rfl
theorem uU.add (h:uU ts s K kvs){v d:Int}{es ps:List Int}(hp:wI ts s v es ps d)(hv:v ∉ K)(Q5:∀x∈ps,x=v\/x∈K)(hl:∀vs c',Wk ts s v vs c'->d<=c'):uU ts s (K++[v]) (gQ kvs [v] (.tuple [.int d,dW (sortI es)])):=by
 have hk:[v] ∉ ja kvs:=λz=>by
  have:=sC.mpr z;rw[h.has,decide_eq_true_eq] at this;exact hv this
 refine⟨?_,cz.mpr ⟨h.nd,!4,λa ha b hb=>by rw[au.mp hb];exact λz=>hv (z ▸ ha)⟩,bI _ h.st,λx hx=>?_⟩
 .rw[yH,if_neg hk,h.keys,aO]
  rfl
 .rcases aL.mp hx with hx | hx
  .obtain⟨tE,XZ,c,h1,h2,h3,h4⟩:=h.val x hx
   refine⟨tE,XZ,c,h1,λy hy=>bI _ (h2 y hy),?_,h4⟩;rw[mm,if_neg (λz=>by injection z with z;exact hv (z ▸ hx))];exact h3
  .rw[au.mp hx]
   refine⟨es,ps,d,hp,λy hy=>?_,by rw[mm,if_pos rfl],hl⟩;rcases Q5 y hy with rfl | hy
   .simp
   .exact bI _ hy
theorem uU.Oa (h:uU ts s K kvs)(hp:Plain ts)(hc:∀t∈ts,(t.1∈K↔t.2.1∈K)){many:Nat}{hs:Hs}(hg:oT many ts s hs){v:Int}(v0:0<=v)(v1:v<(many:Int)) :
  match mn hs v with | .none=>eO kvs [v]=.none | .some c=>∃es ps,wI ts s v es ps c/\eO kvs [v]=some (.tuple [.int c,dW (sortI es)]):=by
 by_cases hv:v∈K
 .obtain⟨es,ps,c,h1,_,h3,h4⟩:=h.val v hv
  obtain⟨vs,w⟩:=h1.wk;obtain⟨c',e,h5⟩:=hg.low w;obtain⟨SI,w',_⟩:=hg.way v c' v0 v1 e;have:=h4 _ _ w';have ec:c'=c:=by omega
  rw[e];exact⟨es,ps,ec ▸ h1,ec ▸ h3⟩
 .cases e:mn hs v with
  | none=>exact h.none hv
  | some c =>
   exfalso;obtain⟨vs,w,_⟩:=hg.way v c v0 v1 e;obtain⟨x,y,t,_,_,h1,h2,h3,h4,_⟩:=w.Ly hp h.st hv;rcases h4 with⟨rfl,rfl⟩ | ⟨rfl,rfl⟩
   .exact h2 ((hc t h3).mp h1)
   .exact h2 ((hc t h3).mpr h1)
end
noncomputable abbrev AR:=Int × Int × List Int
noncomputable def g9 (e:AR):ag:=.tuple [.int e.1,.int e.2.1,dW (sortI e.2.2)]
theorem sD (g:Bool):∀a b:List Int,(hZ g (a.map .int) (b.map .int)).isSome=true
 | [],[]=>by simp[hZ]
 | [],_::_=>by simp[hZ]
 | _::_,[]=>by simp[hZ]
 | x::a,y::b=>by
  rw[ar,ar,hZ];split
  .exact sD g a b
  .rfl
theorem B9 (x b:AR):∃r,gI false (g9 x) (g9 b)=some r/\(r=true->x.1<=b.1)/\(r=false->b.1<=x.1):=by
 have e0:∀i j:Int,ag.eqv (.int i) (.int j)=decide (i=j):=λi j=>by simp only[ag.eqv];rfl
 rw[g9,g9,gI,hZ,e0];by_cases h:x.1=b.1
 .rw[if_pos (decide_eq_true h)]
  have hs:(hZ false [.int x.2.1,dW (sortI x.2.2)] [.int b.2.1,dW (sortI b.2.2)]).isSome=true:=by
   rw[hZ];split
   .rw[hZ]
    split
    .rfl
    .exact sD false _ _
   .rfl
  obtain⟨r,hr⟩:=bX.mp hs;exact⟨r,hr,λ_=>by omega,λ_=>by omega⟩
 .rw[if_neg (by simpa using h),gI]
  exact⟨_,rfl,λz=>by have:=of_decide_eq_true z;omega,λz=>by have:=of_decide_eq_false z;omega⟩
theorem sE:∀(l:List AR) (a:AR),∃e∈a::l,iN false (g9 a) (l.map g9)=g9 e/\∀x∈a::l,e.1<=x.1
 | [],a=>⟨a,!4,rfl,λx hx=>by rw[au.mp hx];omega⟩
 | b::l,a=>by
  obtain⟨r,hr,h1,h2⟩:=B9 b a;rw[ar,iN,hr,bZ]
  cases r with
  | true =>
   rw[if_pos rfl];obtain⟨e,he,h3,h4⟩:=sE l b;refine⟨e,ai _ he,h3,λx hx=>?_⟩;rcases ax.mp hx with rfl | hx
   .have:=h4 b (aq ..)
    have:=h1 rfl;omega
   .exact h4 x hx
  | false =>
   rw[if_neg (!2)];obtain⟨e,he,h3,h4⟩:=sE l a;refine⟨e,?_,h3,λx hx=>?_⟩
   .rcases ax.mp he with rfl | he
    .simp
    .exact ai _ (ai _ he)
   .rcases ax.mp hx with rfl | hx
    .exact h4 x (aq ..)
    .rcases ax.mp hx with rfl | hx
     .have:=h4 a (aq ..)
      have:=h2 rfl;omega
     .exact h4 x (ai _ hx)
theorem yM:∀ns:List Int,ag.canLayAll0 (ns.map .int)=true
 | []=>rfl
 | a::ns=>by simpa [ag.canLayAll0,ag.canLay0] using yM ns
theorem yN:∀ns:List Int,ag.depthAll (ns.map .int)=0
 | []=>rfl
 | a::ns=>by simp[ag.depthAll,ag.depth,yN ns]
theorem GH (l:List AR):vM false (l.map g9):=λx hx=>by
 obtain⟨e,_,rfl⟩:=aM.mp hx;refine⟨⟨?_,?_⟩,λy hy=>?_⟩
 .simp only[g9,dW,ag.canLay0,ag.canLayAll0,yM,Bool.and_self]
 .simp only[g9,dW,ag.depth,ag.depthAll,yN]
  omega
 .obtain⟨f,_,rfl⟩:=aM.mp hy
  obtain⟨r,hr,_⟩:=B9 e f;rw[hr];rfl
structure uV (many:Int) (ts:List eE) (s:Int) (K:List Int) (e:AR):Prop where
 ex:∃ps,wI ts s e.2.1 e.2.2 ps e.1/\∀x∈ps,x=e.2.1\/x∈K
 nk:e.2.1 ∉ K
 v0:0<=e.2.1
 v1:e.2.1<many
theorem Dz {many:Int}{ts:List eE}{s:Int}{K:List Int}{kvs:fI}(h:uU ts s K kvs)(hp:Plain ts){l:List AR}(oZ:∀t∈ts,∀x y,(x=t.1/\y=t.2.1\/x=t.2.1/\y=t.1)->x∈K->y ∉ K->∀(c:Int) (es:List Int),eO kvs [x]=some (.tuple [.int c,dW es])->∃e∈l,e.1=c+t.2.2)
  {e:AR} (hk:e.2.1 ∉ K) (hm:∀x∈l,e.1<=x.1) {vs:List Int} {c':Int} (w:Wk ts s e.2.1 vs c'):e.1<=c':=by
 obtain⟨x,y,t,Qb,c0,h1,h2,h3,h4,h5,h6⟩:=w.Ly hp h.st hk;obtain⟨es,ps,c,g1,_,g3,g4⟩:=h.val x h1;obtain⟨f,hf,ef⟩:=oZ t h3 x y h4 h1 h2 c (sortI es) g3;have:=hm f hf;have:=g4 _ _ h5;omega
theorem AS {es:List Int}{k:Int}(hn:(k::es).Nodup):eA (sortI es++[k])=sortI (k::es):=by
 obtain⟨h1,h2⟩:=bf.mp hn;have hp:=sortI_perm es;have R7:(sortI es++[k]).Nodup:=cz.mpr ⟨hp.nodup_iff.mpr h2,!4,λa ha b hb=>by rw[au.mp hb];exact λz=>h1 (hp.mem_iff.mp (z ▸ ha))⟩;refine rD (gY _) (jI (gm _) ((sortI_perm _).nodup_iff.mpr hn)) λx=>?_;have hm:x∈sortI es++[k]↔x∈k::es:=by rw[aL,hp.mem_iff,au,ax];exact Or.comm
 rw[e8,(sortI_perm (k::es)).mem_iff,oS R7 x];by_cases hx:x∈sortI es++[k]
 .rw[if_pos hx]
  exact⟨λ_=>hm.mp hx,λ_=>rfl⟩
 .rw[if_neg hx]
  exact⟨λz=>by omega,λz=>absurd (hm.mpr z) hx⟩
theorem sF {ts:List eE}{k:Int}(h:0<=k/\k<(ts.length:Int)):gu ts k∈ts:=by
 obtain⟨t,h1,h2,_⟩:=oR (ts:=ts) h.1 h.2;unfold gu;rw[am,h1];exact h2
theorem wg (i:Int):lB false (.int i)=some [i]:=rfl
theorem wj {env:eU}{n:Int}{Q:ag->Int->Prop}{uk ud:UX}{v:Int}{kvs:fI}(h1:∀n Q,uk env n Q=Q (.int v) n)(h2:∀n Q,ud env n Q=Q (fg false kvs) n):yi uk ud env n Q=Q (.bool (eO kvs [v]).isSome) n:=by
 rw[yi,h1,h2,nI,dN];simp only[wg,dN]
theorem Ca {env:eU}{n:Int}{Q:ag->Int->Prop}{uk ud:UX}{v:Int}{kvs:fI}{d:ag}(h1:∀n Q,uk env n Q=Q (.int v) n)(h2:∀n Q,ud env n Q=Q (fg false kvs) n)(h3:eO kvs [v]=some d):nh ud uk env n Q=Q d n:=by
 rw[nh,h2,nI,dN];simp only[h1,wg,dN,h3]
section
variable {n:Int}{X:XQ}{Q:ag->Int->Prop}
theorem pH {many s:Int}{ts:List eE}{K:List Int}{kvs:fI}(w:NZ many ts)(jE:Plain ts)(Ob:ts.length<=16)(hT:uU ts s K kvs)
  (h1:(∀t∈ts,(t.1∈K↔t.2.1∈K))->Q .none n)
  (h2:∀e:AR,uV many ts s K e->(∀vs c',Wk ts s e.2.1 vs c'->e.1<=c')->Q (g9 e) n):fJ [fy many ts,fg false kvs] n Q X:=by
 have e0:fy many ts=.tuple [.int many,.tuple (ts.map fk)]:=rfl;have X0:i8 (ts.map fk)=(fS 0 ts.length).map λk=>.tuple [.int k,fk (gu ts k)]:=yJ fk (0,0,0) ts;unfold fJ iX;simp only[nU,lz,envOf,ar,bH,av,bz,Nat.reduceSub,Nat.reduceAdd,aZ,bG,bw,bg];with_reducible generalize GI:g6 _=tr
 with_reducible generalize hb:iU _ _ _=b
 rw[true_and,d3,vB,dR];rw[2];rw[d3,nz,QD,eF,dJ];rw[0];rw[uC,e0,eS,fm,dN];simp only[p8,dN];rw[X0,<- e0]
 refine iM (λpre post env n'=>n'=n/\pre++post=((fS 0 ts.length).map λk=>ag.tuple [.int k,fk (gu ts k)])/\∃(l:List AR) (x3 x4 x5:Option Ent),env=[some (.s (fy many ts)),some (.s (fg false kvs)),some (.o (l.map g9)),x3,x4,x5]/\(∀e∈l,uV many ts s K e)/\l.length<=pre.length /\
  ∀i:Int,0<=i->i<pre.length->∀x y,(x=(gu ts i).1/\y=(gu ts i).2.1\/x=(gu ts i).2.1/\y=(gu ts i).1)->x∈K->y ∉ K->∀(c:Int) (es:List Int),eO kvs [x]=some (.tuple [.int c,dW es])->∃e∈l,e.1=c+(gu ts i).2.2) _ [] _ _ ?_ ⟨rfl,rfl,[],none,none,none,rfl,!4,!4,λi h0 h1=>by simp at h1;omega⟩ ?_
 .rintro pre d post env n' E' hE ⟨rfl,hp,l,x3,x4,x5,rfl,hl,hlen,oZ⟩ zc
  have Lz:pre.length<ts.length:=by
   have:=congrArg List.length hp;rw[aH,av,ao,fN] at this;omega
  have hd:d=.tuple [.int (pre.length:Nat),fk (gu ts (pre.length:Nat))]:=by
   have h1:=congrArg (λl=>l[pre.length]?) hp;simp only[bJ (ap _),Nat.sub_self,af,aB] at h1;unfold fS at h1;rw[aB,cV Lz] at h1;simpa using h1
  subst hd;obtain⟨k,hk⟩:∃k:Int,k=(pre.length:Nat):=⟨_,rfl⟩;have hm:=sF (ts:=ts) (k:=k) (!1)
  have RA:ts[k.toNat]? = some (gu ts k):=by
   unfold gu;rw[am,aK (!1)];rfl
  rw[<- hk];have hw:=w _ hm;generalize ht:gu ts k=t at hm RA hw;simp only[IU,CZ,iT,aF,aC];rw[<- hb];have Vf:∀n Q,eF gJ (dJ 4) (uC (ag.int 0)) [some (.s (fy many ts)),some (.s (fg false kvs)),some (.o (l.map g9)),some (.s (.int k)),some (.s (fk t)),x5] n Q=Q (.int t.1) n:=λn Q=>by simp! [fk,fh]
  have Uy:∀n Q,eF gJ (dJ 4) (uC (ag.int 1)) [some (.s (fy many ts)),some (.s (fg false kvs)),some (.o (l.map g9)),some (.s (.int k)),some (.s (fk t)),x5] n Q=Q (.int t.2.1) n:=λn Q=>by simp! [fk,fm]
  have Vg:∀n Q,dJ 1 [some (.s (fy many ts)),some (.s (fg false kvs)),some (.o (l.map g9)),some (.s (.int k)),some (.s (fk t)),x5] n Q=Q (fg false kvs) n:=λn Q=>by simp only[dJ,af,ae]
  rw[iU,fA,eF,wj Vf Vg,wj Uy Vg,hT.has,hT.has,Fl,dN,fu]
  have Ic:∀(l':List AR) (x5:Option Ent),(∀e∈l',uV many ts s K e)->l'.length<=pre.length+1->(∀e∈l,e∈l')->(∀x y,(x=t.1/\y=t.2.1\/x=t.2.1/\y=t.1)->x∈K->y ∉ K->∀(c:Int) (es:List Int),eO kvs [x]=some (.tuple [.int c,dW es])->∃e∈l',e.1=c+t.2.2) ->
    E'.nx [some (.s (fy many ts)),some (.s (fg false kvs)),some (.o (l'.map g9)),some (.s (.int k)),some (.s (fk t)),x5] n':=λl' x5 g1 g2 g3 g4=>by
   refine zc _ _ ⟨rfl,by rw[aJ];exact hp,l',_,_,_,rfl,g1,by simpa using g2,λi i0 i1=>?_⟩;rw[aH,bv] at i1;by_cases hi:i<(pre.length:Int)
   .intro x y BQ hx hy c es hv
    obtain⟨e,he,e1⟩:=oZ i i0 hi x y BQ hx hy c es hv;exact⟨e,g3 e he,e1⟩
   .have:i=k:=by omega
    rw[this,ht];exact g4
  by_cases hx:decide (t.1∈K)=decide (t.2.1∈K)
  .have hf:(!(decide (t.1∈K) == decide (t.2.1∈K)))=false:=by simp[hx]
   rw[hf,if_neg (!2),iA];have RE:=decide_eq_decide.mp hx;refine Ic l _ hl (!1) (λe he=>he) λx y BQ RF Vh=>?_;exfalso;rcases BQ with⟨rfl,rfl⟩ | ⟨rfl,rfl⟩
   .exact Vh (RE.mp RF)
   .exact Vh (RE.mpr RF)
  .have hf:(!(decide (t.1∈K) == decide (t.2.1∈K)))=true:=by simp[hx]
   rw[hf,if_pos rfl,d3,fc,EX,fA,wj Vf Vg,hT.has,fu]
   obtain⟨near,Cb,X2,Wr,RG,hV⟩:∃near Cb:Int,(if decide (t.1∈K)=true then t.1 else t.2.1)=near/\near∈K/\Cb ∉ K/\(near=t.1/\Cb=t.2.1\/near=t.2.1/\Cb=t.1):=by
    by_cases h1:t.1∈K
    .have h2:t.2.1 ∉ K:=λz=>hx (by rw[decide_eq_true h1,decide_eq_true z])
     exact⟨t.1,t.2.1,by rw[decide_eq_true h1];rfl,h1,h2,.inl ⟨rfl,rfl⟩⟩
    .have h2:t.2.1∈K:=Classical.byContradiction λz=>hx (by rw[decide_eq_false h1,decide_eq_false z])
     exact⟨t.2.1,t.1,by rw[decide_eq_false h1];rfl,h2,h1,.inr ⟨rfl,rfl⟩⟩
   have SJ:∀(K':ag->Int->Prop),(if decide (t.1∈K)=true then eF gJ (dJ 4) (uC (ag.int 0)) [some (.s (fy many ts)),some (.s (fg false kvs)),some (.o (l.map g9)),some (.s (.int k)),some (.s (fk t)),x5] n' K' else eF gJ (dJ 4) (uC (ag.int 1)) [some (.s (fy many ts)),some (.s (fg false kvs)),some (.o (l.map g9)),some (.s (.int k)),some (.s (fk t)),x5] n' K')=K' (.int near) n':=λK'=>by
    rw[Vf,Uy,<- X2];split<;>rfl
   rw[SJ];rw[2];obtain⟨es,ps,c,g1,g2,g3,g4⟩:=hT.val near Wr;have X3:Cb ∉ ps:=λz=>RG (g2 Cb z);have RH:0<=Cb/\Cb<many:=by rcases hV with⟨_,rfl⟩ | ⟨_,rfl⟩<;>omega
   have Bn:wI ts s Cb (k::es) (Cb::ps) (c+t.2.2):=g1.step k t Cb (!1) RA hV X3
   have X4:mK t near=Cb:=by
    unfold mK;rcases hV with⟨rfl,rfl⟩ | ⟨rfl,rfl⟩
    .rw[if_pos rfl]
    .rw[if_neg (λz:t.1=t.2.1=>RG (by rw[z];exact Wr))]
   have X5:es.length<=16:=by
    have:=gk g1.RD (ns:=fS 0 ts.length) λv hv=>fM.mpr (by have:=g1.num v hv;omega);rw[fN] at this;omega
   have SK:(sortI es).length=es.length:=(sortI_perm es).length_eq;have qa:∀n Q,nh (dJ 1) (dJ 5) [some (.s (fy many ts)),some (.s (fg false kvs)),some (.o (l.map g9)),some (.s (.int k)),some (.s (fk t)),some (.s (.int near))] n Q=Q (.tuple [.int c,dW (sortI es)]) n:=λn Q=>Ca (λn Q=>by simp only[dJ,af,ae]) (λn Q=>by simp only[dJ,af,ae]) g3;have X6:gJ (fk t) (.int 2)=some (.int t.2.2):=by rw[fk,eS,fW]
   rw[lS];rw[0];rw[dM,eR,dM,eF,eF,qa,uC,eS,fh,dN,eF,dJ];rw[0];rw[uC,X6,dN,sj,dN,dM,d6,dM,d7];rw[0];rw[dM,d7];rw[0];rw[dR,wd,X4,dM,d6,dM,eF,qa,uC,eS,fm,dN,dM,eR,dM,d7];rw[0];rw[dR,dR,show ag.tuple [.int k]=dW [k] from rfl,my (by rw[SK];simp;omega),AS Bn.RD,dR,dR];rw[kR (by rw[ao];omega),dN]
   have:=Ic (l++[(c+t.2.2,Cb,k::es)]) (some (.s (.int near))) (λe he=>by
    rcases aL.mp he with he | he
    .exact hl e he
    .rw[au.mp he]
     exact⟨⟨Cb::ps,Bn,λx hx=>by rcases ax.mp hx with hx | hx;exact .inl hx;exact .inr (g2 x hx)⟩,RG,RH.1,RH.2⟩) (by simp;omega) (λe he=>bI _ he) (λx y BQ RF Vh c' tE hv=>by
    have X7:x=near:=by
     rcases hV with⟨rfl,rfl⟩ | ⟨rfl,rfl⟩
     .rcases BQ with⟨rfl,rfl⟩ | ⟨rfl,rfl⟩
      .rfl
      .exact absurd RF RG
     .rcases BQ with⟨rfl,rfl⟩ | ⟨rfl,rfl⟩
      .exact absurd RF RG
      .rfl
    rw[X7,g3] at hv;injection hv with hv;injection hv with hv;injection hv with hv _;injection hv with hv;exact⟨_,a6 _ (au.mpr rfl),by rw[<- hv]⟩)
   rw[aO] at this;exact this
 .rintro pre env n' ⟨rfl,hp,l,x3,x4,x5,rfl,hl,hlen,oZ⟩
  rw[cj] at hp;have Lz:pre.length=ts.length:=by rw[hp,ao,fN]
  have LA:∀t∈ts,∀x y,(x=t.1/\y=t.2.1\/x=t.2.1/\y=t.1)->x∈K->y ∉ K->∀(c:Int) (es:List Int),eO kvs [x]=some (.tuple [.int c,dW es])->∃e∈l,e.1=c+t.2.2:=λt ht=>by
   obtain⟨i,hi,rfl⟩:=cb ht
   have e:gu ts (i:Nat)=ts[i]:=by
    unfold gu;rw[bQ,am,aK hi];rfl
   have:=oZ (i:Nat) (!1) (!1);rwa [e] at this
  show tr _ _ n';rw[<- GI,g6,F5,dJ];rw[0]
  cases l with
  | nil =>
   refine h1 λt ht=>?_
   have key:∀x y,(x=t.1/\y=t.2.1\/x=t.2.1/\y=t.1)->x∈K->y∈K:=λx y BQ hx=>Classical.byContradiction λhy=>by
    obtain⟨es,ps,c,_,_,g3,_⟩:=hT.val x hx;obtain⟨e,he,_⟩:=LA t ht x y BQ hx hy c _ g3;cases he
   exact⟨key _ _ (.inl ⟨rfl,rfl⟩),key _ _ (.inr ⟨rfl,rfl⟩)⟩
  | cons a l =>
   obtain⟨e,he,h3,h4⟩:=sE l a;refine⟨GH (a::l),?_⟩;rw[h3];exact h2 e (hl e he) λvs c' wk=>Dz (many:=many) hT jE LA (hl e he).nk h4 wk
theorem wm {many s:Int}{ts:List eE}(w:NZ many ts)(jE:Plain ts)(Ob:ts.length<=16)(m1:many<=60)(s0:0<=s)(s1:s<many)
  (h:∀(K:List Int) (kvs:fI),uU ts s K kvs->(∀t∈ts,(t.1∈K↔t.2.1∈K))->Q (fg false kvs) n):jT [fy many ts,.int s] n Q X:=by
 have hsz:az=16777216:=by decide
 unfold jT lX;simp only[nU,lz,envOf,ar,bH,av,bz,Nat.reduceSub,Nat.reduceAdd,aZ,bG,bw,bg];with_reducible generalize GI:jL 2=tr
 with_reducible generalize X8:d3 (ng 2 _ _) _=wb
 rw[true_and,d3,Al,d7];rw[0];rw[eR,dM,uC,dM,eR,dR,dR];simp only[wg,dN];intro a ha;rw[2];rw[d3,fc,nA,dM,dJ];rw[0];rw[dM,dJ];rw[0];rw[dR]
 have X9:∀e:AR,iL (g9 e)=true:=λe=>by
  have:=sy (sortI e.2.2);simp only[g9,iL,gP,this,Bool.and_self]
 have hW:∀(K:List Int) (kvs:fI) (x3:Option Ent) (E:pM) (P:ag->Int->Prop),uU ts s K kvs->((∀t∈ts,(t.1∈K↔t.2.1∈K))->P .none n)->(∀e:AR,uV many ts s K e->(∀vs c',Wk ts s e.2.1 vs c'->e.1<=c')->P (g9 e) n)->fJ [fy many ts,fg false kvs] n (λd n'=>iL d=true/\P d n') BB:=λK kvs x3 E P hT g1 g2 =>
  pH w jE Ob hT (λhc=>⟨rfl,g1 hc⟩) λe he hl=>⟨X9 e,g2 e he hl⟩
 have SJ:∀d n',n'=n->(d=.none/\(∀t∈ts,(t.1∈[s]↔t.2.1∈[s]))\/∃e:AR,d=g9 e/\uV many ts s [s] e/\∀vs c',Wk ts s e.2.1 vs c'->e.1<=c')->d3 (vD (fA (eF mU (dJ 3) (uC ag.none))) wb) tr { nx:=λx n'=>Q ag.none n',rt:=Q } [some (.s (fy many ts)),some (.s (.int s)),some (.d a false [([s],.tuple [.int 0,.tuple []])]),some (.s d)] n':=λd n' en hd=>by
  subst en;rw[d3];unfold vD;refine⟨λm env Vi=>Vi=n'/\∃(K:List Int) (kvs:fI) (d:ag),env=[some (.s (fy many ts)),some (.s (.int s)),some (.d a false kvs),some (.s d)]/\uU ts s K kvs/\(∀v∈K,0<=v/\v<many)/\m+K.length=60/\(d=.none/\(∀t∈ts,(t.1∈K↔t.2.1∈K))\/∃e:AR,d=g9 e/\uV many ts s K e/\∀vs c',Wk ts s e.2.1 vs c'->e.1<=c'),⟨59,rfl,[s],_,d,rfl,uU.one jE s,λv hv=>by rw[au.mp hv];exact⟨s0,s1⟩,rfl,hd⟩,?_⟩;rintro m env Vi ⟨rfl,K,kvs,d,rfl,hT,hK,hm,hd⟩;rw[fA,eF,dJ];rw[0];rcases hd with⟨rfl,Hb⟩ | ⟨e,rfl,he,hl⟩
  .have e1:mU .none .none=some (.bool false):=rfl
   rw[uC,e1,dN,fu,if_neg (!2)];show tr _ _ Vi;rw[<- GI,jL];rw[0];exact h K kvs hT Hb
  .have e1:mU (g9 e) .none=some (.bool true):=rfl
   obtain⟨ps,hp,Q5⟩:=he.ex;have SM:=hT.add hp he.nk Q5 hl
   have Vj:∀v∈K++[e.2.1],0<=v/\v<many:=λv hv=>by
    rcases aL.mp hv with hv | hv
    .exact hK v hv
    .rw[au.mp hv];exact⟨he.v0,he.v1⟩
   have hlen:(K++[e.2.1]).length<=60:=by
    have:=gk SM.nd (ns:=fS 0 many.toNat) λv hv=>fM.mpr (by have:=Vj v hv;omega);rw[fN] at this;omega
   rw[aH,bv] at hlen;have i0:gJ (g9 e) (.int 0)=some (.int e.1):=by rw[g9,eS,fh]
   have i1:gJ (g9 e) (.int 1)=some (.int e.2.1):=by rw[g9,eS,fm]
   have i2:gJ (g9 e) (.int 2)=some (dW (sortI e.2.2)):=by rw[g9,eS,fW]
   rw[uC,e1,dN,fu,if_pos rfl,<- X8,d3,ng,eR,dM,eF,dJ];rw[0];rw[uC,i0,dN,dM,eF,dJ];rw[0];rw[uC,i2,dN,dR];simp only[eF,dJ,uC,af,ae,i1,dN,wg];refine⟨⟨by rw[hT.len];omega,λj t' kv hj z=>?_⟩,?_⟩
   .match j,hj,z with
    | 0,_,z=>simp at z
    | 1,_,z=>simp at z
    | 2,hj,_=>exact hj rfl
    | 3,_,z=>simp at z
    | j+4,_,z=>simp at z
   rw[2];rw[fc,nA,dM,dJ];rw[0];rw[dM,dJ];rw[0];rw[dR];refine hW (K++[e.2.1]) _ none { nx:=λ_ _=>True,rt:=Q } _ SM (λHb=>?_) λe' zR hl'=>?_
   .exact⟨m - 1,!1,rfl,K++[e.2.1],_,_,rfl,SM,Vj,by simp;omega,.inl ⟨rfl,Hb⟩⟩
   .exact⟨m - 1,!1,rfl,K++[e.2.1],_,_,rfl,SM,Vj,by simp;omega,.inr ⟨e',rfl,zR,hl'⟩⟩
 refine hW [s] _ none { nx:=λ_ _=>True,rt:=Q } _ (uU.one jE s) (λHb=>?_) λe he hl=>?_
 .exact SJ _ _ rfl (.inl ⟨rfl,Hb⟩)
 .exact SJ _ _ rfl (.inr ⟨e,rfl,he,hl⟩)
end
structure GJ (many:Int) (t:eE):Prop where
 a0:0<=t.1
 ab:t.1<t.2.1
 bm:t.2.1<many
 pl:t.2.2.natAbs<=99
structure kH (many:Int) (ts:List eE):Prop where
 m0:1<=many
 m1:many<=9
 ok:∀t∈ts,GJ many t
section
variable {n:Int}{Q:ag->Int->Prop}{X:XQ}
theorem wo {b:Bool}(hn:n+1<=ow)(h:∀p:Int,p.natAbs<=99->(b=true->0<=p)->Q (.int p) (n+1)):jV [.bool b] n Q X:=by
 simp! [jV,lZ,xw];refine jQ (!2) (!2) (!1) λr h0 h1=>?_;obtain⟨x,hx,hm⟩:=Fo (xs:=[ag.int 0,.int 1,.int 2,.int 3,.int 5,.int 7,.int (-1),.int (-2),.int (-3),.int 99,.int (-99),.int 1]) h0 (by simpa using h1);simp! [gp,hx]
 obtain⟨p,rfl,hp⟩:∃p:Int,x=.int p/\p.natAbs<=99:=by
  simp only[ax,cR,or_false] at hm;rcases hm with rfl | rfl | rfl | rfl | rfl | rfl | rfl | rfl | rfl | rfl | rfl | rfl<;>exact⟨_,rfl,!2⟩
 cases b with
 | true =>
  simp! [Fb];exact h _ (!1) λ_=>by omega
 | false =>
  simp! [d3];exact h p hp (!4)
theorem AU {m k:Int}{pl:Bool}(hm:1<=m)(Zb:m<=9)(hk:0<=k)(X':k<=16)(hn:n+200<=ow)(h:∀(many:Int) (ts:List eE) (n':Int),kH many ts->many<=m->(ts.length:Int)<=k->(pl=true->∀t∈ts,0<=t.2.2)->n<=n'->n'<=n+200->Q (fy many ts) n'):mI [.int m,.int k,.bool pl] n Q X:=by
 have RI:ow=1099511627776:=by decide
 unfold mI px;simp only[nU,lz,envOf,ar,bH,av,bz,Nat.reduceSub,Nat.reduceAdd,aZ,bG,bw,bg];generalize Ya:d3 (fc 7 _) _=bd;generalize Yb:g6 _=te;simp! [d3];refine jQ (!1) (!1) (!1) λr r0 r1=>?_;simp! [sj];refine jQ (!1) (!1) (!1) λc c0 c1=>?_;simp! [OD,intD,Fp];generalize Ws:1+r=many;have k0:1<=many:=by omega
 have k1:many<=m:=by omega
 have hj:0<=(if decide (1<many)=true then c else 0)/\(if decide (1<many)=true then c else 0)<=k:=by split<;>omega
 have Ts:0<(if decide (1<many)=true then c else 0)->1<many:=by
  split
  .rename_i hh;intro _;exact of_decide_eq_true hh
  .intro z;omega
 generalize (if decide (1<many)=true then c else 0)=j at hj Ts ⊢;refine⟨!1,!1,iM (λpre post env n'=>∃ts x6 x7 x8,env=[none,some (.s (.int m)),some (.s (.int k)),some (.s (.bool pl)),some (.s (.int many)),some (.o (ts.map fk)),x6,x7,x8]/\(∀t∈ts,GJ many t/\(pl=true->0<=t.2.2))/\ts.length<=2 * pre.length/\n+2<=n'/\n'<=n+2+4 * pre.length/\pre.length+post.length=j.toNat) _ [] _ _ ?_ ⟨[],none,none,none,rfl,!4,!4,!1,by simp;omega,by simp[rB]⟩ ?_⟩
 .rintro pre d post env n' E' hE ⟨ts,x6,x7,x8,rfl,Ob,hl,Wt,Yc,hp⟩ zc
  rw[av] at hp;have Zc:1<many:=Ts (!1);subst Ya;generalize Yd:iU _ _ _=tif;simp! [d3];refine jQ (!1) (!1) (!1) λa a0 a1=>?_;simp! [Lw,sj];refine jQ (!1) (!1) (!1) λb b0 b1=>?_;simp! [Lw,sj,I9 (show 0<many by omega)];have q0:0<=(a+1+b) % many:=c7 _ (!1);have q1:(a+1+b) % many<many:=cI _ (!1)
  have q2:(a+1+b) % many≠a:=λz=>by
   have e:=Int.emod_add_mul_ediv (a+1+b) many;rw[z] at e;have h1:many * ((a+1+b) / many)=1+b:=by omega
   rcases Int.lt_or_le ((a+1+b) / many) 1 with h2 | h2
   .have:many * ((a+1+b) / many)<=many * 0:=Int.mul_le_mul_of_nonneg_left (!1) (!1)
    omega
   .have:many * 1<=many * ((a+1+b) / many):=Int.mul_le_mul_of_nonneg_left h2 (!1)
    omega
  generalize (a+1+b) % many=b' at q0 q1 q2;simp! [xD,xE];refine wo (!1) λp RB jE=>?_;rw[kR (by rw[ao];omega)]
  obtain⟨x,hx,Wu⟩:∃x:eE,ag.tuple [.int (if b' < a then b' else a),.int (if a<b' then b' else a),.int p]=fk x/\(GJ many x/\(pl=true->0<=x.2.2)):=by
   refine⟨(if b' < a then b' else a,if a<b' then b' else a,p),rfl,⟨?_,?_,?_,RB⟩,jE⟩
   .show 0<=(if b' < a then b' else a);split<;>omega
   .show (if b' < a then b' else a)<(if a<b' then b' else a);split<;>split<;>omega
   .show (if a<b' then b' else a)<many;split<;>omega
  simp! [d3];rw[hx]
  have Oc:∀t∈ts++[x],GJ many t/\(pl=true->0<=t.2.2):=λt ht=>by
   rcases aL.mp ht with ht | ht
   .exact Ob t ht
   .rw[au.mp ht];exact Wu
  subst Yd;simp! [d3];refine jQ (!1) (!1) (!1) λz z0 z1=>?_;simp! [qy];by_cases hz:z=0
  .simp! [hz,decide_true]
   simp! [xC,EZ];split
   .simp! [xw,Fn]
    rw[kR (by rw[aH,ao];simp;omega)];simp! [d3];refine zc _ _ ⟨ts++[x]++[x],_,_,_,(by rw[aO,aO];rfl),λt ht=>?_,by simp;omega,!1,by simp;omega,by simp;omega⟩;rcases aL.mp ht with ht | ht
    .exact Oc t ht
    .rw[au.mp ht];exact Wu
   .exact zc _ _ ⟨ts++[x],_,_,_,(by rw[aO];rfl),Oc,by simp;omega,!1,by simp;omega,by simp;omega⟩
  .simp! [hz,decide_false]
   exact zc _ _ ⟨ts++[x],_,_,_,(by rw[aO];rfl),Oc,by simp;omega,!1,by simp;omega,by simp;omega⟩
 .rintro pre env n' ⟨ts,x6,x7,x8,rfl,Ob,hl,Wt,Yc,hp⟩
  subst Yb;simp! [Qw,BF _ k hk,jk,<- List.map_take];exact h many (ts.take k.toNat) n' ⟨k0,!1,λt ht=>(Ob t (dk ht)).1⟩ k1 (by rw[bY];omega) (λz t ht=>(Ob t (dk ht)).2 z) (!1) (by simp at hp;omega)
end
theorem GK {many:Int}{ts:List eE}(w:kH many ts):Dx ts:=λt ht=>(w.ok t ht).pl
theorem uW (x:Str):z5 (.str x) (.str x)=some (.bool false):=by simp[z5]
theorem Od {many:Int}{ts:List eE}(w:kH many ts)(hl:ts.length<=16):Sz 10000 11 700 3 (fy many ts):=by
 have m0:=w.m0;have m1:=w.m1
 have h1:∀d∈ts.map fk,Sz 10000 11 33 1 d:=λd hd=>by
  obtain⟨t,ht,rfl⟩:=aM.mp hd;have:=w.ok t ht;have a0:=this.a0;have ab:=this.ab;have bm:=this.bm;have pl:=this.pl;exact (Sz.tup (mV.cons (Sz.small (by omega:t.1.natAbs<1024) (!2)) (mV.cons (Sz.small (by omega:t.2.1.natAbs<1024) (!2)) (mV.cons (Sz.small (by omega:t.2.2.natAbs<1024) (!2)) mV.nil)))).mono (ap _) (ap _) (!2) (!2)
 have h2:=mV.all h1;rw[ao] at h2;exact (Sz.tup (mV.cons (Sz.small (by omega:many.natAbs<1024) (!2)) (mV.cons (Sz.tup h2) mV.nil))).mono (ap _) (ap _) (!1) (!2)
theorem Cc {ts:List eE}(hp:Dx ts):∀{ks:List Int},fQ ts ks->(eC ts ks).natAbs<=99 * ks.length
 | [],_=>ap _
 | k::ks,h=>by
  have ih:=Cc hp (ks:=ks) λi hi=>h i (ai _ hi);have h1:=GG hp (h k (aq ..));have e:eC ts (k::ks)=jG ts k+eC ts ks:=rfl;rw[e,av];omega
theorem mM (m:Nat):(fS 0 m).Pairwise (· < ·):=by
 unfold fS;exact de.mpr (List.pairwise_lt_range.imp λh=>by omega)
theorem DA (a b:List Int):eA (b++a)=eA (a++b):=by
 refine AQ (gY _) ((gY _).imp λh=>by omega) ((bK (gM _) (gM _)).mpr λk=>?_);rw[e8,e8,bR,bR,Nat.add_comm]
noncomputable def i6:Nat->List (List Int)
 | 0=>[[]]
 | k+1=>i6 k++(i6 k).map (·++[(k:Int)])
theorem kI:∀k,(i6 k).length=2 ^ k
 | 0=>rfl
 | k+1=>by
  rw[i6,aH,ao,kI k,Nat.pow_succ];omega
theorem mN (k:Nat):fS 0 (k+1)=fS 0 k++[(k:Int)]:=by
 unfold fS;rw[List.range_succ,aO];simp
theorem kJ:∀{k:Nat} {s:List Int},s∈i6 k↔s.Sublist (fS 0 k)
 | 0,s=>by
  show s∈[[]]↔s.Sublist [];simp
 | k+1,s=>by
  rw[i6,mN,aL,kJ (k:=k),List.sublist_append_iff];constructor
  .rintro (h | h)
   .exact⟨s,[],!4,h,!4⟩
   .obtain⟨r,hr,rfl⟩:=aM.mp h
    exact⟨r,[(k:Int)],rfl,kJ.mp hr,List.Sublist.refl _⟩
  .rintro⟨a,b,rfl,ha,hb⟩
   rcases List.sublist_cons_iff.mp hb with hb | ⟨r,rfl,hr⟩
   .have:=List.sublist_nil.mp hb
    subst this;left;simpa using ha
   .have:=List.sublist_nil.mp hr
    subst this;right;exact aM.mpr ⟨a,kJ.mpr ha,rfl⟩
theorem GL (row:List Int)(v:Int):(eA row).count v % 2=row.count v % 2:=by
 rw[oS (gM row)];by_cases h:v∈eA row
 .rw[if_pos h,e8.mp h]
 .rw[if_neg h]
  have:¬ row.count v % 2=1:=λz=>h (e8.mpr z);omega
theorem GN {a b:List Int}(h:∀v,a.count v % 2=b.count v % 2):eA a=eA b :=
 AQ (gY b) ((gY a).imp λh=>by omega) ((bK (gM a) (gM b)).mpr λv=>by rw[e8,e8,h v])
theorem pI (row e:List Int):eA (eA row++e)=eA (row++e):=GN λv=>by
 rw[bR,bR,Nat.add_mod,GL,<- Nat.add_mod]
theorem AV {many:Int}{ts:List eE}(w:kH many ts){k:Int}(h:0<=k/\k<(ts.length:Int)):GJ many (ts.getD k.toNat (0,0,0)):=by
 obtain⟨t,h1,h2,_⟩:=oR h.1 h.2;rw[am,h1];exact w.ok t h2
theorem Cd {many:Int}{ts:List eE}(w:kH many ts):∀{s:List Int},fQ ts s->∀v∈d5 ts s,0<=v/\v<many
 | [],_,v,hv=>by simp[d5] at hv
 | k::s,h,v,hv=>by
  rw[jA] at hv;have ht:=AV w (h k (aq ..));have a0:=ht.a0;have ab:=ht.ab;have bm:=ht.bm;rcases aL.mp hv with hv | hv
  .unfold jz at hv
   rcases ax.mp hv with rfl | hv
   .omega
   .rw[au.mp hv];omega
  .exact Cd w (λi hi=>h i (ai _ hi)) v hv
theorem wq {many:Int}{ts:List eE}(w:kH many ts){s:List Int}(h:fQ ts s):∀v∈eA (d5 ts s),0<=v/\v<many:=λv hv =>
 Cd w h v (ce.mp (by have:=e8.mp hv;omega))
theorem yO {many:Int}{ts:List eE}(w:kH many ts){s:List Int}(h:fQ ts s):(eA (d5 ts s)).length<=9:=by
 have:=gk (gM (d5 ts s)) (ns:=fS 0 many.toNat) λv hv=>fM.mpr (by have:=wq w h v hv;omega);rw[fN] at this;have:=w.m1;omega
theorem Oe {ts:List eE}{k:Int}{t:eE}(h:ts[k.toNat]? = some t):jG ts k=t.2.2:=by
 unfold jG;rw[am,h];rfl
theorem GO {ts:List eE}{pre post:List ag}{d:ag}(h:pre++d::post=((ts.map fk).zipIdx).map (λp=>ag.tuple [.int (p.2:Nat),p.1])):∃t,ts[pre.length]? = some t/\d=.tuple [.int (pre.length:Int),fk t]:=by
 have e:(pre++d::post)[pre.length]? = some d:=by simp
 rw[h,aB,List.getElem?_zipIdx,aB] at e
 cases ht:ts[pre.length]? with
 | none=>rw[ht] at e;cases e
 | some t =>
  rw[ht] at e;simp at e;exact⟨t,rfl,e.symm⟩
section
variable {n:Int}{X:XQ}{Q:ag->Int->Prop}
theorem qf {a b:List Int}(h:a.length+b.length<=60)(ha:a.Nodup)(hb:b.Nodup):gg [dW a,dW b] n Q X=Q (dW (eA (a++b))) n:=by
 have e1:dW a=.tuple (a.map .int):=rfl;have e2:dW b=.tuple (b.map .int):=rfl;simp! [gg,jr,e1,e2]
 rw[mE (λk=>.int k) (λk=>!decide (k∈b)) _ _ _ _ (λk _ n Q=>by simp! [d3]) (λk _ n Q=>by simp! [rE]),
  mE (λk=>.int k) (λk=>!decide (k∈a)) _ _ _ _ (λk _ n Q=>by simp! [d3]) (λk _ n Q=>by simp! [rE])]
 have l1:=cc (λk=>!decide (k∈b)) a;have l2:=cc (λk=>!decide (k∈a)) b
 have e3:ie (.list ([]++(a.filter λk=>!decide (k∈b)).map λk=>ag.int k)) (.list ([]++(b.filter λk=>!decide (k∈a)).map λk=>ag.int k))=some (.list (((a.filter λk=>!decide (k∈b))++(b.filter λk=>!decide (k∈a))).map .int)):=by
  rw[bg,bg,Fq (by rw[ao,ao];omega),aO]
 have hl:((a.filter λk=>!decide (k∈b))++(b.filter λk=>!decide (k∈a))).length<64:=by rw[aH];omega
 have es:sortI ((a.filter λk=>!decide (k∈b))++(b.filter λk=>!decide (k∈a)))=eA (a++b):=AQ (gY _) (gm _) ((sortI_perm _).trans (kX ha hb).symm);generalize []++(a.filter λk=>!decide (k∈b)).map (λk=>ag.int k)=l at e3 ⊢;generalize []++(b.filter λk=>!decide (k∈a)).map (λk=>ag.int k)=l' at e3 ⊢;simp! [e3,g7,hl,es,jk,dW]
theorem GP {many:Int}{ts:List eE}(w:kH many ts){s:List Int}(h:fQ ts s){k:Int}{t:eE}(hk:0<=k/\k<(ts.length:Int))(ht:ts[k.toNat]? = some t):gg [dW (eA (d5 ts s)),.tuple [.int t.1,.int t.2.1]] n Q X=Q (dW (eA (d5 ts (s++[k])))) n:=by
 have SN:=AV w hk;rw[am,ht] at SN;have ab:t.1<t.2.1:=SN.ab;have e:ag.tuple [.int t.1,.int t.2.1]=dW (jz ts k):=by rw[mx ht];rfl
 have:=yO w h;rw[e,qf (by rw[mx ht];simp;omega) (gM _) (by rw[mx ht];simp;omega),pI,iw,jA];simp[d5]
end
structure fC (ts:List eE) (told s:List Int):Prop where
 num:fQ ts s
 nd:s.Nodup
 odd:∀v,(d5 ts s).count v % 2=1↔v∈told
noncomputable def gU (ts:List eE)(told:List Int)(c:Int):Prop:=(∃s,fC ts told s/\eC ts s=c)/\∀s,fC ts told s->c<=eC ts s
theorem gU.one {ts:List eE}{told:List Int}{c d:Int}(h:gU ts told c)(k:gU ts told d):c=d:=by
 obtain⟨⟨s,hs,rfl⟩,h2⟩:=h;obtain⟨⟨t,ht,rfl⟩,k2⟩:=k;exact Int.le_antisymm (h2 t ht) (k2 s hs)
theorem jD {ts:List eE}(hp:Plain ts):∀{s:List Int},fQ ts s->0<=eC ts s
 | [],_=>bF _
 | k::s,h=>by
  have h1:=jD hp (s:=s) λj hj=>h j (ai _ hj);have h2:=hp _ (sF (h k (aq ..)));have e:eC ts (k::s)=jG ts k+eC ts s:=rfl;have h3:0<=jG ts k:=h2;omega
theorem yQ {ts:List eE}{told:List Int}(hp:Plain ts)(h:∃s,fC ts told s):∃c,gU ts told c:=by
 have key:∀(m:Nat) (s:List Int),fC ts told s->(eC ts s).toNat<=m->∃c,gU ts told c:=by
  intro m
  induction m with
  | zero =>
   intro s hs hm;have h0:=jD hp hs.num;exact⟨eC ts s,⟨s,hs,rfl⟩,λt ht=>by have:=jD hp ht.num;omega⟩
  | succ m ih =>
   intro s hs hm;by_cases hz:∃t,fC ts told t/\eC ts t<eC ts s
   .obtain⟨t,ht,gh⟩:=hz
    have h0:=jD hp ht.num;exact ih t ht (!1)
   .exact⟨eC ts s,⟨s,hs,rfl⟩,λt ht=>Int.not_lt.mp λz=>hz ⟨t,ht,z⟩⟩
 obtain⟨s,hs⟩:=h;exact key _ s hs (ap _)
theorem wu {l:List Int}(hl:l.Nodup){a b:Int}(wF:a≠b){v:Int}:v∈eA (l++[a,b])↔¬ (v∈l↔(v=a\/v=b)):=by
 rw[kF hl (by simp[wF])];simp
theorem fC.turns {ts:List eE}{A B C s t:List Int}(h:fC ts A s)(k:fC ts B t)(hC:∀v,v∈C↔¬ (v∈A↔v∈B)):fC ts C (eA (s++t)):=by
 refine⟨JX h.num k.num,gM _,λv=>?_⟩;have hp:=jB (ts:=ts) (kX h.nd k.nd);have e1:=pE (ts:=ts) (r:=s.filter λj=>decide (j∈t)) h.nd (h.nd.filter _) (λj hj=>(aN.mp hj).1) v;have e2:=pE (ts:=ts) (r:=t.filter λj=>decide (j∈s)) k.nd (k.nd.filter _) (λj hj=>(aN.mp hj).1) v;have e3:=(jB (ts:=ts) (uO h.nd k.nd)).count_eq v;have e4:=hp.count_eq v;rw[iw,bR] at e4;have f1:(s.filter λj=>!decide (j∈s.filter λj=>decide (j∈t)))=s.filter λj=>!decide (j∈t):=List.filter_congr λj hj=>by simp[hj]
 have f2:(t.filter λj=>!decide (j∈t.filter λj=>decide (j∈s)))=t.filter λj=>!decide (j∈s):=List.filter_congr λj hj=>by simp[hj]
 rw[f1] at e1;rw[f2] at e2;have o1:=h.odd v;have o2:=k.odd v;rw[hC v,<- o1,<- o2];omega
theorem AW {ts:List eE}(hp:Plain ts){s t:List Int}(hs:fQ ts s)(ht:fQ ts t)(ns:s.Nodup)(nt:t.Nodup):eC ts (eA (s++t))<=eC ts s+eC ts t:=by
 rw[iF (kX ns nt),iP];have e1:=kW ts (λk=>decide (k∈t)) s;have e2:=kW ts (λk=>decide (k∈s)) t;have l1:=jD hp (s:=s.filter λk=>decide (k∈t)) λj hj=>hs j (aN.mp hj).1;have l2:=jD hp (s:=t.filter λk=>decide (k∈s)) λj hj=>ht j (aN.mp hj).1;omega
noncomputable def wJ (b:Bool):Nat:=if b=true then 1 else 0
theorem GQ {ts:List eE}(rest:List Int){a:Int}:∀(m:Nat) (s:List Int) (x:Int) (vs:List Int) (c:Int),s.length<=m->fQ ts s->s.Nodup->Wk ts a x vs c->(∀v,(d5 ts s).count v % 2=(wJ (decide (v∈rest))+wJ (decide (v=x))) % 2) ->
  ∃b∈rest,∃SI c' s',Wk ts a b SI c'/\fQ ts s'/\s'.Nodup/\(∀v,(d5 ts s').count v % 2=(wJ (decide (v∈rest))+wJ (decide (v=b))) % 2)/\c' + eC ts s'<=c+eC ts s:=by
 intro m
 induction m with
 | zero =>
  intro s x vs c hl hn hd hw ho;have e:s=[]:=cE (!1);subst e;by_cases hx:x∈rest
  .exact⟨x,hx,vs,c,[],hw,hn,hd,ho,bF _⟩
  .have:=ho x
   simp[d5,wJ,hx] at this
 | succ m ih =>
  intro s x vs c hl hn hd hw ho;by_cases hx:x∈rest
  .exact⟨x,hx,vs,c,s,hw,hn,hd,ho,bF _⟩
  .have h1:(d5 ts s).count x % 2=1:=by rw[ho x];simp[wJ,hx]
   have AX:x∈d5 ts s:=ce.mp (!1);obtain⟨l,Hf,sQ⟩:=List.mem_flatten.mp AX;obtain⟨k,hk,rfl⟩:=aM.mp Hf;have Sx:=hn k hk;have Ye:=sF (ts:=ts) Sx;have SH:jz ts k=[(gu ts k).1,(gu ts k).2.1]:=rfl;rw[SH] at sQ
   obtain⟨y,hy⟩:∃y,x=(gu ts k).1/\y=(gu ts k).2.1\/x=(gu ts k).2.1/\y=(gu ts k).1:=by
    simp only[ax,cR,or_false] at sQ;rcases sQ with e | e
    .exact⟨_,.inl ⟨e,rfl⟩⟩
    .exact⟨_,.inr ⟨e,rfl⟩⟩
   have QP:=Wk.step hw (gu ts k) Ye y hy;have Gf:=pE (ts:=ts) (r:=[k]) hd (!4) (by simpa using hk);have hp:=sm hd (by simp:([k]:List Int).Nodup) (by simpa using hk)
   have hlen:(s.filter λj=>!decide (j∈[k])).length<=m:=by
    have:=hp.length_eq;rw[aH,bv] at this;omega
   have RJ:eC ts s=jG ts k+eC ts (s.filter λj=>!decide (j∈[k])):=by
    rw[iF hp,iP];simp[eC]
   have Vk:∀v,(d5 ts [k]).count v=wJ (decide (v=x))+wJ (decide (v=y)):=λv=>by
    have e:d5 ts [k]=[(gu ts k).1,(gu ts k).2.1]:=by rw[jA,SH];rfl
    have c1:∀z:Int,[z].count v=wJ (decide (v=z)):=λz=>by
     rw[cr];unfold wJ;by_cases h:v=z
     .subst h;simp
     .have h2:¬ z=v:=λq=>h q.symm
      simp[h,h2]
    have c2:∀z w:Int,[z,w].count v=wJ (decide (v=z))+wJ (decide (v=w)):=λz w=>by
     rw[show ([z,w]:List Int)=[z]++[w] from rfl,bR,c1,c1]
    rw[e,c2];rcases hy with⟨rfl,rfl⟩ | ⟨rfl,rfl⟩<;>omega
   obtain⟨b,hb,SI,c',s',w',n',d',o',Zd⟩:=ih (s.filter λj=>!decide (j∈[k])) y _ _ hlen (λj hj=>hn j (aN.mp hj).1) (hd.filter _) QP λv=>by
    have h2:=Gf v;have h3:=Vk v;have h4:=ho v;omega
   refine⟨b,hb,SI,c',s',w',n',d',o',?_⟩;have e:(gu ts k).2.2=jG ts k:=rfl;rw[RJ];omega
theorem sG {many:Nat}{ts:List eE}{a:Int}{rest s:List Int}{hs:Hs}(hg:oT many ts a hs)(hn:(a::rest).Nodup)(h:fC ts (a::rest) s) :
  ∃b∈rest,∃d s',mn hs b=some d/\fC ts (eA ((a::rest)++[a,b])) s'/\d+eC ts s'<=eC ts s:=by
 obtain⟨na,nr⟩:=bf.mp hn
 obtain⟨b,hb,vs,c,s',w,n',d',o',le⟩:=GQ (ts:=ts) rest _ s a [] 0 (ap _) h.num h.nd .nil λv=>by
  have:=h.odd v;rw[ax] at this;by_cases z:v=a
  .subst z
   rw[this.mpr (.inl rfl)];simp[wJ,na]
  .by_cases zr:v∈rest
   .rw[this.mpr (.inr zr)]
    simp[wJ,z,zr]
   .have h0:¬ (d5 ts s).count v % 2=1:=λq=>by rcases this.mp q with q | q;exact z q;exact zr q
    simp[wJ,z,zr];omega
 have wF:a≠b:=λz=>na (z ▸ hb);obtain⟨d,hd,lr⟩:=hg.low w;refine⟨b,hb,d,s',hd,⟨n',d',λv=>?_⟩,!1⟩;rw[wu hn wF,o' v];by_cases z:v=a
 .subst z
  simp[wJ,na,wF]
 .by_cases zb:v=b
  .subst zb
   simp[wJ,hb]
  .by_cases zr:v∈rest<;>simp[wJ,z,zb,zr]
theorem DB {many:Nat}{ts:List eE}{a b d:Int}{rest s':List Int}{hs:Hs}(hp:Plain ts)(hg:oT many ts a hs)(hn:(a::rest).Nodup)(hb:b∈rest)(b0:0<=b)(b1:b<(many:Int))(hd:mn hs b=some d)(h:fC ts (eA ((a::rest)++[a,b])) s') :
  ∃s,fC ts (a::rest) s/\eC ts s<=d+eC ts s':=by
 obtain⟨na,nr⟩:=bf.mp hn;have wF:a≠b:=λz=>na (z ▸ hb);obtain⟨ks,k1,k2,k3,k4⟩:=hg.set b0 b1 hd
 have hk:fC ts [a,b] ks:=⟨k1,lu k2,λv=>by
  have:=congrArg (λl=>v∈l) k3;simp only[eq_iff_iff] at this;rw[<- e8,this,e8,bR,cr,cr];by_cases z1:v=a
  .subst z1;simp[wF.symm]
  .by_cases z2:v=b
   .subst z2;simp[Ne.symm z1]
   .simp[z1,z2,Ne.symm z1,Ne.symm z2]⟩
 refine⟨eA (ks++s'),hk.turns h λv=>?_,by rw[<- k4];exact AW hp k1 h.num (lu k2) h.nd⟩;rw[wu hn wF];by_cases z1:v=a
 .subst z1;simp
 .by_cases z2:v=b
  .subst z2;simp[hb]
  .simp[z1,z2]
noncomputable def AY (ts:List eE)(told:List Int)(d:ag):Prop:=(∃c,d=.int c/\gU ts told c)\/(d=.none/\¬ ∃s,fC ts told s)
structure Rg (many:Int) (told:List Int):Prop where
 lt:told.Pairwise (· < ·)
 rg:∀v∈told,0<=v/\v<many
theorem Of {m:Nat}(h:m<=9):2 ^ m<100000:=cv (Nat.pow_le_pow_right (n:=2) (!2) h) (!2)
noncomputable def Og (many:Int)(hm:many<=9)(ts:List eE):kz:=⟨AY ts,i6 many.toNat,[],by rw[kI];exact Of (!1)⟩
theorem Rg.sub {many:Int}{told:List Int}(h:Rg many told):told∈i6 many.toNat:=by
 rw[kJ]
 have e:told=(fS 0 many.toNat).filter λk=>decide (k∈told):=rD h.lt ((mM _).sublist cZ) λk=>by
  rw[aN,fM];exact⟨λhk=>⟨by have:=h.rg k hk;omega,decide_eq_true hk⟩,λhk=>of_decide_eq_true hk.2⟩
 rw[e];exact cZ
theorem Rg.len {many:Int}{told:List Int}(h:Rg many told)(hm:many<=9):told.length<=9:=by
 have:=gk (lu h.lt) (ns:=fS 0 many.toNat) λk hk=>fM.mpr (by have:=h.rg k hk;omega);rw[fN] at this;omega
theorem Rg.less {many a b:Int}{rest:List Int}(h:Rg many (a::rest))(hb:b∈rest):Rg many (eA ((a::rest)++[a,b]))/\(eA ((a::rest)++[a,b])).length+2=(a::rest).length:=by
 have hn:=lu h.lt;obtain⟨na,nr⟩:=bf.mp hn;have wF:a≠b:=λz=>na (z ▸ hb)
 have key:∀v,v∈eA ((a::rest)++[a,b])↔v∈rest.erase b:=λv=>by
  rw[wu hn wF,List.Nodup.mem_erase_iff nr];by_cases z1:v=a
  .subst z1;simp[na]
  .by_cases z2:v=b
   .subst z2;simp[hb]
   .simp[z1,z2]
 have hp:(eA ((a::rest)++[a,b])).Perm (rest.erase b):=(bK (gM _) (nr.erase b)).mpr key;refine⟨⟨gY _,λv hv=>h.rg v (ai _ (List.mem_of_mem_erase ((key v).mp hv)))⟩,?_⟩;rw[hp.length_eq,dA hb,av];have:=dH hb;omega
noncomputable def RK (many:Int)(ts:List eE)(u v:Int):Option Int:=mn (gr many.toNat ts u) v
noncomputable def wx (many:Int)(ts:List eE):ag:=.list ((fS 0 many.toNat).map λu=>Dw (gr many.toNat ts u))
noncomputable def lC (o:Int × Int):ag:=.tuple [.int o.1,.int o.2]
structure Off (many:Int) (ts:List eE) (a:Int) (rest some:List Int) (O:List (Int × Int)):Prop where
 snd:∀o∈O,o.2∈some/\∃d r,RK many ts a o.2=Option.some d/\gU ts (eA ((a::rest)++[a,o.2])) r/\o.1=d+r
 cmp:∀b∈some,∀d r,RK many ts a b=Option.some d->gU ts (eA ((a::rest)++[a,b])) r->(d+r,b)∈O
structure sH (many:Int) (ts:List eE):Prop where
 m1:many<=9
 w:NZ many ts
 hp:Plain ts
 pr:Dx ts
 len:ts.length<=16
theorem sH.RL {many:Int}{ts:List eE}(w:sH many ts){a:Int}(a0:0<=a)(a1:a<many):oT many.toNat ts a (gr many.toNat ts a) :=
 AK (λt ht=>by have:=w.w t ht;omega) w.hp a0 (!1)
section
variable {many a:Int}{ts:List eE}{rest:List Int}{O:List (Int × Int)}
theorem Off.none (w:sH many ts)(hr:Rg many (a::rest))(h:Off many ts a rest rest O)(h0:O=[]):¬ ∃s,fC ts (a::rest) s:=λ⟨s,hs⟩=>by
 have ha:=hr.rg a (aq ..);obtain⟨b,hb,d,s',hd,hj,_⟩:=sG (w.RL ha.1 ha.2) (lu hr.lt) hs;obtain⟨r,hl⟩:=yQ w.hp ⟨s',hj⟩;have:=h.cmp b hb d r hd hl;rw[h0] at this;cases this
theorem Off.least (w:sH many ts)(hr:Rg many (a::rest))(h:Off many ts a rest rest O){o:Int × Int}(ho:o∈O)(hm:∀q∈O,o.1<=q.1):gU ts (a::rest) o.1:=by
 have ha:=hr.rg a (aq ..)
 have low:∀s,fC ts (a::rest) s->o.1<=eC ts s:=λs hs=>by
  obtain⟨b,hb,d,s',hd,hj,lr⟩:=sG (w.RL ha.1 ha.2) (lu hr.lt) hs;obtain⟨r,hl⟩:=yQ w.hp ⟨s',hj⟩;have h1:=hm _ (h.cmp b hb d r hd hl);have h2:=hl.2 s' hj;simp only at h1;omega
 obtain⟨hb,d,r,hd,⟨⟨s',hj,rfl⟩,hl⟩,e⟩:=h.snd o ho;have OK:=hr.rg _ (ai _ hb);obtain⟨s,hs,hc⟩:=DB w.hp (w.RL ha.1 ha.2) (lu hr.lt) hb OK.1 (!1) hd hj;have:=low s hs;exact⟨⟨s,hs,!1⟩,low⟩
end
theorem JY (x:Option Int):mU (we x) .none=some (.bool x.isSome):=by cases x<;>rfl
theorem DC {ts:List eE}{told:List Int}{d:ag}(h:AY ts told d):(∃c,d=.int c/\gU ts told c/\mU d .none=some (.bool true))\/(d=.none/\(¬ ∃s,fC ts told s)/\mU d .none=some (.bool false)):=by
 rcases h with⟨c,rfl,h⟩ | ⟨rfl,h⟩
 .exact .inl ⟨c,rfl,h,rfl⟩
 .exact .inr ⟨rfl,h,rfl⟩
theorem GR {many:Int}{ts:List eE}{a:Int}(a0:0<=a)(a1:a<many):gJ (wx many ts) (.int a)=some (Dw (gr many.toNat ts a)):=by
 unfold wx;rw[gp,nC a0 (by rw[ao,fN];omega),aB]
 have:(fS 0 many.toNat)[a.toNat]? = some a:=by
  unfold fS;rw[aB,cV (!1)];simp;omega
 rw[this];rfl
theorem GS {many:Int}{ts:List eE}(w:sH many ts){a b:Int}(a0:0<=a)(a1:a<many)(b0:0<=b)(b1:b<many):gJ (Dw (gr many.toNat ts a)) (.int b)=some (we (RK many ts a b)):=by
 unfold Dw;rw[eS];exact JV b0 (by have:=(w.RL a0 a1).len;omega)
noncomputable def AZ (many:Int)(ts:List eE)(Y:kz)(Rc:kz->UF)(len:Nat):Prop:=∀told,Rg many told->told.length<=len->∀(n:Int) (Q:ag->Int->Prop),(∀d,AY ts told d->Q d n)->Rc Y [wx many ts,dW told] n Q BB
section
variable {n:Int}{X:XQ}{Q:ag->Int->Prop}{many a:Int}{ts:List eE}{rest:List Int}{Y:kz}{Rc:kz->UF}
noncomputable def GU (Y:kz)(Rc:kz->UF):US:=(d3 (fc 6 (d6 (Rc Y) (dM (d7 0) (dM (d6 g8 (dM (d7 1) (dM (eR (dM (d7 3) (dM (d7 5) dR))) dR))) dR))))
 (iU (CU (fA (eF mU (eF gJ (eF gJ (dJ 0) (dJ 3)) (dJ 5)) (uC .none))) (fA (eF mU (dJ 6) (uC .none)))) (lS 4 jc (dM (eR (dM (eF ie (eF gJ (eF gJ (dJ 0) (dJ 3)) (dJ 5)) (dJ 6)) (dM (d7 5) dR))) dR)) iA))
theorem uX (w:sH many ts)(hr:Rg many (a::rest))(hR:rest≠[]->AZ many ts Y Rc (rest.length - 1)){E:pM}:∀(post pre:List Int) (O:List (Int × Int)) (x5 x6:Option Ent),pre++post=rest->Off many ts a rest pre O->O.length<=pre.length->(∀O x5 x6,Off many ts a rest rest O->O.length<=rest.length->E.nx [some (.s (wx many ts)),some (.s (dW (a::rest))),none,some (.s (.int a)),some (.o (O.map lC)),x5,x6] n) ->
  lq (iT 5) (GU Y Rc) E (post.map .int) [some (.s (wx many ts)),some (.s (dW (a::rest))),none,some (.s (.int a)),some (.o (O.map lC)),x5,x6] n
 | [],pre,O,x5,x6,hp,hO,hl,h=>by
  rw[cj] at hp;subst hp;exact h O x5 x6 hO hl
 | b::post,pre,O,x5,x6,hp,hO,hl,h=>by
  have hb:b∈rest:=by rw[<- hp];simp
  have ha:=hr.rg a (aq ..);have OK:=hr.rg b (ai _ hb)
  have jE:pre.length<=9:=by
   have h1:=hr.len w.m1;have h2:=congrArg List.length hp;rw[aH,av] at h2;rw[av] at h1;omega
  have h9:=hr.len w.m1;obtain⟨RN,hlen⟩:=hr.less hb;rw[ar,lq,iT];rw[2];unfold GU;with_reducible generalize ht:iU _ _ _=t
  rw[d3,fc,d6,dM,d7];rw[0];rw[dM,d6,dM,d7];rw[0];rw[dM,eR,dM,d7];rw[0];rw[dM,d7];rw[0];rw[dR,dR,show ag.tuple [.int a,.int b]=dW [a,b] from rfl,my (by rw[av] at h9 ⊢;simp;omega),dR];refine hR (List.ne_nil_of_mem hb) _ RN (by rw[av] at hlen;omega) _ _ λd hd=>?_;rw[2];subst ht
  have go:∀O':List (Int × Int),Off many ts a rest (pre++[b]) O'->O'.length<=pre.length+1->lq (iT 5) (GU Y Rc) E (post.map .int) [some (.s (wx many ts)),some (.s (dW (a::rest))),none,some (.s (.int a)),some (.o (O'.map lC)),some (.s (.int b)),some (.s d)] n:=λO' Yf hl' =>
   uX w hr hR post (pre++[b]) O' _ _ (by rw[aJ];exact hp) Yf (by rw[aH,bv];exact hl') h
  rw[iU,CU,fA,eF,eF,eF,dJ];rw[0];rw[dJ];rw[0];rw[GR ha.1 ha.2,dN,dJ];rw[0];rw[GS w ha.1 ha.2 OK.1 OK.2,dN,uC,JY,dN,fu]
  have skip:(∀c r,RK many ts a b=some c->¬ gU ts (eA ((a::rest)++[a,b])) r)->Off many ts a rest (pre++[b]) O:=λpJ=>⟨λo ho=>by obtain⟨h1,h2⟩:=hO.snd o ho;exact⟨bI _ h1,h2⟩,λq hq c r hc hl=>by
   rcases aL.mp hq with hq | hq
   .exact hO.cmp q hq c r hc hl
   .have e:=au.mp hq
    subst e;exact absurd hl (pJ c r hc)⟩
  cases hh:RK many ts a b with
  | none =>
   rw[show (none:Option Int).isSome=false from rfl,if_neg (!2),if_neg (!2),iA];exact go O (skip λc r hc=>by rw[hh] at hc;cases hc) (!1)
  | some c =>
   rw[show (some c).isSome=true from rfl,if_pos rfl,fA,eF,dJ];rw[0];rw[uC];rcases DC hd with⟨r,rfl,hl',e⟩ | ⟨rfl,pJ,e⟩
   .rw[e,dN,fu,if_pos rfl,lS]
    rw[0];rw[dM,eR,dM,eF,eF,eF,dJ];rw[0];rw[dJ];rw[0];rw[GR ha.1 ha.2,dN,dJ];rw[0];rw[GS w ha.1 ha.2 OK.1 OK.2,dN,hh,dJ];rw[0];rw[show we (some c)=.int c from rfl,sj,dN,dM,d7];rw[0];rw[dR,dR,kR (by rw[ao];omega),dN];rw[2];have e2:O.map lC++[ag.tuple [.int (c+r),.int b]]=(O++[(c+r,b)]).map lC:=by rw[aO];rfl
    rw[e2];refine go _ ⟨λo ho=>?_,λq hq c' r' hc Wv=>?_⟩ (by rw[aH,bv];omega)
    .rcases aL.mp ho with ho | ho
     .obtain⟨h1,h2⟩:=hO.snd o ho
      exact⟨bI _ h1,h2⟩
     .rw[au.mp ho]
      exact⟨!4,c,r,hh,hl',rfl⟩
    .rcases aL.mp hq with hq | hq
     .exact bI _ (hO.cmp q hq c' r' hc Wv)
     .have e:=au.mp hq
      subst e;rw[hh] at hc;cases hc;rw[Wv.one hl'];simp
   .rw[e,dN,fu,if_neg (!2),iA]
    exact go O (skip λc r hc hl=>pJ ⟨hl.1.choose,hl.1.choose_spec.1⟩) (!1)
theorem A0 (w:sH many ts)(hr:Rg many (a::rest))(hR:rest≠[]->AZ many ts Y Rc (rest.length - 1))(h:∀O,Off many ts a rest rest O->O.length<=rest.length->Q (.list (O.map lC)) n):gc Rc Y [wx many ts,dW (a::rest)] n Q X:=by
 have h9:=hr.len w.m1;unfold gc F';refine⟨rfl,?_⟩;unfold iC;simp only[nU,lz,envOf,ar,bH,av,bz,Nat.reduceSub,Nat.reduceAdd,aZ,bG,bw,bg];with_reducible generalize hl:jL 4=l
 with_reducible generalize hb:d3 (fc 6 _) _=b
 rw[d3,fc,eF,dJ];rw[0];rw[uC,show gJ (dW (a::rest)) (.int 0)=some (.int a) by unfold dW;rw[eS,ar,fh],dN];rw[2];rw[d3,vB,dR];rw[2];rw[d3,nz,QC]
 have SK:∀(e:eU) n Q,e[1]? = some (some (.s (dW (a::rest))))->E9 (dJ 1) (E8 (uC (.int 1))) E7 e n Q=Q (.tuple (rest.map .int)) n:=λe n Q he=>by
  simp only[E9,dJ,he,E7,E8,uC,dW,Qw,C2 _ 1 (!2),dN];rfl
 rw[SK _ _ _ rfl];simp only[p8,dN];subst hb;refine uX w hr hR rest [] [] _ _ rfl ⟨!4,!4⟩ (ap _) λO x5 x6 hO hlen=>?_;show l _ _ _;subst hl;rw[jL];rw[0];exact h O hO hlen
end
theorem Ce (x b:Int × Int):∃r,gI false (lC x) (lC b)=some r/\(r=true->x.1<=b.1)/\(r=false->b.1<=x.1):=by
 have e0:∀i j:Int,ag.eqv (.int i) (.int j)=decide (i=j):=λi j=>by simp only[ag.eqv];rfl
 rw[lC,lC,gI,hZ,e0];by_cases h:x.1=b.1
 .rw[if_pos (decide_eq_true h)]
  obtain⟨r,hr⟩:=bX.mp (sD false [x.2] [b.2]);exact⟨r,hr,λ_=>by omega,λ_=>by omega⟩
 .rw[if_neg (by simpa using h),gI]
  exact⟨_,rfl,λz=>by have:=of_decide_eq_true z;omega,λz=>by have:=of_decide_eq_false z;omega⟩
theorem sI:∀(l:List (Int × Int)) (a:Int × Int),∃e∈a::l,iN false (lC a) (l.map lC)=lC e/\∀x∈a::l,e.1<=x.1
 | [],a=>⟨a,!4,rfl,λx hx=>by rw[au.mp hx];omega⟩
 | b::l,a=>by
  obtain⟨r,hr,h1,h2⟩:=Ce b a;rw[ar,iN,hr,bZ]
  cases r with
  | true =>
   rw[if_pos rfl];obtain⟨e,he,h3,h4⟩:=sI l b;refine⟨e,ai _ he,h3,λx hx=>?_⟩;rcases ax.mp hx with rfl | hx
   .have:=h4 b (aq ..)
    have:=h1 rfl;omega
   .exact h4 x hx
  | false =>
   rw[if_neg (!2)];obtain⟨e,he,h3,h4⟩:=sI l a;refine⟨e,?_,h3,λx hx=>?_⟩
   .rcases ax.mp he with rfl | he
    .simp
    .exact ai _ (ai _ he)
   .rcases ax.mp hx with rfl | hx
    .exact h4 x (aq ..)
    .rcases ax.mp hx with rfl | hx
     .have:=h4 a (aq ..)
      have:=h2 rfl;omega
     .exact h4 x (ai _ hx)
theorem JZ {O:List (Int × Int)}(h:O≠[]):∃e∈O,BK [.list (O.map lC)]=some (lC e)/\∀x∈O,e.1<=x.1:=by
 cases O with
 | nil=>exact absurd rfl h
 | cons a l =>
  have hc:vM false ((a::l).map lC):=λx hx=>by
   obtain⟨e,_,rfl⟩:=aM.mp hx;refine⟨⟨rfl,by simp[lC,ag.depth,ag.depthAll]⟩,λy hy=>?_⟩;obtain⟨f,_,rfl⟩:=aM.mp hy;obtain⟨r,hr,_⟩:=Ce e f;rw[hr];rfl
  obtain⟨e,h1,h2,h3⟩:=sI l a;refine⟨e,h1,?_,h3⟩;rw[ar] at hc ⊢;rw[show BK=rK false from rfl];unfold rK;simp only[];rw[if_pos hc,h2]
theorem Cf (f:Int->ag){i:Nat}{ue:UX}{Q:List ag->Int->Prop}{n:Int}:∀(ns:List Int) (acc:List ag) (env:eU),(∀k∈ns,∀Q:ag->Int->Prop,Q (f k) n->ue (env.set i (some (.s (.int k)))) n Q)->Q (acc++ns.map f) n->gA (iT i) vE ue Q (ns.map .int) acc env n
 | [],acc,env,_,h=>by simpa [gA] using h
 | k::ns,acc,env,he,h=>by
  rw[ar,gA,iT,vE,if_pos rfl];refine he k (aq ..) _ (Cf f ns _ _ (λj hj Q hq=>by rw[dI];exact he j (ai _ hj) Q hq) ?_);rw[aJ];exact h
theorem AZ.mono {many:Int}{ts:List eE}{Y:kz}{Rc:kz->UF}{l m:Nat}(h:AZ many ts Y Rc m)(hl:l<=m):AZ many ts Y Rc l:=λtold hr hm=>h told hr (!1)
section
variable {n:Int}{X:XQ}{Q:ag->Int->Prop}{many a:Int}{ts:List eE}{rest:List Int}
theorem sJ (w:sH many ts):∀d,AZ many ts (Og many w.m1 ts) (gf (d+1)) (2 * d+1):=λd told hr hl n Q h=>by
 rw[gf];unfold iZ F';refine⟨rfl,?_⟩;unfold iY Ga;simp only[nU,lz,envOf,ar,bH,av,bz,Nat.reduceSub,Nat.reduceAdd,aZ,bG,bw,bg];refine⟨told,rfl,hr.sub,λd hd=>h d hd,λhV=>?_⟩
 cases told with
 | nil=>exact absurd rfl hV
 | cons a rest =>
  rw[fc,d6,dM,d7];rw[0];rw[dM,d7];rw[0];rw[dR];rw[av] at hl;refine A0 w hr (λhn=>?_) λO hO Ze=>?_
  .cases d with
   | zero=>exact absurd (cE (!1)) hn
   | succ d=>exact (sJ w d).mono (!1)
  .rw[2]
   refine⟨rfl,?_⟩;rw[EX,fA,eF,uf,dM,dJ];rw[0];rw[dR];simp only[xC,ao,dN];rw[uC,show OD (.int (O.length:Int)) (.int 0)=some (.bool (decide ((O.length:Int) > 0))) from rfl,dN,fu];by_cases h0:O=[]
   .subst h0
    rw[if_neg (!2),uC];exact⟨rfl,.inr ⟨rfl,hO.none w hr rfl⟩,h _ (.inr ⟨rfl,hO.none w hr rfl⟩)⟩
   .obtain⟨e,he,hm,lr⟩:=JZ h0
    rw[if_pos (by have:=List.length_pos_iff.mpr h0;exact decide_eq_true (!1)),eF,uf,dM,dJ];rw[0];rw[dR,hm,dN,uC,lC,eS,fh,dN];have hL:=hO.least w hr he lr;exact⟨rfl,.inl ⟨_,rfl,hL⟩,h _ (.inl ⟨_,rfl,hL⟩)⟩
theorem yR {place:Int}(wp:sH many ts)(p0:0<=place)(p1:place<many)(h:Q (Dw (gr many.toNat ts place)) n):ir [fy many ts,.int place] n Q X:=by
 have e0:fy many ts=.tuple [.int many,.tuple (ts.map fk)]:=rfl;have m1:=wp.m1;have jE:=wp.hp;have hg:=wp.RL p0 p1;generalize gr many.toNat ts place=hs at hg h;have hl:=hg.len;unfold ir jo;simp only[nU,lz,envOf,ar,bH,av,bz,Nat.reduceSub,Nat.reduceAdd,aZ,bG,bw,bg];with_reducible generalize GI:g6 _=tr
 rw[true_and,d3,fc,d6,dM,d7];rw[0];rw[dM,d7];rw[0];rw[dR];refine wm wp.w jE wp.len (!1) p0 p1 λK kvs hT hc=>?_;rw[2];rw[<- GI,g6,uf,dM,uL,i9,QF,eF,dJ];rw[0];rw[uC,e0,eS,fh,dN,<- e0];refine⟨⟨!1,!1⟩,?_⟩;simp only[pO,ar,bH,Option.join_some,af,ae]
 rw[qz,mE (λv=>we (mn hs v)) (λ_=>true) _ _ _ _ (λv hv n Q=>by
  have hv:=fM.mp hv;have hH:=hT.Oa jE hc hg (v:=v) hv.1 (!1);have k1:∀n Q,dJ 0 [some (.s (.int v)),some (.s (fg false kvs))] n Q=Q (.int v) n:=λn Q=>by simp only[dJ,af]
  have k2:∀n Q,dJ 1 [some (.s (.int v)),some (.s (fg false kvs))] n Q=Q (fg false kvs) n:=λn Q=>by simp only[dJ,af,ae]
  rw[aC,EX,fA,wj k1 k2,fu]
  cases hv:mn hs v with
  | none =>
   rw[hv] at hH;have hH:eO kvs [v]=none:=hH;rw[hH];rfl
  | some c =>
   rw[hv] at hH;obtain⟨es,ps,_,e⟩:=hH;rw[e,Option.isSome_some,if_pos rfl,eF,Ca k1 k2 e,uC,eS,fh,dN];rfl) (λv _ n Q=>by simp! [d3]),bg]
 have e1:((fS 0 many.toNat).filter λ_=>true).map (λv=>we (mn hs v))=hs.map we:=by
  rw[List.filter_eq_self.mpr (!4)];refine List.ext_getElem? λi=>?_;unfold fS;rw[aB,aB,aB];by_cases hi:i<many.toNat
  .rw[cV hi,aK (!1)]
   simp only[bW,mn];rw[show (0+(i:Int)).toNat=i by omega,am,aK (!1)];rfl
  .rw[bL (by simp;omega),bL (!1)]
   rfl
 rw[dR,e1];simp only[jk,dN];exact h
theorem sL (wp:sH many ts)(m0:1<=many)(h:Q (wx many ts) n):iI [fy many ts] n Q X:=by
 have e0:fy many ts=.tuple [.int many,.tuple (ts.map fk)]:=rfl;have m1:=wp.m1;unfold iI j8;simp only[nU,lz,envOf,ar,bH,av,bz,Nat.reduceSub,Nat.reduceAdd,aZ,bG,bw,bg];rw[true_and,g6,uL,i9,QF,eF,dJ];rw[0];rw[uC,e0,eS,fh,dN,<- e0];refine⟨⟨!1,!1⟩,?_⟩;simp only[pO,ar,bH,Option.join_some,af,ae];rw[qz];refine Cf (λu=>Dw (gr many.toNat ts u)) _ [] _ (λk hk Q hq=>?_) h;have hk:=fM.mp hk;simp only[aC];rw[d6,dM,d7];rw[0];rw[dM,d7];rw[0];rw[dR];exact yR wp hk.1 (!1) hq
theorem DD (hp:Plain ts):gU ts [] 0:=⟨⟨[],⟨λk hk=>(nomatch hk),cL,λv=>by simp[d5]⟩,rfl⟩,λs hs=>jD hp hs.num⟩
end
theorem J1 (m:Nat)(p:Int->Bool):(GF m p).length<=m:=by have:=cc p (fS 0 m);rwa [fN] at this
theorem Oh (m:Nat)(p:Int->Bool):(GF m p).Pairwise (· < ·):=(mM m).sublist cZ
noncomputable def eY (ts:List eE):List Int:=GF ts.length λk=>decide (jG ts k<0)
noncomputable def je (t:eE):eE:=(t.1,t.2.1,if t.2.2<0 then -t.2.2 else t.2.2)
noncomputable def yS (ts:List eE)(told:List Int):List Int:=eA (told++eA (d5 ts (eY ts)))
theorem kK (ts:List eE):fQ ts (eY ts):=λk hk=>N1 hk
theorem sM (ts:List eE):(eY ts).Nodup:=lu (Oh _ _)
theorem uY {ts:List eE}{k:Int}(h:0<=k/\k<(ts.length:Int)):k∈eY ts↔jG ts k<0:=by
 unfold eY GF;rw[aN,fM];exact⟨λz=>of_decide_eq_true z.2,λz=>⟨!1,decide_eq_true z⟩⟩
theorem Cg (ts:List eE)(k:Int):(ts.map je).getD k.toNat (0,0,0)=je (ts.getD k.toNat (0,0,0)):=by
 rw[am,am,aB];cases ts[k.toNat]?<;>rfl
theorem GV (ts:List eE):jz (ts.map je)=jz ts:=funext λk=>by unfold jz;rw[Cg];rfl
theorem uZ (ts:List eE)(ks:List Int):d5 (ts.map je) ks=d5 ts ks:=by unfold d5;rw[GV]
theorem Ci (ts:List eE)(k:Int):jG (ts.map je) k=if jG ts k<0 then -jG ts k else jG ts k:=by unfold jG;rw[Cg];rfl
theorem qJ {ts:List eE}{s:List Int}:fQ (ts.map je) s↔fQ ts s:=by unfold fQ;rw[ao]
theorem DE (ts:List eE):Plain (ts.map je):=λt ht=>by
 obtain⟨u,_,rfl⟩:=aM.mp ht;show (0:Int)<=if u.2.2<0 then -u.2.2 else u.2.2;split<;>omega
theorem J2 {many:Int}{ts:List eE}(w:kH many ts)(hl:ts.length<=16):sH many (ts.map je):=by
 refine⟨w.m1,λt ht=>?_,DE ts,λt ht=>?_,by rw[ao];exact hl⟩
 .obtain⟨u,hu,rfl⟩:=aM.mp ht
  have:=w.ok u hu;have a0:=this.a0;have ab:=this.ab;have bm:=this.bm;exact⟨a0,by show u.1<many;omega,by show (0:Int)<=u.2.1;omega,bm⟩
 .obtain⟨u,hu,rfl⟩:=aM.mp ht
  have:=(w.ok u hu).pl;show (if u.2.2<0 then -u.2.2 else u.2.2).natAbs<=99;split<;>omega
theorem DF {ts us:List eE}{s:List Int}(h:∀k∈s,jG ts k=jG us k):eC ts s=eC us s:=by unfold eC;rw[bu h]
theorem yT {ts us:List eE}:∀{s:List Int},(∀k∈s,jG ts k=-jG us k)->eC ts s=-eC us s
 | [],_=>rfl
 | k::s,h=>by
  have e1:eC ts (k::s)=jG ts k+eC ts s:=rfl;have e2:eC us (k::s)=jG us k+eC us s:=rfl;rw[e1,e2,h k (aq ..),yT λj hj=>h j (ai _ hj)];omega
theorem yU {ts:List eE}{s:List Int}(hs:fQ ts s)(hn:s.Nodup):eC ts (eA (s++eY ts))=eC (ts.map je) s+eC ts (eY ts):=by
 have h1:=NU (ts:=ts) (sM ts) hn;rw[DA (eY ts) s];unfold Vc at h1;have h2:=kW (ts.map je) (λk=>decide (k∈eY ts)) s
 have h3:eC (ts.map je) (s.filter λk=>decide (k∈eY ts))=-eC ts (s.filter λk=>decide (k∈eY ts)):=yT λk hk=>by
  obtain⟨a,b⟩:=aN.mp hk;have:=(uY (hs k a)).mp (of_decide_eq_true b);rw[Ci,if_pos this]
 have h4:eC (ts.map je) (s.filter λk=>!decide (k∈eY ts))=eC ts (s.filter λk=>!decide (k∈eY ts)):=DF λk hk=>by
  obtain⟨a,b⟩:=aN.mp hk;have:¬ jG ts k<0:=λz=>by have:=(uY (hs k a)).mpr z;simp[this] at b
  rw[Ci,if_neg this]
 omega
theorem sN (ts:List eE):fC ts (eA (d5 ts (eY ts))) (eY ts):=⟨kK ts,sM ts,λv=>e8.symm⟩
theorem yV {ts:List eE}{T s:List Int}:fC (ts.map je) T s↔fC ts T s:=⟨λh=>⟨qJ.mp h.num,h.nd,λv=>by rw[<- uZ];exact h.odd v⟩,λh=>⟨qJ.mpr h.num,h.nd,λv=>by rw[uZ];exact h.odd v⟩⟩
theorem yW {ts:List eE}{told:List Int}(h:told.Nodup){v:Int}:v∈yS ts told↔¬ (v∈told↔v∈eA (d5 ts (eY ts))):=kF h (gM _)
theorem u3 {ts:List eE}{T s:List Int}(hT:T.Nodup)(h:fC ts T s):fC (ts.map je) (yS ts T) (eA (s++eY ts)):=yV.mpr (h.turns (sN ts) λv=>yW hT)
theorem DG {ts:List eE}{T s:List Int}(hT:T.Nodup)(h:fC (ts.map je) (yS ts T) s):fC ts T (eA (s++eY ts)):=(yV.mp h).turns (sN ts) λv=>by
 rw[yW hT];by_cases a:v∈T<;>by_cases b:v∈eA (d5 ts (eY ts))<;>simp[a,b]
theorem A1 {a b:List Int}(ha:a.Nodup)(hb:b.Nodup):(eA (eA (a++b)++b)).Perm a:=(bK (gM _) ha).mpr λv=>by
 rw[kF (gM _) hb,kF ha hb];by_cases x:v∈a<;>by_cases y:v∈b<;>simp[x,y]
theorem J' {ts:List eE}{T:List Int}(hT:T.Nodup)(h:¬ ∃s,fC (ts.map je) (yS ts T) s):¬ ∃s,fC ts T s:=λ⟨s,hs⟩=>h ⟨_,u3 hT hs⟩
theorem A2 {ts:List eE}{T:List Int}{c:Int}(hT:T.Nodup)(h:gU (ts.map je) (yS ts T) c):gU ts T (c+eC ts (eY ts)):=by
 obtain⟨⟨s,hs,rfl⟩,hl⟩:=h;refine⟨⟨_,DG hT hs,yU (qJ.mp hs.num) hs.nd⟩,λs' ly=>?_⟩;have h1:=u3 hT ly;have h2:=hl _ h1;have h3:=yU (ts:=ts) (s:=eA (s'++eY ts)) (qJ.mp h1.num) h1.nd;rw[iF (A1 ly.nd (sM ts))] at h3;omega
theorem Ka {many:Int}{ts:List eE}{told:List Int}(w:kH many ts)(h:Rg many told):Rg many (yS ts told):=⟨gY _,λv hv=>by
 have h1:=e8.mp hv;have h2:v∈told++eA (d5 ts (eY ts)):=ce.mp (!1);rcases aL.mp h2 with h2 | h2
 .exact h.rg v h2
 .exact wq w (kK ts) v h2⟩
section
variable {n:Int}{X:XQ}{Q:ag->Int->Prop}
theorem yX {many:Int}{ts:List eE}:oM [fy many ts] n Q X=Q (dW (eY ts)) n:=by
 rw[fy];simp! [oM,wc,fm,T8,yJ fk (0,0,0)]
 rw[mw (λenv=>∃x y,env=[x,y]) _ (λk=>.int k) (λk=>decide (jG ts k<0)) _ _ _ (λk hk env ⟨x,y,he⟩=>by
  subst he;exact⟨[some (.s (.int k)),some (.s (fk (ts.getD k.toNat (0,0,0))))],⟨_,_,rfl⟩,λK=>by simp! [d3],λn Q=>by rw[fk];simp! [fW,EZ];rfl,λn Q=>by simp! [d3]⟩) ⟨_,_,rfl⟩]
 simp! [jk];rfl
theorem DH {many:Int}{ts:List eE}:oN [fy many ts] n Q X=Q (fy many (ts.map je)) n:=by
 have e0:fy many ts=.tuple [.int many,.tuple (ts.map fk)]:=rfl;rw[e0];simp! [oN,rY,fh,fm]
 rw[mw (λenv=>∃x y z,env=[x,y,z]) fk (λt=>fk (je t)) (λ_=>true) _ _ _ (λt ht env ⟨x,y,z,he⟩=>by
  subst he;refine⟨[some (.s (.int t.2.1)),some (.s (.int t.1)),some (.s (.int t.2.2))],⟨_,_,_,rfl⟩,λK=>by rw[fk];simp! [d3],λn Q=>by simp! [d3],λn Q=>by simp! [Fb,je,fk]⟩) ⟨_,_,_,rfl⟩]
 rw[k9,bg];simp! [jk];rw[fy,bp];rfl
theorem sO {many:Int}{ts:List eE}(w:kH many ts)(hl:ts.length<=16){told:List Int}(ht:told.length<=20):iH [fy many ts,dW told] n Q X=Q (dW (yS ts told)) n:=by
 have hb:=J1 ts.length λk=>decide (jG ts k<0);have h9:=yO w (kK ts);unfold iH j7;simp only[nU,lz,envOf,ar,bH,av,bz,Nat.reduceSub,Nat.reduceAdd,aZ,bG,bw,bg];simp only[g6,d6,dM,d7,dR,true_and,af,ae];rw[yX,AO (kK ts) (show 2 * (eY ts).length<=60 by unfold eY;omega),my (show told.length+(eA (d5 ts (eY ts))).length<=60 by omega)];rfl
end
theorem Kb {ts:List eE}{s:List Int}(h:fQ ts s)(hn:s.Nodup):s.length<=ts.length:=by
 have:=gk hn (ns:=fS 0 ts.length) λk hk=>fM.mpr (by have:=h k hk;omega);rwa [fN] at this
theorem RO:((i6 9).map uz).Nodup:=by decide +kernel
theorem GW {α β:Type}{f:α->β}:∀{l:List α},(l.map f).Nodup->∀{a b:α},a∈l->b∈l->f a=f b->a=b
 | c::l,h,a,b,ha,hb,e=>by
  rw[ar] at h;obtain⟨h1,h2⟩:=bf.mp h;rcases ax.mp ha with e1 | lp<;>rcases ax.mp hb with e2 | y'
  .rw[e1,e2]
  .exact absurd (aM.mpr ⟨b,y',by rw[<- e,e1]⟩) h1
  .exact absurd (aM.mpr ⟨a,lp,by rw[e,e2]⟩) h1
  .exact GW h2 lp y' e
theorem Kc {kvs:fI}(hn:(kvs.map (·.1)).Nodup)(hs:∀p∈kvs,p.1∈i6 9):(kvs.map λp=>uz p.1).Nodup:=by
 induction kvs with
 | nil=>exact cL
 | cons p t ih =>
  rw[ar] at hn ⊢;obtain⟨h1,h2⟩:=bf.mp hn;refine bf.mpr ⟨λz=>?_,ih h2 λq hq=>hs q (ai _ hq)⟩;obtain⟨q,hq,e⟩:=aM.mp z;have:=GW RO (hs q (ai _ hq)) (hs p (aq ..)) e;exact h1 (aM.mpr ⟨q,hq,this⟩)
inductive tu (ts:List eE) (k:Nat):List Int->ag->Prop
 | mk (s:List Int) (h:s.Sublist (fS 0 k)):tu ts k (eA (d5 ts s)) (.tuple [.int (eC ts s),dW s])
structure yY (ts:List eE) (k:Nat) (kvs:fI):Prop where
 nd:(kvs.map (·.1)).Nodup
 row:∀p∈kvs,tu ts k p.1 p.2
inductive tw (kvs:fI) (T:List Int) (c:Int):Prop
 | mk (c':Int) (x:ag) (h:eO kvs T=some (.tuple [.int c',x])) (hc:c'<=c)
structure nS (ts:List eE) (k:Nat) (kvs:fI):Prop where
 snd:yY ts k kvs
 low:∀s:List Int,s.Sublist (fS 0 k)->tw kvs (eA (d5 ts s)) (eC ts s)
structure tD (ts:List eE) (k:Nat) (kvs:fI) (pre:List (List Int)) (mv:fI):Prop where
 snd:yY ts (k+1) mv
 old:∀T c,tw kvs T c->tw mv T c
 new:∀s:List Int,s.Sublist (fS 0 k)->eA (d5 ts s)∈pre->tw mv (eA (d5 ts (s++[(k:Int)]))) (eC ts s+jG ts k)
theorem qK {ts:List eE}{k:Nat}(hk:k<=ts.length){s:List Int}(h:s.Sublist (fS 0 k)):fQ ts s:=λi hi=>by
 have:=fM.mp (h.subset hi);omega
theorem GX {many:Int}{ts:List eE}(w:kH many ts){k:Nat}(hk:k<=ts.length){T:List Int}{v:ag}(h:tu ts k T v):T∈i6 9:=by
 obtain⟨s,h⟩:=h;have m1:=w.m1;exact Rg.sub (many:=9) ⟨gY _,λv hv=>by have:=wq w (qK hk h) v hv;omega⟩
theorem yY.len {many:Int}{ts:List eE}{kvs:fI}(w:kH many ts){k:Nat}(hk:k<=ts.length)(h:yY ts k kvs):kvs.length<=512:=by
 have:=F9 h.nd (m:=i6 9) λT hT=>by
  obtain⟨p,hp,rfl⟩:=aM.mp hT;exact GX w hk (h.row p hp)
 rw[ao,kI] at this;exact this
theorem yY.hash {many:Int}{ts:List eE}{kvs:fI}(w:kH many ts){k:Nat}(hk:k<=ts.length)(h:yY ts k kvs):(kvs.map λp=>uz p.1).Nodup:=Kc h.nd λp hp=>GX w hk (h.row p hp)
theorem yY.val {ts:List eE}{kvs:fI}{k:Nat}(h:yY ts k kvs){T:List Int}{v:ag}(e:eO kvs T=some v):tu ts k T v:=h.row _ (oJ e)
theorem tu.more {ts:List eE}{k:Nat}{T:List Int}{v:ag}(h:tu ts k T v):tu ts (k+1) T v:=by
 obtain⟨s,h⟩:=h;exact .mk s (by rw[mN];exact h.trans (List.sublist_append_left _ _))
theorem nS.nil (ts:List eE):nS ts 0 [([],.tuple [.int 0,.tuple []])]:=by
 have e0:eA (d5 ts [])=[]:=List.eq_nil_iff_forall_not_mem.mpr λv hv=>by have:=e8.mp hv;simp[d5] at this
 refine⟨⟨!4,λp hp=>?_⟩,λs hs=>?_⟩
 .rw[au.mp hp]
  have:=tu.mk (ts:=ts) (k:=0) [] (List.nil_sublist _);rw[e0] at this;exact this
 .have:s=[]:=List.sublist_nil.mp hs
  subst this;rw[e0];exact .mk 0 (.tuple []) rfl (bF _)
theorem nS.mid {ts:List eE}{k:Nat}{kvs:fI}(h:nS ts k kvs):tD ts k kvs [] kvs:=⟨⟨h.snd.nd,λp hp=>(h.snd.row p hp).more⟩,λ_ _ h=>h,λ_ _ z=>by cases z⟩
theorem tD.done {ts:List eE}{k:Nat}{kvs mv:fI}(h:nS ts k kvs)(hm:tD ts k kvs (kvs.map (·.1)) mv):nS ts (k+1) mv:=by
 refine⟨hm.snd,λs hs=>?_⟩;rw[mN] at hs;obtain⟨s1,s2,rfl,h1,h2⟩:=List.sublist_append_iff.mp hs;have key:=h.low s1 h1
 cases s2 with
 | nil=>rw[cj];exact hm.old _ _ key
 | cons x l =>
  have hl:l=[]:=by have:=h2.length_le;simp at this;exact this
  subst hl;have hx:x=(k:Int):=by simpa using h2.subset (au.mpr rfl)
  subst hx;obtain⟨c',y,e,_⟩:=key;have:=hm.new s1 h1 (aM.mpr ⟨_,oJ e,rfl⟩);rw[iP,show eC ts [(k:Int)]=jG ts k by simp[eC]];exact this
theorem tw.put {mv:fI}{T T':List Int}{c c2:Int}{x:ag}(h:tw mv T c)(gh:T=T'->c2<=c):tw (gQ mv T' (.tuple [.int c2,x])) T c:=by
 by_cases e:T=T'
 .exact .mk c2 x (by rw[mm,if_pos e]) (gh e)
 .obtain⟨c',y,h1,h2⟩:=h
  exact .mk c' y (by rw[mm,if_neg e];exact h1) h2
theorem Cj {kvs:fI}{k:List Int}{d:ag}{P:List Int->ag->Prop}(h:∀p∈kvs,P p.1 p.2)(hk:P k d):∀p∈gQ kvs k d,P p.1 p.2:=λp hp=>by
 unfold gQ at hp;split at hp
 .obtain⟨q,hq,rfl⟩:=aM.mp hp
  split
  .rename_i e;rw[e];exact hk
  .exact h q hq
 .rcases aL.mp hp with hp | hp
  .exact h p hp
  .rw[au.mp hp];exact hk
theorem GY {kvs:fI}{k:List Int}{d:ag}(h:(kvs.map (·.1)).Nodup):((gQ kvs k d).map (·.1)).Nodup:=by
 have e:=yH kvs k d;unfold ja at e;rw[e];split
 .exact h
 .rename_i hk
  refine cz.mpr ⟨h,!4,λa ha b hb z=>?_⟩;rw[au.mp hb] at z;exact hk (z ▸ ha)
theorem tD.step {ts:List eE}{k:Nat}{kvs mv:fI}{pre:List (List Int)}(h:nS ts k kvs)(hm:tD ts k kvs pre mv){s:List Int}(hs:s.Sublist (fS 0 k))(hv:eO kvs (eA (d5 ts s))=some (.tuple [.int (eC ts s),dW s])) :
  (∀c x,eO mv (eA (d5 ts (s++[(k:Int)])))=some (.tuple [.int c,x])->¬ eC ts s+jG ts k<c->tD ts k kvs (pre++[eA (d5 ts s)]) mv) /\
  ((∀c x,eO mv (eA (d5 ts (s++[(k:Int)])))=some (.tuple [.int c,x])->eC ts s+jG ts k<c)->tD ts k kvs (pre++[eA (d5 ts s)]) (gQ mv (eA (d5 ts (s++[(k:Int)]))) (.tuple [.int (eC ts s+jG ts k),dW (s++[(k:Int)])]))):=by
 have same:∀s':List Int,eA (d5 ts s')=eA (d5 ts s)->eA (d5 ts (s'++[(k:Int)]))=eA (d5 ts (s++[(k:Int)])):=λs' e=>by rw[iw,iw,<- pI,e,pI]
 have low:∀s':List Int,s'.Sublist (fS 0 k)->eA (d5 ts s')=eA (d5 ts s)->eC ts s<=eC ts s':=λs' ly e=>by
  obtain⟨c',x,h1,h2⟩:=h.low s' ly;rw[e,hv] at h1;injection h1 with h1;injection h1 with h1;injection h1 with h1 h3;injection h1 with h1;omega
 constructor
 .intro c x e hc
  refine⟨hm.snd,hm.old,λs' ly hp=>?_⟩;rcases aL.mp hp with hp | hp
  .exact hm.new s' ly hp
  .have e2:=au.mp hp
   rw[same s' e2];exact .mk c x e (by have:=low s' ly e2;omega)
 .intro gh
  have Ge:∀T c,tw mv T c->tw (gQ mv (eA (d5 ts (s++[(k:Int)]))) (.tuple [.int (eC ts s+jG ts k),dW (s++[(k:Int)])])) T c:=λT c hL=>hL.put λz=>by
   obtain⟨c',x,h1,h2⟩:=hL;rw[z] at h1;have:=gh c' x h1;omega
  have hc:eC ts (s++[(k:Int)])=eC ts s+jG ts k:=by rw[iP,show eC ts [(k:Int)]=jG ts k by simp[eC]]
  refine⟨⟨GY hm.snd.nd,Cj hm.snd.row ?_⟩,λT c hL=>Ge T c (hm.old T c hL),λs' ly hp=>?_⟩
  .rw[<- hc]
   exact .mk _ (by rw[mN];exact hs.append (List.Sublist.refl _))
  .rcases aL.mp hp with hp | hp
   .exact Ge _ _ (hm.new s' ly hp)
   .have e2:=au.mp hp
    rw[same s' e2];exact .mk _ _ (by rw[mm,if_pos rfl]) (by have:=low s' ly e2;omega)
theorem nS.least {ts:List eE}{kvs:fI}(h:nS ts ts.length kvs){told:List Int}(ht:told.Pairwise (· < ·)):(eO kvs told=none/\¬ ∃s,fC ts told s)\/∃c x,eO kvs told=some (.tuple [.int c,x])/\gU ts told c:=by
 have key:∀s,fC ts told s->tw kvs told (eC ts s):=λs hs=>by
  have hp:(sortI s).Perm s:=sortI_perm s
  have ID:(sortI s).Sublist (fS 0 ts.length):=by
   have gh:(sortI s).Pairwise (· < ·):=jI (gm s) (hp.nodup_iff.mpr hs.nd)
   have e:sortI s=(fS 0 ts.length).filter λk=>decide (k∈s):=rD gh ((mM _).sublist cZ) λk=>by
    rw[aN,fM,hp.mem_iff];exact⟨λhk=>⟨by have:=hs.num k hk;omega,decide_eq_true hk⟩,λhk=>of_decide_eq_true hk.2⟩
   rw[e];exact cZ
  have e:eA (d5 ts (sortI s))=told:=rD (gY _) ht λv=>by
   rw[e8,(jB hp).count_eq];exact hs.odd v
  have:=h.low _ ID;rw[e,iF hp] at this;exact this
 cases hv:eO kvs told with
 | none=>exact .inl ⟨rfl,λ⟨s,hs⟩=>by obtain⟨c,x,e,_⟩:=key s hs;rw[hv] at e;cases e⟩
 | some v =>
  have hr:=h.snd.val hv;obtain⟨s,hs⟩:=hr;refine .inr ⟨_,_,rfl,⟨s,⟨qK (ap _) hs,lu ((mM _).sublist hs),λv=>e8.symm⟩,rfl⟩,λs' ly=>?_⟩;obtain⟨c',x,e,lr⟩:=key s' ly;rw[hv] at e;injection e with e;injection e with e;injection e with e e2;injection e with e;omega
theorem DI (k:List Int):lB true (dW k)=some k:=by simp only[lB,dW,g7]
section
variable {n:Int}{X:XQ}{Q:ag->Int->Prop}{many:Int}{ts:List eE}
theorem tu.ex {k:Nat}{T:List Int}{v:ag}(h:tu ts k T v):∃c x,v=.tuple [.int c,x]:=by cases h;exact⟨_,_,rfl⟩
noncomputable def GZ:US:=(d3 (fc 6 (d6 gg (dM (d7 5) (dM (E9 (dJ 3) E7 (E8 (uC (.int 2)))) dR))))
 (d3 (fc 7 (eR (dM (eF ie (eF gJ (pT 1 (dJ 5)) (!22)) (eF gJ (dJ 3) (uC (.int 2)))) (dM (eF ie (eF gJ (pT 1 (dJ 5)) (uC (.int 1))) (eR (dM (d7 2) dR))) dR))))
 (iU (M1 (fA (BY 4 (dJ 6))) (fA (eF EZ (eF gJ (dJ 7) (!22)) (eF gJ (yf 4 (dJ 6)) (!22))))) (ng 4 (dJ 6) (d7 7)) iA)))
theorem yZ (w:kH many ts)(hl:ts.length<=16){k:Nat}{t:eE}(ht:ts[k]? = some t){kvs:fI}(hT:nS ts k kvs){a b:Addr}{o:Obj}{xs:List V}{E:pM}:∀(post pre:List (List Int)) (mv:fI) (x5 x6 x7:Option Ent),pre++post=kvs.map (·.1)->tD ts k kvs pre mv ->
  (∀(mv:fI) (x5 x6 x7:Option Ent),tD ts k kvs (kvs.map (·.1)) mv->(∀e,x5=some e\/x6=some e\/x7=some e->∃d,e=.s d)->E.nx [some (.s (fy many ts)),some (.f a o kvs xs),some (.s (.int k)),some (.s (fk t)),some (.d b true mv),x5,x6,x7] n)->(∀e,x5=some e\/x6=some e\/x7=some e->∃d,e=.s d) ->
  nJ 1 (.f a o kvs xs) (iT 5) GZ E (post.map dW) [some (.s (fy many ts)),some (.f a o kvs xs),some (.s (.int k)),some (.s (fk t)),some (.d b true mv),x5,x6,x7] n
 | [],pre,mv,x5,x6,x7,hp,hm,h,hx=>by
  rw[cj] at hp;subst hp;exact⟨rfl,h mv x5 x6 x7 hm hx⟩
 | T::post,pre,mv,x5,x6,x7,hp,hm,h,hx=>by
  have hk:k<ts.length:=(aA.mp ht).1;have Ww:T∈kvs.map (·.1):=by rw[<- hp];simp
  obtain⟨p,DU,rfl⟩:=aM.mp Ww;obtain⟨v,hv⟩:=bX.mp (sC.mpr Ww);have oE:=hT.snd.val hv;generalize p.1=T at *;obtain⟨s,hs⟩:=oE;have Vl:fQ ts s:=qK (k:=k) (!1) hs;have SK:s.length<=16:=by have:=hs.length_le;rw[fN] at this;omega
  have ek:jG ts k=t.2.2:=Oe ht;obtain⟨s1,s2⟩:=hm.step hT hs hv;have hlen:=hm.snd.len w (!1);have i2:gJ (fk t) (.int 2)=some (.int t.2.2):=by rw[fk,eS,fW]
  refine⟨rfl,?_⟩;rw[iT];rw[2];unfold GZ;with_reducible generalize RP:d3 (fc 7 _) _=tl
  rw[d3,fc,d6,dM,d7];rw[0];rw[dM];have Vm:∀(e:eU) n Q,e[3]? = some (some (.s (fk t)))->E9 (dJ 3) E7 (E8 (uC (.int 2))) e n Q=Q (.tuple [.int t.1,.int t.2.1]) n:=λe n Q he=>by simp only[E9,dJ,he,E7,E8,uC,Mp,dN]
  rw[Vm _ _ _ rfl,dR,GP w Vl (k:=(k:Int)) (!1) ht];rw[2];subst RP;with_reducible generalize RP:iU _ _ _=tl
  have Wx:∀(e:eU) n Q,e[1]? = some (some (.f a o kvs xs))->e[5]? = some (some (.s (dW (eA (d5 ts s)))))->pT 1 (dJ 5) e n Q=Q (.tuple [.int (eC ts s),dW s]) n:=λe n Q h1 h5=>by simp only[pT,h1,dJ,h5,DI,dN,hv]
  rw[d3,fc,eR,dM,eF,eF,Wx _ _ _ rfl rfl,uC,eS,fh,dN,eF,dJ];rw[0];rw[uC,i2,dN,sj,dN,dM,eF,eF,Wx _ _ _ rfl rfl,uC,eS,fm,dN,eR,dM,d7];rw[0]
  have ea:ie (dW s) (.tuple [.int (k:Int)])=some (dW (s++[(k:Int)])):=by
   unfold dW;rw[zZ (by rw[ao];simp;omega),aO];rfl
  rw[dR,ea,dN,dR];rw[2];rw[<- ek];subst RP;generalize eA (d5 ts (s++[(k:Int)]))=T' at *
  have go:∀SO:fI,tD ts k kvs (pre++[eA (d5 ts s)]) SO->nJ 1 (.f a o kvs xs) (iT 5) GZ E (post.map dW) [some (.s (fy many ts)),some (.f a o kvs xs),some (.s (.int k)),some (.s (fk t)),some (.d b true SO),some (.s (dW (eA (d5 ts s)))),some (.s (dW T')),some (.s (.tuple [.int (eC ts s+jG ts k),dW (s++[(k:Int)])]))] n:=λSO Ov =>
   yZ w hl ht hT post (pre++[eA (d5 ts s)]) SO _ _ _ (by rw[aJ];exact hp) Ov h λe he=>by
    rcases he with he | he | he<;>exact⟨_,(Option.some.inj he).symm⟩
  have put:(∀c x,eO mv T'=some (.tuple [.int c,x])->eC ts s+jG ts k<c)->ng 4 (dJ 6) (d7 7) { nx:=nJ 1 (.f a o kvs xs) (iT 5) GZ E (post.map dW),rt:=E.rt } [some (.s (fy many ts)),some (.f a o kvs xs),some (.s (.int k)),some (.s (fk t)),some (.d b true mv),some (.s (dW (eA (d5 ts s)))),some (.s (dW T')),some (.s (.tuple [.int (eC ts s+jG ts k),dW (s++[(k:Int)])]))] n:=λgh=>by
   rw[ng,d7];rw[0];rw[dJ];rw[0];rw[DI,dN];refine⟨⟨by rw[show az=16777216 by decide];omega,λj t' kv hj z=>?_⟩,?_⟩
   .match j,hj,z with
    | 0,_,z=>simp at z
    | 1,_,z=>simp at z
    | 2,_,z=>simp at z
    | 3,_,z=>simp at z
    | 4,hj,_=>exact hj rfl
    | 5,_,z=>simp at z
    | 6,_,z=>simp at z
    | 7,_,z=>simp at z
    | j+8,_,z=>simp at z
   .rw[2]
    exact go _ (s2 gh)
  rw[iU,M1,fA,BY,dJ];rw[0];rw[DI,dN,fu]
  cases wD:eO mv T' with
  | none =>
   rw[show (!(none:Option ag).isSome)=true from rfl,if_pos rfl,if_pos trivial];exact put λc x e=>by rw[wD] at e;cases e
  | some v' =>
   have Sa:=hm.snd.val wD;obtain⟨c',x',rfl⟩:=Sa.ex;rw[show (!(some (ag.tuple [ag.int c',x'])).isSome)=false from rfl,if_neg (!2),fA,eF,eF,dJ];rw[0];rw[uC,eS,fh,dN,eF,yf];rw[0];rw[dJ];rw[0];rw[DI,dN,wD,dN,uC,eS,fh,dN,EZ,dN,fu];by_cases gh:eC ts s+jG ts k<c'
   .rw[if_pos (decide_eq_true gh)]
    exact put λc x e=>by
     rw[wD] at e;injection e with e;injection e with e;injection e with e e2;injection e with e;omega
   .rw[if_neg (by simpa using gh),iA]
    exact go mv (s1 _ _ wD gh)
noncomputable def RQ:US:=(d3 (ph 4 1) (d3 (yn 1 (iT 5) GZ) (rT 1 4)))
theorem wy (w:kH many ts)(hl:ts.length<=16)(h:∀kvs,nS ts ts.length kvs->Q (fg true kvs) n):jW [fy many ts] n Q X:=by
 have e0:fy many ts=.tuple [.int many,.tuple (ts.map fk)]:=rfl;unfold jW l0;simp only[nU,lz,envOf,ar,bH,av,bz,Nat.reduceSub,Nat.reduceAdd,aZ,bG,bw,bg];with_reducible generalize GI:jL 1=tr
 with_reducible generalize hb:d3 (ph 4 1) _=lb
 rw[true_and,d3,Ar,eR,dR,eR,dM,uC,dM,eR,dR,dR,show lB true (.tuple [])=some [] from rfl,dN];intro a ha;rw[2];rw[d3,nz,QD,eF,dJ];rw[0];rw[uC,e0,eS,fm,dN,<- e0];simp only[p8,dN];unfold i8;have Sq:lb=RQ:=hb.symm;subst Sq;refine iM (λpre post env n'=>n'=n/\pre++post=((ts.map fk).zipIdx).map (λp=>ag.tuple [.int (p.2:Nat),p.1])/\∃(a:Addr) (kvs:fI) (x2 x3 x5 x6 x7:Option Ent),env=[some (.s (fy many ts)),some (.d a true kvs),x2,x3,none,x5,x6,x7]/\nS ts pre.length kvs/\∀e,x2=some e\/x3=some e\/x5=some e\/x6=some e\/x7=some e->∃d,e=.s d) _ [] _ _ ?_ ⟨rfl,rfl,a,_,none,none,none,none,none,rfl,nS.nil ts,λe he=>by simp at he⟩ ?_
 .rintro pre d post env n' E' hE ⟨rfl,G0,a,kvs,x2,x3,x5,x6,x7,rfl,hT,hx⟩ zc
  obtain⟨t,ht,rfl⟩:=GO G0;have hk:pre.length<ts.length:=(aA.mp ht).1;simp only[IU,CZ,iT,aF,aC];unfold RQ;rw[d3,ph];rw[0];refine⟨hT.snd.hash w (!1),λb hb=>?_⟩;rw[2];rw[d3,yn];rw[0];have Ow:∀e,x5=some e\/x6=some e\/x7=some e->∃d,e=.s d:=λe he=>hx e (.inr (.inr he))
  have Vn:∀(x:Option Ent) (a:Addr) (t':Bool) (kv:fI),(∀e,x=some e->∃d,e=.s d)->some x≠some (some (.d a t' kv)):=λx a t' kv Yg z=>by
   obtain⟨d,e⟩:=Yg _ (Option.some.inj z);cases e
  refine⟨λj t' kv hj z=>?_,λo xs=>?_⟩
  .match j,hj,z with
   | 0,_,z=>simp at z
   | 1,hj,_=>exact hj rfl
   | 2,_,z=>simp at z
   | 3,_,z=>simp at z
   | 4,_,z =>
    simp only[af,ae,Option.some.injEq,Ent.d.injEq] at z;exact hb 1 true kvs (by rw[z.1];rfl)
   | 5,_,z=>exact Vn x5 a t' kv (λe he=>Ow e (.inl he)) z
   | 6,_,z=>exact Vn x6 a t' kv (λe he=>Ow e (.inr (.inl he))) z
   | 7,_,z=>exact Vn x7 a t' kv (λe he=>Ow e (.inr (.inr he))) z
   | j+8,_,z=>simp at z
  .rw[2]
   have Yh:ni kvs=(kvs.map (·.1)).map dW:=by rw[bp];rfl
   rw[Yh];refine yZ w hl ht hT _ [] kvs x5 x6 x7 rfl hT.mid (λmv y5 y6 y7 hm hy=>?_) Ow;dsimp only;rw[rT];simp only[af,ae,aF,aC];refine zc _ _ ⟨rfl,by rw[aJ];exact G0,b,mv,_,_,y5,y6,y7,rfl,by rw[aH,bv];exact hm.done hT,λe he=>?_⟩;rcases he with he | he | he
   .exact⟨_,(Option.some.inj he).symm⟩
   .exact⟨_,(Option.some.inj he).symm⟩
   .exact hy e he
 .rintro pre env n' ⟨rfl,G0,a,kvs,x2,x3,x5,x6,x7,rfl,hT,hx⟩
  have hl:=congrArg List.length G0;rw[cj,ao,List.length_zipIdx,ao] at hl;rw[hl] at hT;show tr _ _ _;rw[<- GI,jL];rw[0];exact h kvs hT
end
theorem Kd {many:Int}{told:List Int}(hm:many<=9)(h:Rg many told):Sz 10000 11 176 1 (dW told):=by
 have:=h.len hm;exact (Sz.tup (mV.ints (!2) λi hi=>by have:=h.rg i hi;omega)).mono (ap _) (ap _) (!1) (!2)
theorem Vo (i j:Nat)(x y:ag)(env:eU)(Q:eU->Prop):IU [iT i,iT j] (.tuple [x,y]) env Q=Q ((env.set i (some (.s x))).set j (some (.s y))):=rfl
theorem Oi {many:Int}{s:List Int}(h:s.Sublist (fS 0 many.toNat)):Rg many s:=⟨(mM _).sublist h,λv hv=>by have:=fM.mp (h.subset hv);omega⟩
section
variable {n:Int}{X:XQ}{Q:ag->Int->Prop}{many:Int}{ts:List eE}
theorem wz {k:Int}(hn:n+1<=ow)(h:∀a b:Int,1<=a->a<=9->0<=b->b<=16->Q (.tuple [.int a,.int b]) (n+1)):jX [.int k] n Q X:=by
 unfold jX l3;simp only[nU,lz,envOf,ar,bH,av,bz,Nat.reduceSub,Nat.reduceAdd,aZ,bG,bw,bg];with_reducible generalize Vp:g6 (EX _ _ _)=t2
 with_reducible generalize ht:d3 (iU _ _ _) t2=t
 simp! [d3];refine jQ (!2) (!2) (!1) λr r0 r1=>?_;subst ht
 have key:∀E:pM,E.rt=Q->t2 E [none,some (.s (.int k)),some (.s (.int r))] (n+1):=λE hE=>by
  subst Vp;simp! [EZ];split
  .try simp! [d3]
   rw[hE];exact h 3 16 (!2) (!2) (!2) (!2)
  .try simp! [d3]
   rw[hE];exact h 6 9 (!2) (!2) (!2) (!2)
 simp! [qy];split
 .split
  .try simp! [d3]
   exact h 9 16 (!2) (!2) (!2) (!2)
  .exact key _ rfl
 .exact key _ rfl
end
structure Oj (many:Int) (ts:List eE) (pre:List (List Int)) (kvs:fI):Prop where
 nd:(kvs.map (·.1)).Nodup
 row:∀p∈kvs,∃c,p.2=ag.int c/\Rg many p.1/\gU ts p.1 c
 all:∀T∈pre,(∃s,fC ts T s)->T∈kvs.map (·.1)
theorem Ke {kvs:fI}{k T:List Int}{d:ag}:T∈(gQ kvs k d).map (·.1)↔T∈kvs.map (·.1)\/T=k:=by
 unfold gQ;split
 .rename_i ha
  have e:(kvs.map λp=>if p.1=k then (p.1,d) else p).map (·.1)=kvs.map (·.1):=by
   rw[bp];exact bu λp _=>by simp only[Function.comp];split<;>rfl
  rw[e];exact⟨.inl,λz=>z.elim id λz=>z ▸ vY.mp ha⟩
 .rw[aO,aL]
  simp
theorem Kf (kvs:fI)(k:List Int)(d:ag):(gQ kvs k d).length<=kvs.length+1:=by
 unfold gQ;split
 .rw[ao];omega
 .rw[aH,bv]
  exact ap _
section
variable {n:Int}{X:XQ}{Q:ag->Int->Prop}{many:Int}{ts:List eE}
theorem wA (m0:1<=many)(m1:many<=9)(h:Q (.list ((gB (i6 many.toNat)).map dW)) n):jU [fy many ts] n Q X:=by
 have hsz:az=16777216:=by decide
 unfold jU lY;simp only[nU,lz,envOf,ar,bH,av,bz,Nat.reduceSub,Nat.reduceAdd,aZ,bG,bw,bg];generalize GI:g6 _=tr;generalize Vq:fc 1 (eF ie _ _)=tb;have e0:gJ (fy many ts) (.int 0)=some (.int many):=rfl;have h1:-2 ^ 62<=many:=by omega
 have h2:many<2 ^ 62:=by omega
 simp! [e0,h1,h2];rw[qz];subst Vq;have Bn:∀m:Nat,m<=9->2 ^ m<=512:=λm hm=>Nat.pow_le_pow_right (n:=2) (!2) hm;refine iM (λpre post env n'=>∃x2,env=[some (.s (fy many ts)),some (.s (.list ((i6 pre.length).map dW))),x2]/\pre++post=(fS 0 many.toNat).map .int/\n'=n) _ [] _ _ ?_ ⟨_,rfl,rfl,rfl⟩ ?_
 .rintro pre e post env n' E' hE ⟨x2,rfl,G0,rfl⟩ zc
  have hlen:=congrArg List.length G0;rw[aH,av,ao,fN] at hlen;have hk:pre.length<many.toNat:=by omega
  have he:e=.int (pre.length:Int):=by
   have h1:(pre++e::post)[pre.length]? = some e:=by simp
   rw[G0,aB] at h1;unfold fS at h1;rw[aB,cV hk] at h1;simp only[bW,Option.some.injEq,Int.zero_add] at h1;exact h1.symm
  subst he;simp! [d3];have hp:=Bn pre.length (!1);have RB:=Bn (pre.length+1) (!1);rw[mw (λenv=>∃x,env=[x,some (.s (.int (pre.length:Int)))]) dW (λs=>dW (s++[(pre.length:Int)])) (λ_=>true) _ _ _ (λs hs env ⟨x,he⟩=>?_) ⟨_,rfl⟩]
  .rw[k9,bg]
   have hl:=kI pre.length
   have ea:ie (.list ((i6 pre.length).map dW)) (.list ((i6 pre.length).map λs=>dW (s++[(pre.length:Int)])))=some (.list ((i6 (pre++[ag.int (pre.length:Int)]).length).map dW)):=by
    rw[Fq (by rw[ao,ao];omega),aH,bv,i6,aO,bp];rfl
   rw[ea,dN];exact zc _ _ ⟨_,rfl,by rw[aJ];exact G0,rfl⟩
  .subst he
   have ID:=(kJ.mp hs).length_le;rw[fN] at ID;refine⟨[some (.s (dW s)),some (.s (.int (pre.length:Int)))],⟨_,rfl⟩,λK=>by simp! [d3],λn Q=>by simp! [d3],λn Q=>?_⟩
   have ea:ie (dW s) (.tuple [.int (pre.length:Int)])=some (dW (s++[(pre.length:Int)])):=by
    rw[dW,zZ (by rw[ao,bv];omega),dW,aO];rfl
   simp! [ea]
 .rintro pre env n' ⟨x2,rfl,G0,rfl⟩
  rw[cj] at G0;have hlen:=congrArg List.length G0;rw[ao,fN] at hlen;rw[hlen];subst GI;have hl:=kI many.toNat;have hp:=Bn many.toNat (!1);dsimp only;rw[g6,uL,FW];(repeat first | rw[dM] | rw[uC] | rw[eR] | rw[dR] | rw[uL] | rw[d6] | rw[eF] | rw[dN] | rw[eS] | rw[gp] | rw[fh] | rw[fm] | rw[fW] | (rw[d7];simp only[af,ae]) | (rw[dJ];simp only[af,ae]));rw[show ((i6 many.toNat).map dW)=(i6 many.toNat).map iO from rfl,z8,dN];exact⟨!1,h⟩
theorem qg (w:kH many ts)(hl:ts.length<=16)(h:∀kvs,Oj many ts (gB (i6 many.toNat)) kvs->Q (fg true kvs) n):iu [fy many ts] n Q X:=by
 have m0:=w.m0;have m1:=w.m1;have hsz:az=16777216:=by decide
 have wa:=J2 w hl;unfold iu jq;simp only[nU,lz,envOf,ar,bH,av,bz,Nat.reduceSub,Nat.reduceAdd,aZ,bG,bw,bg];with_reducible generalize Yi:v3 _ _ _ _=lk
 rw[true_and,d3,fc];(repeat first | rw[dM] | rw[uC] | rw[eR] | rw[dR] | rw[uL] | rw[d6] | rw[eF] | rw[dN] | rw[eS] | rw[gp] | rw[fh] | rw[fm] | rw[fW] | (rw[d7];simp only[af,ae]) | (rw[dJ];simp only[af,ae]));rw[DH];(repeat first | rw[dM] | rw[uC] | rw[eR] | rw[dR] | rw[uL] | rw[d6] | rw[eF] | rw[dN] | rw[eS] | rw[gp] | rw[fh] | rw[fm] | rw[fW] | (rw[d7];simp only[af,ae]) | (rw[dJ];simp only[af,ae]));refine sL wa m0 ?_;rw[2];subst Yi;unfold v3;refine⟨!4,?_⟩;rw[eR,dR,uC,show lB true (.tuple [])=some [] from rfl,dN];refine⟨Og many wa.m1 (ts.map je),.inl ⟨0,rfl,DD wa.hp⟩,rfl,(Rg.sub (many:=many) (told:=[]) ⟨!4,!4⟩),rfl,?_⟩;simp only[ar,bH,JC,aF,aC];generalize hY:Og many wa.m1 (ts.map je)=Y;have hP:AZ many (ts.map je) Y gV 9:=by rw[<- hY];exact sJ wa 4
 with_reducible generalize GI:jL 4=tr
 with_reducible generalize Yj:iU (fA (eF mU _ _)) _ _=ti
 with_reducible generalize Vq:d3 (fc 6 _) ti=tb
 rw[d3,fc];(repeat first | rw[dM] | rw[uC] | rw[eR] | rw[dR] | rw[uL] | rw[d6] | rw[eF] | rw[dN] | rw[eS] | rw[gp] | rw[fh] | rw[fm] | rw[fW] | (rw[d7];simp only[af,ae]) | (rw[dJ];simp only[af,ae]));rw[yX];(repeat first | rw[dM] | rw[uC] | rw[eR] | rw[dR] | rw[uL] | rw[d6] | rw[eF] | rw[dN] | rw[eS] | rw[gp] | rw[fh] | rw[fm] | rw[fW] | (rw[d7];simp only[af,ae]) | (rw[dJ];simp only[af,ae]));rw[yL (GK w) (kK ts)];rw[2];rw[d3,FY];intro a pJ;rw[2];rw[d3,nz,QC];(repeat first | rw[dM] | rw[uC] | rw[eR] | rw[dR] | rw[uL] | rw[d6] | rw[eF] | rw[dN] | rw[eS] | rw[gp] | rw[fh] | rw[fm] | rw[fW] | (rw[d7];simp only[af,ae]) | (rw[dJ];simp only[af,ae]));refine wA m0 m1 ?_;have AX:∀T∈gB (i6 many.toNat),Rg many T:=λT hT=>Oi (kJ.mp ((fB _).mem_iff.mp hT))
 have hlen:(gB (i6 many.toNat)).length<=512:=by
  rw[(fB _).length_eq,kI];exact Nat.pow_le_pow_right (n:=2) (j:=9) (!2) (!1)
 generalize gB (i6 many.toNat)=Ck at AX hlen h ⊢;rw[show p8 (.list (Ck.map dW))=some (Ck.map dW) from rfl,dN];refine iM (λpre post env n'=>∃(p q:List (List Int)) (x5 x6:Option Ent) (kvs:fI),Ck=p++q/\pre=p.map dW/\post=q.map dW/\n'=n/\env=[some (.s (fy many ts)),some (.s (wx many (ts.map je))),none,some (.s (.int (eC ts (eY ts)))),some (.d a true kvs),x5,x6]/\Oj many ts p kvs/\kvs.length<=p.length) _ [] _ _ ?_ ⟨[],Ck,_,_,[],rfl,rfl,rfl,rfl,rfl,⟨!4,!4,!4⟩,!4⟩ ?_
 .rintro pre d post env n' E' hE ⟨p,q,x5,x6,kvs,e1,e2,e3,rfl,rfl,hT,OJ⟩ zc
  cases q with
  | nil=>cases e3
  | cons T q =>
   rw[ar] at e3;injection e3 with e3 e4;subst e3;have hr:=AX T (by rw[e1];exact a6 _ (aq ..));have Zf:=hr.len m1;have Dk:=Ka w hr
   have jE:p.length<=512:=by
    have h1:=congrArg List.length e1;rw[aH] at h1;omega
   have JK:=lu hr.lt;rw[iT];rw[2];subst Vq;rw[d3,fc];(repeat first | rw[dM] | rw[uC] | rw[eR] | rw[dR] | rw[uL] | rw[d6] | rw[eF] | rw[dN] | rw[eS] | rw[gp] | rw[fh] | rw[fm] | rw[fW] | (rw[d7];simp only[af,ae]) | (rw[dJ];simp only[af,ae]));rw[sO w hl (!1)];(repeat first | rw[dM] | rw[uC] | rw[eR] | rw[dR] | rw[uL] | rw[d6] | rw[eF] | rw[dN] | rw[eS] | rw[gp] | rw[fh] | rw[fm] | rw[fW] | (rw[d7];simp only[af,ae]) | (rw[dJ];simp only[af,ae]));refine hP (yS ts T) Dk (Dk.len m1) _ _ λd hd=>?_;rw[2];subst Yj;rw[iU,fA];(repeat first | rw[dM] | rw[uC] | rw[eR] | rw[dR] | rw[uL] | rw[d6] | rw[eF] | rw[dN] | rw[eS] | rw[gp] | rw[fh] | rw[fm] | rw[fW] | (rw[d7];simp only[af,ae]) | (rw[dJ];simp only[af,ae]));rcases hd with⟨c,rfl,hc⟩ | ⟨rfl,Vr⟩
   .rw[show mU (.int c) .none=some (.bool true) from rfl,dN,fu,if_pos rfl]
    have lr:=A2 JK hc;rw[ng];(repeat first | rw[dM] | rw[uC] | rw[eR] | rw[dR] | rw[uL] | rw[d6] | rw[eF] | rw[dN] | rw[eS] | rw[gp] | rw[fh] | rw[fm] | rw[fW] | (rw[d7];simp only[af,ae]) | (rw[dJ];simp only[af,ae]));rw[sj];(repeat first | rw[dM] | rw[uC] | rw[eR] | rw[dR] | rw[uL] | rw[d6] | rw[eF] | rw[dN] | rw[eS] | rw[gp] | rw[fh] | rw[fm] | rw[fW] | (rw[d7];simp only[af,ae]) | (rw[dJ];simp only[af,ae]));rw[DI,dN];refine⟨⟨!1,λj t kv hj z=>?_⟩,?_⟩
    .match j,hj,z with
     | 0,_,z=>cases z
     | 1,_,z=>cases z
     | 2,_,z=>cases z
     | 3,_,z=>cases z
     | 4,hj,_=>exact hj rfl
     | 5,_,z=>cases z
     | 6,_,z=>cases z
     | j+7,_,z=>cases z
    .rw[2]
     refine zc _ _ ⟨p++[T],q,_,_,_,by rw[e1,aJ];rfl,by rw[e2,aO];rfl,e4,rfl,rfl,⟨GY hT.nd,?_,?_⟩,?_⟩
     .refine Cj (P:=λk v=>∃c,v=ag.int c/\Rg many k/\gU ts k c) hT.row ⟨_,rfl,hr,?_⟩
      rw[Int.add_comm];exact lr
     .intro U hU hj
      rw[Ke];rcases aL.mp hU with hU | hU
      .exact .inl (hT.all U hU hj)
      .exact .inr (au.mp hU)
     .have:=Kf kvs T (.int (eC ts (eY ts)+c))
      rw[aH,bv];omega
   .rw[show mU .none .none=some (.bool false) from rfl,dN,fu,if_neg (!2),iA]
    refine zc _ _ ⟨p++[T],q,_,_,_,by rw[e1,aJ];rfl,by rw[e2,aO];rfl,e4,rfl,rfl,⟨hT.nd,hT.row,λU hU hj=>?_⟩,by rw[aH,bv];omega⟩;rcases aL.mp hU with hU | hU
    .exact hT.all U hU hj
    .rw[au.mp hU] at hj
     exact absurd hj (J' JK Vr)
 .rintro pre env n' ⟨p,q,x5,x6,kvs,e1,e2,e3,rfl,rfl,hT,OJ⟩
  have hq:q=[]:=by cases q with | nil=>rfl | cons r q=>cases e3
  subst hq;rw[cj] at e1;subst e1;subst GI;dsimp only;unfold jL;rw[0];exact h _ hT
end
noncomputable def OL (c:List Int->Int)(k:List Int):ag:=.tuple [dW k,.int (c k)]
section
variable {many:Int}{ts:List eE}
theorem DJ (w:kH many ts){kvs:fI}(h:nS ts ts.length kvs):∃c:List Int->Int,∀T∈kvs.map (·.1),Rg many T/\gU ts T (c T)/\∃x,eO kvs T=some (.tuple [.int (c T),x]):=by
 have key:∀T∈kvs.map (·.1),∃c,Rg many T/\gU ts T c/\∃x,eO kvs T=some (.tuple [.int c,x]):=λT hT=>by
  obtain⟨p,hp,rfl⟩:=aM.mp hT
  obtain⟨s,hs,e1⟩:∃s:List Int,s.Sublist (fS 0 ts.length)/\p.1=eA (d5 ts s):=by
   have:=h.snd.row p hp;generalize p.1=T,p.2=v at this
   cases this with
   | mk s hs=>exact⟨s,hs,rfl⟩
  have hn:=qK (ap _) hs;have hj:fC ts p.1 s:=⟨hn,lu ((mM _).sublist hs),λv=>by rw[e1];exact e8.symm⟩;have gh:p.1.Pairwise (· < ·):=by rw[e1];exact gY _
  rcases h.least gh with⟨_,pJ⟩ | ⟨c,x,hv,hc⟩
  .exact absurd ⟨s,hj⟩ pJ
  .refine⟨c,⟨gh,λv hv=>?_⟩,hc,x,hv⟩
   have h1:=(hj.odd v).mpr hv;obtain⟨l,Hf,sQ⟩:=List.mem_flatten.mp (ce.mp (by omega:0<(d5 ts s).count v));obtain⟨k,hk,rfl⟩:=aM.mp Hf;have ht:=AV w (hn k hk);have a0:=ht.a0;have ab:=ht.ab;have bm:=ht.bm;simp only[jz,ax,cR,or_false] at sQ;omega
 refine⟨λT=>if hT:T∈kvs.map (·.1) then (key T hT).choose else 0,λT hT=>?_⟩;simp only[hT,dite_true];exact (key T hT).choose_spec
theorem DK (w:kH many ts){kvs Aj:fI}{c:List Int->Int}(h:nS ts ts.length kvs)(hc:∀T∈kvs.map (·.1),Rg many T/\gU ts T (c T)/\∃x,eO kvs T=some (.tuple [.int (c T),x]))(hp:Oj many ts (gB (i6 many.toNat)) Aj) :
  gB (Aj.map (·.1))=gB (kvs.map (·.1))/\∀T∈kvs.map (·.1),oK Aj T=OL c T:=by
 have AX:∀T,T∈Aj.map (·.1)↔T∈kvs.map (·.1):=λT=>by
  constructor
  .intro hT
   obtain⟨p,JQ,rfl⟩:=aM.mp hT;obtain⟨d,_,hr,hl⟩:=hp.row p JQ;rcases h.least hr.lt with⟨_,pJ⟩ | ⟨c',x,hv,_⟩
   .exact absurd ⟨_,hl.1.choose_spec.1⟩ pJ
   .exact aM.mpr ⟨_,oJ hv,rfl⟩
  .intro hT
   obtain⟨hr,hl,_⟩:=hc T hT;exact hp.all T ((fB _).mem_iff.mpr hr.sub) ⟨_,hl.1.choose_spec.1⟩
 refine⟨Af ((bK hp.nd h.snd.nd).mpr AX),λT hT=>?_⟩;obtain⟨p,JQ,rfl⟩:=aM.mp ((AX T).mpr hT);obtain⟨d,ed,hr,hl⟩:=hp.row p JQ;obtain⟨_,sQ,_⟩:=hc p.1 hT;rw[oK,v8 hp.nd JQ,ed,hl.one sQ];rfl
theorem Kg {kvs:fI}{T:List Int}{c:Int}{x:ag}(h:eO kvs T=some (.tuple [.int c,x])){env:eU}{n:Int}{Q:ag->Int->Prop}{j:Nat}{i:Nat}(hi:env[i]? = some (some (.s (fg true kvs))))(hj:env[j]? = some (some (.s (dW T)))):nh (dJ i) (dJ j) env n Q=Q (.tuple [.int c,x]) n:=by
 rw[nh,dJ,hi];simp only[nI,dN];rw[dJ,hj];simp only[DI,dN,h]
theorem G1 (w:kH many ts)(hl:ts.length<=16){kvs:fI}{c:List Int->Int}(hlen:kvs.length<=512)(hc:∀T∈kvs.map (·.1),Rg many T/\gU ts T (c T)/\∃x,eO kvs T=some (.tuple [.int (c T),x])):Good (.list ((gB (kvs.map (·.1))).map (OL c))):=by
 have m1:=w.m1
 have oE:∀d∈(gB (kvs.map (·.1))).map (OL c),Sz 10000 11 346 2 d:=λd hd=>by
  obtain⟨T,hT,rfl⟩:=aM.mp hd;obtain⟨hr,Vs,_⟩:=hc T ((fB _).mem_iff.mp hT);obtain⟨⟨s,hs,e⟩,_⟩:=Vs;have h1:=Cc (GK w) hs.num;have h2:=Kb hs.num hs.nd;exact (Sz.tup (mV.cons (Kd m1 hr) (mV.cons (Sz.int (by omega:(c T).natAbs<=10000) (!2)) mV.nil))).mono (ap _) (ap _) (!2) (!2)
 have:=mV.all oE;rw[ao,(fB _).length_eq,ao] at this;exact ((Sz.lst this).mono (ap _) (ap _) (by omega:_<=200000) (ap _)).good (!2) (!2) (ap _) (!2)
end
theorem Cm:∀ts:List eE,gP (ts.map fk)=true
 | []=>rfl
 | t::ts=>by rw[ar,gP,Cm ts];rfl
theorem G2:yu { nx:=λ_ _=>False,rt:=λd _=>d=.bool true } (List.replicate 11 none) 0:=by
 have RI:ow=1099511627776:=by decide
 unfold yu;simp only[nU,lz,envOf,ar,bH,av,bz,Nat.reduceSub,Nat.reduceAdd,aZ,bG,bw,bg];with_reducible generalize Yk:yt 10=t9
 with_reducible generalize Yl:d3 (iU (M1 _ _) _ _) t9=t8
 with_reducible generalize SN:d3 (v9 10 _ _) t8=tf
 with_reducible generalize RP:iU (fA (eF z5 _ (dJ 8))) _ _=tl
 with_reducible generalize Ym:d3 (nz _ _ tf) tl=t6
 with_reducible generalize Yn:d3 (fc 8 _) t6=t5
 with_reducible generalize Yo:d3 (fc 7 _) t5=t4
 with_reducible generalize Yp:d3 (fc 6 _) t4=t3
 with_reducible generalize Vp:d3 (fc 5 _) t3=t2
 with_reducible generalize Yq:d3 (IV _ _) t2=t1
 simp! [d3];refine⟨!2,!2,?_⟩
 refine iM (λpre post env n'=>∃x2 x3 x4 x5 x6 x7 x8 x9 xa,env=[none,none,x2,x3,x4,x5,x6,x7,x8,x9,xa]/\0<=n'/\n'<=500 * pre.length/\pre.length+post.length=3/\∀d∈post,∃k,d=.int k) _ [] _ _ ?_ ⟨_,_,_,_,_,_,_,_,_,rfl,!2,!4,by rfl,λd hd=>by
  rw[qz] at hd;obtain⟨k,_,rfl⟩:=aM.mp hd;exact⟨k,rfl⟩⟩ ?_
 .rintro pre d post env n E' hE ⟨x2,x3,x4,x5,x6,x7,x8,x9,xa,rfl,Yr,Ys,hp,Sv⟩ zc
  obtain⟨k,rfl⟩:=Sv d (aq ..);rw[av] at hp;subst Yq;rw[iT];rw[2];rw[d3,IV];(repeat first | rw[dM] | rw[uC] | rw[eR] | rw[dR] | rw[uL] | rw[d6] | rw[eF] | rw[dN] | rw[eS] | rw[gp] | rw[fh] | rw[fm] | rw[fW] | (rw[d7];simp only[af,ae]) | (rw[dJ];simp only[af,ae]));refine wz (!1) λa b a1 a9 b0 Yt=>?_;rw[Vo];rw[2];subst Vp;rw[d3,fc];(repeat first | rw[dM] | rw[uC] | rw[eR] | rw[dR] | rw[uL] | rw[d6] | rw[eF] | rw[dN] | rw[eS] | rw[gp] | rw[fh] | rw[fm] | rw[fW] | (rw[d7];simp only[af,ae]) | (rw[dJ];simp only[af,ae]));refine jQ (!2) (!2) (!1) λr r0 r1=>?_;(repeat first | rw[dM] | rw[uC] | rw[eR] | rw[dR] | rw[uL] | rw[d6] | rw[eF] | rw[dN] | rw[eS] | rw[gp] | rw[fh] | rw[fm] | rw[fW] | (rw[d7];simp only[af,ae]) | (rw[dJ];simp only[af,ae]));rw[qy];(repeat first | rw[dM] | rw[uC] | rw[eR] | rw[dR] | rw[uL] | rw[d6] | rw[eF] | rw[dN] | rw[eS] | rw[gp] | rw[fh] | rw[fm] | rw[fW] | (rw[d7];simp only[af,ae]) | (rw[dJ];simp only[af,ae]));refine AU a1 a9 b0 Yt (!1) λmany ts n1 w Zg Zh _ R7 Wt=>?_;rw[2];have hl:ts.length<=16:=by omega
  subst Yp;rw[d3,fc];(repeat first | rw[dM] | rw[uC] | rw[eR] | rw[dR] | rw[uL] | rw[d6] | rw[eF] | rw[dN] | rw[eS] | rw[gp] | rw[fh] | rw[fm] | rw[fW] | (rw[d7];simp only[af,ae]) | (rw[dJ];simp only[af,ae]));refine wy w hl λkvs hT=>?_;rw[2];obtain⟨c,hc⟩:=DJ w hT;have hlen:=hT.snd.len w (ap _);have hg:=G1 w hl hlen hc;subst Yo;rw[d3,fc,uL,i9,K9,uL,Gs,dJ];rw[0];rw[nI,dN];refine⟨rfl,by show kvs.length<4000;omega,?_⟩;simp only[p8,dN,pO,ar,bH];simp only[af,ae,Option.join_some];rw[mw (λenv=>∃x,env=[x,some (.s (fg true kvs))]) iO (OL c) (λ_=>true) _ _ _ (λT Vt env ⟨x,he⟩=>?_) ⟨_,rfl⟩]
  rotate_left
  .subst he
   obtain⟨_,_,x,hv⟩:=hc T ((fB _).mem_iff.mp Vt);refine⟨[some (.s (iO T)),some (.s (fg true kvs))],⟨_,rfl⟩,λK=>by simp! [d3],λn Q=>by simp! [d3],λn Q=>?_⟩;(repeat first | rw[dM] | rw[uC] | rw[eR] | rw[dR] | rw[uL] | rw[d6] | rw[eF] | rw[dN] | rw[eS] | rw[gp] | rw[fh] | rw[fm] | rw[fW] | (rw[d7];simp only[af,ae]) | (rw[dJ];simp only[af,ae]));rw[Kg hv rfl rfl];(repeat first | rw[dM] | rw[uC] | rw[eR] | rw[dR] | rw[uL] | rw[d6] | rw[eF] | rw[dN] | rw[eS] | rw[gp] | rw[fh] | rw[fm] | rw[fW] | (rw[d7];simp only[af,ae]) | (rw[dJ];simp only[af,ae]));rfl
  rw[k9,bg];rw[2];have Wy:Good (fy many ts):=(Od w hl).good (!2) (!2) (!2) (!2);subst Yn;rw[d3,fc,ou];(repeat first | rw[dM] | rw[uC] | rw[eR] | rw[dR] | rw[uL] | rw[d6] | rw[eF] | rw[dN] | rw[eS] | rw[gp] | rw[fh] | rw[fm] | rw[fW] | (rw[d7];simp only[af,ae]) | (rw[dJ];simp only[af,ae]));refine⟨Wy,?_⟩;rw[2];subst Ym;rw[d3];simp! [d3];refine⟨!2,!2,?_⟩;refine iM (λRR RS env n'=>∃x9 xa,env=[none,none,some (.s (.int k)),some (.s (.int a)),some (.s (.int b)),some (.s (fy many ts)),some (.s (fg true kvs)),some (.s (.list ((gB (kvs.map (·.1))).map (OL c)))),some (.s (.str (fy many ts).shown)),x9,xa]/\n'=n1) _ [] _ _ ?_ ⟨_,_,rfl,rfl⟩ ?_
  .rintro RR e RS p9 n2 E2 Zi ⟨x9,xa,rfl,rfl⟩ Vu
   subst SN;rw[iT];rw[2];rw[d3,v9];(repeat first | rw[dM] | rw[uC] | rw[eR] | rw[dR] | rw[uL] | rw[d6] | rw[eF] | rw[dN] | rw[eS] | rw[gp] | rw[fh] | rw[fm] | rw[fW] | (rw[d7];simp only[af,ae]) | (rw[dJ];simp only[af,ae]));refine⟨by rw[fy];simp only[gP,iL,Bool.and_true,Bool.true_and];exact Cm ts,?_⟩;refine qg w hl λAj hP=>?_;rw[nI,dN];refine⟨pj λp hp=>by obtain⟨v,e,_⟩:=hP.row p hp;rw[e];rfl,λad pJ=>?_⟩;rw[2];obtain⟨C',vp⟩:=DK w hT hc hP
   have OJ:Aj.length<=512:=by
    have h1:=congrArg List.length C';rw[(fB _).length_eq,(fB _).length_eq,ao,ao] at h1;omega
   have Yu:(gB (Aj.map (·.1))).map (oK Aj)=(gB (kvs.map (·.1))).map (OL c):=by
    rw[C'];exact bu λT Vt=>vp T ((fB _).mem_iff.mp Vt)
   subst Yl;rw[d3,iU,M1,M3,fA,Gv,dJ];rw[0];rw[show Gu (fg true Aj)=true from rfl,fu];simp only[Bool.not_true,bx,if_false];rw[fA,eF,ou,uL,B6];rw[0];refine⟨⟨!1,hP.nd,λp hp=>by obtain⟨v,e,_⟩:=hP.row p hp;exact⟨v,e⟩⟩,?_⟩;rw[Yu];refine⟨hg,?_⟩;rw[ou];(repeat first | rw[dM] | rw[uC] | rw[eR] | rw[dR] | rw[uL] | rw[d6] | rw[eF] | rw[dN] | rw[eS] | rw[gp] | rw[fh] | rw[fm] | rw[fW] | (rw[d7];simp only[af,ae]) | (rw[dJ];simp only[af,ae]));refine⟨hg,?_⟩;rw[uW,dN,fu];simp only[bx,if_false];rw[iA];dsimp only;subst Yk;rw[yt];rw[0];refine⟨λj t kv hj z=>?_,Vu _ _ ⟨_,_,rfl,rfl⟩⟩
   match j,hj,z with
   | 0,_,z=>cases z
   | 1,_,z=>cases z
   | 2,_,z=>cases z
   | 3,_,z=>cases z
   | 4,_,z=>cases z
   | 5,_,z=>cases z
   | 6,_,z=>cases z
   | 7,_,z=>cases z
   | 8,_,z=>cases z
   | 9,_,z=>cases z
   | 10,hj,_=>exact hj rfl
   | j+11,_,z=>cases z
  .rintro RR p9 n2 ⟨x9,xa,rfl,rfl⟩
   subst RP;dsimp only;rw[iU,fA,eF,ou];(repeat first | rw[dM] | rw[uC] | rw[eR] | rw[dR] | rw[uL] | rw[d6] | rw[eF] | rw[dN] | rw[eS] | rw[gp] | rw[fh] | rw[fm] | rw[fW] | (rw[d7];simp only[af,ae]) | (rw[dJ];simp only[af,ae]));refine⟨Wy,?_⟩;(repeat first | rw[dM] | rw[uC] | rw[eR] | rw[dR] | rw[uL] | rw[d6] | rw[eF] | rw[dN] | rw[eS] | rw[gp] | rw[fh] | rw[fm] | rw[fW] | (rw[d7];simp only[af,ae]) | (rw[dJ];simp only[af,ae]));rw[uW,dN,fu];simp only[bx,if_false];rw[iA];exact zc _ _ ⟨_,_,_,_,_,_,_,_,_,rfl,!1,by simp;omega,by simp;omega,λd hd=>Sv d (ai _ hd)⟩
 .rintro pre env n ⟨x2,x3,x4,x5,x6,x7,x8,x9,xa,rfl,Yr,Ys,hp⟩
  simp! [d3]
theorem all_mk {l:W.OpenLaw}{w:World}{K:W.Frag}{h:Heap}{mg:Str->Option ah}{fa:Addr}{Vv:Addr}{Vw RT:Option Addr}{Vx:Array (Option ah)}{Vy RU RV RW Ol RX:ah}(X:K.In h)(G:h.Ns bn mg)(xO:mg "law" = some (.ref fa))
  (a30:W.nsIn K bn "law" = some (some (.ref Vv)))
  (l30:K.lookup Vv=some ⟨Vy,Vw,.func (W.fnOf "law" "law" (jH (top 30)) (fZ (top 30)) (dQ (top 30)) .none RU RV RW RT Ol RX),Vx⟩)
  (c30:W.codeIn K Ol "law" = true)
  (k30:W.keepIn K (.ref Vv)=true)
  (AF0:FA K top [("odd_ones",1),("by_turns",3),("odds_of",4),("price_of",5),("below",7),("turned",8),("turned_told",9),("other_end",11),("ways_from",13),("cheapest_step",14),("heights_from",15),("all_heights",17),("pairing_price",18),("partner_offers",19),("all_sides",20),("least_prices",21),("_law_feed",23),("_law_take",24),("_law_price",25),("_law_web",26),("_law_by_turns",27),("_law_least",28),("_law_sizes",29)])
  (z_abs:W.nsIn K bn "abs" = some none)
  (z_dict:W.nsIn K bn "dict" = some none)
  (z_enumerate:W.nsIn K bn "enumerate" = some none)
  (z_int:W.nsIn K bn "int" = some none)
  (z_isinstance:W.nsIn K bn "isinstance" = some none)
  (z_len:W.nsIn K bn "len" = some none)
  (z_list:W.nsIn K bn "list" = some none)
  (z_max:W.nsIn K bn "max" = some none)
  (z_min:W.nsIn K bn "min" = some none)
  (z_range:W.nsIn K bn "range" = some none)
  (z_repr:W.nsIn K bn "repr" = some none)
  (z_sorted:W.nsIn K bn "sorted" = some none)
  (z_sum:W.nsIn K bn "sum" = some none)
  (z_tuple:W.nsIn K bn "tuple" = some none) :
  ∃fd:b9,(∀(s:aw) (v:ah),BindsTo s fd ⟨[v],[]⟩ [("_law_script",v)])/\∀base:Heap,K.In base->base.Ns bn mg->lx l.prog w K mg base vf 40 fa fd ["_law_script"] (xQ K):=by
 have e:=xO.symm.trans (W.mg_of X G a30);cases e;have Yv:=En (st:=top 30) l30 c30 k30;obtain⟨a1,a3,a4,a5,a7,a8,a9,Yw,Yx,Yy,Yz,YA,YB,Wz,YC,YD,YE,YF,YG,YH,YI,YJ,YK,_⟩:=AF0;refine⟨W.fnOf "law" "law" (jH (top 30)) (fZ (top 30)) (dQ (top 30)) .none RU RV RW RT Ol RX,λs v=>.of_eq rfl,λbase _ _=>?_⟩;let cl:Str->Addr:=λ_=>0;have B:oO mg:=⟨W.mg_none_of X G z_abs,W.mg_none_of X G z_dict,W.mg_none_of X G z_enumerate,W.mg_none_of X G z_int,W.mg_none_of X G z_isinstance,W.mg_none_of X G z_len,W.mg_none_of X G z_list,W.mg_none_of X G z_max,W.mg_none_of X G z_min,W.mg_none_of X G z_range,W.mg_none_of X G z_repr,W.mg_none_of X G z_sorted,W.mg_none_of X G z_sum,W.mg_none_of X G z_tuple⟩;obtain⟨_,_,YL,YM⟩:=(YE.m X G).ex;have nQ:eD l.prog w K mg base 1 "_law_feed" ["_law_script"] (qx AF K):=NS YL YM B;have jx:jv l.prog w K mg base cl:=si (YI.m X G) B;have mh:l8 l.prog w K mg base cl:=yE (YJ.m X G) B jx;obtain⟨_,_,YN,YO⟩:=(YF.m X G).ex;have eN:ju l.prog w K mg base AF:=(NT YN YO B).draw.up (!2);have mf:l7 l.prog w K mg base AF:=yD (YG.m X G) B eN;have ml:l9 l.prog w K mg base AF:=yF (YK.m X G) B eN;have pD:pA l.prog w K mg base AF:=Dt (YH.m X G) B eN mf;obtain⟨_,_,F1,m1⟩:=(a1.m X G).ex;have iD:nM l.prog w K mg base cl:=AH F1 m1 B;have eG:gn l.prog w K mg base cl:=AI (a3.m X G) B iD;have ma:l4 l.prog w K mg base cl:=yz (Yw.m X G) B;have gX:i5 l.prog w K mg base cl:=qb (Yy.m X G) B eG ma;have md:l5 l.prog w K mg base cl:=yB (Yx.m X G) B gX;have jw:js l.prog w K mg base cl:=sf (Yz.m X G) B md;have kg:kc l.prog w K mg base cl:=tq (YA.m X G) B jw;have me:l6 l.prog w K mg base cl:=yC (YC.m X G) B;have mJ:qH l.prog w K mg base cl:=JT (a7.m X G) B;have eX:gW l.prog w K mg base  := qd (YB.m X G) (Wz.m X G) B eG;have pB:pz l.prog w K mg base cl:=Ds (a4.m X G) B iD;have kf:j9 l.prog w K mg base cl:=tp (a9.m X G) B eG pB mJ;have nP:nN l.prog w K mg base cl:=AJ (a5.m X G) B;have sh:rZ l.prog w K mg base cl:=GB (a8.m X G) B;have jy:jt l.prog w K mg base cl:=sg (YD.m X G) B me eX kf nP mJ kg sh;have kC:kB l.prog w K mg base  := pC (Wz.m X G) B eG eX;exact RC Yv B nQ jy mh pD eN ml G2
theorem walk {l:W.OpenLaw}{q:aV}{loose:List Str}{XP:(Str->Option ah)->Heap->Prop}{YP:World->Heap->Prop}{d:DefRec}{K:Params->W.Frag}(hn:l.most=some 63)(Pz:d.params.defaults=[])
  (hY:∀(w:World) (h:Heap),YP w h->(K w.params).In h)
  (F:∀(w:World) (mg:Str->Option ah) (fa:Addr) (h:Heap),(K w.params).In h->h.Ns bn mg->mg d.name=some (.ref fa) ->
   ∃fd:b9,(∀(s:aw) (u:ah),BindsTo s fd ⟨[u],[]⟩ [("_law_script",u)])/\∀base:Heap,(K w.params).In base->base.Ns bn mg->lx l.prog w (K w.params) mg base vf 40 fa fd ["_law_script"] (xQ (K w.params))) :
  W.WalkO q loose XP YP l.row.toRowW d [] (λf vs=>PySem.call f vs) :=
 L2.HZ (n:=63) (k:=40) (x := "_law_script") (CX:=λ_=>vf) (sp:=λw=>xQ (K w.params)) hn (!2) Pz ⟨rfl,!2,!2,rfl⟩ hY F (λ_ _ a ns hl _ hS=>⟨a,ns,rfl,hS,hl,λ_=>rfl⟩) λ_ _ _ _ _ z=>z
end Odj
theorem PySem.W.Fast.tw4018791553062512408:True:=⟨⟩
theorem PySem.W.Fast.tw16379322040280259736:True:=⟨⟩
theorem PySem.W.Fast.tw1672820663497985659:True:=⟨⟩
theorem PySem.W.Fast.tw6900077128480418049:True:=⟨⟩
theorem PySem.W.Fast.tw15158148957331787832:True:=⟨⟩
theorem PySem.W.Fast.tw1825660339473105859:True:=⟨⟩
theorem PySem.W.Fast.tw16783456913768162975:True:=⟨⟩
theorem PySem.W.Fast.tw3752715252593201411:True:=⟨⟩
theorem PySem.W.Fast.tw1491025795226842588:True:=⟨⟩
theorem PySem.W.Fast.tw6115313709436043171:True:=⟨⟩
theorem PySem.W.Fast.tw11636622033216915935:True:=⟨⟩
theorem PySem.W.Fast.tw18274705928593977481:True:=⟨⟩
theorem PySem.W.Fast.tw10971307814873610813:True:=⟨⟩
theorem PySem.W.Fast.tw8422629158863331517:True:=⟨⟩
theorem PySem.W.Fast.tw6087255308770572467:True:=⟨⟩
theorem PySem.W.Fast.tw5304541152570179767:True:=⟨⟩
theorem PySem.W.Fast.tw15651069358017593971:True:=⟨⟩
theorem PySem.W.Fast.tw4151287814492468279:True:=⟨⟩
theorem PySem.W.Fast.tw15121505653876267554:True:=⟨⟩
theorem PySem.W.Fast.tw10110425104924678271:True:=⟨⟩
theorem PySem.W.Fast.tw7349918405674553904:True:=⟨⟩
theorem PySem.W.Fast.tw5391156010750376174:True:=⟨⟩
theorem PySem.W.Fast.tw5035091008198439979:True:=⟨⟩
theorem PySem.W.Fast.tw15585927792659455397:True:=⟨⟩
theorem PySem.W.Fast.tw10653079627464140387:True:=⟨⟩
theorem PySem.W.Fast.tw3048597867799656175:True:=⟨⟩
theorem PySem.W.Fast.tw18426243333486119688:True:=⟨⟩
theorem PySem.W.Fast.tw6548292924485354183:True:=⟨⟩
theorem PySem.W.Fast.tw9651648200610915876:True:=⟨⟩
theorem PySem.W.Fast.tw3967236462206463378:True:=⟨⟩
theorem PySem.W.Fast.tw2201746572657796137:True:=⟨⟩
theorem PySem.W.Fast.tw10004684279378313414:True:=⟨⟩
theorem PySem.W.Fast.tw1077089507003195841:True:=⟨⟩
theorem PySem.W.Fast.tw15574933156218448174:True:=⟨⟩
theorem PySem.W.Fast.tw5090951172049653238:True:=⟨⟩
theorem PySem.W.Fast.tw13146808825665818905:True:=⟨⟩
theorem PySem.W.Fast.tw3295760207234891359:True:=⟨⟩
theorem PySem.W.Fast.tw10876154036020342643:True:=⟨⟩
theorem PySem.W.Fast.tw5999356981618646118:True:=⟨⟩
theorem PySem.W.Fast.tw17985738601042945977:True:=⟨⟩
theorem PySem.W.Fast.tw4840524357105273317:True:=⟨⟩
theorem PySem.W.Fast.tw9214500704452951806:True:=⟨⟩
theorem PySem.W.Fast.tw23154749802553407:True:=⟨⟩
theorem PySem.W.Fast.tw1824951867611798720:True:=⟨⟩
theorem PySem.W.Fast.tw17580250103382120348:True:=⟨⟩
theorem PySem.W.Fast.tw13876396370545579418:True:=⟨⟩
theorem PySem.W.Fast.tw4185796271412321187:True:=⟨⟩
theorem PySem.W.Fast.tw5477064139833344667:True:=⟨⟩
theorem PySem.W.Fast.tw15273296048446827524:True:=⟨⟩
theorem PySem.W.Fast.tw2802659388711723521:True:=⟨⟩
theorem PySem.W.Fast.tw13890479140587895992:True:=⟨⟩
theorem PySem.W.Fast.tw1943994505430738454:True:=⟨⟩
theorem PySem.W.Fast.tw18219872445784749676:True:=⟨⟩
theorem PySem.W.Fast.tw593573981831978305:True:=⟨⟩
theorem PySem.W.Fast.tw761260288546417772:True:=⟨⟩
theorem PySem.W.Fast.tw7822091817981980852:True:=⟨⟩
theorem PySem.W.Fast.tw2091748093716150969:True:=⟨⟩
theorem PySem.W.Fast.tw16922069647919075541:True:=⟨⟩
theorem PySem.W.Fast.tw9741145497530969581:True:=⟨⟩
theorem PySem.W.Fast.tw1245239483870036197:True:=⟨⟩
theorem PySem.W.Fast.tw1332506202794238092:True:=⟨⟩
theorem PySem.W.Fast.tw10781063659977085348:True:=⟨⟩
theorem PySem.W.Fast.tw17609533741882238989:True:=⟨⟩
theorem PySem.W.Fast.tw17848125768462413603:True:=⟨⟩
open PySem PySem.W PyProof.Rows
set_option maxRecDepth 100000 in
set_option maxHeartbeats 0 in
theorem PySem.Challenge.cw_oddjoins_k26_least_prices_told_holds : PySem.Challenge.rw_oddjoins_k26_least_prices_told.Holds := by
 w_on; o_law; k_head; (case hw=>w_witness2)
 k_fill
 refine Odj.walk (l:=PySem.Challenge.rw_oddjoins_k26_least_prices_told) rfl rfl (fun w h Y=>W.kIn_of Y) ?F
 case F =>
  intro w mg fa h KX G PB
  refine' Odj.all_mk KX G PB ?a30 ?l30 ?c30 ?k30 ?AF0 ?z_abs ?z_dict ?z_enumerate ?z_int ?z_isinstance ?z_len ?z_list ?z_max ?z_min ?z_range ?z_repr ?z_sorted ?z_sum ?z_tuple
  (case a30=>k_is); (case l30=>k_is); (case c30=>k_is); (case k30=>k_is)
  (case AF0=>repeat' first | exact L2.FC | (refine L2.Nr ?_ ?_) | (apply L2.Nq.of <;> k_is)); (case z_abs=>k_is); (case z_dict=>k_is); (case z_enumerate=>k_is)
  (case z_int=>k_is); (case z_isinstance=>k_is); (case z_len=>k_is); (case z_list=>k_is)
  (case z_max=>k_is); (case z_min=>k_is); (case z_range=>k_is); (case z_repr=>k_is)
  (case z_sorted=>k_is); (case z_sum=>k_is); (case z_tuple=>k_is)
