import PyProof.Rows.All
import Wide.All
import OpenK.AllK
import Wide.FinOn
import Lean
import PyProof.EqAt
import PyProof.EqKinds
import PyProof.TupleCall
import KE.KTryMore
import KE.KRevIter
import PyProof.CollectIter
import PyProof.P3Eq
import PyProof.MinMaxWalk
import PyProof.StrCalls2
import PyProof.FactsAll.set_2
import KE.KSortTup
import PyProof.Rows.CallKwBuiltin
import KE.KDictOf
import PyProof.Rows.TupDisplay
import PyProof.P3Statements
import PySem.Challenge.RW_oddjoins_k27_least_pairs_told
set_option compiler.extract_closed false
set_option Elab.async false
set_option linter.all false
set_option maxRecDepth 100000
set_option maxHeartbeats 8000000
open List renaming getElem?_cons_zero→aa, getElem?_cons_succ→ae, mem_cons_of_mem→ai, map_cons→ak, length_cons→ao, mem_singleton→aq, mem_cons_self→ar, length_map→au, mem_cons→av, set_cons_zero→aw, set_cons_succ→ay, getD_eq_getElem?_getD→az, size_toArray→aC, getElem?_eq_some_iff→aD, getElem?_map→aE, append_assoc→aF, length_append→aH, mem_append→aK, getElem?_set_ne→aL, replicate_succ→aN, map_append→aO, mem_map→aQ, mem_filter→aT, nil_append→aW, getElem?_eq_getElem→aX, mem_append_right→aY, nodup_cons→aZ, length_set→a6, cons_append→be, drop_eq_getElem_cons→bf, replicate_zero→bg, length_nil→bn, map_nil→bw, mem_append_left→bx, map_map→bA, length_singleton→bB, getElem?_eq_none→bC, getElem?_append_left→bD, getElem?_append_right→bG, drop_of_length_le→bI, take_of_length_le→bJ, find?_cons→bM, pairwise_cons→bP, perm_ext_iff_of_nodup→bQ, append_nil→bR, count_append→bV, length_take→bW, getElem?_replicate→bX, getElem_mem→bY, nodup_append→b9, map_congr_left→ca, length_filter_le→cb, any_cons→ce, count_singleton→cg, count_pos_iff→cj, extract_eq_take_drop→cm, mem_of_getElem?→cp, take_succ_cons→cr, mapM_cons→cu, not_mem_nil→cv, any_eq_true→cx, getElem?_set_self→cy, range_succ_eq_map→cA, perm_append_comm→cD, flatten_cons→cF, lookup_cons→cH, toArray→cI, filterMap_cons→cK, getElem_of_mem→cL, set_eq_of_length_le→cM, nodup_nil→cQ, length_replicate→cR, getElem?_toArray→cS, mem_reverse→cU, filter_cons→cV, eq_nil_of_length_eq_zero→cW, foldl_cons→cZ, getElem?_range→c7, filter_sublist→c8, filter_append→dc, reverse_perm→de, take_add_one→df, length_erase_of_mem→dg, ext_getElem→di, foldl→dk, length_pos_of_mem→dn, set_set→dq
open PySem renaming PyData→af, wpAny_bind→ag, Value→ah, wpAny_pure→ap, Shared→ax, sizeLine→aA, wpAny→aG, NameKind→aM, Program→aV, wpAny_newObj_type→bh, mainGlobals→bq, FuncData→bT, wpAny_mono→b8
open PySem.Heap renaming get?_push_of_some→aj, get?_push_size→aB, lt_size→aI, get?_update_other→aJ, get?_update_self→bj, size_push→cf
open Nat renaming le_refl→am, lt_of_lt_of_le→aU, ne_of_lt→bp, le_trans→bu, zero_le→bF, lt_of_succ_lt_succ→bL, lt_irrefl→bN, ne_of_gt→cc, add_zero→cq, lt_of_le_of_lt→cz, add_sub_cancel_left→cO, lt_succ_of_lt→cP, succ_ne_self→cT, not_lt_zero→c6, zero_add→c9, le_of_lt→dj
open Array renaming toList_append→aP, getElem_mem→bi, getElem_toList→bo, size_extract→br, length_toList→bv, toList_reverse→bZ, perm_iff_toList_perm→ci, getElem_extract→ck, getElem?_toList→cE, toList_extract→cG, toList_inj→cJ
open Bool renaming false_ne_true→aR, and_eq_true→bH, false_eq_true→bK, eq_iff_iff→cY, not_true→dh
open Int renaming le_refl→bz, le_trans→bE, toNat_natCast→bU, le_of_lt→cB, emod_lt_of_pos→cC, emod_nonneg→cN
open Option renaming isSome_iff_exists→bO, map_some→bS, getD_some→cw, map_eq_some_iff→dm
set_option hygiene false
local macro_rules |`(tactic|rw[$n:num])=>match n.getNat with
|3=>`(tactic|(intro _;rfl))
|999=>`(tactic|(intro _ _ _ _ _ _ us hl;first | (obtain⟨_,rfl⟩:=Ea hl;rfl) | (obtain⟨_,_,rfl⟩:=BQ hl;rfl) | (obtain⟨_,_,_,rfl⟩:=Eb hl;rfl) | (obtain⟨_,_,_,_,rfl⟩:=ON hl;rfl) | (obtain⟨_,_,_,_,_,rfl⟩:=len5 hl;rfl) | (obtain⟨_,_,_,_,_,_,rfl⟩:=len6 hl;rfl) | (cases us<;>first | rfl | cases hl)))
|_=>Lean.Macro.throwUnsupported
local macro_rules |`(!$n:num)=>match n.getNat with
|1=>`(by omega)
|2=>`(by decide)
|3=>`(by decide +kernel)
|4=>`(by simp)
|_=>Lean.Macro.throwUnsupported
noncomputable section
namespace L2
open PySem PySem.Spec PyProof.Rows
noncomputable abbrev Key:=Sum Int Str
noncomputable def qc:Key->ah->Bool
 | .inl k,v=>ah.isInt k v
 | .inr x,v=>ah.isStrOf x v
noncomputable def Qr (w:World):Key->Int
 | .inl k=>hashInt k
 | .inr x=>hashStr w x
theorem eZ:∀{k:Key} {v:ah},qc k v=true->(∃i t,k=Sum.inl i/\v=ah.int i t)\/(∃x t,k=Sum.inr x/\v=ah.str x t)
 | .inl i,v,h=>by
  obtain⟨t,e⟩:=ah.isInt_shape (k:=i) (v:=v) h;exact .inl ⟨i,t,rfl,e⟩
 | .inr x,v,h=>by
  obtain⟨t,e⟩:=ah.isStrOf_shape (x:=x) (v:=v) h;exact .inr ⟨x,t,rfl,e⟩
theorem Bc (i:Int)(t:Tok):qc (.inl i) (.int i t)=true:=by simp[qc,ah.isInt]
theorem Bd (x:Str)(t:Tok):qc (.inr x) (.str x t)=true:=by simp[qc,ah.isStrOf]
theorem Jr (a b:Int):decide ((Sum.inl a:Key)=Sum.inl b)=(a == b):=by
 by_cases e:a=b
 .subst e;simp
 .have h:¬ (Sum.inl a:Key)=Sum.inl b:=λq=>e (Sum.inl.inj q)
  rw[decide_eq_false h];exact (beq_eq_false_iff_ne.mpr e).symm
theorem Js (a b:Str):decide ((Sum.inr a:Key)=Sum.inr b)=decide (a=b):=by
 by_cases e:a=b
 .subst e;simp
 .have h:¬ (Sum.inr a:Key)=Sum.inr b:=λq=>e (Sum.inr.inj q)
  rw[decide_eq_false h,decide_eq_false e]
theorem Jt (a:Int)(b:Str):decide ((Sum.inl a:Key)=Sum.inr b)=false:=decide_eq_false (λq=>nomatch q)
theorem Ju (a:Str)(b:Int):decide ((Sum.inr a:Key)=Sum.inl b)=false:=decide_eq_false (λq=>nomatch q)
noncomputable def d8 (prog:aV)(w:World):PySem.KeyKind prog w Key where
 is:=qc
 hash:=Qr w
 inj:=λv a b ha hb=>by
  rcases eZ ha with⟨i,t,rfl,rfl⟩ | ⟨x,t,rfl,rfl⟩
  .rcases eZ hb with⟨j,u,rfl,e⟩ | ⟨y,u,rfl,e⟩
   .injection e with e1 _;rw[e1]
   .exact nomatch e
  .rcases eZ hb with⟨j,u,rfl,e⟩ | ⟨y,u,rfl,e⟩
   .exact nomatch e
   .injection e with e1 _;rw[e1]
 byValue:=λk v h=>by
  rcases eZ h with⟨i,t,rfl,rfl⟩ | ⟨x,t,rfl,rfl⟩<;>rfl
 pyHash:=λhv h=>by
  rcases eZ hv with⟨i,t,rfl,rfl⟩ | ⟨x,t,rfl,rfl⟩
  .exact wpAny_pyHash_int h
  .exact wpAny_pyHash_str h
 eqBool:=λhu hv h=>by
  rcases eZ hu with⟨i,t,rfl,rfl⟩ | ⟨x,t,rfl,rfl⟩
  .rcases eZ hv with⟨j,u,rfl,rfl⟩ | ⟨y,u,rfl,rfl⟩
   .rw[Jr] at h;exact wpAny_eqBool_int h
   .rw[Jt] at h;exact SeqAt.EqAt.int_str i t y u _ _ _ _ h
  .rcases eZ hv with⟨j,u,rfl,rfl⟩ | ⟨y,u,rfl,rfl⟩
   .rw[Ju] at h;exact SeqAt.EqAt.str_int x t j u _ _ _ _ h
   .rw[Js] at h;exact wpAny_eqBool_str h
 «strs»:=λk x t v h=>by
  rcases eZ h with⟨i,u,rfl,e⟩ | ⟨y,u,rfl,e⟩
  .exact nomatch e
  .injection e with e1 _
   subst e1;cases v<;>rfl
theorem vL (prog:aV)(w:World)(i:Int)(t:Tok):(d8 prog w).is (.inl i) (.int i t)=true:=Bc i t
theorem vM (prog:aV)(w:World)(x:Str)(t:Tok):(d8 prog w).is (.inr x) (.str x t)=true:=Bd x t
inductive V where
 | f' | bl (b:Bool) | int (i:Int) | str (x:Str) | Cw (b:Array UInt8) | Mq (b:UInt64) | ref (a:Addr) | ty (n:String)
 deriving DecidableEq
noncomputable def RelV:V->ah->Prop
 | .f',u=>u=ah.none
 | .bl b,u=>u=ah.bool b
 | .int i,u=>∃t,u=ah.int i t
 | .str x,u=>∃t,u=ah.str x t
 | .Cw b,u=>∃t,u=ah.bytes b t
 | .Mq b,u=>∃t,u=ah.float b t
 | .ref a,u=>u=ah.ref a
 | .ty n,u=>u=ah.type n
noncomputable abbrev dW:List V->List ah->Prop:=Paired RelV
theorem dW.length (r:dW xs us):xs.length=us.length:=Paired.length r
theorem dW.get:∀{xs:List V} {us:List ah} {i:Nat} {x:V},dW xs us->xs[i]? = some x->∃u,us[i]? = some u/\RelV x u
 | _,_,_,_,.nil,e=>by simp at e
 | _,_,0,_,.cons r _,e=>by simp at e;subst e;exact⟨_,rfl,r⟩
 | _,_,i+1,x,.cons _ t,e=>by
  obtain⟨u,h1,h2⟩:=dW.get (i:=i) (x:=x) t (by simpa using e);exact⟨u,by simpa using h1,h2⟩
theorem dW.set (r:RelV x u):∀{xs:List V} {us:List ah} (i:Nat),dW xs us->dW (xs.set i x) (us.set i u)
 | _,_,_,.nil=>.nil
 | _,_,0,.cons _ t=>.cons r t
 | _,_,i+1,.cons q t=>.cons q (dW.set r i t)
theorem dW.append:∀{xs ys:List V} {us ws:List ah},dW xs us->dW ys ws->dW (xs++ys) (us++ws)
 | _,_,_,_,.nil,s=>s
 | _,_,_,_,.cons r t,s=>.cons r (dW.append t s)
theorem dW.take:∀{xs:List V} {us:List ah} (n:Nat),dW xs us->dW (xs.take n) (us.take n)
 | _,_,0,_=>.nil
 | _,_,_+1,.nil=>.nil
 | _,_,n+1,.cons r t=>.cons r (dW.take n t)
theorem dW.drop:∀{xs:List V} {us:List ah} (n:Nat),dW xs us->dW (xs.drop n) (us.drop n)
 | _,_,0,r=>r
 | _,_,_+1,.nil=>.nil
 | _,_,n+1,.cons _ t=>dW.drop n t
noncomputable def nu:Option V->Option ah->Prop
 | some v,some u=>RelV v u
 | none,none=>True
 | _,_=>False
noncomputable def KV {κ:Type}:List (κ × V)->List (κ × ah)->Prop:=Paired λ(p:κ × V) (q:κ × ah)=>p.1=q.1/\RelV p.2 q.2
noncomputable def kV:Key->V
 | .inl i=>.int i
 | .inr x=>.str x
inductive HO where
 | lst (xs:List V)
 | tup (xs:List V)
 | dK (kvs:List (Key × V)) | dT (kvs:List (List Key × V))
 | set (S:Int->Bool) (n:Nat)
 | ins (C dx:Addr) (fs:List (Str × V))
 | own (x:Addr)
 | xd (fs:List (Str × V))
 | met (f x:Addr)
 | HX (lo hi:Int)
 | mH (o:Obj) (u:HO)
 | Jv (ps:Array ah)
 | ext (φ:Heap->Prop)
noncomputable abbrev Hp:=Addr->Option HO
noncomputable def eg (H:Hp)(a:Addr)(o:HO):Hp:=λb=>if b=a then some o else H b
theorem dz:eg H a o a=some o:=by unfold eg;rw[if_pos rfl]
theorem dH (h:b≠a):eg H a o b=H b:=by unfold eg;rw[if_neg h]
theorem MJ {H:Hp}{a b:Addr}{o u:HO}(h:H a=some o)(h':H b=some u)(d:o≠u):a≠b:=by
 intro e;subst e;rw[h] at h';exact d (Option.some.inj h')
theorem e9 {H:Hp}{a b:Addr}{o:HO}(h:H a=some o)(h':H b=none):a≠b:=by
 intro e;subst e;rw[h] at h';cases h'
section
variable (P:aV)(w:World)
noncomputable def se (h:Heap)(a:Addr)(items:Array ah):Prop:=∃o,h.get? a=some o/\o.cls=.type "tuple" /\ ∃n,o.data=.seq items n/\o.dict=none
omit P w in
theorem se.tup (p:se h a items):IsTup h a items:=let ⟨o,e,c,n,d,_⟩:=p;⟨o,e,c,n,d⟩
omit P w in
theorem se.new (h:Heap)(items:Array ah):se (h.push { cls:=.type "tuple",data:=.seq items }) h.objs.size items:=⟨_,aB _ rfl,rfl,_,rfl,rfl⟩
noncomputable def fb (H:Hp)(h:Heap)(a:Addr):HO->Prop
 | .lst xs=>xs.length<=aA/\∃(its:List ah) (n:Nat),dW xs its/\h.get? a=some { cls:=.type "list",data:=.seq its.toArray n }
 | .tup xs=>xs.length<=aA/\∃its:List ah,dW xs its/\se h a its.toArray
 | .dK kvs=>kvs.length<=aA/\(a == sysModules)=false/\∃vs,KV kvs vs/\h.DictOf (d8 P w) a vs
 | .dT kvs=>kvs.length<=aA/\(a == sysModules)=false/\∃xs:List (List Key × Addr × ah),
   Paired (λ(p:List Key × V) (q:List Key × Addr × ah)=>p.1=q.1/\H q.2.1=some (.tup (p.1.map kV))/\RelV p.2 q.2.2) kvs xs /\
   ∃o es ep,h.get? a=some o/\o.ExactDict/\o.data=.dict es ep/\es.toList=xs.map (entryOfKey (tupleKind (d8 P w)))/\(xs.map (·.1)).Nodup
 | .set S n=>h.SetOf (intKind P w) a S n
 | .ins C dx fs=>H dx=some (.own a)/\fs.length<=1000/\dx≠a/\h.get? a=some (W.instObj C dx) /\
   ∃mA,h.Ns1 dx mA/\(∀f,nu (fs.lookup f) (mA f))/\PySem.Within mA (fs.map (·.1))
 | .own _=>∃o,h.get? a=some o
 | .xd fs=>∃mA,h.Ns1 a mA/\∀f,nu (fs.lookup f) (mA f)
 | .HX lo hi=>∃t u v,h.get? a=some { cls:=.type "range",data:=.fields #[.int lo t,.int hi u,.int 1 v] }
 | .mH o u=>h.get? a=some o/\fb H h a u
 | .Jv ps=>h.get? a=some { cls:=.none,data:=.fields ps }
 | .met f x=>h.get? a=some (W.methodObj (.ref f) (.ref x))
 | .ext φ=>φ h/\(∃o,h.get? a=some o)/\∀h1 h2:Heap,φ h1->(∀o,h1.get? a=some o->h2.get? a=some o)->φ h2
noncomputable def kO (H:Hp)(h:Heap):Prop:=∀a o,H a=some o->fb P w H h a o
end
section
variable {P:aV}{w:World}{H H':Hp}{h h':Heap}{a:Addr}{o:HO}
theorem fb.lt (x:fb P w H h a o):a<h.objs.size:=by
 cases o with
 | lst xs=>obtain⟨_,_,_,_,e⟩:=x;exact aI e
 | tup xs=>obtain⟨_,_,_,p⟩:=x;exact p.tup.lt
 | dK kvs=>obtain⟨_,_,_,_,o,_,_,e,_⟩:=x;exact aI e
 | dT kvs=>obtain⟨_,_,_,_,o,_,_,e,_⟩:=x;exact aI e
 | set S n=>obtain⟨o,_,_,_,e,_⟩:=x;exact aI e
 | ins C dx fs=>obtain⟨_,_,_,e,_⟩:=x;exact aI e
 | own y=>obtain⟨_,e⟩:=x;exact aI e
 | xd fs=>obtain⟨_,⟨_,_,_,e,_⟩,_⟩:=x;exact aI e
 | HX lo hi=>obtain⟨_,_,_,e⟩:=x;exact aI e
 | mH ob u=>obtain⟨e,_⟩:=x;exact aI e
 | Jv ps=>exact aI (show h.get? a=some _ from x)
 | met f y=>exact aI (show h.get? a=some _ from x)
 | ext φ=>obtain⟨_,⟨_,e⟩,_⟩:=x;exact aI e
theorem Paired.Jw {α β:Type}{F G:α->β->Prop}:∀{l₁:List α} {l₂:List β},Paired F l₁ l₂->(∀a b,F a b->G a b)->Paired G l₁ l₂
 | _,_,.nil,_=>.nil
 | _,_,.cons r t,f=>.cons (f _ _ r) (Paired.Jw t f)
theorem fb.xZ (x:fb P w H h a o)(k:∀b u,(b=a\/H b=some (.own a))->h.get? b=some u->h'.get? b=some u)
  (ho:∀b,H b=some (.own a)->H' b=some (.own a)) (ht:∀b xs,H b=some (.tup xs)->H' b=some (.tup xs)):fb P w H' h' a o:=by
 induction o with
 | lst xs=>obtain⟨z,its,n,r,e⟩:=x;exact⟨z,its,n,r,k _ _ (.inl rfl) e⟩
 | tup xs=>obtain⟨z,its,r,ob,e,c⟩:=x;exact⟨z,its,r,ob,k _ _ (.inl rfl) e,c⟩
 | dK kvs=>obtain⟨z,y,vs,r,ob,es,ep,e,c⟩:=x;exact⟨z,y,vs,r,ob,es,ep,k _ _ (.inl rfl) e,c⟩
 | dT kvs =>
  obtain⟨z,y,xs,r,ob,es,ep,e,c⟩:=x;exact⟨z,y,xs,Paired.Jw r λp q z=>⟨z.1,ht _ _ z.2.1,z.2.2⟩,ob,es,ep,k _ _ (.inl rfl) e,c⟩
 | set S n=>obtain⟨ob,es,ep,t,e,c⟩:=x;exact⟨ob,es,ep,t,k _ _ (.inl rfl) e,c⟩
 | ins C dx fs =>
  obtain⟨d,z,ne,e,mA,⟨od,es,ep,e2,c⟩,r⟩:=x;exact⟨ho _ d,z,ne,k _ _ (.inl rfl) e,mA,⟨od,es,ep,k _ _ (.inr d) e2,c⟩,r⟩
 | own y=>obtain⟨ob,e⟩:=x;exact⟨ob,k _ _ (.inl rfl) e⟩
 | xd fs=>obtain⟨mA,⟨od,es,ep,e,c⟩,r⟩:=x;exact⟨mA,⟨od,es,ep,k _ _ (.inl rfl) e,c⟩,r⟩
 | HX lo hi=>obtain⟨t,u,v,e⟩:=x;exact⟨t,u,v,k _ _ (.inl rfl) e⟩
 | mH ob u ih=>obtain⟨e,q⟩:=x;exact⟨k _ _ (.inl rfl) e,ih q⟩
 | Jv ps =>
  have e:h.get? a=some { cls:=.none,data:=.fields ps }:=x;show h'.get? a=some { cls:=.none,data:=.fields ps };exact k a _ (.inl rfl) e
 | met f y =>
  have e:h.get? a=some (W.methodObj (.ref f) (.ref y)):=x;show h'.get? a=some (W.methodObj (.ref f) (.ref y));exact k a _ (.inl rfl) e
 | ext φ=>obtain⟨p,⟨o,e⟩,st⟩:=x;exact⟨st _ _ p λo q=>k _ _ (.inl rfl) q,⟨o,k _ _ (.inl rfl) e⟩,st⟩
theorem kO.lt (x:kO P w H h)(e:H a=some o):a<h.objs.size:=(x a o e).lt
theorem kO.fresh (x:kO P w H h)(e:h.objs.size<=a):H a=none:=by
 cases q:H a with
 | none=>rfl
 | some u=>exact absurd (aU (x.lt q) e) (bN _)
theorem kO.kept (x:kO P w H h)(k:∀b u,h.get? b=some u->h'.get? b=some u):kO P w H h':=λa o e =>
 (x a o e).xZ (λb u _ q=>k b u q) (λ_ q=>q) λ_ _ q=>q
theorem kO.laid (x:kO P w H h)(k:∀b u,h.get? b=some u->h'.get? b=some u)(hp:h.objs.size<=a)(new:fb P w (eg H a o) h' a o):kO P w (eg H a o) h':=λb u e=>by
 have hn:=x.fresh hp;by_cases hb:b=a
 .subst hb;rw[dz] at e;cases e;exact new
 .rw[dH hb] at e
  exact (x b u e).xZ (λc v _ q=>k c v q) (λc q=>by rw[dH (e9 q hn)];exact q) λc xs q=>by rw[dH (e9 q hn)];exact q
end
noncomputable def Rd (H:Hp)(a:Addr)(u:HO):Prop:=H a=some u\/∃o,H a=some (.mH o u)
theorem Rd.ok (r:Rd H a u)(x:kO P w H h):fb P w H h a u:=by
 rcases r with r | ⟨o,r⟩
 .exact x a u r
 .obtain⟨_,q⟩:=x a _ r
  exact q
noncomputable def MK:Option HO->Prop
 | some (.lst _)=>True
 | some (.dK _)=>True
 | some (.dT _)=>True
 | some (.set _ _)=>True
 | some (.ins _ _ _)=>True
 | some (.ext _)=>True
 | _=>False
section
theorem kO.write (ok:kO P w H h)(mu:MK (H x))(he:e=x\/H e=some (.own x))(k:∀b u,b≠e->h.get? b=some u->h'.get? b=some u)(Mr:∃u,h'.get? e=some u)
  (new:fb P w (eg H x o') h' x o'):kO P w (eg H x o') h':=λb u q=>by
 have ML:∀c y,H c=some (.own y)->c≠x:=λc y r z=>by subst z;rw[r] at mu;exact mu
 have Qs:∀c xs,H c=some (.tup xs)->c≠x:=λc xs r z=>by subst z;rw[r] at mu;exact mu
 by_cases hb:b=x
 .subst hb;rw[dz] at q;cases q;exact new
 .rw[dH hb] at q
  by_cases Jx:b=e
  .have q':H b=some (.own x):=by
    rcases he with z | z
    .exact absurd (Jx.trans z) hb
    .rw[Jx];exact z
   rw[q] at q';cases q';obtain⟨v,hv⟩:=Mr;exact⟨v,by rw[Jx];exact hv⟩
  .refine (ok b u q).xZ (λc v hc r=>k c v ?_ r) (λc r=>by rw[dH (ML c b r)];exact r) λc xs r=>by rw[dH (Qs c xs r)];exact r
   rcases hc with rfl | hc
   .exact Jx
   .rintro rfl
    rcases he with z | z
    .exact ML c b hc z
    .rw[hc] at z;cases z;exact hb rfl
end
structure Un (fs ex:List Addr) (H H':Hp) (h h':Heap):Prop where
 keep:∀b o,h.get? b=some o->H b=none->b ∉ fs->b ∉ ex->h'.get? b=some o
 slot:∀b o,h.get? b=some o->H b=none->b∈fs->b ∉ ex->∃sl,h'.get? b=some { o with slots:=sl }
 free:∀b o,h.get? b=some o->H b=none->b ∉ ex->H' b=none
 there:∀b o,h.get? b=some o->b ∉ ex->∃o',h'.get? b=some o'
 vN:∀b xs,H b=some (.tup xs)->H' b=some (.tup xs)
 t9:∀b o u,H b=some (.mH o u)->H' b=some (.mH o u)
 vO:∀b ps,H b=some (.Jv ps)->∃more,H' b=some (.Jv (ps++more))
section
variable {fs WB ex WC:List Addr}{H H1 H2:Hp}{h h1 h2 h':Heap}{a x e:Addr}{o:HO}
theorem Un.any (u:Un fs ex H H1 h h1)(q:h.get? b=some ob)(n:H b=none)(hx:b ∉ ex):∃sl,h1.get? b=some { ob with slots:=sl }:=by
 by_cases hb:b∈fs
 .exact u.slot b ob q n hb hx
 .exact⟨ob.slots,u.keep b ob q n hb hx⟩
theorem Un.kept (k:∀b u,h.get? b=some u->h'.get? b=some u):Un fs ex H H h h' :=
 ⟨λb ob q _ _ _=>k b ob q,λb ob q _ _ _=>⟨ob.slots,k b ob q⟩,λ_ _ _ n _=>n,λb ob q _=>⟨ob,k b ob q⟩,λ_ _ q=>q,λ_ _ _ q=>q,λ_ ps q=>⟨#[],by rw[q];simp⟩⟩
theorem Un.refl:Un fs ex H H h h:=Un.kept λ_ _ q=>q
theorem Un.laid (k:∀b u,h.get? b=some u->h'.get? b=some u)(hp:h.objs.size<=a)(hn:H a=none):Un fs ex H (eg H a o) h h' where
 keep:=λb u q _ _ _=>k b u q
 slot:=λb u q _ _ _=>⟨u.slots,k b u q⟩
 free:=λb u q n _=>by rw[dH (bp (aU (aI q) hp))];exact n
 there:=λb u q _=>⟨u,k b u q⟩
 vN:=λb xs q=>by rw[dH (e9 q hn)];exact q
 t9:=λb u xs q=>by rw[dH (e9 q hn)];exact q
 vO:=λb ps q=>⟨#[],by rw[dH (e9 q hn),q];simp⟩
theorem Un.write (mu:MK (H x))(he:e=x\/H e=some (.own x))(k:∀b u,b≠e->h.get? b=some u->h'.get? b=some u)(Mr:∃u,h'.get? e=some u):Un fs ex H (eg H x o) h h':=by
 have hx:∀b,H b=none->b≠x:=λb n z=>by subst z;rw[n] at mu;exact mu
 have hb:∀b,H b=none->b≠e:=λb n z=>by
  subst z;rcases he with r | r
  .exact hx b n r
  .rw[n] at r;cases r
 have hm:∀b u,H b=some u->¬ MK (some u)->b≠x:=λb u q nm z=>by subst z;rw[q] at mu;exact nm mu
 refine⟨λb u q n _ _=>k b u (hb b n) q,λb u q n _ _=>⟨u.slots,k b u (hb b n) q⟩,λb u q n _=>by rw[dH (hx b n)];exact n,λb u q _=>?_,
  λb xs q=>by rw[dH (hm b _ q λz=>z)];exact q,λb u xs q=>by rw[dH (hm b _ q λz=>z)];exact q,λb ps q=>⟨#[],by rw[dH (hm b _ q λz=>z),q];simp⟩⟩
 by_cases Jx:b=e
 .subst Jx;exact Mr
 .exact⟨u,k b u Jx q⟩
end
noncomputable def Px (h:Heap)(H:Hp):List Addr:=(List.range h.objs.size).filter λa=>(H a).isSome
noncomputable def uf (h:Heap)(H:Hp):Heap:=W.hideAll h (Px h H)
theorem Be (h:Heap)(H:Hp):(uf h H).objs.size=h.objs.size:=W.hideAll_size _ _
theorem Cy (e:h.get? b=some o)(n:H b=none):(uf h H).get? b=some o :=
 W.hideAll_get _ e λhm=>by
  have q:(H b).isSome=true:=(aT.mp hm).2;rw[n] at q;simp at q
theorem FK (e:(uf h H).get? b=some o):h.get? b=some o/\H b=none:=by
 have e':h.get? b=some o:=W.of_hideAll (Px h H) e;refine⟨e',?_⟩
 cases q:H b with
 | none=>rfl
 | some x =>
  have hm:b∈Px h H:=aT.mpr ⟨List.mem_range.mpr (aI e'),by simp[q]⟩;have z:(uf h H).get? b=none:=W.hideAll_none (Px h H) hm;rw[z] at e;cases e
noncomputable def FN (g h:Heap)(L:Addr):List (Addr × Obj):=(List.range h.objs.size).filterMap λa=>if a=L\/(g.get? a).isSome=true then none else (h.get? a).map λo=>(a,o)
noncomputable def rest (g h:Heap)(L d:Addr):List (Addr × Obj):=(FN g h L).filter λp=>decide (p.1≠d)
structure Mod (K:W.Frag) (mg:Str->Option ah) (base:Heap):Prop where
 Qt:K.In base
 glob:base.Ns bq mg
 blt:∃mb,base.Ns builtinsNs mb/\∀x:Str,x ≠ "__name__" -> mb x=bootBuiltins x
 nolimit:base.NoLimit
structure Cx where
 prog:aV
 w:World
 K:W.Frag
 mg:Str->Option ah
 base:Heap
 A:Around
 N:List Str
 s₀:ax
 H₀:Hp
 env:Env
 outer:List Env
 stack:List Env
 ex:List Addr
 fn:Str->Bool
 calm:Bool
 pn:List (Addr × Obj)
 xe:ah->ax->Prop
noncomputable def ya (l:List Env):List Addr:=l.filterMap (·.frame)
noncomputable abbrev Cx.fs (X:Cx):List Addr:=ya X.outer
noncomputable def rZ (sc:Scope)(x:Str):Prop:=sc.names.lookup x=some .local\/sc.names.lookup x=some .cell\/sc.names.lookup x=some .free
noncomputable def Loc (sc:Scope)(x:Str):Prop:=sc.names.lookup x=some .local\/sc.names.lookup x=some .cell
noncomputable def Look (env:Env)(h:Heap)(m:Str->Option ah)(x:Str)(u:ah):Prop :=
 (env.kindOf x=some .local/\m x=some u)\/((env.kindOf x=some .cell\/env.kindOf x=some .free)/\∃c,env.cells.lookup x=some c/\h.IsCell c (some u))
structure Cx.Ok (X:Cx):Prop where
 mod:Mod X.K X.mg X.base
 kind:X.env.scope.kind=.function
 glob:X.env.globals=bq
 blt:X.env.builtins=builtinsNs
 above:X.s₀.heap.objs.size<=X.env.locals
 inj:∀x y c,X.env.cells.lookup x=some c->X.env.cells.lookup y=some c->x=y
 has:∀x,(X.env.kindOf x=some .cell\/X.env.kindOf x=some .free)->∃c,X.env.cells.lookup x=some c
 MM:∀x c,X.fn x=true->X.env.cells.lookup x=some c->X.s₀.heap.objs.size<=c
 hd:X.calm=true->X.A.handled=none
 frames:X.A.frames=some X.stack
 Py:X.stack=X.outer\/(X.stack=X.env::X.outer/\X.env.frame=some X.env.locals)
 SX:∀b∈X.ex,b≠X.env.locals/\∀x c,X.env.cells.lookup x=some c->c≠b
 bs:∀b o,X.base.get? b=some o->X.s₀.heap.get? b=some o/\X.H₀ b=none
 Jy:X.base.objs.size<=X.s₀.heap.objs.size
 Cz:∀b o,X.base.get? b=some o->b ∉ X.ex
 FO:∀b∈X.ex,b ∉ X.fs
 qd:X.s₀.heap.FunFrames X.base X.outer
 Ms:∀b∈X.fs,X.H₀ b=none
structure Inv (X:Cx) (pins:List (Addr × Obj)) (σ:List (Option V)) (H:Hp) (s:ax):Prop where
 ok:X.Ok
 os:s.os=X.s₀.os
 bare:AllBare s.gens
 base:Un X.fs X.ex X.H₀ H X.s₀.heap s.heap
 loc:∃m,s.heap.Ns X.env.locals m/\∀(i:Nat) (x:Str) (v:V),X.N[i]? = some x->σ[i]? = some (some v)->rZ X.env.scope x->∃u,RelV v u/\Look X.env s.heap m x u
 cell:∀x c,X.env.cells.lookup x=some c->∃v,s.heap.IsCell c v
 free:H X.env.locals=none
 mf:∀x c,X.env.cells.lookup x=some c->H c=none
 pin:∀p∈X.pn++pins,s.heap.get? p.1=some p.2/\H p.1=none/\p.1≠X.env.locals/\p.1 ∉ X.fs/\∀v,p.2.data≠.cell v
 eD:kO X.prog X.w H s.heap
 len:σ.length=X.N.length
section
variable {X:Cx}{pins:List (Addr × Obj)}{σ:List (Option V)}{H H':Hp}{s:ax}{h':Heap}
theorem Cx.Ok.Qu (ok:X.Ok){b:Addr}{o:Obj}(e:X.base.get? b=some o):b ∉ X.fs:=λhb=>by
 have:=(ok.qd.mem hb).1;rw[e] at this;cases this
theorem Inv.bs (I:Inv X pins σ H s):∀b o,X.base.get? b=some o->s.heap.get? b=some o/\H b=none:=λb o e =>
 ⟨I.base.keep b o (I.ok.bs b o e).1 (I.ok.bs b o e).2 (I.ok.Qu e) (I.ok.Cz b o e),I.base.free b o (I.ok.bs b o e).1 (I.ok.bs b o e).2 (I.ok.Cz b o e)⟩
theorem Inv.bk (I:Inv X pins σ H s):∀b o,X.base.get? b=some o->s.heap.get? b=some o:=λb o e=>(I.bs b o e).1
theorem Inv.mod (I:Inv X pins σ H s):Mod X.K X.mg X.base:=I.ok.mod
theorem Inv.vP (I:Inv X pins σ H s):X.K.In s.heap:=I.ok.mod.Qt.keeps I.bk
theorem Inv.lt (I:Inv X pins σ H s):X.env.locals<s.heap.objs.size:=let ⟨_,hn,_⟩:=I.loc;hn.lt
theorem Inv.sz (I:Inv X pins σ H s):X.s₀.heap.objs.size<=s.heap.objs.size:=bu I.ok.above (dj I.lt)
theorem Inv.MN (I:Inv X pins σ H s)(h:s.heap.objs.size<=a):a ∉ X.fs:=λhb=>by
 obtain⟨_,o,ho,_⟩:=I.ok.qd.mem hb;exact absurd (aU (aI ho) (bu I.sz h)) (bN _)
theorem Inv.Jz (I:Inv X pins σ H s):∀x c,X.env.cells.lookup x=some c->c≠X.env.locals:=λx c e z=>by
 obtain⟨v,o,ho,hd⟩:=I.cell x c e;obtain⟨m,⟨o',es,ep,JA,Qv,_⟩,_⟩:=I.loc;rw[z,JA] at ho;cases ho;rw[Qv] at hd;cases hd
theorem Inv.qd (I:Inv X pins σ H s):s.heap.FunFrames X.base X.outer:=by
 have all:∀(l:List Env),(∀b∈ya l,b∈X.fs)->X.s₀.heap.FunFrames X.base l->s.heap.FunFrames X.base l:=by
  intro l
  induction l with
  | nil=>intro _ _;trivial
  | cons env r ih =>
   intro hs hl;obtain⟨hk,⟨L,o,hf,hn,ho,hd⟩,hr⟩:=hl;have hL:L∈X.fs:=hs L (by unfold ya;rw[cK,hf];exact ar);obtain⟨sl,e⟩:=I.base.slot L o ho (I.ok.Ms L hL) hL λz=>I.ok.FO L z hL;exact⟨hk,⟨L,_,hf,hn,e,hd⟩,ih (λb hb=>hs b (by unfold ya;rw[cK,hf];exact ai _ hb)) hr⟩
 exact all X.outer (λ_ hb=>hb) I.ok.qd
theorem Inv.stack (I:Inv X pins σ H s):s.heap.FunFrames X.base X.stack:=by
 rcases I.ok.Py with e | ⟨e,hf⟩
 .rw[e];exact I.qd
 .rw[e]
  obtain⟨m,hn,_⟩:=I.loc;refine .cons (by rw[I.ok.kind];decide) hf hn ?_ I.qd;exact Heap.get?_none_of_le (bu I.ok.Jy I.ok.above)
theorem Inv.qf (I:Inv X pins σ H s):∀b∈ya X.stack,b∈X.env.locals::X.fs:=λb hb=>by
 rcases I.ok.Py with e | ⟨e,hf⟩
 .rw[e] at hb;exact ai _ hb
 .rw[e] at hb
  unfold ya at hb;rw[cK,hf] at hb;exact hb
theorem Inv.zP (I:Inv X pins σ H s):∀b∈ya X.stack,H b=none:=λb hb=>by
 rcases av.mp (I.qf b hb) with e | hb
 .rw[e];exact I.free
 .obtain⟨_,o,ho,_⟩:=I.ok.qd.mem hb
  exact I.base.free b o ho (I.ok.Ms b hb) λz=>I.ok.FO b z hb
theorem Inv.step {g':Array GenState}{t':Nat}{d':Drawn}{ch:List Addr}(I:Inv X pins σ H s)
  (zQ:∀b∈ch,(b∈X.ex\/X.s₀.heap.objs.size<=b)/\b≠X.env.locals/\(∀x c,X.env.cells.lookup x=some c->c≠b)/\∀p∈X.pn++pins,p.1≠b)
  (keep:∀b o,b≠X.env.locals->b ∉ X.fs->b ∉ ch->s.heap.get? b=some o->H b=none->h'.get? b=some o)
  (slot:∀b o,b≠X.env.locals->b∈X.fs->b ∉ ch->s.heap.get? b=some o->H b=none->∃sl,h'.get? b=some { o with slots:=sl }) (free:∀b o,b ∉ ch->s.heap.get? b=some o->H b=none->H' b=none)
  (there:∀b o,b ∉ ch->s.heap.get? b=some o->∃o',h'.get? b=some o')
  (vN:∀b xs,H b=some (.tup xs)->H' b=some (.tup xs)) (t9:∀b o u,H b=some (.mH o u)->H' b=some (.mH o u)) (vO:∀b ps,H b=some (.Jv ps)->∃more,H' b=some (.Jv (ps++more)))
  (ns:∀m,s.heap.Ns X.env.locals m->h'.Ns X.env.locals m) (eD:kO X.prog X.w H' h') (hg:AllBare g') :
  Inv X pins σ H' { s with heap:=h',gens:=g',drawn:=d',toks:=t' }:=by
 have SY:∀b o,X.s₀.heap.get? b=some o->b≠X.env.locals:=λb o e=>bp (aU (aI e) I.ok.above)
 have Pz:∀b o,X.s₀.heap.get? b=some o->b ∉ X.ex->b ∉ ch:=λb o e hx hb=>by
  rcases (zQ b hb).1 with z | z
  .exact hx z
  .exact absurd (aU (aI e) z) (bN _)
 have HY:∀x c,X.env.cells.lookup x=some c->∀v,s.heap.IsCell c v->h'.IsCell c v:=λx c e v ⟨o,ho,hd⟩=>by
  have MO:c ∉ ch:=λz=>(zQ c z).2.2.1 x c e rfl;by_cases hc:c∈X.fs
  .obtain⟨sl,q⟩:=slot c o (I.Jz x c e) hc MO ho (I.mf x c e)
   exact⟨_,q,hd⟩
  .exact⟨o,keep c o (I.Jz x c e) hc MO ho (I.mf x c e),hd⟩
 refine⟨I.ok,I.os,hg,⟨λb o e n hb hx=>?_,λb o e n hb hx=>?_,λb o e n hx=>?_,λb o e hx=>?_,λb xs e=>vN b xs (I.base.vN b xs e),λb o xs e=>t9 b o xs (I.base.t9 b o xs e),λb ps e=>?_⟩,?_,λx c e=>?_,?_,λx c e=>?_,λp hp=>?_,eD,I.len⟩
 .exact keep b o (SY b o e) hb (Pz b o e hx) (I.base.keep b o e n hb hx) (I.base.free b o e n hx)
 .obtain⟨sl,e1⟩:=I.base.slot b o e n hb hx
  obtain⟨Up,e2⟩:=slot b _ (SY b o e) hb (Pz b o e hx) e1 (I.base.free b o e n hx);exact⟨Up,e2⟩
 .obtain⟨o',e1⟩:=I.base.there b o e hx
  exact free b o' (Pz b o e hx) e1 (I.base.free b o e n hx)
 .obtain⟨o',e1⟩:=I.base.there b o e hx
  exact there b o' (Pz b o e hx) e1
 .obtain⟨m1,e1⟩:=I.base.vO b ps e
  obtain⟨m2,e2⟩:=vO b _ e1;exact⟨m1++m2,by rw[e2,Array.append_assoc]⟩
 .obtain⟨m,hn,hl⟩:=I.loc
  refine⟨m,ns m hn,λi x v e1 e2 e3=>?_⟩;obtain⟨u,r,l⟩:=hl i x v e1 e2 e3;refine⟨u,r,?_⟩;rcases l with l | ⟨k,c,e,z⟩
  .exact .inl l
  .exact .inr ⟨k,c,e,HY x c e _ z⟩
 .obtain⟨v,z⟩:=I.cell x c e
  exact⟨v,HY x c e v z⟩
 .obtain⟨m,⟨o,_,_,ho,_⟩,_⟩:=I.loc
  exact free _ o (λz=>(zQ _ z).2.1 rfl) ho I.free
 .obtain⟨v,o,ho,hd⟩:=I.cell x c e
  exact free c o (λz=>(zQ c z).2.2.1 x c e rfl) ho (I.mf x c e)
 .obtain⟨e,n,ne,nf,d⟩:=I.pin p hp
  have MO:p.1 ∉ ch:=λz=>(zQ p.1 z).2.2.2 p hp rfl;exact⟨keep p.1 p.2 ne nf MO e n,free p.1 p.2 MO e n,ne,nf,d⟩
theorem Inv.un {t':Nat}(I:Inv X pins σ H s)(u:Un X.fs [] H H' s.heap h')(eD:kO X.prog X.w H' h'):Inv X pins σ H' { s with heap:=h',toks:=t' }:=by
 obtain⟨m,⟨o,es,ep,ho,r⟩,_⟩:=id I.loc;obtain⟨sl,hL⟩:=u.any ho I.free (!4)
 exact I.step (g':=s.gens) (d':=s.drawn) (ch:=[]) (λ_ z=>nomatch z) (λb o _ hb _ e n=>u.keep b o e n hb (!4)) (λb o _ hb _ e n=>u.slot b o e n hb (!4)) (λb o _ e n=>u.free b o e n (!4)) (λb o _ e=>u.there b o e (!4)) u.vN u.t9 u.vO (λm' hm=>by
  obtain⟨o',sN,JB,JA,r'⟩:=hm;rw[ho] at JA;cases JA;exact⟨_,sN,JB,hL,r'⟩) eD I.bare
theorem Inv.call {g':Array GenState}{t':Nat}{d':Drawn}{ch:List Addr}(I:Inv X pins σ H s)(u:Un (ya X.stack) ch H H' s.heap h')(eD:kO X.prog X.w H' h')(hg:AllBare g')
  (zQ:∀b∈ch,(b∈X.ex\/X.s₀.heap.objs.size<=b)/\b≠X.env.locals/\(∀x c,X.env.cells.lookup x=some c->c≠b)/\∀p∈X.pn++pins,p.1≠b) :
  Inv X pins σ H' { s with heap:=h',gens:=g',drawn:=d',toks:=t' }:=by
 obtain⟨m,⟨o,es,ep,ho,r⟩,_⟩:=id I.loc;obtain⟨sl,hL⟩:=u.any ho I.free λz=>(zQ _ z).2.1 rfl
 exact I.step (ch:=ch) zQ (λb o hL hb hc e n=>u.keep b o e n (λz=>(av.mp (I.qf b z)).elim hL hb) hc) (λb o _ _ hc e n=>u.any e n hc) (λb o hc e n=>u.free b o e n hc) (λb o hc e=>u.there b o e hc) u.vN u.t9 u.vO (λm' hm=>by
  obtain⟨o',sN,JB,JA,r'⟩:=hm;rw[ho] at JA;cases JA;exact⟨_,sN,JB,hL,r'⟩) eD hg
theorem Inv.turned {t':Nat}{it:Addr}(I:Inv X pins σ H s)(k:∀b o,b≠it->s.heap.get? b=some o->h'.get? b=some o)(hn:H it=none)(hL:it≠X.env.locals)
  (h1:it∈X.ex\/X.s₀.heap.objs.size<=it) (h2:∀x c,X.env.cells.lookup x=some c->c≠it) (h3:∀p∈X.pn++pins,p.1≠it):Inv X pins σ H { s with heap:=h',toks:=t' }:=by
 have HZ:∀b u,H b=some u->b≠it:=λb u e z=>by rw[z,hn] at e;cases e
 refine I.step (g':=s.gens) (d':=s.drawn) (ch:=[it]) (λb hb=>?_) (λb o _ _ hc e _=>k b o (λz=>hc (by simp[z])) e) (λb o _ _ hc e _=>⟨o.slots,k b o (λz=>hc (by simp[z])) e⟩) (λ_ _ _ _ n=>n)
  (λb o hc e=>⟨o,k b o (λz=>hc (by simp[z])) e⟩) (λ_ _ e=>e) (λ_ _ _ e=>e) (λb ps e=>⟨#[],by rw[e];simp⟩) (λm hm=>?_) (λb u e=>?_) I.bare
 .have e:b=it:=by simpa using hb
  subst e;exact⟨h1,hL,h2,h3⟩
 .obtain⟨o,es,ep,ho,r⟩:=hm
  exact⟨o,es,ep,k _ o (Ne.symm hL) ho,r⟩
 .refine (I.eD b u e).xZ (λc v hc q=>k c v ?_ q) (λ_ q=>q) λ_ _ q=>q
  rcases hc with z | z
  .rw[z];exact HZ b u e
  .exact HZ c _ z
theorem Inv.tok (I:Inv X pins σ H s)(t:Nat):Inv X pins σ H { s with toks:=t }:=I.un (h':=s.heap) (t':=t) Un.refl I.eD
theorem Inv.kept {t':Nat}(I:Inv X pins σ H s)(k:∀b u,s.heap.get? b=some u->h'.get? b=some u):Inv X pins σ H { s with heap:=h',toks:=t' }:=I.un (Un.kept k) (I.eD.kept k)
theorem Inv.laid {a:Addr}{o:HO}{t':Nat}(I:Inv X pins σ H s)(k:∀b u,s.heap.get? b=some u->h'.get? b=some u)(hp:s.heap.objs.size<=a)(new:fb X.prog X.w (eg H a o) h' a o) :
  Inv X pins σ (eg H a o) { s with heap:=h',toks:=t' }:=I.un (Un.laid k hp (I.eD.fresh hp)) (I.eD.laid k hp new)
theorem Inv.write {x e:Addr}{o:HO}{t':Nat}(I:Inv X pins σ H s)(mu:MK (H x))(he:e=x\/H e=some (.own x))(k:∀b u,b≠e->s.heap.get? b=some u->h'.get? b=some u)(Mr:∃u,h'.get? e=some u)
  (new:fb X.prog X.w (eg H x o) h' x o):Inv X pins σ (eg H x o) { s with heap:=h',toks:=t' }:=I.un (Un.write mu he k Mr) (I.eD.write mu he k Mr new)
theorem Inv.pO (I:Inv X pins σ H s)(h:∀p∈MP,s.heap.get? p.1=some p.2/\H p.1=none/\p.1≠X.env.locals/\p.1 ∉ X.fs/\∀v,p.2.data≠.cell v):Inv X MP σ H s :=
 ⟨I.ok,I.os,I.bare,I.base,I.loc,I.cell,I.free,I.mf,λp hp=>(aK.mp hp).elim (λz=>I.pin p (bx _ z)) (h p),I.eD,I.len⟩
theorem vQ {N:List Str}(hN:N.Nodup){i j:Nat}{x:Str}(a:N[i]? = some x)(b:N[j]? = some x):i=j:=by
 obtain⟨h1,e1⟩:=aD.mp a;obtain⟨h2,e2⟩:=aD.mp b;exact (List.getElem_inj hN).mp (e1.trans e2.symm)
theorem Bf {M:Model}{A:Around}{E:ah->ax->Prop}{i:Nat}{x:Str}{v:V}{u:ah}{Q:Unit->ax->Prop}(I:Inv X pins σ H s)(hN:X.N.Nodup)(hi:X.N[i]? = some x)(hx:Loc X.env.scope x)(r:RelV v u)
  (h:∀s',Inv X pins (σ.set i (some v)) H s'->(∃a,Heap.SameBut a s.heap s'.heap/\(a=X.env.locals\/X.env.cells.lookup x=some a))->Q () s') (hf:X.fn x=true\/X.env.scope.names.lookup x=some .local:=by (first | exact .inl rfl | exact .inr rfl | assumption)):aG M A (storeName X.env x u) Q E s:=by
 obtain⟨m,hn,hl⟩:=id I.loc;have Qw:(X.env.scope.kind == .class || (X.env.scope.kind == .module && X.env.locals != X.env.globals))=false:=by rw[I.ok.kind];rfl
 have MQ:i<σ.length:=by rw[I.len];exact (aD.mp hi).1
 have Jz:=I.Jz
 have zR:∀{a:Addr} {h':Heap},(∃o,s.heap.get? a=some o/\H a=none)->Heap.SameBut a s.heap h'->kO X.prog X.w H h':=λ{a h'} ha hs b ob e=>by
  obtain⟨_,_,H9⟩:=ha;refine (I.eD b ob e).xZ (λc w' hc q=>(hs.2 c ?_).trans q) (λ_ q=>q) λ_ _ q=>q;rintro rfl;rcases hc with rfl | hc
  .rw[H9] at e;cases e
  .rw[H9] at hc;cases hc
 rcases hx with hk | hk
 .refine wpAny_storeName_local hk hn (λh' Uq hs=>?_) Qw
  obtain⟨oL,_,_,FP,_⟩:=id hn;refine h _ ⟨I.ok,I.os,I.bare,⟨λb o e n hb hx=>?_,λb o e n hb hx=>?_,I.base.free,λb o e hx=>?_,I.base.vN,I.base.t9,I.base.vO⟩,⟨_,Uq,λj y v' e1 e2 e3=>?_⟩,λy c e=>?_,I.free,I.mf,λp hp=>?_,zR ⟨oL,FP,I.free⟩ hs,by simpa using I.len⟩ ⟨_,hs,.inl rfl⟩
  .exact (hs.2 b (bp (aU (aI e) I.ok.above))).trans (I.base.keep b o e n hb hx)
  .obtain⟨sl,e1⟩:=I.base.slot b o e n hb hx
   exact⟨sl,(hs.2 b (bp (aU (aI e) I.ok.above))).trans e1⟩
  .obtain⟨o',e1⟩:=I.base.there b o e hx
   exact⟨o',(hs.2 b (bp (aU (aI e) I.ok.above))).trans e1⟩
  .by_cases hj:j=i
   .subst hj
    rw[hi] at e1;cases e1;rw[cy MQ] at e2;cases e2;exact⟨u,r,.inl ⟨hk,!4⟩⟩
   .rw[aL (Ne.symm hj)] at e2
    obtain⟨u',r',q⟩:=hl j y v' e1 e2 e3;refine⟨u',r',?_⟩;rcases q with⟨k,e⟩ | ⟨k,c,e,z⟩
    .refine .inl ⟨k,?_⟩
     have:y≠x:=λe=>hj (vQ hN e1 (e ▸ hi));simp[this,e]
    .exact .inr ⟨k,c,e,z.sameBut hs (Jz y c e)⟩
  .obtain⟨w',z⟩:=I.cell y c e
   exact⟨w',z.sameBut hs (Jz y c e)⟩
  .obtain⟨e,n,ne,nf,d⟩:=I.pin p hp
   exact⟨(hs.2 p.1 ne).trans e,n,ne,nf,d⟩
 .have Qx:X.fn x=true:=by
   rcases hf with z | z
   .exact z
   .rw[z] at hk;cases hk
  obtain⟨c,hc⟩:=I.ok.has x (.inl hk);obtain⟨w',z⟩:=I.cell x c hc;refine wpAny_storeName_cell I.ok.kind hk hc z (λh' CA hs=>?_);obtain⟨oc,S3,Qy⟩:=id z;refine h { s with heap:=h' } ⟨I.ok,I.os,I.bare,⟨λb o e n hb hx=>?_,λb o e n hb hx=>?_,I.base.free,λb o e hx=>?_,I.base.vN,I.base.t9,I.base.vO⟩,⟨m,hn.sameBut hs (Ne.symm (Jz x c hc)),λj y v' e1 e2 e3=>?_⟩,λy c' e=>?_,I.free,I.mf,λp hp=>?_,zR ⟨oc,S3,I.mf x c hc⟩ hs,by simpa using I.len⟩ ⟨c,hs,.inr hc⟩
  .exact (hs.2 b (bp (aU (aI e) (I.ok.MM x c Qx hc)))).trans (I.base.keep b o e n hb hx)
  .obtain⟨sl,e1⟩:=I.base.slot b o e n hb hx
   exact⟨sl,(hs.2 b (bp (aU (aI e) (I.ok.MM x c Qx hc)))).trans e1⟩
  .obtain⟨o',e1⟩:=I.base.there b o e hx
   exact⟨o',(hs.2 b (bp (aU (aI e) (I.ok.MM x c Qx hc)))).trans e1⟩
  .by_cases hj:j=i
   .subst hj
    rw[hi] at e1;cases e1;rw[cy MQ] at e2;cases e2;exact⟨u,r,.inr ⟨.inl hk,c,hc,CA⟩⟩
   .rw[aL (Ne.symm hj)] at e2
    obtain⟨u',r',q⟩:=hl j y v' e1 e2 e3;refine⟨u',r',?_⟩;rcases q with q | ⟨k,c',e,z'⟩
    .exact .inl q
    .refine .inr ⟨k,c',e,z'.sameBut hs ?_⟩
     rintro rfl;exact hj (vQ hN e1 (I.ok.inj _ _ _ e hc ▸ hi))
  .by_cases MR:c'=c
   .subst MR;exact⟨_,CA⟩
   .obtain⟨w2,z2⟩:=I.cell y c' e
    exact⟨w2,z2.sameBut hs MR⟩
  .obtain⟨e,n,ne,nf,d⟩:=I.pin p hp
   refine⟨(hs.2 p.1 ?_).trans e,n,ne,nf,d⟩;intro q;rw[q,S3] at e;have q':oc=p.2:=Option.some.inj e;exact d w' (by rw[<- q'];exact Qy)
theorem vR (I:Inv X pins σ H s)(hN:X.N.Nodup)(hi:X.N[i]? = some x)(hx:Loc X.env.scope x)(r:RelV v u)
  (h:∀s',Inv X pins (σ.set i (some v)) H s'->Q () s') (hf:X.fn x=true\/X.env.scope.names.lookup x=some .local:=by (first | exact .inl rfl | exact .inr rfl | assumption)):aG M A (storeName X.env x u) Q E s :=
 Bf I hN hi hx r (λs' I' _=>h s' I') hf
theorem Inv.MS {s':ax}{ch:List Addr}(I:Inv X pins σ H s)(ho:s'.os=s.os)(u:Un (ya X.stack) ch H H' s.heap s'.heap)(eD:kO X.prog X.w H' s'.heap)(hg:AllBare s'.gens)
  (zQ:∀b∈ch,(b∈X.ex\/X.s₀.heap.objs.size<=b)/\b≠X.env.locals/\(∀x c,X.env.cells.lookup x=some c->c≠b)/\∀p∈X.pn++pins,p.1≠b):Inv X pins σ H' s':=by
 obtain⟨h',g',d',t',o'⟩:=s';have e:o'=s.os:=ho;subst e;exact I.call (g':=g') (t':=t') (d':=d') u eD hg zQ
end
noncomputable abbrev XK:=ah->Option Addr->Hp->Prop
noncomputable abbrev St:=List (Option V)
noncomputable abbrev VK:=V->Hp->Prop
noncomputable abbrev TE:=St->Hp->VK->Prop
noncomputable abbrev TT:=St->Hp->(Bool->Hp->Prop)->Prop
noncomputable abbrev TA:=St->Hp->(List V->Hp->Prop)->Prop
structure Ends where
 nx:St->Hp->Prop
 rt:VK
 bk:St->Hp->Prop:=λ_ _=>False
 ct:St->Hp->Prop:=λ_ _=>False
noncomputable abbrev TS:=Ends->St->Hp->Prop
noncomputable def EP (X:Cx)(pins:List (Addr × Obj))(σ:St)(Q:VK)(u:ah)(s':ax):Prop:=∃v H',Inv X pins σ H' s'/\RelV v u/\Q v H'
noncomputable def TP (X:Cx)(pins:List (Addr × Obj))(σ:St)(Q:Bool->Hp->Prop)(b:Bool)(s':ax):Prop:=∃H',Inv X pins σ H' s'/\Q b H'
noncomputable def AP (X:Cx)(pins:List (Addr × Obj))(σ:St)(Q:List V->Hp->Prop)(us:List ah)(s':ax):Prop:=∃vs H',Inv X pins σ H' s'/\dW vs us/\Q vs H'
noncomputable def SP (X:Cx)(pins:List (Addr × Obj))(D:Ends)(f:Flow)(s':ax):Prop :=
 match f with
 | .next=>∃σ' H',Inv X pins σ' H' s'/\D.nx σ' H'
 | .brk=>∃σ' H',Inv X pins σ' H' s'/\D.bk σ' H'
 | .cont=>∃σ' H',Inv X pins σ' H' s'/\D.ct σ' H'
 | .ret u=>∃v σ' H',Inv X pins σ' H' s'/\RelV v u/\D.rt v H'
noncomputable def PE (X:Cx)(e:Expr)(t:TE):Prop :=
 ∀(pins:List (Addr × Obj)) (s:ax) (σ:St) (H:Hp) (Q:VK),Inv X pins σ H s->t σ H Q->aG (model X.prog X.w) X.A (eval e X.env) (EP X pins σ Q) X.xe s
noncomputable def PT (X:Cx)(e:Expr)(t:TT):Prop :=
 ∀(pins:List (Addr × Obj)) (s:ax) (σ:St) (H:Hp) (Q:Bool->Hp->Prop),Inv X pins σ H s->t σ H Q->aG (model X.prog X.w) X.A (isTrue e X.env (eval e X.env)) (TP X pins σ Q) X.xe s
noncomputable def PW (X:Cx)(e:Expr)(t:TT):Prop :=
 ∀(mh:Sem ah) (pins:List (Addr × Obj)) (s:ax) (σ:St) (H:Hp) (Q:Bool->Hp->Prop),Inv X pins σ H s->t σ H Q->aG (model X.prog X.w) X.A (isTrue e X.env mh) (TP X pins σ Q) X.xe s
theorem PW.pt (h:PW X e t):PT X e t:=h _
noncomputable def PA (X:Cx)(es:List Expr)(t:TA):Prop :=
 ∀(pos:Pos) (pins:List (Addr × Obj)) (s:ax) (σ:St) (H:Hp) (Q:List V->Hp->Prop),Inv X pins σ H s->t σ H Q->aG (model X.prog X.w) X.A (spliced (backTo pos (starEach es X.env))) (AP X pins σ Q) X.xe s
noncomputable def PS (X:Cx)(st:Stmt)(t:TS):Prop :=
 ∀(pins:List (Addr × Obj)) (s:ax) (σ:St) (H:Hp) (D:Ends),Inv X pins σ H s->t D σ H->aG (model X.prog X.w) X.A (exec st X.env) (SP X pins D) X.xe s
noncomputable def xX (X:Cx)(st:List Stmt)(t:TS):Prop :=
 ∀(pins:List (Addr × Obj)) (s:ax) (σ:St) (H:Hp) (D:Ends),Inv X pins σ H s->t D σ H->aG (model X.prog X.w) X.A (execs st X.env) (SP X pins D) X.xe s
theorem fk {α:Type}{t:Sem α}{Q Q':α->ax->Prop}{M:Model}{A:Around}{E:ah->ax->Prop}{s:ax}(h:aG M A t Q E s)(hQ:∀a s,Q a s->Q' a s):aG M A t Q' E s:=b8 h hQ λ_ _ x=>x
section
variable {X:Cx}
noncomputable def FQ (i:Nat):TE:=λσ H Q=>∃v,σ[i]? = some (some v)/\Q v H
noncomputable def tC (v:V):TE:=λ_ H Q=>Q v H
theorem CB (hN:X.N[i]? = some x)(hv:rZ X.env.scope x)(hd:(x == ("__debug__" : Str))=false:=by decide)(iU:(x == ("__classdict__" : Str))=false:=by decide):PE X (.Name x pos) (FQ i):=by
 intro pins s σ H Q I h;obtain⟨v,e,h⟩:=h;obtain⟨m,hn,hl⟩:=I.loc;obtain⟨u,r,l⟩:=hl i x v hN e hv;have fin:EP X pins σ Q u s:=⟨v,H,I,r,h⟩;rcases l with⟨hk,hm⟩ | ⟨hk,c,hc,Ia⟩
 .exact wpAny_Name (wpAny_loadName_local I.ok.kind hk hn hm fin) hd
 .rcases hk with hk | hk
  .exact wpAny_Name (wpAny_loadName_cell I.ok.kind hk hc Ia fin) hd
  .exact wpAny_Name (wpAny_loadName_free I.ok.kind hk hc Ia fin iU) hd
theorem JC {i j pos}:PE X (.Constant (.int i) j pos) (tC (.int i)):=λ_ _ _ H _ I h=>wpAny_Constant_int ⟨.int i,H,I.tok _,⟨_,rfl⟩,h⟩
theorem MT {b j pos}:PE X (.Constant (.bool b) j pos) (tC (.bl b)):=λ_ _ _ H _ I h=>Constant_bool ⟨.bl b,H,I,rfl,h⟩
theorem CC {j pos}:PE X (.Constant .none j pos) (tC .f'):=λ_ _ _ H _ I h=>Constant_none ⟨.f',H,I,rfl,h⟩
noncomputable def Gl (X:Cx)(x:Str):Prop:=X.env.kindOf x=some .globalImplicit
theorem FR (I:Inv X pins σ H s)(hg:Gl X x)(hm:X.mg x=some u)(h:Q u s)
  (hd:(x == ("__debug__" : Str))=false:=by decide):aG (model X.prog X.w) X.A (eval (.Name x pos) X.env) Q E s :=
 Calls.Name_function_global I.ok.kind hg (Calls.loadGlobal_global (by rw[I.ok.glob];exact I.mod.glob.keeps I.bk) hm h) hd
theorem og (I:Inv X pins σ H s)(hg:Gl X x)(hm:X.mg x=none)(hv:bootBuiltins x=some u)(h:Q u s)
  (hn:x ≠ "__name__" := by decide) (hd:(x == ("__debug__" : Str))=false:=by decide):aG (model X.prog X.w) X.A (eval (.Name x pos) X.env) Q E s:=by
 obtain⟨mb,h1,h2⟩:=I.mod.blt;exact Calls.Name_function_global I.ok.kind hg (Calls.loadGlobal_builtin (by rw[I.ok.glob];exact I.mod.glob.keeps I.bk) hm (by rw[I.ok.blt];exact h1.keeps I.bk) ((h2 x hn).trans hv) h) hd
theorem FT (hg:Gl X x)(hm:X.mg x=none)(hv:bootBuiltins x=some u)(r:RelV v u)(hn:x ≠ "__name__" := by decide)(hd:(x == ("__debug__" : Str))=false:=by decide):PE X (.Name x pos) (tC v) :=
 λ_ _ _ H _ I h=>og I hg hm hv ⟨v,H,I,r,h⟩ hn hd
variable {a b:Expr}{ta tb:TE}{pos:Pos}
noncomputable def PC (X:Cx)(op:CmpOp)(a b:Expr)(t:TE):Prop :=
 ∀(pins:List (Addr × Obj)) (s:ax) (σ:St) (H:Hp) (Q:VK),Inv X pins σ H s->t σ H Q ->
  aG (model X.prog X.w) X.A (eval a X.env) (λv s₁=>aG (model X.prog X.w) X.A (eval b X.env) (λu s₂=>aG (model X.prog X.w) X.A (compareOp op v u) (EP X pins σ Q) X.xe s₂) X.xe s₁) X.xe s
noncomputable def tB (t:TE):TT:=λσ H Q=>t σ H λx H1=>∃c,x=.bl c/\Q c H1
theorem CD (h:PC X op a b t)(h1:behindInMarks op b=false:=by first | exact CF _ (!2) (!2) | rfl):PE X (.Compare a [op] [b] pos) t:=λpins s σ H Q I hw=>wpAny_Compare1 (h pins s σ H Q I hw) h1
theorem yb (h:PC X op a b t)(h1:behindInMarks op b=false:=by first | exact CF _ (!2) (!2) | rfl):PT X (.Compare a [op] [b] pos) (tB t):=by
 intro pins s σ H Q I hw;refine wpAny_isTrue_Compare1 (fk (h pins s σ H _ I hw) λv s1 h1=>fk h1 λu s2 h2=>fk h2 λc s3 ⟨x,H1,I1,r1,q1⟩=>?_) h1;obtain⟨d,rfl,q⟩:=q1;cases r1;exact wpAny_truthy_bool ⟨H1,I1,q⟩
theorem JD {e:Expr}{t:TE}(h:PE X e t)(he:∀mh,isTrue e X.env mh=(do let v <- mh;standAt e.pos;holding [v] (truthy v)):=by rw[3]):PT X e (tB t):=by
 intro pins s σ H Q I hw;refine isTrue_plain (fk (h pins s σ H _ I hw) λv s1 ⟨x,H1,I1,r1,q1⟩=>?_) (he _);obtain⟨d,rfl,q⟩:=q1;cases r1;exact wpAny_truthy_bool ⟨H1,I1,q⟩
variable {tA FU:TT}{rest:List Expr}
noncomputable def MU (t u:TT):TT:=λσ H Q=>t σ H λc H1=>if c=true then u σ H1 Q else Q false H1
noncomputable def S5 (t u:TT):TT:=λσ H Q=>t σ H λc H1=>if c=true then Q true H1 else u σ H1 Q
noncomputable def MV (t:TT):TT:=λσ H Q=>t σ H λc H1=>Q (!c) H1
theorem pw_and1 (ha:PT X a tA):PW X (.BoolOp .And [a] pos) tA:=by
 intro wh pins s σ H Q I h;refine isTrue_and (fk (ha pins s σ H Q I h) λc s1 e=>?_)
 cases c with
 | true=>exact isTrue_and_nil e
 | false=>exact e
theorem pw_or1 (ha:PT X a tA):PW X (.BoolOp .Or [a] pos) tA:=by
 intro wh pins s σ H Q I h;refine isTrue_or (fk (ha pins s σ H Q I h) λc s1 e=>?_)
 cases c with
 | false=>exact isTrue_or_nil e
 | true=>exact e
theorem pw_and (ha:PT X a tA)(hb:PW X (.BoolOp .And (b::rest) pos) FU):PW X (.BoolOp .And (a::b::rest) pos) (MU tA FU):=by
 intro wh pins s σ H Q I h;refine isTrue_and (fk (ha pins s σ H _ I h) λc s1 ⟨H1,I1,q1⟩=>?_)
 cases c with
 | true=>exact hb wh pins s1 σ H1 Q I1 q1
 | false=>exact⟨H1,I1,q1⟩
theorem pw_or (ha:PT X a tA)(hb:PW X (.BoolOp .Or (b::rest) pos) FU):PW X (.BoolOp .Or (a::b::rest) pos) (S5 tA FU):=by
 intro wh pins s σ H Q I h;refine isTrue_or (fk (ha pins s σ H _ I h) λc s1 ⟨H1,I1,q1⟩=>?_)
 cases c with
 | true=>exact⟨H1,I1,q1⟩
 | false=>exact hb wh pins s1 σ H1 Q I1 q1
theorem JE (ha:PT X a tA):PT X (.UnaryOp .Not a pos) (MV tA):=by
 intro pins s σ H Q I h;exact isTrue_not (ha pins s σ H (λc H1=>Q (!c) H1) I h)
noncomputable def Ib (ta tb:TE):TE:=λσ H Q=>ta σ H λx H1=>∃c,x=.bl c/\if c=true then tb σ H1 Q else Q (.bl false) H1
noncomputable def Ic (ta:TE):TE:=λσ H Q=>ta σ H λx H1=>∃c,x=.bl c/\Q (.bl (!c)) H1
theorem JF {op}(h:PE X a t):PE X (.BoolOp op [a] pos) t:=λpins s σ H Q I hw=>BoolOp_one (h pins s σ H Q I hw)
theorem JG (ha:PE X a ta)(hb:PE X (.BoolOp .And (b::rest) pos) tb):PE X (.BoolOp .And (a::b::rest) pos) (Ib ta tb):=by
 intro pins s σ H Q I h;refine BoolOp_and (fk (ha pins s σ H _ I h) λv s1 ⟨x,H1,I1,r1,q1⟩=>?_);obtain⟨c,rfl,q1⟩:=q1;cases r1;refine wpAny_truthy_bool ?_
 cases c with
 | true=>exact hb pins s1 σ H1 Q I1 q1
 | false=>exact⟨.bl false,H1,I1,rfl,q1⟩
theorem JH (ha:PE X a ta):PE X (.UnaryOp .Not a pos) (Ic ta):=by
 intro pins s σ H Q I h;refine UnaryOp_ (fk (ha pins s σ H _ I h) λv s1 ⟨x,H1,I1,r1,q1⟩=>?_);obtain⟨c,rfl,q1⟩:=q1;cases r1;exact not_of (wpAny_truthy_bool ⟨.bl (!c),H1,I1,rfl,q1⟩)
noncomputable def S6 (t:TT)(ta tb:TE):TE:=λσ H Q=>t σ H λc H1=>if c=true then ta σ H1 Q else tb σ H1 Q
theorem CG (hc:PT X c tA)(ha:PE X a ta)(hb:PE X b tb):PE X (.IfExp c a b pos) (S6 tA ta tb):=by
 intro pins s σ H Q I h;refine wpAny_IfExp (fk (hc pins s σ H _ I h) λd s1 ⟨H1,I1,q1⟩=>?_)
 cases d with
 | true=>exact ha pins s1 σ H1 Q I1 q1
 | false=>exact hb pins s1 σ H1 Q I1 q1
end
noncomputable def gc (K:W.Frag)(H:Hp)(a:Addr)(xs:List V):Prop :=
 Rd H a (.lst xs) \/
  ∃(o:Obj) (its:Array ah) (n:Nat),K.lookup a=some o/\o.cls=.type "list" /\ o.dict=none/\o.data=.seq its n/\its.size<=aA/\dW xs its.toList
noncomputable def iz (K:W.Frag)(H:Hp)(a:Addr)(xs:List V):Prop :=
 Rd H a (.tup xs) \/
  ∃(o:Obj) (its:Array ah) (n:Nat),K.lookup a=some o/\o.cls=.type "tuple" /\ o.data=.seq its n/\its.size<=aA/\dW xs its.toList
noncomputable def Qz:ah->Option V
 | .none=>some .f'
 | .bool b=>some (.bl b)
 | .int i _=>some (.int i)
 | .str x _=>some (.str x)
 | .bytes b _=>some (.Cw b)
 | .float b _=>some (.Mq b)
 | .ref a=>some (.ref a)
 | .type n=>some (.ty n)
 | _=>none
theorem RelV.abs (r:RelV x u):Qz u=some x:=by
 cases x with
 | f'=>cases r;rfl
 | bl _=>cases r;rfl
 | int _=>obtain⟨t,rfl⟩:=r;rfl
 | str _=>obtain⟨t,rfl⟩:=r;rfl
 | Cw _=>obtain⟨t,rfl⟩:=r;rfl
 | Mq _=>obtain⟨t,rfl⟩:=r;rfl
 | ref _=>cases r;rfl
 | ty _=>cases r;rfl
theorem RelV.inj (r:RelV x u)(q:RelV y u):x=y:=Option.some.inj (r.abs.symm.trans q.abs)
theorem dW.inj:∀{xs ys:List V} {us:List ah},dW xs us->dW ys us->xs=ys
 | _,_,_,.nil,.nil=>rfl
 | _,_,_,.cons r t,.cons r' t'=>by rw[r.inj r',dW.inj t t']
section
theorem gc.of {K:W.Frag}(h:H a=some (.lst xs)):gc K H a xs:=.inl (.inl h)
theorem iz.of {K:W.Frag}(h:H a=some (.tup xs)):iz K H a xs:=.inl (.inl h)
theorem Inv.list (I:Inv X pins σ H s)(h:gc X.K H a xs):∃its:List ah,dW xs its/\PlainL s.heap a its.toArray/\xs.length<=aA:=by
 rcases h with h | ⟨o,its,n,hk,hc,hd,hs,hz,r⟩
 .obtain⟨z,its,n,r,e⟩:=h.ok I.eD
  exact⟨its,r,⟨_,n,e,rfl,rfl,rfl⟩,z⟩
 .refine⟨its.toList,r,⟨o,n,I.vP a o hk,hc,hd,by simpa using hs⟩,?_⟩
  have e:=r.length;simp only[bv] at e;omega
theorem Inv.tuple (I:Inv X pins σ H s)(h:iz X.K H a xs):∃its:List ah,dW xs its/\IsTup s.heap a its.toArray/\xs.length<=aA:=by
 rcases h with h | ⟨o,its,n,hk,hc,hs,hz,r⟩
 .obtain⟨z,its,r,p⟩:=h.ok I.eD
  exact⟨its,r,p.tup,z⟩
 .refine⟨its.toList,r,⟨o,I.vP a o hk,hc,n,by simpa using hs⟩,?_⟩
  have e:=r.length;simp only[bv] at e;omega
theorem Inv.vS (I:Inv X pins σ H s)(h:gc X.K H a xs)(h':gc X.K H a ys):xs=ys:=by
 obtain⟨its,r,⟨o,n,e,_,_,d⟩,_⟩:=I.list h;obtain⟨its',r',⟨o',n',e',_,_,d'⟩,_⟩:=I.list h';rw[e] at e';cases e';rw[d] at d';injection d' with d1 _;have:its=its':=by simpa using congrArg Array.toList d1
 subst this;exact r.inj r'
theorem Inv.sO (I:Inv X pins σ H s)(h:iz X.K H a xs)(h':iz X.K H a ys):xs=ys:=by
 obtain⟨its,r,⟨o,e,_,n,d⟩,_⟩:=I.tuple h;obtain⟨its',r',⟨o',e',_,n',d'⟩,_⟩:=I.tuple h';rw[e] at e';cases e';rw[d] at d';injection d' with d1 _;have:its=its':=by simpa using congrArg Array.toList d1
 subst this;exact r.inj r'
end
noncomputable abbrev Cx.sf (X:Cx)(E:ah->ax->Prop):Cx:={ X with xe:=E }
noncomputable abbrev Cx.Bg (X:Cx):Cx:=X.sf λ_ _=>False
theorem Cx.Ok.sf {X:Cx}(ok:X.Ok)(E:ah->ax->Prop):(X.sf E).Ok :=
 ⟨ok.mod,ok.kind,ok.glob,ok.blt,ok.above,ok.inj,ok.has,ok.MM,ok.hd,ok.frames,ok.Py,ok.SX,ok.bs,ok.Jy,ok.Cz,ok.FO,ok.qd,ok.Ms⟩
theorem Cx.Ok.kQ {X:Cx}{E:ah->ax->Prop}(ok:(X.sf E).Ok):X.Ok :=
 ⟨ok.mod,ok.kind,ok.glob,ok.blt,ok.above,ok.inj,ok.has,ok.MM,ok.hd,ok.frames,ok.Py,ok.SX,ok.bs,ok.Jy,ok.Cz,ok.FO,ok.qd,ok.Ms⟩
section
variable {X:Cx}{pins:List (Addr × Obj)}{σ:St}{H:Hp}{s:ax}{E:ah->ax->Prop}
theorem Inv.sf (I:Inv X pins σ H s)(E:ah->ax->Prop):Inv (X.sf E) pins σ H s:=⟨I.ok.sf E,I.os,I.bare,I.base,I.loc,I.cell,I.free,I.mf,I.pin,I.eD,I.len⟩
theorem Inv.kQ (I:Inv (X.sf E) pins σ H s):Inv X pins σ H s:=⟨I.ok.kQ,I.os,I.bare,I.base,I.loc,I.cell,I.free,I.mf,I.pin,I.eD,I.len⟩
theorem SP.kQ (h:SP (X.sf E) pins D f s'):SP X pins D f s':=by
 cases f with
 | next=>obtain⟨σ',H',I,q⟩:=h;exact⟨σ',H',I.kQ,q⟩
 | brk=>obtain⟨σ',H',I,q⟩:=h;exact⟨σ',H',I.kQ,q⟩
 | cont=>obtain⟨σ',H',I,q⟩:=h;exact⟨σ',H',I.kQ,q⟩
 | ret u=>obtain⟨v,σ',H',I,r,q⟩:=h;exact⟨v,σ',H',I.kQ,r,q⟩
theorem xX.Bg {st:List Stmt}{t:TS}(h:xX X.Bg st t):xX X st t:=λpins s σ H D I hw =>
 b8 (h pins s σ H D (I.sf _) hw) (λ_ _ q=>q.kQ) λ_ _ z=>False.elim z
end
section
variable {X:Cx}{st:Stmt}{rest:List Stmt}{t u:TS}{e:Expr}{te:TE}{pos:Pos}
noncomputable def Ie:TS:=λD σ H=>D.nx σ H
noncomputable def MW (t u:TS):TS:=λD σ H=>t { D with nx:=u D } σ H
theorem FV:xX X [] Ie:=λ_ _ σ H _ I h=>wpAny_execs_nil ⟨σ,H,I,h⟩
theorem CH (h1:PS X st t)(h2:xX X rest u):xX X (st::rest) (MW t u):=by
 intro pins s σ H D I h;refine wpAny_execs_cons (fk (h1 pins s σ H { D with nx:=u D } I h) λf s1 q=>?_)
 cases f with
 | next =>
  obtain⟨σ',H',I',q⟩:=q;exact h2 pins s1 σ' H' D I' q
 | ret v=>exact q
 | brk=>exact q
 | cont=>exact q
theorem FW (h1:PS X st t):xX X [st] t:=by
 intro pins s σ H D I h;refine wpAny_execs_cons (fk (h1 pins s σ H D I h) λf s1 q=>?_)
 cases f with
 | next=>exact wpAny_execs_nil q
 | ret v=>exact q
 | brk=>exact q
 | cont=>exact q
theorem Inv.quiet {pins:List (Addr × Obj)}{σ:St}{H:Hp}{s:ax}(I:Inv X pins σ H s):interactive X.env=false:=by simp[interactive,I.ok.kind]
noncomputable def Ig (te:TE):TS:=λD σ H=>te σ H λ_ H1=>D.nx σ H1
theorem FX (he:PE X e te)(hs:swapsWith e none pos.line X.env=pure false:=by rfl):PS X (.Expr e pos) (Ig te):=by
 intro pins s σ H D I h;exact wpAny_Expr_any (fk (he pins s σ H _ I h) λv s1 ⟨x,H1,I1,r1,q1⟩=>⟨σ,H1,I1,q1⟩) I.quiet hs
noncomputable def MX (te:TE):TS:=λD σ H=>te σ H D.rt
theorem JI (he:PE X e te):PS X (.Return (some e) pos) (MX te):=by
 intro pins s σ H D I h;exact wpAny_Return_some (fk (he pins s σ H _ I h) λv s1 ⟨x,H1,I1,r1,q1⟩=>⟨x,σ,H1,I1,r1,q1⟩)
noncomputable def MY (c:TT)(t u:TS):TS:=λD σ H=>c σ H λb H1=>if b=true then t D σ H1 else u D σ H1
theorem MZ (hc:PT X c tc)(ha:xX X a t)(hb:xX X b u):PS X (.If c a b pos) (MY tc t u):=by
 intro pins s σ H D I h;refine wpAny_If (fk (hc pins s σ H _ I h) λd s1 ⟨H1,I1,q1⟩=>?_)
 cases d with
 | true=>exact ha pins s1 σ H1 D I1 q1
 | false=>exact hb pins s1 σ H1 D I1 q1
end
noncomputable abbrev TG:=V->St->Hp->(St->Hp->Prop)->Prop
noncomputable abbrev JJ:=List V->St->Hp->(St->Hp->Prop)->Prop
noncomputable def PG (X:Cx)(target:Expr)(t:TG):Prop :=
 ∀(pins:List (Addr × Obj)) (s:ax) (σ:St) (H:Hp) (v:V) (u:ah) (Q:St->Hp->Prop),Inv X pins σ H s->RelV v u->t v σ H Q ->
  aG (model X.prog X.w) X.A (assign target X.env u) (λ_ s'=>∃σ' H',Inv X pins σ' H' s'/\Q σ' H') X.xe s
noncomputable def M0 (X:Cx)(ts:List Expr)(t:JJ):Prop :=
 ∀(pins:List (Addr × Obj)) (s:ax) (σ:St) (H:Hp) (vs:List V) (us:List ah) (Q:St->Hp->Prop),Inv X pins σ H s->dW vs us->t vs σ H Q ->
  aG (model X.prog X.w) X.A (assignInOrder ((assignEach ts X.env).map (·.2)) us) (λ_ s'=>∃σ' H',Inv X pins σ' H' s'/\Q σ' H') X.xe s
noncomputable abbrev M1:=V->V->V->Hp->(Hp->Prop)->Prop
noncomputable def JK (X:Cx)(t:M1):Prop :=
 ∀(pins:List (Addr × Obj)) (s:ax) (σ:St) (H:Hp) (o i v:V) (ov iv u:ah) (Q:Hp->Prop),Inv X pins σ H s->RelV o ov->RelV i iv->RelV v u->t o i v H Q ->
  aG (model X.prog X.w) X.A (setItem ov iv u) (λ_ s'=>∃H',Inv X pins σ H' s'/\Q H') X.xe s
section
variable {X:Cx}{pos:Pos}
noncomputable def vT (i:Nat):TG:=λv σ H Q=>Q (σ.set i (some v)) H
theorem FY (hN:X.N.Nodup)(hi:X.N[i]? = some x)(hx:Loc X.env.scope x)(hf:X.fn x=true\/X.env.scope.names.lookup x=some .local:=by (first | exact .inl rfl | exact .inr rfl | assumption)):PG X (.Name x pos) (vT i):=by
 intro pins s σ H v u Q I r h;exact wpAny_assign_Name (vR I hN hi hx r (λs' I'=>⟨_,H,I',h⟩) hf)
noncomputable def M3:JJ:=λvs σ H Q=>vs=[]/\Q σ H
noncomputable def Ih (t:TG)(u:JJ):JJ:=λvs σ H Q=>∃v r,vs=v::r/\t v σ H λσ' H'=>u r σ' H' Q
theorem FZ:M0 X [] M3:=by
 intro pins s σ H vs us Q I r h;obtain⟨e,h⟩:=h;subst e;cases r;exact assignInOrder_nil ⟨σ,H,I,h⟩
theorem CI (h1:PG X e t)(h2:M0 X es u)
  (hs:(assignEach (e::es) X.env).map (·.2)=assign e X.env::(assignEach es X.env).map (·.2):=by rfl):M0 X (e::es) (Ih t u):=by
 intro pins s σ H vs us Q I r h;obtain⟨v,vr,e1,h⟩:=h;subst e1
 cases r with
 | cons r rr =>
  rw[hs];refine assignInOrder_cons (fk (h1 pins s σ H _ _ _ I r h) λ_ s1 ⟨σ1,H1,I1,q1⟩=>?_);exact h2 pins s1 σ1 H1 _ _ Q I1 rr q1
noncomputable def M4 (K:W.Frag)(n:Nat)(t:JJ):TG:=λv σ H Q=>∃a xs,v=.ref a/\iz K H a xs/\xs.length=n/\t xs σ H Q
theorem JL (hc:X.calm=true)(h:M0 X es t)
  (hn:(assignEach es X.env).length=n:=by rfl) (F0:(assignEach es X.env).findIdx? (·.1)=none:=by rfl):PG X (.Tuple es k pos) (M4 X.K n t):=by
 intro pins s σ H v u Q I r hw;obtain⟨a,xs,e1,hq,hl,hw⟩:=hw;subst e1;cases r;obtain⟨its,rv,ht,hz⟩:=I.tuple hq;refine assign_Tuple_tuple (I.ok.hd hc) ht (by simp[hn,<- hl,rv.length]) F0 λh' hx=>?_;have I1:Inv X pins σ H { s with heap:=h' }:=I.kept (t':=s.toks) λb o e=>hx b o (bp (aI e)) e;exact h pins _ σ H xs _ Q I1 (by simpa using rv) hw
noncomputable def M5 (to ti:TE)(t:M1):TG:=λv σ H Q=>to σ H λo H1=>ti σ H1 λi H2=>t o i v H2 λH3=>Q σ H3
theorem JM (ho:PE X o to)(hi:PE X i ti)(hs:JK X t)
  (ha:∀v,assign (.Subscript o i pos) X.env v=(do
   let ov <- holding [v] (eval o X.env);let iv <- holding [v,ov] (eval i X.env)
   standAt pos
   holding [v,ov,iv] (setItem ov iv v)
   release [v,ov,iv] []):=by rw[3]):PG X (.Subscript o i pos) (M5 to ti t):=by
 intro pins s σ H v u Q I r h;rw[ha];refine ag (wpAny_holding (fk (ho pins s σ H _ I h) λov s1 ⟨x,H1,I1,r1,q1⟩=>?_));refine ag (wpAny_holding (fk (hi pins s1 σ H1 _ I1 q1) λiv s2 ⟨y,H2,I2,r2,q2⟩=>?_));refine ag (wpAny_standAt (ag (wpAny_holding (fk (hs pins s2 σ H2 x y v ov iv u _ I2 r1 r2 r q2) λ_ s3 ⟨H3,I3,q3⟩=>?_))));exact wpAny_release ⟨σ,H3,I3,q3⟩
noncomputable def CJ (te:TE)(g:TG):TS:=λD σ H=>te σ H λx H1=>g x σ H1 D.nx
theorem JN (he:PE X e te)(hg:PG X tg g)(hs:swapsWithSole [tg] e pos.line X.env=pure false:=by rfl)(hw:swappedStores [tg] e X.env=pure none:=by rfl)
  (h1:(assignEach [tg] X.env).map (·.2)=[assign tg X.env]:=by rfl):PS X (.Assign [tg] e pos) (CJ te g):=by
 intro pins s σ H D I h;refine wpAny_Assign_stores (fk (he pins s σ H _ I h) λv s1 ⟨x,H1,I1,r1,q1⟩=>?_) hs hw;rw[h1];exact fk (hg pins s1 σ H1 x v _ I1 r1 q1) λ_ s2 q=>q
theorem JO {i:Nat}{x:Str}{e:Expr}{te:TE}{fZ:Pos}(hN:X.N.Nodup)(hi:X.N[i]? = some x)(hx:Loc X.env.scope x)(he:PE X e te)(hs:swapsWith e (some (.Name x fZ)) pos.line X.env=pure false:=by rfl)(hf:X.fn x=true\/X.env.scope.names.lookup x=some .local:=by (first | exact .inl rfl | exact .inr rfl | assumption)) :
  PS X (.Assign [.Name x fZ] e pos) (CJ te (vT i)):=by
 intro pins s σ H D I h;refine wpAny_Assign_Name (fk (he pins s σ H _ I h) λv s1 ⟨y,H1,I1,r1,q1⟩=>?_) hs;exact vR I1 hN hi hx r1 (λs2 I2=>⟨_,H1,I2,q1⟩) hf
end
section
noncomputable def CK (c:TT)(tb:TS):TS:=λD σ H=>∃W:Nat->St->Hp->Prop,(∃m,W m σ H)/\∀m σ H,W m σ H ->
 c σ H λb H1=>if b=true then ∃N:St->Hp->Prop,(∀σ' H',N σ' H'->∃m',m' < m/\W m' σ' H')/\tb { D with nx:=N,ct:=N,bk:=D.nx } σ H1 else D.nx σ H1
theorem CL (hp:PassesOwn (model X.prog X.w) X.A X.env X.xe)(hc:PT X c tc)(hb:xX X body tb):PS X (.While c body [] pos) (CK tc tb):=by
 intro pins s σ H D I h;obtain⟨W,⟨m0,w0⟩,turn⟩:=h;refine wpAny_While (codeAny_whileLoop (λn s'=>∃σ' H',Inv X pins σ' H' s'/\W n σ' H') ?_ m0 ⟨σ,H,I,w0⟩);rintro n s1 ⟨σ1,H1,I1,w1⟩;refine wpAny_passesOwn hp (fk (hc pins s1 σ1 H1 _ I1 (turn n σ1 H1 w1)) λb s2 ⟨H2,I2,q2⟩=>?_)
 cases b with
 | true =>
  obtain⟨N,hN,q2⟩:=q2;rw[if_pos rfl];refine wpAny_passesOwn hp (fk (hb pins s2 σ1 H2 _ I2 q2) λf s3 q3=>?_)
  cases f with
  | next =>
   obtain⟨σ3,H3,I3,n3⟩:=q3;obtain⟨m',hm,w3⟩:=hN σ3 H3 n3;exact⟨m',hm,σ3,H3,I3,w3⟩
  | cont =>
   obtain⟨σ3,H3,I3,n3⟩:=q3;obtain⟨m',hm,w3⟩:=hN σ3 H3 n3;exact⟨m',hm,σ3,H3,I3,w3⟩
  | brk=>exact q3
  | ret v=>exact q3
 | false =>
  rw[if_neg aR];exact wpAny_execs_nil ⟨σ1,H2,I2,q2⟩
end
structure It where
 go:Nat->Hp->Prop
 Fs:Nat->Hp->V->Hp->Prop
 stop:Nat->Hp->Prop
noncomputable def pq (X:Cx)(pins:List (Addr × Obj))(H:Hp)(b:Addr):Prop :=
 H b=none/\b≠X.env.locals/\b ∉ X.fs/\(b∈X.ex\/X.s₀.heap.objs.size<=b)/\(∀x c,X.env.cells.lookup x=some c->c≠b)/\∀p∈X.pn++pins,p.1≠b
theorem Inv.px (I:Inv X pins σ H s)(hb:s.heap.objs.size<=b)(hn:H' b=none):pq X pins H' b:=by
 refine⟨hn,cc (aU I.lt hb),I.MN hb,.inr (bu I.sz hb),λx c e z=>?_,λp hp z=>?_⟩
 .obtain⟨v,q⟩:=I.cell x c e
  exact absurd (aU q.lt (by rw[z];exact hb)) (bN _)
 .exact absurd (aU (aI (I.pin p hp).1) (by rw[z];exact hb)) (bN _)
structure vU (P:aV) (w:World) (K:W.Frag) (tg:Expr) (J:It) (fp:List Addr) (it:Addr) (tn:Nat->Heap->Prop):Prop where
 mem:it∈fp
 obj:∀i h,tn i h->∀b∈fp,∃o,h.get? b=some o/\∀v,o.data≠.cell v
 keep:∀i h h',tn i h->(∀b∈fp,∀o,h.get? b=some o->h'.get? b=some o)->tn i h'
 item:∀(X:Cx),X.prog=P->X.w=w->X.K=K->X.calm=true->∀(i:Nat) (pins:List (Addr × Obj)) (s:ax) (σ:St) (H:Hp) (E:ah->ax->Prop),Inv X pins σ H s->(∀b∈fp,pq X pins H b)->tn i s.heap->J.go i H ->
  aG (model P w) X.A (pyNext (.ref it)) (λr s1=>∃u,r=some u /\
   aG (model P w) X.A (letOwnedTupleGo tg (.ref it) u) (λ_ s2=>∃x H',Inv X pins σ H' s2/\RelV x u/\J.Fs i H x H'/\tn (i+1) s2.heap/\∀b∈fp,H' b=none) E s1) E s
 done:∀(X:Cx),X.prog=P->X.w=w->X.K=K->X.calm=true->∀(i:Nat) (pins:List (Addr × Obj)) (s:ax) (σ:St) (H:Hp) (E:ah->ax->Prop),Inv X pins σ H s->(∀b∈fp,pq X pins H b)->tn i s.heap->J.stop i H ->
  aG (model P w) X.A (pyNext (.ref it)) (λr s1=>r=none/\Inv X pins σ H s1) E s
 self:∀(A:Around) (i:Nat) (s:ax) (Q:ah->ax->Prop) (E:ah->ax->Prop),tn i s.heap->Q (.ref it) s->aG (model P w) A (pyIter (.ref it)) Q E s
noncomputable abbrev TI:=St->Hp->(It->Hp->Prop)->Prop
noncomputable def S7 (X:Cx)(pins:List (Addr × Obj))(σ:St)(tg:Expr)(R:It->Hp->Prop)(QB:ah)(s2:ax):Prop :=
 ∃(it:Addr) (fp:List Addr) (tn:Nat->Heap->Prop) (J:It) (H':Hp),QB=.ref it/\Inv X pins σ H' s2/\vU X.prog X.w X.K tg J fp it tn/\tn 0 s2.heap/\(∀b∈fp,pq X pins H' b)/\R J H'
noncomputable def PI (X:Cx)(tg iter:Expr)(wi:TI):Prop :=
 ∀(pins:List (Addr × Obj)) (s:ax) (σ:St) (H:Hp) (R:It->Hp->Prop),Inv X pins σ H s->wi σ H R ->
  aG (model X.prog X.w) X.A (eval iter X.env) (λv s1=>aG (model X.prog X.w) X.A (pyIter v) (S7 X pins σ tg R) X.xe s1) X.xe s
theorem vV {M:Model}{A:Around}{E:ah->ax->Prop}{s:ax}{tg:Expr}{it:Addr}{u:ah}{o:Obj}{n:String}{vs:Array ah}{Q:Unit->ax->Prop}(ho:s.heap.get? it=some o)(hc:o.cls=.type n)(hd:o.data=.fields vs)
  (hn:["enumerate", "zip", "dict_itemiterator", "dict_reverseitemiterator", "odict_iterator", "itertools.zip_longest", "itertools.pairwise"].contains n=false) (hQ:Q () s):aG M A (letOwnedTupleGo tg (.ref it) u) Q E s:=by
 unfold letOwnedTupleGo
 cases tg<;>first
  | exact ap hQ
  | (cases u<;>first
    | exact ap hQ
    | (refine ag (wpAny_load ho ?_);rw[hc,hd];show aG M A (if (["enumerate", "zip", "dict_itemiterator", "dict_reverseitemiterator", "odict_iterator", "itertools.zip_longest", "itertools.pairwise"].contains n && vs[0]? == some (rawInt _))=true then _ else _) Q E s;rw[if_neg (by intro h;rw[hn,Bool.false_and] at h;cases h)];exact ap hQ))
noncomputable def F3 (K:W.Frag)(a:Addr):It :=
 ⟨λi H=>∃xs x,gc K H a xs/\xs[i]? = some x,λi H x H'=>H'=H/\∀xs,gc K H a xs->xs[i]? = some x,λi H=>∃xs,gc K H a xs/\xs.length<=i⟩
noncomputable def F4 (K:W.Frag)(a:Addr):It :=
 ⟨λi H=>∃xs x,iz K H a xs/\xs[i]? = some x,λi H x H'=>H'=H/\∀xs,iz K H a xs->xs[i]? = some x,λi H=>∃xs,iz K H a xs/\xs.length<=i⟩
noncomputable def PB (lo:Int)(n:Nat):It:=⟨λi _=>i<n,λi H x H'=>H'=H/\x=.int (lo+i),λi _=>n<=i⟩
theorem sP {P:aV}{w:World}{K:W.Frag}{tg:Expr}(a it:Addr):vU P w K tg (F3 K a) [it] it (λi h=>h.IsListIter it a i) where
 mem:=by simp
 obj:=λi h st b hb=>by
  have e:b=it:=by simpa using hb
  subst e;obtain⟨o,e,c,d⟩:=st;exact⟨o,e,λv z=>by rw[d] at z;cases z⟩
 keep:=λi h h' st k=>st.at λo e=>k it (!4) o e
 item:=by
  intro X hP hw hK hc i pins s σ H E I hf st hg;subst hP hw hK;obtain⟨xs,x,hq,hx⟩:=hg;obtain⟨its,rv,p,hz⟩:=I.list hq;obtain⟨u,hu,ru⟩:=rv.get hx;obtain⟨f0,f1,f2,f3,f4,f5⟩:=hf it (!4);refine wpAny_pyNext_list_item st p.isList (x:=u) (by simpa using hu) λh' eh sb=>?_;have I1:Inv X pins σ H { s with heap:=h' }:=I.turned (t':=s.toks) (λb o hb e=>(sb.2 b hb).trans e) f0 f1 f3 f4 f5;obtain⟨o,e,c,d⟩:=id eh;exact⟨u,rfl,vV (s:={ s with heap:=h' }) e c d (!2) ⟨x,H,I1,ru,⟨rfl,λys hy=>by rw[I.vS hy hq];exact hx⟩,eh,λb hb=>(hf b hb).1⟩⟩
 done:=by
  intro X hP hw hK hc i pins s σ H E I hf st hg;subst hP hw hK;obtain⟨xs,hq,hx⟩:=hg;obtain⟨its,rv,p,hz⟩:=I.list hq;obtain⟨f0,f1,f2,f3,f4,f5⟩:=hf it (!4);have hl:=rv.length;exact wpAny_pyNext_list_end (I.ok.hd hc) st p.isList (by simp;omega) λh' eb=>⟨rfl,I.turned (t':=s.toks) (λb o hb e=>eb b o hb e) f0 f1 f3 f4 f5⟩
 self:=λ_ _ _ _ _ st h=>wpAny_pyIter_listiter st h
theorem qg {P:aV}{w:World}{K:W.Frag}{tg:Expr}(a it:Addr):vU P w K tg (F4 K a) [it] it (λi h=>h.IsTupleIter it a i) where
 mem:=by simp
 obj:=λi h st b hb=>by
  have e:b=it:=by simpa using hb
  subst e;obtain⟨o,e,c,d⟩:=st;exact⟨o,e,λv z=>by rw[d] at z;cases z⟩
 keep:=λi h h' st k=>st.at λo e=>k it (!4) o e
 item:=by
  intro X hP hw hK hc i pins s σ H E I hf st hg;subst hP hw hK;obtain⟨xs,x,hq,hx⟩:=hg;obtain⟨its,rv,p,hz⟩:=I.tuple hq;obtain⟨u,hu,ru⟩:=rv.get hx;obtain⟨f0,f1,f2,f3,f4,f5⟩:=hf it (!4);refine wpAny_pyNext_tuple_item st (show s.heap.IsTuple a its.toArray from p) (x:=u) (by simpa using hu) λh' eh sb=>?_;have I1:Inv X pins σ H { s with heap:=h' }:=I.turned (t':=s.toks) (λb o hb e=>(sb.2 b hb).trans e) f0 f1 f3 f4 f5;obtain⟨o,e,c,d⟩:=id eh;exact⟨u,rfl,vV (s:={ s with heap:=h' }) e c d (!2) ⟨x,H,I1,ru,⟨rfl,λys hy=>by rw[I.sO hy hq];exact hx⟩,eh,λb hb=>(hf b hb).1⟩⟩
 done:=by
  intro X hP hw hK hc i pins s σ H E I hf st hg;subst hP hw hK;obtain⟨xs,hq,hx⟩:=hg;obtain⟨its,rv,p,hz⟩:=I.tuple hq;obtain⟨f0,f1,f2,f3,f4,f5⟩:=hf it (!4);have hl:=rv.length;exact wpAny_pyNext_tuple_end (I.ok.hd hc) st (show s.heap.IsTuple a its.toArray from p) (by simp;omega) λh' eb=>⟨rfl,I.turned (t':=s.toks) (λb o hb e=>eb b o hb e) f0 f1 f3 f4 f5⟩
 self:=λ_ _ _ _ _ st h=>wpAny_pyIter_tupleiter st h
theorem yd {P:aV}{w:World}{K:PySem.W.Frag}{tg:Expr}(it:Addr)(lo:Int)(n:Nat):vU P w K tg (PB lo n) [it] it (λi h=>IsRangeIter h it (lo+(i:Nat) * 1) ((n:Int) - (i:Nat)) 1) where
 mem:=by simp
 obj:=λi h st b hb=>by
  have e:b=it:=by simpa using hb
  subst e
  exact⟨_,st,λv z=>by
   have z':Data.fields _=Data.cell v:=z;cases z'⟩
 keep:=λi h h' st k=>k it (!4) _ st
 item:=by
  intro X hP hw hK hc i pins s σ H E I hf st hg;subst hP hw hK;obtain⟨f0,f1,f2,f3,f4,f5⟩:=hf it (!4);have W:=Walks.range (prog:=X.prog) (w:=X.w) (I.ok.hd hc) it lo 1 n;refine W.item i s _ _ hg st λv h' tk hv eh kk=>?_;obtain⟨t,rfl⟩:=hv;have I1:Inv X pins σ H { s with heap:=h',toks:=tk }:=I.turned (λb o hb e=>kk b o (by simpa using hb) e) f0 f1 f3 f4 f5;refine⟨_,rfl,vV (s:={ s with heap:=h',toks:=tk }) (n := "range_iterator") eh rfl rfl (!2) ⟨.int (lo+i),H,I1,⟨t,?_⟩,⟨rfl,rfl⟩,eh,λb hb=>(hf b hb).1⟩⟩;rw[Int.mul_one]
 done:=by
  intro X hP hw hK hc i pins s σ H E I hf st hg;subst hP hw hK;obtain⟨f0,f1,f2,f3,f4,f5⟩:=hf it (!4);exact wpAny_pyNext_range_end (I.ok.hd hc) st (by have:n<=i:=hg;omega) λh' eb=>⟨rfl,I.turned (t':=s.toks) (λb o hb e=>eb b o hb e) f0 f1 f3 f4 f5⟩
 self:=λ_ _ _ _ _ st h=>wpAny_pyIter_rangeiter st h
section
variable {X:Cx}{tg:Expr}
noncomputable def CM (K:W.Frag)(tl:TE):TI:=λσ H R=>tl σ H λx H1=>∃a,x=.ref a/\(∃xs,gc K H1 a xs)/\R (F3 K a) H1
noncomputable def JP (K:W.Frag)(tl:TE):TI:=λσ H R=>tl σ H λx H1=>∃a,x=.ref a/\(∃xs,iz K H1 a xs)/\R (F4 K a) H1
theorem F5 {l:Expr}{tl:TE}(hl:PE X l tl):PI X tg l (CM X.K tl):=by
 intro pins s σ H R I h;refine fk (hl pins s σ H _ I h) λv s1 ⟨x,H1,I1,r1,q1⟩=>?_;obtain⟨a,e,⟨xs,hq⟩,q⟩:=q1;subst e;cases r1;obtain⟨its,rv,p,hz⟩:=I1.list hq;refine wpAny_pyIter_list p.isList ?_;refine⟨s1.heap.objs.size,[s1.heap.objs.size],_,_,H1,rfl,I1.kept (t':=s1.toks) λb o e=>aj _ e,sP a _,⟨_,aB _ rfl,rfl,rfl⟩,λb hb=>?_,q⟩;have e:b=s1.heap.objs.size:=by simpa using hb
 subst e;exact I1.px (am _) (I1.eD.fresh (am _))
theorem JQ {l:Expr}{tl:TE}(hl:PE X l tl):PI X tg l (JP X.K tl):=by
 intro pins s σ H R I h;refine fk (hl pins s σ H _ I h) λv s1 ⟨x,H1,I1,r1,q1⟩=>?_;obtain⟨a,e,⟨xs,hq⟩,q⟩:=q1;subst e;cases r1;obtain⟨its,rv,p,hz⟩:=I1.tuple hq;refine wpAny_pyIter_tuple (show s1.heap.IsTuple a its.toArray from p) ?_;refine⟨s1.heap.objs.size,[s1.heap.objs.size],_,_,H1,rfl,I1.kept (t':=s1.toks) λb o e=>aj _ e,qg a _,⟨_,aB _ rfl,rfl,rfl⟩,λb hb=>?_,q⟩;have e:b=s1.heap.objs.size:=by simpa using hb
 subst e;exact I1.px (am _) (I1.eD.fresh (am _))
theorem CN {pins:List (Addr × Obj)}{σ:St}{H:Hp}{s:ax}{R:It->Hp->Prop}{E:ah->ax->Prop}{lo hi:Int}{t u v:Tok}{tk:Nat}(I:Inv X pins σ H s)(h1:-(2 ^ 62)<=lo)(h2:lo<2 ^ 62)(h3:-(2 ^ 62)<=hi)(h4:hi<2 ^ 62)
  (q:R (PB lo (hi - lo).toNat) H):aG (model X.prog X.w) X.A (pyIter (.ref s.heap.objs.size)) (S7 X pins σ tg R) E { s with heap:=s.heap.push { cls:=.type "range",data:=.fields #[.int lo t,.int hi u,.int 1 v] },toks:=tk }:=by
 refine wpAny_pyIter_range (IsRange.new ..) (small_one h1 h2 h3 h4) ?_;have I1:Inv X pins σ H { s with heap:=s.heap.push { cls:=.type "range",data:=.fields #[.int lo t,.int hi u,.int 1 v] },toks:=tk }:=I.kept λb o e=>aj _ e
 refine⟨(s.heap.push { cls:=.type "range",data:=.fields #[.int lo t,.int hi u,.int 1 v] }).objs.size,[(s.heap.push { cls:=.type "range",data:=.fields #[.int lo t,.int hi u,.int 1 v] }).objs.size],_,_,H,rfl,
  I1.kept (t':=tk) λb o e=>aj _ e,yd _ lo (hi - lo).toNat,?_,λb hb=>?_,q⟩
 .have e1:lo+((0:Nat):Int) * 1=lo:=by simp
  have e2:(((hi - lo).toNat:Nat):Int) - ((0:Nat):Int)=Builtin.Range.rangeSize lo hi 1:=by rw[rangeSize_one];split<;>omega
  show IsRangeIter _ _ (lo+((0:Nat):Int) * 1) ((((hi - lo).toNat:Nat):Int) - ((0:Nat):Int)) 1;rw[e1,e2];exact aB _ rfl
 .have e:b=(s.heap.push { cls:=.type "range",data:=.fields #[.int lo t,.int hi u,.int 1 v] }).objs.size:=by simpa using hb
  subst e;exact I1.px (am _) (I1.eD.fresh (am _))
noncomputable def Ii (ta:TA):TI:=λσ H R=>ta σ H λvs H1=>∃j:Int,vs=[.int j]/\-(2 ^ 62)<=j/\j<2 ^ 62/\R (PB 0 j.toNat) H1
theorem Bh (hg:Gl X "range")(hm:X.mg "range" = none)(ha:PA X [a] ta)(hs:starEach [a] X.env=[(false,eval a X.env)]:=by rfl):PI X tg (.Call (.Name "range" p) [a] [] pos) (Ii ta):=by
 intro pins s σ H R I h;refine Call_ (og I hg hm boot_range (PyProof.Rows.callWith_type1 (fk (ha pos pins s σ H _ I h) λus s1 ⟨vs,H1,I1,r1,q1⟩=>?_) hs rfl));obtain⟨j,e,q1,q2,q⟩:=q1;subst e
 cases r1 with
 | cons r rr =>
  cases rr;obtain⟨t,rfl⟩:=r;exact call_range_1 (CN I1 (!1) (!1) q1 q2 (by simpa using q))
noncomputable def M6 (wi:TI)(g:TG)(tb:TS):TS:=λD σ H=>wi σ H λJ H1=>∃W:Nat->Nat->St->Hp->Prop,(∃m,W 0 m σ H1)/\∀i m σ H,W i m σ H ->
 (J.stop i H/\D.nx σ H)\/(J.go i H/\∃N:St->Hp->Prop,(∀σ' H',N σ' H'->∃m',m' < m/\W (i+1) m' σ' H')/\∀x H',J.Fs i H x H'->g x σ H' λσ2 H2=>tb { D with nx:=N,ct:=N,bk:=D.nx } σ2 H2)
noncomputable def qh (fp:List Addr)(h:Heap):List (Addr × Obj):=fp.filterMap λb=>(h.get? b).map λo=>(b,o)
theorem j4 (hb:b∈fp)(e:h.get? b=some o):(b,o)∈qh fp h:=List.mem_filterMap.mpr ⟨b,hb,by rw[e];rfl⟩
theorem Bi (hp:p∈qh fp h):p.1∈fp/\h.get? p.1=some p.2:=by
 obtain⟨b,hb,e⟩:=List.mem_filterMap.mp hp
 cases q:h.get? b with
 | none=>rw[q] at e;cases e
 | some o =>
  rw[q] at e;have e':(b,o)=p:=Option.some.inj e;subst e';exact⟨hb,q⟩
theorem Inv.pinned (I:Inv X pins σ H s)(hf:∀b∈fp,pq X pins H b)(ho:∀b∈fp,∃o,s.heap.get? b=some o/\∀v,o.data≠.cell v):Inv X (pins++qh fp s.heap) σ H s :=
 I.pO λp hp=>(aK.mp hp).elim (λz=>I.pin p (aY _ z)) λz=>by
  obtain⟨hb,e⟩:=Bi z;obtain⟨f0,f1,f2,_⟩:=hf p.1 hb;obtain⟨o,e',d⟩:=ho p.1 hb;rw[e] at e';cases e';exact⟨e,f0,f1,f2,d⟩
theorem Inv.kR (I:Inv X (pins++pl) σ H s):Inv X pins σ H s:=I.pO λp hp=>I.pin p (aY _ (bx _ hp))
theorem JR (hp:PassesOwn (model X.prog X.w) X.A X.env X.xe)(hc:X.calm=true)(hi:PI X tg iter wi)(hg:PG X tg g)(hb:xX X body tb)
  (hs:∀x,foldedSetIterable iter X.env x=pure x:=by rw[3]):PS X (.For tg iter body [] pos) (M6 wi g tb):=by
 intro pins s σ H D I h;refine wpAny_For (fk (hi pins s σ H _ I h) λv s1 h1=>fk h1 λQB s2 h2=>?_) hs;obtain⟨it,fp,tn,J,H2,e,I2,T,F6,f2,W,⟨m0,w0⟩,turn⟩:=h2;subst e;have JS:∀{H':Hp},(∀b∈fp,H' b=none)->∀b∈fp,pq X pins H' b:=λhn b hb=>⟨hn b hb,(f2 b hb).2⟩;refine codeAny_forLoop_any (λn s'=>∃i σ' H',Inv X pins σ' H' s'/\tn i s'.heap/\(∀b∈fp,H' b=none)/\W i n σ' H') ?_ m0 ⟨0,σ,H2,I2,F6,λb hb=>(f2 b hb).1,w0⟩;rintro n s3 ⟨i,σ3,H3,I3,ye,M7,w3⟩;rcases turn i n σ3 H3 w3 with⟨stop,qn⟩ | ⟨go,N,hN,step⟩
 .refine wpAny_passesOwn hp (fk (T.done X rfl rfl rfl hc i pins s3 σ3 H3 X.xe I3 (JS M7) ye stop) λr s4 ⟨hr,I4⟩=>?_)
  subst hr;exact wpAny_execs_nil ⟨σ3,H3,I4,qn⟩
 .refine wpAny_passesOwn hp (fk (T.item X rfl rfl rfl hc i pins s3 σ3 H3 X.xe I3 (JS M7) ye go) λr s4 ⟨u,hr,h4⟩=>?_)
  subst hr;refine wpAny_passesOwn hp (fk h4 λ_ s5 ⟨x,H5,I5,r5,y5,JT,QC⟩=>?_);have Ur:=I5.pinned (JS QC) (T.obj _ _ JT);refine wpAny_passesOwn hp (fk (hg _ s5 σ3 H5 x u _ Ur r5 (step x H5 y5)) λ_ s6 ⟨σ6,H6,I6,q6⟩=>?_);refine wpAny_passesOwn hp (fk (hb _ s6 σ6 H6 _ I6 q6) λf s7 q7=>?_)
  have again:∀{σ7:St} {H7:Hp},Inv X (pins++qh fp s5.heap) σ7 H7 s7->N σ7 H7->∃m,m<n/\∃i σ' H',Inv X pins σ' H' s7/\tn i s7.heap/\(∀b∈fp,H' b=none)/\W i m σ' H':=λ{σ7 H7} I7 n7=>by
   obtain⟨m',hm,w7⟩:=hN σ7 H7 n7;refine⟨m',hm,i+1,σ7,H7,I7.kR,T.keep _ _ _ JT λb hb o e=>(I7.pin (b,o) (aY _ (aY _ (j4 hb e)))).1,λb hb=>?_,w7⟩;obtain⟨o,e,d⟩:=T.obj _ _ JT b hb;exact (I7.pin (b,o) (aY _ (aY _ (j4 hb e)))).2.1
  cases f with
  | next=>obtain⟨σ7,H7,I7,n7⟩:=q7;exact again I7 n7
  | cont=>obtain⟨σ7,H7,I7,n7⟩:=q7;exact again I7 n7
  | brk=>obtain⟨σ7,H7,I7,q7⟩:=q7;exact⟨σ7,H7,I7.kR,q7⟩
  | ret v=>obtain⟨x7,σ7,H7,I7,r7,q7⟩:=q7;exact⟨x7,σ7,H7,I7.kR,r7,q7⟩
end
theorem CO {K:PySem.W.Frag}{a:Addr}{xs:List V}{g:TG}{tb:TS}{D:Ends}{σ:St}{H:Hp}(Pv:Nat->St->Hp->Prop)(h0:Pv 0 σ H)(hl:∀i σ H,i<=xs.length->Pv i σ H->gc K H a xs)
  (hs:∀i x σ H,xs[i]? = some x->Pv i σ H->g x σ H λσ2 H2=>tb { D with nx:=Pv (i+1),ct:=Pv (i+1),bk:=D.nx } σ2 H2) (hd:∀σ H,Pv xs.length σ H->D.nx σ H) :
  ∃W:Nat->Nat->St->Hp->Prop,(∃m,W 0 m σ H)/\∀i m σ H,W i m σ H ->
   ((F3 K a).stop i H/\D.nx σ H)\/((F3 K a).go i H/\∃N:St->Hp->Prop,(∀σ' H',N σ' H'->∃m',m' < m/\W (i+1) m' σ' H')/\∀x H',(F3 K a).Fs i H x H'->g x σ H' λσ2 H2=>tb { D with nx:=N,ct:=N,bk:=D.nx } σ2 H2):=by
 refine⟨λi m σ H=>m=xs.length - i/\i<=xs.length/\Pv i σ H,⟨xs.length,!4,bF _,h0⟩,?_⟩;rintro i m σ H ⟨rfl,hi,p⟩;have q:=hl i σ H hi p;by_cases gn:i<xs.length
 .refine .inr ⟨⟨xs,xs[i],q,by simp[gn]⟩,Pv (i+1),λσ' H' p'=>⟨xs.length - (i+1),!1,rfl,gn,p'⟩,λx H' y=>?_⟩
  obtain⟨e,y⟩:=y;subst e;exact hs i x σ _ (y xs q) p
 .have e:i=xs.length:=by omega
  subst e;exact .inl ⟨⟨xs,q,am _⟩,hd σ H p⟩
theorem F7 {K:PySem.W.Frag}{a:Addr}{xs:List V}{g:TG}{tb:TS}{D:Ends}{σ:St}{H:Hp}(Pv:Nat->St->Hp->Prop)(h0:Pv 0 σ H)(hl:∀i σ H,i<=xs.length->Pv i σ H->iz K H a xs)
  (hs:∀i x σ H,xs[i]? = some x->Pv i σ H->g x σ H λσ2 H2=>tb { D with nx:=Pv (i+1),ct:=Pv (i+1),bk:=D.nx } σ2 H2) (hd:∀σ H,Pv xs.length σ H->D.nx σ H) :
  ∃W:Nat->Nat->St->Hp->Prop,(∃m,W 0 m σ H)/\∀i m σ H,W i m σ H ->
   ((F4 K a).stop i H/\D.nx σ H)\/((F4 K a).go i H/\∃N:St->Hp->Prop,(∀σ' H',N σ' H'->∃m',m' < m/\W (i+1) m' σ' H')/\∀x H',(F4 K a).Fs i H x H'->g x σ H' λσ2 H2=>tb { D with nx:=N,ct:=N,bk:=D.nx } σ2 H2):=by
 refine⟨λi m σ H=>m=xs.length - i/\i<=xs.length/\Pv i σ H,⟨xs.length,!4,bF _,h0⟩,?_⟩;rintro i m σ H ⟨rfl,hi,p⟩;have q:=hl i σ H hi p;by_cases gn:i<xs.length
 .refine .inr ⟨⟨xs,xs[i],q,by simp[gn]⟩,Pv (i+1),λσ' H' p'=>⟨xs.length - (i+1),!1,rfl,gn,p'⟩,λx H' y=>?_⟩
  obtain⟨e,y⟩:=y;subst e;exact hs i x σ _ (y xs q) p
 .have e:i=xs.length:=by omega
  subst e;exact .inl ⟨⟨xs,q,am _⟩,hd σ H p⟩
noncomputable abbrev R2:=V->V->Hp->VK->Prop
noncomputable def j0 (X:Cx)(f:ah->ah->Sem ah)(r:R2):Prop :=
 ∀(pins:List (Addr × Obj)) (s:ax) (σ:St) (H:Hp) (x y:V) (v u:ah) (Q:VK),Inv X pins σ H s->RelV x v->RelV y u->r x y H Q ->
  aG (model X.prog X.w) X.A (f v u) (EP X pins σ Q) X.xe s
noncomputable def PD (X:Cx)(f:ah->Sem ah)(r:V->Hp->VK->Prop):Prop :=
 ∀(pins:List (Addr × Obj)) (s:ax) (σ:St) (H:Hp) (x:V) (v:ah) (Q:VK),Inv X pins σ H s->RelV x v->r x H Q ->
  aG (model X.prog X.w) X.A (f v) (EP X pins σ Q) X.xe s
noncomputable def fP (X:Cx)(f:ah)(r:List V->Hp->VK->Prop):Prop :=
 ∀(pins:List (Addr × Obj)) (s:ax) (σ:St) (H:Hp) (xs:List V) (us:List ah) (Q:VK),Inv X pins σ H s->dW xs us->r xs H Q ->
  aG (model X.prog X.w) X.A (call f us) (EP X pins σ Q) X.xe s
noncomputable def F8 (r:R2)(ta tb:TE):TE:=λσ H Q=>ta σ H λx H1=>tb σ H1 λy H2=>r x y H2 Q
noncomputable def S8 (r:V->Hp->VK->Prop)(ta:TE):TE:=λσ H Q=>ta σ H λx H1=>r x H1 Q
noncomputable def rI (C:Int->Int->Prop)(g:Int->Int->V):R2:=λx y H Q=>∃i j,x=.int i/\y=.int j/\C i j/\Q (g i j) H
noncomputable def Ij (g:Int->Int->V):R2:=λx y H Q=>∃i j,x=.int i/\y=.int j/\Q (g i j) H
noncomputable def rU (g:Int->V):V->Hp->VK->Prop:=λx H Q=>∃i,x=.int i/\Q (g i) H
section
variable {X:Cx}{a b c:Expr}{ta tb tc:TE}{pos:Pos}
theorem JU (ha:PE X a ta)(hb:PE X b tb){pins:List (Addr × Obj)}{s:ax}{σ:St}{H:Hp}{R:V->V->Hp->Prop}(I:Inv X pins σ H s)
  (h:ta σ H λx H1=>tb σ H1 λy H2=>R x y H2) {Q:ah->ax->Prop} {f:ah->ah->Sem ah}
  (hf:∀v u s2 x y H2,Inv X pins σ H2 s2->RelV x v->RelV y u->R x y H2->aG (model X.prog X.w) X.A (f v u) Q X.xe s2) :
  aG (model X.prog X.w) X.A (eval a X.env) (λv s₁=>aG (model X.prog X.w) X.A (eval b X.env) (λu s₂=>aG (model X.prog X.w) X.A (f v u) Q X.xe s₂) X.xe s₁) X.xe s:=by
 refine fk (ha pins s σ H _ I h) λv s1 ⟨x,H1,I1,r1,q1⟩=>?_;refine fk (hb pins s1 σ H1 _ I1 q1) λu s2 ⟨y,H2,I2,r2,q2⟩=>?_;exact hf v u s2 x y H2 I2 r1 r2 q2
theorem M8 {op:Operator}{r:R2}(ho:j0 X (binaryOp op) r)(ha:PE X a ta)(hb:PE X b tb):PE X (.BinOp a op b pos) (F8 r ta tb):=by
 intro pins s σ H Q I h;exact wpAny_BinOp (JU ha hb I h λv u s2 x y H2 I2 rx ry q=>ho pins s2 σ H2 x y v u Q I2 rx ry q)
theorem M9 (ho:PD X (unaryOp op) r)(ha:PE X a ta):PE X (.UnaryOp op a pos) (S8 r ta):=by
 intro pins s σ H Q I h;exact UnaryOp_ (fk (ha pins s σ H _ I h) λv s1 ⟨x,H1,I1,r1,q1⟩=>ho pins s1 σ H1 x v Q I1 r1 q1)
theorem PF {f:ah->ah->Sem ah}{C:Int->Int->Prop}{g:Int->Int->Int}
  (rule:∀(i j:Int) (t u:Tok) (s:ax) (Q:ah->ax->Prop) (E:ah->ax->Prop),C i j->Q (.int (g i j) s.toks) { s with toks:=s.toks+1 }->aG (model X.prog X.w) X.A (f (.int i t) (.int j u)) Q E s) :
  j0 X f (rI C λi j=>.int (g i j)):=by
 intro pins s σ H x y v u Q I rx ry h;obtain⟨i,j,rfl,rfl,hc,q⟩:=h;obtain⟨t,rfl⟩:=rx;obtain⟨t',rfl⟩:=ry;exact rule i j t t' s _ _ hc ⟨.int (g i j),H,I.tok _,⟨_,rfl⟩,q⟩
theorem M' {f:ah->ah->Sem ah}{g:Int->Int->Int}
  (rule:∀(i j:Int) (t u:Tok) (s:ax) (Q:ah->ax->Prop) (E:ah->ax->Prop),Q (.int (g i j) s.toks) { s with toks:=s.toks+1 }->aG (model X.prog X.w) X.A (f (.int i t) (.int j u)) Q E s) :
  j0 X f (Ij λi j=>.int (g i j)):=by
 intro pins s σ H x y v u Q I rx ry h;obtain⟨i,j,rfl,rfl,q⟩:=h;obtain⟨t,rfl⟩:=rx;obtain⟨t',rfl⟩:=ry;exact rule i j t t' s _ _ ⟨.int (g i j),H,I.tok _,⟨_,rfl⟩,q⟩
theorem JV {f:ah->ah->Sem ah}{g:Int->Int->Bool}
  (rule:∀(i j:Int) (t u:Tok) (s:ax) (Q:ah->ax->Prop) (E:ah->ax->Prop),Q (.bool (g i j)) s->aG (model X.prog X.w) X.A (f (.int i t) (.int j u)) Q E s) :
  j0 X f (Ij λi j=>.bl (g i j)):=by
 intro pins s σ H x y v u Q I rx ry h;obtain⟨i,j,rfl,rfl,q⟩:=h;obtain⟨t,rfl⟩:=rx;obtain⟨t',rfl⟩:=ry;exact rule i j t t' s _ _ ⟨.bl (g i j),H,I,rfl,q⟩
noncomputable def JW (i j:Int):Prop:=0<j/\j<1073741824
noncomputable def JX (i j:Int):Prop:=0<=j/\j<=1000000/\i.natAbs<2 ^ 64
noncomputable def yf (i j:Int):Prop:=(-(2 ^ 64)<i/\i<2 ^ 64)\/(-(2 ^ 64)<j/\j<2 ^ 64)
theorem yf.ok (h:yf i j):IntMulOk i j:=by
 rcases h with⟨h1,h2⟩ | ⟨h1,h2⟩
 .exact .of_left (intBits_le_64 h1 h2)
 .exact .of_right (intBits_le_64 h1 h2)
theorem kS:j0 X (binaryOp .Add) (Ij λi j=>.int (i+j)):=M' λ_ _ _ _ _ _ _ q=>add_int q
theorem JY:j0 X (binaryOp .Sub) (Ij λi j=>.int (i - j)):=M' λ_ _ _ _ _ _ _ q=>sub_int q
theorem kT:j0 X (binaryOp .Mult) (rI yf λi j=>.int (i * j)):=PF λ_ _ _ _ _ _ _ hc q=>mul_int q hc.ok
theorem zS:j0 X (binaryOp .FloorDiv) (rI JW λi j=>.int (i / j)):=PF λi j _ _ _ _ _ hc q=>by
 have h1:(0:Int)<j:=hc.1;have h2:j<1073741824:=hc.2;exact floordiv_int (!1) (by rw[Int.fdiv_eq_ediv_of_nonneg i (!1)];exact q) (.inl (PyProof.noPylong_small (!1)))
theorem j5:j0 X (binaryOp .Mod) (rI (λ_ j=>0<j) λi j=>.int (i % j)):=PF λi j _ _ _ _ _ hc q=>by
 have h1:(0:Int)<j:=hc;exact mod_int' (!1) (by rw[Int.fmod_eq_emod_of_nonneg i (!1)];exact q)
theorem JZ:j0 X (binaryOp .Pow) (rI JX λi j=>.int (i ^ j.toNat)):=PF λ_ _ _ _ _ _ _ hc q=>pow_int_small hc.1 hc.2.1 hc.2.2 q
theorem Us {f:ah->Sem ah}{g:Int->Int}
  (rule:∀(i:Int) (t:Tok) (s:ax) (Q:ah->ax->Prop) (E:ah->ax->Prop),Q (.int (g i) s.toks) { s with toks:=s.toks+1 }->aG (model X.prog X.w) X.A (f (.int i t)) Q E s) :
  PD X f (rU λi=>.int (g i)):=by
 intro pins s σ H x v Q I rx h;obtain⟨i,rfl,q⟩:=h;obtain⟨t,rfl⟩:=rx;exact rule i t s _ _ ⟨.int (g i),H,I.tok _,⟨_,rfl⟩,q⟩
theorem J1:PD X (unaryOp .USub) (rU λi=>.int (-i)):=Us λ_ _ _ _ _ q=>neg_int q
end
noncomputable def Na:V->V->Bool
 | .f',.f'=>true | .f',.int _=>true | .int _,.f'=>true | .f',.bl _=>true | .bl _,.f'=>true | .f',.str _=>true | .str _,.f'=>true
 | .int _,.int _=>true | .bl _,.bl _=>true | .str _,.str _=>true | .Cw _,.Cw _=>true
 | .int _,.str _=>true | .str _,.int _=>true | .bl _,.str _=>true | .str _,.bl _=>true
 | _,_=>false
noncomputable def Ut:R2:=λx y H Q=>Na x y=true/\Q (.bl (decide (x=y))) H
noncomputable def Uu:R2:=λx y H Q=>Na x y=true/\Q (.bl (!decide (x=y))) H
theorem zT:decide (V.int i=V.int j)=(i == j):=by
 rw[cY];simp
theorem CP:decide (V.bl i=V.bl j)=(i == j):=by
 rw[cY];simp
theorem zU:decide (V.str i=V.str j)=(i == j):=by
 rw[cY];simp
theorem zV:decide (V.Cw i=V.Cw j)=(i.toList == j.toList):=by
 rw[cY];cases i;cases j;simp
section
variable {X:Cx}{a b c:Expr}{ta tb tc:TE}{pos:Pos}
theorem eA (I:Inv X pins σ H s)(q:Q (.bl k) H)(e:k=k'):EP X pins σ Q (.bool k') s:=by
 subst e;exact⟨.bl k,H,I,rfl,q⟩
theorem Nb:j0 X (compareOp .Eq) Ut:=by
 intro pins s σ H x y v u Q I rx ry h;obtain⟨hs,q⟩:=h
 cases x with
 | f' =>
  cases rx
  cases y with
  | f'=>cases ry;exact PySem.EqNone.eq_none_none (eA I q (!4))
  | bl j=>cases ry;exact PySem.EqNone.eq_none_bool (eA I q (!4))
  | int j=>obtain⟨t',rfl⟩:=ry;exact PySem.EqNone.eq_none_int (eA I q (!4))
  | str j=>obtain⟨t',rfl⟩:=ry;exact PySem.EqNone.eq_none_str (eA I q (!4))
  | _=>exact absurd (show false=true from hs) aR
 | bl i =>
  cases rx
  cases y with
  | f'=>cases ry;exact PySem.EqNone.eq_bool_none (eA I q (!4))
  | bl j=>cases ry;exact eq_bool (eA I q CP)
  | str j=>obtain⟨t',rfl⟩:=ry;exact PySem.EqMixed.eq_bool_str (eA I q (!4))
  | _=>exact absurd (show false=true from hs) aR
 | int i =>
  obtain⟨t,rfl⟩:=rx
  cases y with
  | f'=>cases ry;exact PySem.EqNone.eq_int_none (eA I q (!4))
  | int j=>obtain⟨t',rfl⟩:=ry;exact eq_int (eA I q zT)
  | str j=>obtain⟨t',rfl⟩:=ry;exact PySem.EqMixed.eq_int_str (eA I q (!4))
  | _=>exact absurd (show false=true from hs) aR
 | str i =>
  obtain⟨t,rfl⟩:=rx
  cases y with
  | f'=>cases ry;exact PySem.EqNone.eq_str_none (eA I q (!4))
  | bl j=>cases ry;exact PySem.EqMixed.eq_str_bool (eA I q (!4))
  | int j=>obtain⟨t',rfl⟩:=ry;exact PySem.EqMixed.eq_str_int (eA I q (!4))
  | str j=>obtain⟨t',rfl⟩:=ry;exact eq_str (eA I q zU)
  | _=>exact absurd (show false=true from hs) aR
 | Cw i =>
  obtain⟨t,rfl⟩:=rx
  cases y with
  | Cw j=>obtain⟨t',rfl⟩:=ry;exact W.eq_bytes (eA I q zV)
  | _=>exact absurd (show false=true from hs) aR
 | _=>cases y<;>exact absurd (show false=true from hs) aR
theorem Nc:j0 X (compareOp .NotEq) Uu:=by
 intro pins s σ H x y v u Q I rx ry h;obtain⟨hs,q⟩:=h
 cases x with
 | f' =>
  cases rx
  cases y with
  | f'=>cases ry;exact PySem.EqNone.ne_none_none (eA I q (!4))
  | bl j=>cases ry;exact PySem.EqNone.ne_none_bool (eA I q (!4))
  | int j=>obtain⟨t',rfl⟩:=ry;exact PySem.EqNone.ne_none_int (eA I q (!4))
  | str j=>obtain⟨t',rfl⟩:=ry;exact PySem.EqNone.ne_none_str (eA I q (!4))
  | _=>exact absurd (show false=true from hs) aR
 | bl i =>
  cases rx
  cases y with
  | f'=>cases ry;exact PySem.EqNone.ne_bool_none (eA I q (!4))
  | bl j=>cases ry;exact ne_bool (eA I q (congrArg not CP))
  | str j=>obtain⟨t',rfl⟩:=ry;exact PySem.EqMixed.ne_bool_str (eA I q (!4))
  | _=>exact absurd (show false=true from hs) aR
 | int i =>
  obtain⟨t,rfl⟩:=rx
  cases y with
  | f'=>cases ry;exact PySem.EqNone.ne_int_none (eA I q (!4))
  | int j=>obtain⟨t',rfl⟩:=ry;exact ne_int (eA I q (congrArg not zT))
  | str j=>obtain⟨t',rfl⟩:=ry;exact PySem.EqMixed.ne_int_str (eA I q (!4))
  | _=>exact absurd (show false=true from hs) aR
 | str i =>
  obtain⟨t,rfl⟩:=rx
  cases y with
  | f'=>cases ry;exact PySem.EqNone.ne_str_none (eA I q (!4))
  | bl j=>cases ry;exact PySem.EqMixed.ne_str_bool (eA I q (!4))
  | int j=>obtain⟨t',rfl⟩:=ry;exact PySem.EqMixed.ne_str_int (eA I q (!4))
  | str j=>obtain⟨t',rfl⟩:=ry;exact ne_str (eA I q (congrArg not zU))
  | _=>exact absurd (show false=true from hs) aR
 | Cw i =>
  obtain⟨t,rfl⟩:=rx
  cases y with
  | Cw j=>obtain⟨t',rfl⟩:=ry;exact W.ne_bytes (eA I q (congrArg not zV))
  | _=>exact absurd (show false=true from hs) aR
 | _=>cases y<;>exact absurd (show false=true from hs) aR
theorem Ik:j0 X (compareOp .Lt) (Ij λi j=>.bl (decide (i<j))):=JV λ_ _ _ _ _ _ _ q=>lt_int q
theorem Il:j0 X (compareOp .Gt) (Ij λi j=>.bl (decide (j<i))):=JV λ_ _ _ _ _ _ _ q=>gt_int q
theorem Nf:j0 X (compareOp .GtE) (Ij λi j=>.bl (decide (j<=i))):=JV λ_ _ _ _ _ _ _ q=>ge_int q
theorem J2:j0 X (compareOp .Is) (λx y H Q=>y=.f'/\Q (.bl (decide (x=.f'))) H):=by
 intro pins s σ H x y v u Q I rx ry h;obtain⟨rfl,q⟩:=h;cases ry;refine is_none_gen (eA I q ?_)
 cases x<;>first
  | (cases rx;rfl)
  | (obtain⟨t,rfl⟩:=rx;rfl)
theorem F9:j0 X (compareOp .IsNot) (λx y H Q=>y=.f'/\Q (.bl (!decide (x=.f'))) H):=by
 intro pins s σ H x y v u Q I rx ry h;obtain⟨rfl,q⟩:=h;cases ry;refine isnot_none_gen (eA I q ?_)
 cases x<;>first
  | (cases rx;rfl)
  | (obtain⟨t,rfl⟩:=rx;rfl)
theorem j0.or {f:ah->ah->Sem ah}{r r':R2}(h:j0 X f r)(h':j0 X f r'):j0 X f (λx y H Q=>r x y H Q\/r' x y H Q):=by
 intro pins s σ H x y v u Q I rx ry q;rcases q with q | q
 .exact h pins s σ H x y v u Q I rx ry q
 .exact h' pins s σ H x y v u Q I rx ry q
theorem iV (b:Expr)(h:op≠.In:=by decide)(h2:op≠.NotIn:=by decide):behindInMarks op b=false:=by
 have e1:(op == CmpOp.In)=false:=by cases op<;>first | rfl | exact absurd rfl h
 have e2:(op == CmpOp.NotIn)=false:=by cases op<;>first | rfl | exact absurd rfl h2
 cases b<;>simp[behindInMarks,e1,e2]
theorem F' {op:CmpOp}{r:R2}(ho:j0 X (compareOp op) r)(ha:PE X a ta)(hb:PE X b tb)(hm:behindInMarks op b=false):PE X (.Compare a [op] [b] pos) (F8 r ta tb):=by
 intro pins s σ H Q I h;exact wpAny_Compare1 (JU ha hb I h λv u s2 x y H2 I2 rx ry q=>ho pins s2 σ H2 x y v u Q I2 rx ry q) hm
noncomputable def Im (t:TE):TT:=λσ H Q=>t σ H λx H'=>∃k,x=.bl k/\Q k H'
theorem Ga (ho:j0 X (compareOp op) r)(ha:PE X a ta)(hb:PE X b tb)(hm:behindInMarks op b=false):PT X (.Compare a [op] [b] pos) (Im (F8 r ta tb)):=by
 intro pins s σ H Q I h
 refine wpAny_isTrue_Compare1 (fk (ha pins s σ H _ I h) λv s1 ⟨x,H1,I1,r1,q1⟩=>fk (hb pins s1 σ H1 _ I1 q1) λu s2 ⟨y,H2,I2,r2,q2⟩ =>
  fk (ho pins s2 σ H2 x y v u _ I2 r1 r2 q2) λc s3 ⟨z,H3,I3,r3,k,e,q3⟩=>?_) hm
 subst e;cases r3;exact wpAny_truthy_bool ⟨H3,I3,q3⟩
theorem uj:(aA:Nat)<2 ^ 63:=by rw[sizeLine_eq];decide
theorem yg:j0 X (binaryOp .Add) (λx y H Q=>∃i j,x=.str i/\y=.str j/\i.length+j.length<=aA/\Q (.str (i++j)) H):=by
 intro pins s σ H x y v u Q I rx ry h;obtain⟨i,j,rfl,rfl,hz,q⟩:=h;obtain⟨t,rfl⟩:=rx;obtain⟨t',rfl⟩:=ry;exact add_str (λt' tk=>⟨.str (i++j),H,I.tok _,⟨_,rfl⟩,q⟩) hz
theorem vals1 (r:dW [x] us):∃u,us=[u]/\RelV x u:=by
 cases r with
 | cons r1 r2=>cases r2;exact⟨_,rfl,r1⟩
theorem vals2 (r:dW [x,y] us):∃u w',us=[u,w']/\RelV x u/\RelV y w':=by
 cases r with
 | cons r1 r2 =>
  cases r2 with
  | cons r3 r4=>cases r4;exact⟨_,_,rfl,r1,r3⟩
theorem CQ:fP X (.builtin "abs") (λxs H Q=>∃i,xs=[.int i]/\Q (.int (if i<0 then -i else i)) H):=by
 intro pins s σ H xs us Q I r h;obtain⟨i,rfl,q⟩:=h;obtain⟨u,rfl,t,rfl⟩:=vals1 r;exact call_abs_int λu tk=>⟨.int (if i<0 then -i else i),H,I.tok _,⟨_,rfl⟩,q⟩
theorem Bj (hc:X.calm=true):fP X (.builtin "max") (λxs H Q=>∃i j,xs=[.int i,.int j]/\Q (.int (if j > i then j else i)) H):=by
 intro pins s σ H xs us Q I r h;obtain⟨i,j,rfl,q⟩:=h;obtain⟨u,w',rfl,⟨t,rfl⟩,⟨t',rfl⟩⟩:=vals2 r;refine max_two_ints (I.ok.hd hc) λh' tk k=>⟨_,H,I.kept k,?_,q⟩;by_cases hj:j > i
 .rw[if_pos hj,if_pos hj];exact⟨_,rfl⟩
 .rw[if_neg hj,if_neg hj];exact⟨_,rfl⟩
theorem Bk (hc:X.calm=true):fP X (.builtin "min") (λxs H Q=>∃i j,xs=[.int i,.int j]/\Q (.int (if j<i then j else i)) H):=by
 intro pins s σ H xs us Q I r h;obtain⟨i,j,rfl,q⟩:=h;obtain⟨u,w',rfl,⟨t,rfl⟩,⟨t',rfl⟩⟩:=vals2 r;refine min_two_ints (I.ok.hd hc) λh' tk k=>⟨_,H,I.kept k,?_,q⟩;by_cases hj:j<i
 .rw[if_pos hj,if_pos hj];exact⟨_,rfl⟩
 .rw[if_neg hj,if_neg hj];exact⟨_,rfl⟩
theorem sQ:fP X (.type "int") (λxs H Q=>(∃i,xs=[.int i]/\Q (.int i) H)\/∃k,xs=[.bl k]/\Q (.int (if k then 1 else 0)) H):=by
 intro pins s σ H xs us Q I r h;rcases h with⟨i,rfl,q⟩ | ⟨k,rfl,q⟩
 .obtain⟨u,rfl,t,rfl⟩:=vals1 r
  exact call_int_int ⟨.int i,H,I,⟨_,rfl⟩,q⟩
 .obtain⟨u,rfl,r1⟩:=vals1 r
  cases r1;exact call_int_bool ⟨.int (if k then 1 else 0),H,I.tok _,⟨_,rfl⟩,q⟩
end
structure J' (h:Heap) (x dx C:Addr) (mA:Str->Option ah):Prop where
 obj:h.get? x=some (W.instObj C dx)
 ns:h.Ns1 dx mA
 ne:dx≠x
theorem Bl {h:Heap}{dx:Addr}{mA:Str->Option ah}(n:h.Ns1 dx mA):∃od,h.get? dx=some od/\∀name,W.lookIn name od=some (mA name):=by
 obtain⟨o,es,ep,ho,hd,hk,_,hm⟩:=n;refine⟨o,ho,λname=>?_⟩;have e:=hm name;unfold nsFind findBy at e;rw[<- Array.find?_toList] at e;unfold W.lookIn;rw[hd];dsimp only;split
 .rename_i y q
  rw[q] at e;exact congrArg some e
 .rename_i q
  rw[q] at e
  have a:es.toList.any (·.refKey)=false:=by
   rw[List.any_eq_false];intro y hy;obtain⟨z,t,Ka⟩:=hk y (Array.mem_toList_iff.mp hy);simp[DictEntry.refKey,Ka]
  have a':¬ es.toList.any (·.refKey)=true:=by rw[a];exact aR
  rw[if_neg a'];exact congrArg some e
theorem J'.look (I:J' h x dx C mA):∃od,W.InstAt h x (W.instObj C dx) C (some od)/\∀name,W.lookIn name od=some (mA name) :=
 let ⟨od,ho,hl⟩:=Bl I.ns
 ⟨od,⟨I.obj,rfl,rfl,ho⟩,hl⟩
theorem nu.some_of (r:nu (some v) o):∃u,o=some u/\RelV v u:=by
 cases o with
 | none=>exact (show False from r).elim
 | some u=>exact⟨u,rfl,r⟩
section
theorem Gb (eD:kO P w H h)(e:H a=some (.ins C dx fs)):∃mA,J' h a dx C mA/\(∀f,nu (fs.lookup f) (mA f))/\PySem.Within mA (fs.map (·.1))/\fs.length<=1000/\H dx=some (.own a):=by
 obtain⟨d,z,ne,ob,mA,n,r,q⟩:=(show fb P w H h a (.ins C dx fs) from eD a _ e);exact⟨mA,⟨ob,n,ne⟩,r,q,z,d⟩
end
structure QD (K:W.Frag) (C:Addr):Prop where
 pg:W.plainGet K C Str.empty=true
 hd:W.hasDictIn K C=true
 po:W.plainOver K C=true
 sa:W.findIn K (.ref C) "__setattr__" = some (some (.builtin "object.__setattr__"))
theorem QD.get {K:W.Frag}{C:Addr}(c:QD K C)(f:Str):W.plainGet K C f=true:=c.pg
section
inductive l7 (K:W.Frag) (H:Hp):V->ah->Prop where
 | f':l7 K H .f' (.type "NoneType")
 | bl (x:Bool):l7 K H (.bl x) (.type "bool")
 | int (i:Int):l7 K H (.int i) (.type "int")
 | str (x:Str):l7 K H (.str x) (.type "str")
 | Mq (x:UInt64):l7 K H (.Mq x) (.type "float")
 | lst {a:Addr} {xs:List V} (e:H a=some (.lst xs)):l7 K H (.ref a) (.type "list")
 | mH {a:Addr} {o:Obj} {xs:List V} (e:H a=some (.mH o (.lst xs))):l7 K H (.ref a) (.type "list")
 | tup {a:Addr} {xs:List V} (e:H a=some (.tup xs)):l7 K H (.ref a) (.type "tuple")
 | dK {a:Addr} {kvs:List (Key × V)} (e:H a=some (.dK kvs)):l7 K H (.ref a) (.type "dict")
 | dT {a:Addr} {kvs:List (List Key × V)} (e:H a=some (.dT kvs)):l7 K H (.ref a) (.type "dict")
 | ins {a C dx:Addr} {fs:List (Str × V)} (e:H a=some (.ins C dx fs)) (cl:QD K C) (ha:W.findIn K (.ref C) "__class__" = some (some (.builtin "object.__class__")))
   (hn:W.specialIn K (.builtin "object.__class__") "__get__" = some (some (.builtin "getset_descriptor.__get__"))) (S9:W.takesIn K (.builtin "object.__class__")=some true)
   (hm:W.mroIn K C (.type "object")=some true):l7 K H (.ref a) (.ref C)
theorem Bm {x:V}{u t:ah}(I:Inv X pins σ H s)(rx:RelV x u)(ty:l7 X.K H x t)(e:W.kitOne X.K t c=some b)(h:∀tk,Q (.bool b) { s with toks:=tk }) :
  aG (model X.prog X.w) A (call (.builtin "isinstance") [u,c]) Q E s:=by
 cases ty with
 | f'=>cases (show u=ah.none from rx);exact W.kia_one W.kitx_none I.vP True.intro e (λz=>nomatch z) h
 | bl y=>cases (show u=ah.bool y from rx);exact W.kia_one W.kitx_bool I.vP True.intro e (λz=>nomatch z) h
 | int i=>obtain⟨t,q⟩:=(show ∃t,u=ah.int i t from rx);cases q;exact W.kia_one W.kitx_int I.vP True.intro e (λz=>nomatch z) h
 | str y=>obtain⟨t,q⟩:=(show ∃t,u=ah.str y t from rx);cases q;exact W.kia_one W.kitx_str I.vP True.intro e (λz=>nomatch z) h
 | Mq y=>obtain⟨t,q⟩:=(show ∃t,u=ah.float y t from rx);cases q;exact W.kia_one W.kitx_float I.vP True.intro e (λz=>nomatch z) h
 | @lst a xs ea =>
  cases (show u=ah.ref a from rx);obtain⟨_,_,n,_,h1⟩:=(show fb X.prog X.w H s.heap a (.lst xs) from I.eD a _ ea);exact W.kia_one W.kitx_list I.vP ⟨_,h1,rfl⟩ e (λz=>nomatch z) h
 | @mH a ob xs ea =>
  cases (show u=ah.ref a from rx);obtain⟨_,_,_,n,_,h1⟩:=(show fb X.prog X.w H s.heap a (.mH ob (.lst xs)) from I.eD a _ ea);exact W.kia_one W.kitx_list I.vP ⟨_,h1,rfl⟩ e (λz=>nomatch z) h
 | @tup a xs ea =>
  cases (show u=ah.ref a from rx);obtain⟨_,_,_,p⟩:=(show fb X.prog X.w H s.heap a (.tup xs) from I.eD a _ ea);obtain⟨o,h1,h2,_⟩:=p;exact W.kia_one W.kitx_tuple I.vP ⟨o,h1,h2⟩ e (λz=>nomatch z) h
 | @dK a kvs ea =>
  cases (show u=ah.ref a from rx);obtain⟨_,_,vs,_,p⟩:=(show fb X.prog X.w H s.heap a (.dK kvs) from I.eD a _ ea);obtain⟨o,es,ep,h1,h2,_⟩:=p;exact W.kia_one W.kitx_dict I.vP ⟨o,h1,h2.1⟩ e (λz=>nomatch z) h
 | @dT a kvs ea =>
  cases (show u=ah.ref a from rx);obtain⟨_,_,xs,_,o,es,ep,h1,h2,_⟩:=(show fb X.prog X.w H s.heap a (.dT kvs) from I.eD a _ ea);exact W.kia_one W.kitx_dict I.vP ⟨o,h1,h2.1⟩ e (λz=>nomatch z) h
 | @ins a C dx fs ea cl ha hn S9 hm =>
  cases (show u=ah.ref a from rx);obtain⟨mA,O,_⟩:=Gb I.eD ea;obtain⟨od,J,_⟩:=O.look;exact W.kia_one (W.kitx_own (cl.get _) cl.hd ha hn S9 hm) I.vP J e (λz=>nomatch z) h
end
structure f6 (k:Nat) (A:Around):Prop where
 hd:A.handled=none
 dp:A.depth+3 * k+5<recursionLimit
 un:A.units+16 * k+200<cLine
 gd:A.guards=some []
theorem f6.mono (r:f6 k A)(h:j<=k):f6 j A:=⟨r.hd,by have:=r.dp;omega,by have:=r.un;omega,r.gd⟩
theorem f6.deeper (r:f6 (k+1) A)(env:Env):f6 k (A.deeper env) :=
 ⟨r.hd,by have:=r.dp;show A.depth+1+3 * k+5<_;omega,by have:=r.un;show A.units+3+16 * k+200<_;omega,r.gd⟩
theorem f6.depth (r:f6 k A):A.depth<recursionLimit:=by have:=r.dp;omega
theorem f6.units (r:f6 k A):A.units+64<cLine:=by have:=r.un;omega
noncomputable def Kb:TA:=λ_ H Q=>Q [] H
noncomputable def CS (ta:TE)(tr:TA):TA:=λσ H Q=>ta σ H λx H1=>tr σ H1 λxs H2=>Q (x::xs) H2
section
variable {X:Cx}{e:Expr}{es:List Expr}{te:TE}{t:TA}{pos:Pos}
theorem Kc:PA X [] Kb:=λ_ _ _ _ H Q I h=>Calls.spliced_nil ⟨[],H,I,.nil,h⟩
theorem Ge (ha:PE X e te)(hr:PA X es t)(hs:starEach (e::es) X.env=(false,eval e X.env)::starEach es X.env:=by rfl):PA X (e::es) (CS te t):=by
 intro pos pins s σ H Q I h;rw[hs];show aG _ _ (spliced ((false,eval e X.env)::backTo pos (starEach es X.env))) _ _ s;refine Calls.spliced_cons (fk (ha pins s σ H _ I h) λu s1 ⟨x,H1,I1,r1,q1⟩=>?_);exact fk (hr pos pins s1 σ H1 _ I1 q1) λus s2 ⟨xs,H2,I2,r2,q2⟩=>⟨x::xs,H2,I2,.cons r1 r2,q2⟩
noncomputable def Ng (t:TA):TE:=λσ H Q=>t σ H λxs H1=>xs.length<=aA/\∀p,H1 p=none->Q (.ref p) (eg H1 p (.tup xs))
noncomputable def Nh (t:TA):TE:=λσ H Q=>t σ H λxs H1=>xs.length<=aA/\∀p,H1 p=none->Q (.ref p) (eg H1 p (.lst xs))
theorem Kd {x1}(h:PA X es t):PE X (.Tuple es x1 pos) (Ng t):=by
 intro pins s σ H Q I hq;refine wpAny_Tuple_spliced (fk (h pos pins s σ H _ I hq) λus s1 ⟨xs,H1,I1,r,z,q⟩=>⟨by rw[<- r.length];exact z,?_⟩);have hf:H1 s1.heap.objs.size=none:=I1.eD.fresh (am _);refine⟨.ref s1.heap.objs.size,eg H1 s1.heap.objs.size (.tup xs),I1.laid (t':=s1.toks) (λb u e=>aj _ e) (am _) ?_,rfl,q _ hf⟩;exact⟨z,us,r,⟨_,aB _ rfl,rfl,_,rfl,rfl⟩⟩
theorem Ke (h:PA X es t):PE X (.List es pos) (Nh t):=by
 intro pins s σ H Q I hq;refine wpAny_List_spliced (fk (h pos pins s σ H _ I hq) λus s1 ⟨xs,H1,I1,r,z,q⟩=>⟨by rw[<- r.length];exact z,?_⟩);have hf:H1 s1.heap.objs.size=none:=I1.eD.fresh (am _);refine⟨.ref s1.heap.objs.size,eg H1 s1.heap.objs.size (.lst xs),I1.laid (t':=s1.toks) (λb u e=>aj _ e) (am _) ?_,rfl,q _ hf⟩;exact⟨z,us,0,r,aB _ rfl⟩
end
noncomputable abbrev Sp:=List V->Hp->VK->XK->Prop
noncomputable abbrev CT:=List Env->Hp->ax->XK->ah->ax->Prop
structure Gf (P:aV) (w:World) (K:W.Frag) (mg:Str->Option ah) (base:Heap) (A:Around) (outer:List Env) (s:ax) (H:Hp):Prop where
 frames:A.frames=some outer
 mod:Mod K mg base
 bs:∀b o,base.get? b=some o->s.heap.get? b=some o/\H b=none
 Jy:base.objs.size<=s.heap.objs.size
 qd:s.heap.FunFrames base outer
 Ms:∀b∈ya outer,H b=none
 eD:kO P w H s.heap
 bare:AllBare s.gens
noncomputable def CE (outer:List Env)(P:aV)(w:World)(H:Hp)(s:ax)(Q:VK)(u:ah)(s':ax):Prop :=
 ∃v H',s'.os=s.os/\AllBare s'.gens/\Un (ya outer) [] H H' s.heap s'.heap/\kO P w H' s'.heap/\RelV v u/\Q v H'
noncomputable def CR (CX:CT)(outer:List Env)(P:aV)(w:World)(H:Hp)(s:ax)(Q:VK)(E:XK)(r:Result)(s':ax):Prop :=
 match r with
 | .ok (.ret u)=>CE outer P w H s Q u s'
 | .ok _=>False
 | .error e=>CX outer H s E e s'
structure kI (P:aV) (w:World) (K:W.Frag) (mg:Str->Option ah) (base:Heap) (CX:CT) (k:Nat) (f:Addr) (fd:bT) (ps:List Str) (sp:Sp):Prop where
 len:∀vs H Q E,sp vs H Q E->vs.length=ps.length
 run:∀(A:Around) (outer:List Env) (s:ax) (H:Hp) (args:Args) (us:List ah) (vs:List V) (Q:VK) (E:XK),f6 k A->Gf P w K mg base A outer s H->BindsTo s fd args (ps.zip us)->dW vs us->sp vs H Q E ->
  codeAny (model P w) A (.call (.ref f) args) (CR CX outer P w H s Q E) s
theorem kI.mono {P:aV}{w:World}{K:W.Frag}{mg:Str->Option ah}{base:Heap}{CX:CT}{j k:Nat}{f:Addr}{fd:bT}{ps:List Str}{sp:Sp}(F:kI P w K mg base CX j f fd ps sp)(h:j<=k) :
  kI P w K mg base CX k f fd ps sp:=⟨F.len,λA outer s H args us vs Q E hr=>F.run A outer s H args us vs Q E (hr.mono h)⟩
theorem kI.imp {P:aV}{w:World}{K:W.Frag}{mg:Str->Option ah}{base:Heap}{CX:CT}{k:Nat}{f:Addr}{fd:bT}{ps:List Str}{sp Ni:Sp}(F:kI P w K mg base CX k f fd ps sp)
  (h:∀vs H Q E,Ni vs H Q E->sp vs H Q E):kI P w K mg base CX k f fd ps Ni :=
 ⟨λvs H Q E q=>F.len vs H Q E (h _ _ _ _ q),λA outer s H args us vs Q E hr he hb hv hs=>F.run A outer s H args us vs Q E hr he hb hv (h _ _ _ _ hs)⟩
section
theorem Inv.QF (I:Inv X pins σ H s):Gf X.prog X.w X.K X.mg X.base X.A X.stack s H :=
 ⟨I.ok.frames,I.ok.mod,I.bs,bu I.ok.Jy I.sz,I.stack,I.zP,I.eD,I.bare⟩
theorem Inv.after {Q:VK}{u:ah}(I:Inv X pins σ H s)(h:CE X.stack X.prog X.w H s Q u s'):EP X pins σ Q u s':=by
 obtain⟨v,H',os,bare,un,eD,r,q⟩:=h;obtain⟨hh,g,d,t,Uv⟩:=s';obtain rfl:Uv=s.os:=os;exact⟨v,H',I.call (h':=hh) (g':=g) (d':=d) (t':=t) (ch:=[]) un eD bare (λb z=>absurd z (!4)),r,q⟩
end
noncomputable def CU (sp:Sp)(Kf:List V)(E:XK)(t:TA):TE:=λσ H Q=>t σ H λvs H1=>sp (vs++Kf) H1 Q E
noncomputable def Binds (K:W.Frag)(fd:bT)(ps:List Str)(ds:List ah):Prop :=
 ∀(s:ax) (us:List ah),K.In s.heap->(us++ds).length=ps.length->BindsTo s fd ⟨us,[]⟩ (ps.zip (us++ds))
theorem Binds.all {K:W.Frag}{fd:bT}{ps:List Str}(h:∀us:List ah,us.length=ps.length->bindArgs fd ⟨us,[]⟩=pure (ps.zip us)):Binds K fd ps []:=λs us _ hl=>by
 rw[bR] at hl ⊢;exact .of_eq (h us hl)
noncomputable def yh (CX:CT)(X:Cx)(E:XK):Prop:=∀(pins:List (Addr × Obj)) (σ:St) (H:Hp) (s:ax) (e:ah) (s':ax),Inv X pins σ H s->CX X.stack H s E e s'->X.xe e s'
section
theorem Kg {pins:List (Addr × Obj)}{σ:St}{H:Hp}{s:ax}{Q:VK}{us:List ah}{vs:List V}(F:kI X.prog X.w X.K X.mg X.base CX k f fd ps sp)(hr:f6 k X.A)(hb:Binds X.K fd ps ds)(hd:dW Kf ds)(hx:yh CX X E)
  (I:Inv X pins σ H s) (r:dW vs us) (h:sp (vs++Kf) H Q E):aG (model X.prog X.w) X.A (call (.ref f) us) (EP X pins σ Q) X.xe s:=by
 have r2:dW (vs++Kf) (us++ds):=r.append hd;have hl:(us++ds).length=ps.length:=by rw[<- r2.length];exact F.len _ _ _ _ h
 refine wpAny_call (codeAny_mono (F.run X.A X.stack s H ⟨us,[]⟩ (us++ds) (vs++Kf) Q E hr I.QF (hb s us I.vP hl) r2 h) λr s' hq=>?_)
 cases r with
 | error e=>exact hx pins σ H s e s' I hq
 | ok fl =>
  cases fl with
  | ret u=>exact I.after hq
  | next=>exact False.elim hq
  | brk=>exact False.elim hq
  | cont=>exact False.elim hq
theorem Gg (F:kI X.prog X.w X.K X.mg X.base CX k f fd ps sp)(hr:f6 k X.A)(hg:Gl X x)(hm:X.mg x=some (.ref f))(hk:W.keepIn X.K (.ref f)=true)(hb:Binds X.K fd ps ds)(hd:dW Kf ds)(hx:yh CX X E)
  (ha:PA X (e::es) t) (oh:(x == ("__debug__" : Str))=false:=by decide) (he:starEach (e::es) X.env=(false,eval e X.env)::starEach es X.env:=by rfl) (lS:(backTo pos (starEach es X.env)).any (·.1)=false:=by rfl) :
  PE X (.Call (.Name x p) (e::es) [] pos) (CU sp Kf E t):=by
 intro pins s σ H Q I h;refine wpAny_Call_Name_kw (FR I hg hm ?_ oh);refine W.callWith_K (h₀:=X.base) I.ok.mod.Qt hk (fk (ha pos pins s σ H _ I h) λus s1 ⟨vs,H1,I1,r,q⟩=>⟨I1.vP,?_⟩) he lS;exact Kg F hr hb hd hx I1 r q
end
structure fg (N P:List Str) (sc:Scope):Prop where
 kind:sc.kind=.function
 co:sc.isCoroutine=false
 gen:sc.isGenerator=false
 nd:N.Nodup
 pre:N.take P.length=P
 par:∀x∈P,sc.names.lookup x=some .local\/sc.names.lookup x=some .cell
 Kh:∀y∈sc.names,y.2≠.free
theorem sR {kindOf:Str->Option aM}{x:Str}:∀{binds:List (Str × ah)} {m:Str->Option ah},(∀v,(x,v) ∉ binds)->bindL kindOf binds m x=m x
 | [],_,_=>rfl
 | (n,v)::r,m,h=>by
  unfold bindL;rw[sR λw hw=>h w (ai _ hw)];split
  .have:x≠n:=by rintro rfl;exact h v ar
   simp[this]
  .rfl
theorem sS {kindOf:Str->Option aM}{x:Str}:∀{binds:List (Str × ah)} {m:Str->Option ah},(∀v,(x,v) ∉ binds)->bindC kindOf binds m x=m x
 | [],_,_=>rfl
 | (n,v)::r,m,h=>by
  unfold bindC;rw[sS λw hw=>h w (ai _ hw)];split
  .rfl
  .have:x≠n:=by rintro rfl;exact h v ar
   simp[this]
theorem sT {kindOf:Str->Option aM}{x:Str}{v:ah}:∀{P:List Str} {vs:List ah} {i:Nat} {m:Str->Option ah},P.Nodup->P[i]? = some x->vs[i]? = some v->kindOf x=some .local ->
  bindL kindOf (P.zip vs) m x=some v
 | [],_,_,_,_,h,_,_=>by simp at h
 | _::_,[],_,_,_,_,h,_=>by simp at h
 | p::P,w::vs,0,m,nd,h1,h2,hk=>by
  simp at h1 h2;subst h1;subst h2;show bindL kindOf ((p,w)::P.zip vs) m p=_;unfold bindL;rw[sR λv hv=>(aZ.mp nd).1 (List.of_mem_zip hv).1,if_pos hk];simp
 | p::P,w::vs,i+1,m,nd,h1,h2,hk=>by
  show bindL kindOf ((p,w)::P.zip vs) m x=_;unfold bindL;exact sT (i:=i) (aZ.mp nd).2 (by simpa using h1) (by simpa using h2) hk
theorem sU {kindOf:Str->Option aM}{x:Str}{v:ah}:∀{P:List Str} {vs:List ah} {i:Nat} {m:Str->Option ah},P.Nodup->P[i]? = some x->vs[i]? = some v->kindOf x≠some .local ->
  bindC kindOf (P.zip vs) m x=some v
 | [],_,_,_,_,h,_,_=>by simp at h
 | _::_,[],_,_,_,_,h,_=>by simp at h
 | p::P,w::vs,0,m,nd,h1,h2,hk=>by
  simp at h1 h2;subst h1;subst h2;show bindC kindOf ((p,w)::P.zip vs) m p=_;unfold bindC;rw[sS λv hv=>(aZ.mp nd).1 (List.of_mem_zip hv).1,if_neg hk];simp
 | p::P,w::vs,i+1,m,nd,h1,h2,hk=>by
  show bindC kindOf ((p,w)::P.zip vs) m x=_;unfold bindC;exact sU (i:=i) (aZ.mp nd).2 (by simpa using h1) (by simpa using h2) hk
noncomputable def start (N:List Str)(vs:List V):St:=vs.map some++List.replicate (N.length - vs.length) none
noncomputable def mI (CX:CT)(P:aV)(w:World)(K:W.Frag)(mg:Str->Option ah)(base:Heap)(N:List Str)(fi:Str)(scope:Scope)(f:Addr)(cd:ah)(A:Around)(outer:List Env)(s:ax)(H:Hp)(E:XK):Cx where
 prog:=P
 w:=w
 K:=K
 mg:=mg
 base:=base
 A:=A.deeper (envOfC fi scope s.heap.objs.size f cd)
 N:=N
 s₀:=s
 H₀:=H
 env:=envOfC fi scope s.heap.objs.size f cd
 outer:=outer
 stack:=envOfC fi scope s.heap.objs.size f cd::outer
 ex:=[]
 calm:=true
 fn:=λ_=>true
 pn:=[]
 xe:=λe s'=>aG (model P w) (A.deeper (envOfC fi scope s.heap.objs.size f cd)) (leaving (envOfC fi scope s.heap.objs.size f cd) e) (λ_ PH=>CX outer H s E e PH) (λe' PH=>CX outer H s E e' PH) s'
theorem vW {sc:Scope}{n:Nat}{x:Str}(h:sc.names.lookup x=some .cell):∃c,(cellsFrom n sc.names []).lookup x=some c:=by
 have q:=W.cellsFrom_some sc.names n [] (.inl h);exact bO.mp q
theorem Bn {CX:CT}{P:aV}{w:World}{K:W.Frag}{mg:Str->Option ah}{base:Heap}{N ps:List Str}{fi:Str}{scope:Scope}{f:Addr}{cd:ah}{A:Around}{outer:List Env}{s s1:ax}{H:Hp}{E:XK}{us:List ah}{vs:List V}
  (S:fg N ps scope) (hd:A.handled=none) (e0:Gf P w K mg base A outer s H) (hl:vs.length=ps.length) (r:dW vs us)
  (x:InCallC s s.heap.objs.size (bindL (envOfC fi scope s.heap.objs.size f cd).kindOf (ps.zip us) λ_=>none) (cellsFrom (s.heap.objs.size+1) scope.names []) (bindC (envOfC fi scope s.heap.objs.size f cd).kindOf (ps.zip us) λ_=>none) s1) :
  Inv (mI CX P w K mg base N fi scope f cd A outer s H E) [] (start N vs) H s1:=by
 have lS:ps.length<=N.length:=by have:=congrArg List.length S.pre;rw[bW] at this;omega
 obtain⟨h1,tk,rfl,hk⟩:=x.done;have Nj:∀b:Addr,b ∉ (mI CX P w K mg base N fi scope f cd A outer s H E).ex:=λb z=>absurd (show b∈([]:List Addr) from z) (!4)
 refine⟨⟨e0.mod,S.kind,rfl,rfl,am _,λy z c h1 h2=>?_,λy hy=>?_,λy c _ h=>?_,λ_=>hd,Around.frames_deeper e0.frames,.inr ⟨rfl,rfl⟩,λb z=>absurd z (Nj b),e0.bs,e0.Jy,λb _ _=>Nj b,λb z=>absurd z (Nj b),e0.qd,e0.Ms⟩,
  rfl,e0.bare,Un.kept hk,⟨_,x.toInCall.ns,λi y v h1 h2 h3=>?_⟩,λy c h=>⟨_,x.cell y c h⟩,e0.eD.fresh (am _),λy c h=>?_,λp hp=>absurd (show p∈([]:List (Addr × Obj)) from hp) (!4),e0.eD.kept hk,?_⟩
 .exact name_of_addr x.apart (PySem.mem_of_lookup h1) (PySem.mem_of_lookup h2)
 .have hy:scope.names.lookup y=some .cell\/scope.names.lookup y=some .free:=hy
  rcases hy with hy | hy
  .exact vW hy
  .exact absurd rfl (S.Kh _ (PySem.mem_of_lookup hy))
 .exact dj (x.above y c (PySem.mem_of_lookup h))
 .have hi:i<vs.length:=by
   unfold start at h2;by_cases hi:i<vs.length
   .exact hi
   .rw[bG (by simpa using hi)] at h2
    rw[bX] at h2;split at h2<;>cases h2
  have ha:vs[i]? = some v:=by
   unfold start at h2;rw[bD (by simpa using hi),aE] at h2
   cases e:vs[i]? with
   | none=>rw[e] at h2;cases h2
   | some a=>rw[e] at h2;cases h2;rfl
  obtain⟨u,hu,rv⟩:=r.get ha
  have hp:ps[i]? = some y:=by
   rw[<- S.pre,List.getElem?_take_of_lt (!1)];exact h1
  have Ta:ps.Nodup:=by rw[<- S.pre];exact S.nd.sublist (List.take_sublist _ _)
  refine⟨u,rv,?_⟩;rcases S.par y (cp hp) with k | k
  .exact .inl ⟨k,sT Ta hp hu k⟩
  .obtain⟨c,e⟩:=vW (n:=s.heap.objs.size+1) k
   refine .inr ⟨.inl k,c,e,?_⟩;have q:=x.cell y c e;rw[sU Ta hp hu (by show scope.names.lookup y≠_;rw[k];decide)] at q;exact q
 .exact e0.eD.fresh (dj (x.above y c (PySem.mem_of_lookup h)))
 .unfold start
  show _=N.length;rw[aH,au,cR];omega
theorem Nk {CX:CT}{P:aV}{w:World}{K:W.Frag}{mg:Str->Option ah}{base:Heap}{k:Nat}{f:Addr}{name fi:Str}{params:Arguments}{body:List Stmt}{scope:Scope}{dV kV r6 pm fj ct oc:ah}{an od:Option Addr}
  {Ft:Array (Option ah)} {N ps:List Str} {sp:Sp} (lk:K.lookup f=some ⟨oc,od,.func (W.fnOf name fi params body scope dV kV r6 pm an fj ct),Ft⟩) (iU:W.codeIn K fj fi=true) (S:fg N ps scope)
  (len:∀vs H Q E,sp vs H Q E->vs.length=ps.length)
  (vX:∀(A:Around) (outer:List Env) (s:ax) (H:Hp) (vs:List V) (Q:VK) (E:XK),f6 k (A.deeper (envOfC fi scope s.heap.objs.size f fj))->sp vs H Q E ->
   ∃t,xX (mI CX P w K mg base N fi scope f fj A outer s H E) body t/\t { nx:=λ_ H'=>Q .f' H',rt:=Q } (start N vs) H) :
  kI P w K mg base CX (k+1) f (W.fnOf name fi params body scope dV kV r6 pm an fj ct) ps sp:=by
 refine⟨len,λA outer s H args us vs Q E hr e0 hb r Io=>?_⟩;have hl:=len _ _ _ _ Io;have KX:K.In s.heap:=e0.mod.Qt.keeps λb o e=>(e0.bs b o e).1;have Uw:s.heap.NoLimit:=e0.mod.nolimit.keeps λb o e=>(e0.bs b o e).1
 have Nl:∀y∈ps.zip us,scope.names.lookup y.1=some .local\/(scope.names.lookup y.1=some .cell/\((cellsFrom (s.heap.objs.size+1) scope.names []).lookup y.1).isSome=true):=λ⟨n,v⟩ hy=>by
  rcases S.par n (List.of_mem_zip hy).1 with q | q
  .exact .inl q
  .exact .inr ⟨q,W.cellsFrom_some _ _ _ (.inl q)⟩
 refine codeAny_call_function hr.depth (KX _ _ lk) rfl S.co S.gen rfl (W.codeRec_of KX iU) (hb _ _ _ _ ?_);refine wpAny_newFunctionEnv_cells S.kind Nl λenv he s1 x=>?_;subst he;refine⟨Uw.keeps x.toInCall.keep,codeAny_func ?_⟩;obtain⟨t,ht,hq⟩:=vX A outer s H vs Q E (hr.deeper _) Io;have I:Inv (mI CX P w K mg base N fi scope f fj A outer s H E) [] (start N vs) H s1:=Bn S hr.hd e0 hl r x;refine b8 (ht [] s1 (start N vs) H _ I hq) (λfl s' hs=>?_) λe s' hs=>hs
 have fin:∀{σ':St} {H':Hp} {v:V} {u:ah},Inv (mI CX P w K mg base N fi scope f fj A outer s H E) [] σ' H' s'->RelV v u->Q v H'->CE outer P w H s Q u s' :=
  λ{σ' H' v u} J rv q=>⟨v,H',J.os,J.bare,J.base,J.eD,rv,q⟩
 cases fl with
 | ret u =>
  obtain⟨v,σ',H',J,rv,q⟩:=hs;exact fin J rv q
 | next =>
  obtain⟨σ',H',J,q⟩:=hs;exact fin (v:=V.f') (u:=ah.none) J rfl q
 | brk =>
  obtain⟨_,_,_,q⟩:=hs;exact False.elim q
 | cont =>
  obtain⟨_,_,_,q⟩:=hs;exact False.elim q
section
variable {X:Cx}{x:Str}{p pos:Pos}{e:Expr}{es:List Expr}{t:TA}{id T:String}{r:List V->Hp->VK->Prop}
noncomputable def Nm (r:List V->Hp->VK->Prop)(t:TA):TE:=λσ H Q=>t σ H λvs H1=>r vs H1 Q
theorem CV (hc:fP X (.builtin id) r)(hg:Gl X x)(hm:X.mg x=none)(hv:bootBuiltins x=some (.builtin id))(ha:PA X (e::es) t)(hn:x ≠ "__name__" := by decide)(oh:(x == ("__debug__" : Str))=false:=by decide)
  (he:starEach (e::es) X.env=(false,eval e X.env)::starEach es X.env:=by rfl) (lS:(backTo pos (starEach es X.env)).any (·.1)=false:=by rfl):PE X (.Call (.Name x p) (e::es) [] pos) (Nm r t):=by
 intro pins s σ H Q I h;refine wpAny_Call_Name_kw (og I hg hm hv ?_ hn oh);exact PyProof.Rows.callWith_builtin1 (fk (ha pos pins s σ H _ I h) λus s1 ⟨vs,H1,I1,r1,q1⟩=>hc pins s1 σ H1 vs us Q I1 r1 q1) he lS
theorem Bo (hc:fP X (.type T) r)(hg:Gl X x)(hm:X.mg x=none)(hv:bootBuiltins x=some (.type T))(ha:PA X (e::es) t)(hn:x ≠ "__name__" := by decide)(oh:(x == ("__debug__" : Str))=false:=by decide)
  (he:starEach (e::es) X.env=(false,eval e X.env)::starEach es X.env:=by rfl) (lS:(backTo pos (starEach es X.env)).any (·.1)=false:=by rfl):PE X (.Call (.Name x p) (e::es) [] pos) (Nm r t):=by
 intro pins s σ H Q I h;refine wpAny_Call_Name_kw (og I hg hm hv ?_ hn oh);exact PyProof.Rows.callWith_type1 (fk (ha pos pins s σ H _ I h) λus s1 ⟨vs,H1,I1,r1,q1⟩=>hc pins s1 σ H1 vs us Q I1 r1 q1) he lS
end
end L2
namespace HT
open PySem PyProof.Rows
section
theorem Gh {t b:Addr}{vs ws:List ah}{Q:ah->ax->Prop}(ht:IsTup s.heap t vs.toArray)(hb:IsTup s.heap b ws.toArray)(hv:vs≠[])
  (h1:ws=[]->Q (.ref t) s) (h2:ws≠[]->Q (.ref s.heap.objs.size) { s with heap:=s.heap.push { cls:=.type "tuple",data:=.seq (vs++ws).toArray } })
  (hsz:vs.length+ws.length<=aA):aG (model prog w) A (binaryOp .Add (.ref t) (.ref b)) Q E s:=by
 obtain⟨⟨cls,dd,data,sl⟩,ho,hc,n,hd⟩:=id ht;obtain⟨⟨QH,PJ,data2,Ki⟩,Bp,Cn,n2,vY⟩:=id hb;simp only at hc hd Cn vY;subst hc hd Cn vY;have e:vs.toArray++ws.toArray=(vs++ws).toArray:=by simp
 by_cases hw:ws=[]
 .exact concat_meets ⟨_,ho,rfl⟩ ⟨_,Bp,rfl⟩ noFill_tuple_add seq_tuple_add PySem.F.slot_tuple_add PySem.F.entry_tuple_add (PySem.F.args_tuple_add_2 _ _)
   (tuple_addW1 t b vs.toArray ws.toArray n n2 dd PJ sl Ki (by simpa using hv) (by simp[hw])) ⟨ho,Bp,h1 hw⟩
 .refine concat_meets ⟨_,ho,rfl⟩ ⟨_,Bp,rfl⟩ noFill_tuple_add seq_tuple_add PySem.F.slot_tuple_add PySem.F.entry_tuple_add (PySem.F.args_tuple_add_2 _ _)
   (tuple_addW2 t b vs.toArray ws.toArray n n2 dd PJ sl Ki (by simpa using hv) (by simpa using hw) (by rw[aC,aC];exact hsz)) ⟨ho,Bp,?_⟩
  rw[e];exact h2 hw
noncomputable def gh (n d:Nat):Option Int->Nat
 | none=>d
 | some v=>if v<0 then (v+(n:Int)).toNat else min v.toNat n
theorem nv (n d:Nat):gh n d none=d:=rfl
theorem pP (n d k:Nat):gh n d (some (k:Int))=min k n:=by
 show (if (k:Int)<0 then ((k:Int)+(n:Int)).toNat else min (k:Int).toNat n)=min k n;rw[if_neg (!1),bU]
theorem Kj (n d:Nat)(hd:d<=n)(o:Option Int):gh n d o<=n:=by
 cases o with
 | none=>exact hd
 | some v =>
  show (if v<0 then (v+(n:Int)).toNat else min v.toNat n)<=n;by_cases hv:v<0
  .rw[if_pos hv];omega
  .rw[if_neg hv];exact Nat.min_le_right _ _
theorem zW (v:Int)(n d:Nat):(if v<0 then max (v+(n:Int)) 0 else min v (n:Int))=((gh n d (some v):Nat):Int):=by
 show (if v<0 then max (v+(n:Int)) 0 else min v (n:Int))=(((if v<0 then (v+(n:Int)).toNat else min v.toNat n):Nat):Int);by_cases hv:v<0
 .simp only[if_pos hv];omega
 .simp only[if_neg hv];omega
theorem yi (lo hi:Option Int)(n:Nat):Builtin.Slice.sliceAdjust lo hi 1 (n:Int)=(((gh n 0 lo:Nat):Int),((gh n n hi:Nat):Int)):=by
 have h1:¬ ((1:Int)<0):=by omega
 unfold Builtin.Slice.sliceAdjust;simp only[h1,if_false];refine Prod.ext ?_ ?_
 .cases lo with
  | none=>rfl
  | some v=>exact zW v n 0
 .cases hi with
  | none=>rfl
  | some v=>exact zW v n n
theorem yj (i j:Nat):Builtin.Slice.slicePlaces (i:Int) (j:Int) 1=j - i:=by
 unfold Builtin.Slice.slicePlaces;have h1:(1:Int) > 0:=by omega
 simp only[h1,if_true,Int.ediv_one];split<;>omega
theorem qj (p:IsPart v o)(h:Q o s):aG (model prog w) A (Builtin.Slice.slicePartIndex v) Q E s:=by
 cases p with
 | none=>exact slicePart_none h
 | int i t=>exact slicePart_int h
theorem jI {sl:Addr}{vl vu:ah}{lo hi:Option Int}{n:Nat}{Q:Int × Int × Nat->ax->Prop}(hs:s.heap.IsSliceOf sl vl vu .none)(pl:IsPart vl lo)(pu:IsPart vu hi)
  (h:Q (((gh n 0 lo:Nat):Int),1,gh n n hi - gh n 0 lo) s):aG (model prog w) A (Builtin.Slice.sliceApplied (.ref sl) (pure (n:Int))) Q E s:=by
 obtain⟨os,Kk,Fu,Nn⟩:=id hs;unfold Builtin.Slice.sliceApplied Builtin.Slice.sliceFields;refine ag (ag (wpAny_field Kk Nn (x:=vl) rfl (ag (wpAny_field Kk Nn (x:=vu) rfl (ag (wpAny_field Kk Nn (x:=.none) rfl (ap ?_)))))));refine ag (slicePart_none ?_);show aG _ _ (if ((1:Int) == 0)=true then _ else _) _ _ s;rw[if_neg (!2)];refine ag (qj pl (ag (qj pu (ag (ap ?_)))));show aG _ _ (match Builtin.Slice.sliceAdjust lo hi 1 (n:Int) with | (lo,hi)=>pure (lo,(1:Int),Builtin.Slice.slicePlaces lo hi 1)) _ _ s;rw[yi lo hi n];show aG _ _ (pure (((gh n 0 lo:Nat):Int),(1:Int),Builtin.Slice.slicePlaces ((gh n 0 lo:Nat):Int) ((gh n n hi:Nat):Int) 1)) _ _ s;rw[yj];exact ap h
theorem CW (xs:Array ah)(i k:Nat):((List.range k).filterMap λ(m:Nat)=>xs[((i:Int)+(m:Int) * 1).toNat]?).toArray=((xs.toList.drop i).take k).toArray:=by
 have e:(λ(m:Nat)=>xs[((i:Int)+(m:Int) * 1).toNat]?)=λm=>xs[i+m]? := by
  funext m;have:((i:Int)+(m:Int) * 1).toNat=i+m:=by omega
  rw[this]
 rw[e];have:=pick_run xs i k;rw[List.filterMap_map] at this;have e2:((λx=>xs[x]?) ∘ λx=>i+x)=λm=>xs[i+m]? := rfl;rw[e2] at this;rw[this]
theorem ny {t sl:Addr}{items:Array ah}{vl vu:ah}{lo hi:Option Int}{Q:ah->ax->Prop}(ht:IsTup s.heap t items)(hs:s.heap.IsSliceOf sl vl vu .none)(pl:IsPart vl lo)(pu:IsPart vu hi)
  (hw:¬ (gh items.size 0 lo=0/\gh items.size items.size hi=items.size))
  (h:Q (.ref s.heap.objs.size) { s with heap:=s.heap.push { cls:=.type "tuple",data:=.seq ((items.toList.drop (gh items.size 0 lo)).take (gh items.size items.size hi - gh items.size 0 lo)).toArray } })
  (hsz:items.size<=aA):aG (model prog w) A (getItem (.ref t) (.ref sl)) Q E s:=by
 have zX:sizeOk (.seq ((items.toList.drop (gh items.size 0 lo)).take (gh items.size items.size hi - gh items.size 0 lo)).toArray):=by
  show ((items.toList.drop (gh items.size 0 lo)).take (gh items.size items.size hi - gh items.size 0 lo)).toArray.size<=aA;rw[aC,bW,List.length_drop,bv];omega
 have hj:gh items.size items.size hi<=items.size:=Kj _ _ (am _) hi;obtain⟨os,Kk,Fu,Nn⟩:=id hs;have QJ:s.TypeIs (.ref sl) "slice" := ⟨os,Kk,Fu⟩;unfold getItem;try with_reducible refine wpAny_holding ?_
 first | refine ag (ap ?_) | skip
 refine ag (wpAny_sequenceKey ht.typeIs (!2) ?_)
 refine ag (wpAny_callSpecial?_slot (name:=Str.ofString "__getitem__") ht.typeIs PyProof.Rows.slot_tuple_getitem
  (wpAny_call_entry PyProof.Rows.slot_tuple_getitem ht.typeIs entry_tuple_getitem ?_ (args_tuple_getitem _ _)))
 show aG _ _ (Builtin.Tuple.tupleItemsOf (.ref t) >>= _) _ _ s;refine ag (tupleItemsOf_ ht ?_);refine ag (wpAny_typeOf QJ ?_);rw[if_pos (!2)];refine ag (jI hs pl pu ?_)
 have oV:¬ ((((gh items.size 0 lo:Nat):Int) == 0 && (1:Int) == 1 && (gh items.size items.size hi - gh items.size 0 lo) == items.size)=true):=by
  intro q;rw[bH,bH] at q;have q1:((gh items.size 0 lo:Nat):Int)=0:=eq_of_beq q.1.1;have q2:gh items.size items.size hi - gh items.size 0 lo=items.size:=eq_of_beq q.2;exact hw ⟨!1,!1⟩
 show aG _ _ (if (((gh items.size 0 lo:Nat):Int) == 0 && (1:Int) == 1 && (gh items.size items.size hi - gh items.size 0 lo) == items.size)=true then _ else _) _ _ s;rw[if_neg oV,CW]
 first
  | exact ag (m:=Builtin.Tuple.tupleExact _) (bh (ap ⟨_,rfl,ap h⟩) zX)
  | exact ag (m:=Builtin.Tuple.tupleExact _) (bh (ag (ap (ap ⟨_,rfl,ap h⟩))) zX)
  | exact ag (ag (m:=Builtin.Tuple.tupleExact _) (bh (ap (ap ⟨_,rfl,ap h⟩)) zX))
  | exact ag (ag (m:=Builtin.Tuple.tupleExact _) (bh (ap ⟨_,rfl,ap h⟩) zX))
end
end HT
namespace L2
open PySem PySem.Spec PyProof.Rows
noncomputable abbrev TO:=St->Hp->(Option Int->Hp->Prop)->Prop
noncomputable def PO (X:Cx)(e:Option Expr)(t:TO):Prop :=
 ∀(pins:List (Addr × Obj)) (s:ax) (σ:St) (H:Hp) (Q:Option Int->Hp->Prop),Inv X pins σ H s->t σ H Q ->
  aG (model X.prog X.w) X.A (evalPart e X.env) (λu s'=>∃o H',Inv X pins σ H' s'/\IsPart u o/\Q o H') X.xe s
noncomputable def zY:TO:=λ_ H Q=>Q none H
noncomputable def Ip (t:TE):TO:=λσ H Q=>t σ H λx H1=>∃i,x=.int i/\Q (some i) H1
section
variable {X:Cx}{e:Expr}{te:TE}{lo hi:Option Expr}{tl th:TO}{pos p2:Pos}
theorem Gi:PO X none zY:=by
 intro pins s σ H Q I h;rw[evalPart_none];exact ap ⟨none,H,I,.none,h⟩
theorem Gj (h:PE X e te):PO X (some e) (Ip te):=by
 intro pins s σ H Q I hw;rw[evalPart_some];refine fk (h pins s σ H _ I hw) λu s1 ⟨x,H1,I1,r1,q1⟩=>?_;obtain⟨i,rfl,q⟩:=q1;obtain⟨t,rfl⟩:=r1;exact⟨some i,H1,I1,.int i t,q⟩
noncomputable def Fv (X:Cx)(r:V->Option Int->Option Int->Hp->VK->Prop):Prop :=
 ∀(pins:List (Addr × Obj)) (s:ax) (σ:St) (H:Hp) (x:V) (v vl vu:ah) (lo hi:Option Int) (sl:Addr) (Q:VK),Inv X pins σ H s->RelV x v->s.heap.IsSliceOf sl vl vu .none->IsPart vl lo->IsPart vu hi->r x lo hi H Q ->
  ∃T id,typeLookup (.type T) "__getitem__" = pure (some (.builtin id))/\s.TypeIs v T/\aG (model X.prog X.w) X.A (getItem v (.ref sl)) (EP X pins σ Q) X.xe s
theorem Fv.or (h:Fv X r)(h':Fv X r'):Fv X (λx lo hi H Q=>r x lo hi H Q\/r' x lo hi H Q):=by
 intro pins s σ H x v vl vu lo hi sl Q I rx hs pl pu q;rcases q with q | q
 .exact h pins s σ H x v vl vu lo hi sl Q I rx hs pl pu q
 .exact h' pins s σ H x v vl vu lo hi sl Q I rx hs pl pu q
noncomputable def Tb (r:V->Option Int->Option Int->Hp->VK->Prop)(te:TE)(tl th:TO):TE:=λσ H Q=>te σ H λx H1=>tl σ H1 λl H2=>th σ H2 λu H3=>r x l u H3 Q
theorem CY {r:V->Option Int->Option Int->Hp->VK->Prop}(hr:Fv X r)(he:PE X e te)(hl:PO X lo tl)(hu:PO X hi th):PE X (.Subscript e (.Slice lo hi none p2) pos) (Tb r te tl th):=by
 intro pins s σ H Q I h;refine Subscript_ (fk (he pins s σ H _ I h) λv s1 ⟨x,H1,I1,r1,q1⟩=>?_);refine wpAny_Slice (fk (hl pins s1 σ H1 _ I1 q1) λvl s2 ⟨l,H2,I2,pl,q2⟩=>fk (hu pins s2 σ H2 _ I2 q2) λvu s3 ⟨u,H3,I3,pu,q3⟩=>?_);rw[evalPart_none];refine ap ?_;have I4:Inv X pins σ H3 { s3 with heap:=s3.heap.push { cls:=.type "slice",data:=.fields #[vl,vu,.none] } }:=I3.kept (t':=s3.toks) λb ob q=>aj _ q;obtain⟨T,id,hT,ht,hg⟩:=hr pins { s3 with heap:=s3.heap.push { cls:=.type "slice",data:=.fields #[vl,vu,.none] } } σ H3 x v vl vu l u s3.heap.objs.size Q I4 r1 (Heap.IsSliceOf.new ..) pl pu q3;show aG (model X.prog X.w) X.A (subscriptTail e (.Slice lo hi none p2) v (.ref s3.heap.objs.size)) (EP X pins σ Q) X.xe { s3 with heap:=s3.heap.push { cls:=.type "slice",data:=.fields #[vl,vu,.none] } };exact tail_any (ops:=[.ref s3.heap.objs.size,v]) ht hT hg (by with_unfolding_all rfl)
noncomputable def nz (xs:List V)(lo hi:Option Int):List V:=(xs.drop (HT.gh xs.length 0 lo)).take (HT.gh xs.length xs.length hi - HT.gh xs.length 0 lo)
theorem oW (xs:List V)(lo hi:Option Int):(nz xs lo hi).length<=xs.length:=by
 unfold nz;rw[bW,List.length_drop];omega
noncomputable def QL (K:W.Frag):V->Option Int->Option Int->Hp->VK->Prop:=λx lo hi H Q=>∃a xs,x=.ref a/\iz K H a xs /\
 ¬ (HT.gh xs.length 0 lo=0/\HT.gh xs.length xs.length hi=xs.length)/\∀p,H p=none->Q (.ref p) (eg H p (.tup (nz xs lo hi)))
theorem Kl:Fv X (QL X.K):=by
 intro pins s σ H x v vl vu lo hi sl Q I rx hs pl pu h;obtain⟨a,xs,rfl,hx,hw,q⟩:=h;cases rx;obtain⟨its,r,ht,hz⟩:=I.tuple hx;have hlen:its.toArray.size=xs.length:=by rw[aC];exact r.length.symm
 refine⟨"tuple",_,PyProof.Rows.slot_tuple_getitem.lookup,ht.typeIs,?_⟩;refine HT.ny ht hs pl pu (by rw[hlen];exact hw) ?_ (by rw[hlen];exact hz);rw[hlen];refine⟨.ref s.heap.objs.size,_,I.laid (t':=s.toks) (o:=.tup (nz xs lo hi)) (λb ob q=>aj _ q) (am _) ?_,rfl,q _ (I.eD.fresh (am _))⟩;exact⟨bu (oW xs lo hi) hz,_,(r.drop (HT.gh xs.length 0 lo)).take (HT.gh xs.length xs.length hi - HT.gh xs.length 0 lo),se.new _ _⟩
noncomputable def Np (K:W.Frag):R2:=λx y H Q=>∃a b xs ys,x=.ref a/\y=.ref b/\iz K H a xs/\iz K H b ys/\xs≠[]/\xs.length+ys.length<=aA /\
 (ys=[]->Q (.ref a) H)/\(ys≠[]->∀p,H p=none->Q (.ref p) (eg H p (.tup (xs++ys))))
theorem dW.nA (r:dW xs us):us=[]↔xs=[]:=by
 cases r with
 | nil=>simp
 | cons _ _=>simp
theorem Gk:j0 X (binaryOp .Add) (Np X.K):=by
 intro pins s σ H x y v u Q I rx ry h;obtain⟨a,b,xs,ys,rfl,rfl,ha,hb,hx,hz,q1,q2⟩:=h;cases rx;cases ry;obtain⟨its,r1,p1,_⟩:=I.tuple ha;obtain⟨l8,r2,p2,_⟩:=I.tuple hb;refine HT.Gh p1 p2 (λz=>hx (r1.nA.mp z)) (λz=>⟨.ref a,H,I,rfl,q1 (r2.nA.mp z)⟩) (λz=>?_) (by rw[<- r1.length,<- r2.length];exact hz);refine⟨.ref s.heap.objs.size,_,I.laid (t':=s.toks) (o:=.tup (xs++ys)) (λb ob q=>aj _ q) (am _) ?_,rfl,q2 (λw=>z (r2.nA.mpr w)) _ (I.eD.fresh (am _))⟩;exact⟨by rw[aH];exact hz,_,r1.append r2,se.new _ _⟩
end
noncomputable def Co (n:Nat)(i:Int):Option Nat:=if 0<=i then (if i<n then some i.toNat else none) else if -(n:Int)<=i then some (i+n).toNat else none
noncomputable def oX {α:Type}(xs:List α)(i:Int):Option α:=(Co xs.length i).bind λj=>xs[j]?
theorem zZ (h:Co n i=some j):seqIndex? i n=some j/\j<n/\-(n:Int)<=i/\i<n:=by
 unfold Co at h;by_cases h0:0<=i
 .rw[if_pos h0] at h
  by_cases h1:i<n
  .rw[if_pos h1] at h
   have e:i.toNat=j:=Option.some.inj h;exact⟨by rw[seqIndex_of h0 h1,e],!1,!1,h1⟩
  .rw[if_neg h1] at h;cases h
 .rw[if_neg h0] at h
  by_cases h1:-(n:Int)<=i
  .rw[if_pos h1] at h
   have e:(i+n).toNat=j:=Option.some.inj h;exact⟨by rw[seqIndex_neg (!1) h1,e],!1,h1,!1⟩
  .rw[if_neg h1] at h;cases h
theorem z5 {α:Type}{xs:List α}{i:Int}{v:α}(h:oX xs i=some v):∃j,seqIndex? i xs.length=some j/\xs[j]? = some v/\j<xs.length/\-(xs.length:Int)<=i/\i<xs.length:=by
 unfold oX at h
 cases e:Co xs.length i with
 | none=>rw[e] at h;cases h
 | some j =>
  rw[e] at h;obtain⟨h1,h2,h3,h4⟩:=zZ e;exact⟨j,h1,h,h2,h3,h4⟩
noncomputable def um (b:Expr):Prop:=∀o i,subscripted b false o i=operate [o,i] (getItem o i)
noncomputable def Fw (X:Cx)(r:R2):Prop :=
 ∀(value slice:Expr) (pins:List (Addr × Obj)) (s:ax) (σ:St) (H:Hp) (x y:V) (v u:ah) (Q:VK),Inv X pins σ H s->RelV x v->RelV y u->r x y H Q ->
  subscripted slice false v u=operate [v,u] (getItem v u)->aG (model X.prog X.w) X.A (subscriptTail value slice v u) (EP X pins σ Q) X.xe s
noncomputable def Gm (X:Cx)(id:String)(r:V->List V->Hp->VK->Prop):Prop :=
 ∀(pins:List (Addr × Obj)) (s:ax) (σ:St) (H:Hp) (x:V) (xs:List V) (v:ah) (us:List ah) (Q:VK),Inv X pins σ H s->RelV x v->dW xs us->r x xs H Q ->
  aG (model X.prog X.w) X.A (call (.builtin id) (v::us)) (EP X pins σ Q) X.xe s
section
variable {X:Cx}{a b:Expr}{ta tb:TE}{pos:Pos}
theorem Fw.or (h:Fw X r)(h':Fw X r'):Fw X (λx y H Q=>r x y H Q\/r' x y H Q):=by
 intro value slice pins s σ H x y v u Q I rx ry q hs;rcases q with q | q
 .exact h value slice pins s σ H x y v u Q I rx ry q hs
 .exact h' value slice pins s σ H x y v u Q I rx ry q hs
theorem Gm.or {id:String}{r r':V->List V->Hp->VK->Prop}(h:Gm X id r)(h':Gm X id r'):Gm X id (λx xs H Q=>r x xs H Q\/r' x xs H Q):=by
 intro pins s σ H x xs v us Q I rx rs q;rcases q with q | q
 .exact h pins s σ H x xs v us Q I rx rs q
 .exact h' pins s σ H x xs v us Q I rx rs q
theorem Nq {r:R2}(hr:Fw X r)(ha:PE X a ta)(hb:PE X b tb)(hs:um b):PE X (.Subscript a b pos) (F8 r ta tb):=by
 intro pins s σ H Q I h;exact Subscript_ (JU ha hb I h λv u s2 x y H2 I2 rx ry q=>hr a b pins s2 σ H2 x y v u Q I2 rx ry q (hs _ _))
noncomputable def Nr (K:W.Frag):R2:=λx y H Q=>∃p xs i v,x=.ref p/\y=.int i/\gc K H p xs/\oX xs i=some v/\Q v H
noncomputable def Nt (K:W.Frag):R2:=λx y H Q=>∃p xs i v,x=.ref p/\y=.int i/\iz K H p xs/\oX xs i=some v/\Q v H
theorem Gn:Fw X (Nr X.K):=by
 intro value slice pins s σ H x y v u Q I rx ry h hs;obtain⟨p,xs,i,z,rfl,rfl,hq,he,q⟩:=h;cases rx;obtain⟨t,rfl⟩:=ry;obtain⟨its,r,pl,hz⟩:=I.list hq;obtain⟨j,h1,h2,h3,h4,h5⟩:=z5 he;obtain⟨w,ew,kJ⟩:=r.get h2;have hl:=r.length;have hn:=uj;have fin:EP X pins σ Q w s:=⟨z,H,I,kJ,q⟩;by_cases h0:0<=i
 .have hj:i.toNat=j:=by
   rw[seqIndex_of h0 h5] at h1;exact Option.some.inj h1
  exact item_listR pl.isList h0 (!1) (by rw[hj];simpa using ew) fin hs
 .have hj:(i+(its.toArray.size:Int)).toNat=j:=by
   rw[seqIndex_neg (!1) h4] at h1;rw[aC,<- hl];exact Option.some.inj h1
  exact subscriptTail_builtinR (x:=w) pl.isList.typeIs slot_list_getitem.lookup
   (wpAny_getItem_list_neg (Q:=λr s'=>r=w/\EP X pins σ Q r s') pl.isList (!1) (by rw[aC]<;>omega) (!1) (by rw[hj];simpa using ew) ⟨rfl,fin⟩) hs
theorem Km:Fw X (Nt X.K):=by
 intro value slice pins s σ H x y v u Q I rx ry h hs;obtain⟨p,xs,i,z,rfl,rfl,hq,he,q⟩:=h;cases rx;obtain⟨t,rfl⟩:=ry;obtain⟨its,r,pl,hz⟩:=I.tuple hq;obtain⟨j,h1,h2,h3,h4,h5⟩:=z5 he;obtain⟨w,ew,kJ⟩:=r.get h2;have hl:=r.length;have hn:=uj;have fin:EP X pins σ Q w s:=⟨z,H,I,kJ,q⟩
 exact subscriptTail_builtinR (x:=w) pl.typeIs slot_tuple_getitem.lookup
  (getItem_tuple (j:=j) (Q:=λr s'=>r=w/\EP X pins σ Q r s') pl (!1) (!1) (by rw[aC,<- hl];exact h1) (by simpa using ew) ⟨rfl,fin⟩) hs
theorem yk (its:List ah)(n j:Nat)(u:ah):Obj.mapSeq (·.setIfInBounds j u) { cls:=.type "list",data:=.seq its.toArray n }={ cls:=.type "list",data:=.seq (its.set j u).toArray n }:=by
 simp[Obj.mapSeq]
theorem Inv.lst (I:Inv X pins σ H s)(h:H p=some (.lst xs)) :
  ∃(its:List ah) (n:Nat),dW xs its/\s.heap.get? p=some { cls:=.type "list",data:=.seq its.toArray n }/\xs.length<=aA:=by
 obtain⟨z,its,n,r,e⟩:=I.eD p _ h;exact⟨its,n,r,e,z⟩
theorem Inv.Kn {pins:List (Addr × Obj)}{σ:St}{H:Hp}{s:ax}{p:Addr}{xs ys:List V}{its its':List ah}{n n':Nat}{f:Obj->Obj}(I:Inv X pins σ H s)(h:H p=some (.lst xs))
  (ho:s.heap.get? p=some { cls:=.type "list",data:=.seq its.toArray n }) (hf:f { cls:=.type "list",data:=.seq its.toArray n }={ cls:=.type "list",data:=.seq its'.toArray n' }) (r:dW ys its') (hz:ys.length<=aA) (t:Nat) :
  Inv X pins σ (eg H p (.lst ys)) { s with heap:=s.heap.update p f,toks:=t }:=by
 have e:(s.heap.update p f).get? p=some { cls:=.type "list",data:=.seq its'.toArray n' }:=by
  rw[bj f ho (by rw[hf]<;>rfl),hf]
 refine I.write (x:=p) (e:=p) (by rw[h];trivial) (.inl rfl) (λb u hb q=>(aJ _ _ (Ne.symm hb)).trans q) ⟨_,e⟩ ?_;exact⟨hz,its',n',r,e⟩
noncomputable def Nu:V->V->V->Hp->(Hp->Prop)->Prop:=λo i v H Q=>∃p xs k j,o=.ref p/\i=.int k/\H p=some (.lst xs)/\Co xs.length k=some j/\Q (eg H p (.lst (xs.set j v)))
theorem nB:JK X Nu:=by
 intro pins s σ H o i v ov iv u Q I ro ri rv h;obtain⟨p,xs,k,j,rfl,rfl,hp,hj,q⟩:=h;cases ro;obtain⟨t,rfl⟩:=ri;obtain⟨its,n,r,ho,hz⟩:=I.lst hp;obtain⟨h1,h2,h3,h4⟩:=zZ hj;have hl:=r.length;have hn:=uj
 have I':Inv X pins σ (eg H p (.lst (xs.set j v))) { s with heap:=s.heap.update p (Obj.mapSeq (·.setIfInBounds j u)) } :=
  I.Kn hp ho (yk its n j u) (r.set rv j) (by rw[a6];exact hz) s.toks
 by_cases h0:0<=k
 .have hk:k.toNat=j:=by
   rw[seqIndex_of h0 h4] at h1;exact Option.some.inj h1
  exact W.ki_setAt ho h0 (!1) (by rw[aC,<- hl];exact h4) (by rw[hk];exact⟨_,I',q⟩)
 .have hk:(k+(its.toArray.size:Int)).toNat=j:=by
   rw[seqIndex_neg (!1) h3] at h1;rw[aC,<- hl];exact Option.some.inj h1
  exact W.ki_setBack ho (!1) (by rw[aC,<- hl];exact h3) (!1) (by rw[hk];exact⟨_,I',q⟩)
theorem uo (lo hi:Option Int)(n:Nat):(sliceBounds lo hi none n).1=((HT.gh n 0 lo:Nat):Int)/\(sliceBounds lo hi none n).2.1=((HT.gh n n hi:Nat):Int)/\(sliceBounds lo hi none n).2.2=1:=by
 refine⟨?_,?_,rfl⟩
 .cases lo with
  | none=>simp[sliceBounds,HT.gh]
  | some i =>
   simp only[sliceBounds,HT.gh,Option.getD_none,show (1:Int) > 0 by decide,if_true];by_cases h:i<0
   .simp only[h,if_true]<;>omega
   .simp only[h,if_false]<;>omega
 .cases hi with
  | none=>simp[sliceBounds,HT.gh]
  | some i =>
   simp only[sliceBounds,HT.gh,Option.getD_none,show (1:Int) > 0 by decide,if_true];by_cases h:i<0
   .simp only[h,if_true]<;>omega
   .simp only[h,if_false]<;>omega
theorem sg (its:List ah)(lo hi:Option Int):slicePick its.toArray lo hi none=((its.drop (HT.gh its.length 0 lo)).take (HT.gh its.length its.length hi - HT.gh its.length 0 lo)).toArray:=by
 obtain⟨h1,h2,h3⟩:=uo lo hi its.toArray.size;unfold slicePick;rw[h1,h2,h3];simp only[sliceRange_one,pick_run,aC]<;>rfl
noncomputable def Nv (K:W.Frag):V->Option Int->Option Int->Hp->VK->Prop:=λx lo hi H Q=>∃a xs,x=.ref a/\gc K H a xs/\∀p,H p=none->Q (.ref p) (eg H p (.lst (nz xs lo hi)))
theorem Gp:Fv X (Nv X.K):=by
 intro pins s σ H x v vl vu lo hi sl Q I rx hs pl pu h;obtain⟨a,xs,rfl,hx,q⟩:=h;cases rx;obtain⟨its,r,ht,hz⟩:=I.list hx;have hlen:=r.length;refine⟨"list",_,slot_list_getitem.lookup,ht.isList.typeIs,?_⟩;refine wpAny_getItem_list_slice ht.isList hs pl pu .none (!4) ?_ (by rw[aC]<;>omega);rw[sg,<- hlen];refine⟨.ref s.heap.objs.size,_,I.laid (t':=s.toks) (o:=.lst (nz xs lo hi)) (λb ob q=>aj _ q) (am _) ?_,rfl,q _ (I.eD.fresh (am _))⟩;exact⟨bu (oW xs lo hi) hz,_,0,(r.drop (HT.gh xs.length 0 lo)).take (HT.gh xs.length xs.length hi - HT.gh xs.length 0 lo),aB _ rfl⟩
theorem uq:fP X (.builtin "len") (λxs H Q=>∃p ys,xs=[.ref p]/\(gc X.K H p ys\/iz X.K H p ys)/\Q (.int ys.length) H):=by
 intro pins s σ H xs us Q I r h;obtain⟨p,ys,rfl,hq,q⟩:=h;obtain⟨u,rfl,rx⟩:=vals1 r;cases rx;have hn:=uj;rcases hq with hq | hq
 .obtain⟨its,r',pl,hz⟩:=I.list hq
  have hlen:=r'.length;exact Calls.call_len_list pl.isList (by simp only[aC]<;>omega) ⟨.int ys.length,H,I.tok _,⟨s.toks+1,by rw[aC,hlen]⟩,q⟩
 .obtain⟨its,r',pl,hz⟩:=I.tuple hq
  have hlen:=r'.length;exact len_tuple pl (by simp only[aC]<;>omega) ⟨.int ys.length,H,I.tok _,⟨s.toks+1,by rw[aC,hlen]⟩,q⟩
theorem uu:fP X (.type "list") (λxs H Q=>∃p ys,xs=[.ref p]/\(gc X.K H p ys\/iz X.K H p ys)/\∀l,H l=none->Q (.ref l) (eg H l (.lst ys))):=by
 intro pins s σ H xs us Q I r h;obtain⟨p,ys,rfl,hq,q⟩:=h;obtain⟨u,rfl,rx⟩:=vals1 r;cases rx
 have fin:∀(its:List ah),dW ys its->ys.length<=aA->∀(h':Heap) (c':Nat),(∀b o',s.heap.get? b=some o'->h'.get? b=some o') ->
   h'.get? s.heap.objs.size=some { cls:=.type "list",dict:=none,data:=.seq its.toArray c',slots:=#[] }->EP X pins σ Q (.ref s.heap.objs.size) { s with heap:=h' }:=λits r' hz h' c' kp e =>
  ⟨.ref s.heap.objs.size,_,I.laid (t':=s.toks) kp (am _) (show fb X.prog X.w _ h' _ (.lst ys) from ⟨hz,its,c',r',e⟩),rfl,q _ (I.eD.fresh (am _))⟩
 rcases hq with hq | hq
 .obtain⟨its,r',pl,hz⟩:=I.list hq
  have hlen:=r'.length;obtain⟨o,ho,hc,n,hd⟩:=pl.isList;exact call_list_seq p (.inl rfl) ho hc hd (λh' c' kp e=>fin its r' hz h' c' kp e) (by simp only[aC]<;>omega)
 .obtain⟨its,r',pl,hz⟩:=I.tuple hq
  have hlen:=r'.length;obtain⟨o,ho,hc,n,hd⟩:=pl;exact call_list_seq p (.inr rfl) ho hc hd (λh' c' kp e=>fin its r' hz h' c' kp e) (by simp only[aC]<;>omega)
theorem sh:fP X (.type "tuple") (λxs H Q=>∃p ys,xs=[.ref p]/\((gc X.K H p ys/\∀l,H l=none->Q (.ref l) (eg H l (.tup ys)))\/(iz X.K H p ys/\Q (.ref p) H))):=by
 intro pins s σ H xs us Q I r h;obtain⟨p,ys,rfl,h⟩:=h;obtain⟨u,rfl,rx⟩:=vals1 r;cases rx;rcases h with⟨hq,q⟩ | ⟨hq,q⟩
 .obtain⟨its,r',pl,hz⟩:=I.list hq
  have hlen:=r'.length;refine call_tuple_list pl.isList (λh' kp=>?_) (by simp only[aC]<;>omega);have I1:Inv X pins σ H { s with heap:=h' }:=I.kept (t':=s.toks) kp
  have I2:Inv X pins σ (eg H h'.objs.size (.tup ys)) { s with heap:=h'.push { cls:=.type "tuple",data:=.seq its.toArray } } :=
   I1.laid (t':=s.toks) (λb o e=>aj _ e) (am _) (show fb X.prog X.w _ _ _ (.tup ys) from ⟨hz,its,r',se.new _ _⟩)
  exact⟨.ref h'.objs.size,_,I2,rfl,q _ (I1.eD.fresh (am _))⟩
 .obtain⟨its,r',pl,hz⟩:=I.tuple hq
  exact call_tuple_same pl ⟨.ref p,H,I,rfl,q⟩
noncomputable def Tc (K:W.Frag)(T:String)(x:V)(H:Hp):Prop:=match x with
 | .str _=>T = "str"
 | .int _=>T = "int"
 | .ref p=>(T = "list" /\ ∃xs,gc K H p xs)\/(T = "tuple" /\ ∃o,K.lookup p=some o/\o.cls=.type "tuple" /\ o.dict=none) \/
   (T = "dict" /\ ((∃kvs,H p=some (.dK kvs))\/∃kvs,H p=some (.dT kvs)))\/(T = "set" /\ ∃S n,H p=some (.set S n))
 | _=>False
theorem Ko (I:Inv X pins σ H s)(r:RelV x v)(ty:Tc X.K T x H) :
  s.TypeIs v T/\∀a,v=.ref a->∃ob,s.heap.get? a=some ob/\ob.dict=none:=by
 cases x with
 | str z =>
  obtain⟨t,rfl⟩:=r;cases (show T = "str" from ty);exact⟨typeIs_str s z t,λ_ e=>nomatch e⟩
 | int i =>
  obtain⟨t,rfl⟩:=r;cases (show T = "int" from ty);exact⟨typeIs_int s i t,λ_ e=>nomatch e⟩
 | ref p =>
  cases r;rcases ty with⟨rfl,xs,hq⟩ | ⟨rfl,o,hk,hc,hd⟩ | ⟨rfl,hk⟩ | ⟨rfl,S,n,hk⟩
  .obtain⟨its,_,pl,_⟩:=I.list hq
   refine⟨pl.isList.typeIs,λa e=>?_⟩;cases e;obtain⟨o,n,e,c,hd,_⟩:=pl;exact⟨o,e,hd⟩
  .refine⟨⟨o,I.vP p o hk,hc⟩,λa e=>?_⟩
   cases e;exact⟨o,I.vP _ o hk,hd⟩
  .have z:∃o,s.heap.get? p=some o/\o.ExactDict:=by
    rcases hk with⟨kvs,hk⟩ | ⟨kvs,hk⟩
    .obtain⟨_,_,_,_,o,_,_,e,ex,_⟩:=I.eD p _ hk
     exact⟨o,e,ex⟩
    .obtain⟨_,_,_,_,o,_,_,e,ex,_⟩:=I.eD p _ hk
     exact⟨o,e,ex⟩
   obtain⟨o,e,ex⟩:=z;refine⟨⟨o,e,ex.1⟩,λa e2=>?_⟩;cases e2;exact⟨o,e,ex.2.1⟩
  .obtain⟨o,_,_,_,e,ex,_⟩:=I.eD p _ hk
   refine⟨⟨o,e,ex.1⟩,λa e2=>?_⟩;cases e2;exact⟨o,e,ex.2.1⟩
 | _=>exact False.elim ty
noncomputable def QM (K:W.Frag)(T:String)(r:V->List V->Hp->VK->Prop)(to:TE)(t:TA):TE:=λσ H Q=>to σ H λx H1=>Tc K T x H1/\t σ H1 λxs H2=>r x xs H2 Q
variable {o e:Expr}{es:List Expr}{to:TE}{t:TA}{name:Str}{j6 g8:Pos}{T id:String}{r:V->List V->Hp->VK->Prop}
theorem Nw (pa:PlainAttrs T)(slot:Slot T name id)(Kp:typeOf (.builtin id)=pure (.type "method_descriptor"))(hm:Gm X id r)(ho:PE X o to)(ha:PA X (e::es) t)
  (qk:attributeBase o name X.env (eval o X.env)=eval o X.env:=by rfl)
  (Kq:((backTo g8 (starEach (e::es) X.env)).all (λx=>!x.1) && (backToKw g8 (keywordEach [] X.env)).all (λx=>x.1.isSome)
   && decide ((e::es).length+([]:List Keyword).length+(if ([]:List Keyword).isEmpty then 0 else 1)<30))=true:=by rfl)
  (ql:(j6.endLine == g8.line)=true:=by rfl) (hs:starEach (e::es) X.env=(false,eval e X.env)::starEach es X.env:=by rfl) (ym:(backTo g8 (starEach es X.env)).any (·.1)=false:=by rfl) :
  PE X (.Call (.Attribute o name j6) (e::es) [] g8) (QM X.K T r to t):=by
 intro pins s σ H Q I h;refine wpAny_Call_method_late qk Kq ql rfl (fk (ho pins s σ H _ I h) λv s1 ⟨x,H1,I1,r1,ty,q1⟩=>?_);obtain⟨h1,h2⟩:=Ko I1 r1 ty;refine⟨T,id,pa,slot,Kp,h1,h2,?_⟩;have hA:=ha g8 pins s1 σ H1 _ I1 q1;rw[hs] at hA ⊢;refine Calls.callWith_builtin (by show (false || (backTo g8 (starEach es X.env)).any (·.1))=false;rw[ym]<;>rfl) (Calls.evalArgs_plain ?_);exact fk hA λus s2 ⟨vs,H2,I2,r2,q2⟩=>hm pins s2 σ H2 x vs v us Q I2 r1 r2 q2
end
noncomputable def QN (X:Cx)(id:String)(r:V->List V->Hp->VK->Prop):Prop :=
 ∀(pins:List (Addr × Obj)) (s:ax) (σ:St) (H:Hp) (x:V) (xs:List V) (v:ah) (us:List ah) (Q:VK),Inv X pins σ H s->RelV x v->dW xs us->r x xs H Q ->
  aG (model X.prog X.w) X.A (call (.builtin id) (v::us)) (EP X pins σ Q) X.xe s
theorem dW.one (h:dW [x] us):∃u,us=[u]/\RelV x u:=by
 cases h with
 | cons r t =>
  cases t;exact⟨_,rfl,r⟩
theorem dW.rep (h:dW xs us):∀k:Nat,dW (List.replicate k xs).flatten (List.replicate k us).flatten
 | 0=>.nil
 | k+1=>by
  rw[aN,aN,cF,cF];exact dW.append h (dW.rep h k)
theorem foldl_rep (its:List ah):∀(k:Nat) (acc:List ah),
  dk (λx1 x2=>x1++x2) acc.toArray (List.replicate k its.toArray)=(acc++(List.replicate k its).flatten).toArray
 | 0,acc=>by simp
 | k+1,acc=>by
  have e:acc.toArray++its.toArray=(acc++its).toArray:=by simp
  have e2:(acc++its)++(List.replicate k its).flatten=acc++(List.replicate (k+1) its).flatten:=by
   rw[aN,cF,aF]
  rw[<- e2,<- foldl_rep its k (acc++its),<- e,aN,cZ]
section
theorem Inv.Kr {its its':List ah}{n:Nat}{f:Array ah->Array ah}{t':Nat}(I:Inv X pins σ H s)(hH:H l=some (.lst xs))
  (e:s.heap.get? l=some { cls:=.type "list",data:=.seq its.toArray n }) (hf:f its.toArray=its'.toArray) (hv:dW ys its') (hz:ys.length<=aA) :
  Inv X pins σ (eg H l (.lst ys)) { s with heap:=s.heap.update l (Obj.mapSeq f),toks:=t' }:=by
 have q:=PySem.IsL.update e f;rw[hf] at q;refine I.write (x:=l) (e:=l) (by rw[hH];exact trivial) (.inl rfl) (λb' u hb hu=>(aJ s.heap (Obj.mapSeq f) (Ne.symm hb)).trans hu) ⟨_,q⟩ ?_;exact⟨hz,its',_,hv,q⟩
theorem Inv.Nx (I:Inv X pins σ H s)(hv:dW ys its)(hz:ys.length<=aA) :
  Inv X pins σ (eg H s.heap.objs.size (.lst ys)) { s with heap:=s.heap.push { cls:=.type "list",data:=.seq its.toArray },toks:=t' } :=
 I.laid (λ_ _ q=>aj _ q) (am _) ⟨hz,its,0,hv,aB _ rfl⟩
theorem Inv.fresh (I:Inv X pins σ H s):H s.heap.objs.size=none:=I.eD.fresh (am _)
theorem Inv.yn (I:Inv X pins σ H s)(hH:H l=some (.lst xs)):xs.length<=aA/\∃(its:List ah) (n:Nat),dW xs its/\xs.length=its.length/\s.heap.get? l=some { cls:=.type "list",data:=.seq its.toArray n }:=by
 obtain⟨z,its,n,r,e⟩:=I.eD l _ hH;exact⟨z,its,n,r,r.length,e⟩
theorem qm (h:n<=aA):Builtin.List.listTooLong n=false:=by
 unfold Builtin.List.listTooLong;exact decide_eq_false (!1)
end
section
variable {X:Cx}
noncomputable def Gr:V->List V->Hp->VK->Prop:=λx vs H Q=>∃l xs y,x=.ref l/\vs=[y]/\H l=some (.lst xs)/\xs.length<aA/\Q .f' (eg H l (.lst (xs++[y])))
theorem Bq:QN X "list.append" Gr:=by
 intro pins s σ H x vs v us Q I rx rv h;obtain⟨l,xs,y,rfl,rfl,hH,hz,q⟩:=h;cases rx;obtain⟨u,rfl,ru⟩:=rv.one;obtain⟨z,its,n,r,hl,e⟩:=I.yn hH;refine call_meets F.slot_list_append ⟨_,e,rfl⟩ F.entry_list_append (F.args_list_append_2 _ _) (PySem.list_append l its.toArray n u (by rw[aC];omega)) ⟨e,?_⟩;refine⟨.f',_,I.Kr (its':=its++[u]) hH e (!4) (r.append (.cons ru .nil)) ?_,rfl,q⟩;rw[aH,bB];omega
noncomputable def Gs:V->List V->Hp->VK->Prop:=λx vs H Q=>∃l b xs zs,x=.ref l/\vs=[.ref b]/\H l=some (.lst xs)/\H b=some (.lst zs)/\xs.length+zs.length<=aA/\Q .f' (eg H l (.lst (xs++zs)))
theorem Br:QN X "list.extend" Gs:=by
 intro pins s σ H x vs v us Q I rx rv h;obtain⟨l,b,xs,zs,rfl,rfl,hH,hB,hz,q⟩:=h;cases rx;obtain⟨u,rfl,ru⟩:=rv.one;cases ru;obtain⟨z,its,n,r,hl,e⟩:=I.yn hH;obtain⟨z2,l8,n2,r2,vZ,e2⟩:=I.yn hB;have hsz:its.toArray.size+l8.toArray.size<=aA:=by rw[aC,aC];omega
 have v3:¬ (!its.toArray.isEmpty && Builtin.List.listTooLong (its.toArray.size+l8.toArray.size))=true:=by
  rw[qm hsz,Bool.and_false];exact aR
 refine call_meets F.slot_list_extend ⟨_,e,rfl⟩ F.entry_list_extend (F.args_list_extend_2 _ _)
  (AutoSeq1.list_extend_list_list_0 l its.toArray n b l8.toArray n2 v3 (by rw[aC];omega) (!1)) ⟨e,e2,?_⟩
 refine⟨.f',_,I.Kr (its':=its++l8) hH e (!4) (r.append r2) ?_,rfl,q⟩;rw[aH];omega
noncomputable def QP:R2:=λx y H Q=>∃l b xs zs,x=.ref l/\y=.ref b/\H l=some (.lst xs)/\H b=some (.lst zs)/\xs.length+zs.length<=aA/\∀p,H p=none->Q (.ref p) (eg H p (.lst (xs++zs)))
theorem CZ:j0 X (binaryOp .Add) QP:=by
 intro pins s σ H x y v u Q I rx ry h;obtain⟨l,b,xs,zs,rfl,rfl,hH,hB,hz,q⟩:=h;cases rx;cases ry;obtain⟨z,its,n,r,hl,e⟩:=I.yn hH;obtain⟨z2,l8,n2,r2,vZ,e2⟩:=I.yn hB;refine PySem.P.add_list e e2 ?_ (by rw[aC,aC];omega);have ea:its.toArray++l8.toArray=(its++l8).toArray:=by simp
 rw[ea];exact⟨.ref _,_,I.Nx (t':=s.toks) (r.append r2) (by rw[aH];omega),rfl,q _ I.fresh⟩
noncomputable def QQ:R2:=λx y H Q=>∃l k xs,x=.ref l/\y=.int k/\H l=some (.lst xs)/\-(2 ^ 63)<=k/\k<2 ^ 63/\xs.length * k.toNat<=aA /\
 ∀p,H p=none->Q (.ref p) (eg H p (.lst (List.replicate k.toNat xs).flatten))
theorem uw {α:Type}(xs:List α)(k:Nat):(List.replicate k xs).flatten.length=k * xs.length:=by
 induction k with
 | zero=>simp
 | succ k ih=>rw[aN,cF,aH,ih,Nat.succ_mul,Nat.add_comm]
theorem yo:j0 X (binaryOp .Mult) QQ:=by
 intro pins s σ H x y v u Q I rx ry h;obtain⟨l,k,xs,rfl,rfl,hH,h1,h2,hz,q⟩:=h;cases rx;obtain⟨t,rfl⟩:=ry;obtain⟨z,its,n,r,hl,e⟩:=I.yn hH;have hlen:its.toArray.size * k.toNat<=aA:=by rw[aC,<- hl];exact hz
 have QR:¬ its.toArray.size * k.toNat > (2 ^ 63 - 1) / 8:=by
  have:(aA:Nat)<=(2 ^ 63 - 1) / 8:=by decide
  omega
 have QU:¬ (!Builtin.List.listFitsIndex k)=true:=by
  rw[fitsIndex_both h1 h2];exact aR
 have v3:¬ Builtin.List.listTooLong (its.toArray.size * k.toNat)=true:=by
  rw[qm hlen];exact aR
 have C0:dk (λx1 x2=>x1++x2) #[] (List.replicate (if its.toArray.isEmpty=true then 0 else k.toNat) its.toArray)=(List.replicate k.toNat its).flatten.toArray:=by
  have f0:∀m:Nat,dk (λx1 x2=>x1++x2) #[] (List.replicate m its.toArray)=(List.replicate m its).flatten.toArray:=λm=>by
   have:=foldl_rep its m [];rw[aW] at this;exact this
  rw[f0]
  cases its with
  | nil=>simp
  | cons a r'=>rw[if_neg (!4)]
 refine wpAny_binaryOp_repeat_ref (T := "list") (U := "int") (!2) ⟨_,e,rfl⟩ (λs'=>typeIs_int s' k t) noFill_list_mul F.fills_int_mul F.slot_int_rmul repeat_list F.slot_int_index.lookup
  (call_meets F.slot_int_rmul (typeIs_int s k t) F.entry_int_rmul (F.args_int_rmul_2 _ _) (int___rmul___int_list k t l its.toArray n)
   ⟨e,rfl,⟨_,e,rfl⟩,call_meets F.slot_list_mul ⟨_,e,rfl⟩ F.entry_list_mul (F.args_list_mul_2 _ _) (AutoListH.list___mul___list_int_3 l its.toArray n k t QU QR v3) ⟨e,?_⟩⟩)
 rw[C0];exact⟨.ref _,_,I.Nx (t':=s.toks) (r.rep k.toNat) (by rw[uw,Nat.mul_comm];exact hz),rfl,q _ I.fresh⟩
end
end L2
namespace Att
open PySem PySem.W PySem.Calls PyProof.Rows
theorem pz:∀(ns:List Int) (vs:List ah),WellAll P h vs (ns.map WData.int)->IntsAre vs ns:=by
 intro ns
 induction ns with
 | nil =>
  intro vs w;rw[bw] at w;cases w;exact .nil
 | cons n ns ih =>
  intro vs w;rw[ak] at w
  cases w with
  | cons a b =>
   cases a;exact .cons _ _ (ih _ b)
theorem Bs {l:OpenLaw}{n:Nat}(hn:l.most=some n){P:Params}{h:Heap}{args:List WData}{Ks:List ah}
  (Bt:l.row.toRowW.claim.pre args=true) (QV:WellAll P h Ks args) :
  ∃a vs ns,Ks=[ah.ref a]/\args=[WData.list (ns.map WData.int)]/\h.get? a=some { cls:=.type "list",data:=.seq vs.toArray }/\IntsAre vs ns/\ns.length<=n:=by
 have Ux:WShape.hasAll [] args [.list .int]=true:=(pre_splitW Bt).1;have hc:l.pre.holds [] { args:=args }=true:=(pre_splitW Bt).2;obtain⟨d,r,rfl,h1,h2⟩:=hasAllW_cons Ux;obtain rfl:=hasAllW_nil h2;obtain⟨xs,rfl,h3⟩:=hasW_list h1;obtain⟨ns,rfl⟩:=items_int h3
 have hlen:ns.length<=n:=by
  unfold OpenLaw.pre at hc
  have h4:(WTm.not (.lt (.lit (.int (n:Int))) (.len (.arg 0)))).holds [] { args:=[.list (ns.map .int)] }=true:=by
   have h4:=(holds_andW hc).1;rw[hn] at h4;exact h4
  have h5:=condW_of h4 (w_not (w_lt w_lit (w_len_list (w_arg rfl))));rw[au] at h5;refine Nat.le_of_not_lt λq=>?_;have q':(n:Int)<((ns.length:Nat):Int):=by omega
  first
   | (rw[decide_eq_true q'] at h5;exact absurd h5 (!2))
   | (simp at h5;omega)
 cases QV with
 | cons w1 w2 =>
  cases w2
  cases w1 with
  | list ho mJ=>exact⟨_,_,ns,rfl,rfl,ho,pz ns _ mJ,hlen⟩
theorem Bu (l:OpenLaw)(args:List WData):l.row.toRowW.claim.post args (.bool true) args=true :=
 postW_of (r:=l.row.toRowW) (X:=(true == true))
  (show WShape.has [] (.bool true) .bool=true by first | rfl | decide | simp[WShape.has,WShape.arms,WShape.armsAll])
  (show (WTm.eq .res (.lit (.bool true))).value [] { args:=args,res:=some (.bool true),after:=args }=some (.bool (true == true)) from w_eq_bool (w_res rfl) w_lit) rfl
theorem v5 {l:OpenLaw}{n:Nat}{q:aV}{loose:List Str}{XP:(Str->Option ah)->Heap->Prop}{YP:World->Heap->Prop}{d:DefRec}
  (hn:l.most=some n) (Ny:d.params.defaults=[])
  (call:∀(w:World) (s₀ s₁:ax) (mg mb:Str->Option ah) (fa:Addr) (o:Obj) (pm cd r6:ah) (a:Addr) (vs:List ah) (ns:List Int),
   Ground q loose [] XP w s₀ mg mb s₁.heap->YP w s₁.heap ->
   s₁.heap.get? fa=some o->o.data=.func (docDef d.name d.params d.body d.scope pm cd r6)->s₁.heap.CodeRec cd d.name->mg d.name=some (.ref fa) ->
   s₁.heap.get? a=some { cls:=.type "list",data:=.seq vs.toArray }->IntsAre vs ns->ns.length<=n->s₁.gens=#[] ->
   codeAny (model l.prog w) callerA (.call (.ref fa) ⟨[.ref a],[]⟩) (λr s'=>r=.ok (.ret (.bool true))/\OldK s₁.heap s'.heap/\s'.os=s₁.os/\AllBare s'.gens) s₁) :
  WalkO q loose XP YP l.row.toRowW d [] (λf vs=>PySem.call f vs):=by
 intro w s₀ s₁ mg mb G Y fa o pm cd r6 dV kV ho hd iU hD Nz hg args Ks as Bt Uy WD QV NA;obtain rfl:dV=.none:=Dflts.none hD Ny;obtain rfl:kV=.none:=Dflts.noKw hD;obtain⟨a,vs,ns,rfl,rfl,Kt,C1,hlen⟩:=Bs hn Bt QV;refine enter_call (codeAny_mono (call w s₀ s₁ mg mb fa o pm cd r6 a vs ns G Y ho (fd_plain hd) iU Nz Kt C1 hlen hg) λr s' hq=>?_);obtain⟨rfl,h2,h3,h4⟩:=hq;exact⟨.inl ⟨.bool true,.bool true,[],rfl,λ_=>rfl,.bool true,Bu l _,λ_=>⟨List.Pairwise.nil,λ_ hm=>(nomatch hm)⟩⟩,h2,h3,h4⟩
end Att
namespace L2
open PySem PySem.Spec PyProof.Rows
theorem sV:∀{vs:List ah} {ns:List Int},IntsAre vs ns->dW (ns.map V.int) vs
 | _,_,.nil=>.nil
 | _,_,.cons n t h=>.cons ⟨t,rfl⟩ (sV h)
noncomputable def Ku (H:Hp):Prop:=∀b,H b=none\/∃o xs,H b=some (.mH o (.lst xs))
theorem C2 {P:aV}{w:World}{K:W.Frag}{mg mb:Str->Option ah}{CX:CT}{k:Nat}{fa a:Addr}{fd:bT}{x:Str}{sp:Sp}{s₁:ax}{vs:List ah}{ns:List Int}
  (KX:K.In s₁.heap) (Td:s₁.heap.Ns bq mg) (hb:s₁.heap.Ns builtinsNs mb) (Uz:∀x:Str,x ≠ "__name__" -> mb x=bootBuiltins x) (QX:s₁.heap.NoLimit) (hg:s₁.gens=#[])
  (ha:s₁.heap.get? a=some { cls:=.type "list",data:=.seq vs.toArray }) (hi:IntsAre vs ns) (hl:ns.length<=aA) (hr:f6 k callerA)
  (F:∀base:Heap,K.In base->base.Ns bq mg->kI P w K mg base CX k fa fd [x] sp) (NB:∀(s:ax) (u:ah),BindsTo s fd ⟨[u],[]⟩ [(x,u)])
  (Io:∀H:Hp,Ku H->gc K H a (ns.map V.int)->sp [.ref a] H (λv _=>v=.bl true) λ_ _ _=>False)
  (QY:∀H e s',CX [] H s₁ (λ_ _ _=>False) e s'->False) :
  codeAny (model P w) callerA (.call (.ref fa) ⟨[.ref a],[]⟩) (λr s'=>r=.ok (.ret (.bool true))/\OldK s₁.heap s'.heap/\s'.os=s₁.os/\AllBare s'.gens) s₁:=by
 have rv:=sV hi;have QZ:=hi.length
 have NC:∀H:Hp,Ku H->gc K H a (ns.map V.int)->kO P w H s₁.heap->(∀b,H b≠none->b=a)->(H a≠none->K.lookup a=none) ->
   codeAny (model P w) callerA (.call (.ref fa) ⟨[.ref a],[]⟩) (λr s'=>r=.ok (.ret (.bool true))/\OldK s₁.heap s'.heap/\s'.os=s₁.os/\AllBare s'.gens) s₁:=by
  intro H hO hS eD hA hK;have z6:∀{b:Addr} {o:Obj},s₁.heap.get? b=some o->H b=none->(uf s₁.heap H).get? b=some o:=λe n=>Cy e n
  have Nj:∀{b:Addr} {o:Obj} {es:Array DictEntry} {ep:Nat},s₁.heap.get? b=some o->o.data=.dict es ep->H b=none:=λ{b o es ep} e d=>by
   cases q:H b with
   | none=>rfl
   | some u =>
    have e':b=a:=hA b (by rw[q];simp);subst e';rw[ha] at e;cases e;have d':Data.seq vs.toArray _=Data.dict es ep:=d;cases d'
  have PK:∀{b:Addr} {m:Str->Option ah},s₁.heap.Ns b m->(uf s₁.heap H).Ns b m:=λ{b m} ⟨o,es,ep,e,d,r⟩=>⟨o,es,ep,z6 e (Nj e d),d,r⟩
  have Te:K.In (uf s₁.heap H):=λb o e=>z6 (KX b o e) (by
   cases q:H b with
   | none=>rfl
   | some u =>
    have e':b=a:=hA b (by rw[q];simp);subst e';rw[hK (by rw[q];simp)] at e;cases e)
  have hM:Mod K mg (uf s₁.heap H):=⟨Te,PK Td,⟨mb,PK hb,Uz⟩,let ⟨mc,h1,h2⟩:=QX;⟨mc,PK h1,h2⟩⟩;have e0:Gf P w K mg (uf s₁.heap H) callerA [] s₁ H:=⟨rfl,hM,λb o e=>FK e,Nat.le_of_eq (Be _ _),trivial,λb hb=>absurd (show b∈([]:List Addr) from hb) (!4),eD,.of_eq hg⟩;refine codeAny_mono ((F _ Te (PK Td)).run callerA [] s₁ H ⟨[.ref a],[]⟩ [.ref a] [.ref a] _ _ hr e0 (NB s₁ (.ref a)) (.cons rfl .nil) (Io H hO hS)) λr s' h=>?_
  cases r with
  | error e=>exact (QY H e s' h).elim
  | ok fl =>
   cases fl with
   | next=>exact False.elim h
   | brk=>exact False.elim h
   | cont=>exact False.elim h
   | ret u =>
    obtain⟨v,H',os,bare,un,Q0,r',q⟩:=h;have q':v=.bl true:=q;subst q';obtain rfl:u=ah.bool true:=r';refine⟨rfl,OldK.of_keep λb o e=>?_,os,bare⟩
    cases q:H b with
    | none=>exact un.keep b o e q (by intro z;exact absurd (show b∈([]:List Addr) from z) (!4)) (!4)
    | some u =>
     rcases hO b with z | ⟨ob,xs,z⟩
     .rw[q] at z;cases z
     .have z2:=un.t9 b ob _ z
      obtain⟨e1,_⟩:=eD b _ z;obtain⟨e2,_⟩:=Q0 b _ z2;rw[e] at e1;cases e1;exact e2
 cases hk:K.lookup a with
 | some o =>
  have e:=KX a o hk;rw[ha] at e;cases e;refine NC (λ_=>none) (λ_=>.inl rfl) (.inr ⟨_,vs.toArray,_,hk,rfl,rfl,rfl,by rw[aC,QZ];exact hl,by simpa using rv⟩) (λb u z=>by have z':(none:Option HO)=some u:=z;cases z') (λb z=>absurd rfl z) λz=>absurd rfl z
 | none =>
  refine NC (λb=>if b=a then some (.mH { cls:=.type "list",data:=.seq vs.toArray } (.lst (ns.map V.int))) else none) (λb=>?_) (.inl (.inr ⟨{ cls:=.type "list",data:=.seq vs.toArray },if_pos rfl⟩)) (λb u z=>?_) (λb z=>?_) λ_=>hk
  .by_cases hb:b=a
   .exact .inr ⟨_,_,if_pos hb⟩
   .exact .inl (if_neg hb)
  .by_cases hb:b=a
   .have z':=(if_pos hb).symm.trans z
    cases z';subst hb;exact⟨ha,by rw[au];exact hl,vs,_,rv,ha⟩
   .have z':=(if_neg hb).symm.trans z
    cases z'
  .by_cases hb:b=a
   .exact hb
   .exact absurd (if_neg hb) z
noncomputable abbrev WE {K:W.Frag}{h:Heap}(_:K.In h):W.Frag:=K
theorem Gu {l:W.OpenLaw}{n k:Nat}{q:aV}{loose:List Str}{XP:(Str->Option ah)->Heap->Prop}{YP:World->Heap->Prop}{d:DefRec}{K:Params->W.Frag}{CX:World->CT}{sp:World->Sp}{x:Str}
  (hn:l.most=some n) (PL:n<=aA) (Ny:d.params.defaults=[]) (hr:f6 k callerA)
  (hY:∀(w:World) (h:Heap),YP w h->(K w.params).In h)
  (F:∀(w:World) (mg:Str->Option ah) (fa:Addr) (h:Heap),(K w.params).In h->h.Ns bq mg->mg d.name=some (.ref fa) ->
   ∃fd:bT,(∀(s:ax) (u:ah),BindsTo s fd ⟨[u],[]⟩ [(x,u)]) /\
    ∀base:Heap,(K w.params).In base->base.Ns bq mg->kI l.prog w (K w.params) mg base (CX w) k fa fd [x] (sp w))
  (Io:∀(w:World) (H:Hp) (a:Addr) (ns:List Int),ns.length<=n->Ku H->gc (K w.params) H a (ns.map V.int)->sp w [.ref a] H (λv _=>v=.bl true) λ_ _ _=>False)
  (QY:∀(w:World) (H:Hp) (s:ax) (e:ah) (s':ax),CX w [] H s (λ_ _ _=>False) e s'->False) :
  W.WalkO q loose XP YP l.row.toRowW d [] (λf vs=>PySem.call f vs):=by
 refine Att.v5 hn Ny λw s₀ s₁ mg mb fa o pm cd r6 a vs ns G Y ho hd iU Nz Kt C1 hlen hg=>?_;have KX:=hY w _ Y;obtain⟨fd,hb,hF⟩:=F w mg fa _ KX G.T.g Nz;exact C2 KX G.T.g G.T.b G.T.builtins G.T.nolimit hg Kt C1 (bu hlen PL) hr hF hb (λH hO hS=>Io w H a ns hlen hO hS) λH e s'=>QY w H s₁ e s'
noncomputable def jh (s:Stmt):Arguments:=match s with
 | .FunctionDef _ a _ _ _ _ _ _ _ _=>a
 | _=>{ posonlyargs:=[],args:=[],vararg:=none,kwonlyargs:=[],kw_defaults:=[],kwarg:=none,defaults:=[] }
noncomputable def fE (s:Stmt):List Stmt:=match s with
 | .FunctionDef _ _ b _ _ _ _ _ _ _=>b
 | _=>[]
noncomputable def dB (s:Stmt):Scope:=match s with
 | .FunctionDef _ _ _ _ _ _ sc _ _ _=>sc
 | _=>{ kind:=.function,names:=[],isGenerator:=false,isCoroutine:=false }
noncomputable abbrev ux:CT:=λ_ _ _ _ _ _=>False
noncomputable abbrev E0:XK:=λ_ _ _=>False
theorem ND:yh ux X E0:=λ_ _ _ _ _ _ _ h=>h.elim
structure v7 (K:W.Frag) (x fi:Str) (st:Stmt) (f:Addr) (fd:bT):Prop where
 ex:∃(oc:ah) (od:Option Addr) (kV r6 pm:ah) (an:Option Addr) (fj ct:ah) (Ft:Array (Option ah)),
  fd=W.fnOf x fi (jh st) (fE st) (dB st) .none kV r6 pm an fj ct/\K.lookup f=some ⟨oc,od,.func fd,Ft⟩/\W.codeIn K fj fi=true
 kp:W.keepIn K (.ref f)=true
section
variable {P:aV}{w:World}{K:W.Frag}{mg:Str->Option ah}{base:Heap}
theorem v7.ok {x fi:Str}{st:Stmt}{f:Addr}{fd:bT}{N ps:List Str}{k:Nat}{sp:Sp}(F:v7 K x fi st f fd)(S:fg N ps (dB st))(len:∀vs H Q E,sp vs H Q E->vs.length=ps.length)
  (vX:∀(fj:ah) (A:Around) (outer:List Env) (s:ax) (H:Hp) (vs:List V) (Q:VK) (E:XK),f6 k (A.deeper (envOfC fi (dB st) s.heap.objs.size f fj))->sp vs H Q E ->
   ∃t,xX (mI ux P w K mg base N fi (dB st) f fj A outer s H E).Bg (fE st) t/\t { nx:=λ_ H'=>Q .f' H',rt:=Q } (start N vs) H):kI P w K mg base ux (k+1) f fd ps sp:=by
 obtain⟨oc,od,kV,r6,pm,an,fj,ct,Ft,rfl,lk,iU⟩:=F.ex;refine Nk lk iU S len λA outer s H vs Q E hr Io=>?_;obtain⟨t,h,q⟩:=vX fj A outer s H vs Q E hr Io;exact⟨t,h.Bg,q⟩
theorem v7.binds {x fi:Str}{st:Stmt}{f:Addr}{fd:bT}{ps:List Str}(F:v7 K x fi st f fd)
  (h:∀(kV r6 pm:ah) (an:Option Addr) (fj ct:ah) (us:List ah),us.length=ps.length->bindArgs (W.fnOf x fi (jh st) (fE st) (dB st) .none kV r6 pm an fj ct) ⟨us,[]⟩=pure (ps.zip us)):Binds K fd ps []:=by
 obtain⟨oc,od,kV,r6,pm,an,fj,ct,Ft,rfl,lk,iU⟩:=F.ex;exact .all (h kV r6 pm an fj ct)
theorem C3 {x fi:Str}{st:Stmt}{f:Addr}{oc:ah}{od an:Option Addr}{Ft:Array (Option ah)}{kV r6 pm fj ct:ah}(l:K.lookup f=some ⟨oc,od,.func (W.fnOf x fi (jh st) (fE st) (dB st) .none kV r6 pm an fj ct),Ft⟩)
  (c:W.codeIn K fj fi=true) (k:W.keepIn K (.ref f)=true):v7 K x fi st f (W.fnOf x fi (jh st) (fE st) (dB st) .none kV r6 pm an fj ct):=⟨⟨oc,od,kV,r6,pm,an,fj,ct,Ft,rfl,l,c⟩,k⟩
end
theorem NF (hr:f6 k A):A.units+1<cLine:=cz (Nat.add_le_add_left (by decide:1<=64) _) hr.units
section
theorem pv (i:Nat)(hN:X.N[i]? = some x:=by rfl)(hv:rZ X.env.scope x:=by (first | exact Or.inl rfl | exact Or.inr (Or.inl rfl) | exact Or.inr (Or.inr rfl)))(hd:(x == ("__debug__" : Str))=false:=by decide)
  (iU:(x == ("__classdict__" : Str))=false:=by decide):PE X (.Name x pos) (FQ i):=CB hN hv hd iU
end
theorem Kv {A B:Prop}(h:B):if false=true then A else B:=by
 rw[if_neg aR];exact h
theorem NG {A B:Prop}(h:A):if true=true then A else B:=by
 rw[if_pos rfl];exact h
theorem Kw {c A B:Prop}[Decidable c](h1:c->A)(h2:¬ c->B):if c then A else B:=by
 by_cases h:c
 .rw[if_pos h]
  exact h1 h
 .rw[if_neg h]
  exact h2 h
structure d4 (P:aV) (w:World) (K:W.Frag) (mg:Str->Option ah) (base:Heap) (k:Nat) (x:Str) (ps:List Str) (sp:Sp):Prop where
 ex:∃(f:Addr) (fd:bT),kI P w K mg base ux k f fd ps sp/\mg x=some (.ref f)/\W.keepIn K (.ref f)=true/\Binds K fd ps []
noncomputable def qo (sp:Sp)(t:TA):TE:=λσ H Q=>t σ H λvs H1=>sp vs H1 Q E0
theorem Bv (sp:Sp)(t:TA):CU sp [] E0 t=qo sp t:=by
 funext σ H Q;unfold CU qo;congr;funext vs H1;rw[bR]
section
theorem C4 (D:d4 X.prog X.w X.K X.mg X.base k x ps sp)(hr:f6 k X.A)(ha:PA X (e::es) t)(hg:Gl X x:=by rfl)
  (oh:(x == ("__debug__" : Str))=false:=by decide) (he:starEach (e::es) X.env=(false,eval e X.env)::starEach es X.env:=by rfl) (lS:(backTo pos (starEach es X.env)).any (·.1)=false:=by rfl) :
  PE X (.Call (.Name x p) (e::es) [] pos) (qo sp t):=by
 obtain⟨f,fd,F,hm,hk,hb⟩:=D.ex;rw[<- Bv];exact Gg F hr hg hm hk hb .nil ND ha oh he lS
end
noncomputable def l9 (cells:List (Str × Addr)):List (Str × aM)->List (Str × Addr)->List (Str × Addr)
 | [],acc=>acc
 | (n,k)::r,acc=>l9 cells r (if (k == aM.free)=true then (n,(cells.lookup n).getD 0)::acc else acc)
theorem sW (cells:List (Str × Addr))(n:Str)(k:aM)(r:List (Str × aM))(acc:List (Str × Addr)):l9 cells ((n,k)::r) acc=l9 cells r (if (k == aM.free)=true then (n,(cells.lookup n).getD 0)::acc else acc):=rfl
theorem v8:∀{l:List (Str × aM)} {acc:List (Str × Addr)},(x,c)∈l9 cells l acc->(x,c)∈acc\/((x,aM.free)∈l/\c=(cells.lookup x).getD 0)
 | [],acc,h=>.inl h
 | (n,k)::r,acc,h=>by
  unfold l9 at h;rcases v8 h with h | ⟨h1,h2⟩
  .by_cases hk:(k == aM.free)=true
   .rw[if_pos hk] at h
    rcases av.mp h with h | h
    .cases h
     have:k=aM.free:=by simpa using hk
     subst this;exact .inr ⟨ar,rfl⟩
    .exact .inl h
   .rw[if_neg hk] at h
    exact .inl h
  .exact .inr ⟨ai _ h1,h2⟩
theorem v9:∀{l:List (Str × aM)} {acc:List (Str × Addr)},q∈acc->q∈l9 cells l acc
 | [],_,h=>h
 | (n,k)::r,acc,h=>by
  unfold l9;refine v9 ?_;split
  .exact ai _ h
  .exact h
theorem z7:∀{l:List (Str × aM)} {acc:List (Str × Addr)},(x,aM.free)∈l->(x,(cells.lookup x).getD 0)∈l9 cells l acc
 | [],_,h=>by cases h
 | (n,k)::r,acc,h=>by
  unfold l9;rcases av.mp h with h | h
  .cases h
   refine v9 ?_;simp
  .exact z7 h
theorem mK {β:Type}{x:Str}{b:β}:∀{l:List (Str × β)},(x,b)∈l->∃c,l.lookup x=some c
 | [],h=>by cases h
 | (n,k)::r,h=>by
  rw[cH]
  cases e:x == n with
  | true=>exact⟨k,rfl⟩
  | false =>
   rcases av.mp h with h | h
   .cases h
    simp at e
   .exact mK h
theorem kU:∀(l:List (Str × aM)) (acc:List (Str × Addr)),(∀x∈l,x.2=aM.free->∃c,env.cells.lookup x.1=some c) ->
  (forIn l acc λx r=>if (x.2 == aM.free)=true then (do let c <- cellOf env x.1;pure (ForInStep.yield ((x.1,c)::r))) else pure (ForInStep.yield r):Sem (List (Str × Addr)))=pure (l9 env.cells l acc)
 | [],acc,_=>rfl
 | (n,k)::r,acc,h=>by
  rw[List.forIn_cons];by_cases hk:(k == aM.free)=true
  .obtain⟨c,hc⟩:=h (n,k) ar (by simpa using hk)
   have e:cellOf env n=pure c:=by unfold cellOf;rw[hc]
   show (if (k == aM.free)=true then _ else _) >>= _=_;rw[if_pos hk,e];show (forIn r ((n,c)::acc) _:Sem _)=_;rw[kU r _ λx hx=>h x (ai _ hx)];rw[sW,if_pos hk,show env.cells.lookup n=some c from hc];rfl
  .show (if (k == aM.free)=true then _ else _) >>= _=_
   rw[if_neg hk];show (forIn r acc _:Sem _)=_;rw[kU r _ λx hx=>h x (ai _ hx)];rw[sW,if_neg hk]
theorem si (h:∀x∈scope.names,x.2=aM.free->∃c,env.cells.lookup x.1=some c):closureFor scope env=pure (l9 env.cells scope.names []):=by
 have e:=kU scope.names [] h;unfold closureFor
 first
  | exact (congrArg (λm=>m >>= λr=>pure r) e).trans rfl
  | (simp only[bind_pure];exact e)
  | (rw[<- e];rfl)
noncomputable def gr (X:Cx)(sc:Scope)(N:List Str)(cl:List (Str × Addr))(C:Addr)(s₂:ax)(H₂:Hp)(fp:List Addr):Cx where
 prog:=X.prog
 w:=X.w
 K:=X.K
 mg:=X.mg
 base:=X.base
 A:=X.A
 N:=N
 s₀:=s₂
 H₀:=H₂
 env:=compEnvC sc cl C X.env
 outer:=X.stack
 stack:=X.stack
 ex:=fp
 fn:=λx=>sc.names.lookup x == some aM.cell
 calm:=true
 pn:=[]
 xe:=λ_ _=>False
noncomputable def j7 (NX:List Str)(Kx sc:Scope)(N:List Str)(mp:List (Option Nat)):Bool :=
 sc.names.all (λp=>p.2 != aM.cell || sc.names.lookup p.1 == some aM.cell) && sc.names.all (λp=>p.2 != aM.local || sc.names.lookup p.1 == some aM.local) &&
 sc.names.all (λp=>p.2 != aM.free || (Kx.names.lookup p.1 == some aM.cell || Kx.names.lookup p.1 == some aM.free)) && sc.names.all (λp=>p.2 != aM.free || sc.names.lookup p.1 == some aM.free) &&
 mp.length == N.length && (N.zip mp).all (λq=>match q.2 with | none=>true | some i=>NX[i]? == some q.1 && sc.names.lookup q.1 == some aM.free)
noncomputable def kW (mp:List (Option Nat))(σ:St):St:=mp.map λo=>match o with | none=>none | some i=>(σ[i]?).join
structure qp (NX:List Str) (Kx sc:Scope) (N:List Str) (mp:List (Option Nat)):Prop where
 cell:∀x∈sc.names,x.2=aM.cell->sc.names.lookup x.1=some aM.cell
 loc:∀x∈sc.names,x.2=aM.local->sc.names.lookup x.1=some aM.local
 free:∀x∈sc.names,x.2=aM.free->Kx.names.lookup x.1=some aM.cell\/Kx.names.lookup x.1=some aM.free
 fr:∀x∈sc.names,x.2=aM.free->sc.names.lookup x.1=some aM.free
 len:mp.length=N.length
 map:∀(j:Nat) (x:Str) (i:Nat),N[j]? = some x->mp[j]? = some (some i)->NX[i]? = some x/\sc.names.lookup x=some aM.free
theorem Bw (h:j7 NX Kx sc N mp=true):qp NX Kx sc N mp:=by
 unfold j7 at h;simp only[bH,List.all_eq_true] at h;obtain⟨⟨⟨⟨⟨h1,h2⟩,h3⟩,h6⟩,h4⟩,h5⟩:=h;have hl:mp.length=N.length:=by simpa using h4
 refine⟨λx hx e=>?_,λx hx e=>?_,λx hx e=>?_,λx hx e=>?_,hl,λj x i e1 e2=>?_⟩
 .have:=h1 x hx
  rw[e] at this;simpa using this
 .have:=h2 x hx
  rw[e] at this;simpa using this
 .have:=h3 x hx
  rw[e] at this;simpa using this
 .have:=h6 x hx
  rw[e] at this;simpa using this
 .have Q1:j<N.length:=(aD.mp e1).1
  have WG:j<mp.length:=(aD.mp e2).1
  have hm:(x,some i)∈N.zip mp:=by
   refine cp (i:=j) ?_;rw[List.getElem?_zip_eq_some];exact⟨e1,e2⟩
  have:=h5 _ hm;simpa using this
theorem kX (h:(relabel sc env).names.lookup x=some k):∃k',(x,k')∈sc.names/\(k=k'\/(k'=aM.free/\k=aM.cell)):=by
 have hm:=PySem.mem_of_lookup h;obtain⟨⟨n,k'⟩,Mt,e⟩:=aQ.mp hm;refine⟨k',?_⟩;dsimp only at e;split at e
 .rename_i hc
  cases e;rw[bH,bH] at hc;have:k'=aM.free:=by simpa using hc.1.1
  exact⟨Mt,.inr ⟨this,rfl⟩⟩
 .cases e
  exact⟨Mt,.inl rfl⟩
theorem uy (h:sc.names.lookup x=some aM.free):(relabel sc env).names.lookup x=some aM.cell\/(relabel sc env).names.lookup x=some aM.free:=by
 show (sc.names.map _).lookup x=_\/(sc.names.map _).lookup x=_;generalize sc.names=l at h
 induction l with
 | nil=>cases h
 | cons p r ih =>
  obtain⟨n,k⟩:=p;rw[ak];dsimp only;by_cases hc:(k == aM.free && env.scope.kind == .function && env.kindOf n == some .cell)=true
  .rw[if_pos hc,cH]
   cases e:x == n with
   | true=>exact .inl rfl
   | false =>
    rw[cH,e] at h;exact ih h
  .rw[if_neg hc,cH]
   cases e:x == n with
   | true =>
    rw[cH,e] at h;exact .inr h
   | false =>
    rw[cH,e] at h;exact ih h
theorem uz:∀{l:List (Str × aM)} {n:Nat} {acc:List (Str × Addr)},q∈acc->q∈cellsFrom n l acc
 | [],_,_,h=>h
 | (m,k)::r,n,acc,h=>by
  unfold cellsFrom;split
  .exact uz (ai _ h)
  .exact uz h
theorem C5:∀{l:List (Str × aM)} {n:Nat} {acc:List (Str × Addr)},(x,aM.cell)∈l->∃c,(x,c)∈cellsFrom n l acc
 | (m,k)::r,n,acc,h=>by
  unfold cellsFrom;rcases av.mp h with h | h
  .cases h
   exact⟨n,uz (n:=n+1) (l:=r) (acc:=(x,n)::acc) ar⟩
  .split
   .exact C5 h
   .exact C5 h
theorem yp:∀{l:List (Str × aM)} {h:Heap} {n:Nat} {acc:List (Str × Addr)},h.objs.size=n->q∈cellsFrom n l acc->q∈acc\/(n<=q.2/\(q.1,aM.cell)∈l/\(pushCells h l).IsCell q.2 none)
 | [],_,_,_,_,h=>.inl h
 | (m,k)::r,hp,n,acc,hn,h=>by
  unfold cellsFrom at h;unfold pushCells;by_cases hk:(k == aM.cell)=true
  .rw[if_pos hk] at h ⊢
   have e:k=aM.cell:=by simpa using hk
   subst e;rcases yp (h:=hp.push { cls:=.type "cell",data:=.cell none }) (by rw[cf,hn]) h with h | ⟨h1,h2,h3⟩
   .rcases av.mp h with h | h
    .subst h
     subst hn;exact .inr ⟨am _,ar,⟨_,pushCells_keeps _ _ _ _ (aB _ rfl),rfl⟩⟩
    .exact .inl h
   .exact .inr ⟨!1,ai _ h2,h3⟩
  .rw[if_neg hk] at h ⊢
   rcases yp hn h with h | ⟨h1,h2,h3⟩
   .exact .inl h
   .exact .inr ⟨h1,ai _ h2,h3⟩
theorem yq:∀{l:List (Str × aM)} {n:Nat} {acc:List (Str × Addr)},(∀q∈acc,q.2<n)->(∀x y c,(x,c)∈acc->(y,c)∈acc->x=y)->∀x y c,(x,c)∈cellsFrom n l acc->(y,c)∈cellsFrom n l acc->x=y
 | [],_,_,_,h=>h
 | (m,k)::r,n,acc,hn,h=>by
  unfold cellsFrom;split
  .refine yq (λq hq=>?_) λx y c hx hy=>?_
   .rcases av.mp hq with e | e
    .subst e;exact Nat.lt_succ_self _
    .exact cP (hn q e)
   .rcases av.mp hx with e | e<;>rcases av.mp hy with e' | e'
    .cases e;cases e';rfl
    .cases e;exact absurd (hn _ e') (bN _)
    .cases e';exact absurd (hn _ e) (bN _)
    .exact h x y c e e'
  .exact yq hn h
theorem yr
  (hQ:(pushCells (s.heap.push { cls:=.type "dict",data:=.dict #[] }) scope.names).Ns s.heap.objs.size (λ_=>none) ->
   Q (newEnv scope s.heap.objs.size globals (cellsFrom (s.heap.objs.size+1) scope.names closure) fi none .none (some env) 0) { s with heap:=pushCells (s.heap.push { cls:=.type "dict",data:=.dict #[] }) scope.names }) :
  aG M A (newFunctionEnv scope globals closure [] fi none .none (some env)) Q E s:=by
 simp only[newFunctionEnv,Option.isSome_some,if_true];refine ag (wpAny_alloc ?_);refine ag (wpAny_layCells _ (λname kind cells=>by cases UB:kind == aM.cell<;>simp[UB]) _ _ _ _ ?_);rw[show ({ s with heap:=s.heap.push { cls:=.type "dict",data:=.dict #[] } }:ax).heap.objs.size=s.heap.objs.size+1 from cf ..];rw[List.forIn_nil];exact ag (ap (ap (hQ ((Heap.Ns.new s.heap (.type "dict")).keeps (pushCells_keeps _ _)))))
structure NH (X:Cx) (sc:Scope) (C:Addr) (h:Heap) (cl:List (Str × Addr)):Prop where
 has:∀x,(x,aM.cell)∈sc.names\/(x,aM.free)∈sc.names->∃c,cl.lookup x=some c
 sub:∀x c,cl.lookup x=some c->(X.env.cells.lookup x=some c/\(x,aM.free)∈sc.names)\/(C<c/\(x,aM.cell)∈sc.names/\h.IsCell c none)
 inj:∀x y c,cl.lookup x=some c->cl.lookup y=some c->x=y
section
variable {X:Cx}{sc:Scope}{N:List Str}{mp:List (Option Nat)}{pins:List (Addr × Obj)}{σ:St}{H:Hp}{s:ax}{fp:List Addr}{C:Addr}{h₁:Heap}{cl:List (Str × Addr)}
theorem wa (O:qp X.N X.env.scope sc N mp)(ok:X.Ok):∀x∈sc.names,x.2=aM.free->∃c,X.env.cells.lookup x.1=some c:=λx hx e=>ok.has x.1 (O.free x hx e)
theorem Gv (O:qp X.N X.env.scope sc N mp)(I:Inv X pins σ H s){hp:Heap}(hs:s.heap.objs.size<=hp.objs.size)(e:hp.objs.size=C+1):NH X sc C (pushCells hp sc.names) (cellsFrom (C+1) sc.names (l9 X.env.cells sc.names [])):=by
 have ok:=I.ok
 have old:∀q∈l9 X.env.cells sc.names [],X.env.cells.lookup q.1=some q.2/\(q.1,aM.free)∈sc.names:=λq hq=>by
  rcases v8 (x:=q.1) (c:=q.2) hq with h | ⟨h1,h2⟩
  .cases h
  .obtain⟨c',hc⟩:=wa O ok _ h1 rfl
   have CA:X.env.cells.lookup q.1=some c':=hc;rw[CA] at h2;rw[CA,h2];exact⟨rfl,h1⟩
 have lt:∀q∈l9 X.env.cells sc.names [],q.2<C+1:=λq hq=>by
  obtain⟨v,o,ho,_⟩:=I.cell _ _ (old q hq).1;exact e ▸ aU (aI ho) hs
 refine⟨λx hx=>?_,λx c h=>?_,λx y c h1 h2=>yq lt (λx y c h1 h2=>ok.inj x y c (old _ h1).1 (old _ h2).1) x y c (PySem.mem_of_lookup h1) (PySem.mem_of_lookup h2)⟩
 .rcases hx with h | h
  .obtain⟨c,hc⟩:=C5 (n:=C+1) (acc:=l9 X.env.cells sc.names []) h
   exact mK hc
  .exact mK (uz (z7 h))
 .rcases yp (h:=hp) e (PySem.mem_of_lookup h) with h | ⟨h1,h2,h3⟩
  .exact .inl (old _ h)
  .exact .inr ⟨h1,h2,h3⟩
theorem C6 (hc:X.calm=true)(O:qp X.N X.env.scope sc N mp)(hk:sc.kind=.function)(I:Inv X pins σ H s)(hC:s.heap.objs.size<=C)(kp:∀b o,s.heap.get? b=some o->h₁.get? b=some o){m:Str->Option ah}
  (hn:h₁.Ns C m) (Iq:∀b∈fp,pq X pins H b) (Ky:∀b∈fp,b<s.heap.objs.size) {t':Nat} (L:NH X sc C h₁ cl) :
  Inv (gr X sc N cl C s H fp) [] (kW mp σ) H { s with heap:=h₁,toks:=t' }:=by
 have ok:=I.ok
 have Q2:∀b∈fp,b ∉ ya X.stack:=λb hb z=>by
  rcases av.mp (I.qf b z) with e | e
  .exact (Iq b hb).2.1 e
  .exact (Iq b hb).2.2.1 e
 refine⟨⟨ok.mod,hk,ok.glob,ok.blt,hC,?_,?_,?_,λ_=>ok.hd hc,ok.frames,.inl rfl,?_,I.bs,bu ok.Jy I.sz,?_,Q2,I.stack,I.zP⟩,rfl,I.bare,Un.kept kp,?_,?_,I.eD.fresh hC,?_,?_,I.eD.kept kp,?_⟩
 .exact L.inj
 .intro x hx
  have Mu:(relabel sc X.env).names.lookup x=some .cell\/(relabel sc X.env).names.lookup x=some .free:=hx;refine L.has x ?_;rcases Mu with h | h
  .obtain⟨k',hm,e⟩:=kX h
   rcases e with e | ⟨e,_⟩
   .subst e
    exact .inl hm
   .subst e
    exact .inr hm
  .obtain⟨k',hm,e⟩:=kX h
   rcases e with e | ⟨_,e⟩
   .subst e
    exact .inr hm
   .cases e
 .intro x c hf hc
  have UC:sc.names.lookup x=some aM.cell:=by simpa [gr] using hf
  rcases L.sub x c hc with h | h
  .have:=O.fr _ h.2 rfl
   rw[UC] at this;cases this
  .exact bu hC (dj h.1)
 .intro b hb
  refine⟨bp (aU (Ky b hb) hC),λx c h=>?_⟩;rcases L.sub x c h with h | h
  .exact (Iq b hb).2.2.2.2.1 x c h.1
  .exact λz=>bN _ (Nat.lt_trans (aU (Ky b hb) hC) (z ▸ h.1))
 .intro b o e hb
  rcases (Iq b hb).2.2.2.1 with z | z
  .exact ok.Cz b o e z
  .exact absurd (aU (aI (ok.bs b o e).1) z) (bN _)
 .refine⟨m,hn,λj x v e1 e2 e3=>?_⟩
  have Tf:N[j]? = some x:=e1
  have hj:j<mp.length:=by
   rw[O.len];exact (aD.mp Tf).1
  obtain⟨i,hi,hv⟩:∃i,mp[j]? = some (some i)/\σ[i]? = some (some v):=by
   unfold kW at e2;rw[aE] at e2
   cases e:mp[j]? with
   | none=>rw[e] at e2;cases e2
   | some o =>
    rw[e] at e2
    cases o with
    | none=>cases e2
    | some i =>
     refine⟨i,rfl,?_⟩;have PM:(σ[i]?).join=some v:=Option.some.inj e2
     cases q:σ[i]? with
     | none=>rw[q] at PM;cases PM
     | some z =>
      rw[q] at PM;have:z=some v:=PM;rw[this]
  obtain⟨hx,hf⟩:=O.map j x i Tf hi;have Q3:=PySem.mem_of_lookup hf;obtain⟨mX,WH,hl⟩:=I.loc
  have UD:rZ X.env.scope x:=by
   rcases O.free _ Q3 rfl with z | z
   .exact .inr (.inl z)
   .exact .inr (.inr z)
  obtain⟨u,r,q⟩:=hl i x v hx hv UD;refine⟨u,r,?_⟩;rcases q with⟨z,_⟩ | ⟨_,c,ec,NI⟩
  .exfalso
   have z':X.env.scope.names.lookup x=some .local:=z;rcases O.free _ Q3 rfl with y | y
   .rw[show X.env.scope.names.lookup x=some .cell from y] at z';cases z'
   .rw[show X.env.scope.names.lookup x=some .free from y] at z';cases z'
  .obtain⟨c',CA⟩:=L.has x (.inr Q3)
   have MR:X.env.cells.lookup x=some c':=by
    rcases L.sub x c' CA with h | h
    .exact h.1
    .have:=O.cell _ h.2.1 rfl
     rw[hf] at this;cases this
   rw[ec] at MR;cases MR;refine .inr ⟨uy hf,c,CA,?_⟩;obtain⟨o,ho,hd⟩:=NI;exact⟨o,kp _ _ ho,hd⟩
 .intro x c h
  rcases L.sub x c h with h | h
  .obtain⟨v,o,ho,hd⟩:=I.cell x c h.1
   exact⟨v,o,kp _ _ ho,hd⟩
  .exact⟨none,h.2.2⟩
 .intro x c h
  rcases L.sub x c h with h | h
  .exact I.mf x c h.1
  .exact I.eD.fresh (bu hC (dj h.1))
 .intro p hp
  cases hp
 .show (kW mp σ).length=N.length
  unfold kW;rw[au,O.len]
theorem Inv.C7 {a:Addr}{o:HO}{ob:Obj}(I:Inv X pins σ H s)(ho:s.heap.get? a=some ob)(hn:H a=none)(hL:a≠X.env.locals)(h1:a∈X.ex\/X.s₀.heap.objs.size<=a)(h2:∀x c,X.env.cells.lookup x=some c->c≠a)
  (h3:∀p∈X.pn++pins,p.1≠a) (new:fb X.prog X.w (eg H a o) s.heap a o):Inv X pins σ (eg H a o) s:=by
 have HZ:∀b u,H b=some u->b≠a:=λb u e z=>by rw[z,hn] at e;cases e
 have:=I.step (g':=s.gens) (d':=s.drawn) (t':=s.toks) (h':=s.heap) (H':=eg H a o) (ch:=[a]) (λb hb=>?_) (λb o _ _ _ e _=>e) (λb o _ _ _ e _=>⟨o.slots,e⟩) (λb o hc _ n=>?_)
  (λb o _ e=>⟨o,e⟩) (λb xs e=>?_) (λb u xs e=>?_) (λb ps e=>⟨#[],?_⟩) (λm hm=>hm) (λb u e=>?_) I.bare
 .exact this
 .have e:b=a:=by simpa using hb
  subst e;exact⟨h1,hL,h2,h3⟩
 .rw[dH (λz=>hc (by simp[z]))];exact n
 .rw[dH (HZ _ _ e)];exact e
 .rw[dH (HZ _ _ e)];exact e
 .rw[dH (HZ _ _ e),e];simp
 .by_cases hb:b=a
  .subst hb;rw[dz] at e;cases e;exact new
  .rw[dH hb] at e
   exact (I.eD b u e).xZ (λc v _ q=>q) (λc q=>by rw[dH (HZ _ _ q)];exact q) λc xs q=>by rw[dH (HZ _ _ q)];exact q
end
theorem uB (I:Nat->ax->Prop)
  (turn:∀n s,I n s->aG (model prog w) A (pyNext it) (λr s₁=>match r with
   | none=>R (.ok .next) s₁
   | some v=>aG (model prog w) A (letOwnedTupleGo target it v) (λ_ s'=>aG (model prog w) A (assign target env v) (λ_ s₂ =>
     aG (model prog w) A (forIn uD true λc r=>if r=true then do let ok <- isTrue c env (eval c env);pure (ForInStep.yield ok) else pure (ForInStep.yield r)) (λok s₃ =>
      if ok=true then aG (model prog w) A (eval vE env) (λx s₄ =>
       aG (model prog w) A (call (.builtin "list.append") [acc,x]) (λ_ s₅=>∃m,m<n/\I m s₅) (λ_ _=>False) s₄) (λ_ _=>False) s₃
      else ∃m,m<n/\I m s₃) (λ_ _=>False) s₂) (λ_ _=>False) s') (λ_ _=>False) s₁) (λ_ _=>False) s)
  (n:Nat) (h:I n s) :
  codeAny (model prog w) A (.compLoop (.ListComp vE [⟨target,iter,uD,0⟩] scope pos) 0 it acc env) R s:=by
 refine codeAny_loop rfl I (λn s hI=>?_) n h;show aG _ A ((compTurn (.ListComp vE [⟨target,iter,uD,0⟩] scope pos) 0 it acc env).onRaise (λx=>do noteFrame x env;theTreesLotGoes x)) _ _ s;refine wpAny_noted ?_;rw[compTurn_list];refine ag (wpAny_standAt (ag (b8 (turn n s hI) (λr s₁ h₁=>?_) λ_ _ h'=>h'.elim)))
 cases r with
 | none=>exact ap h₁
 | some v =>
  refine ag (b8 h₁ (λ_ s' h'=>ag (b8 h' (λ_ s₂ h₂=>ag (b8 h₂ (λok s₃ h₃=>?_) λ_ _ h'=>h'.elim)) λ_ _ h'=>h'.elim)) λ_ _ h'=>h'.elim)
  cases ok with
  | false=>exact ap ⟨rfl,h₃⟩
  | true =>
   exact ag (ag (b8 h₃ (λx s₄ h₄=>ag (b8 h₄ (λ_ s₅ h₅=>ap (ap ⟨rfl,h₅⟩)) λ_ _ h'=>h'.elim)) λ_ _ h'=>h'.elim))
noncomputable def NJ (X:Cx)(uD:List Expr)(t:TT):Prop :=
 ∀(pins:List (Addr × Obj)) (s:ax) (σ:St) (H:Hp) (Q:Bool->Hp->Prop),Inv X pins σ H s->t σ H Q ->
  aG (model X.prog X.w) X.A (forIn uD true λc r=>if r=true then do let ok <- isTrue c X.env (eval c X.env);pure (ForInStep.yield ok) else pure (ForInStep.yield r)) (TP X pins σ Q) X.xe s
noncomputable def Ir:TT:=λ_ H Q=>Q true H
theorem Gw:NJ X [] Ir:=λ_ _ _ H _ I h=>wpAny_tests_nil ⟨H,I,h⟩
theorem Gx (h:PT X c t):NJ X [c] t:=λpins s σ H Q I hw=>wpAny_tests_one (h pins s σ H Q I hw)
noncomputable abbrev TC:=St->Hp->(List V->Hp->Prop)->Prop
noncomputable def z8 (wi:TI)(mp:List (Option Nat))(g:TG)(tc:TT)(te:TE):TC:=λσ H R=>wi σ H λJ H1=>∃W:Nat->Nat->List V->St->Hp->Prop,(∃m,W 0 m [] (kW mp σ) H1)/\∀i m ys σ' H',W i m ys σ' H' ->
 (J.stop i H'/\ys.length<=aA/\R ys H') \/
 (J.go i H'/\ys.length<aA/\∀x Mv,J.Fs i H' x Mv->g x σ' Mv λσ2 H2=>tc σ2 H2 λb H3 =>
  if b=true then te σ2 H3 λy H4=>∃m',m' < m/\W (i+1) m' (ys++[y]) σ2 H4 else ∃m',m' < m/\W (i+1) m' ys σ2 H3)
section
theorem Bx {use:Option (ah->Sem Unit)}{Q:ah->ax->Prop}(hc:X.calm=true)(hi:PI X tg iter wi)(hk:sc.kind=.function)(O:qp X.N X.env.scope sc N mp)
  (hb:∀(cl:List (Str × Addr)) (C:Addr) (s₂:ax) (H₂:Hp) (fp:List Addr),PG (gr X sc N cl C s₂ H₂ fp) tg g/\NJ (gr X sc N cl C s₂ H₂ fp) uD tc/\PE (gr X sc N cl C s₂ H₂ fp) vE te)
  {pins:List (Addr × Obj)} {s:ax} {σ:St} {H:Hp} {R:List V->Hp->Prop} (I:Inv X pins σ H s) (h:z8 wi mp g tc te σ H R)
  (hs:∀x,foldedSetIterable iter X.env x=pure x)
  (Gy:∀(D C:Addr) (ys:List V) (H':Hp) (s':ax) (m:Str->Option ah),Inv X pins σ (eg H' D (.lst ys)) s'->s'.heap.Ns C m->pq X pins (eg H' D (.lst ys)) C->H' D=none->R ys H' ->
   compPost (model X.prog X.w) X.A X.xe use Q (.ref D) C (.ok .next) s') :
  aG (model X.prog X.w) X.A (comprehension (.ListComp vE [⟨tg,iter,uD,0⟩] sc pos) sc X.env fZ (newList []) false (eval iter X.env) use) Q X.xe s:=by
 have ok:=I.ok;refine wpAny_comprehension_free (g:=⟨tg,iter,uD,0⟩) (gs:=[]) rfl hs (si (wa O ok)) hk O.loc (fk (hi pins s σ H _ I h) λv s1 h1=>fk h1 λQB s2 h2=>?_);obtain⟨it,fp,tn,J,H2,e,I2,T,F6,f2,W,⟨m0,w0⟩,turn⟩:=h2;subst e;refine bh (yr λuE=>?_);dsimp only at uE ⊢;generalize hP:s2.heap.push { cls:=.type "list",dict:=none,data:=.seq ([]:List ah).toArray }=P2 at uE ⊢;have Tg:P2.objs.size=s2.heap.objs.size+1:=by rw[<- hP,cf]
 have Q4:s2.heap.objs.size≠P2.objs.size:=by rw[Tg];exact bp (Nat.lt_succ_self _)
 have C8:s2.heap.objs.size<=P2.objs.size:=by rw[Tg];exact Nat.le_succ _
 have L:=Gv (C:=P2.objs.size) O I2 (hp:=P2.push { cls:=.type "dict",data:=.dict #[] }) (by rw[cf];omega) (cf ..);generalize Iu:pushCells (P2.push { cls:=.type "dict",data:=.dict #[] }) sc.names=h₁ at uE L ⊢;generalize cellsFrom (P2.objs.size+1) sc.names (l9 X.env.cells sc.names [])=cl at L ⊢
 have old:∀b o,s2.heap.get? b=some o->h₁.get? b=some o:=λb o e =>
  Iu ▸ pushCells_keeps _ _ b o (aj _ (hP ▸ aj _ e))
 have Q5:h₁.get? s2.heap.objs.size=some { cls:=.type "list",dict:=none,data:=.seq ([]:List ah).toArray } :=
  Iu ▸ pushCells_keeps _ _ _ _ (aj _ (hP ▸ aB _ rfl))
 have Ky:∀b∈fp,b<s2.heap.objs.size:=λb hb=>by
  obtain⟨o,e,_⟩:=T.obj _ _ F6 b hb;exact aI e
 have Th:s2.heap.objs.size ∉ fp:=λz=>bN _ (Ky _ z)
 have I3:Inv (gr X sc N cl P2.objs.size s2 H2 fp) [] (kW mp σ) H2 { s2 with heap:=h₁ } :=
  C6 hc O hk I2 C8 old uE f2 Ky L
 obtain⟨hg,ht,he⟩:=hb cl P2.objs.size s2 H2 fp;generalize hX:gr X sc N cl P2.objs.size s2 H2 fp=Y at I3 hg ht he;have yP:Y.prog=X.prog:=by rw[<- hX];rfl
 have yw:Y.w=X.w:=by rw[<- hX];rfl
 have yK:Y.K=X.K:=by rw[<- hX];rfl
 have yA:Y.A=X.A:=by rw[<- hX];rfl
 have yc:Y.calm=true:=by rw[<- hX];rfl
 have yx:Y.xe=λ_ _=>False:=by rw[<- hX];rfl
 have yl:Y.env.locals=P2.objs.size:=by rw[<- hX];rfl
 have Ti:Y.ex=fp:=by rw[<- hX];rfl
 have Q6:Y.s₀=s2:=by rw[<- hX];rfl
 have UE:Y.H₀=H2:=by rw[<- hX];rfl
 have Tj:Y.pn=[]:=by rw[<- hX];rfl
 have Q7:Y.fs=ya X.stack:=by rw[<- hX];rfl
 have NK:Y.env=compEnvC sc cl P2.objs.size X.env:=by rw[<- hX];rfl
 have Tn:∀x c,Y.env.cells.lookup x=some c->X.env.cells.lookup x=some c\/P2.objs.size<c:=λx c e=>by
  rw[NK] at e;rcases L.sub x c e with h | h
  .exact .inl h.1
  .exact .inr h.1
 have UH:∀x c,Y.env.cells.lookup x=some c->c≠s2.heap.objs.size:=λx c e z=>by
  rcases Tn x c e with h | h
  .obtain⟨v,o,ho,_⟩:=I2.cell x c h
   exact absurd (aI ho) (by rw[z];exact bN _)
  .exact absurd (cz C8 h) (by rw[z];exact bN _)
 have Q2:∀b∈fp,b ∉ ya X.stack:=λb hb z=>by
  rcases av.mp (I2.qf b z) with e | e
  .exact (f2 b hb).2.1 e
  .exact (f2 b hb).2.2.1 e
 have UK:s2.heap.objs.size ∉ ya X.stack:=λz=>by
  rcases av.mp (I2.qf _ z) with e | e
  .exact absurd I2.lt (by rw[<- e];exact bN _)
  .exact I2.MN (am _) e
 have Iq:∀{H':Hp} {o:Obj},(∀b∈fp,H' b=none)->∀b∈fp,pq Y [(s2.heap.objs.size,o)] H' b:=λ{H' o} hn b hb=>by
  refine⟨hn b hb,?_,?_,?_,?_,?_⟩
  .rw[yl];exact bp (aU (Ky b hb) C8)
  .rw[Q7];exact Q2 b hb
  .rw[Ti];exact .inl hb
  .intro x c e
   rcases Tn x c e with h | h
   .exact (f2 b hb).2.2.2.2.1 x c h
   .exact λz=>bN _ (Nat.lt_trans (aU (Ky b hb) C8) (z ▸ h))
  .intro p hp
   rw[Tj] at hp;have:p=(s2.heap.objs.size,o):=by simpa using hp
   subst this;exact λz=>Th (by have z':s2.heap.objs.size=b:=z;rw[z'];exact hb)
 have NL:∀{σ':St} {H':Hp} {s':ax} {o:Obj},Inv Y [] σ' H' s'->s'.heap.get? s2.heap.objs.size=some o->(∀v,o.data≠.cell v)->H' s2.heap.objs.size=none->Inv Y [(s2.heap.objs.size,o)] σ' H' s' :=
  λ{σ' H' s' o} J e d hn=>J.pO λp hp=>by
   have:p=(s2.heap.objs.size,o):=by simpa using hp
   subst this;exact⟨e,hn,by rw[yl];exact Q4,by rw[Q7];exact UK,d⟩
 have loop:∀s₃:ax,s₃={ s2 with heap:=h₁ } ->
   codeAny (model X.prog X.w) X.A (.compLoop (.ListComp vE [⟨tg,iter,uD,0⟩] sc pos) 0 (.ref it) (.ref s2.heap.objs.size) Y.env)
    (compPost (model X.prog X.w) X.A X.xe use Q (.ref s2.heap.objs.size) P2.objs.size) s₃:=by
  rintro s₃ rfl
  refine uB (λn s'=>∃i ys its c σ' H',Inv Y [(s2.heap.objs.size,({ cls:=.type "list",data:=.seq its.toArray c }:Obj))] σ' H' s'/\dW ys its/\tn i s'.heap/\(∀b∈fp,H' b=none)/\ys.length<=aA/\W i n ys σ' H') ?_ m0
   ⟨0,[],[],0,kW mp σ,H2,NL I3 Q5 (λv z=>by cases z) (I2.eD.fresh (am _)),.nil,T.keep _ _ _ F6 (λb _ o e=>old b o e),λb hb=>(f2 b hb).1,bF _,w0⟩
  rintro n s3 ⟨i,ys,its,c,σ3,H3,J3,rv,ye,M7,hz,w3⟩;have UL:=J3.pin _ (aY _ (aq.mpr rfl));rcases turn i n ys σ3 H3 w3 with⟨stop,hl,qn⟩ | ⟨go,hl,step⟩
  .have:=T.done Y yP yw yK yc i _ s3 σ3 H3 (λ_ _=>False) J3 (Iq M7) ye stop
   rw[yA] at this;refine fk this λr s4 ⟨hr,J4⟩=>?_;subst hr;obtain⟨pe,pn,_,_,_⟩:=J4.pin _ (aY _ (aq.mpr rfl));dsimp only at pe pn;have un:=J4.base;rw[Q7,Ti,Q6,UE] at un;have UM:s4.os=s2.os:=by have:=J4.os;rw[Q6] at this;exact this
   have NM:=J4.eD;rw[yP,yw] at NM;have IX:Inv X pins σ H3 s4:=I2.MS UM un NM J4.bare λb hb=>⟨(f2 b hb).2.2.2.1,(f2 b hb).2.1,(f2 b hb).2.2.2.2.1,(f2 b hb).2.2.2.2.2⟩;obtain⟨mC,To,_⟩:=J4.loc;rw[yl] at To;have dX:pq X pins H3 s2.heap.objs.size:=I2.px (am _) pn;have IT:Inv X pins σ (eg H3 s2.heap.objs.size (.lst ys)) s4:=IX.C7 (o:=.lst ys) pe pn dX.2.1 dX.2.2.2.1 dX.2.2.2.2.1 dX.2.2.2.2.2 ⟨hl,its,c,rv,pe⟩;have cn:H3 P2.objs.size=none:=by have:=J4.free;rw[yl] at this;exact this
   have cX:pq X pins (eg H3 s2.heap.objs.size (.lst ys)) P2.objs.size:=I2.px C8 (by rw[dH Q4.symm];exact cn);exact Gy _ _ ys H3 s4 mC IT To cX pn qn
  .have:=T.item Y yP yw yK yc i _ s3 σ3 H3 (λ_ _=>False) J3 (Iq M7) ye go
   rw[yA] at this;refine fk this λr s4 ⟨u,hr,h4⟩=>?_;subst hr;refine fk h4 λ_ s5 ⟨x,H5,J5,r5,y5,JT,QC⟩=>?_;have UN:=J5.pinned (Iq QC) (T.obj _ _ JT);have ga:=hg _ s5 σ3 H5 x u _ UN r5 (step x H5 y5);rw[yP,yw,yA,yx] at ga;refine fk ga λ_ s6 ⟨σ6,H6,J6,q6⟩=>?_;have gt:=ht _ s6 σ6 H6 _ J6 q6;rw[yP,yw,yA,yx] at gt;refine fk gt λb s7 ⟨H7,J7,q7⟩=>?_
   have Iv:∀{σ':St} {H':Hp} {s':ax},Inv Y ([(s2.heap.objs.size,({ cls:=.type "list",data:=.seq its.toArray c }:Obj))]++qh fp s5.heap) σ' H' s'->tn (i+1) s'.heap/\(∀b∈fp,H' b=none):=λ{σ' H' s'} J=>by
    refine⟨T.keep _ _ _ JT λb hb o e=>(J.pin (b,o) (aY _ (aY _ (j4 hb e)))).1,λb hb=>?_⟩;obtain⟨o,e,d⟩:=T.obj _ _ JT b hb;exact (J.pin (b,o) (aY _ (aY _ (j4 hb e)))).2.1
   cases b with
   | false =>
    have Q8:∃m',m' < n/\W (i+1) m' ys σ6 H7:=by simpa using q7
    obtain⟨m',hm,w7⟩:=Q8;obtain⟨t7,f7⟩:=Iv J7;rw[if_neg aR];exact⟨m',hm,i+1,ys,its,c,σ6,H7,J7.kR,rv,t7,f7,hz,w7⟩
   | true =>
    rw[if_pos rfl];have Q8:te σ6 H7 λy H4=>∃m',m' < n/\W (i+1) m' (ys++[y]) σ6 H4:=by simpa using q7
    have ge:=he _ s7 σ6 H7 _ J7 Q8;rw[yP,yw,yA,yx] at ge;refine fk ge λu8 s8 ⟨y,H8,J8,r8,m',hm,w8⟩=>?_;obtain⟨t8,f8⟩:=Iv J8;have Tp:=J8.kR;obtain⟨pe,pn,_,_,_⟩:=Tp.pin _ (aY _ (aq.mpr rfl));dsimp only at pe pn;have hlen:=rv.length;refine call_meets F.slot_list_append ⟨_,pe,rfl⟩ F.entry_list_append (F.args_list_append_2 _ _) (PySem.list_append s2.heap.objs.size its.toArray c u8 (by rw[aC];omega)) ⟨pe,?_⟩;have qe:=PySem.IsL.update pe (λa=>a.push u8)
    have UP:(s8.heap.update s2.heap.objs.size (Obj.mapSeq λa=>a.push u8)).get? s2.heap.objs.size=some { cls:=.type "list",data:=.seq (its++[u8]).toArray (c+1) }:=by
     simpa using qe
    have J9:Inv Y [] σ6 H8 { s8 with heap:=s8.heap.update s2.heap.objs.size (Obj.mapSeq λa=>a.push u8),toks:=s8.toks }:=by
     have J0:Inv Y [] σ6 H8 s8:=Tp.pO λp hp=>by cases hp
     refine J0.turned (it:=s2.heap.objs.size) (λb o hb e=>(aJ s8.heap _ (Ne.symm hb)).trans e) pn (by rw[yl];exact Q4) (.inr (by rw[Q6];exact am _)) UH (λp hp=>?_);rw[Tj] at hp;cases hp
    refine⟨m',hm,i+1,ys++[y],its++[u8],c+1,σ6,H8,NL J9 UP (λv z=>by cases z) pn,rv.append (.cons r8 .nil),?_,f8,by rw[aH,bB];omega,w8⟩;exact T.keep _ _ _ t8 λb hb o e=>(aJ s8.heap _ (λ(z:s2.heap.objs.size=b)=>Th (by rw[z];exact hb))).trans e
 have NN:compEnvC sc cl P2.objs.size X.env=Y.env:=NK.symm;show codeAny _ _ (.compStart _ 0 (.ref it) (.ref s2.heap.objs.size) (compEnvC sc cl P2.objs.size X.env)) _ _;rw[NN];exact codeAny_compStart_list (loop _ rfl) (T.self _ 0 _ _ _ (T.keep _ _ _ F6 λb _ o e=>old b o e) (loop _ rfl))
noncomputable def C9 (t:TC):TE:=λσ H Q=>t σ H λys H'=>∀D,H' D=none->Q (.ref D) (eg H' D (.lst ys))
theorem Gz (hc:X.calm=true)(hi:PI X tg iter wi)(hk:sc.kind=.function)(hm:j7 X.N X.env.scope sc N mp=true)
  (hb:∀(cl:List (Str × Addr)) (C:Addr) (s₂:ax) (H₂:Hp) (fp:List Addr),PG (gr X sc N cl C s₂ H₂ fp) tg g/\NJ (gr X sc N cl C s₂ H₂ fp) uD tc/\PE (gr X sc N cl C s₂ H₂ fp) vE te)
  (hs:∀x,foldedSetIterable iter X.env x=pure x:=by rw[3]):PE X (.ListComp vE [⟨tg,iter,uD,0⟩] sc pos) (C9 (z8 wi mp g tc te)):=by
 intro pins s σ H Q I h;rw[eval_ListComp];refine Bx (use:=none) hc hi hk (Bw hm) hb I h hs λD C ys H' s' m I' hn f hD q=>?_;refine⟨m,hn,λh' n9=>?_⟩;obtain⟨f0,f1,_,f3,f4,f5⟩:=f;exact⟨.ref D,_,I'.turned (t':=s'.toks) (it:=C) (λb o hb e=>(n9.2 b hb).trans e) f0 f1 f3 f4 f5,rfl,q D hD⟩
end
noncomputable def Fx:List (List Int × af)->List V->List (Key × V)
 | p::kvs,x::xs=>(.inl (p.1.headD 0),x)::Fx kvs xs
 | _,_=>[]
noncomputable def r9:List (List Int × af)->List V->List (List Key × V)
 | p::kvs,x::xs=>(p.1.map .inl,x)::r9 kvs xs
 | _,_=>[]
noncomputable def ma (t:Bool)(kvs:List (List Int × af))(xs:List V):HO:=match t with | true=>.dT (r9 kvs xs) | false=>.dK (Fx kvs xs)
theorem lT (h:some (HO.lst ys)=some (ma t kvs xs)):False:=by cases t<;>cases h
theorem z9 (h:some (HO.tup ys)=some (ma t kvs xs)):False:=by cases t<;>cases h
noncomputable def ml (t:Bool)(kvs:List (List Int × af)):List (af × af):=(.bool t,.none)::kvs.map λp=>(.tuple (p.1.map .int),p.2)
noncomputable def eM (t:Bool)(kvs:List (List Int × af)):af:=.dict (ml t kvs)
mutual
def dY (S:List Addr)(H:Hp):af->V->Prop
 | .none,v=>v=.f'
 | .bool b,v=>v=.bl b
 | .int i,v=>v=.int i
 | .str x,v=>v=.str x
 | .tuple ds,v=>∃a xs,v=.ref a/\H a=some (.tup xs)/\dw S H ds xs
 | .list ds,v=>∃a xs,v=.ref a/\H a=some (.lst xs)/\a ∉ S/\dw S H ds xs
 | .dict l,v=>∃a t kvs xs,v=.ref a/\l=ml t kvs/\H a=some (ma t kvs xs)/\a ∉ S/\(t=false->∀p∈kvs,p.1.length=1)/\fO S H l (.f'::xs)
def dw (S:List Addr)(H:Hp):List af->List V->Prop
 | [],xs=>xs=[]
 | d::ds,xs=>∃x r,xs=x::r/\dY S H d x/\dw S H ds r
def fO (S:List Addr)(H:Hp):List (af × af)->List V->Prop
 | [],xs=>xs=[]
 | p::l,xs=>∃x r,xs=x::r/\yt S H p x/\fO S H l r
def yt (S:List Addr)(H:Hp):af × af->V->Prop
 | (_,d),x=>dY S H d x
end
structure Ext (S:List Addr) (H H':Hp):Prop where
 keep:∀b o,b ∉ S->H b=some o->H' b=some o
 tup:∀b xs,H b=some (.tup xs)->H' b=some (.tup xs)
theorem Ext.refl (S:List Addr)(H:Hp):Ext S H H:=⟨λ_ _ _ e=>e,λ_ _ e=>e⟩
theorem Ext.trans (a:Ext S H H1)(b:Ext S H1 H2):Ext S H H2:=⟨λc o hc e=>b.keep c o hc (a.keep c o hc e),λc xs e=>b.tup c xs (a.tup c xs e)⟩
theorem Ext.mono (a:Ext S H H')(h:∀b∈S,b∈S'):Ext S' H H':=⟨λb o hb e=>a.keep b o (λz=>hb (h b z)) e,a.tup⟩
theorem Ext.new (h:H p=none):Ext S H (eg H p o):=⟨λb u _ e=>by rw[dH (e9 e h)];exact e,λb xs e=>by rw[dH (e9 e h)];exact e⟩
theorem Ext.set (hp:p∈S)(h:H p=some (.lst xs)):Ext S H (eg H p o) :=
 ⟨λb u hb e=>by rw[dH (λ(z:b=p)=>hb (by rw[z];exact hp))];exact e,λb ys e=>by rw[dH (λz=>by rw[z,h] at e;cases e)];exact e⟩
theorem Ext.Q9 {S:List Addr}{H0 H:Hp}{p:Addr}{o:HO}{xs:List V}(a:Ext S H0 H)(h0:H0 p=none)(h:H p=some (.lst xs)):Ext S H0 (eg H p o) :=
 ⟨λb u hb e=>by rw[dH (λz=>by rw[z,h0] at e;cases e)];exact a.keep b u hb e,λb ys e=>by rw[dH (λz=>by rw[z,h0] at e;cases e)];exact a.tup b ys e⟩
theorem Ext.fresh (a:Ext S H0 H)(hp:p ∉ S)(h:H p=none):H0 p=none:=by
 cases e:H0 p with
 | none=>rfl
 | some o=>rw[a.keep p o hp e] at h;cases h
mutual
theorem dY.ext {S:List Addr}{H H':Hp}(x:Ext S H H'):∀{d:af} {v:V},dY S H d v->dY S H' d v
 | .none,_,h=>h
 | .bool _,_,h=>h
 | .int _,_,h=>h
 | .str _,_,h=>h
 | .tuple ds,_,h=>by
  unfold dY at h ⊢;obtain⟨a,xs,e,ha,hr⟩:=h;exact⟨a,xs,e,x.tup a xs ha,dw.ext x hr⟩
 | .list ds,_,h=>by
  unfold dY at h ⊢;obtain⟨a,xs,e,ha,hs,hr⟩:=h;exact⟨a,xs,e,x.keep a _ hs ha,hs,dw.ext x hr⟩
 | .dict l,_,h=>by
  unfold dY at h ⊢;obtain⟨a,t,kvs,xs,e,el,ha,hs,hk,hr⟩:=h;exact⟨a,t,kvs,xs,e,el,x.keep a _ hs ha,hs,hk,fO.ext x hr⟩
theorem dw.ext {S:List Addr}{H H':Hp}(x:Ext S H H'):∀{ds:List af} {vs:List V},dw S H ds vs->dw S H' ds vs
 | [],_,h=>h
 | d::ds,_,h=>by
  unfold dw at h ⊢;obtain⟨y,r,e,h1,h2⟩:=h;exact⟨y,r,e,dY.ext x h1,dw.ext x h2⟩
theorem fO.ext {S:List Addr}{H H':Hp}(x:Ext S H H'):∀{l:List (af × af)} {vs:List V},fO S H l vs->fO S H' l vs
 | [],_,h=>h
 | (_,d)::l,_,h=>by
  unfold fO yt at h ⊢;obtain⟨y,r,e,h1,h2⟩:=h;exact⟨y,r,e,dY.ext x h1,fO.ext x h2⟩
end
mutual
theorem dY.less {S S':List Addr}{H:Hp}(x:∀b∈S',b∈S):∀{d:af} {v:V},dY S H d v->dY S' H d v
 | .none,_,h=>h
 | .bool _,_,h=>h
 | .int _,_,h=>h
 | .str _,_,h=>h
 | .tuple ds,_,h=>by
  unfold dY at h ⊢;obtain⟨a,xs,e,ha,hr⟩:=h;exact⟨a,xs,e,ha,dw.less x hr⟩
 | .list ds,_,h=>by
  unfold dY at h ⊢;obtain⟨a,xs,e,ha,hs,hr⟩:=h;exact⟨a,xs,e,ha,λz=>hs (x a z),dw.less x hr⟩
 | .dict l,_,h=>by
  unfold dY at h ⊢;obtain⟨a,t,kvs,xs,e,el,ha,hs,hk,hr⟩:=h;exact⟨a,t,kvs,xs,e,el,ha,λz=>hs (x a z),hk,fO.less x hr⟩
theorem dw.less {S S':List Addr}{H:Hp}(x:∀b∈S',b∈S):∀{ds:List af} {vs:List V},dw S H ds vs->dw S' H ds vs
 | [],_,h=>h
 | d::ds,_,h=>by
  unfold dw at h ⊢;obtain⟨y,r,e,h1,h2⟩:=h;exact⟨y,r,e,dY.less x h1,dw.less x h2⟩
theorem fO.less {S S':List Addr}{H:Hp}(x:∀b∈S',b∈S):∀{l:List (af × af)} {vs:List V},fO S H l vs->fO S' H l vs
 | [],_,h=>h
 | (_,d)::l,_,h=>by
  unfold fO yt at h ⊢;obtain⟨y,r,e,h1,h2⟩:=h;exact⟨y,r,e,dY.less x h1,fO.less x h2⟩
end
section
theorem dw.nil:dw S H [] []:=by unfold dw;rfl
theorem dw.cons (h:dY S H d x)(t:dw S H ds xs):dw S H (d::ds) (x::xs):=by unfold dw;exact⟨x,xs,rfl,h,t⟩
theorem dw.of_cons (h:dw S H (d::ds) xs):∃x r,xs=x::r/\dY S H d x/\dw S H ds r:=by unfold dw at h;exact h
theorem dw.eO (h:dw S H [] xs):xs=[]:=by unfold dw at h;exact h
theorem dw.length:∀{ds:List af} {xs:List V},dw S H ds xs->xs.length=ds.length
 | [],_,h=>by rw[h.eO];rfl
 | _::_,_,h=>by
  obtain⟨x,r,e,_,h2⟩:=h.of_cons;subst e;simp[h2.length]
theorem dw.get:∀{ds:List af} {xs:List V} {i:Nat} {x:V},dw S H ds xs->xs[i]? = some x->∃d,ds[i]? = some d/\dY S H d x
 | [],_,i,x,h,e=>by rw[h.eO] at e;cases e
 | d::ds,_,0,x,h,e=>by
  obtain⟨y,r,e1,h1,h2⟩:=h.of_cons;subst e1;cases e;exact⟨d,rfl,h1⟩
 | d::ds,_,i+1,x,h,e=>by
  obtain⟨y,r,e1,h1,h2⟩:=h.of_cons;subst e1;obtain⟨d',q,h3⟩:=dw.get (i:=i) h2 (by simpa using e);exact⟨d',by simpa using q,h3⟩
theorem dw.at:∀{ds:List af} {xs:List V} {i:Nat} {d:af},dw S H ds xs->ds[i]? = some d->∃x,xs[i]? = some x/\dY S H d x
 | [],_,i,d,h,e=>by cases e
 | d::ds,_,0,d',h,e=>by
  obtain⟨y,r,e1,h1,h2⟩:=h.of_cons;subst e1;cases e;exact⟨y,rfl,h1⟩
 | d::ds,_,i+1,d',h,e=>by
  obtain⟨y,r,e1,h1,h2⟩:=h.of_cons;subst e1;obtain⟨x,q,h3⟩:=dw.at (i:=i) h2 (by simpa using e);exact⟨x,by simpa using q,h3⟩
theorem dw.append:∀{ds es:List af} {xs ys:List V},dw S H ds xs->dw S H es ys->dw S H (ds++es) (xs++ys)
 | [],_,_,_,h,k=>by rw[h.eO];exact k
 | d::ds,_,_,_,h,k=>by
  obtain⟨y,r,e1,h1,h2⟩:=h.of_cons;subst e1;exact .cons h1 (dw.append h2 k)
theorem dw.take:∀{ds:List af} {xs:List V} (n:Nat),dw S H ds xs->dw S H (ds.take n) (xs.take n)
 | _,_,0,_=>.nil
 | [],_,n+1,h=>by rw[h.eO];exact .nil
 | d::ds,_,n+1,h=>by
  obtain⟨y,r,e1,h1,h2⟩:=h.of_cons;subst e1;exact .cons h1 (dw.take n h2)
theorem dw.drop:∀{ds:List af} {xs:List V} (n:Nat),dw S H ds xs->dw S H (ds.drop n) (xs.drop n)
 | _,_,0,h=>h
 | [],_,n+1,h=>by rw[h.eO];exact .nil
 | d::ds,_,n+1,h=>by
  obtain⟨y,r,e1,h1,h2⟩:=h.of_cons;subst e1;exact dw.drop n h2
theorem dw.ints:∀(ns:List Int),dw S H (ns.map af.int) (ns.map V.int)
 | []=>.nil
 | n::ns=>.cons (by unfold dY;rfl) (dw.ints ns)
theorem dY.tup (h:H a=some (.tup xs))(r:dw S H ds xs):dY S H (.tuple ds) (.ref a):=by unfold dY;exact⟨a,xs,rfl,h,r⟩
theorem dY.lst (h:H a=some (.lst xs))(hs:a ∉ S)(r:dw S H ds xs):dY S H (.list ds) (.ref a):=by unfold dY;exact⟨a,xs,rfl,h,hs,r⟩
theorem dY.int (i:Int):dY S H (.int i) (.int i):=by unfold dY;rfl
theorem dY.bl (b:Bool):dY S H (.bool b) (.bl b):=by unfold dY;rfl
theorem dY.f':dY S H .none .f':=by unfold dY;rfl
theorem dY.str (x:Str):dY S H (.str x) (.str x):=by unfold dY;rfl
theorem dY.eY (h:dY S H (.tuple ds) v):∃a xs,v=.ref a/\H a=some (.tup xs)/\dw S H ds xs:=by unfold dY at h;exact h
theorem dY.eR (h:dY S H (.list ds) v):∃a xs,v=.ref a/\H a=some (.lst xs)/\a ∉ S/\dw S H ds xs:=by unfold dY at h;exact h
theorem fO.By:∀{l:List (af × af)} {xs:List V},fO S H l xs↔dw S H (l.map (·.2)) xs
 | [],xs=>by unfold fO;simp[dw]
 | (_,d)::l,xs=>by
  unfold fO yt;rw[ak,dw];exact⟨λ⟨x,r,e,h1,h2⟩=>⟨x,r,e,h1,fO.By.mp h2⟩,λ⟨x,r,e,h1,h2⟩=>⟨x,r,e,h1,fO.By.mpr h2⟩⟩
theorem g9 (t:Bool)(kvs:List (List Int × af)):(ml t kvs).map (·.2)=.none::kvs.map (·.2):=by unfold ml;rw[ak,bA];rfl
theorem dY.Mw (h:H a=some (ma t kvs xs))(hs:a ∉ S)(hk:t=false->∀p∈kvs,p.1.length=1)(r:dw S H (kvs.map (·.2)) xs):dY S H (eM t kvs) (.ref a):=by
 unfold eM dY;exact⟨a,t,kvs,xs,rfl,rfl,h,hs,hk,fO.By.mpr (by rw[g9];exact .cons .f' r)⟩
theorem dY.mL (h:dY S H (.dict l) v):∃a t kvs xs,v=.ref a/\l=ml t kvs/\H a=some (ma t kvs xs)/\a ∉ S/\(t=false->∀p∈kvs,p.1.length=1)/\dw S H (kvs.map (·.2)) xs:=by
 unfold dY at h;obtain⟨a,t,kvs,xs,e,rfl,ha,hs,hk,hr⟩:=h;have:=fO.By.mp hr;rw[g9] at this;obtain⟨x,r,e2,_,h2⟩:=this.of_cons;injection e2 with _ e3;subst e3;exact⟨a,t,kvs,xs,e,rfl,ha,hs,hk,h2⟩
theorem dY.ee (h:dY S H (.int i) v):v=.int i:=by unfold dY at h;exact h
theorem dY.kB (h:dY S H (.bool b) v):v=.bl b:=by unfold dY at h;exact h
theorem dY.jx (h:dY S H (.str x) v):v=.str x:=by unfold dY at h;exact h
theorem dY.j8 (h:dY S H .none v):v=.f':=by unfold dY at h;exact h
end
mutual
theorem dY.reads {P:aV}{w:World}{S:List Addr}{H:Hp}{h:Heap}(ok:kO P w H h):∀{d:af} {v:V} {u:ah},d.canLay0=true->dY S H d v->RelV v u->∃as,Reads h u d as
 | .none,v,u,_,r,q=>by cases r.j8;cases (show u=ah.none from q);exact⟨_,.none⟩
 | .bool b,v,u,_,r,q=>by cases r.kB;cases (show u=ah.bool b from q);exact⟨_,.bool b⟩
 | .int i,v,u,_,r,q=>by cases r.ee;obtain⟨t,e⟩:=(show ∃t,u=ah.int i t from q);cases e;exact⟨_,.int i t⟩
 | .str x,v,u,_,r,q=>by cases r.jx;obtain⟨t,e⟩:=(show ∃t,u=ah.str x t from q);cases e;exact⟨_,.str x t⟩
 | .tuple ds,v,u,c0,r,q=>by
  obtain⟨a,xs,rfl,ha,hr⟩:=r.eY;cases (show u=ah.ref a from q);obtain⟨_,its,rv,o,e,c,n,d,_⟩:=ok a _ ha;obtain⟨as,ra⟩:=dw.reads ok (by simpa [af.canLay0] using c0) hr rv;exact⟨_,.tuple e c d (by simpa using ra)⟩
 | .list ds,v,u,c0,r,q=>by
  obtain⟨a,xs,rfl,ha,_,hr⟩:=r.eR;cases (show u=ah.ref a from q);obtain⟨_,its,n,rv,e⟩:=ok a _ ha;obtain⟨as,ra⟩:=dw.reads ok (by simpa [af.canLay0] using c0) hr rv;exact⟨_,.list e rfl rfl (by simpa using ra)⟩
 | .dict _,v,u,c0,r,q=>by simp[af.canLay0] at c0
theorem dw.reads {P:aV}{w:World}{S:List Addr}{H:Hp}{h:Heap}(ok:kO P w H h):∀{ds:List af} {xs:List V} {us:List ah},af.canLayAll0 ds=true->dw S H ds xs->dW xs us->∃as,ReadsAll h us ds as
 | [],xs,us,_,r,q=>by
  cases r.eO;cases q;exact⟨_,.nil⟩
 | d::ds,xs,us,c0,r,q=>by
  simp only[af.canLayAll0,bH] at c0;obtain⟨x,t,rfl,h1,h2⟩:=r.of_cons
  cases q with
  | cons q1 q2 =>
   obtain⟨as,a1⟩:=dY.reads ok c0.1 h1 q1;obtain⟨bs,b1⟩:=dw.reads ok c0.2 h2 q2;exact⟨_,.cons a1 b1⟩
end
structure Good (d:af):Prop where
 lay:d.canLay0=true
 C':d.showable=true
 short:d.leavesShort 60=true
 deep:d.depth<=60
 NO:d.weight<=200000
theorem Good.nodict (g:Good d):d.hasDict=false:=af.hasDict_of_canLay d g.lay
theorem Good.fits (g:Good d):d.shown.length<=aA:=by
 have h:=af.shown_le 60 (!2) d g.short;have h2:=g.NO;rw[sizeLine_eq];omega
section
theorem yu (hr:f6 k X.A):fP X (.builtin "repr") (λxs H Q=>∃S d v,xs=[v]/\dY S H d v/\Good d/\Q (.str d.shown) H):=by
 intro pins s σ H xs us Q I r h;obtain⟨S,d,v,rfl,rp,g,q⟩:=h;obtain⟨u,rfl,ru⟩:=vals1 r;have Fy:=hr.units;have fin:∀(h':Heap) (t:Tok) (tk:Nat),(∀b o,s.heap.get? b=some o->h'.get? b=some o)->EP X pins σ Q (.str d.shown t) { s with heap:=h',toks:=tk }:=λh' t tk kp=>⟨.str d.shown,H,I.kept kp,⟨t,rfl⟩,q⟩;have GA:∀(t:Tok) (tk:Nat),EP X pins σ Q (.str d.shown t) { s with toks:=tk }:=λt tk=>fin s.heap t tk λ_ _ e=>e
 cases d with
 | none=>cases rp.j8;cases (show u=ah.none from ru);exact P.repr_of_none (GA _ _)
 | bool b=>cases rp.kB;cases (show u=ah.bool b from ru);exact P.repr_of_bool (GA _ _)
 | int i=>cases rp.ee;obtain⟨t,e⟩:=(show ∃t,u=ah.int i t from ru);cases e;exact P.repr_of_int (by simpa [af.showable] using g.C') (GA _ _)
 | str x=>cases rp.jx;obtain⟨t,e⟩:=(show ∃t,u=ah.str x t from ru);cases e;exact P.repr_of_str (GA _ _) g.fits
 | tuple ds =>
  obtain⟨as,ra⟩:=dY.reads I.eD g.lay rp ru;obtain⟨a,xs,rfl,_⟩:=rp.eY;cases (show u=ah.ref a from ru);exact repr_of_reads' ra g.C' (af.noDict_hsm g.nodict) hr.gd (by have:=g.deep;omega) (λ_ _ e=>e) (λh' t tk kp=>fin h' t tk kp) g.fits
 | list ds =>
  obtain⟨as,ra⟩:=dY.reads I.eD g.lay rp ru;obtain⟨a,xs,rfl,_⟩:=rp.eR;cases (show u=ah.ref a from ru);exact repr_of_reads' ra g.C' (af.noDict_hsm g.nodict) hr.gd (by have:=g.deep;omega) (λ_ _ e=>e) (λh' t tk kp=>fin h' t tk kp) g.fits
 | dict _=>have z:=g.lay;simp[af.canLay0] at z
theorem Dc:fP X (.builtin "isinstance") (λxs H Q=>∃x t c b,xs=[x,.ty c]/\l7 X.K H x (.type t)/\W.kitOne X.K (.type t) (.type c)=some b/\Q (.bl b) H):=by
 intro pins s σ H xs us Q I r h;obtain⟨x,t,c,b,rfl,ty,e,q⟩:=h;obtain⟨u,u2,rfl,rx,rc⟩:=vals2 r;cases (show u2=ah.type c from rc);exact Bm I rx ty e λtk=>⟨.bl b,H,I.tok tk,rfl,q⟩
end
noncomputable def Ra:af->String
 | .none => "NoneType"
 | .bool _ => "bool"
 | .int _ => "int"
 | .str _ => "str"
 | .list _ => "list"
 | .tuple _ => "tuple"
 | .dict _ => "dict"
theorem dY.ty {K:W.Frag}{S:List Addr}{H:Hp}{d:af}{v:V}(h:dY S H d v):l7 K H v (.type (Ra d)):=by
 cases d with
 | none=>cases h.j8;exact .f'
 | bool b=>cases h.kB;exact .bl b
 | int i=>cases h.ee;exact .int i
 | str x=>cases h.jx;exact .str x
 | tuple ds=>obtain⟨a,xs,rfl,ha,_⟩:=h.eY;exact .tup ha
 | list ds=>obtain⟨a,xs,rfl,ha,_⟩:=h.eR;exact .lst ha
 | dict _ =>
  obtain⟨a,t,kvs,xs,rfl,_,ha,_⟩:=h.mL
  cases t with
  | true=>exact .dT ha
  | false=>exact .dK ha
end L2
namespace PySem
open Sem (wp)
open AutoSeq1 (wpAny_loadPart')
section
theorem nC {Q:List ah->ax->Prop}{r:Addr}{a b c:Int}{t u v:Tok}{n:Nat}(hh:A.handled=none)(hr:IsRange s.heap r a b c t u v)(Kz:Builtin.Range.small a b c=true)
  (hn:Builtin.Range.rangeSize a b c=n) (hlen:n<=2 ^ 24)
  (hQ:∀h' tk (acc:Array ah),(∀b o,s.heap.get? b=some o->h'.get? b=some o)->ItemsOf (λi v=>∃t,v=.int (a+i * c) t) acc n->Q acc.toList { s with heap:=h',toks:=tk }) :
  aG (model prog w) A (collect (.ref r)) Q E s:=by
 unfold collect;refine ag (wpAny_runValue (codeAny_builtin F.entry_proto_collect ?_));rw[Around.under_plainId F.plain_proto_collect _];show aG _ A.in1 (newList [] >>= λl=>again (.builtin "list.__iadd__" ⟨[l,.ref r],[]⟩)) _ _ s;refine ag (bh ?_);refine ap ⟨plainId_quiet F.plain_list_iadd _,codeAny_builtin F.entry_list_iadd ?_⟩;rw[Around.under_plainId F.plain_list_iadd _];show aG _ A.in1 (Builtin.List.listExtendWith (.ref s.heap.objs.size) (.ref r) (.ref s.heap.objs.size)) _ _ _;have hS:(s.heap.push { cls:=.type "list",data:=.seq ([]:List ah).toArray }).get? s.heap.objs.size=some { cls:=.type "list",data:=.seq #[] 0 }:=aB _ rfl
 have NP:∀(h':Heap) (tk:Nat) (acc:Array ah) (c':Nat),(∀b o,b≠s.heap.objs.size->(s.heap.push { cls:=.type "list",data:=.seq ([]:List ah).toArray }).get? b=some o->h'.get? b=some o) ->
   h'.get? s.heap.objs.size=some { cls:=.type "list",dict:=none,data:=.seq acc c',slots:=#[] }->ItemsOf (λi v=>∃t,v=.int (a+i * c) t) acc n ->
   aG (model prog w) A (match ah.ref s.heap.objs.size with
   | ah.ref a=>do
    match (<- load a).data with
     | Data.seq xs _=>pure xs.toList
     | _=>unsupported "internal:collect"
   | _=>unsupported "internal:collect") Q E { s with heap:=h',toks:=tk }:=λh' tk acc c' kp e hi=>by
  show aG _ A (load s.heap.objs.size >>= _) _ _ _;refine ag (wpAny_load e ?_);exact ap (hQ h' tk acc (λb o hb=>kp b o (bp (aI hb)) (aj _ hb)) hi)
 refine b8 (wpAny_extend_range (A:=A) (R:=λr' s'=>r'=.ok (.ret (.ref s.heap.objs.size))/\∃h' tk acc c',s'={ s with heap:=h',toks:=tk }/\(∀b o,b≠s.heap.objs.size->(s.heap.push { cls:=.type "list",data:=.seq ([]:List ah).toArray }).get? b=some o->h'.get? b=some o) /\
   h'.get? s.heap.objs.size=some { cls:=.type "list",dict:=none,data:=.seq acc c',slots:=#[] }/\ItemsOf (λi v=>∃t,v=.int (a+i * c) t) acc n)
  (s:={ s with heap:=s.heap.push { cls:=.type "list",data:=.seq ([]:List ah).toArray } }) hh (aj _ hr) Kz hn hlen s.heap.objs.size (.ref s.heap.objs.size) 0 hS
  λh' tk acc c' kp e hi=>⟨rfl,h',tk,acc,c',rfl,kp,e,hi⟩) (λfin s' h=>?_) (λe s' h=>?_)
 .cases fin with
  | done f =>
   obtain⟨e,h',tk,acc,c',rfl,kp,q,hi⟩:=h;cases e;exact NP h' tk acc c' kp q hi
  | again c'=>exact⟨h.1,codeAny_mono h.2 λr PH hr=>by obtain⟨rfl,h',tk,acc,c',rfl,kp,q,hi⟩:=hr;exact NP h' tk acc c' kp q hi⟩
 .exact absurd h.1 (!4)
end
end PySem
namespace L2
open PySem PySem.Spec PyProof.Rows
noncomputable def sj (lo hi:Int):List V:=(List.range (hi - lo).toNat).map λ(k:Nat)=>V.int (lo+k)
section
variable {X:Cx}
theorem Dd:fP X (.type "range") (λxs H Q=>∃j:Int,xs=[.int j]/\∀p,H p=none->Q (.ref p) (eg H p (.HX 0 j))):=by
 intro pins s σ H xs us Q I r h;obtain⟨j,rfl,q⟩:=h;obtain⟨u,rfl,ru⟩:=vals1 r;obtain⟨t,rfl⟩:=ru;refine call_range_1 ?_;refine⟨.ref s.heap.objs.size,_,I.laid (o:=.HX 0 j) (λb o e=>aj _ e) (am _) ⟨_,_,_,aB _ rfl⟩,rfl,q _ (I.eD.fresh (am _))⟩
theorem sX {lo hi:Int}{acc:Array ah}(h:ItemsOf (λi v=>∃t,v=ah.int (lo+i * 1) t) acc (hi - lo).toNat):dW (sj lo hi) acc.toList:=by
 obtain⟨hs,wc⟩:=h;unfold sj
 have:∀(l:List ah) (k:Nat),(∀j v,l[j]? = some v->∃t,v=ah.int (lo+((k+j:Nat):Int)) t)->dW ((List.range' k l.length).map λ(k:Nat)=>V.int (lo+k)) l:=by
  intro l
  induction l with
  | nil=>intro k _;exact .nil
  | cons v l ih =>
   intro k hv;rw[ao,List.range'_succ,ak];refine .cons (hv 0 v rfl) (ih (k+1) λj w hw=>?_);obtain⟨t,e⟩:=hv (j+1) w (by simpa using hw);exact⟨t,by rw[e];congr 2;omega⟩
 have q:=this acc.toList 0 λj v hv=>by
  obtain⟨t,e⟩:=wc j v (by simpa using hv);exact⟨t,by rw[e,Int.mul_one,c9]⟩
 rw[List.range_eq_range',<- hs];simpa using q
theorem De (lo hi:Int):Builtin.Range.rangeSize lo hi 1=((hi - lo).toNat:Int):=by rw[rangeSize_one];split<;>omega
theorem qt (hc:X.calm=true):fP X (.type "tuple") (λxs H Q=>∃p lo hi,xs=[.ref p]/\H p=some (.HX lo hi)/\(-(2 ^ 62)<=lo/\lo<2 ^ 62/\-(2 ^ 62)<=hi/\hi<2 ^ 62)/\(hi - lo).toNat<=2 ^ 24/\∀l,H l=none->Q (.ref l) (eg H l (.tup (sj lo hi)))):=by
 intro pins s σ H xs us Q I r h;obtain⟨p,lo,hi,rfl,hp,⟨h1,h2,h3,h4⟩,hl,q⟩:=h;obtain⟨u,rfl,ru⟩:=vals1 r;cases ru;obtain⟨t,u,v,e⟩:=I.eD p _ hp;have hd:=I.ok.hd hc
 have hr:(sj lo hi).length<=aA:=by
  unfold sj;rw[au,List.length_range,sizeLine_eq];omega
 refine callType_new F.called_tuple (!2) (F.typeCall_tuple_1 _) (F.newCall_tuple_1 _) (λobj=>F.args_object_init_2 obj _) F.entry_tuple_new
  (S:=λA' R s'=>A'.handled=none/\s'.heap.get? p=some { cls:=.type "range",data:=.fields #[.int lo t,.int hi u,.int 1 v] }/\∀(h':Heap) (tk:Nat) (acc:Array ah),(∀b o',s'.heap.get? b=some o'->h'.get? b=some o')->ItemsOf (λi v=>∃t,v=.int (lo+i * 1) t) acc (hi - lo).toNat->R (.ok (.ret (.ref h'.objs.size))) { s' with heap:=h'.push { cls:=.type "tuple",data:=.seq acc },toks:=tk })
  (.of_wp λprog w A R s h=>?_) ⟨hd,e,λh' tk acc kp wc=>?_⟩
 .obtain⟨hp,g,d,tk,os⟩:=s
  obtain⟨Qv,ht,h⟩:=h;have KC:=sub_tuple_self;have Tq:=init_tuple_lookup;have WI:=madeHere_tuple;have hT:ax.TypeIs ⟨hp,g,d,tk,os⟩ (.ref p) "range" := ⟨_,ht,rfl⟩
  wp_walk using AutoSeq1.wpAny_loadPart' ht,wpAny_typeOf hT,nC (A:=A.in1) (show A.in1.handled=none from Qv) ht (small_one h1 h2 h3 h4) (De lo hi) hl
  intro h' UQ acc kp wc;show aG _ _ (Builtin.Tuple.tupleExact acc.toList.toArray >>= λv=>ret v) _ _ _;unfold Builtin.Tuple.tupleExact
  have hsz:acc.toList.toArray.size<=aA:=by
   have:=(sX wc).length;simp at this ⊢;omega
  refine ag (bh ?_ hsz);refine ap ⟨_,rfl,?_⟩;have ea:acc.toList.toArray=acc:=by simp
  rw[ea];exact h h' UQ acc kp wc
 .have hv:=sX wc
  have I1:Inv X pins σ H { s with heap:=h',toks:=tk }:=I.kept kp
  have I2:Inv X pins σ (eg H h'.objs.size (.tup (sj lo hi))) { s with heap:=h'.push { cls:=.type "tuple",data:=.seq acc },toks:=tk } :=
   I1.laid (λb o e=>aj _ e) (am _) (show fb X.prog X.w _ _ _ (.tup (sj lo hi)) from ⟨hr,acc.toList,hv,by simpa using se.new _ _⟩)
  exact⟨⟨_,aB _ rfl,rfl⟩,⟨.ref h'.objs.size,_,I2,rfl,q _ (I1.eD.fresh (am _))⟩⟩
end
section
theorem NQ (T:String)(hg:Gl X x)(hm:X.mg x=none)(hv:bootBuiltins x=some (.type T))(hn:x ≠ "__name__" := by decide)(hd:(x == ("__debug__" : Str))=false:=by decide):PE X (.Name x pos) (tC (.ty T)):=FT hg hm hv rfl hn hd
noncomputable def NR (t u:TS):TS:=λD σ H=>∃M:St->Hp->Prop,t { D with nx:=M } σ H/\∀σ' H',M σ' H'->u D σ' H'
theorem GB {st:Stmt}{rest:List Stmt}{t u:TS}(h1:PS X st t)(h2:xX X rest u):xX X (st::rest) (NR t u):=by
 intro pins s σ H D I h;obtain⟨M,q,k⟩:=h;refine wpAny_execs_cons (fk (h1 pins s σ H { D with nx:=M } I q) λf s1 e=>?_)
 cases f with
 | next=>obtain⟨σ1,H1,I1,m1⟩:=e;exact h2 pins s1 σ1 H1 D I1 (k σ1 H1 m1)
 | brk=>exact e
 | cont=>exact e
 | ret u=>exact e
theorem KD {α:Type}{xs:List α}{i:Int}(h0:0<=i)(h1:i<xs.length):∃v,oX xs i=some v/\xs[i.toNat]? = some v:=by
 have gn:i.toNat<xs.length:=by omega
 refine⟨xs[i.toNat],?_,by simp[gn]⟩;unfold oX Co;rw[if_pos h0,if_pos h1];simp[gn]
end
noncomputable def eI:Expr->Bool
 | .Starred ..=>false
 | _=>true
theorem fo (h:eI e=true):starEach (e::es) env=(false,eval e env)::starEach es env:=by
 cases e<;>first | rfl | cases h
theorem jJ:∀{es:List Expr},es.all eI=true->(backTo pos (starEach es env)).any (·.1)=false
 | [],_=>rfl
 | e::es,h=>by
  rw[List.all_cons,bH] at h;rw[fo h.1];show (backTo pos ((false,eval e env)::starEach es env)).any (·.1)=false;have ih:=jJ (pos:=pos) (env:=env) h.2;show (false || (backTo pos (starEach es env)).any (·.1))=false;rw[ih];rfl
theorem qu:∀{es:List Expr},es.all eI=true->(backTo pos (starEach es env)).all (λx=>!x.1)=true
 | [],_=>rfl
 | e::es,h=>by
  rw[List.all_cons,bH] at h;rw[fo h.1];have ih:=qu (pos:=pos) (env:=env) h.2;show (true && (backTo pos (starEach es env)).all (λx=>!x.1))=true;rw[ih];rfl
theorem mm (h:(e::es).all eI=true):eI e=true/\es.all eI=true:=by
 rw[List.all_cons,bH] at h;exact h
structure QE (X:Cx) (e:Expr) (t:TE):Prop where run:PE X e t
structure QT (X:Cx) (e:Expr) (t:TT):Prop where run:PT X e t
structure QW (X:Cx) (e:Expr) (t:TT):Prop where run:PW X e t
structure QA (X:Cx) (es:List Expr) (t:TA):Prop where
 run:PA X es t
 ns:es.all eI=true
structure QS (X:Cx) (st:Stmt) (t:TS):Prop where run:PS X st t
structure wd (X:Cx) (st:List Stmt) (t:TS):Prop where run:xX X st t
structure QG (X:Cx) (e:Expr) (t:TG):Prop where run:PG X e t
structure Iw (X:Cx) (es:List Expr) (t:JJ):Prop where run:M0 X es t
structure QI (X:Cx) (tg iter:Expr) (t:TI):Prop where run:PI X tg iter t
structure QO (X:Cx) (e:Option Expr) (t:TO):Prop where run:PO X e t
structure QK (X:Cx) (uD:List Expr) (t:TT):Prop where run:NJ X uD t
section
variable {X:Cx}{a b c e o i' tg iter vE:Expr}{es:List Expr}{ta tb tc te to ti:TE}{tA FU:TT}{t:TA}{pos p j6 g8 p2:Pos}{k:Nat}{x name:Str}{ps:List Str}{sp:Sp}{id T:String}{rest:List Expr}
theorem qv (i:Nat)(hN:X.N[i]? = some x:=by rfl)(hv:rZ X.env.scope x:=by (first | exact Or.inl rfl | exact Or.inr (Or.inl rfl) | exact Or.inr (Or.inr rfl)))(hd:(x == ("__debug__" : Str))=false:=by decide)
  (iU:(x == ("__classdict__" : Str))=false:=by decide):QE X (.Name x pos) (FQ i):=⟨CB hN hv hd iU⟩
theorem eE {i j pos}:QE X (.Constant (.int i) j pos) (tC (.int i)):=⟨JC⟩
theorem Df {b j pos}:QE X (.Constant (.bool b) j pos) (tC (.bl b)):=⟨MT⟩
theorem KH {j pos}:QE X (.Constant .none j pos) (tC .f'):=⟨CC⟩
theorem NS (T:String)(hg:Gl X x)(hm:X.mg x=none)(hv:bootBuiltins x=some (.type T))(hn:x ≠ "__name__" := by decide)(hd:(x == ("__debug__" : Str))=false:=by decide):QE X (.Name x pos) (tC (.ty T)):=⟨NQ T hg hm hv hn hd⟩
theorem fq (ho:j0 X (binaryOp op) r)(ha:QE X a ta)(hb:QE X b tb):QE X (.BinOp a op b pos) (F8 r ta tb):=⟨M8 ho ha.run hb.run⟩
theorem NT (ho:PD X (unaryOp op) r)(ha:QE X a ta):QE X (.UnaryOp op a pos) (S8 r ta):=⟨M9 ho ha.run⟩
theorem Aa (ho:j0 X (compareOp op) r)(ha:QE X a ta)(hb:QE X b tb)(hm:behindInMarks op b=false):QE X (.Compare a [op] [b] pos) (F8 r ta tb):=⟨F' ho ha.run hb.run hm⟩
theorem pQ (ho:j0 X (compareOp op) r)(ha:QE X a ta)(hb:QE X b tb)(hm:behindInMarks op b=false):QT X (.Compare a [op] [b] pos) (Im (F8 r ta tb)):=⟨Ga ho ha.run hb.run hm⟩
theorem yv (h:QE X e te)(he:∀mh,isTrue e X.env mh=(do let v <- mh;standAt e.pos;holding [v] (truthy v)):=by rw[3]):QT X e (tB te):=⟨JD h.run he⟩
theorem Ab (ha:QT X a tA):QW X (.BoolOp .And [a] pos) tA:=⟨pw_and1 ha.run⟩
theorem KP (ha:QT X a tA):QW X (.BoolOp .Or [a] pos) tA:=⟨pw_or1 ha.run⟩
theorem Dh (ha:QT X a tA)(hb:QW X (.BoolOp .And (b::rest) pos) FU):QW X (.BoolOp .And (a::b::rest) pos) (MU tA FU):=⟨pw_and ha.run hb.run⟩
theorem NU (ha:QT X a tA)(hb:QW X (.BoolOp .Or (b::rest) pos) FU):QW X (.BoolOp .Or (a::b::rest) pos) (S5 tA FU):=⟨pw_or ha.run hb.run⟩
theorem QW.pt (h:QW X e tA):QT X e tA:=⟨h.run.pt⟩
theorem KQ (ha:QT X a tA):QT X (.UnaryOp .Not a pos) (MV tA):=⟨JE ha.run⟩
theorem KR {op}(h:QE X a ta):QE X (.BoolOp op [a] pos) ta:=⟨JF h.run⟩
theorem KU (ha:QE X a ta)(hb:QE X (.BoolOp .And (b::rest) pos) tb):QE X (.BoolOp .And (a::b::rest) pos) (Ib ta tb):=⟨JG ha.run hb.run⟩
theorem Di (ha:QE X a ta):QE X (.UnaryOp .Not a pos) (Ic ta):=⟨JH ha.run⟩
theorem Dj (hc:QT X c tA)(ha:QE X a ta)(hb:QE X b tb):QE X (.IfExp c a b pos) (S6 tA ta tb):=⟨CG hc.run ha.run hb.run⟩
theorem eS:QA X [] Kb:=⟨Kc,rfl⟩
theorem gC (ha:QE X e te)(hr:QA X es t)(hs:eI e=true:=by rfl):QA X (e::es) (CS te t):=⟨Ge ha.run hr.run (fo hs),by rw[List.all_cons,hs,hr.ns];rfl⟩
theorem uF (h:QA X es t):QE X (.List es pos) (Nh t):=⟨Ke h.run⟩
theorem KY {x1}(h:QA X es t):QE X (.Tuple es x1 pos) (Ng t):=⟨Kd h.run⟩
theorem nD (hr:Fw X r)(ha:QE X a ta)(hb:QE X b tb)(hs:um b):QE X (.Subscript a b pos) (F8 r ta tb):=⟨Nq hr ha.run hb.run hs⟩
theorem Ac:QO X none zY:=⟨Gi⟩
theorem Ad (h:QE X e te):QO X (some e) (Ip te):=⟨Gj h.run⟩
theorem we {r:V->Option Int->Option Int->Hp->VK->Prop}{lo hi:Option Expr}{tl th:TO}(hr:Fv X r)(he:QE X e te)(hl:QO X lo tl)(hu:QO X hi th):QE X (.Subscript e (.Slice lo hi none p2) pos) (Tb r te tl th):=⟨CY hr he.run hl.run hu.run⟩
theorem kY (D:d4 X.prog X.w X.K X.mg X.base k x ps sp)(hr:f6 k X.A)(ha:QA X (e::es) t)(hg:Gl X x:=by rfl)(oh:(x == ("__debug__" : Str))=false:=by decide) :
  QE X (.Call (.Name x p) (e::es) [] pos) (qo sp t):=⟨C4 D hr ha.run hg oh (fo (mm ha.ns).1) (jJ (mm ha.ns).2)⟩
theorem gO {r:List V->Hp->VK->Prop}(hc:fP X (.builtin id) r)(hg:Gl X x)(hm:X.mg x=none)(hv:bootBuiltins x=some (.builtin id))(ha:QA X (e::es) t)(hn:x ≠ "__name__" := by decide)(oh:(x == ("__debug__" : Str))=false:=by decide) :
  QE X (.Call (.Name x p) (e::es) [] pos) (Nm r t):=⟨CV hc hg hm hv ha.run hn oh (fo (mm ha.ns).1) (jJ (mm ha.ns).2)⟩
theorem gJ (hc:fP X (.type T) r)(hg:Gl X x)(hm:X.mg x=none)(hv:bootBuiltins x=some (.type T))(ha:QA X (e::es) t)(hn:x ≠ "__name__" := by decide)(oh:(x == ("__debug__" : Str))=false:=by decide) :
  QE X (.Call (.Name x p) (e::es) [] pos) (Nm r t):=⟨Bo hc hg hm hv ha.run hn oh (fo (mm ha.ns).1) (jJ (mm ha.ns).2)⟩
theorem NV {r:V->List V->Hp->VK->Prop}(pa:PlainAttrs T)(slot:Slot T name id)(Kp:typeOf (.builtin id)=pure (.type "method_descriptor"))(hm:Gm X id r)(ho:QE X o to)(ha:QA X (e::es) t)
  (qk:attributeBase o name X.env (eval o X.env)=eval o X.env:=by rfl) (hl:decide ((e::es).length+0+0<30)=true:=by rfl)
  (ql:(j6.endLine == g8.line)=true:=by rfl):QE X (.Call (.Attribute o name j6) (e::es) [] g8) (QM X.K T r to t):=by
 refine⟨Nw pa slot Kp hm ho.run ha.run qk ?_ ql (fo (mm ha.ns).1) (jJ (mm ha.ns).2)⟩;rw[qu ha.ns];exact hl
theorem nE (hN:X.N.Nodup)(hi:X.N[i]? = some x)(hx:Loc X.env.scope x)(hf:X.fn x=true\/X.env.scope.names.lookup x=some .local:=by (first | exact .inl rfl | exact .inr rfl | assumption)):QG X (.Name x pos) (vT i):=⟨FY hN hi hx hf⟩
theorem GC:Iw X [] M3:=⟨FZ⟩
theorem Dk (h1:QG X e tt)(h2:Iw X es u)(hs:(assignEach (e::es) X.env).map (·.2)=assign e X.env::(assignEach es X.env).map (·.2):=by rfl):Iw X (e::es) (Ih tt u):=⟨CI h1.run h2.run hs⟩
theorem KZ (hc:X.calm=true)(h:Iw X es tt)(hn:(assignEach es X.env).length=n:=by rfl)(F0:(assignEach es X.env).findIdx? (·.1)=none:=by rfl):QG X (.Tuple es k pos) (M4 X.K n tt):=⟨JL hc h.run hn F0⟩
theorem uG (ho:QE X o to)(hi:QE X i' ti)(hs:JK X tt)
  (ha:∀v,assign (.Subscript o i' pos) X.env v=(do
   let ov <- holding [v] (eval o X.env);let iv <- holding [v,ov] (eval i' X.env)
   standAt pos
   holding [v,ov,iv] (setItem ov iv v)
   release [v,ov,iv] []):=by rw[3]):QG X (.Subscript o i' pos) (M5 to ti tt):=⟨JM ho.run hi.run hs ha⟩
theorem GD (hl:QE X a ta):QI X tg a (CM X.K ta):=⟨F5 hl.run⟩
theorem K0 (hl:QE X a ta):QI X tg a (JP X.K ta):=⟨JQ hl.run⟩
theorem sY (hg:Gl X "range")(hm:X.mg "range" = none)(ha:QA X [a] t):QI X tg (.Call (.Name "range" p) [a] [] pos) (Ii t):=⟨Bh hg hm ha.run (fo (mm ha.ns).1)⟩
theorem K1:QK X [] Ir:=⟨Gw⟩
theorem yy (h:QT X c tA):QK X [c] tA:=⟨Gx h.run⟩
variable {st:Stmt}{K2 body NW:List Stmt}{ts us:TS}{uD:List Expr}{sc:Scope}{N:List Str}{mp:List (Option Nat)}{wi:TI}{g:TG}
theorem pR:wd X [] Ie:=⟨FV⟩
theorem eN (h1:QS X st ts)(h2:wd X K2 us):wd X (st::K2) (MW ts us):=⟨CH h1.run h2.run⟩
theorem GF (h1:QS X st ts)(h2:wd X K2 us):wd X (st::K2) (NR ts us):=⟨GB h1.run h2.run⟩
theorem gP (h1:QS X st ts):wd X [st] ts:=⟨FW h1.run⟩
theorem GG (he:QE X e te)(hs:swapsWith e none pos.line X.env=pure false:=by rfl):QS X (.Expr e pos) (Ig te):=⟨FX he.run hs⟩
theorem j9 (he:QE X e te):QS X (.Return (some e) pos) (MX te):=⟨JI he.run⟩
theorem Ae (hc:QT X c tA)(ha:wd X body ts)(hb:wd X NW us):QS X (.If c body NW pos) (MY tA ts us):=⟨MZ hc.run ha.run hb.run⟩
theorem gD (hN:X.N.Nodup)(hi:X.N[i]? = some x)(hx:Loc X.env.scope x)(he:QE X e te)(hs:swapsWith e (some (.Name x fZ)) pos.line X.env=pure false:=by rfl)
  (hf:X.fn x=true\/X.env.scope.names.lookup x=some .local:=by (first | exact .inl rfl | exact .inr rfl | assumption)):QS X (.Assign [.Name x fZ] e pos) (CJ te (vT i)):=⟨JO hN hi hx he.run hs hf⟩
theorem qw (he:QE X e te)(hg:QG X tg g)(hs:swapsWithSole [tg] e pos.line X.env=pure false:=by rfl)(hw:swappedStores [tg] e X.env=pure none:=by rfl)
  (h1:(assignEach [tg] X.env).map (·.2)=[assign tg X.env]:=by rfl):QS X (.Assign [tg] e pos) (CJ te g):=⟨JN he.run hg.run hs hw h1⟩
theorem uH (hp:PassesOwn (model X.prog X.w) X.A X.env X.xe)(hc:X.calm=true)(hi:QI X tg iter wi)(hg:QG X tg g)(hb:wd X body ts)(hs:∀x,foldedSetIterable iter X.env x=pure x:=by rw[3]) :
  QS X (.For tg iter body [] pos) (M6 wi g ts):=⟨JR hp hc hi.run hg.run hb.run hs⟩
theorem Dl (hp:PassesOwn (model X.prog X.w) X.A X.env X.xe)(hc:QT X c tA)(hb:wd X body ts):QS X (.While c body [] pos) (CK tA ts):=⟨CL hp hc.run hb.run⟩
theorem uI (hc:X.calm=true)(hi:QI X tg iter wi)(hk:sc.kind=.function)(hm:j7 X.N X.env.scope sc N mp=true)
  (hb:∀(cl:List (Str × Addr)) (C:Addr) (s₂:ax) (H₂:Hp) (fp:List Addr),QG (gr X sc N cl C s₂ H₂ fp) tg g/\QK (gr X sc N cl C s₂ H₂ fp) uD tA/\QE (gr X sc N cl C s₂ H₂ fp) vE te)
  (hs:∀x,foldedSetIterable iter X.env x=pure x:=by rw[3]):QE X (.ListComp vE [⟨tg,iter,uD,0⟩] sc pos) (C9 (z8 wi mp g tA te)) :=
 ⟨Gz hc hi.run hk hm (λcl C s₂ H₂ fp=>⟨(hb cl C s₂ H₂ fp).1.run,(hb cl C s₂ H₂ fp).2.1.run,(hb cl C s₂ H₂ fp).2.2.run⟩) hs⟩
end
theorem v7.K3 {P:aV}{w:World}{K:W.Frag}{mg:Str->Option ah}{base:Heap}{x fi:Str}{st:Stmt}{f:Addr}{fd:bT}{N ps:List Str}{k:Nat}{sp:Sp}(F:v7 K x fi st f fd)(S:fg N ps (dB st))(len:∀vs H Q E,sp vs H Q E->vs.length=ps.length)
  (vX:∀(fj:ah) (A:Around) (outer:List Env) (s:ax) (H:Hp) (vs:List V) (Q:VK) (E:XK),f6 k (A.deeper (envOfC fi (dB st) s.heap.objs.size f fj))->sp vs H Q E ->
   ∃t,wd (mI ux P w K mg base N fi (dB st) f fj A outer s H E).Bg (fE st) t/\t { nx:=λ_ H'=>Q .f' H',rt:=Q } (start N vs) H):kI P w K mg base ux (k+1) f fd ps sp :=
 F.ok S len λfj A outer s H vs Q E hr h=>let ⟨t,q,r⟩:=vX fj A outer s H vs Q E hr h;⟨t,q.run,r⟩
section
variable {X:Cx}(K:W.Frag)
theorem UR (h:X.K=K:=by rfl):Fw X (Nt K):=by subst h;exact Km
theorem GH (h:X.K=K:=by rfl):Fw X (Nr K):=by subst h;exact Gn
theorem Tr (h:X.K=K:=by rfl):Fv X (Nv K):=by subst h;exact Gp
theorem K4 (h:X.K=K:=by rfl):fP X (.builtin "len") (λxs H Q=>∃p ys,xs=[.ref p]/\(gc K H p ys\/iz K H p ys)/\Q (.int ys.length) H):=by subst h;exact uq
theorem Rb (h:X.K=K:=by rfl):fP X (.builtin "isinstance") (λxs H Q=>∃x t c b,xs=[x,.ty c]/\l7 K H x (.type t)/\W.kitOne K (.type t) (.type c)=some b/\Q (.bl b) H):=by subst h;exact Dc
theorem NY (h:X.K=K:=by rfl):fP X (.type "list") (λxs H Q=>∃p ys,xs=[.ref p]/\(gc K H p ys\/iz K H p ys)/\∀l,H l=none->Q (.ref l) (eg H l (.lst ys))):=by subst h;exact uu
theorem yz (h:X.K=K:=by rfl):fP X (.type "tuple") (λxs H Q=>∃p ys,xs=[.ref p]/\((gc K H p ys/\∀l,H l=none->Q (.ref l) (eg H l (.tup ys)))\/(iz K H p ys/\Q (.ref p) H))):=by subst h;exact sh
variable {a o e tg:Expr}{es:List Expr}{ta to:TE}{t:TA}{j6 g8:Pos}{name:Str}{id T:String}
theorem Dm (hl:QE X a ta)(h:X.K=K:=by rfl):QI X tg a (CM K ta):=by subst h;exact GD hl
theorem GI (hl:QE X a ta)(h:X.K=K:=by rfl):QI X tg a (JP K ta):=by subst h;exact K0 hl
theorem K5 {r:V->List V->Hp->VK->Prop}(pa:PlainAttrs T)(slot:Slot T name id)(Kp:typeOf (.builtin id)=pure (.type "method_descriptor"))(hm:Gm X id r)(ho:QE X o to)(ha:QA X (e::es) t)(h:X.K=K:=by rfl)
  (qk:attributeBase o name X.env (eval o X.env)=eval o X.env:=by rfl) (hl:decide ((e::es).length+0+0<30)=true:=by rfl)
  (ql:(j6.endLine == g8.line)=true:=by rfl):QE X (.Call (.Attribute o name j6) (e::es) [] g8) (QM K T r to t):=by subst h;exact NV pa slot Kp hm ho ha qk hl ql
end
end L2
namespace HT
open PySem PyProof.Rows
section
theorem md {t sl:Addr}{items:Array ah}{vl vu:ah}{lo hi:Option Int}{Q:ah->ax->Prop}(ht:IsTup s.heap t items)(hs:s.heap.IsSliceOf sl vl vu .none)(pl:IsPart vl lo)(pu:IsPart vu hi)
  (hw:gh items.size 0 lo=0/\gh items.size items.size hi=items.size) (h:Q (.ref t) s):aG (model prog w) A (getItem (.ref t) (.ref sl)) Q E s:=by
 obtain⟨os,Kk,Fu,Nn⟩:=id hs;have QJ:s.TypeIs (.ref sl) "slice" := ⟨os,Kk,Fu⟩;unfold getItem;try with_reducible refine wpAny_holding ?_
 first | refine ag (ap ?_) | skip
 refine ag (wpAny_sequenceKey ht.typeIs (!2) ?_)
 refine ag (wpAny_callSpecial?_slot (name:=Str.ofString "__getitem__") ht.typeIs PyProof.Rows.slot_tuple_getitem
  (wpAny_call_entry PyProof.Rows.slot_tuple_getitem ht.typeIs entry_tuple_getitem ?_ (args_tuple_getitem _ _)))
 show aG _ _ (Builtin.Tuple.tupleItemsOf (.ref t) >>= _) _ _ s;refine ag (tupleItemsOf_ ht ?_);refine ag (wpAny_typeOf QJ ?_);rw[if_pos (!2)];refine ag (jI hs pl pu ?_)
 have Rf:((((gh items.size 0 lo:Nat):Int) == 0 && (1:Int) == 1 && (gh items.size items.size hi - gh items.size 0 lo) == items.size)=true):=by
  rw[hw.1,hw.2];simp
 show aG _ _ (if (((gh items.size 0 lo:Nat):Int) == 0 && (1:Int) == 1 && (gh items.size items.size hi - gh items.size 0 lo) == items.size)=true then _ else _) _ _ s;rw[if_pos Rf];refine ag ?_;unfold Builtin.Tuple.tupleIsExact;refine ag (wpAny_typeOf ht.typeIs (ap ?_));show aG _ _ (if (ah.type "tuple" == ah.type "tuple")=true then _ else _) _ _ s;rw[if_pos (!2)];exact ag (wpAny_rule (ap ⟨_,rfl,ap h⟩))
end
end HT
namespace L2
open PySem PySem.Spec PyProof.Rows
noncomputable def NZ (K:W.Frag):V->Option Int->Option Int->Hp->VK->Prop:=λx lo hi H Q=>∃a xs,x=.ref a/\iz K H a xs/\(nz xs lo hi=xs->Q (.ref a) H)/\∀p,H p=none->Q (.ref p) (eg H p (.tup (nz xs lo hi)))
section
variable (K:W.Frag)
theorem UU (h:X.K=K:=by rfl):Fv X (NZ K):=by
 subst h;intro pins s σ H x v vl vu lo hi sl Q I rx hs pl pu h;obtain⟨a,xs,rfl,hx,hw,q⟩:=h;by_cases hc:HT.gh xs.length 0 lo=0/\HT.gh xs.length xs.length hi=xs.length
 .cases rx
  obtain⟨its,r,ht,hz⟩:=I.tuple hx;have hlen:its.toArray.size=xs.length:=by rw[aC];exact r.length.symm
  refine⟨"tuple",_,PyProof.Rows.slot_tuple_getitem.lookup,ht.typeIs,?_⟩;refine HT.md ht hs pl pu (by rw[hlen];exact hc) ⟨.ref a,H,I,rfl,hw ?_⟩;unfold nz;rw[hc.1,hc.2];simp
 .exact Kl pins s σ H (.ref a) v vl vu lo hi sl Q I rx hs pl pu ⟨a,xs,rfl,hx,hc,q⟩
end
noncomputable def N0 (K:W.Frag):R2:=λx y H Q=>∃a b xs ys,x=.ref a/\y=.ref b/\iz K H a xs/\iz K H b ys/\xs.length+ys.length<=aA/\(xs=[]->Q (.ref b) H)/\(ys=[]->Q (.ref a) H)/\∀p,H p=none->Q (.ref p) (eg H p (.tup (xs++ys)))
theorem Rh (K:W.Frag)(h:X.K=K:=by rfl):j0 X (binaryOp .Add) (N0 K):=by
 subst h;intro pins s σ H x y v u Q I rx ry h;obtain⟨a,b,xs,ys,rfl,rfl,ha,hb,hz,q0,q1,q2⟩:=h;by_cases hx:xs=[]
 .cases rx
  cases ry;obtain⟨its,r1,p1,_⟩:=I.tuple ha;obtain⟨l8,r2,p2,_⟩:=I.tuple hb;have hi:its=[]:=r1.nA.mpr hx;obtain⟨⟨cls,dd,data,sl⟩,ho,hc,n,hd⟩:=id p1;obtain⟨⟨QH,PJ,data2,Ki⟩,Bp,Cn,n2,vY⟩:=id p2;simp only at hc hd Cn vY;subst hc hd Cn vY
  exact concat_meets ⟨_,ho,rfl⟩ ⟨_,Bp,rfl⟩ noFill_tuple_add seq_tuple_add PySem.F.slot_tuple_add PySem.F.entry_tuple_add (PySem.F.args_tuple_add_2 _ _)
   (tuple_addW0 a b its.toArray l8.toArray n n2 dd PJ sl Ki (by simp[hi])) ⟨ho,Bp,⟨.ref b,H,I,rfl,q0 hx⟩⟩
 .exact Gk pins s σ H _ _ v u Q I rx ry ⟨a,b,xs,ys,rfl,rfl,ha,hb,hx,hz,q1,λ_=>q2⟩
end L2
namespace PySem
open Sem (wp)
theorem jK:fillsNumberSlot (.type "tuple") "mul" = pure false :=
 fillsNumberSlot_seq (id := "tuple.__mul__") (r:=some (.builtin "tuple.__rmul__")) F.slot_tuple_mul.lookup (!3) F.slot_tuple_rmul.lookup (!3)
theorem nF:seqRepeat? (.type "tuple")=pure (some (.builtin "tuple.__mul__")):=by
 unfold seqRepeat?;rw[seqSlot_of (T := "tuple") (name := "__mul__") (id := "tuple.__mul__") F.slot_tuple_mul.lookup (!3),seqSlot_of (T := "tuple") (name := "__rmul__") (id := "tuple.__rmul__") F.slot_tuple_rmul.lookup (!3)];rfl
theorem kZ (a:Int)(t:Tok)(l:Addr)(items:Array ah)(n:Nat)(dd:Option Addr)(sl:Array (Option ah)) :
  Meets (Builtin.«int.__rmul__» ⟨[.int a t,.ref l],[]⟩) (λ_ R s=>s.heap.get? l=some { cls:=.type "tuple",dict:=dd,data:=.seq items n,slots:=sl }/\R (.ok (.ret ah.notImplemented)) s) :=
 .of_wp λprog w A R s h=>by obtain⟨hp,g,d,tk,os⟩:=s;obtain⟨hl,h⟩:=h;wp_walk;exact⟨_,rfl,h⟩
theorem sk (l:Addr)(items:Array ah)(n:Nat)(dd:Option Addr)(sl:Array (Option ah))(k:Int)(t:Tok)(iW:items.isEmpty=false)(h2:2<=k)(hk:k<2 ^ 40)(hz:items.size * k.toNat<=16000000) :
  Meets (Builtin.«tuple.__mul__» ⟨[.ref l,.int k t],[]⟩) (λ_ R s=>s.heap.get? l=some { cls:=.type "tuple",dict:=dd,data:=.seq items n,slots:=sl }/\R (.ok (.ret (ah.ref s.heap.objs.size))) { s with heap:=s.heap.push { cls:=ah.type "tuple",data:=Data.seq (dk (λx1 x2=>x1++x2) #[] (List.replicate k.toNat items)) },toks:=s.toks }) :=
 .of_wp λprog w A R s h=>by
  obtain⟨hp,g,d,tk,os⟩:=s;obtain⟨hl,h⟩:=h;have f1:=AutoSeq1.idx_int;have c0:¬ (decide (k < -(2 ^ 63)) || decide (k ≥ 2 ^ 63))=true:=by simp;omega
  have c1:¬ (items.isEmpty || k == 1)=true:=by rw[iW];simp;omega
  have c2:¬ (decide (k<=0) || items.isEmpty)=true:=by rw[iW];simp;omega
  wp_walk
  have wg:k=((k.toNat:Nat):Int):=by omega
  have hm:(items.size:Int) * k=((items.size * k.toNat:Nat):Int):=by rw[Int.natCast_mul,<- wg]
  have c3:¬ (items.size:Int) * k > (2 ^ 63 - 1) / 8:=by rw[hm];omega
  have c4:¬ Builtin.Tuple.tupleTooMany ((items.size:Int) * k)=true:=by
   rw[hm];unfold Builtin.Tuple.tupleTooMany;rw[decide_eq_true_eq,show aA=16777216 by decide];omega
  have UW:PyProof.Rows.IsTup hp l items:=⟨_,hl,rfl,n,rfl⟩
  have hsz:(dk (λx1 x2=>x1++x2) #[] (List.replicate k.toNat items)).size<=aA:=by
   have e:=AutoListH.size_joined items k.toNat #[];have e0:(#[]:Array ah).size=0:=rfl;rw[e0,c9,Nat.mul_comm] at e;rw[e];exact bu hz (!2)
  rw[if_neg c0];show aG _ _ (Builtin.Tuple.tupleItemsOf (.ref l) >>= _) _ _ _;refine ag (PyProof.Rows.tupleItemsOf_ UW ?_);dsimp only;rw[if_neg c1,if_neg c2,if_neg c3,if_neg c4]
  first
   | exact ag (m:=Builtin.Tuple.tupleExact _) (bh (ap ⟨_,rfl,h⟩) hsz)
   | exact ag (m:=Builtin.Tuple.tupleExact _) (bh (ag (ap (ap ⟨_,rfl,h⟩))) hsz)
   | exact ag (ag (m:=Builtin.Tuple.tupleExact _) (bh (ap (ap ⟨_,rfl,h⟩)) hsz))
   | exact ag (ag (m:=Builtin.Tuple.tupleExact _) (bh (ap ⟨_,rfl,h⟩) hsz))
end PySem
namespace L2
open PySem PySem.Spec PyProof.Rows
section
theorem QE.weaken (h:QE X e t)(w:∀σ H Q,t' σ H Q->t σ H Q):QE X e t':=⟨λpins s σ H Q I q=>h.run pins s σ H Q I (w σ H Q q)⟩
theorem QA.weaken (h:QA X es t)(w:∀σ H Q,t' σ H Q->t σ H Q):QA X es t':=⟨λpos pins s σ H Q I q=>h.run pos pins s σ H Q I (w σ H Q q),h.ns⟩
end
section
variable {X:Cx}{us ui:List Nat}{a b e:Expr}{es:List Expr}{pos:Pos}
noncomputable def Iy (K:W.Frag):R2:=λx y H Q=>∃a k xs,x=.ref a/\y=.int k/\iz K H a xs/\xs≠[]/\2<=k/\k<2 ^ 40/\xs.length * k.toNat<=16000000/\∀p,H p=none->Q (.ref p) (eg H p (.tup (List.replicate k.toNat xs).flatten))
theorem GJ (K:W.Frag)(h:X.K=K:=by rfl):j0 X (binaryOp .Mult) (Iy K):=by
 subst h;intro pins s σ H x y v u Q I rx ry h;obtain⟨a,k,xs,rfl,rfl,hx,iW,h2,hk,hz,q⟩:=h;cases rx;obtain⟨t,rfl⟩:=ry;obtain⟨its,r,ht,hl⟩:=I.tuple hx;obtain⟨⟨cls,dd,data,sl⟩,ho,hc,n,hd⟩:=id ht;simp only at hc hd;subst hc hd
 have Ri:its.toArray.isEmpty=false:=by
  cases its with
  | nil=>exact absurd (r.nA.mp rfl) iW
  | cons _ _=>rfl
 have hsz:its.toArray.size * k.toNat<=16000000:=by rw[aC,<- r.length];exact hz
 refine wpAny_binaryOp_repeat_ref (T := "tuple") (U := "int") (!2) ⟨_,ho,rfl⟩ (λs'=>typeIs_int s' k t) jK F.fills_int_mul F.slot_int_rmul nF F.slot_int_index.lookup
  (call_meets F.slot_int_rmul (typeIs_int s k t) F.entry_int_rmul (F.args_int_rmul_2 _ _) (kZ k t a its.toArray n dd sl)
   ⟨ho,rfl,⟨_,ho,rfl⟩,call_meets F.slot_tuple_mul ⟨_,ho,rfl⟩ F.entry_tuple_mul (F.args_tuple_mul_2 _ _) (sk a its.toArray n dd sl k t Ri h2 hk hsz) ⟨ho,?_⟩⟩)
 have C0:dk (λx1 x2=>x1++x2) #[] (List.replicate k.toNat its.toArray)=(List.replicate k.toNat its).flatten.toArray:=by
  have:=foldl_rep its k.toNat [];rw[aW] at this;exact this
 rw[C0]
 have hlen:(List.replicate k.toNat xs).flatten.length<=aA:=by
  rw[uw,Nat.mul_comm,show aA=16777216 by decide];omega
 exact⟨.ref _,_,I.laid (t':=s.toks) (o:=.tup (List.replicate k.toNat xs).flatten) (λb o e=>aj _ e) (am _) ⟨hlen,_,r.rep k.toNat,se.new _ _⟩,rfl,q _ (I.eD.fresh (am _))⟩
end
section
variable {κ:Type}[DecidableEq κ]
noncomputable def gQ (kvs:List (κ × V))(k:κ):Option V:=(kvs.find? λkv=>decide (kv.1=k)).map (·.2)
noncomputable def iX (kvs:List (κ × V))(k:κ)(v:V):List (κ × V) :=
 if (kvs.any λkv=>decide (kv.1=k))=true then kvs.map (λkv=>if kv.1=k then (kv.1,v) else kv) else kvs++[(k,v)]
theorem fF {p:κ × V}{r:List (κ × V)}{k:κ}(e:p.1=k):gQ (p::r) k=some p.2:=by simp[gQ,bM,e]
theorem fG {p:κ × V}{r:List (κ × V)}{k:κ}(e:¬ p.1=k):gQ (p::r) k=gQ r k:=by simp[gQ,bM,e]
theorem nG (k:κ):∀kvs:List (κ × V),(kvs.any λkv=>decide (kv.1=k))=(gQ kvs k).isSome
 | []=>rfl
 | p::r=>by
  rw[ce];by_cases e:p.1=k
  .simp only[fF e,decide_eq_true e,Bool.true_or,Option.isSome_some]
  .rw[fG e,decide_eq_false e,Bool.false_or];exact nG k r
theorem wj (k j:κ)(y:V):∀kvs:List (κ × V),gQ (kvs.map λkv=>if kv.1=k then (kv.1,y) else kv) j=(gQ kvs j).map λx=>if j=k then y else x
 | []=>rfl
 | p::r=>by
  have ih:=wj k j y r;rw[ak];by_cases h:p.1=k
  .rw[if_pos h]
   by_cases e:p.1=j
   .rw[fF (p:=(p.1,y)) e,fF e,bS,if_pos (e.symm.trans h)]
   .rw[fG (p:=(p.1,y)) e,fG e,ih]
  .rw[if_neg h]
   by_cases e:p.1=j
   .rw[fF (p:=p) e,fF e,bS,if_neg (λz=>h (e.trans z))]
   .rw[fG (p:=p) e,fG e,ih]
theorem sZ (k j:κ)(y:V):∀kvs:List (κ × V),gQ kvs k=none->gQ (kvs++[(k,y)]) j=if j=k then some y else gQ kvs j
 | [],_=>by
  by_cases e:k=j
  .rw[if_pos e.symm];exact fF (p:=(k,y)) e
  .rw[if_neg (λz=>e z.symm)];exact fG (p:=(k,y)) e
 | p::r,hn=>by
  rw[be];have hk:¬ p.1=k:=λz=>by rw[fF z] at hn;cases hn
  rw[fG hk] at hn;have ih:=sZ k j y r hn;by_cases e:p.1=j
  .rw[fF e,fF e,if_neg (λz=>hk (e.trans z))]
  .rw[fG e,fG e,ih]
theorem Dn (kvs:List (κ × V))(k j:κ)(y:V):gQ (iX kvs k y) j=if j=k then some y else gQ kvs j:=by
 unfold iX;by_cases a:(kvs.any λkv=>decide (kv.1=k))=true
 .rw[if_pos a,wj]
  rw[nG] at a;by_cases e:j=k
  .obtain⟨x,hx⟩:=bO.mp a
   rw[if_pos e,e,hx,bS,if_pos rfl]
  .rw[if_neg e]
   cases gQ kvs j with
   | none=>rfl
   | some x=>rw[bS,if_neg e]
 .rw[if_neg a]
  refine sZ k j y kvs ?_;rw[nG] at a
  cases q:gQ kvs k with
  | none=>rfl
  | some x=>rw[q] at a;exact (a rfl).elim
theorem k8 (kvs:List (κ × V))(k:κ)(v:V):(iX kvs k v).length<=kvs.length+1:=by
 unfold iX;split
 .rw[au];omega
 .rw[aH,ao,bn];omega
theorem nu.jL (r:nu o u):o.isSome=u.isSome:=by
 cases o with
 | none=>cases u with
  | none=>rfl
  | some _=>exact (show False from r).elim
 | some _=>cases u with
  | none=>exact (show False from r).elim
  | some _=>rfl
theorem nu.getD (r:nu o u)(rd:RelV d d'):RelV (o.getD d) (u.getD d'):=by
 cases o with
 | none=>cases u with
  | none=>exact rd
  | some _=>exact (show False from r).elim
 | some _=>cases u with
  | none=>exact (show False from r).elim
  | some _=>exact r
theorem KV.val {kvs:List (κ × V)}{vs:List (κ × ah)}(r:KV kvs vs)(k:κ):nu (gQ kvs k) (valueAt vs k):=by
 unfold KV at r
 induction r with
 | nil=>exact True.intro
 | @cons p q ps qs h t ih =>
  obtain⟨h1,h2⟩:=h;by_cases e:p.1=k
  .have e':q.1=k:=h1.symm.trans e
   have b:valueAt (q::qs) k=some q.2:=by simp[valueAt,bM,e']
   rw[fF e,b];exact h2
  .have e':¬ q.1=k:=λz=>e (h1.trans z)
   have b:valueAt (q::qs) k=valueAt qs k:=by simp[valueAt,bM,e']
   rw[fG e,b];exact ih
theorem KV.any (r:KV kvs vs)(k:κ):(kvs.any λkv=>decide (kv.1=k))=vs.any λkv=>decide (kv.1=k):=by
 unfold KV at r
 induction r with
 | nil=>rfl
 | cons h t ih=>rw[ce,ce,ih,h.1]
theorem KV.K6 (r:KV kvs vs)(k:κ)(ry:RelV y u) :
  KV (kvs.map λkv=>if kv.1=k then (kv.1,y) else kv) (vs.map λkv=>if kv.1=k then (kv.1,u) else kv):=by
 unfold KV at r ⊢
 induction r with
 | nil=>exact .nil
 | @cons p q ps qs h t ih =>
  rw[ak,ak];refine .cons ?_ ih;obtain⟨h1,h2⟩:=h;by_cases e:p.1=k
  .rw[if_pos e,if_pos (h1.symm.trans e)];exact⟨h1,ry⟩
  .rw[if_neg e,if_neg (λz=>e (h1.trans z))];exact⟨h1,h2⟩
theorem KV.put (r:KV kvs vs)(k:κ)(ry:RelV y u):KV (iX kvs k y) (stored vs k u):=by
 unfold iX stored;rw[r.any k];by_cases e:(vs.any λkv=>decide (kv.1=k))=true
 .rw[if_pos e,if_pos e];exact r.K6 k ry
 .rw[if_neg e,if_neg e];exact Paired.snoc r ⟨rfl,ry⟩
theorem KV.keys {kvs:List (κ × V)}{vs:List (κ × ah)}(r:KV kvs vs):kvs.map (·.1)=vs.map (·.1):=by
 unfold KV at r
 induction r with
 | nil=>rfl
 | cons h t ih=>rw[ak,ak,ih,h.1]
theorem KV.length (r:KV kvs vs):kvs.length=vs.length:=Paired.length r
end
theorem qx (r:RelV (kV k) u):(d8 P w).is k u=true:=by
 cases k with
 | inl i=>obtain⟨t,e⟩:=(show ∃t,u=ah.int i t from r);subst e;exact vL P w i t
 | inr x=>obtain⟨t,e⟩:=(show ∃t,u=ah.str x t from r);subst e;exact vM P w x t
theorem s9:∀{ks:List Key} {us:List ah},dW (ks.map kV) us->ItemsAre (d8 P w) ks us
 | [],_,r=>by rw[bw] at r;cases r;exact .nil
 | k::ks,_,r=>by
  rw[ak] at r
  cases r with
  | cons h t=>exact .cons (qx h) (s9 t)
noncomputable abbrev KT (H:Hp):List (List Key × V)->List (List Key × Addr × ah)->Prop:=Paired λp q=>p.1=q.1/\H q.2.1=some (.tup (p.1.map kV))/\RelV p.2 q.2.2
theorem KT.val {H:Hp}{kvs:List (List Key × V)}{xs:List (List Key × Addr × ah)}(r:KT H kvs xs)(k:List Key):nu (gQ kvs k) ((atKey xs k).map (·.2)):=by
 induction r with
 | nil=>exact True.intro
 | @cons p q ps qs h t ih =>
  obtain⟨h1,_,h2⟩:=h;by_cases e:p.1=k
  .have e':q.1=k:=h1.symm.trans e
   have b:atKey (q::qs) k=some q.2:=by simp[atKey,bM,e']
   rw[fF e,b];exact h2
  .have e':¬ q.1=k:=λz=>e (h1.trans z)
   have b:atKey (q::qs) k=atKey qs k:=by simp[atKey,bM,e']
   rw[fG e,b];exact ih
theorem KT.K6 (r:KT H kvs xs)(k:List Key)(ry:RelV y u) :
  KT H (kvs.map λkv=>if kv.1=k then (kv.1,y) else kv) (xs.map (putAt k u)):=by
 induction r with
 | nil=>exact .nil
 | @cons p q ps qs h t ih =>
  rw[ak,ak];refine .cons ?_ ih;obtain⟨h1,h2,h3⟩:=h;unfold putAt;by_cases e:p.1=k
  .rw[if_pos e,if_pos (h1.symm.trans e)];exact⟨h1,h2,ry⟩
  .rw[if_neg e,if_neg (λz=>e (h1.trans z))];exact⟨h1,h2,h3⟩
theorem KT.put (r:KT H kvs xs)(k:List Key)(hb:H b=some (.tup (k.map kV)))(ry:RelV y u) :
  KT H (iX kvs k y) (storedH xs k b u):=by
 have e:(kvs.any λkv=>decide (kv.1=k))=(atKey xs k).isSome:=by
  rw[nG,(r.val k).jL,Option.isSome_map]
 unfold iX storedH;rw[e];by_cases q:(atKey xs k).isSome=true
 .rw[if_pos q,if_pos q];exact r.K6 k ry
 .rw[if_neg q,if_neg q];exact Paired.snoc r ⟨rfl,hb,ry⟩
theorem KT.keeps (r:KT H kvs xs)(ht:∀b ys,H b=some (.tup ys)->H' b=some (.tup ys)):KT H' kvs xs :=
 Paired.Jw r λ_ _ z=>⟨z.1,ht _ _ z.2.1,z.2.2⟩
section
theorem Dp (ok:kO P w H h)(e:Rd H a u):fb P w H h a u:=e.ok ok
theorem qy (ok:kO P w H h)(e:Rd H a (.dK kvs)):kvs.length<=aA/\(a == sysModules)=false/\∃vs,KV kvs vs/\h.DictOf (d8 P w) a vs :=
 show fb P w H h a (.dK kvs) from Dp ok e
theorem Iz (ok:kO P w H h)(e:H a=some (.dK kvs)):kvs.length<=aA/\(a == sysModules)=false/\∃vs,KV kvs vs/\h.DictOf (d8 P w) a vs:=qy ok (.inl e)
theorem mM {ks:List Key}(ok:kO P w H h)(e:H a=some (.tup (ks.map kV))):(tupleKind (d8 P w)).is h ks a:=by
 obtain⟨_,its,r,o,h1,h2,n,h3,_⟩:=(show fb P w H h a (.tup (ks.map kV)) from ok a _ e);exact⟨o,its.toArray,n,h1,h2,h3,by simpa using s9 r⟩
theorem qz (ok:kO P w H h)(e:Rd H a (.dT kvs)):kvs.length<=aA/\(a == sysModules)=false /\
  ∃xs,KT H kvs xs/\h.DictOfH (tupleKind (d8 P w)) a xs:=by
 obtain⟨z,y,xs,r,o,es,ep,h1,h2,h3,h4,h5⟩:=(show fb P w H h a (.dT kvs) from Dp ok e);refine⟨z,y,xs,r,o,es,ep,h1,h2,h3,h4,λx hx=>?_,h5⟩
 have all:∀{l:List (List Key × V)} {m:List (List Key × Addr × ah)},KT H l m->∀x∈m,(tupleKind (d8 P w)).is h x.1 x.2.1:=by
  intro l m q
  induction q with
  | nil=>intro x hx;exact nomatch hx
  | @cons p q ps qs hq t ih =>
   intro x hx;rcases av.mp hx with e | hx
   .subst e
    exact mM ok (by rw[<- hq.1];exact hq.2.1)
   .exact ih x hx
 exact all r x hx
theorem IA (ok:kO P w H h)(e:H a=some (.dT kvs)):kvs.length<=aA/\(a == sysModules)=false /\
  ∃xs,KT H kvs xs/\h.DictOfH (tupleKind (d8 P w)) a xs:=qz ok (.inl e)
end
noncomputable def iE (H:Hp)(a:Addr)(y:V)(r:Option V):Prop :=
 (∃kvs k,Rd H a (.dK kvs)/\y=kV k/\r=gQ kvs k)\/∃kvs k b,Rd H a (.dT kvs)/\y=.ref b/\H b=some (.tup (k.map kV))/\r=gQ kvs k
noncomputable def pA (H:Hp)(a:Addr)(y v:V)(H':Hp):Prop :=
 (∃kvs k,H a=some (.dK kvs)/\y=kV k/\kvs.length<aA/\H'=eg H a (.dK (iX kvs k v))) \/
 ∃kvs k b,H a=some (.dT kvs)/\y=.ref b/\H b=some (.tup (k.map kV))/\kvs.length<aA/\H'=eg H a (.dT (iX kvs k v))
theorem iE.k {H:Hp}{a:Addr}{kvs:List (Key × V)}{k:Key}(e:H a=some (.dK kvs)):iE H a (kV k) (gQ kvs k):=.inl ⟨kvs,k,.inl e,rfl,rfl⟩
theorem iE.t {H:Hp}{a b:Addr}{kvs:List (List Key × V)}{k:List Key}(e:H a=some (.dT kvs))(eb:H b=some (.tup (k.map kV))):iE H a (.ref b) (gQ kvs k):=.inr ⟨kvs,k,b,.inl e,rfl,eb,rfl⟩
theorem pA.k {H:Hp}{a:Addr}{kvs:List (Key × V)}{k:Key}{v:V}(e:H a=some (.dK kvs))(hl:kvs.length<aA):pA H a (kV k) v (eg H a (.dK (iX kvs k v))):=.inl ⟨kvs,k,e,rfl,hl,rfl⟩
theorem pA.t {H:Hp}{a b:Addr}{kvs:List (List Key × V)}{k:List Key}{v:V}(e:H a=some (.dT kvs))(eb:H b=some (.tup (k.map kV)))(hl:kvs.length<aA) :
  pA H a (.ref b) v (eg H a (.dT (iX kvs k v))):=.inr ⟨kvs,k,b,e,rfl,eb,hl,rfl⟩
section
theorem Inv.big (I:Inv X pins σ H s):sysModules<s.heap.objs.size:=by
 have h:bq<s.heap.objs.size:=(I.mod.glob.keeps I.bk).lt;exact Nat.lt_trans (!2) h
theorem Bz {Q:ah->ax->Prop}(hu:A.units+1<cLine)(I:Inv X pins σ H s)(g:iE H a y (some v))(ry:RelV y u)(h:∀w' s',Inv X pins σ H s'->RelV v w'->Q w' s') :
  aG (model X.prog X.w) A (getItem (.ref a) u) Q E s:=by
 rcases g with⟨kvs,k,e,ey,l⟩ | ⟨kvs,k,b,e,ey,eb,l⟩
 .subst ey
  obtain⟨z,hd,vs,kC,dd⟩:=qy I.eD e;obtain⟨w',hw,kJ⟩:=nu.some_of (v:=v) (o:=valueAt vs k) (by rw[l];exact kC.val k);exact wpAny_getItem_of (qx ry) dd.mapOf hw (h w' _ (I.tok _) kJ)
 .subst ey
  cases (show u=ah.ref b from ry);obtain⟨z,hd,xs,kC,dd⟩:=qz I.eD e;obtain⟨w',hw,kJ⟩:=nu.some_of (v:=v) (o:=(atKey xs k).map (·.2)) (by rw[l];exact kC.val k);obtain⟨p,hp,Fz⟩:=dm.mp hw;refine wpAny_getItem_heap (tupleKind_room_in1 hu) (mM I.eD eb) dd hp ?_;rw[Fz];exact h w' _ (I.tok _) kJ
theorem Rj {Q:ah->ax->Prop}(hu:A.units+1<cLine)(I:Inv X pins σ H s)(g:iE H a y o)(ry:RelV y u)(h:∀s',Inv X pins σ H s'->Q (.bool o.isSome) s') :
  aG (model X.prog X.w) A (compareOp .In u (.ref a)) Q E s:=by
 rcases g with⟨kvs,k,e,ey,l⟩ | ⟨kvs,k,b,e,ey,eb,l⟩
 .subst ey
  obtain⟨z,hd,vs,kC,dd⟩:=qy I.eD e;refine wpAny_in_of (qx ry) hd dd.mapOf ?_;rw[<- (kC.val k).jL,<- l];exact h _ (I.tok _)
 .subst ey
  cases (show u=ah.ref b from ry);obtain⟨z,hd,xs,kC,dd⟩:=qz I.eD e;refine wpAny_in_heap (tupleKind_room_in1 hu) (mM I.eD eb) hd dd ?_;have q:=(kC.val k).jL;rw[Option.isSome_map] at q;rw[<- q,<- l];exact h _ (I.tok _)
theorem GK (hu:A.units+1<cLine)(I:Inv X pins σ H s)(g:iE H a y o)(ry:RelV y u)(h:∀s',Inv X pins σ H s'->Q (.bool (!o.isSome)) s') :
  aG (model X.prog X.w) A (compareOp .NotIn u (.ref a)) Q E s:=by
 rcases g with⟨kvs,k,e,ey,l⟩ | ⟨kvs,k,b,e,ey,eb,l⟩
 .subst ey
  obtain⟨z,hd,vs,kC,dd⟩:=qy I.eD e;refine wpAny_notIn_of (qx ry) hd dd.mapOf ?_;rw[<- (kC.val k).jL,<- l];exact h _ (I.tok _)
 .subst ey
  cases (show u=ah.ref b from ry);obtain⟨z,hd,xs,kC,dd⟩:=qz I.eD e;refine wpAny_notIn_heap (tupleKind_room_in1 hu) (mM I.eD eb) hd dd ?_;have q:=(kC.val k).jL;rw[Option.isSome_map] at q;rw[<- q,<- l];exact h _ (I.tok _)
theorem pS {h':Heap}{t':Nat}{ob:HO}(I:Inv X pins σ H s)(mu:MK (H a))(hs:Heap.SameBut a s.heap h')(he:∃q,h'.get? a=some q)(new:fb X.prog X.w (eg H a ob) h' a ob) :
  Inv X pins σ (eg H a ob) { s with heap:=h',toks:=t' } :=
 I.write (x:=a) (e:=a) mu (.inl rfl) (λb q hb z=>(hs.2 b hb).trans z) he new
theorem Dq (z:kvs.length<=aA)(hd:(a == sysModules)=false)(kC:KV kvs vs)(dd:h'.DictOf (d8 P w) a vs) :
  fb P w H' h' a (.dK kvs):=⟨z,hd,vs,kC,dd⟩
theorem BA {H':Hp}{Q:Unit->ax->Prop}(hu:A.units+1<cLine)(I:Inv X pins σ H s)(g:pA H a y v H')(ry:RelV y u)(rv:RelV v r)(h:∀s',Inv X pins σ H' s'->Q () s') :
  aG (model X.prog X.w) A (setItem (.ref a) u r) Q E s:=by
 rcases g with⟨kvs,k,e,ey,l,eH⟩ | ⟨kvs,k,b,e,ey,eb,l,eH⟩
 .subst ey eH
  obtain⟨z,hd,vs,kC,dd⟩:=Iz I.eD e;have hz:vs.length<=aA:=by rw[<- kC.length];exact z
  have hl:(iX kvs k v).length<=aA:=by have:=k8 kvs k v;omega
  refine wpAny_setItem_pairs (hsz:=hz) (qx ry) dd λh' GL hs=>h _ ?_;have he:∃q,h'.get? a=some q:=let ⟨q,_,_,hq,_⟩:=GL;⟨q,hq⟩;exact pS I (by rw[e];exact True.intro) hs he (Dq hl hd (kC.put k rv) GL)
 .subst ey eH
  cases (show u=ah.ref b from ry);obtain⟨z,hd,xs,kC,dd⟩:=IA I.eD e;have hz:xs.length<=aA:=by rw[<- Paired.length kC];exact z
  have hl:(iX kvs k v).length<=aA:=by have:=k8 kvs k v;omega
  refine wpAny_setItem_heap (hsz:=hz) (tupleKind_room_in1 hu) (mM I.eD eb) dd λh' GL hs=>h _ ?_;obtain⟨q,es,ep,hq,h2,h3,h4,_,h5⟩:=GL;refine pS I (by rw[e];exact True.intro) hs ⟨q,hq⟩ ⟨hl,hd,_,(kC.put k eb rv).keeps λc ys ec=>?_,q,es,ep,hq,h2,h3,h4,h5⟩;rw[dH (MJ ec e (λz=>nomatch z))];exact ec
end
noncomputable def BB (i:Expr):Prop:=∀ov iv,subscripted i false ov iv=operate [ov,iv] (getItem ov iv)
theorem GN {prog:aV}{w:World}{A:Around}{E:ah->ax->Prop}{s:ax}{env:Env}{value slice:Expr}{pos:Pos}{T id:String}{Q:ah->ax->Prop}
  (hl:typeLookup (.type T) "__getitem__" = pure (some (.builtin id))) (hs:BB slice)
  (h:aG (model prog w) A (eval value env) (λo s₁=>aG (model prog w) A (eval slice env) (λi s₂=>s₂.TypeIs o T/\aG (model prog w) A (getItem o i) Q E s₂) E s₁) E s) :
  aG (model prog w) A (eval (.Subscript value slice pos) env) Q E s:=by
 refine Subscript_ (b8 h (λo s₁ h₁=>b8 h₁ (λi s₂ h₂=>?_) λ_ _ x=>x) λ_ _ x=>x);obtain⟨hT,h₂⟩:=h₂;unfold subscriptTail;refine ag ?_;rw[getitemInPython_of_ne hT.not_modules];refine ag (wpAny_specialOf hT hl ?_)
 have fin:aG (model prog w) A (subscripted slice false o i) (λr s₃=>aG (model prog w) A (letTemporaryGo value o r >>= λ_=>pure r) Q E s₃) E s₂:=by
  rw[hs o i];exact wpAny_operating (b8 h₂ (λr s₃ h₃=>ag (wpAny_letTemporaryGo (ap h₃))) λ_ _ x=>x)
 first
  | exact ap (ag fin)
  | exact ag (ap (ag fin))
  | exact ag fin
theorem wm (I:Inv X pins σ H s)(g:iE H a y o):s.TypeIs (.ref a) "dict" := by
 rcases g with⟨kvs,k,e,_,_⟩ | ⟨kvs,k,b,e,_,_,_⟩
 .obtain⟨_,_,vs,_,dd⟩:=qy I.eD e
  exact dd.typeIs
 .obtain⟨_,_,xs,_,dd⟩:=qz I.eD e
  exact dd.typeIs
noncomputable def IB (td ty:TE):TE:=λσ H Q=>td σ H λx H1=>ty σ H1 λy H2=>∃a v,x=.ref a/\iE H2 a y (some v)/\Q v H2
noncomputable def Rk (ty td:TE):TE:=λσ H Q=>ty σ H λy H1=>td σ H1 λx H2=>∃a o,x=.ref a/\iE H2 a y o/\Q (.bl o.isSome) H2
noncomputable def GO (ty td:TE):TE:=λσ H Q=>ty σ H λy H1=>td σ H1 λx H2=>∃a o,x=.ref a/\iE H2 a y o/\Q (.bl (!o.isSome)) H2
noncomputable def IC (td ty tv:TE):TS:=λD σ H=>tv σ H λv H1=>td σ H1 λx H2=>ty σ H2 λy H3=>∃a H4,x=.ref a/\pA H3 a y v H4/\D.nx σ H4
section
theorem GP (hu:X.A.units+1<cLine)(ho:PE X o td)(hi:PE X i ty)(hs:BB i):PE X (.Subscript o i pos) (IB td ty):=by
 intro pins s σ H Q I h;refine GN PySem.F.slot_dict_getitem.lookup hs (fk (ho pins s σ H _ I h) λu s1 ⟨x,H1,I1,rx,q1⟩=>fk (hi pins s1 σ H1 _ I1 q1) λiv s2 ⟨y,H2,I2,ry,a,v,ex,g,q2⟩=>?_);subst ex;obtain rfl:u=ah.ref a:=rx;exact⟨wm I2 g,Bz hu I2 g ry λw' s3 I3 kJ=>⟨v,H2,I3,kJ,q2⟩⟩
theorem Dr (hu:X.A.units+1<cLine)(hi:PE X i ty)(ho:PE X o td):PC X .In i o (Rk ty td):=by
 intro pins s σ H Q I h;refine fk (hi pins s σ H _ I h) λiv s1 ⟨y,H1,I1,ry,q1⟩=>fk (ho pins s1 σ H1 _ I1 q1) λu s2 ⟨x,H2,I2,rx,a,ov,ex,g,q2⟩=>?_;subst ex;obtain rfl:u=ah.ref a:=rx;exact Rj hu I2 g ry λs3 I3=>⟨.bl ov.isSome,H2,I3,rfl,q2⟩
theorem oj (hu:X.A.units+1<cLine)(hi:PE X i ty)(ho:PE X o td):PC X .NotIn i o (GO ty td):=by
 intro pins s σ H Q I h;refine fk (hi pins s σ H _ I h) λiv s1 ⟨y,H1,I1,ry,q1⟩=>fk (ho pins s1 σ H1 _ I1 q1) λu s2 ⟨x,H2,I2,rx,a,ov,ex,g,q2⟩=>?_;subst ex;obtain rfl:u=ah.ref a:=rx;exact GK hu I2 g ry λs3 I3=>⟨.bl (!ov.isSome),H2,I3,rfl,q2⟩
theorem GQ (hu:X.A.units+1<cLine)(ho:PE X o td)(hi:PE X i ty)(hv:PE X value tv)(hs:swapsWith value (some (.Subscript o i fZ)) pos.line X.env=pure false) :
  PS X (.Assign [.Subscript o i fZ] value pos) (IC td ty tv):=by
 intro pins s σ H D I h;refine wpAny_Assign_Subscript (fk (hv pins s σ H _ I h) λr s1 ⟨v,H1,I1,rv,q1⟩=>fk (ho pins s1 σ H1 _ I1 q1) λu s2 ⟨x,H2,I2,rx,q2⟩=>fk (hi pins s2 σ H2 _ I2 q2) λiv s3 ⟨y,H3,I3,ry,a,H4,ex,g,q3⟩=>?_) hs;subst ex;obtain rfl:u=ah.ref a:=rx;exact BA hu I3 g ry rv λs4 I4=>⟨σ,H4,I4,q3⟩
end
theorem wo (h:Heap)(hb:sysModules<h.objs.size):fb P w H (h.push { cls:=.type "dict",data:=.dict #[] }) h.objs.size (.dK []) :=
 ⟨bF _,beq_eq_false_iff_ne.mpr (Ne.symm (bp hb)),[],.nil,Heap.DictOf.new h⟩
theorem Ds (h:Heap)(hb:sysModules<h.objs.size):fb P w H (h.push { cls:=.type "dict",data:=.dict #[] }) h.objs.size (.dT []) :=
 ⟨bF _,beq_eq_false_iff_ne.mpr (Ne.symm (bp hb)),[],.nil,_,#[],0,aB _ rfl,⟨rfl,rfl,rfl⟩,rfl,rfl,cQ⟩
noncomputable def Dt:TE:=λ_ H Q=>∀p,H p=none->Q (.ref p) (eg H p (.dK []))
section
theorem Du:PE X (.Dict [] [] pos) Dt:=λpins s σ H Q I h =>
 wpAny_Dict_empty ⟨.ref s.heap.objs.size,_,I.laid (a:=s.heap.objs.size) (o:=.dK []) (t':=s.toks) (λ_ _ q=>aj _ q) (am _) (wo s.heap I.big),rfl,h _ (I.eD.fresh (am _))⟩
end
noncomputable def yB:List (TE × TE)->St->Hp->(List (V × V)->Hp->Prop)->Prop
 | [],_,H,Q=>Q [] H
 | (tk,tv)::r,σ,H,Q=>tk σ H λx H1=>tv σ H1 λy H2=>yB r σ H2 λps H3=>Q ((x,y)::ps) H3
noncomputable abbrev VV:List (V × V)->List (ah × ah)->Prop:=Paired λp q=>RelV p.1 q.1/\RelV p.2 q.2
noncomputable def PN (X:Cx)(pos:Pos)(keys:List (Option Expr))(values:List Expr)(K7:List (TE × TE)):Prop :=
 ∀(pins:List (Addr × Obj)) (s:ax) (σ:St) (H:Hp) (Q:List (V × V)->Hp->Prop),Inv X pins σ H s->yB K7 σ H Q ->
  aG (model X.prog X.w) X.A (evalPairs (pairTrees keys values X.env pos)) (λvs s'=>∃ps H',Inv X pins σ H' s'/\VV ps vs/\Q ps H') X.xe s
theorem GR:PN X pos [] [] []:=λpins s σ H Q I h=>pairTrees_nil_walk ⟨[],H,I,.nil,h⟩
theorem Dv (hk:PE X k tk)(hv:PE X v tv)(hr:PN X pos ks vs K7) :
  PN X pos (some k::ks) (v::vs) ((tk,tv)::K7):=λpins s σ H Q I h =>
 pairTrees_cons_walk (fk (hk pins s σ H _ I h) λu s1 ⟨x,H1,I1,rx,q1⟩=>fk (hv pins s1 σ H1 _ I1 q1) λw2 s2 ⟨y,H2,I2,ry,q2⟩ =>
  fk (hr pins s2 σ H2 _ I2 q2) λws s3 ⟨ps,H3,I3,kC,q3⟩=>⟨(x,y)::ps,H3,I3,.cons ⟨rx,ry⟩ kC,q3⟩)
noncomputable def qA (kvs more:List (Key × V)):List (Key × V):=more.foldl (λacc kv=>iX acc kv.1 kv.2) kvs
theorem KV.merge:∀{more:List (Key × V)} {rs:List (Key × ah)} {kvs:List (Key × V)} {vs:List (Key × ah)},KV more rs->KV kvs vs->KV (qA kvs more) (merged vs rs):=by
 intro more rs kvs vs r;unfold KV at r
 induction r generalizing kvs vs with
 | nil=>intro q;exact q
 | @cons p q ps qs h t ih =>
  intro r0
  have e:KV (iX kvs p.1 p.2) (stored vs q.1 q.2):=by
   have:=r0.put p.1 h.2;rw[<- h.1];exact this
  exact ih e
theorem mn:∀(more kvs:List (Key × V)),(qA kvs more).length<=kvs.length+more.length
 | [],kvs=>by show kvs.length<=kvs.length+0;omega
 | p::r,kvs=>by
  have h1:=mn r (iX kvs p.1 p.2);have h2:=k8 kvs p.1 p.2;show (qA (iX kvs p.1 p.2) r).length<=_;rw[ao];omega
theorem qB:∀{kvs:List (Key × V)} {ws:List (ah × ah)},VV (kvs.map λkv=>(kV kv.1,kv.2)) ws->∃rs,Carries (d8 P w) ws rs/\KV kvs rs
 | [],_,r=>by rw[bw] at r;cases r;exact⟨[],True.intro,.nil⟩
 | p::kvs,_,r=>by
  rw[ak] at r
  cases r with
  | @cons a b as bs h t =>
   obtain⟨rs,c,q⟩:=qB (P:=P) (w:=w) t;obtain⟨b1,b2⟩:=b;exact⟨(p.1,b2)::rs,⟨qx h.1,rfl,c⟩,.cons ⟨rfl,h.2⟩ q⟩
noncomputable def N1 (K7:List (TE × TE)):TE:=λσ H Q=>∀p,H p=none->yB K7 σ (eg H p (.dK [])) λps H2=>H2 p=some (.dK [])/\∃kvs:List (Key × V),ps=kvs.map (λkv=>(kV kv.1,kv.2))/\kvs.length<=15/\Q (.ref p) (eg H2 p (.dK (qA [] kvs)))
theorem GS (h:PN X pos keys values K7)(mJ:keys.all (·.isSome)=true)(hl:keys.length=values.length)(h0:keys≠[])
  (UY:keys.length<=15):PE X (.Dict keys values pos) (N1 K7):=by
 intro pins s σ H Q I q;have hn:=I.eD.fresh (am s.heap.objs.size);have I1:=I.laid (a:=s.heap.objs.size) (o:=.dK []) (h':=s.heap.push { cls:=.type "dict",data:=.dict #[] }) (t':=s.toks) (λ_ _ q=>aj _ q) (am _) (wo s.heap I.big);refine wpAny_Dict_walk (knd:=d8 X.prog X.w) mJ hl h0 UY (fk (h pins _ σ _ _ I1 (q _ hn)) λws s2 ⟨ps,H2,I2,kC,e,kvs,ep,lk,q2⟩=>?_);subst ep;obtain⟨rs,c,rk⟩:=qB (P:=X.prog) (w:=X.w) kC;obtain⟨z,hd,Oa,r0,dd⟩:=Iz I2.eD e;cases r0;refine⟨rs,c,dd,λh' GL hs=>⟨.ref s.heap.objs.size,_,?_,rfl,q2⟩⟩
 have hz:(qA [] kvs).length<=aA:=by
  have h1:=mn kvs [];rw[bn] at h1;rw[sizeLine_eq];omega
 have he:∃q,h'.get? s.heap.objs.size=some q:=let ⟨q,_,_,hq,_⟩:=GL;⟨q,hq⟩;exact pS I2 (by rw[e];exact True.intro) hs he (Dq hz hd (rk.merge .nil) GL)
structure M2 (X:Cx) (o:Expr) (m:Str) (j6:Pos) (e f:Expr) (g8:Pos):Prop where
 base:attributeBase o m X.env (eval o X.env)=eval o X.env
 Rl:((backTo g8 (starEach [e,f] X.env)).all (λx=>!x.1) && (backToKw g8 (keywordEach [] X.env)).all (λx=>x.1.isSome)
  && decide (([e,f]:List Expr).length+([]:List Keyword).length+(if ([]:List Keyword).isEmpty then 0 else 1)<30))=true
 line:(j6.endLine == g8.line)=true
 trees:backTo g8 (starEach [e,f] X.env)=[(false,eval e X.env),(false,eval f X.env)]
noncomputable def Ts (H:Hp)(a:Addr):Prop:=(∃kvs,Rd H a (.dK kvs))\/∃kvs,Rd H a (.dT kvs)
theorem K8 (I:Inv X pins σ H s)(d:Ts H a) :
  s.TypeIs (.ref a) "dict" /\ (∀b,ah.ref a=.ref b->∃ob,s.heap.get? b=some ob/\ob.dict=none)/\(a == sysModules)=false:=by
 rcases d with⟨kvs,e⟩ | ⟨kvs,e⟩
 .obtain⟨_,hd,vs,_,dd⟩:=qy I.eD e
  refine⟨dd.typeIs,λb q=>?_,hd⟩;cases q;obtain⟨ob,_,_,h1,h2,_⟩:=dd;exact⟨ob,h1,h2.2.1⟩
 .obtain⟨_,hd,xs,_,dd⟩:=qz I.eD e
  refine⟨dd.typeIs,λb q=>?_,hd⟩;cases q;obtain⟨ob,_,_,h1,h2,_⟩:=dd;exact⟨ob,h1,h2.2.1⟩
section
theorem K9 {Q:ah->ax->Prop}(hu:A.units+1<cLine)(I:Inv X pins σ H s)(g:iE H a y o)(ry:RelV y u)(rd:RelV d r)(h:∀w' s',Inv X pins σ H s'->RelV (o.getD d) w'->Q w' s') :
  aG (model X.prog X.w) A (call (.builtin "dict.get") [.ref a,u,r]) Q E s:=by
 rcases g with⟨kvs,k,e,ey,l⟩ | ⟨kvs,k,b,e,ey,eb,l⟩
 .subst ey
  obtain⟨z,hd,vs,kC,dd⟩:=qy I.eD e;refine call_meetsIn PySem.F.slot_dict_get dd.typeIs PySem.F.entry_dict_get (PySem.F.args_dict_get_3 _ _ _) (meets_dict_get_default (d8 X.prog X.w) a (qx ry) hd r) ⟨_,dd.mapOf,h _ _ (I.tok _) ?_⟩;rw[l];exact (kC.val k).getD rd
 .subst ey
  cases (show u=ah.ref b from ry);obtain⟨z,hd,xs,kC,dd⟩:=qz I.eD e;refine call_meetsIn PySem.F.slot_dict_get dd.typeIs PySem.F.entry_dict_get (PySem.F.args_dict_get_3 _ _ _) (meetsH_dict_get_default (tupleKind (d8 X.prog X.w)) a b hd r) ⟨tupleKind_room_in1 hu,k,xs,mM I.eD eb,dd,h _ _ (I.tok _) ?_⟩;rw[l];exact (kC.val k).getD rd
end
noncomputable def Dw (td ty tx:TE):TE:=λσ H Q=>td σ H λx H1=>∃a,x=.ref a/\Ts H1 a/\ty σ H1 λy H2=>tx σ H2 λz H3=>∃o,iE H3 a y o/\Q (o.getD z) H3
section
theorem Dx (hu:X.A.units+1<cLine)(ho:PE X o td)(he:PE X e ty)(hf:PE X f tx)(m:M2 X o "get" j6 e f g8):PE X (.Call (.Attribute o "get" j6) [e,f] [] g8) (Dw td ty tx):=by
 intro pins s σ H Q I h;refine wpAny_Call_method m.base m.Rl m.line PySem.F.plainAttrs_dict PySem.F.slot_dict_get PySem.F.type_dict_get (fk (ho pins s σ H _ I h) λu s1 ⟨x,H1,I1,rx,a,ex,d,q1⟩=>?_);subst ex;obtain rfl:u=ah.ref a:=rx;obtain⟨t1,t2,_⟩:=K8 I1 d;refine⟨t1,t2,?_⟩;rw[m.trees]
 refine Calls.callWith_builtin rfl (Calls.evalArgs_plain (Calls.spliced_cons (fk (he pins s1 σ H1 _ I1 q1) λiv s2 ⟨y,H2,I2,ry,q2⟩ =>
  Calls.spliced_cons (fk (hf pins s2 σ H2 _ I2 q2) λfv s3 ⟨z,H3,I3,rz,ov,g,q3⟩=>Calls.spliced_nil ?_))))
 exact K9 hu I3 g ry rz λw' s4 I4 kJ=>⟨_,H3,I4,kJ,q3⟩
end
end L2
namespace PySem
open Sem (wp)
open AutoSeq1 (wpAny_loadPart')
theorem pB (l b:Addr)(xs ys:Array ah)(n n2:Nat)(dd:Option Addr)(sl:Array (Option ah))(h0:¬ (!xs.isEmpty && Builtin.List.listTooLong (xs.size+ys.size))=true)(h1:xs.size<=aA)(h2:(xs++ys).size<=aA+1) :
  Meets (Builtin.«list.extend» ⟨[.ref l,.ref b],[]⟩) (λ_ R s=>s.heap.get? l=some { cls:=.type "list",dict:=none,data:=.seq xs n,slots:=#[] }/\s.heap.get? b=some { cls:=.type "tuple",dict:=dd,data:=.seq ys n2,slots:=sl } /\
   R (.ok (.ret ah.none)) { s with heap:=s.heap.update l (Obj.mapSeq λx=>x++ys),toks:=s.toks }) :=
 .of_wp λprog w A R s h=>by
  obtain⟨hp,g,d,tk,os⟩:=s;obtain⟨hl,hb,h⟩:=h;have f1:=AutoSeq1.idx_int
  wp_walk using (wpAny_updateSeq hl rfl (hz:=h1) (_hz':=h2)),wpAny_loadPart' hl,wpAny_loadPart' hb
  exact⟨_,rfl,h⟩
end PySem
namespace L2
open PySem PySem.Spec PyProof.Rows
section
variable {X:Cx}{o i e f value:Expr}{td ty tv tx to ti te:TE}{pos fZ j6 g8:Pos}
theorem wq:QE X (.Dict [] [] pos) Dt:=⟨Du⟩
theorem lU (hu:X.A.units+1<cLine)(ho:QE X o td)(hi:QE X i ty)(hs:BB i):QE X (.Subscript o i pos) (IB td ty):=⟨GP hu ho.run hi.run hs⟩
theorem wu (hu:X.A.units+1<cLine)(ho:QE X o td)(he:QE X e ty)(hf:QE X f tx)(m:M2 X o "get" j6 e f g8):QE X (.Call (.Attribute o "get" j6) [e,f] [] g8) (Dw td ty tx):=⟨Dx hu ho.run he.run hf.run m⟩
theorem pT (hu:X.A.units+1<cLine)(ho:QE X o td)(hi:QE X i ty)(hv:QE X value tv)(hs:swapsWith value (some (.Subscript o i fZ)) pos.line X.env=pure false:=by rfl):QS X (.Assign [.Subscript o i fZ] value pos) (IC td ty tv):=⟨GQ hu ho.run hi.run hv.run hs⟩
noncomputable def Dy (K:W.Frag):V->List V->Hp->VK->Prop:=λx vs H Q=>∃l b xs zs,x=.ref l/\vs=[.ref b]/\H l=some (.lst xs)/\iz K H b zs/\xs.length+zs.length<=aA/\Q .f' (eg H l (.lst (xs++zs)))
theorem yC (K:W.Frag)(h:X.K=K:=by rfl):QN X "list.extend" (Dy K):=by
 subst h;intro pins s σ H x vs v us Q I rx rv h;obtain⟨l,b,xs,zs,rfl,rfl,hH,hB,hz,q⟩:=h;cases rx;obtain⟨u,rfl,ru⟩:=rv.one;cases ru;obtain⟨z,its,n,r,hl,e⟩:=I.yn hH;obtain⟨l8,r2,ht,vZ⟩:=I.tuple hB;obtain⟨⟨cls,dd,data,sl⟩,ho,hc,n2,hd⟩:=id ht;simp only at hc hd;subst hc hd;have e1:=r2.length;have hsz:its.toArray.size+l8.toArray.size<=aA:=by rw[aC,aC];omega
 have v3:¬ (!its.toArray.isEmpty && Builtin.List.listTooLong (its.toArray.size+l8.toArray.size))=true:=λz=>by
  rw[qm hsz,Bool.and_false] at z;cases z
 have mq:(its.toArray++l8.toArray).size<=aA+1:=by rw[Array.size_append];omega
 refine call_meets F.slot_list_extend ⟨_,e,rfl⟩ F.entry_list_extend (F.args_list_extend_2 _ _) (pB l b its.toArray l8.toArray n n2 dd sl v3 (!1) mq) ⟨e,ho,?_⟩;exact⟨.f',_,I.Kr (its':=its++l8) hH e (!4) (r.append r2) (by rw[aH];exact hz),rfl,q⟩
theorem IntsAre.uJ:∀{ns:List Int} {us:List ah},dW (ns.map V.int) us->IntsAre us ns
 | [],us,h=>by cases h;exact .nil
 | n::ns,us,h=>by
  cases h with
  | cons r t =>
   obtain⟨tk,rfl⟩:=r;exact .cons n tk (IntsAre.uJ t)
theorem dW.uK:∀{ns:List Int} {us:List ah},IntsAre us ns->dW (ns.map V.int) us
 | _,_,.nil=>.nil
 | _,_,.cons n t r=>.cons ⟨t,rfl⟩ (dW.uK r)
theorem kc (K:W.Frag)(hk:X.K=K:=by rfl):fP X (.builtin "sorted") (λxs H Q=>∃(p:Addr) (ns:List Int),xs=[.ref p]/\gc K H p (ns.map V.int)/\ns.length<64/\∀(l:Addr) (ms:List Int),ms.Perm ns->ms.Pairwise (·<=·)->H l=none->Q (.ref l) (eg H l (.lst (ms.map V.int)))):=by
 subst hk;intro pins s σ H xs us Q I r h;obtain⟨p,ns,rfl,hp,PQ,q⟩:=h;obtain⟨u,rfl,ru⟩:=vals1 r;cases ru;obtain⟨its,rv,ht,hz⟩:=I.list hp;have hl:=rv.length;rw[au] at hl;refine sorted_ints ht.isList (IntsAre.uJ rv) (!1) λout ms h1 h2 h3=>?_;have hm:=h2.length_eq;have hv:dW (ms.map V.int) out.toList:=dW.uK h1;have hsz:(ms.map V.int).length<=aA:=by rw[au,show aA=16777216 by decide];omega
 have kp:∀b o,s.heap.get? b=some o->(sortedAll s.heap its out).get? b=some o:=λb o e=>sortedAll_old e;have nw:=sortedAll_at s.heap its out;obtain⟨n,nw⟩:=nw;refine⟨.ref (s.heap.objs.size+1),_,I.laid (t':=s.toks) (o:=.lst (ms.map V.int)) kp (Nat.le_succ _) ⟨hsz,out.toList,n,hv,by simpa using nw⟩,rfl,q _ ms h2 h3 (I.eD.fresh (Nat.le_succ _))⟩
end
noncomputable def Ob (o:Obj)(a:Addr)(kvs:List (Key × V)):It :=
 ⟨λi H=>H a=some (.mH o (.dK kvs))/\i<kvs.length,λi H x H'=>H'=H/\∃k v,kvs[i]? = some (k,v)/\x=kV k,λi H=>H a=some (.mH o (.dK kvs))/\kvs.length<=i⟩
theorem GU (h:(d8 P w).is k u=true):RelV (kV k) u:=by
 rcases eZ (show qc k u=true from h) with⟨i,t,rfl,rfl⟩ | ⟨x,t,rfl,rfl⟩
 .exact⟨t,rfl⟩
 .exact⟨t,rfl⟩
theorem Dz (I:Inv X pins σ H s)(h:H a=some (.mH o (.dK kvs)))(hd:o.data=.dict es ep) :
  (a == sysModules)=false/\∃vs,KV kvs vs/\s.heap.DictAt (d8 X.prog X.w) a vs ep:=by
 obtain⟨e,z,y,vs,r,ob,sN,JB,e',c,d,k,p,n⟩:=I.eD a _ h;rw[e] at e';cases e';rw[hd] at d;cases d;exact⟨y,vs,r,o,es,e,c,hd,k,p,n⟩
theorem Oc {kvs:List (Key × V)}{vs:List (Key × ah)}(r:KV kvs vs){i:Nat}{k:Key}{v:V}(h:kvs[i]? = some (k,v)):∃u,vs[i]? = some (k,u):=by
 have hk:=r.keys;have hl:=r.length;have hi:i<kvs.length:=(aD.mp h).1;have wc:i<vs.length:=by omega
 have e1:(kvs.map (·.1))[i]? = some k:=by rw[aE,h];rfl
 have e2:vs[i]? = some vs[i]:=by simp[wc]
 rw[hk,aE,e2] at e1;have e3:vs[i].1=k:=Option.some.inj e1;refine⟨vs[i].2,?_⟩;rw[e2,<- e3]
theorem BC {P:aV}{w:World}{K:W.Frag}{tg:Expr}(a it:Addr){o:Obj}{kvs:List (Key × V)}{es:Array DictEntry}{ep:Nat}(hd:o.data=.dict es ep):vU P w K tg (Ob o a kvs) [it] it (λi h=>h.IsKeyIter it a i kvs.length ep) where
 mem:=by simp
 obj:=λi h st b hb=>by
  have e:b=it:=by simpa using hb
  subst e;obtain⟨o,e,c,d⟩:=st;exact⟨o,e,λv z=>by rw[d] at z;cases z⟩
 keep:=λi h h' st k=>st.at λo e=>k it (!4) o e
 item:=by
  intro X hP hw hK hc i pins s σ H E I hf st hg;subst hP hw hK;obtain⟨hg,hi⟩:=hg;obtain⟨_,vs,r,da⟩:=Dz I hg hd;have hx:kvs[i]? = some kvs[i]:=by simp[hi]
  obtain⟨u,hu⟩:=Oc r (k:=kvs[i].1) (v:=kvs[i].2) hx;obtain⟨f0,f1,f2,f3,f4,f5⟩:=hf it (!4);have hl:=r.length;rw[hl] at st;refine wpAny_pyNext_dict_item st da hu λkey h' Ka eh sb=>?_;have I1:Inv X pins σ H { s with heap:=h' }:=I.turned (t':=s.toks) (λb o hb e=>(sb.2 b hb).trans e) f0 f1 f3 f4 f5;obtain⟨o',e,c,d⟩:=id eh;exact⟨key,rfl,vV (s:={ s with heap:=h' }) e c d (!2) ⟨kV kvs[i].1,H,I1,GU Ka,⟨rfl,_,_,hx,rfl⟩,by rw[hl];exact eh,λb hb=>(hf b hb).1⟩⟩
 done:=by
  intro X hP hw hK hc i pins s σ H E I hf st hg;subst hP hw hK;obtain⟨hg,hi⟩:=hg;obtain⟨_,vs,r,da⟩:=Dz I hg hd;obtain⟨f0,f1,f2,f3,f4,f5⟩:=hf it (!4);have hl:=r.length;rw[hl] at st;exact wpAny_pyNext_dict_end (I.ok.hd hc) st da (by simp;omega) λh' eb=>⟨rfl,I.turned (t':=s.toks) (λb o hb e=>eb b o hb e) f0 f1 f3 f4 f5⟩
 self:=λ_ _ _ _ _ st h=>wpAny_pyIter_keyiter st h
section
variable {X:Cx}{tg:Expr}
theorem Inv.freeze {pins:List (Addr × Obj)}{s:ax}{σ:St}{H:Hp}{a:Addr}{kvs:List (Key × V)}(I:Inv X pins σ H s)(h:H a=some (.dK kvs)) :
  ∃o es ep,o.data=.dict es ep/\Inv X pins σ (eg H a (.mH o (.dK kvs))) s/\(a == sysModules)=false/\∃vs,KV kvs vs/\s.heap.DictAt (d8 X.prog X.w) a vs ep:=by
 obtain⟨z,y,vs,r,o,es,ep,e,c,d,k,p,n⟩:=I.eD a _ h;refine⟨o,es,ep,d,?_,y,vs,r,o,es,e,c,d,k,p,n⟩;have:=I.write (x:=a) (e:=a) (h':=s.heap) (t':=s.toks) (o:=.mH o (.dK kvs)) (by rw[h];exact trivial) (.inl rfl) (λb u _ q=>q) ⟨o,e⟩ ⟨e,z,y,vs,r,o,es,ep,e,c,d,k,p,n⟩;exact this
noncomputable def Od (tl:TE):TI:=λσ H R=>tl σ H λx H1=>∃a kvs,x=.ref a/\H1 a=some (.dK kvs)/\∀o,R (Ob o a kvs) (eg H1 a (.mH o (.dK kvs)))
theorem Af {l:Expr}{tl:TE}(hl:QE X l tl):QI X tg l (Od tl):=by
 refine⟨λpins s σ H R I h=>?_⟩;refine fk (hl.run pins s σ H _ I h) λv s1 ⟨x,H1,I1,r1,q1⟩=>?_;obtain⟨a,kvs,e,ha,q⟩:=q1;subst e;cases r1;obtain⟨o,es,ep,hd,I2,hy,vs,kC,da⟩:=I1.freeze ha;refine wpAny_pyIter_dict hy da ?_;have hlen:=kC.length;refine⟨s1.heap.objs.size,[s1.heap.objs.size],_,_,_,rfl,I2.kept (t':=s1.toks) λb o e=>aj _ e,BC a _ hd,⟨_,aB _ rfl,rfl,by rw[hlen];rfl⟩,λb hb=>?_,q o⟩;have e:b=s1.heap.objs.size:=by simpa using hb
 subst e;exact I2.px (am _) (I2.eD.fresh (am _))
theorem tf {mp:List (Option Nat)}{g:TG}{tc:TT}{te:TE}{σ:St}{H:Hp}{R:List V->Hp->Prop}{o:Obj}{a:Addr}{kvs:List (Key × V)}(Pv:Nat->List V->St->Hp->Prop)(h0:Pv 0 [] (kW mp σ) H)
  (hl:∀i ys σ' H',Pv i ys σ' H'->H' a=some (.mH o (.dK kvs)))
  (hs:∀i k v ys σ' H',kvs[i]? = some (k,v)->Pv i ys σ' H'->ys.length<aA/\g (kV k) σ' H' λσ2 H2=>tc σ2 H2 λb H3=>if b=true then te σ2 H3 λy H4=>Pv (i+1) (ys++[y]) σ2 H4 else Pv (i+1) ys σ2 H3)
  (hd:∀ys σ' H',Pv kvs.length ys σ' H'->ys.length<=aA/\R ys H') :
  ∃W:Nat->Nat->List V->St->Hp->Prop,(∃m,W 0 m [] (kW mp σ) H)/\∀i m ys σ' H',W i m ys σ' H' ->
   ((Ob o a kvs).stop i H'/\ys.length<=aA/\R ys H') \/
   ((Ob o a kvs).go i H'/\ys.length<aA/\∀x Mv,(Ob o a kvs).Fs i H' x Mv->g x σ' Mv λσ2 H2=>tc σ2 H2 λb H3 =>
    if b=true then te σ2 H3 λy H4=>∃m',m' < m/\W (i+1) m' (ys++[y]) σ2 H4 else ∃m',m' < m/\W (i+1) m' ys σ2 H3):=by
 refine⟨λi m ys σ H=>m=kvs.length - i/\i<=kvs.length/\Pv i ys σ H,⟨kvs.length,!4,bF _,h0⟩,?_⟩;rintro i m ys σ' H' ⟨rfl,hi,p⟩;have q0:=hl i ys σ' H' p;by_cases gn:i<kvs.length
 .have e:∀ys σ H,(∃m',m' < kvs.length - i/\m'=kvs.length - (i+1)/\i+1<=kvs.length/\Pv (i+1) ys σ H)=Pv (i+1) ys σ H:=λys σ H=>propext ⟨λ⟨_,_,_,_,z⟩=>z,λz=>⟨_,!1,rfl,gn,z⟩⟩
  have hx:kvs[i]? = some kvs[i]:=by simp[gn]
  refine .inr ⟨⟨q0,gn⟩,(hs i kvs[i].1 kvs[i].2 ys σ' H' hx p).1,λx Mv y=>?_⟩;obtain⟨e1,k,v,hk,ex⟩:=y;subst e1 ex;simp only[e];exact (hs i k v ys σ' _ hk p).2
 .have e:i=kvs.length:=by omega
  subst e;obtain⟨BE,q⟩:=hd ys σ' H' p;exact .inl ⟨⟨q0,am _⟩,BE,q⟩
end
end L2
namespace PySem
open Sem (wp)
end PySem
namespace L2
open PySem PySem.Spec PyProof.Rows
end L2
namespace PySem
open Sem (wp)
open AutoSeq1 (wpAny_loadPart')
section
theorem yD {it t:Addr}{i:Nat}{xs:Array ah}{x:ah}{Q:ah->ax->Prop}(hi:s.heap.IsTupleIter it t i)(ht:s.heap.IsTuple t xs)(hx:xs[i]? = some x)
  (q:∀h',h'.IsTupleIter it t (i+1)->Heap.SameBut it s.heap h'->Q x { s with heap:=h' }):aG (model prog w) A (Builtin.SmallTypes.nextOf (.ref it)) Q E s:=by
 obtain⟨ob,e1,c1,d1⟩:=id hi;obtain⟨ot,e2,_,n2,d2⟩:=ht;have nn:¬ ((ah.ref t == ah.none)=true):=aR;unfold Builtin.SmallTypes.nextOf;refine ag (wpAny_callSpecial?_slot (name:=Str.ofString "__next__") hi.typeIs F.slot_tuple_iterator_next (wpAny_call_entry F.slot_tuple_iterator_next hi.typeIs F.entry_tuple_iterator_next ?_ (F.args_tuple_iterator_next_1 _)));show aG _ _ (field (.ref it) 0 >>= _) _ _ _;refine ag (wpAny_field e1 d1 (x:=.ref t) rfl ?_);show aG _ _ (if (ah.ref t == ah.none)=true then _ else _) _ _ _;rw[if_neg nn];show aG _ _ (field (.ref it) 1 >>= _) _ _ _;refine ag (wpAny_field e1 d1 (x:=.int i 0) rfl (ag (wpAny_seqItems e2 d2 ?_)));simp only[bU,hx];refine ag (wpAny_setField e1 d1 (!4) (ap ⟨x,rfl,ap (q _ ?_ (Heap.SameBut.update ..))⟩));refine⟨_,bj _ e1 (Obj.isFreed_of_fields (Obj.data_mapFields d1 _)),(Obj.cls_mapFields ..).trans c1,?_⟩;rw[Obj.data_mapFields d1];simp[rawInt]
theorem BF (hh:A.handled=none)(hi:s.heap.IsTupleIter it t i)(ht:s.heap.IsTuple t xs)(hx:xs[i]? = none)
  (q:∀h' e,Heap.ExtBut it s.heap h'->(∃o,h'.get? e=some o/\o.cls=.type "StopIteration")->E (.ref e) { s with heap:=h' }):aG (model prog w) A (Builtin.SmallTypes.nextOf (.ref it)) Q E s:=by
 obtain⟨ob,e1,c1,d1⟩:=id hi;obtain⟨ot,e2,_,n2,d2⟩:=ht;have nn:¬ ((ah.ref t == ah.none)=true):=aR;unfold Builtin.SmallTypes.nextOf;refine ag (wpAny_callSpecial?_slot (name:=Str.ofString "__next__") hi.typeIs F.slot_tuple_iterator_next (wpAny_call_entry F.slot_tuple_iterator_next hi.typeIs F.entry_tuple_iterator_next ?_ (F.args_tuple_iterator_next_1 _)));show aG _ _ (field (.ref it) 0 >>= _) _ _ _;refine ag (wpAny_field e1 d1 (x:=.ref t) rfl ?_);show aG _ _ (if (ah.ref t == ah.none)=true then _ else _) _ _ _;rw[if_neg nn];show aG _ _ (field (.ref it) 1 >>= _) _ _ _;refine ag (wpAny_field e1 d1 (x:=.int i 0) rfl (ag (wpAny_seqItems e2 d2 ?_)));simp only[bU,hx];refine ag (wpAny_rule (ag (wpAny_setField e1 d1 (!4) (ag ?_))));simp only[newExc,newTuple];refine ag (bh (ag (m:=firstArgMember _ _) (wpAny_of_eq (a:=ah.none) (by first | rfl | (simp only[firstArgMember];rfl)) (bh ?_ (by size_fits)))) (by size_fits));simp only[raiseNew];refine ag (wpAny_handled ?_);first | rw[show A.in1.handled=none from hh] | rw[hh]
 exact ag (ap (wpAny_throw (q _ _ (((Heap.SameBut.update ..).extBut.push _).push _) ⟨_,aB _ rfl,rfl⟩)))
theorem yE {e it t:Addr}{i:Nat}{xs:Array ah}{x old:ah}{Q:ah->ax->Prop}(he:IsEnum s.heap e it i old)(hi:s.heap.IsTupleIter it t i)(ht:s.heap.IsTuple t xs)(hx:xs[i]? = some x)(iW:e≠it)
  (q:∀h',IsEnumOut h' e it ((i:Int)+1) x s.heap.objs.size->h'.IsTupleIter it t (i+1)->h'.get? s.heap.objs.size=some { cls:=.type "tuple",data:=.seq #[.int i s.toks,x] } ->
   (∀b o,b≠e->b≠it->s.heap.get? b=some o->h'.get? b=some o)->Q (.ref s.heap.objs.size) { s with heap:=h',toks:=s.toks+1 }) :
  aG (model prog w) A (Builtin.«enumerate.__next__» ⟨[.ref e],[]⟩) (λfin s'=>∃v,fin=.done (.ret v)/\Q v s') E s:=by
 obtain⟨hp,g,d,tk,os⟩:=s;show aG _ _ (field (.ref e) 2 >>= _) _ _ _;refine ag (wpAny_field he rfl (x:=.ref it) rfl (ag (yD hi ht hx λk1 i1 (b1:Heap.SameBut it hp k1)=>?_)));have e1:IsEnum k1 e it i old:=(b1.2 e iW).trans he;refine ag (wpAny_field e1 rfl (x:=rawInt i) rfl (ag (wpAny_field e1 rfl (x:=.none) rfl ?_)));show aG _ _ (mkInt i >>= _) _ _ ⟨k1,g,d,tk,os⟩;refine ag (wpAny_mkInt (ag (wpAny_setField_rec (x:=rawInt ((i:Int)+1)) e1 (!4) λk2 e2 b2=>?_)));replace b2:Heap.SameBut e k1 k2:=b2;replace e2:IsEnum k2 e it ((i:Int)+1) old:=e2;refine ag (wpAny_setField_rec (x:=.none) e2 (!4) λk3 e3 b3=>?_);replace b3:Heap.SameBut e k2 k3:=b3;replace e3:IsEnum k3 e it ((i:Int)+1) old:=e3;show aG _ _ (newTuple [.int i tk,x] >>= _) _ _ ⟨k3,g,d,tk+1,os⟩;refine ag (wpAny_newTuple ?_);have sz:k3.objs.size=hp.objs.size:=by rw[b3.1,b2.1,b1.1]
 have el:hp.objs.size≠e:=cc (aI he);have e4:IsEnum (k3.push { cls:=.type "tuple",data:=.seq #[.int i tk,x] }) e it ((i:Int)+1) old:=aj _ e3;have t4:(k3.push { cls:=.type "tuple",data:=.seq #[.int i tk,x] }).get? hp.objs.size=some { cls:=.type "tuple",data:=.seq #[.int i tk,x] }:=by rw[<- sz];exact aB _ rfl
 have Oe:∀b o,b≠e->b≠it->hp.get? b=some o->(k3.push { cls:=.type "tuple",data:=.seq #[.int i tk,x] }).get? b=some o:=λb o h1 h2 h3=>aj _ (b3.extBut b o h1 (b2.extBut b o h1 (b1.extBut b o h2 h3)))
 have i4:(k3.push { cls:=.type "tuple",data:=.seq #[.int i tk,x] }).IsTupleIter it t (i+1):=by
  obtain⟨o,ho,r⟩:=i1;exact⟨o,aj _ (b3.extBut it o (Ne.symm iW) (b2.extBut it o (Ne.symm iW) ho)),r⟩
 rw[sz];generalize k3.push { cls:=.type "tuple",data:=.seq #[.int i tk,x] }=k4 at e4 t4 Oe i4 ⊢;show aG _ _ (Builtin.SmallTypes.ownedTupleIsFree (.ref e) >>= _) _ _ ⟨k4,g,d,tk+1,os⟩;refine ag ?_;unfold Builtin.SmallTypes.ownedTupleIsFree;refine ag (wpAny_field e4 rfl (x:=.none) rfl (ap ?_));simp only[if_true];refine ag (wpAny_rule (ag (wpAny_field e4 rfl (x:=old) rfl (ag (wpAny_setField_rec (x:=x) e4 (!4) λk5 e5 b5=>?_)))));replace b5:Heap.SameBut e k4 k5:=b5;replace e5:IsEnum k5 e it ((i:Int)+1) x:=e5;show aG _ _ (Builtin.SmallTypes.ownedTupleHandOut (.ref e) (.ref hp.objs.size) >>= _) _ _ ⟨k5,g,d,tk+1,os⟩;refine ag ?_;unfold Builtin.SmallTypes.ownedTupleHandOut;refine ag (wpAny_setField_rec (x:=rawInt (hp.objs.size:Nat)) e5 (!4) λk6 e6 b6=>?_);replace b6:Heap.SameBut e k5 k6:=b6;replace e6:IsEnumOut k6 e it ((i:Int)+1) x hp.objs.size:=e6;refine wpAny_setField_rec e6 (!4) λk7 e7 b7=>?_;replace b7:Heap.SameBut e k6 k7:=b7;have La:∀b o,b≠e->k4.get? b=some o->k7.get? b=some o:=λb o h1 h2=>b7.extBut b o h1 (b6.extBut b o h1 (b5.extBut b o h1 h2));refine ag (wpAny_letGo (ap ⟨_,rfl,q k7 e7 ?_ (La _ _ el t4) λb o h1 h2 h3=>La b o h1 (Oe b o h1 h2 h3)⟩));obtain⟨o,ho,r⟩:=i4;exact⟨o,La it o (Ne.symm iW) ho,r⟩
theorem uM {e it t:Addr}{i:Nat}{xs:Array ah}{x old:ah}{Q:Option ah->ax->Prop}(he:IsEnum s.heap e it i old)(hi:s.heap.IsTupleIter it t i)(ht:s.heap.IsTuple t xs)(hx:xs[i]? = some x)(iW:e≠it)
  (q:∀h',IsEnumOut h' e it ((i:Int)+1) x s.heap.objs.size->h'.IsTupleIter it t (i+1)->h'.get? s.heap.objs.size=some { cls:=.type "tuple",data:=.seq #[.int i s.toks,x] } ->
   (∀b o,b≠e->b≠it->s.heap.get? b=some o->h'.get? b=some o)->Q (some (.ref s.heap.objs.size)) { s with heap:=h',toks:=s.toks+1 }) :
  aG (model prog w) A (pyNext (.ref e)) Q E s:=by
 have ty:s.TypeIs (.ref e) "enumerate" := ⟨_,he,rfl⟩;unfold pyNext;refine ag (wpAny_attempt (wpAny_callSpecial?_slot (name:=Str.ofString "__next__") ty F.slot_enumerate_next (wpAny_call_entry F.slot_enumerate_next ty F.entry_enumerate_next ?_ (F.args_enumerate_next_1 _))));exact yE he hi ht hx iW λh' a b c k=>ap (q h' a b c k)
theorem om {e it t:Addr}{i:Nat}{xs:Array ah}{old:ah}{Q:Option ah->ax->Prop}(hh:A.handled=none)(he:IsEnum s.heap e it i old)(hi:s.heap.IsTupleIter it t i)(ht:s.heap.IsTuple t xs)(hx:xs[i]? = none)
  (q:∀h',Heap.ExtBut it s.heap h'->Q none { s with heap:=h' }):aG (model prog w) A (pyNext (.ref e)) Q E s:=by
 have ty:s.TypeIs (.ref e) "enumerate" := ⟨_,he,rfl⟩;unfold pyNext;refine ag (wpAny_attempt (wpAny_callSpecial?_slot (name:=Str.ofString "__next__") ty F.slot_enumerate_next (wpAny_call_entry F.slot_enumerate_next ty F.entry_enumerate_next ?_ (F.args_enumerate_next_1 _))));show aG _ _ (field (.ref e) 2 >>= _) _ _ _;refine ag (wpAny_field he rfl (x:=.ref it) rfl (ag (BF hh hi ht hx λh' x ex ⟨o,ho,hc⟩=>?_)));exact ag (wpAny_isInstance (T := "StopIteration") (b:=true) ⟨o,ho,hc⟩ isSubtype_stop (ap (q _ ex)))
theorem BG (l:Addr)(items:Array ah)(n:Nat)(Mw:Option Addr)(sl:Array (Option ah)) :
  Meets (Builtin.«enumerate.__new__» ⟨[.type "enumerate",.ref l],[]⟩) (λ_ R s=>s.heap.get? l=some { cls:=.type "tuple",dict:=Mw,data:=.seq items n,slots:=sl } /\
   R (.ok (.ret (.ref (s.heap.push { cls:=.type "tuple_iterator",data:=.fields #[.ref l,.int 0 0] }).objs.size)))
    { s with heap:=(s.heap.push { cls:=.type "tuple_iterator",data:=.fields #[.ref l,.int 0 0] }).push { cls:=.type "enumerate",data:=.fields #[.none,.bool false,.ref s.heap.objs.size,rawInt 0,.none,.none] } }) :=
 .of_wp λprog w A R s h=>by
  obtain⟨hp,g,d,tk,os⟩:=s;obtain⟨hl,h⟩:=h;have KC:=sub_enumerate;have Tt:Heap.IsTuple (ax.heap ⟨hp,g,d,tk,os⟩) l items:=⟨_,hl,rfl,n,rfl⟩
  wp_walk using wpAny_loadPart' hl
  refine wpAny_stack_any λ_=>ap ?_;split
  .rename_i c _ _ _ _ _
   cases (c == ah.type "enumerate")<;>(wp_walk using wpAny_loadPart' hl,wpAny_pyIter_tuple Tt;exact⟨_,rfl,h⟩)
  .wp_walk using wpAny_loadPart' hl,wpAny_pyIter_tuple Tt
   exact⟨_,rfl,h⟩
theorem yF (ht:s.heap.IsTuple l items)
  (q:∀h',IsEnum h' (s.heap.objs.size+1) s.heap.objs.size 0 .none->h'.IsTupleIter s.heap.objs.size l 0->h'.objs.size=s.heap.objs.size+2->(∀b o,s.heap.get? b=some o->h'.get? b=some o)->Q (.ref (s.heap.objs.size+1)) { s with heap:=h' }) :
  aG (model prog w) A (call (.type "enumerate") [.ref l]) Q E s:=by
 obtain⟨⟨c,Mw,dt,sl⟩,hl,hc,n,hd⟩:=ht;replace hc:c=.type "tuple" := hc;replace hd:dt=.seq items n:=hd;subst hc hd;refine callType_new F.called_enumerate (!2) (F.typeCall_enumerate_1 _) (F.newCall_enumerate_1 _) (λobj=>F.args_object_init_2 obj _) F.entry_enumerate_new (BG l items n Mw sl) ⟨hl,?_⟩;have z1:(s.heap.push { cls:=.type "tuple_iterator",data:=.fields #[.ref l,.int 0 0] }).objs.size=s.heap.objs.size+1:=cf ..;have g1:=aB (s.heap.push { cls:=.type "tuple_iterator",data:=.fields #[.ref l,.int 0 0] }) (o:={ cls:=.type "enumerate",data:=.fields #[.none,.bool false,.ref s.heap.objs.size,rawInt 0,.none,.none] }) rfl;rw[z1] at g1;show _/\_;rw[z1];exact⟨⟨_,g1,rfl⟩,q _ g1 ⟨_,aj _ (aB _ rfl),rfl,rfl⟩ (by rw[cf,z1]) λb o x=>aj _ (aj _ x)⟩
end
end PySem
namespace L2
open PySem PySem.Spec PyProof.Rows
noncomputable def Of (K:W.Frag)(a:Addr):It :=
 ⟨λi H=>∃xs x,iz K H a xs/\xs[i]? = some x,λi H x H'=>∃T xi,x=.ref T/\H T=none/\H'=eg H T (.tup [.int (i:Nat),xi])/\∀xs,iz K H a xs->xs[i]? = some xi,λi H=>∃xs,iz K H a xs/\xs.length<=i⟩
theorem yG {P:aV}{w:World}{K:W.Frag}{yH:List Expr}{k:Nat}{pos:Pos}(a e it:Addr)(iW:e≠it):vU P w K (.Tuple yH k pos) (Of K a) [e,it] e (λi h=>(∃old,IsEnum h e it (i:Nat) old)/\h.IsTupleIter it a i) where
 mem:=by simp
 obj:=λi h st b hb=>by
  obtain⟨⟨old,he⟩,o,ho,hc,hd⟩:=st;rcases av.mp hb with z | z
  .subst z
   exact⟨_,he,λv z=>by cases z⟩
  .have z':b=it:=by simpa using z
   subst z';exact⟨o,ho,λv z=>by rw[hd] at z;cases z⟩
 keep:=λi h h' st kp=>by
  obtain⟨⟨old,he⟩,hi⟩:=st;exact⟨⟨old,kp e (!4) _ he⟩,hi.at λo q=>kp it (!4) o q⟩
 item:=by
  intro X hP hw hK hc i pins s σ H E I hf st hg;subst hP hw hK;obtain⟨⟨old,he⟩,hi⟩:=st;obtain⟨xs,x,hq,hx⟩:=hg;obtain⟨its,rv,p,hz⟩:=I.tuple hq;obtain⟨u,hu,ru⟩:=rv.get hx;refine uM he hi (show s.heap.IsTuple a its.toArray from p) (x:=u) (by simpa using hu) iW λh1 eo i1 t1 kp=>⟨_,rfl,wpAny_letOwnedTupleGo_enum eo λh2 en sb=>?_⟩;have vE:e<s.heap.objs.size:=aI he;have Rm:it<s.heap.objs.size:=by obtain⟨_,q,_⟩:=hi;exact aI q
  have Lb:∀b o,b≠e->b≠it->s.heap.get? b=some o->h2.get? b=some o:=λb o n1 n2 q=>(sb.2 b n1).trans (kp b o n1 n2 q);have i2:h2.IsTupleIter it a (i+1):=i1.at λo q=>(sb.2 it (Ne.symm iW)).trans q;have t2:h2.get? s.heap.objs.size=some { cls:=.type "tuple",data:=.seq #[.int i s.toks,u] }:=(sb.2 _ (cc vE)).trans t1;obtain⟨f0,f1,f2,f3,f4,f5⟩:=hf it (!4);obtain⟨g0,g1,g2,g3,g4,g5⟩:=hf e (!4);obtain⟨oi,Rn,UZ,Ro⟩:=id i2;obtain⟨o0,Rp,_⟩:=id hi;have m1:(s.heap.update it λ_=>oi).get? it=some oi:=bj (λ_=>oi) Rp (Obj.isFreed_of_fields Ro);have I1:Inv X pins σ H { s with heap:=s.heap.update it λ_=>oi,toks:=s.toks+1 }:=I.turned (λb o hb q=>(aJ _ _ (Ne.symm hb)).trans q) f0 f1 f3 f4 f5
  have Rq:∀b o,b≠e->(s.heap.update it λ_=>oi).get? b=some o->h2.get? b=some o:=λb o hb q=>by
   by_cases Lc:b=it
   .subst Lc
    rw[m1] at q;cases q;exact Rn
   .exact Lb b o hb Lc ((aJ _ _ (Ne.symm Lc)).symm.trans q)
  have I2:Inv X pins σ H { s with heap:=h2,toks:=s.toks+1 }:=Inv.turned (s:={ s with heap:=s.heap.update it λ_=>oi,toks:=s.toks+1 }) (h':=h2) (t':=s.toks+1) I1 Rq g0 g1 g3 g4 g5;obtain⟨p0,p1,p2,p3,p4,p5⟩:=I.px (am s.heap.objs.size) (I.eD.fresh (am _))
  have I3:Inv X pins σ (eg H s.heap.objs.size (.tup [.int (i:Nat),x])) { s with heap:=h2,toks:=s.toks+1 } :=
   I2.C7 (o:=.tup [.int (i:Nat),x]) t2 p0 p1 p3 p4 p5 ⟨by show 2<=aA;decide,[.int i s.toks,u],.cons ⟨_,rfl⟩ (.cons ru .nil),⟨_,t2,rfl,_,rfl,rfl⟩⟩
  refine⟨.ref s.heap.objs.size,_,I3,rfl,⟨_,x,rfl,p0,rfl,λys hy=>by rw[I.sO hy hq];exact hx⟩,⟨⟨u,by simpa using en⟩,i2⟩,λb hb=>?_⟩
  have Og:b≠s.heap.objs.size:=by
   rcases av.mp hb with z | z
   .rw[z];exact bp vE
   .have z':b=it:=by simpa using z
    rw[z'];exact bp Rm
  rw[dH Og];exact (hf b hb).1
 done:=by
  intro X hP hw hK hc i pins s σ H E I hf st hg;subst hP hw hK;obtain⟨⟨old,he⟩,hi⟩:=st;obtain⟨xs,hq,hx⟩:=hg;obtain⟨its,rv,p,hz⟩:=I.tuple hq;obtain⟨f0,f1,f2,f3,f4,f5⟩:=hf it (!4);have hl:=rv.length;exact om (I.ok.hd hc) he hi (show s.heap.IsTuple a its.toArray from p) (by simp;omega) λh' eb=>⟨rfl,I.turned (t':=s.toks) (λb o hb q=>eb b o hb q) f0 f1 f3 f4 f5⟩
 self:=λ_ _ _ _ _ st h=>by
  obtain⟨⟨old,he⟩,_⟩:=st;exact wpAny_pyIter_enum he h
end L2
namespace PySem
namespace SetTable
noncomputable def Good (b:Bool)(t:SetTable):Prop:=t.led=b/\(t.plain=true->t.place.toList.Pairwise (· < ·))
end SetTable
end PySem
namespace PySem
open Sem (wp)
open PyProof.Rows
open PyProof.Rows
open PyProof.Rows
open PyProof.Rows
open PyProof.Rows
end PySem
namespace L2
open PySem PySem.Spec PyProof.Rows
noncomputable def Oh (K:W.Frag)(a:Addr):It :=
 ⟨λi H=>∃xs x,gc K H a xs/\xs[i]? = some x,λi H x H'=>∃T xi,x=.ref T/\H T=none/\H'=eg H T (.tup [.int (i:Nat),xi])/\∀xs,gc K H a xs->xs[i]? = some xi,λi H=>∃xs,gc K H a xs/\xs.length<=i⟩
theorem yI {P:aV}{w:World}{K:W.Frag}{yH:List Expr}{k:Nat}{pos:Pos}(a e it:Addr)(iW:e≠it):vU P w K (.Tuple yH k pos) (Oh K a) [e,it] e (λi h=>(∃old,IsEnum h e it (i:Nat) old)/\h.IsListIter it a i) where
 mem:=by simp
 obj:=λi h st b hb=>by
  obtain⟨⟨old,he⟩,o,ho,hc,hd⟩:=st;rcases av.mp hb with z | z
  .subst z
   exact⟨_,he,λv z=>by cases z⟩
  .have z':b=it:=by simpa using z
   subst z';exact⟨o,ho,λv z=>by rw[hd] at z;cases z⟩
 keep:=λi h h' st kp=>by
  obtain⟨⟨old,he⟩,hi⟩:=st;exact⟨⟨old,kp e (!4) _ he⟩,hi.at λo q=>kp it (!4) o q⟩
 item:=by
  intro X hP hw hK hc i pins s σ H E I hf st hg;subst hP hw hK;obtain⟨⟨old,he⟩,hi⟩:=st;obtain⟨xs,x,hq,hx⟩:=hg;obtain⟨its,rv,p,hz⟩:=I.list hq;obtain⟨u,hu,ru⟩:=rv.get hx;refine wpAny_pyNext_enum_item he hi p.isList (x:=u) (by simpa using hu) iW λh1 eo i1 t1 _ kp=>⟨_,rfl,wpAny_letOwnedTupleGo_enum eo λh2 en sb=>?_⟩;have vE:e<s.heap.objs.size:=aI he;have Rm:it<s.heap.objs.size:=by obtain⟨_,q,_⟩:=hi;exact aI q
  have Lb:∀b o,b≠e->b≠it->s.heap.get? b=some o->h2.get? b=some o:=λb o n1 n2 q=>(sb.2 b n1).trans (kp b o n1 n2 q);have i2:h2.IsListIter it a (i+1):=i1.at λo q=>(sb.2 it (Ne.symm iW)).trans q;have t2:h2.get? s.heap.objs.size=some { cls:=.type "tuple",data:=.seq #[.int i s.toks,u] }:=(sb.2 _ (cc vE)).trans t1;obtain⟨f0,f1,f2,f3,f4,f5⟩:=hf it (!4);obtain⟨g0,g1,g2,g3,g4,g5⟩:=hf e (!4);obtain⟨oi,Rn,UZ,Ro⟩:=id i2;obtain⟨o0,Rp,_⟩:=id hi;have m1:(s.heap.update it λ_=>oi).get? it=some oi:=bj (λ_=>oi) Rp (Obj.isFreed_of_fields Ro);have I1:Inv X pins σ H { s with heap:=s.heap.update it λ_=>oi,toks:=s.toks+1 }:=I.turned (λb o hb q=>(aJ _ _ (Ne.symm hb)).trans q) f0 f1 f3 f4 f5
  have Rq:∀b o,b≠e->(s.heap.update it λ_=>oi).get? b=some o->h2.get? b=some o:=λb o hb q=>by
   by_cases Lc:b=it
   .subst Lc
    rw[m1] at q;cases q;exact Rn
   .exact Lb b o hb Lc ((aJ _ _ (Ne.symm Lc)).symm.trans q)
  have I2:Inv X pins σ H { s with heap:=h2,toks:=s.toks+1 }:=Inv.turned (s:={ s with heap:=s.heap.update it λ_=>oi,toks:=s.toks+1 }) (h':=h2) (t':=s.toks+1) I1 Rq g0 g1 g3 g4 g5;obtain⟨p0,p1,p2,p3,p4,p5⟩:=I.px (am s.heap.objs.size) (I.eD.fresh (am _))
  have I3:Inv X pins σ (eg H s.heap.objs.size (.tup [.int (i:Nat),x])) { s with heap:=h2,toks:=s.toks+1 } :=
   I2.C7 (o:=.tup [.int (i:Nat),x]) t2 p0 p1 p3 p4 p5 ⟨by show 2<=aA;decide,[.int i s.toks,u],.cons ⟨_,rfl⟩ (.cons ru .nil),⟨_,t2,rfl,_,rfl,rfl⟩⟩
  refine⟨.ref s.heap.objs.size,_,I3,rfl,⟨_,x,rfl,p0,rfl,λys hy=>by rw[I.vS hy hq];exact hx⟩,⟨⟨u,by simpa using en⟩,i2⟩,λb hb=>?_⟩
  have Og:b≠s.heap.objs.size:=by
   rcases av.mp hb with z | z
   .rw[z];exact bp vE
   .have z':b=it:=by simpa using z
    rw[z'];exact bp Rm
  rw[dH Og];exact (hf b hb).1
 done:=by
  intro X hP hw hK hc i pins s σ H E I hf st hg;subst hP hw hK;obtain⟨⟨old,he⟩,hi⟩:=st;obtain⟨xs,hq,hx⟩:=hg;obtain⟨its,rv,p,hz⟩:=I.list hq;obtain⟨f0,f1,f2,f3,f4,f5⟩:=hf it (!4);have hl:=rv.length;exact wpAny_pyNext_enum_end (I.ok.hd hc) he hi p.isList (by simp;omega) λh' eb=>⟨rfl,I.turned (t':=s.toks) (λb o hb q=>eb b o hb q) f0 f1 f3 f4 f5⟩
 self:=λ_ _ _ _ _ st h=>by
  obtain⟨⟨old,he⟩,_⟩:=st;exact wpAny_pyIter_enum he h
section
variable {X:Cx}{yH:List Expr}{k:Nat}{sm:Pos}
theorem ji {l:List Int}(h:l.Pairwise (·<=·))(d:l.Nodup):l.Pairwise (· < ·):=by
 have:=h.and d;exact this.imp λ{a b} ⟨h1,h2⟩=>by omega
end
theorem gf:∀{ms ns:List Int},ms.Nodup->(∀k∈ms,k∈ns)->ms.length<=ns.length
 | [],_,_,_=>bF _
 | m::ms,ns,nd,h=>by
  have hm:=h m (ar ..);obtain⟨n1,n2⟩:=aZ.mp nd;have ih:=gf (ms:=ms) (ns:=ns.erase m) n2 λk hk=>(List.mem_erase_of_ne (λ(z:k=m)=>n1 (z ▸ hk))).mpr (h k (ai _ hk));rw[dg hm] at ih;have:=dn hm;simp only[ao];omega
end L2
namespace L2
open PySem
mutual
theorem dY.more {S:List Addr}{H:Hp}{p:Addr}(hp:H p=none):∀{d:af} {v:V},dY S H d v->dY (p::S) H d v
 | .none,_,h=>h
 | .bool _,_,h=>h
 | .int _,_,h=>h
 | .str _,_,h=>h
 | .tuple ds,_,h=>by
  unfold dY at h ⊢;obtain⟨a,xs,e,ha,hr⟩:=h;exact⟨a,xs,e,ha,dw.more hp hr⟩
 | .list ds,_,h=>by
  unfold dY at h ⊢;obtain⟨a,xs,e,ha,hs,hr⟩:=h;refine⟨a,xs,e,ha,λz=>?_,dw.more hp hr⟩;rcases av.mp z with z | z
  .rw[z,hp] at ha;cases ha
  .exact hs z
 | .dict l,_,h=>by
  unfold dY at h ⊢;obtain⟨a,t,kvs,xs,e,el,ha,hs,hk,hr⟩:=h;refine⟨a,t,kvs,xs,e,el,ha,λz=>?_,hk,fO.more hp hr⟩;rcases av.mp z with z | z
  .rw[z,hp] at ha;cases ha
  .exact hs z
theorem dw.more {S:List Addr}{H:Hp}{p:Addr}(hp:H p=none):∀{ds:List af} {vs:List V},dw S H ds vs->dw (p::S) H ds vs
 | [],_,h=>h
 | d::ds,_,h=>by
  unfold dw at h ⊢;obtain⟨y,r,e,h1,h2⟩:=h;exact⟨y,r,e,dY.more hp h1,dw.more hp h2⟩
theorem fO.more {S:List Addr}{H:Hp}{p:Addr}(hp:H p=none):∀{l:List (af × af)} {vs:List V},fO S H l vs->fO (p::S) H l vs
 | [],_,h=>h
 | (_,d)::l,_,h=>by
  unfold fO yt at h ⊢;obtain⟨y,r,e,h1,h2⟩:=h;exact⟨y,r,e,dY.more hp h1,fO.more hp h2⟩
end
end L2
namespace L2
open PySem PySem.Spec PyProof.Rows
noncomputable def Rr (x:Addr)(cls:ah)(od:Option Addr):Heap->Prop:=λh=>∃oe vs,h.get? x=some oe/\oe.cls=cls/\oe.dict=od/\oe.data=.fields vs
noncomputable def ID (d:Addr)(fs:List (Str × V)):Heap->Prop:=λh=>∃mA,h.Ns1 d mA/\∀g,nu (fs.lookup g) (mA g)
end L2
namespace PySem
theorem so (l:Addr)(items:Array ah)(n:Nat)(dd:Option Addr)(sl:Array (Option ah))(t:Tok) :
  Meets (Builtin.«tuple.__mul__» ⟨[.ref l,.int 1 t],[]⟩) (λ_ R s=>s.heap.get? l=some { cls:=.type "tuple",dict:=dd,data:=.seq items n,slots:=sl }/\R (.ok (.ret (ah.ref l))) s) :=
 .of_wp λprog w A R s h=>by
  obtain⟨hp,g,d,tk,os⟩:=s;obtain⟨hl,h⟩:=h;have f1:=AutoSeq1.idx_int
  wp_walk
  exact⟨_,rfl,h⟩
end PySem
namespace L2
open PySem PySem.Spec PyProof.Rows
variable {X:Cx}
noncomputable def Ld (K:W.Frag):R2:=λx y H Q=>(∃a xs,x=.ref a/\y=.int 1/\iz K H a xs/\Q (.ref a) H)\/Iy K x y H Q
theorem DA (K:W.Frag)(h:X.K=K:=by rfl):j0 X (binaryOp .Mult) (Ld K):=by
 subst h;intro pins s σ H x y v u Q I rx ry h;rcases h with h | h
 .obtain⟨a,xs,rfl,rfl,hx,q⟩:=h
  cases rx;obtain⟨t,rfl⟩:=ry;obtain⟨its,r,ht,hl⟩:=I.tuple hx;obtain⟨⟨cls,dd,data,sl⟩,ho,hc,n,hd⟩:=id ht;simp only at hc hd;subst hc hd
  exact wpAny_binaryOp_repeat_ref (T := "tuple") (U := "int") (!2) ⟨_,ho,rfl⟩ (λs'=>typeIs_int s' 1 t) jK F.fills_int_mul F.slot_int_rmul nF F.slot_int_index.lookup
   (call_meets F.slot_int_rmul (typeIs_int s 1 t) F.entry_int_rmul (F.args_int_rmul_2 _ _) (kZ 1 t a its.toArray n dd sl)
    ⟨ho,rfl,⟨_,ho,rfl⟩,call_meets F.slot_tuple_mul ⟨_,ho,rfl⟩ F.entry_tuple_mul (F.args_tuple_mul_2 _ _) (so a its.toArray n dd sl t) ⟨ho,⟨.ref a,H,I,rfl,q⟩⟩⟩)
 .exact GJ X.K rfl pins s σ H x y v u Q I rx ry h
inductive Ent where
 | s (d:af)
 | o (ds:List af)
 | x (c:Str) (as:List af)
 | d (a:Addr) (t:Bool) (kvs:List (List Int × af))
 | f (a:Addr) (o:Obj) (kvs:List (List Int × af)) (xs:List V)
structure Xc where
 cl:Str->Addr
 fl:Str->List Str
noncomputable abbrev eF:=List (Option Ent)
structure Fr where
 G:Hp->Int->Prop
 gs:List Addr
 S0:List Addr
 H0:Hp
 fa:V
 fd:List Nat
 xc:Xc
 iF:∀{S:List Addr} {H H':Hp} {n:Int},G H n->Ext S H H'->(∀a∈S,H0 a=none)->G H' n
 uN:∀{H:Hp} {n:Int},G H n->∀a∈gs,H a≠none
 Rt:∀{H:Hp} {n:Int},G H n->∀a∈gs,∀φ,H a≠some (.ext φ)
 Oi:∀a∈gs,a∈S0
 sr:∀a∈S0,H0 a≠none
noncomputable def oY (M:Fr)(S:List Addr)(H:Hp):Ent->V->Prop
 | .s d,v=>dY S H d v
 | .o ds,v=>∃a xs,v=.ref a/\H a=some (.lst xs)/\dw S H ds xs/\a∈S/\M.H0 a=none
 | .x c as,v=>∃a dx vs,v=.ref a/\H a=some (.ext (Rr a (.ref (M.xc.cl c)) (some dx)))/\H dx=some (.ext (ID dx ((M.xc.fl c).zip vs)))/\dw S H as vs/\a ∉ M.gs/\dx ∉ M.gs
 | .d a t kvs,v=>v=.ref a/\∃xs,H a=some (ma t kvs xs)/\dw S H (kvs.map (·.2)) xs/\(t=false->∀p∈kvs,p.1.length=1)/\a∈S/\M.H0 a=none
 | .f a o kvs xs,v=>v=.ref a/\H a=some (.mH o (ma true kvs xs))/\dw S H (kvs.map (·.2)) xs/\a∈S/\M.H0 a=none
structure dF (M:Fr) (env:eF) (pn:List (af × V)) (σ:St) (S:List Addr) (H:Hp) (n:Int):Prop where
 val:∀(i:Nat) (e:Ent),env[i]? = some (some e)->∃v,σ[i]? = some (some v)/\oY M S H e v
 ne:∀(i j:Nat) (ds es:List af) (a:Addr),env[i]? = some (some (.o ds))->env[j]? = some (some (.o es))->σ[i]? = some (some (.ref a))->σ[j]? = some (some (.ref a))->i=j
 len:env.length=σ.length
 wx:∀i∈M.fd,σ[i]? = some (some M.fa)
 gd:M.G H n
 ext:Ext M.gs M.H0 H
 s0:∀a∈M.S0,a∈S
 sn:∀a∈S,a∈M.S0\/M.H0 a=none
 has:∀a∈S,H a≠none
 pin:∀p∈pn,dY S H p.1 p.2
section
theorem Fr.out (M:Fr)(h:M.H0 a=none):a ∉ M.gs:=λz=>M.sr a (M.Oi a z) h
theorem dF.pC (ok:dF M env pn σ S H n):∀a∈M.gs,a∈S:=λa h=>ok.s0 a (M.Oi a h)
theorem Ext.some (x:Ext S H H')(ha:a ∉ S)(h:H a≠none):H' a≠none:=by
 cases e:H a with
 | none=>exact absurd e h
 | some o=>rw[x.keep a o ha e];simp
theorem oY.step (hg:∀a∈M.gs,a∈S)(h:oY M S H e v)(x:Ext M.gs H H'):oY M S H' e v:=by
 cases e with
 | s d=>exact dY.ext (x.mono hg) h
 | o ds =>
  obtain⟨a,xs,e,ha,r,hs,h0⟩:=h;exact⟨a,xs,e,x.keep _ _ (M.out h0) ha,r.ext (x.mono hg),hs,h0⟩
 | x c as =>
  obtain⟨a,dx,vs,e,ha,hd,r,g1,g2⟩:=h;exact⟨a,dx,vs,e,x.keep _ _ g1 ha,x.keep _ _ g2 hd,r.ext (x.mono hg),g1,g2⟩
 | d a t kvs =>
  obtain⟨e,xs,ha,r,hk,hs,h0⟩:=h;exact⟨e,xs,x.keep _ _ (M.out h0) ha,r.ext (x.mono hg),hk,hs,h0⟩
 | f a o kvs xs =>
  obtain⟨e,ha,r,hs,h0⟩:=h;exact⟨e,x.keep _ _ (M.out h0) ha,r.ext (x.mono hg),hs,h0⟩
theorem dF.step (ok:dF M env pn σ S H n)(x:Ext M.gs H H')(g:M.G H' n'):dF M env pn σ S H' n':=by
 refine⟨λi e he=>?_,ok.ne,ok.len,ok.wx,g,ok.ext.trans x,ok.s0,ok.sn,λa ha=>?_,λp hp=>(ok.pin p hp).ext (x.mono ok.pC)⟩
 .obtain⟨v,hv,r⟩:=ok.val i e he
  exact⟨v,hv,r.step ok.pC x⟩
 .by_cases z:a∈M.gs
  .exact M.uN g a z
  .exact x.some z (ok.has a ha)
theorem dF.fresh (ok:dF M env pn σ S H n)(h:H a=none):a ∉ S:=λz=>ok.has a z h
theorem dF.grow (ok:dF M env pn σ S H n)(x:Ext [] H H'):M.G H' n:=M.iF ok.gd x (!4)
end
theorem dY.fresh (ha:H a=none)(h:dY S H d v):dY (a::S) H d v:=dY.more ha h
theorem dw.fresh (ha:H a=none)(h:dw S H ds vs):dw (a::S) H ds vs:=dw.more ha h
noncomputable def jM (H:Hp):Prop:=∀a xs,H a=some (.lst xs)\/H a=some (.tup xs)->xs.length<=aA
theorem kO.kD (ok:kO P w H h):jM H:=λa xs e=>by
 rcases e with e | e
 .exact (ok a _ e).1
 .exact (ok a _ e).1
noncomputable def eQ (gs S:List Addr)(H:Hp)(d:af)(v:V):Prop:=dY S H d v\/(∃ds a xs,d=.list ds/\v=.ref a/\H a=some (.lst xs)/\dw S H ds xs/\a ∉ gs)\/∃t kvs a xs,d=eM t kvs/\v=.ref a/\H a=some (ma t kvs xs)/\dw S H (kvs.map (·.2)) xs/\(t=false->∀p∈kvs,p.1.length=1)/\a ∉ gs
section
theorem eQ.ext (h:eQ gs S H d v)(hg:∀a∈gs,a∈S)(x:Ext gs H H'):eQ gs S H' d v:=by
 rcases h with h | ⟨ds,a,xs,e1,e2,e3,r,ha⟩ | ⟨t,kvs,a,xs,e1,e2,e3,r,hk,ha⟩
 .exact .inl (h.ext (x.mono hg))
 .exact .inr (.inl ⟨ds,a,xs,e1,e2,x.keep _ _ ha e3,r.ext (x.mono hg),ha⟩)
 .exact .inr (.inr ⟨t,kvs,a,xs,e1,e2,x.keep _ _ ha e3,r.ext (x.mono hg),hk,ha⟩)
theorem eQ.eR (h:eQ gs S H (.list ds) v):∃a xs,v=.ref a/\H a=some (.lst xs)/\dw S H ds xs:=by
 rcases h with h | ⟨pD,a,xs,e1,e2,e3,r,_⟩ | ⟨t,kvs,a,xs,e1,_⟩
 .obtain⟨a,xs,e,ha,_,r⟩:=h.eR
  exact⟨a,xs,e,ha,r⟩
 .cases e1
  exact⟨a,xs,e2,e3,r⟩
 .cases e1
theorem eQ.mL (h:eQ gs S H (.dict l) v):∃a t kvs xs,v=.ref a/\l=ml t kvs/\H a=some (ma t kvs xs)/\(t=false->∀p∈kvs,p.1.length=1)/\dw S H (kvs.map (·.2)) xs:=by
 rcases h with h | ⟨pD,a,xs,e1,_⟩ | ⟨t,kvs,a,xs,e1,e2,e3,r,hk,_⟩
 .obtain⟨a,t,kvs,xs,e,el,ha,_,hk,r⟩:=h.mL
  exact⟨a,t,kvs,xs,e,el,ha,hk,r⟩
 .cases e1
 .cases e1
  exact⟨a,t,kvs,xs,e2,rfl,e3,hk,r⟩
theorem eQ.rep (h:eQ gs S H d v)(hd:∀ds,d≠.list ds)(vY:∀l,d≠.dict l:=by intro _ z;cases z):dY S H d v:=by
 rcases h with h | ⟨ds,a,xs,e1,_⟩ | ⟨t,kvs,a,xs,e1,_⟩
 .exact h
 .exact absurd e1 (hd ds)
 .exact absurd e1 (vY _)
theorem eQ.less (h:eQ gs S H d v)(hg:∀a∈gs,a∈S):dY gs H d v:=by
 rcases h with h | ⟨ds,a,xs,rfl,rfl,e3,r,ha⟩ | ⟨t,kvs,a,xs,rfl,rfl,e3,r,hk,ha⟩
 .exact h.less hg
 .exact .lst e3 ha (r.less hg)
 .exact .Mw e3 ha hk (r.less hg)
theorem eQ.eY (h:eQ gs S H (.tuple ds) v):∃a xs,v=.ref a/\H a=some (.tup xs)/\dw S H ds xs:=(h.rep (by intro _ z;cases z)).eY
theorem eQ.ee (h:eQ gs S H (.int i) v):v=.int i:=(h.rep (by intro _ z;cases z)).ee
theorem eQ.kB (h:eQ gs S H (.bool i) v):v=.bl i:=(h.rep (by intro _ z;cases z)).kB
theorem eQ.jx (h:eQ gs S H (.str i) v):v=.str i:=(h.rep (by intro _ z;cases z)).jx
theorem eQ.j8 (h:eQ gs S H .none v):v=.f':=(h.rep (by intro _ z;cases z)).j8
end
noncomputable abbrev UX:=eF->Int->(af->Int->Prop)->Prop
noncomputable abbrev UT:=eF->Int->(Bool->Int->Prop)->Prop
noncomputable abbrev UA:=eF->Int->(List af->Int->Prop)->Prop
structure jj where
 nx:eF->Int->Prop
 rt:af->Int->Prop
noncomputable abbrev US:=jj->eF->Int->Prop
noncomputable def Oj (M:Fr)(u:UX):TE:=λσ H R=>∃env pn S n Q,dF M env pn σ S H n/\u env n Q/\∀v H' d n',dY S H' d v->Ext M.gs H H'->M.G H' n'->jM H'->Q d n'->R v H'
noncomputable def wy (M:Fr)(u:UX):TE:=λσ H R=>∃env pn S n Q,dF M env pn σ S H n/\u env n Q/\∀v H' d n',eQ M.gs S H' d v->Ext M.gs H H'->M.G H' n'->jM H'->Q d n'->R v H'
noncomputable def Ol (M:Fr)(u:eF->Int->(List af->Int->Prop)->Prop):TE:=λσ H R=>∃env pn S n Q,dF M env pn σ S H n/\u env n Q /\
 ∀a xs H' ds n',H a=none->H' a=some (.lst xs)->dw (a::S) H' ds xs->Ext M.gs H H'->M.G H' n'->jM H'->Q ds n'->R (.ref a) H'
noncomputable def liftT (M:Fr)(u:UT):TT:=λσ H R=>∃env pn S n Q,dF M env pn σ S H n/\u env n Q/\∀b H' n',Ext M.gs H H'->M.G H' n'->Q b n'->R b H'
noncomputable def Om (M:Fr)(k:Nat)(u:UA):TA:=λσ H R=>∃env pn S n Q,dF M env pn σ S H n/\u env n Q/\∀vs H' ds n',vs.length=k->dw S H' ds vs->Ext M.gs H H'->M.G H' n'->jM H'->Q ds n'->R vs H'
noncomputable def jk (gs S:List Addr)(H:Hp):List af->List V->Prop
 | [],vs=>vs=[]
 | d::ds,vs=>∃v r,vs=v::r/\eQ gs S H d v/\jk gs S H ds r
theorem jk.less:∀{ds:List af} {vs:List V},jk gs S H ds vs->(∀a∈gs,a∈S)->dw gs H ds vs
 | [],_,h,_=>by cases h;exact .nil
 | _::_,_,⟨v,r,e,h1,h2⟩,hg=>by subst e;exact .cons (h1.less hg) (jk.less h2 hg)
noncomputable def DB (M:Fr)(u:UA):TA:=λσ H R=>∃env pn S n Q,dF M env pn σ S H n/\u env n Q/\∀vs H' ds n',jk M.gs S H' ds vs->Ext M.gs H H'->M.G H' n'->jM H'->Q ds n'->R vs H'
noncomputable def Ag (M:Fr)(u:US):TS:=λD σ H=>∃env pn S n E,dF M env pn σ S H n/\u E env n/\(∀dZ σ' S' H' n',dF M dZ pn σ' S' H' n'->E.nx dZ n'->D.nx σ' H') /\
 (∀v H' d n',dY M.S0 H' d v->Ext M.gs M.H0 H'->M.G H' n'->E.rt d n'->D.rt v H')
structure KE (X:Cx) (M:Fr) (e:Expr) (u:UX):Prop where run:QE X e (Oj M u)
structure KL (X:Cx) (M:Fr) (e:Expr) (u:UX):Prop where run:QE X e (wy M u)
structure KN (X:Cx) (M:Fr) (e:Expr) (u:eF->Int->(List af->Int->Prop)->Prop):Prop where run:QE X e (Ol M u)
structure KB (X:Cx) (M:Fr) (e:Expr) (u:UT):Prop where run:QT X e (liftT M u)
structure KW (X:Cx) (M:Fr) (e:Expr) (u:UT):Prop where run:QW X e (liftT M u)
structure KA (X:Cx) (M:Fr) (es:List Expr) (u:UA):Prop where run:QA X es (Om M es.length u)
structure IE (X:Cx) (M:Fr) (es:List Expr) (u:UA):Prop where run:QA X es (DB M u)
structure KS (X:Cx) (M:Fr) (st:Stmt) (u:US):Prop where run:QS X st (Ag M u)
structure vF (X:Cx) (M:Fr) (st:List Stmt) (u:US):Prop where run:wd X st (Ag M u)
section
variable {X:Cx}{M:Fr}{e:Expr}{es:List Expr}{t:TE}{tT:TT}{ta:TA}{u:UX}
theorem BH {A B C D E:Type}{P:A->B->C->D->E->Prop}{r:Prop}(h:∃a b c d e,P a b c d e)(k:∀a b c d e,P a b c d e->r):r:=by
 obtain⟨a,b,c,d,e,p⟩:=h;exact k a b c d e p
theorem PR {A B C D E F:Type}{P:A->B->C->D->E->F->Prop}{r:Prop}(h:∃a b c d e f,P a b c d e f)(k:∀a b c d e f,P a b c d e f->r):r:=by
 obtain⟨a,b,c,d,e,f,p⟩:=h;exact k a b c d e f p
theorem QE.kD (h:QE X e t):QE X e (λσ H R=>t σ H λv H1=>jM H1->R v H1) :=
 ⟨λpins s σ H Q I q=>fk (h.run pins s σ H _ I q) λv s1 ⟨x,H1,I1,r1,q1⟩=>⟨x,H1,I1,r1,q1 I1.eD.kD⟩⟩
theorem QA.kD (h:QA X es ta):QA X es (λσ H R=>ta σ H λv H1=>jM H1->R v H1) :=
 ⟨λpos pins s σ H Q I q=>fk (h.run pos pins s σ H _ I q) λv s1 ⟨x,H1,I1,r1,q1⟩=>⟨x,H1,I1,r1,q1 I1.eD.kD⟩,h.ns⟩
theorem KE.of (h:QE X e t)(k:∀σ H R env pn S n Q,dF M env pn σ S H n->u env n Q->(∀v H' d n',dY S H' d v->Ext M.gs H H'->M.G H' n'->Q d n'->R v H')->t σ H R):KE X M e u :=
 ⟨h.kD.weaken λσ H R h=>BH h λenv pn S n Q h=>k σ H _ env pn S n Q h.1 h.2.1 λv H' d n' r x g qq sz=>h.2.2 v H' d n' r x g sz qq⟩
theorem KL.of (h:QE X e t)(k:∀σ H R env pn S n Q,dF M env pn σ S H n->u env n Q->(∀v H' d n',eQ M.gs S H' d v->Ext M.gs H H'->M.G H' n'->Q d n'->R v H')->t σ H R):KL X M e u :=
 ⟨h.kD.weaken λσ H R h=>BH h λenv pn S n Q h=>k σ H _ env pn S n Q h.1 h.2.1 λv H' d n' r x g qq sz=>h.2.2 v H' d n' r x g sz qq⟩
theorem KN.of {u:eF->Int->(List af->Int->Prop)->Prop}(h:QE X e t)(k:∀σ H R env pn S n Q,dF M env pn σ S H n->u env n Q->(∀a xs H' ds n',H a=none->H' a=some (.lst xs)->dw (a::S) H' ds xs->Ext M.gs H H'->M.G H' n'->Q ds n'->R (.ref a) H')->t σ H R):KN X M e u :=
 ⟨h.kD.weaken λσ H R h=>BH h λenv pn S n Q h=>k σ H _ env pn S n Q h.1 h.2.1 λa xs H' ds n' h0 h1 r x g qq sz=>h.2.2 a xs H' ds n' h0 h1 r x g sz qq⟩
theorem KA.of {u:UA}(h:QA X es ta)(k:∀σ H R env pn S n Q,dF M env pn σ S H n->u env n Q->(∀v H' d n',v.length=es.length->dw S H' d v->Ext M.gs H H'->M.G H' n'->Q d n'->R v H')->ta σ H R):KA X M es u :=
 ⟨h.kD.weaken λσ H R h=>BH h λenv pn S n Q h=>k σ H _ env pn S n Q h.1 h.2.1 λv H' d n' hl r x g qq sz=>h.2.2 v H' d n' hl r x g sz qq⟩
theorem IE.of {u:UA}(h:QA X es ta)(k:∀σ H R env pn S n Q,dF M env pn σ S H n->u env n Q->(∀v H' d n',jk M.gs S H' d v->Ext M.gs H H'->M.G H' n'->Q d n'->R v H')->ta σ H R):IE X M es u :=
 ⟨h.kD.weaken λσ H R h=>BH h λenv pn S n Q h=>k σ H _ env pn S n Q h.1 h.2.1 λv H' d n' r x g qq sz=>h.2.2 v H' d n' r x g sz qq⟩
theorem QT.weaken {t t':TT}(h:QT X e t)(w:∀σ H Q,t' σ H Q->t σ H Q):QT X e t':=⟨λpins s σ H Q I q=>h.run pins s σ H Q I (w σ H Q q)⟩
theorem QW.weaken {t t':TT}(h:QW X e t)(w:∀σ H Q,t' σ H Q->t σ H Q):QW X e t':=⟨λwh pins s σ H Q I q=>h.run wh pins s σ H Q I (w σ H Q q)⟩
theorem QS.weaken {st:Stmt}{t t':TS}(h:QS X st t)(w:∀D σ H,t' D σ H->t D σ H):QS X st t':=⟨λpins s σ H D I q=>h.run pins s σ H D I (w D σ H q)⟩
theorem wd.weaken {st:List Stmt}{t t':TS}(h:wd X st t)(w:∀D σ H,t' D σ H->t D σ H):wd X st t':=⟨λpins s σ H D I q=>h.run pins s σ H D I (w D σ H q)⟩
theorem KB.of {u:UT}(h:QT X e tT)(k:∀σ H R env pn S n Q,dF M env pn σ S H n->u env n Q->(∀b H' n',Ext M.gs H H'->M.G H' n'->Q b n'->R b H')->tT σ H R):KB X M e u :=
 ⟨h.weaken λσ H R h=>BH h λenv pn S n Q h=>k σ H _ env pn S n Q h.1 h.2.1 h.2.2⟩
theorem KW.of {u:UT}(h:QW X e tT)(k:∀σ H R env pn S n Q,dF M env pn σ S H n->u env n Q->(∀b H' n',Ext M.gs H H'->M.G H' n'->Q b n'->R b H')->tT σ H R):KW X M e u :=
 ⟨h.weaken λσ H R h=>BH h λenv pn S n Q h=>k σ H _ env pn S n Q h.1 h.2.1 h.2.2⟩
theorem KE.loose (h:KE X M e u):KL X M e u:=.of h.run λσ H R env pn S n Q ok hu k=>⟨env,pn,S,n,Q,ok,hu,λv H' d n' r x g _ q=>k v H' d n' (.inl r) x g q⟩
noncomputable def uL (u:eF->Int->(List af->Int->Prop)->Prop):UX:=λenv n Q=>u env n λds n'=>Q (.list ds) n'
theorem KN.data {u:eF->Int->(List af->Int->Prop)->Prop}(h:KN X M e u):KE X M e (uL u):=.of h.run λσ H R env pn S n Q ok hu k =>
 ⟨env,pn,S,n,_,ok,hu,λa xs H' ds n' h0 h1 r x g _ q=>k _ H' _ n' (.lst h1 (ok.fresh h0) (r.less λ_ h=>ai _ h)) x g q⟩
end
noncomputable def kK {α:Type}(o:Option α)(Q:α->Prop):Prop:=∃d,o=some d/\Q d
@[simp] theorem dv {α:Type} (d:α) (Q:α->Prop):kK (some d) Q=Q d:=by simp[kK]
@[simp] theorem Oo {α:Type} (Q:α->Prop):kK (none:Option α) Q=False:=by simp[kK]
noncomputable def dI (i:Nat):UX:=λenv n Q=>match env[i]? with | some (some (.s d))=>Q d n | _=>False
noncomputable def dr (i:Nat):UX:=λenv n Q=>match env[i]? with | some (some (.s d))=>Q d n | some (some (.o ds))=>Q (.list ds) n | some (some (.d _ t kvs))=>Q (eM t kvs) n | _=>False
noncomputable def uC (d:af):UX:=λ_ n Q=>Q d n
section
theorem gu (i:Nat)(hN:X.N[i]? = some x:=by rfl)(hv:rZ X.env.scope x:=by (first | exact Or.inl rfl | exact Or.inr (Or.inl rfl) | exact Or.inr (Or.inr rfl)))(hd:(x == ("__debug__" : Str))=false:=by decide)
  (iU:(x == ("__classdict__" : Str))=false:=by decide):KE X M (.Name x pos) (dI i):=.of (qv i hN hv hd iU) λσ H R env pn S n Q ok hu k=>by
 unfold dI at hu
 cases e:env[i]? with
 | none=>rw[e] at hu;exact hu.elim
 | some o =>
  cases o with
  | none=>rw[e] at hu;exact hu.elim
  | some en =>
   cases en with
   | o ds=>rw[e] at hu;exact hu.elim
   | x c as=>rw[e] at hu;exact hu.elim
   | d a t kvs=>rw[e] at hu;exact hu.elim
   | f a o kvs xs=>rw[e] at hu;exact hu.elim
   | s d =>
    rw[e] at hu;obtain⟨v,hv,r⟩:=ok.val i _ e;exact⟨v,hv,k v H d n r (.refl _ _) ok.gd hu⟩
theorem eC (i:Nat)(hN:X.N[i]? = some x:=by rfl)(hv:rZ X.env.scope x:=by (first | exact Or.inl rfl | exact Or.inr (Or.inl rfl) | exact Or.inr (Or.inr rfl)))(hd:(x == ("__debug__" : Str))=false:=by decide)
  (iU:(x == ("__classdict__" : Str))=false:=by decide):KL X M (.Name x pos) (dr i):=.of (qv i hN hv hd iU) λσ H R env pn S n Q ok hu k=>by
 unfold dr at hu
 cases e:env[i]? with
 | none=>rw[e] at hu;exact hu.elim
 | some o =>
  cases o with
  | none=>rw[e] at hu;exact hu.elim
  | some en =>
   rw[e] at hu;obtain⟨v,hv,r⟩:=ok.val i _ e
   cases en with
   | o ds =>
    obtain⟨a,xs,rfl,ha,r,hs,h0⟩:=r;exact⟨_,hv,k _ H _ n (.inr (.inl ⟨ds,a,xs,rfl,rfl,ha,r,M.out h0⟩)) (.refl _ _) ok.gd hu⟩
   | s d=>exact⟨v,hv,k v H d n (.inl r) (.refl _ _) ok.gd hu⟩
   | x c as=>exact hu.elim
   | f a o kvs xs=>exact hu.elim
   | d a t kvs =>
    obtain⟨rfl,xs,ha,r,hk,hs,h0⟩:=r;exact⟨_,hv,k _ H _ n (.inr (.inr ⟨t,kvs,a,xs,rfl,rfl,ha,r,hk,M.out h0⟩)) (.refl _ _) ok.gd hu⟩
theorem Ru (h:QE X e (tC v))(r:∀S H,dY S H d v):KE X M e (uC d):=.of h λσ H R env pn S n Q ok hu k=>k v H d n (r S H) (.refl _ _) ok.gd hu
theorem dG {i j pos}:KE X M (.Constant (.int i) j pos) (uC (.int i)):=Ru eE λ_ _=>.int i
theorem wz {i j pos}:KE X M (.Constant (.bool i) j pos) (uC (.bool i)):=Ru Df λ_ _=>.bl i
theorem jN {j pos}:KE X M (.Constant .none j pos) (uC .none):=Ru KH λ_ _=>.f'
end
noncomputable def dA:UA:=λ_ n Q=>Q [] n
noncomputable def du (u:UX)(r:UA):UA:=λenv n Q=>u env n λd n1=>r env n1 λds n2=>Q (d::ds) n2
section
variable {X:Cx}{M:Fr}{e a b:Expr}{es:List Expr}{u ua ub:UX}{ur:UA}{pos:Pos}
theorem dE:KA X M [] dA:=.of eS λσ H R env pn S n Q ok hu k=>k [] H [] n rfl .nil (.refl _ _) ok.gd hu
theorem dN (h:KE X M e u)(hr:KA X M es ur)(hs:eI e=true:=by rfl):KA X M (e::es) (du u ur):=.of (gC h.run hr.run hs) λσ H R env pn S n Q ok hu k =>
 ⟨env,pn,S,n,_,ok,hu,λv H1 d n1 r1 x1 g1 _ q1=>⟨env,pn,S,n1,_,ok.step x1 g1,q1,λvs H2 ds n2 hl r2 x2 g2 _ q2=>k _ H2 _ n2 (by simp[hl]) (.cons (r1.ext (x2.mono ok.pC)) r2) (x1.trans x2) g2 q2⟩⟩
theorem eX:IE X M [] dA:=.of eS λσ H R env pn S n Q ok hu k=>k [] H [] n rfl (.refl _ _) ok.gd hu
theorem fX (h:KL X M e u)(hr:IE X M es ur)(hs:eI e=true:=by rfl):IE X M (e::es) (du u ur):=.of (gC h.run hr.run hs) λσ H R env pn S n Q ok hu k =>
 ⟨env,pn,S,n,_,ok,hu,λv H1 d n1 r1 x1 g1 _ q1=>⟨env,pn,S,n1,_,ok.step x1 g1,q1,λvs H2 ds n2 r2 x2 g2 _ q2=>k _ H2 (d::ds) n2 ⟨_,_,rfl,r1.ext ok.pC x2,r2⟩ (x1.trans x2) g2 q2⟩⟩
noncomputable def eW (ur:UA):UX:=λenv n Q=>ur env n λds n1=>Q (.tuple ds) n1
theorem fQ {x1}(h:KA X M es ur)(hl:es.length<=aA:=by decide):KE X M (.Tuple es x1 pos) (eW ur) :=
 .of (KY h.run) λσ H R env pn S n Q ok hu k=>⟨env,pn,S,n,_,ok,hu,λvs H1 ds n1 el r1 x1 g1 sz q1=>⟨by rw[el];exact hl,λp hp =>
  have x2:=Ext.new (S:=[]) (o:=.tup vs) hp
  k _ _ _ n1 (.tup dz (r1.ext (x2.mono (!4)))) (x1.trans (x2.mono (!4))) (M.iF g1 x2 (!4)) q1⟩⟩
theorem kf (h:KA X M es ur)(hl:es.length<=aA:=by decide):KN X M (.List es pos) ur :=
 .of (uF h.run) λσ H R env pn S n Q ok hu k=>⟨env,pn,S,n,_,ok,hu,λvs H1 ds n1 el r1 x1 g1 sz q1=>⟨by rw[el];exact hl,λp hp =>
  have x2:=Ext.new (S:=[]) (o:=.lst vs) hp
  have U0:H p=none:=by
   by_cases z:p∈M.gs
   .exact absurd hp (M.uN g1 p z)
   .exact x1.fresh z hp
  k p vs _ _ n1 U0 dz ((r1.fresh hp).ext (x2.mono (!4))) (x1.trans (x2.mono (!4))) (M.iF g1 x2 (!4)) q1⟩⟩
end
theorem RelV.one (h:RelV v u)(k:RelV w u):v=w:=by
 cases v<;>cases w<;>simp only[RelV] at h k<;>first | rfl | (obtain⟨t,rfl⟩:=h;obtain⟨t',e⟩:=k;cases e;rfl) | (subst h;cases k;rfl) | (subst h;obtain⟨t',e⟩:=k;cases e) | (obtain⟨t,rfl⟩:=h;obtain⟨t',e⟩:=k;cases e;done) | (obtain⟨t,rfl⟩:=h;cases k;done) | (subst h;cases k;done)
theorem Ah:∀{kvs kvs':List (List Int × af)} {xs oZ:List V},xs.length=kvs.length->oZ.length=kvs'.length->Fx kvs xs=Fx kvs' oZ->xs=oZ/\kvs.map (λp=>p.1.headD 0)=kvs'.map (λp=>p.1.headD 0)
 | [],[],[],[],_,_,_=>⟨rfl,rfl⟩
 | [],[],_::_,_,h,_,_=>by simp at h
 | [],[],[],_::_,_,h,_=>by simp at h
 | [],p::_,_,[],_,h,_=>by simp at h
 | [],p::_,[],_::_,_,_,h=>by simp[Fx] at h
 | [],p::_,_::_,_::_,h,_,_=>by simp at h
 | p::_,[],[],_,h,_,_=>by simp at h
 | p::_,[],_::_,[],_,_,h=>by simp[Fx] at h
 | p::_,[],_::_,_::_,_,h,_=>by simp at h
 | p::_,q::_,[],_,h,_,_=>by simp at h
 | p::_,q::_,_::_,[],_,h,_=>by simp at h
 | p::kvs,q::kvs',x::xs,y::ys,h1,h2,h=>by
  rw[Fx,Fx] at h;injection h with e1 e2;injection e1 with e3 e4;injection e3 with e3;obtain⟨a,b⟩:=Ah (by simpa using h1) (by simpa using h2) e2;rw[e4,a,ak,ak,b];exact⟨rfl,by rw[e3]⟩
theorem Ai:∀{a b:List Int},(a.map Sum.inl:List Key)=b.map Sum.inl->a=b
 | [],[],_=>rfl
 | [],_::_,h=>by cases h
 | _::_,[],h=>by cases h
 | x::a,y::b,h=>by
  rw[ak,ak] at h;injection h with h1 h2;injection h1 with h1;rw[h1,Ai h2]
theorem Aj:∀{kvs kvs':List (List Int × af)} {xs oZ:List V},xs.length=kvs.length->oZ.length=kvs'.length->r9 kvs xs=r9 kvs' oZ->xs=oZ/\kvs.map (λp=>p.1)=kvs'.map (λp=>p.1)
 | [],[],[],[],_,_,_=>⟨rfl,rfl⟩
 | [],[],_::_,_,h,_,_=>by simp at h
 | [],[],[],_::_,_,h,_=>by simp at h
 | [],p::_,_,[],_,h,_=>by simp at h
 | [],p::_,[],_::_,_,_,h=>by simp[r9] at h
 | [],p::_,_::_,_::_,h,_,_=>by simp at h
 | p::_,[],[],_,h,_,_=>by simp at h
 | p::_,[],_::_,[],_,_,h=>by simp[r9] at h
 | p::_,[],_::_,_::_,_,h,_=>by simp at h
 | p::_,q::_,[],_,h,_,_=>by simp at h
 | p::_,q::_,_::_,[],_,h,_=>by simp at h
 | p::kvs,q::kvs',x::xs,y::ys,h1,h2,h=>by
  rw[r9,r9] at h;injection h with e1 e2;injection e1 with e3 e4;obtain⟨a,b⟩:=Aj (by simpa using h1) (by simpa using h2) e2;rw[e4,a,ak,ak,b];exact⟨rfl,by rw[Ai e3]⟩
theorem Ak:∀{l l':List (List Int × af)},l.map (λp=>p.1)=l'.map (λp=>p.1)->l.map (·.2)=l'.map (·.2)->l=l'
 | [],[],_,_=>rfl
 | [],_::_,h,_=>by cases h
 | _::_,[],h,_=>by cases h
 | (a,b)::l,(c,d)::l',h,k=>by
  rw[ak,ak] at h k;injection h with h1 h2;injection k with k1 k2;have h1:a=c:=h1;have k1:b=d:=k1;rw[Ak h2 k2,h1,k1]
theorem tj {l:List (List Int × af)}(h:∀p∈l,p.1.length=1):l.map (λp=>p.1)=(l.map λp=>p.1.headD 0).map λi=>[i]:=by
 rw[bA];refine ca λp hp=>?_
 match p,h p hp with
 | ([i],_),_=>rfl
theorem GV {t t':Bool}{kvs kvs':List (List Int × af)}{xs oZ:List V}(h1:xs.length=kvs.length)(h2:oZ.length=kvs'.length)(k1:t=false->∀p∈kvs,p.1.length=1)(k2:t'=false->∀p∈kvs',p.1.length=1)(h:ma t kvs xs=ma t' kvs' oZ):t=t'/\xs=oZ/\kvs.map (λp=>p.1)=kvs'.map (λp=>p.1):=by
 cases t with
 | true=>cases t' with
  | true =>
   injection h with h;exact⟨rfl,Aj h1 h2 h⟩
  | false=>cases h
 | false=>cases t' with
  | true=>cases h
  | false =>
   injection h with h;obtain⟨a,b⟩:=Ah h1 h2 h;exact⟨rfl,a,by rw[tj (k1 rfl),tj (k2 rfl),b]⟩
mutual
theorem dY.one {S:List Addr}{H:Hp}:∀{d d':af} {v:V},dY S H d v->dY S H d' v->d=d'
 | .none,d',v,h,k=>by cases h.j8;cases d'<;>simp[dY] at k;rfl
 | .bool b,d',v,h,k=>by cases h.kB;cases d'<;>simp[dY] at k;rw[k]
 | .int b,d',v,h,k=>by cases h.ee;cases d'<;>simp[dY] at k;rw[k]
 | .str b,d',v,h,k=>by cases h.jx;cases d'<;>simp[dY] at k;rw[k]
 | .tuple ds,d',v,h,k=>by
  obtain⟨a,xs,rfl,ha,r⟩:=h.eY
  cases d' with
  | tuple es =>
   obtain⟨b,ys,e,hb,r'⟩:=k.eY;cases e;rw[ha] at hb;cases hb;rw[dw.one r r']
  | list es=>obtain⟨b,ys,e,hb,_⟩:=k.eR;cases e;rw[ha] at hb;cases hb
  | dict es=>obtain⟨b,t,kvs,ys,e,_,hb,_⟩:=k.mL;cases e;rw[ha] at hb;exact (z9 hb).elim
  | _=>simp[dY] at k
 | .list ds,d',v,h,k=>by
  obtain⟨a,xs,rfl,ha,_,r⟩:=h.eR
  cases d' with
  | list es =>
   obtain⟨b,ys,e,hb,_,r'⟩:=k.eR;cases e;rw[ha] at hb;cases hb;rw[dw.one r r']
  | tuple es=>obtain⟨b,ys,e,hb,_⟩:=k.eY;cases e;rw[ha] at hb;cases hb
  | dict es=>obtain⟨b,t,kvs,ys,e,_,hb,_⟩:=k.mL;cases e;rw[ha] at hb;exact (lT hb).elim
  | _=>simp[dY] at k
 | .dict l,d',v,h,k=>by
  have h':=h;unfold dY at h';obtain⟨a,t,kvs,xs,rfl,rfl,ha,hs,hk,hr⟩:=h';have hl:xs.length=kvs.length:=by have:=(fO.By.mp hr).length;rw[g9,ao,ao,au] at this;omega
  cases d' with
  | tuple es=>obtain⟨b,ys,e,hb,_⟩:=k.eY;cases e;rw[ha] at hb;exact (z9 hb.symm).elim
  | list es=>obtain⟨b,ys,e,hb,_⟩:=k.eR;cases e;rw[ha] at hb;exact (lT hb.symm).elim
  | dict l' =>
   unfold dY at k;obtain⟨b,t',kvs',ys,e,rfl,hb,_,FA,Mx⟩:=k;cases e;rw[ha] at hb;have BE:ys.length=kvs'.length:=by have:=(fO.By.mp Mx).length;rw[g9,ao,ao,au] at this;omega
   obtain⟨rfl,rfl,GW⟩:=GV hl BE hk FA (Option.some.inj hb);have:=fO.one hr Mx;rw[g9,g9] at this;injection this with _ this;rw[Ak GW this]
  | _=>simp[dY] at k
theorem dw.one {S:List Addr}{H:Hp}:∀{ds pD:List af} {vs:List V},dw S H ds vs->dw S H pD vs->ds=pD
 | [],pD,vs,h,k=>by
  cases h.eO
  cases pD with
  | nil=>rfl
  | cons d ds=>obtain⟨x,r,e,_⟩:=k.of_cons;cases e
 | d::ds,pD,vs,h,k=>by
  obtain⟨x,r,rfl,h1,h2⟩:=h.of_cons
  cases pD with
  | nil=>cases k.eO
  | cons d' pD =>
   obtain⟨x',r',e,k1,k2⟩:=k.of_cons;cases e;rw[dY.one h1 k1,dw.one h2 k2]
theorem fO.one {S:List Addr}{H:Hp}:∀{l l':List (af × af)} {vs:List V},fO S H l vs->fO S H l' vs->l.map (·.2)=l'.map (·.2)
 | [],l',vs,h,k=>by
  unfold fO at h;subst h
  cases l' with
  | nil=>rfl
  | cons p l=>unfold fO at k;obtain⟨x,r,e,_⟩:=k;cases e
 | (_,d)::l,l',vs,h,k=>by
  unfold fO yt at h;obtain⟨x,r,rfl,h1,h2⟩:=h
  cases l' with
  | nil=>unfold fO at k;cases k
  | cons p l' =>
   unfold fO at k;obtain⟨x',r',e,k1,k2⟩:=k;cases e;have U1:dY S H p.2 x:=by cases p;unfold yt at k1;exact k1
   rw[ak,ak,fO.one h2 k2];show d::_=p.2::_;rw[dY.one h1 U1]
end
structure vG (X:Cx) (f:ah->ah->Sem ah) (op:af->af->Option af):Prop where
 ex:∃r,j0 X f r/\∀gs S H dx dy x y d (R:VK),(∀a∈S,H a≠none)->jM H->eQ gs S H dx x->eQ gs S H dy y->op dx dy=some d->(∀v H',dY S H' d v->Ext [] H H'->R v H')->r x y H R
noncomputable def dO (f:af->af->Option af)(ua ub:UX):UX:=λenv n Q=>ua env n λx n1=>ub env n1 λy n2=>kK (f x y) λd=>Q d n2
noncomputable def PU (d:af)(Q:Bool->Prop):Prop:=match d with | .bool b=>Q b | _=>False
@[simp] theorem d3 (b:Bool) (Q:Bool->Prop):PU (.bool b) Q=Q b:=rfl
noncomputable def d6 (u:UX):UT:=λenv n Q=>u env n λd n'=>PU d λb=>Q b n'
section
variable {X:Cx}{M:Fr}{a b c e:Expr}{ua ub uc:UX}{pos:Pos}{f:af->af->Option af}
theorem Al
  (hr:∀gs S H dx dy x y d (R:VK),(∀a∈S,H a≠none)->jM H->eQ gs S H dx x->eQ gs S H dy y->f dx dy=some d->(∀v H',dY S H' d v->Ext [] H H'->R v H')->r x y H R)
  (ok:dF M env pn σ S H n) (hu:dO f ua ub env n Q) (k:∀v H' d n',dY S H' d v->Ext M.gs H H'->M.G H' n'->Q d n'->R v H'):F8 r (wy M ua) (wy M ub) σ H R :=
 ⟨env,pn,S,n,_,ok,hu,λx H1 dx n1 r1 x1 g1 _ q1=>⟨env,pn,S,n1,_,ok.step x1 g1,q1,λy H2 dy n2 r2 x2 g2 sz q2=>by
  obtain⟨d,e,q⟩:=q2;exact hr M.gs S H2 dx dy x y d R ((ok.step x1 g1).step x2 g2).has sz (r1.ext ok.pC x2) r2 e λv H3 r3 x3=>k v H3 d n2 r3 ((x1.trans x2).trans (x3.mono (!4))) (M.iF g2 x3 (!4)) q⟩⟩
theorem k9 (ho:vG X (binaryOp op) f)(ha:KL X M a ua)(hb:KL X M b ub):KE X M (.BinOp a op b pos) (dO f ua ub):=by
 obtain⟨r,h1,h2⟩:=ho.ex;exact .of (fq h1 ha.run hb.run) λσ H R env pn S n Q ok hu k=>Al h2 ok hu k
theorem wA (ho:vG X (compareOp op) f)(ha:KL X M a ua)(hb:KL X M b ub)(hm:behindInMarks op b=false:=by first | exact iV _ | rfl):KE X M (.Compare a [op] [b] pos) (dO f ua ub):=by
 obtain⟨r,h1,h2⟩:=ho.ex;exact .of (Aa h1 ha.run hb.run hm) λσ H R env pn S n Q ok hu k=>Al h2 ok hu k
theorem ft (ho:vG X (compareOp op) f)(ha:KL X M a ua)(hb:KL X M b ub)(hm:behindInMarks op b=false:=by first | exact iV _ | rfl):KB X M (.Compare a [op] [b] pos) (d6 (dO f ua ub)):=by
 obtain⟨r,h1,h2⟩:=ho.ex;refine .of (pQ h1 ha.run hb.run hm) λσ H R env pn S n Q ok hu k=>Al (R:=λx H'=>∃k,x=.bl k/\R k H') h2 ok hu λv H' d n' r x g q=>?_
 cases d with
 | bool b=>exact⟨b,r.kB,k b H' n' x g q⟩
 | _=>exact False.elim q
theorem Am (h:KE X M e ua)(he:∀mh,isTrue e X.env mh=(do let v <- mh;standAt e.pos;holding [v] (truthy v)):=by rw[3]):KB X M e (d6 ua) :=
 .of (yv h.run he) λσ H R env pn S n Q ok hu k=>⟨env,pn,S,n,_,ok,hu,λv H' d n' r x g _ q=>by
  cases d with
  | bool b=>exact⟨b,r.kB,k b H' n' x g q⟩
  | _=>exact False.elim q⟩
noncomputable def BI (u w:UT):UT:=λenv n Q=>u env n λb n1=>if b=true then w env n1 Q else Q false n1
noncomputable def wB (u w:UT):UT:=λenv n Q=>u env n λb n1=>if b=true then Q true n1 else w env n1 Q
noncomputable def su (u:UT):UT:=λenv n Q=>u env n λb n1=>Q (!b) n1
variable {u w:UT}{rest:List Expr}
theorem yJ (h:KB X M a u):KW X M (.BoolOp .And [a] pos) u:=⟨Ab h.run⟩
theorem wC (h:KB X M a u):KW X M (.BoolOp .Or [a] pos) u:=⟨KP h.run⟩
theorem w_and (ha:KB X M a u)(hb:KW X M (.BoolOp .And (b::rest) pos) w):KW X M (.BoolOp .And (a::b::rest) pos) (BI u w) :=
 .of (Dh ha.run hb.run) λσ H R env pn S n Q ok hu k=>⟨env,pn,S,n,_,ok,hu,λc H1 n1 x1 g1 q=>by
  cases c with
  | true=>exact⟨env,pn,S,n1,Q,ok.step x1 g1,q,λb H2 n2 x2 g2 q2=>k b H2 n2 (x1.trans x2) g2 q2⟩
  | false=>exact k false H1 n1 x1 g1 q⟩
theorem w_or (ha:KB X M a u)(hb:KW X M (.BoolOp .Or (b::rest) pos) w):KW X M (.BoolOp .Or (a::b::rest) pos) (wB u w) :=
 .of (NU ha.run hb.run) λσ H R env pn S n Q ok hu k=>⟨env,pn,S,n,_,ok,hu,λc H1 n1 x1 g1 q=>by
  cases c with
  | false=>exact⟨env,pn,S,n1,Q,ok.step x1 g1,q,λb H2 n2 x2 g2 q2=>k b H2 n2 (x1.trans x2) g2 q2⟩
  | true=>exact k true H1 n1 x1 g1 q⟩
theorem KW.kb (h:KW X M e u):KB X M e u:=⟨h.run.pt⟩
theorem An (h:KB X M a u):KB X M (.UnaryOp .Not a pos) (su u):=.of (KQ h.run) λσ H R env pn S n Q ok hu k=>⟨env,pn,S,n,_,ok,hu,λc H1 n1 x1 g1 q=>k _ H1 n1 x1 g1 q⟩
noncomputable def Ao (ua ub:UX):UX:=λenv n Q=>ua env n λx n1=>PU x λb=>if b=true then ub env n1 Q else Q (.bool false) n1
theorem k_one {op}(h:KE X M a ua):KE X M (.BoolOp op [a] pos) ua:=⟨KR h.run⟩
theorem Oq (ha:KE X M a ua)(hb:KE X M (.BoolOp .And (b::rest) pos) ub):KE X M (.BoolOp .And (a::b::rest) pos) (Ao ua ub) :=
 .of (KU ha.run hb.run) λσ H R env pn S n Q ok hu k=>⟨env,pn,S,n,_,ok,hu,λv H1 d n1 r1 x1 g1 _ q=>by
  cases d with
  | bool c =>
   refine⟨c,r1.kB,?_⟩
   cases c with
   | true=>exact⟨env,pn,S,n1,Q,ok.step x1 g1,q,λv H2 d n2 r2 x2 g2 _ q2=>k v H2 d n2 r2 (x1.trans x2) g2 q2⟩
   | false=>exact k _ H1 _ n1 (.bl false) x1 g1 q
  | _=>exact False.elim q⟩
noncomputable def DC (t:UT)(ua ub:UX):UX:=λenv n Q=>t env n λc n1=>if c=true then ua env n1 Q else ub env n1 Q
theorem BJ (hc:KB X M c u)(ha:KE X M a ua)(hb:KE X M b ub):KE X M (.IfExp c a b pos) (DC u ua ub) :=
 .of (Dj hc.run ha.run hb.run) λσ H R env pn S n Q ok hu k=>⟨env,pn,S,n,_,ok,hu,λc H1 n1 x1 g1 q=>by
  cases c with
  | true=>exact⟨env,pn,S,n1,Q,ok.step x1 g1,q,λv H2 d n2 r2 x2 g2 _ q2=>k v H2 d n2 r2 (x1.trans x2) g2 q2⟩
  | false=>exact⟨env,pn,S,n1,Q,ok.step x1 g1,q,λv H2 d n2 r2 x2 g2 _ q2=>k v H2 d n2 r2 (x1.trans x2) g2 q2⟩⟩
noncomputable def wD:af->Option af | .int i=>some (.int (-i)) | _=>none
noncomputable def My (f:af->Option af)(ua:UX):UX:=λenv n Q=>ua env n λx n1=>kK (f x) λd=>Q d n1
theorem wF (ha:KE X M a ua):KE X M (.UnaryOp .USub a pos) (My wD ua) :=
 .of (NT J1 ha.run) λσ H R env pn S n Q ok hu k=>⟨env,pn,S,n,_,ok,hu,λv H1 d n1 r1 x1 g1 _ q=>by
  obtain⟨d',e,q⟩:=q
  cases d with
  | int i=>cases e;exact⟨i,r1.ee,k _ H1 _ n1 (.int _) x1 g1 q⟩
  | _=>cases e⟩
end
noncomputable def gZ:af->af->Option af
 | .int i,.int j=>some (.int (i+j))
 | .tuple xs,.tuple ys=>if xs.length+ys.length<=aA then some (.tuple (xs++ys)) else none
 | .list xs,.list ys=>if xs.length+ys.length<=aA then some (.list (xs++ys)) else none
 | .str x,.str y=>if x.length+y.length<=aA then some (.str (x++y)) else none
 | _,_=>none
noncomputable def BK:af->af->Option af | .int i,.int j=>some (.int (i - j)) | _,_=>none
instance (i j:Int):Decidable (yf i j):=by unfold yf;infer_instance
instance (i j:Int):Decidable (JX i j):=by unfold JX;infer_instance
instance (i j:Int):Decidable (JW i j):=by unfold JW;infer_instance
noncomputable def uO:af->af->Option af
 | .int i,.int j=>if yf i j then some (.int (i * j)) else none
 | .list xs,.int k=>if -(2 ^ 63)<=k/\k<2 ^ 63/\xs.length * k.toNat<=aA then some (.list (List.replicate k.toNat xs).flatten) else none
 | .tuple xs,.int k=>if 1<=k/\k<2 ^ 40/\xs≠[]/\xs.length * k.toNat<=16000000 then some (.tuple (List.replicate k.toNat xs).flatten) else none
 | _,_=>none
noncomputable def GX:af->af->Option af | .int i,.int j=>if 0<j then some (.int (i % j)) else none | _,_=>none
noncomputable def yL:af->af->Option af | .int i,.int j=>some (.bool (decide (i<j))) | _,_=>none
noncomputable def FC:af->af->Option af | .int i,.int j=>some (.bool (decide (j<i))) | _,_=>none
noncomputable def DD (x y:af):Option af:=if x.canLay0=true/\y.canLay0=true/\x.depth<=60 then some (.bool (af.eqv x y)) else none
noncomputable def wG (x y:af):Option af:=if x.canLay0=true/\y.canLay0=true/\x.depth<=60 then some (.bool (!PyData.eqv x y)) else none
noncomputable def ip (x:af):Bool:=match x with | .none=>true | _=>false
noncomputable def uP (x y:af):Option af:=match y with | .none=>some (.bool (ip x)) | _=>none
noncomputable def me (x y:af):Option af:=match y with | .none=>some (.bool (!ip x)) | _=>none
noncomputable def IF (x:af)(ds:List af):Option Bool:=if x.canLay0=true/\af.canLayAll0 ds=true/\x.depth<=60 then some (ds.any λd=>af.eqv d x) else none
noncomputable def DE (x y:af):Option af:=match y with | .tuple ds=>(IF x ds).map λb=>.bool (!b) | .list ds=>(IF x ds).map λb=>.bool (!b) | _=>none
section
variable {X:Cx}
theorem DF {f:ah->ah->Sem ah}{g:Int->Int->af}{gv:Int->Int->V}{op:af->af->Option af}(h:j0 X f (Ij gv))(hg:∀i j S H,dY S H (g i j) (gv i j))(ho:∀x y d,op x y=some d->∃i j,x=.int i/\y=.int j/\d=g i j):vG X f op :=
 ⟨_,h,λgs S H dx dy x y d R _ _ r1 r2 e k=>by
  obtain⟨i,j,rfl,rfl,rfl⟩:=ho _ _ _ e;exact⟨i,j,r1.ee,r2.ee,k _ H (hg i j S H) (.refl _ _)⟩⟩
theorem Rv {f:ah->ah->Sem ah}{C:Int->Int->Prop}{g:Int->Int->af}{gv:Int->Int->V}{op:af->af->Option af}(h:j0 X f (rI C gv))(hg:∀i j S H,dY S H (g i j) (gv i j))(ho:∀x y d,op x y=some d->∃i j,x=.int i/\y=.int j/\C i j/\d=g i j):vG X f op :=
 ⟨_,h,λgs S H dx dy x y d R _ _ r1 r2 e k=>by
  obtain⟨i,j,rfl,rfl,hc,rfl⟩:=ho _ _ _ e;exact⟨i,j,r1.ee,r2.ee,hc,k _ H (hg i j S H) (.refl _ _)⟩⟩
theorem IG:vG X (binaryOp .Sub) BK:=DF (g:=λi j=>.int (i - j)) JY (λ_ _ _ _=>.int _) λx y d e=>by
 cases x<;>cases y<;>simp[BK] at e;exact⟨_,_,rfl,rfl,e.symm⟩
theorem DG:vG X (compareOp .Lt) yL:=DF (g:=λi j=>.bool (decide (i<j))) Ik (λ_ _ _ _=>.bl _) λx y d e=>by
 cases x<;>cases y<;>simp[yL] at e;exact⟨_,_,rfl,rfl,e.symm⟩
theorem GY:vG X (compareOp .Gt) FC:=DF (g:=λi j=>.bool (decide (j<i))) Il (λ_ _ _ _=>.bl _) λx y d e=>by
 cases x<;>cases y<;>simp[FC] at e;exact⟨_,_,rfl,rfl,e.symm⟩
theorem Ot:vG X (binaryOp .Mod) GX:=Rv (g:=λi j=>.int (i % j)) j5 (λ_ _ _ _=>.int _) λx y d e=>by
 cases x<;>cases y<;>simp[GX] at e;exact⟨_,_,rfl,rfl,e.1,e.2.symm⟩
theorem GZ (r:dY S H d v):ip d=decide (v=.f'):=by
 cases d with
 | none=>cases r.j8;rfl
 | bool b=>cases r.kB;rfl
 | int b=>cases r.ee;rfl
 | str b=>cases r.jx;rfl
 | tuple b=>obtain⟨a,xs,rfl,_⟩:=r.eY;rfl
 | list b=>obtain⟨a,xs,rfl,_⟩:=r.eR;rfl
 | dict b=>obtain⟨a,t,kvs,xs,rfl,_⟩:=r.mL;rfl
theorem eQ.Tu (r:eQ gs S H d v):ip d=decide (v=.f'):=by
 rcases r with r | ⟨ds,a,xs,rfl,rfl,_⟩ | ⟨t,kvs,a,xs,rfl,rfl,_⟩
 .exact GZ r
 .rfl
 .rfl
theorem DH:vG X (compareOp .Is) uP:=⟨_,J2,λgs S H dx dy x y d R _ _ r1 r2 e k=>by
 cases dy with
 | none=>cases e;exact⟨r2.j8,r1.Tu ▸ k _ H (.bl _) (.refl _ _)⟩
 | _=>cases e⟩
theorem Ap:vG X (compareOp .IsNot) me:=⟨_,F9,λgs S H dx dy x y d R _ _ r1 r2 e k=>by
 cases dy with
 | none=>cases e;exact⟨r2.j8,r1.Tu ▸ k _ H (.bl _) (.refl _ _)⟩
 | _=>cases e⟩
theorem eQ.reads (r:eQ gs S H d v)(c0:d.canLay0=true)(ok:kO P w H h)(rv:RelV v u):∃as,Reads h u d as:=by
 rcases r with r | ⟨ds,a,xs,rfl,rfl,ha,rs,_⟩ | ⟨t,kvs,a,xs,rfl,_⟩
 .exact dY.reads ok c0 r rv
 .cases (show u=ah.ref a from rv)
  obtain⟨_,its,n,rv,e⟩:=ok a _ ha;obtain⟨as,ra⟩:=dw.reads ok (by simpa [af.canLay0] using c0) rs rv;exact⟨_,.list e rfl rfl (by simpa using ra)⟩
 .simp[eM,af.canLay0] at c0
noncomputable def Ou (neg:Bool):R2:=λx y H Q=>∃gs S dx dy,eQ gs S H dx x/\eQ gs S H dy y/\dx.canLay0=true/\dy.canLay0=true/\dx.depth<=60/\Q (.bl (if neg then !PyData.eqv dx dy else af.eqv dx dy)) H
theorem Le (Fy:X.A.units+64<cLine):j0 X (compareOp .Eq) (Ou false):=by
 intro pins s σ H x y v u Q I rx ry h;obtain⟨gs,S,dx,dy,h1,h2,c1,c2,d1,q⟩:=h;obtain⟨as,ra⟩:=h1.reads c1 I.eD rx;obtain⟨bs,rb⟩:=h2.reads c2 I.eD ry;exact SeqAt.compareEq_reads ra rb c1 c2 (!1) ⟨.bl _,H,I,rfl,q⟩
theorem Lf (Fy:X.A.units+64<cLine):j0 X (compareOp .NotEq) (Ou true):=by
 intro pins s σ H x y v u Q I rx ry h;obtain⟨gs,S,dx,dy,h1,h2,c1,c2,d1,q⟩:=h;obtain⟨as,ra⟩:=h1.reads c1 I.eD rx;obtain⟨bs,rb⟩:=h2.reads c2 I.eD ry;exact SeqAt.compareNe_reads ra rb c1 c2 (!1) ⟨.bl _,H,I,rfl,q⟩
theorem yM (Fy:X.A.units+64<cLine):vG X (compareOp .Eq) DD:=⟨_,Le Fy,λgs S H dx dy x y d R _ _ r1 r2 e k=>by
 unfold DD at e;split at e
 .rename_i hc
  cases e;exact⟨gs,S,dx,dy,r1,r2,hc.1,hc.2.1,hc.2.2,k _ H (.bl _) (.refl _ _)⟩
 .cases e⟩
theorem DI (Fy:X.A.units+64<cLine):vG X (compareOp .NotEq) wG:=⟨_,Lf Fy,λgs S H dx dy x y d R _ _ r1 r2 e k=>by
 unfold wG at e;split at e
 .rename_i hc
  cases e;exact⟨gs,S,dx,dy,r1,r2,hc.1,hc.2.1,hc.2.2,k _ H (.bl _) (.refl _ _)⟩
 .cases e⟩
end
section
variable {X:Cx}
theorem eQ.IH {K:W.Frag}{gs S:List Addr}{H:Hp}{ds:List af}{v:V}(h:eQ gs S H (.tuple ds) v):∃a xs,v=.ref a/\iz K H a xs/\H a=some (.tup xs)/\dw S H ds xs:=let ⟨a,xs,e,ha,r⟩:=h.eY;⟨a,xs,e,iz.of ha,ha,r⟩
theorem eQ.II {K:W.Frag}{gs S:List Addr}{H:Hp}{ds:List af}{v:V}(h:eQ gs S H (.list ds) v):∃a xs,v=.ref a/\gc K H a xs/\H a=some (.lst xs)/\dw S H ds xs:=let ⟨a,xs,e,ha,r⟩:=h.eR;⟨a,xs,e,gc.of ha,ha,r⟩
theorem pU {S:List Addr}{H:Hp}{ds:List af}{xs:List V}{p:Addr}(hp:H p=none)(r:dw S H ds xs):dY S (eg H p (.tup xs)) (.tuple ds) (.ref p):=.tup dz (r.ext (.new hp))
theorem uQ (has:∀a∈S,H a≠none)(hp:H p=none)(r:dw S H ds xs):dY S (eg H p (.lst xs)) (.list ds) (.ref p):=.lst dz (λz=>has p z hp) (r.ext (.new hp))
theorem dw.flat (r:dw S H ds xs)(k:Nat):dw S H (List.replicate k ds).flatten (List.replicate k xs).flatten:=by
 induction k with
 | zero=>exact .nil
 | succ k ih=>rw[aN,aN,cF,cF];exact r.append ih
theorem kE:vG X (binaryOp .Add) gZ:=⟨_,((kS.or (Rh X.K)).or CZ).or yg,λgs S H dx dy x y d R has sz r1 r2 e k=>by
 cases dx with
 | int i=>cases dy with
  | int j=>cases e;exact .inl (.inl (.inl ⟨i,j,r1.ee,r2.ee,k _ H (.int _) (.refl _ _)⟩))
  | _=>cases e
 | str i=>cases dy with
  | str j =>
   simp only[gZ] at e;split at e
   .rename_i hz
    cases e;exact .inr ⟨i,j,r1.jx,r2.jx,hz,k _ H (.str _) (.refl _ _)⟩
   .cases e
  | _=>cases e
 | tuple ds=>cases dy with
  | tuple es =>
   simp only[gZ] at e;split at e
   .rename_i hz
    cases e;obtain⟨a,xs,rfl,s1,h1,q1⟩:=r1.IH (K:=X.K);obtain⟨b,ys,rfl,s2,h2,q2⟩:=r2.IH (K:=X.K);refine .inl (.inl (.inr ⟨a,b,xs,ys,rfl,rfl,s1,s2,by rw[q1.length,q2.length];exact hz,λe=>?_,λe=>?_,λp hp=>k _ _ (pU hp (q1.append q2)) (.new hp)⟩))
    .subst e
     cases ds with
     | nil=>exact k _ H (.tup h2 q2) (.refl _ _)
     | cons d ds=>have:=q1.length;simp at this
    .subst e
     cases es with
     | nil=>rw[bR] at k;exact k _ H (.tup h1 q1) (.refl _ _)
     | cons d ds=>have:=q2.length;simp at this
   .cases e
  | _=>cases e
 | list ds=>cases dy with
  | list es =>
   simp only[gZ] at e;split at e
   .rename_i hz
    cases e;obtain⟨a,xs,rfl,h1,q1⟩:=r1.eR;obtain⟨b,ys,rfl,h2,q2⟩:=r2.eR;exact .inl (.inr ⟨a,b,xs,ys,rfl,rfl,h1,h2,by rw[q1.length,q2.length];exact hz,λp hp=>k _ _ (uQ has hp (q1.append q2)) (.new hp)⟩)
   .cases e
  | _=>cases e
 | _=>cases dy<;>cases e⟩
theorem IJ:vG X (binaryOp .Mult) uO:=⟨_,(kT.or yo).or (DA X.K),λgs S H dx dy x y d R has sz r1 r2 e k=>by
 cases dx with
 | int i=>cases dy with
  | int j =>
   simp only[uO] at e;split at e
   .rename_i hz
    cases e;exact .inl (.inl ⟨i,j,r1.ee,r2.ee,hz,k _ H (.int _) (.refl _ _)⟩)
   .cases e
  | _=>cases e
 | list ds=>cases dy with
  | int j =>
   simp only[uO] at e;split at e
   .rename_i hz
    cases e;obtain⟨a,xs,rfl,h1,q1⟩:=r1.eR;exact .inl (.inr ⟨a,j,xs,rfl,r2.ee,h1,hz.1,hz.2.1,by rw[q1.length];exact hz.2.2,λp hp=>k _ _ (uQ has hp (q1.flat _)) (.new hp)⟩)
   .cases e
  | _=>cases e
 | tuple ds=>cases dy with
  | int j =>
   simp only[uO] at e;split at e
   .rename_i hz
    cases e;obtain⟨a,xs,rfl,s1,h1,q1⟩:=r1.IH (K:=X.K);by_cases h:j=1
    .subst h
     refine .inr (.inl ⟨a,xs,rfl,r2.ee,s1,k _ H ?_ (.refl _ _)⟩);simpa using dY.tup h1 q1
    .refine .inr (.inr ⟨a,j,xs,rfl,r2.ee,s1,λz=>?_,!1,hz.2.1,by rw[q1.length];exact hz.2.2.2,λp hp=>k _ _ (pU hp (q1.flat _)) (.new hp)⟩)
     subst z;have:=q1.length;exact hz.2.2.1 (by simpa using this.symm)
   .cases e
  | _=>cases e
 | _=>cases dy<;>cases e⟩
noncomputable def Rw (neg:Bool):R2:=λx y H Q=>∃gs S dx ds p xs,eQ gs S H dx x/\y=.ref p/\(H p=some (.lst xs)\/H p=some (.tup xs))/\dw S H ds xs/\dx.canLay0=true/\af.canLayAll0 ds=true/\dx.depth<=60/\Q (.bl (if neg then !(ds.any λd=>af.eqv d dx) else ds.any λd=>af.eqv d dx)) H
open Classical in
noncomputable def FD (S:List Addr)(H:Hp)(xs:List V)(dx:af)(y:ah):Bool:=decide (∃v d,RelV v y/\dY S H d v/\af.eqv d dx=true)
open Classical in
theorem DJ {S:List Addr}{H:Hp}{xs:List V}{dx d:af}{v:V}{y:ah}(h1:RelV v y)(h2:dY S H d v):FD S H xs dx y=af.eqv d dx:=by
 unfold FD
 cases e:af.eqv d dx with
 | true=>exact decide_eq_true ⟨v,d,h1,h2,e⟩
 | false =>
  refine decide_eq_false λ⟨v',d',k1,k2,k3⟩=>?_;cases RelV.one h1 k1;cases dY.one h2 k2;rw[e] at k3;cases k3
theorem uR:∀{ds:List af} {xs:List V} {us:List ah},dw S H ds xs->dW xs us->us.any (FD S H zs dx)=ds.any λd=>af.eqv d dx
 | [],_,_,h,r=>by cases h.eO;cases r;rfl
 | d::ds,_,_,h,r=>by
  obtain⟨x,t,rfl,h1,h2⟩:=h.of_cons
  cases r with
  | cons q1 q2=>rw[ce,ce,uR h2 q2,DJ q1 h1]
theorem yN (ok:kO P w H s.heap)(rx:eQ gs S H dx x)(rv:RelV x v)(c1:dx.canLay0=true)(hu:A.units+60<cLine)(hd:dx.depth<=60) :
  ∀{ds:List af} {xs:List V} {us:List ah},af.canLayAll0 ds=true->dw S H ds xs->dW xs us->∀u∈us,SeqAt.EqAt A s u v (FD S H zs dx u)
 | [],_,_,_,h,r=>by cases h.eO;cases r;intro u hu;cases hu
 | d::ds,_,_,hc,h,r=>by
  obtain⟨y,t,rfl,h1,h2⟩:=h.of_cons;simp only[af.canLayAll0,bH] at hc
  cases r with
  | cons q1 q2 =>
   intro u G0;rcases av.mp G0 with rfl | G0
   .rw[DJ q1 h1]
    obtain⟨as,ra⟩:=dY.reads ok hc.1 h1 q1;obtain⟨bs,rb⟩:=rx.reads c1 ok rv;exact SeqAt.eqAt_reads d dx A s _ v as bs ra rb hc.1 c1 (by have:min d.depth dx.depth<=60:=(!1);omega)
   .exact yN ok rx rv c1 hu hd hc.2 h2 q2 u G0
theorem G1 (Fy:X.A.units+64<cLine):j0 X (compareOp .NotIn) (Rw true):=by
 intro pins s σ H x y v u Q I rx ry h;obtain⟨gs,S,dx,ds,p,xs,r1,rfl,hq,rs,c1,c2,hd,q⟩:=h;cases ry;have sv:X.A.in1.units+60<cLine:=by show X.A.units+1+60<cLine;omega
 rcases hq with hq | hq
 .obtain⟨its,r,pl,hz⟩:=I.list (gc.of (K:=X.K) hq)
  refine SeqAt.notIn_listAt (FD S H xs dx) pl.isList (λw hw=>yN I.eD r1 rx c1 sv hd c2 rs r w (by simpa using hw)) ⟨.bl _,H,I,rfl,?_⟩;rw[show its.toArray.any (FD S H xs dx)=its.any (FD S H xs dx) by simp,uR rs r];exact q
 .obtain⟨its,r,pl,hz⟩:=I.tuple (iz.of (K:=X.K) hq)
  refine SeqAt.notIn_tupleAt (FD S H xs dx) pl (λw hw=>yN I.eD r1 rx c1 sv hd c2 rs r w (by simpa using hw)) ⟨.bl _,H,I,rfl,?_⟩;rw[show its.toArray.any (FD S H xs dx)=its.any (FD S H xs dx) by simp,uR rs r];exact q
theorem DK (h:IF x ds=some b):x.canLay0=true/\af.canLayAll0 ds=true/\x.depth<=60/\(ds.any λd=>af.eqv d x)=b:=by
 unfold IF at h;split at h
 .rename_i hc
  cases h;exact⟨hc.1,hc.2.1,hc.2.2,rfl⟩
 .cases h
theorem IK (Fy:X.A.units+64<cLine):vG X (compareOp .NotIn) DE:=⟨_,G1 Fy,λgs S H dx dy x y d R _ _ r1 r2 e k=>by
 cases dy with
 | tuple ds =>
  obtain⟨b,hb,rfl⟩:=dm.mp (show (IF dx ds).map (λb=>af.bool (!b))=some d from e);obtain⟨c1,c2,c3,rfl⟩:=DK hb;obtain⟨a,xs,rfl,ha,rs⟩:=r2.eY;exact⟨gs,S,dx,ds,a,xs,r1,rfl,.inr ha,rs,c1,c2,c3,k _ H (.bl _) (.refl _ _)⟩
 | list ds =>
  obtain⟨b,hb,rfl⟩:=dm.mp (show (IF dx ds).map (λb=>af.bool (!b))=some d from e);obtain⟨c1,c2,c3,rfl⟩:=DK hb;obtain⟨a,xs,rfl,ha,rs⟩:=r2.eR;exact⟨gs,S,dx,ds,a,xs,r1,rfl,.inl ha,rs,c1,c2,c3,k _ H (.bl _) (.refl _ _)⟩
 | _=>cases e⟩
end
noncomputable def fh (x y:af):Option af:=match x,y with | .tuple ds,.int i=>oX ds i | .list ds,.int i=>oX ds i | _,_=>none
theorem wH (r:dw S H ds xs)(h:oX ds i=some d):∃v,oX xs i=some v/\dY S H d v:=by
 unfold oX at h ⊢;rw[r.length]
 cases e:Co ds.length i with
 | none=>rw[e] at h;cases h
 | some j =>
  rw[e] at h;obtain⟨x,hx,rx⟩:=r.at (show ds[j]? = some d from h);exact⟨x,hx,rx⟩
section
variable {X:Cx}{M:Fr}{a b e:Expr}{ua ub:UX}{pos p2:Pos}
theorem eT (ha:KL X M a ua)(hb:KL X M b ub)(hs:um b:=by exact λ_ _=>rfl):KE X M (.Subscript a b pos) (dO fh ua ub) :=
 .of (nD ((UR X.K).or (GH X.K)) ha.run hb.run hs) λσ H R env pn S n Q ok hu k=>Al (λgs S H dx dy x y d R _ _ r1 r2 e k=>by
  cases dx with
  | tuple ds=>cases dy with
   | int i =>
    obtain⟨a,xs,rfl,sq,_,rs⟩:=r1.IH (K:=X.K);obtain⟨v,hv,rv⟩:=wH rs (show oX ds i=some d from e);exact .inl ⟨a,xs,i,v,rfl,r2.ee,sq,hv,k v H rv (.refl _ _)⟩
   | _=>cases e
  | list ds=>cases dy with
   | int i =>
    obtain⟨a,xs,rfl,sq,_,rs⟩:=r1.II (K:=X.K);obtain⟨v,hv,rv⟩:=wH rs (show oX ds i=some d from e);exact .inr ⟨a,xs,i,v,rfl,r2.ee,sq,hv,k v H rv (.refl _ _)⟩
   | _=>cases e
  | _=>cases dy<;>cases e) ok hu k
noncomputable abbrev UO:=eF->Int->(Option Int->Int->Prop)->Prop
structure KO (X:Cx) (M:Fr) (e:Option Expr) (u:UO):Prop where run:∃t,QO X e t/\∀σ H R env pn S n Q,dF M env pn σ S H n->u env n Q->(∀o H' n',Ext M.gs H H'->M.G H' n'->Q o n'->R o H')->t σ H R
noncomputable def DL:UO:=λ_ n Q=>Q none n
noncomputable def DM (u:UX):UO:=λenv n Q=>u env n λd n1=>match d with | .int i=>Q (some i) n1 | _=>False
theorem nH:KO X M none DL:=⟨_,Ac,λσ H R env pn S n Q ok hu k=>k none H n (.refl _ _) ok.gd hu⟩
theorem nI (h:KE X M e ua):KO X M (some e) (DM ua):=⟨_,Ad h.run,λσ H R env pn S n Q ok hu k=>⟨env,pn,S,n,_,ok,hu,λv H1 d n1 r1 x1 g1 _ q=>by
 cases d with
 | int i=>exact⟨i,r1.ee,k _ H1 n1 x1 g1 q⟩
 | _=>exact False.elim q⟩⟩
noncomputable def oo {α:Type}(xs:List α)(lo hi:Option Int):List α:=(xs.drop (HT.gh xs.length 0 lo)).take (HT.gh xs.length xs.length hi - HT.gh xs.length 0 lo)
noncomputable def Mz (d:af)(lo hi:Option Int):Option af:=match d with | .tuple ds=>some (.tuple (oo ds lo hi)) | .list ds=>some (.list (oo ds lo hi)) | _=>none
noncomputable def Cp (u:UX)(ul uh:UO):UX:=λenv n Q=>u env n λd n1=>ul env n1 λlo n2=>uh env n2 λhi n3=>kK (Mz d lo hi) λd=>Q d n3
theorem qC (r:dw S H ds xs)(lo hi:Option Int):dw S H (oo ds lo hi) (nz xs lo hi):=by
 unfold oo nz;rw[r.length];exact (r.drop _).take _
theorem BL {S:List Addr}{H:Hp}{ds:List af}{xs:List V}(r:dw S H ds xs){lo hi:Option Int}(h:nz xs lo hi=xs):oo ds lo hi=ds:=by
 have:=qC r lo hi;rw[h] at this;exact dw.one this r
theorem DN {lo hi:Option Expr}{ul uh:UO}(he:KL X M e ua)(hl:KO X M lo ul)(hu:KO X M hi uh):KE X M (.Subscript e (.Slice lo hi none p2) pos) (Cp ua ul uh):=by
 obtain⟨tl,q1,l1⟩:=hl.run;obtain⟨th,q2,l2⟩:=hu.run;refine .of (we ((UU X.K).or (Tr X.K)) he.run q1 q2) λσ H R env pn S n Q ok hu k=>⟨env,pn,S,n,_,ok,hu,λv H1 d n1 r1 x1 g1 _ q=>?_⟩;refine l1 σ H1 _ env pn S n1 _ (ok.step x1 g1) q λlo H2 n2 x2 g2 q=>?_;refine l2 σ H2 _ env pn S n2 _ ((ok.step x1 g1).step x2 g2) q λhi H3 n3 x3 g3 q=>?_;obtain⟨d',e,q⟩:=q;have FE:=((ok.step x1 g1).step x2 g2).step x3 g3;have r3:=(r1.ext ok.pC x2).ext ok.pC x3;have Lg:=(x1.trans x2).trans x3
 cases d with
 | tuple ds =>
  cases e;obtain⟨a,xs,rfl,sq,ha,rs⟩:=r3.IH (K:=X.K);refine .inl ⟨a,xs,rfl,sq,λh=>?_,λp hp=>k _ _ _ n3 (pU hp (qC rs lo hi)) (Lg.trans (.new hp)) (M.iF g3 (.new (S:=[]) hp) (!4)) q⟩;have:=BL rs h;exact k _ H3 _ n3 (.tup ha (by rw[this];exact rs)) Lg g3 q
 | list ds =>
  cases e;obtain⟨a,xs,rfl,sq,ha,rs⟩:=r3.II (K:=X.K);exact .inr ⟨a,xs,rfl,sq,λp hp=>k _ _ _ n3 (uQ FE.has hp (qC rs lo hi)) (Lg.trans (.new hp)) (M.iF g3 (.new (S:=[]) hp) (!4)) q⟩
 | _=>cases e
end
structure mw (X:Cx) (fv:ah) (f:List af->Option af):Prop where
 ex:∃r,fP X fv r/\∀gs S H ds vs d (R:VK),(∀a∈S,H a≠none)->jM H->jk gs S H ds vs->f ds=some d->(∀v H',dY S H' d v->Ext [] H H'->R v H')->r vs H R
noncomputable def oa (f:List af->Option af)(ua:UA):UX:=λenv n Q=>ua env n λds n1=>kK (f ds) λd=>Q d n1
section
variable {X:Cx}{M:Fr}{e:Expr}{es:List Expr}{ua:UA}{p pos:Pos}{f:List af->Option af}{id T:String}{x:Str}
theorem IL (hr:∀gs S H ds vs d (R:VK),(∀a∈S,H a≠none)->jM H->jk gs S H ds vs->f ds=some d->(∀v H',dY S H' d v->Ext [] H H'->R v H')->r vs H R)(ok:dF M env pn σ S H n)(hu:oa f ua env n Q)(k:∀v H' d n',dY S H' d v->Ext M.gs H H'->M.G H' n'->Q d n'->R v H'):Nm r (DB M ua) σ H R :=
 ⟨env,pn,S,n,_,ok,hu,λvs H1 ds n1 r1 x1 g1 sz q=>by
  obtain⟨d,e,q⟩:=q;exact hr M.gs S H1 ds vs d R (ok.step x1 g1).has sz r1 e λv H2 r2 x2=>k v H2 d n1 r2 (x1.trans (x2.mono (!4))) (M.iF g1 x2 (!4)) q⟩
theorem uS (hc:mw X (.builtin id) f)(hm:X.mg x=none)(ha:IE X M (e::es) ua)(hg:Gl X x:=by rfl)(hv:bootBuiltins x=some (.builtin id):=by decide +kernel)(hn:x ≠ "__name__" := by decide)(oh:(x == ("__debug__" : Str))=false:=by decide) :
  KE X M (.Call (.Name x p) (e::es) [] pos) (oa f ua):=by
 obtain⟨r,h1,h2⟩:=hc.ex;exact .of (gO h1 hg hm hv ha.run hn oh) λσ H R env pn S n Q ok hu k=>IL h2 ok hu k
theorem uT (hc:mw X (.type T) f)(hm:X.mg x=none)(ha:IE X M (e::es) ua)(hg:Gl X x:=by rfl)(hv:bootBuiltins x=some (.type T):=by decide +kernel)(hn:x ≠ "__name__" := by decide)(oh:(x == ("__debug__" : Str))=false:=by decide) :
  KE X M (.Call (.Name x p) (e::es) [] pos) (oa f ua):=by
 obtain⟨r,h1,h2⟩:=hc.ex;exact .of (gJ h1 hg hm hv ha.run hn oh) λσ H R env pn S n Q ok hu k=>IL h2 ok hu k
end
theorem jk.one (h:jk gs S H [d] vs):∃v,vs=[v]/\eQ gs S H d v:=let ⟨v,r,e,h1,h2⟩:=h;⟨v,by rw[e,show r=[] from h2],h1⟩
theorem jk.two (h:jk gs S H [d,e] vs):∃v w,vs=[v,w]/\eQ gs S H d v/\eQ gs S H e w:=let ⟨v,r,e,h1,h2⟩:=h;let ⟨w,e2,h3⟩:=jk.one h2;⟨v,w,by rw[e,e2],h1,h3⟩
noncomputable def mx:List af->Option af | [.tuple ds]=>some (.int ds.length) | [.list ds]=>some (.int ds.length) | _=>none
noncomputable def Lh:List af->Option af | [.int i]=>some (.int (if i<0 then -i else i)) | _=>none
noncomputable def wI:List af->Option af | [.int i,.int j]=>some (.int (if j<i then j else i)) | _=>none
noncomputable def wJ:List af->Option af | [.int i,.int j]=>some (.int (if j > i then j else i)) | _=>none
noncomputable def intD:List af->Option af | [.int i]=>some (.int i) | [.bool b]=>some (.int (if b then 1 else 0)) | _=>none
noncomputable def gE:List af->Option af | [.tuple ds]=>some (.tuple ds) | [.list ds]=>some (.tuple ds) | _=>none
section
variable {X:Cx}
theorem Aq:mw X (.builtin "len") mx:=⟨_,K4 X.K,λgs S H ds vs d R _ _ rs e k=>by
 rcases ds with _ | ⟨d1,_ | ⟨d2,l⟩⟩
 .cases e
 .obtain⟨v,rfl,r⟩:=rs.one
  cases d1 with
  | tuple ds =>
   cases e;obtain⟨a,xs,rfl,sq,_,rr⟩:=r.IH (K:=X.K);refine⟨a,xs,rfl,.inr sq,?_⟩;rw[rr.length];exact k _ H (.int _) (.refl _ _)
  | list ds =>
   cases e;obtain⟨a,xs,rfl,sq,_,rr⟩:=r.II (K:=X.K);refine⟨a,xs,rfl,.inl sq,?_⟩;rw[rr.length];exact k _ H (.int _) (.refl _ _)
  | _=>cases e
 .cases d1<;>cases e⟩
theorem Ov:mw X (.builtin "abs") Lh:=⟨_,CQ,λgs S H ds vs d R _ _ rs e k=>by
 rcases ds with _ | ⟨d1,_ | ⟨d2,l⟩⟩
 .cases e
 .obtain⟨v,rfl,r⟩:=rs.one
  cases d1 with
  | int i=>cases e;exact⟨i,by rw[r.ee],k _ H (.int _) (.refl _ _)⟩
  | _=>cases e
 .cases d1<;>cases e⟩
theorem wK {f:List af->Option af}(hf:∀ds d,f ds=some d->∃i j,ds=[.int i,.int j]){gs S:List Addr}{H:Hp}{ds:List af}{vs:List V}{d:af}(rs:jk gs S H ds vs)(e:f ds=some d):∃i j,ds=[.int i,.int j]/\vs=[.int i,.int j]:=by
 obtain⟨i,j,rfl⟩:=hf _ _ e;obtain⟨v,w,rfl,r,r2⟩:=rs.two;exact⟨i,j,rfl,by rw[r.ee,r2.ee]⟩
theorem G2 (ds:List af)(d:af)(e:wI ds=some d):∃i j,ds=[.int i,.int j]:=by
 unfold wI at e;split at e
 .exact⟨_,_,rfl⟩
 .cases e
theorem G3 (ds:List af)(d:af)(e:wJ ds=some d):∃i j,ds=[.int i,.int j]:=by
 unfold wJ at e;split at e
 .exact⟨_,_,rfl⟩
 .cases e
theorem Li (hc:X.calm=true):mw X (.builtin "min") wI:=⟨_,Bk hc,λgs S H ds vs d R _ _ rs e k=>by
 obtain⟨i,j,rfl,rfl⟩:=wK G2 rs e;cases e;exact⟨i,j,rfl,k _ H (.int _) (.refl _ _)⟩⟩
theorem Lj (hc:X.calm=true):mw X (.builtin "max") wJ:=⟨_,Bj hc,λgs S H ds vs d R _ _ rs e k=>by
 obtain⟨i,j,rfl,rfl⟩:=wK G3 rs e;cases e;exact⟨i,j,rfl,k _ H (.int _) (.refl _ _)⟩⟩
theorem IM:mw X (.type "int") intD:=⟨_,sQ,λgs S H ds vs d R _ _ rs e k=>by
 rcases ds with _ | ⟨d1,_ | ⟨d2,l⟩⟩
 .cases e
 .obtain⟨v,rfl,r⟩:=rs.one
  cases d1 with
  | int i=>cases e;exact .inl ⟨i,by rw[r.ee],k _ H (.int _) (.refl _ _)⟩
  | bool i=>cases e;exact .inr ⟨i,by rw[r.kB],k _ H (.int _) (.refl _ _)⟩
  | _=>cases e
 .cases d1<;>cases e⟩
theorem kg:mw X (.type "tuple") gE:=⟨_,yz X.K,λgs S H ds vs d R _ _ rs e k=>by
 rcases ds with _ | ⟨d1,_ | ⟨d2,l⟩⟩
 .cases e
 .obtain⟨v,rfl,r⟩:=rs.one
  cases d1 with
  | tuple ds =>
   cases e;obtain⟨a,xs,rfl,sq,ha,rr⟩:=r.IH (K:=X.K);exact⟨a,xs,rfl,.inr ⟨sq,k _ H (.tup ha rr) (.refl _ _)⟩⟩
  | list ds =>
   cases e;obtain⟨a,xs,rfl,sq,_,rr⟩:=r.II (K:=X.K);exact⟨a,xs,rfl,.inl ⟨sq,λl hl=>k _ _ (pU hl rr) (.new hl)⟩⟩
  | _=>cases e
 .cases d1<;>cases e⟩
end
section
theorem d9 {α:Type}{l:List (Option α)}{i j:Nat}{x:α}{y:Option α}(h:(l.set i y)[j]? = some (some x)):(i=j/\y=some x)\/(i≠j/\l[j]? = some (some x)):=by
 by_cases e:i=j
 .subst e
  by_cases hl:i<l.length
  .rw[cy hl] at h;exact .inl ⟨rfl,Option.some.inj h⟩
  .rw[bC (by rw[a6];omega)] at h;cases h
 .rw[aL e] at h;exact .inr ⟨e,h⟩
theorem iq {α:Type}{l:List (Option α)}{i:Nat}{y:Option α}(h:i<l.length):(l.set i y)[i]? = some y:=cy h
theorem dF.set (ok:dF M env pn σ S H n)(r:dY S H d v)(hi:i ∉ M.fd):dF M (env.set i (some (.s d))) pn (σ.set i (some v)) S H n:=by
 refine⟨λj e he=>?_,λj k ds es a h1 h2 h3 h4=>?_,by rw[a6,a6,ok.len],λj hj=>?_,ok.gd,ok.ext,ok.s0,ok.sn,ok.has,ok.pin⟩
 .have hl:i<env.length->i<σ.length:=λz=>by rw[<- ok.len];exact z
  rcases d9 he with⟨rfl,e1⟩ | ⟨ne,e1⟩
  .cases e1
   have:i<env.length:=by
    by_cases z:i<env.length
    .exact z
    .rw[bC (by rw[a6];omega)] at he;cases he
   exact⟨v,iq (hl this),r⟩
  .obtain⟨v',hv,rv⟩:=ok.val j e e1
   exact⟨v',by rw[aL ne];exact hv,rv⟩
 .rcases d9 h1 with⟨_,e1⟩ | ⟨n1,e1⟩
  .cases e1
  .rcases d9 h2 with⟨_,e2⟩ | ⟨n2,e2⟩
   .cases e2
   .rw[aL n1] at h3
    rw[aL n2] at h4;exact ok.ne j k ds es a e1 e2 h3 h4
 .have:i≠j:=λz=>hi (z ▸ hj)
  rw[aL this];exact ok.wx j hj
theorem dF.anew (ok:dF M env pn σ S H n)(h0:H a=none):M.H0 a=none:=by
 by_cases z:a∈M.gs
 .exact absurd h0 (M.uN ok.gd a z)
 .exact ok.ext.fresh z h0
theorem oY.fresh (h:oY M S H e v)(h0:H a=none):oY M (a::S) H e v:=by
 cases e with
 | s d=>exact dY.fresh h0 h
 | o ds =>
  obtain⟨b,xs,e,hb,r,hs,h1⟩:=h;exact⟨b,xs,e,hb,r.fresh h0,ai _ hs,h1⟩
 | x c as =>
  obtain⟨b,dx,vs,e,ha,hd,r,g1,g2⟩:=h;exact⟨b,dx,vs,e,ha,hd,r.fresh h0,g1,g2⟩
 | d b t kvs =>
  obtain⟨e,xs,hb,r,hk,hs,h1⟩:=h;exact⟨e,xs,hb,r.fresh h0,hk,ai _ hs,h1⟩
 | f b o kvs xs =>
  obtain⟨e,hb,r,hs,h1⟩:=h;exact⟨e,hb,r.fresh h0,ai _ hs,h1⟩
theorem dF.Rx (ok:dF M env pn σ S H n)(h0:H a=none)(h1:H' a=some (.lst xs))(r:dw (a::S) H' ds xs)(x:Ext M.gs H H')(g:M.G H' n')(hi:i ∉ M.fd) :
  dF M (env.set i (some (.o ds))) pn (σ.set i (some (.ref a))) (a::S) H' n':=by
 have hg:∀b∈M.gs,b∈a::S:=λb hb=>ai _ (ok.pC b hb)
 have Tv:∀(j:Nat) (es:List af) (b:Addr),env[j]? = some (some (.o es))->σ[j]? = some (some (.ref b))->b≠a:=λj es b e1 e2 z=>by
  obtain⟨v',hv,rv⟩:=ok.val j _ e1;obtain⟨c,xs,e,hc,_,hs,_⟩:=rv;subst e;rw[e2] at hv;cases hv;rw[z] at hs;exact ok.has _ hs h0
 have jO:=ok.step x g;refine⟨λj e he=>?_,λj k pD es b h2 h3 h4 h5=>?_,by rw[a6,a6,ok.len],λj hj=>?_,g,jO.ext,λb hb=>ai _ (ok.s0 b hb),λb hb=>?_,λb hb=>?_,λp hp=>?_⟩
 .rcases d9 he with⟨rfl,e1⟩ | ⟨ne,e1⟩
  .cases e1
   have:i<env.length:=by
    by_cases z:i<env.length
    .exact z
    .rw[bC (by rw[a6];omega)] at he;cases he
   exact⟨.ref a,iq (by rw[<- ok.len];exact this),a,xs,rfl,h1,r,ar ..,ok.anew h0⟩
  .obtain⟨v',hv,rv⟩:=ok.val j e e1
   exact⟨v',by rw[aL ne];exact hv,(rv.fresh h0).step hg x⟩
 .rcases d9 h2 with⟨rfl,e1⟩ | ⟨n1,e1⟩
  .have MA:i<σ.length:=by
    by_cases z:i<σ.length
    .exact z
    .rw[bC (by rw[a6];omega)] at h4;cases h4
   rw[iq MA] at h4;cases h4;rcases d9 h3 with⟨e3,_⟩ | ⟨n2,e2⟩
   .exact e3
   .rw[aL n2] at h5
    exact absurd rfl (Tv k _ _ e2 h5)
  .rw[aL n1] at h4
   rcases d9 h3 with⟨rfl,e2⟩ | ⟨n2,e2⟩
   .have MA:i<σ.length:=by
     by_cases z:i<σ.length
     .exact z
     .rw[bC (by rw[a6];omega)] at h5;cases h5
    rw[iq MA] at h5;cases h5;exact absurd rfl (Tv j _ _ e1 h4)
   .rw[aL n2] at h5
    exact ok.ne j k _ _ b e1 e2 h4 h5
 .have:i≠j:=λz=>hi (z ▸ hj)
  rw[aL this];exact ok.wx j hj
 .rcases av.mp hb with z | z
  .rw[z];exact .inr (ok.anew h0)
  .exact ok.sn b z
 .rcases av.mp hb with z | z
  .rw[z,h1];simp
  .exact jO.has b z
 .exact ((ok.pin p hp).fresh h0).ext (x.mono hg)
theorem dF.put (ok:dF M env pn σ S H n){ds es:List af}{a:Addr}{xs ys:List V}(he:env[i]? = some (some (.o ds)))(hv:σ[i]? = some (some (.ref a)))(ha:H a=some (.lst xs))(r:dw S H es ys):dF M (env.set i (some (.o es))) pn σ S (eg H a (.lst ys)) n:=by
 obtain⟨v',tm,a',oZ,e',kh,_,hs,h0⟩:=ok.val i _ he;subst e';rw[hv] at tm;cases tm;have x:Ext [a] H (eg H a (.lst ys)):=.set (!4) ha;have xS:Ext S H (eg H a (.lst ys)):=x.mono (by simpa using hs);refine⟨λj e hj=>?_,λj k pD sN b h2 h3 h4 h5=>?_,by rw[a6,ok.len],ok.wx,M.iF ok.gd x (by simpa using h0),ok.ext.Q9 h0 ha,ok.s0,ok.sn,λb hb=>?_,λp hp=>(ok.pin p hp).ext xS⟩
 .rcases d9 hj with⟨rfl,e1⟩ | ⟨ne,e1⟩
  .cases e1
   exact⟨_,hv,a,ys,rfl,dz,r.ext xS,hs,h0⟩
  .obtain⟨w,hw,kJ⟩:=ok.val j e e1
   refine⟨w,hw,?_⟩
   cases e with
   | s d=>exact dY.ext xS kJ
   | o sN =>
    obtain⟨b,zs,e2,hb,r2,mq,qD⟩:=kJ;subst e2;have:b≠a:=λz=>ne (ok.ne i j _ _ a he e1 hv (z ▸ hw));exact⟨b,zs,rfl,by rw[dH this];exact hb,r2.ext xS,mq,qD⟩
   | x c as =>
    obtain⟨b,dx,vs,e2,hb,hd,r2,g1,g2⟩:=kJ;exact⟨b,dx,vs,e2,by rw[dH (λz=>by rw[z,ha] at hb;cases hb)];exact hb,by rw[dH (λz=>by rw[z,ha] at hd;cases hd)];exact hd,r2.ext xS,g1,g2⟩
   | d b t kvs =>
    obtain⟨e2,zs,hb,r2,wg,mq,qD⟩:=kJ;exact⟨e2,zs,by rw[dH (λz=>by rw[z,ha] at hb;exact lT hb)];exact hb,r2.ext xS,wg,mq,qD⟩
   | f b o kvs zs =>
    obtain⟨e2,hb,r2,mq,qD⟩:=kJ;exact⟨e2,by rw[dH (λz=>by rw[z,ha] at hb;cases hb)];exact hb,r2.ext xS,mq,qD⟩
 .have g1:∃l,env[j]? = some (some (.o l)):=by
   rcases d9 h2 with⟨rfl,_⟩ | ⟨_,e1⟩
   .exact⟨_,he⟩
   .exact⟨_,e1⟩
  have g2:∃l,env[k]? = some (some (.o l)):=by
   rcases d9 h3 with⟨rfl,_⟩ | ⟨_,e1⟩
   .exact⟨_,he⟩
   .exact⟨_,e1⟩
  obtain⟨l1,g1⟩:=g1;obtain⟨l2,g2⟩:=g2;exact ok.ne j k _ _ b g1 g2 h4 h5
 .by_cases z:b=a
  .rw[z,dz];simp
  .rw[dH z];exact ok.has b hb
theorem dF.freeze (ok:dF M env pn σ S H n){ds:List af}(he:env[i]? = some (some (.o ds))):∃a xs S',σ[i]? = some (some (.ref a))/\H a=some (.lst xs)/\dY S' H (.list ds) (.ref a)/\dF M (env.set i (some (.s (.list ds)))) pn σ S' H n:=by
 obtain⟨v',hv,a,xs,rfl,ha,r,hs,h0⟩:=ok.val i _ he;have less:∀b∈S.filter (·≠a),b∈S:=λb hb=>(aT.mp hb).1;have hr:dY (S.filter (·≠a)) H (.list ds) (.ref a):=.lst ha (!4) (r.less less);refine⟨a,xs,S.filter (·≠a),hv,ha,hr,λj e hj=>?_,λj k pD sN b h2 h3 h4 h5=>?_,by rw[a6,ok.len],ok.wx,ok.gd,ok.ext,λb hb=>?_,λb hb=>ok.sn b (less b hb),λb hb=>ok.has b (less b hb),λp hp=>(ok.pin p hp).less less⟩
 .rcases d9 hj with⟨rfl,e1⟩ | ⟨ne,e1⟩
  .cases e1
   exact⟨_,hv,hr⟩
  .obtain⟨w,hw,kJ⟩:=ok.val j e e1
   refine⟨w,hw,?_⟩
   cases e with
   | s d=>exact dY.less less kJ
   | o sN =>
    obtain⟨b,zs,e2,hb,r2,mq,qD⟩:=kJ;subst e2;have:b≠a:=λz=>ne (ok.ne i j _ _ a he e1 hv (z ▸ hw));exact⟨b,zs,rfl,hb,r2.less less,aT.mpr ⟨mq,by simpa using this⟩,qD⟩
   | x c as =>
    obtain⟨b,dx,vs,e2,hb,hd,r2,g1,g2⟩:=kJ;exact⟨b,dx,vs,e2,hb,hd,r2.less less,g1,g2⟩
   | d b t kvs =>
    obtain⟨e2,zs,hb,r2,wg,mq,qD⟩:=kJ;have:b≠a:=λz=>by rw[z,ha] at hb;exact lT hb
    exact⟨e2,zs,hb,r2.less less,wg,aT.mpr ⟨mq,by simpa using this⟩,qD⟩
   | f b o kvs zs =>
    obtain⟨e2,hb,r2,mq,qD⟩:=kJ;have:b≠a:=λz=>by rw[z,ha] at hb;cases hb
    exact⟨e2,hb,r2.less less,aT.mpr ⟨mq,by simpa using this⟩,qD⟩
 .rcases d9 h2 with⟨_,e1⟩ | ⟨_,e1⟩
  .cases e1
  .rcases d9 h3 with⟨_,e2⟩ | ⟨_,e2⟩
   .cases e2
   .exact ok.ne j k _ _ b e1 e2 h4 h5
 .refine aT.mpr ⟨ok.s0 b hb,?_⟩
  have:b≠a:=λz=>M.sr b hb (z ▸ h0);simpa using this
theorem dF.pins (ok:dF M env pn σ S H n)(h:∀p∈qn,p∈pn):dF M env qn σ S H n:=⟨ok.val,ok.ne,ok.len,ok.wx,ok.gd,ok.ext,ok.s0,ok.sn,ok.has,λp hp=>ok.pin p (h p hp)⟩
theorem dF.DO (ok:dF M env pn σ S H n)(h:dY S H d v):dF M env ((d,v)::pn) σ S H n:=⟨ok.val,ok.ne,ok.len,ok.wx,ok.gd,ok.ext,ok.s0,ok.sn,ok.has,λp hp=>by
 rcases av.mp hp with rfl | hp
 .exact h
 .exact ok.pin p hp⟩
end
noncomputable abbrev UG:=af->eF->(eF->Prop)->Prop
noncomputable def gj (i:Nat):UG:=λd env Q=>Q (env.set i (some (.s d)))
noncomputable def wL:List UG->List af->eF->(eF->Prop)->Prop
 | [],[],env,Q=>Q env
 | u::us,d::ds,env,Q=>u d env λdZ=>wL us ds dZ Q
 | _,_,_,_=>False
noncomputable def yO (us:List UG):UG:=λd env Q=>match d with | .tuple ds=>wL us ds env Q | _=>False
noncomputable def IP (M:Fr)(u:UG):TG:=λv σ H R=>∃env pn S n d N,dF M env pn σ S H n/\dY S H d v/\u d env N/\∀dZ σ',dF M dZ pn σ' S H n->N dZ->R σ' H
noncomputable def Lk (M:Fr)(us:List UG):JJ:=λvs σ H R=>∃env pn S n ds N,dF M env pn σ S H n/\dw S H ds vs/\wL us ds env N/\∀dZ σ',dF M dZ pn σ' S H n->N dZ->R σ' H
structure KG (X:Cx) (M:Fr) (e:Expr) (u:UG):Prop where run:QG X e (IP M u)
structure PV (X:Cx) (M:Fr) (es:List Expr) (us:List UG):Prop where run:Iw X es (Lk M us)
theorem QG.weaken (h:QG X e t)(w:∀v σ H Q,t' v σ H Q->t v σ H Q):QG X e t':=⟨λpins s σ H v u D I r q=>h.run pins s σ H v u D I r (w _ σ H _ q)⟩
theorem Iw.weaken (h:Iw X es t)(w:∀v σ H Q,t' v σ H Q->t v σ H Q):Iw X es t':=⟨λpins s σ H v u D I r q=>h.run pins s σ H v u D I r (w _ σ H _ q)⟩
section
theorem U2 (hN:X.N.Nodup)(hx:Loc X.env.scope x)(hi:X.N[i]? = some x:=by rfl)(hf:X.fn x=true\/X.env.scope.names.lookup x=some .local:=by (first | exact .inl rfl | exact .inr rfl | assumption))(hfd:i ∉ M.fd:=by decide):KG X M (.Name x pos) (gj i) :=
 ⟨(nE hN hi hx hf).weaken λv σ H R h=>PR h λenv pn S n d N h=>h.2.2.2 _ _ (h.1.set h.2.1 hfd) h.2.2.1⟩
theorem qE:PV X M [] []:=⟨GC.weaken λvs σ H R h=>PR h λenv pn S n ds N h=>by
 obtain⟨ok,r,hu,k⟩:=h
 cases ds with
 | nil=>exact⟨r.eO,k _ _ ok hu⟩
 | cons d ds=>exact False.elim hu⟩
theorem qF (h:KG X M e u)(hr:PV X M es us)(hs:(assignEach (e::es) X.env).map (·.2)=assign e X.env::(assignEach es X.env).map (·.2):=by rfl):PV X M (e::es) (u::us) :=
 ⟨(Dk h.run hr.run hs).weaken λvs σ H R h=>PR h λenv pn S n ds N h=>by
  obtain⟨ok,r,hu,k⟩:=h
  cases ds with
  | nil=>exact False.elim hu
  | cons d ds =>
   obtain⟨x,t,rfl,r1,r2⟩:=r.of_cons;exact⟨x,t,rfl,env,pn,S,n,d,_,ok,r1,hu,λdZ σ' jO q=>⟨dZ,pn,S,n,ds,N,jO,r2,q,k⟩⟩⟩
theorem wM:∀{us:List UG} {ds:List af} {env:eF} {Q:eF->Prop},wL us ds env Q->(∀u∈us,∀d env (Q:eF->Prop),u d env Q->∃dZ,Q dZ)->ds.length=us.length
 | [],[],_,_,_,_=>rfl
 | [],_::_,_,_,h,_=>False.elim h
 | _::_,[],_,_,h,_=>False.elim h
 | u::us,d::ds,env,Q,h,k=>by
  obtain⟨dZ,h'⟩:=k u (ar ..) d env _ h;simp only[ao];rw[wM h' λw hw=>k w (ai _ hw)]
theorem Ow:∀d env (Q:eF->Prop),gj i d env Q->∃dZ,Q dZ:=λ_ _ _ h=>⟨_,h⟩
theorem Ox (hc:X.calm=true)(h:PV X M es us)(hu:∀u∈us,∀d env (Q:eF->Prop),u d env Q->∃dZ,Q dZ)(hl:us.length=n')(hn:(assignEach es X.env).length=n':=by rfl)(F0:(assignEach es X.env).findIdx? (·.1)=none:=by rfl):KG X M (.Tuple es k pos) (yO us) :=
 ⟨(KZ hc h.run hn F0).weaken λv σ H R h=>PR h λenv pn S n d N h=>by
  obtain⟨ok,r,hh,k⟩:=h
  cases d with
  | tuple ds =>
   obtain⟨a,xs,rfl,ha,rs⟩:=r.eY;exact⟨a,xs,rfl,iz.of ha,by rw[rs.length,wM hh hu,hl],env,pn,S,n,ds,N,ok,rs,hh,k⟩
  | _=>exact False.elim hh⟩
end
structure xY (S:List Addr) (J:It) (its:List af) (H:Hp):Prop where
 go:∀i,i<its.length->J.go i H
 Fs:∀i x H',i<its.length->J.Fs i H x H'->∃d,its[i]? = some d/\Ext [] H H'/\dY S H' d x
 stop:∀i,its.length<=i->J.stop i H
noncomputable abbrev UI:=eF->Int->(List af->eF->Int->Prop)->Prop
noncomputable abbrev UJ:=eF->Int->(List af->Int->Prop)->Prop
theorem QI.kD (h:QI X tg iter wi):QI X tg iter (λσ H R=>wi σ H λJ H1=>jM H1->R J H1) :=
 ⟨λpins s σ H R I q=>fk (h.run pins s σ H _ I q) λv s1 q1=>fk q1 λit s2 ⟨a,fp,tn,J,H',e,I2,t,t0,f,r⟩=>⟨a,fp,tn,J,H',e,I2,t,t0,f,r I2.eD.kD⟩⟩
structure KI (X:Cx) (M:Fr) (tg iter:Expr) (u:UI):Prop where
 ex:∃wi,QI X tg iter wi/\∀σ H R env pn S n Q,dF M env pn σ S H n->u env n Q ->
  (∀J H' its dZ S' n' p,dF M dZ (p++pn) σ S' H' n'->(∀S2 H2,(∀q∈p,dY S2 H2 q.1 q.2)->xY S2 J its H2)->Q its dZ n'->R J H')->wi σ H R
structure KJ (X:Cx) (M:Fr) (tg iter:Expr) (u:UJ):Prop where
 ex:∃wi,QI X tg iter wi/\∀σ H R env pn S n Q,dF M env pn σ S H n->u env n Q ->
  (∀J H' its n',Ext M.gs H H'->M.G H' n'->(∀H2,Ext M.gs H' H2->xY S J its H2)->its.length<=aA->Q its n'->R J H')->wi σ H R
theorem yQ {K:W.Frag}{S:List Addr}{H:Hp}{a:Addr}{xs:List V}{ds:List af}(ha:H a=some (.tup xs))(r:dw S H ds xs):xY S (F4 K a) ds H :=
 ⟨λi hi=>⟨xs,xs[i]'(by rw[r.length];exact hi),iz.of ha,!4⟩,λi x H' _ ⟨e,y⟩=>by
  subst e;obtain⟨d,hd,rd⟩:=r.get (y xs (iz.of ha));exact⟨d,hd,.refl _ _,rd⟩,λi hi=>⟨xs,iz.of ha,by rw[r.length];exact hi⟩⟩
theorem uU {K:W.Frag}{S:List Addr}{H:Hp}{a:Addr}{xs:List V}{ds:List af}(ha:H a=some (.lst xs))(r:dw S H ds xs):xY S (F3 K a) ds H :=
 ⟨λi hi=>⟨xs,xs[i]'(by rw[r.length];exact hi),gc.of ha,!4⟩,λi x H' _ ⟨e,y⟩=>by
  subst e;obtain⟨d,hd,rd⟩:=r.get (y xs (gc.of ha));exact⟨d,hd,.refl _ _,rd⟩,λi hi=>⟨xs,gc.of ha,by rw[r.length];exact hi⟩⟩
noncomputable def iY (ds:List af):List af:=ds.zipIdx.map λp=>.tuple [.int (p.2:Nat),p.1]
theorem lV (ds:List af):(iY ds).length=ds.length:=by simp[iY]
theorem wN {ds:List af}{i:Nat}{d:af}(h:ds[i]? = some d):(iY ds)[i]? = some (.tuple [.int (i:Nat),d]):=by
 unfold iY;rw[aE,List.getElem?_zipIdx,h];simp
theorem wO {K:W.Frag}{S:List Addr}{H:Hp}{a:Addr}{xs:List V}{ds:List af}(ha:H a=some (.tup xs))(r:dw S H ds xs):xY S (Of K a) (iY ds) H :=
 ⟨λi hi=>⟨xs,xs[i]'(by rw[r.length,<- lV];exact hi),iz.of ha,!4⟩,λi x H' _ ⟨T,xi,e1,hT,e2,Ry⟩=>by
  subst e1 e2;obtain⟨d,hd,rd⟩:=r.get (Ry xs (iz.of ha));exact⟨_,wN hd,.new hT,.tup dz (.cons (.int _) (.cons (rd.ext (.new hT)) .nil))⟩,λi hi=>⟨xs,iz.of ha,by rw[r.length,<- lV];exact hi⟩⟩
theorem wQ {K:W.Frag}{S:List Addr}{H:Hp}{a:Addr}{xs:List V}{ds:List af}(ha:H a=some (.lst xs))(r:dw S H ds xs):xY S (Oh K a) (iY ds) H :=
 ⟨λi hi=>⟨xs,xs[i]'(by rw[r.length,<- lV];exact hi),gc.of ha,!4⟩,λi x H' _ ⟨T,xi,e1,hT,e2,Ry⟩=>by
  subst e1 e2;obtain⟨d,hd,rd⟩:=r.get (Ry xs (gc.of ha));exact⟨_,wN hd,.new hT,.tup dz (.cons (.int _) (.cons (rd.ext (.new hT)) .nil))⟩,λi hi=>⟨xs,gc.of ha,by rw[r.length,<- lV];exact hi⟩⟩
noncomputable def nJ (lo:Int)(n:Nat):List af:=(List.range n).map λ(k:Nat)=>.int (lo+k)
theorem DP {S:List Addr}{H:Hp}{lo:Int}{n:Nat}:xY S (PB lo n) (nJ lo n) H :=
 have hl:(nJ lo n).length=n:=by simp[nJ]
 ⟨λi hi=>by rw[hl] at hi;exact hi,λi x H' hi ⟨e1,e2⟩=>by
  subst e1 e2;rw[hl] at hi;exact⟨.int (lo+(i:Nat)),by simp[nJ,c7 hi],.refl _ _,.int _⟩,λi hi=>by rw[hl] at hi;exact hi⟩
noncomputable def DQ (i:Nat):UI:=λenv n Q=>match env[i]? with | some (some (.s (.tuple ds)))=>Q ds env n | some (some (.s (.list ds)))=>Q ds env n | some (some (.o ds))=>Q ds (env.set i (some (.s (.list ds)))) n | _=>False
noncomputable def mN (d:af):Option (List af):=match d with | .tuple ds=>some ds | .list ds=>some ds | _=>none
noncomputable def Cq (u:UX):UI:=λenv n Q=>u env n λd n1=>kK (mN d) λds=>Q ds env n1
noncomputable def RA (u:UX):UJ:=λenv n Q=>u env n λd n1=>kK (mN d) λds=>Q ds n1
noncomputable def Oy (u:UX):UI:=λenv n Q=>u env n λd n1=>kK (mN d) λds=>Q (iY ds) env n1
noncomputable def Ll (u:UX):UJ:=λenv n Q=>u env n λd n1=>match d with | .int j=>(-(2 ^ 62)<=j/\j<=16777216)/\Q (nJ 0 j.toNat) n1 | _=>False
noncomputable def MB (u:UX):UI:=λenv n Q=>u env n λd n1=>match d with | .int j=>-(2 ^ 62)<=j/\j<2 ^ 62/\Q (nJ 0 j.toNat) env n1 | _=>False
noncomputable def RB (K:W.Frag)(te:TE):TI:=λσ H R=>te σ H λx H1=>∃a,x=.ref a/\(((∃xs,gc K H1 a xs)/\R (F3 K a) H1)\/((∃xs,iz K H1 a xs)/\R (F4 K a) H1))
noncomputable def RC (K:W.Frag)(ta:TA):TI:=λσ H R=>ta σ H λvs H1=>∃a,vs=[.ref a]/\(((∃xs,gc K H1 a xs)/\R (Oh K a) H1)\/((∃xs,iz K H1 a xs)/\R (Of K a) H1))
section
variable {X:Cx}{M:Fr}{tg e a b:Expr}{u w:UX}{p pos sm:Pos}{yH:List Expr}{k:Nat}
theorem yR (h:QE X e te):QI X tg e (RB X.K te):=by
 refine⟨λpins s σ H R I q=>fk (h.run pins s σ H _ I q) λv s1 ⟨x,H1,I1,r1,q1⟩=>?_⟩;obtain⟨a,e,q1⟩:=q1;subst e;cases r1;rcases q1 with⟨⟨xs,hq⟩,q⟩ | ⟨⟨xs,hq⟩,q⟩
 .obtain⟨its,rv,p,hz⟩:=I1.list hq
  refine wpAny_pyIter_list p.isList ?_;refine⟨s1.heap.objs.size,[s1.heap.objs.size],_,_,H1,rfl,I1.kept (t':=s1.toks) λb o e=>aj _ e,sP a _,⟨_,aB _ rfl,rfl,rfl⟩,λb hb=>?_,q⟩;have e:b=s1.heap.objs.size:=by simpa using hb
  subst e;exact I1.px (am _) (I1.eD.fresh (am _))
 .obtain⟨its,rv,p,hz⟩:=I1.tuple hq
  refine wpAny_pyIter_tuple (show s1.heap.IsTuple a its.toArray from p) ?_;refine⟨s1.heap.objs.size,[s1.heap.objs.size],_,_,H1,rfl,I1.kept (t':=s1.toks) λb o e=>aj _ e,qg a _,⟨_,aB _ rfl,rfl,rfl⟩,λb hb=>?_,q⟩;have e:b=s1.heap.objs.size:=by simpa using hb
  subst e;exact I1.px (am _) (I1.eD.fresh (am _))
theorem Lm (hg:Gl X "enumerate")(hm:X.mg "enumerate" = none)(ha:QA X [a] ta):QI X (.Tuple yH k sm) (.Call (.Name "enumerate" p) [a] [] pos) (RC X.K ta):=by
 refine⟨λpins s σ H R I h=>?_⟩;have hs:=fo (env:=X.env) (es:=[]) (mm ha.ns).1;refine Call_ (og I hg hm (by decide +kernel:bootBuiltins "enumerate" = some (.type "enumerate")) (PyProof.Rows.callWith_type1 (fk (ha.run pos pins s σ H _ I h) λus s1 ⟨vs,H1,I1,r1,q1⟩=>?_) hs rfl));obtain⟨t,e,q1⟩:=q1;subst e
 have Tw:∀b∈[s1.heap.objs.size+1,s1.heap.objs.size],pq X pins H1 b:=λb hb=>by
  have IQ:s1.heap.objs.size<=b:=by
   rcases av.mp hb with z | z
   .rw[z];exact Nat.le_succ _
   .have z':b=s1.heap.objs.size:=by simpa using z
    rw[z'];exact am _
  obtain⟨p0,p1,p2,p3,p4,p5⟩:=I1.px IQ (I1.eD.fresh IQ);exact⟨p0,p1,p2,p3,p4,p5⟩
 cases r1 with
 | cons r rr =>
  cases rr;cases (show _=ah.ref t from r);rcases q1 with⟨⟨xs,hq⟩,q⟩ | ⟨⟨xs,hq⟩,q⟩
  .obtain⟨its,rv,pp,hz⟩:=I1.list hq
   refine call_enumerate_list pp.isList λh' en RD sz kp=>?_;refine wpAny_pyIter_enum en ?_;have I2:Inv X pins σ H1 { s1 with heap:=h' }:=I1.kept (t':=s1.toks) kp;exact⟨s1.heap.objs.size+1,[s1.heap.objs.size+1,s1.heap.objs.size],_,_,H1,rfl,I2,yI t _ _ (cT _),⟨⟨_,en⟩,RD⟩,Tw,q⟩
  .obtain⟨its,rv,pp,hz⟩:=I1.tuple hq
   refine yF (show s1.heap.IsTuple t its.toArray from pp) λh' en RD sz kp=>?_;refine wpAny_pyIter_enum en ?_;have I2:Inv X pins σ H1 { s1 with heap:=h' }:=I1.kept (t':=s1.toks) kp;exact⟨s1.heap.objs.size+1,[s1.heap.objs.size+1,s1.heap.objs.size],_,_,H1,rfl,I2,yG t _ _ (cT _),⟨⟨_,en⟩,RD⟩,Tw,q⟩
theorem eQ.its {K:W.Frag}{gs S:List Addr}{H:Hp}{d:af}{v:V}{ds:List af}(r:eQ gs S H d v)(e:mN d=some ds)(hg:∀a∈gs,a∈S):∃a,v=.ref a /\
  (((∃xs,H a=some (.lst xs)/\xs.length=ds.length)/\∀H2,Ext gs H H2->xY S (F3 K a) ds H2/\xY S (Oh K a) (iY ds) H2)\/((∃xs,H a=some (.tup xs)/\xs.length=ds.length)/\∀H2,Ext gs H H2->xY S (F4 K a) ds H2/\xY S (Of K a) (iY ds) H2)):=by
 cases d with
 | tuple es =>
  cases e;obtain⟨a,xs,rfl,ha,rs⟩:=r.eY;exact⟨a,rfl,.inr ⟨⟨xs,ha,rs.length⟩,λH2 x=>⟨yQ (x.tup _ _ ha) (rs.ext (x.mono hg)),wO (x.tup _ _ ha) (rs.ext (x.mono hg))⟩⟩⟩
 | list es =>
  cases e;have r0:=r;obtain⟨a,xs,rfl,ha,rs⟩:=r.eR;refine⟨a,rfl,.inl ⟨⟨xs,ha,rs.length⟩,λH2 x=>?_⟩⟩;obtain⟨a',oZ,e',kh,Ar⟩:=(r0.ext hg x).eR;cases e';exact⟨uU kh Ar,wQ kh Ar⟩
 | _=>cases e
theorem IS (h:KL X M e u):KJ X M tg e (RA u):=⟨_,(yR h.run).kD,λσ H R env pn S n Q ok hu k=>⟨env,pn,S,n,_,ok,hu,λv H1 d n1 r1 x1 g1 sz q=>by
 obtain⟨ds,e,q⟩:=q;obtain⟨a,rfl,h⟩:=r1.its (K:=X.K) e ok.pC;rcases h with⟨⟨xs,ha,hl⟩,h⟩ | ⟨⟨xs,ha,hl⟩,h⟩
 .exact⟨a,rfl,.inl ⟨⟨xs,gc.of ha⟩,λsz=>k _ H1 ds n1 x1 g1 (λH2 x2=>(h H2 x2).1) (by rw[<- hl];exact sz a xs (.inl ha)) q⟩⟩
 .exact⟨a,rfl,.inr ⟨⟨xs,iz.of ha⟩,λsz=>k _ H1 ds n1 x1 g1 (λH2 x2=>(h H2 x2).1) (by rw[<- hl];exact sz a xs (.inr ha)) q⟩⟩⟩⟩
theorem DR (lo:Int)(n:Nat):(nJ lo n).length=n:=by simp[nJ]
theorem pV (hm:X.mg "range" = none)(h:KE X M a u)(hs:eI a=true:=by rfl)(hg:Gl X "range" := by rfl):KJ X M tg (.Call (.Name "range" p) [a] [] pos) (Ll u) :=
 ⟨_,sY hg hm (gC h.run eS hs),λσ H R env pn S n Q ok hu k=>⟨env,pn,S,n,_,ok,hu,λv H1 d n1 r1 x1 g1 sz q=>by
  cases d with
  | int j =>
   have hsz:aA=16777216:=by decide
   exact⟨j,by rw[r1.ee],q.1.1,by have:=q.1.2;omega,k _ H1 _ n1 x1 g1 (λH2 _=>DP) (by rw[DR,hsz];have:=q.1.2;omega) q.2⟩
  | _=>exact False.elim q⟩⟩
theorem As {K:W.Frag}{d:af}{v:V}{ds:List af}(e:mN d=some ds){S:List Addr}{H:Hp}(r:dY S H d v):∃a,v=.ref a /\
  (((∃xs,H a=some (.lst xs))/\∀S2 H2,(∀q∈[(d,v)],dY S2 H2 q.1 q.2)->xY S2 (F3 K a) ds H2/\xY S2 (Oh K a) (iY ds) H2)\/((∃xs,H a=some (.tup xs))/\∀S2 H2,(∀q∈[(d,v)],dY S2 H2 q.1 q.2)->xY S2 (F4 K a) ds H2/\xY S2 (Of K a) (iY ds) H2)):=by
 cases d with
 | tuple es =>
  cases e;obtain⟨a,xs,rfl,ha,rs⟩:=r.eY;refine⟨a,rfl,.inr ⟨⟨xs,ha⟩,λS2 H2 h=>?_⟩⟩;obtain⟨a',oZ,e',kh,Ar⟩:=(h _ (aq.mpr rfl)).eY;cases e';exact⟨yQ kh Ar,wO kh Ar⟩
 | list es =>
  cases e;obtain⟨a,xs,rfl,ha,_,rs⟩:=r.eR;refine⟨a,rfl,.inl ⟨⟨xs,ha⟩,λS2 H2 h=>?_⟩⟩;obtain⟨a',oZ,e',kh,_,Ar⟩:=(h _ (aq.mpr rfl)).eR;cases e';exact⟨uU kh Ar,wQ kh Ar⟩
 | _=>cases e
theorem Au (h:KE X M e u):KI X M tg e (Cq u):=⟨_,yR h.run,λσ H R env pn S n Q ok hu k=>⟨env,pn,S,n,_,ok,hu,λv H1 d n1 r1 x1 g1 sz q=>by
 obtain⟨ds,e,q⟩:=q;have hU:=(ok.step x1 g1).DO r1;obtain⟨a,rfl,h⟩:=As (K:=X.K) e r1;rcases h with⟨⟨xs,ha⟩,h⟩ | ⟨⟨xs,ha⟩,h⟩
 .exact⟨a,rfl,.inl ⟨⟨xs,gc.of ha⟩,k _ H1 ds env S n1 [_] hU (λS2 H2 hh=>(h S2 H2 hh).1) q⟩⟩
 .exact⟨a,rfl,.inr ⟨⟨xs,iz.of ha⟩,k _ H1 ds env S n1 [_] hU (λS2 H2 hh=>(h S2 H2 hh).1) q⟩⟩⟩⟩
theorem DS (hm:X.mg "enumerate" = none)(h:KE X M a u)(hs:eI a=true:=by rfl)(hg:Gl X "enumerate" := by rfl):KI X M (.Tuple yH k sm) (.Call (.Name "enumerate" p) [a] [] pos) (Oy u) :=
 ⟨_,Lm hg hm (gC h.run eS hs),λσ H R env pn S n Q ok hu k=>⟨env,pn,S,n,_,ok,hu,λv H1 d n1 r1 x1 g1 sz q=>by
  obtain⟨ds,e,q⟩:=q;have hU:=(ok.step x1 g1).DO r1;obtain⟨a,rfl,h⟩:=As (K:=X.K) e r1;rcases h with⟨⟨xs,ha⟩,h⟩ | ⟨⟨xs,ha⟩,h⟩
  .exact⟨a,rfl,.inl ⟨⟨xs,gc.of ha⟩,k _ H1 _ env S n1 [_] hU (λS2 H2 hh=>(h S2 H2 hh).2) q⟩⟩
  .exact⟨a,rfl,.inr ⟨⟨xs,iz.of ha⟩,k _ H1 _ env S n1 [_] hU (λS2 H2 hh=>(h S2 H2 hh).2) q⟩⟩⟩⟩
theorem uV (hm:X.mg "range" = none)(h:KE X M a u)(hs:eI a=true:=by rfl)(hg:Gl X "range" := by rfl):KI X M tg (.Call (.Name "range" p) [a] [] pos) (MB u) :=
 ⟨_,sY hg hm (gC h.run eS hs),λσ H R env pn S n Q ok hu k=>⟨env,pn,S,n,_,ok,hu,λv H1 d n1 r1 x1 g1 sz q=>by
  cases d with
  | int j=>exact⟨j,by rw[r1.ee],q.1,q.2.1,k _ H1 _ env S n1 [] (ok.step x1 g1) (λS2 H2 _=>DP) q.2.2⟩
  | _=>exact False.elim q⟩⟩
theorem IU (i:Nat)(hN:X.N[i]? = some x:=by rfl)(hv:rZ X.env.scope x:=by (first | exact Or.inl rfl | exact Or.inr (Or.inl rfl) | exact Or.inr (Or.inr rfl)))(hd:(x == ("__debug__" : Str))=false:=by decide)
  (iU:(x == ("__classdict__" : Str))=false:=by decide):KI X M tg (.Name x pos) (DQ i):=⟨_,yR (qv i hN hv hd iU),λσ H R env pn S n Q ok hu k=>by
 unfold DQ at hu;split at hu
 .rename_i ds he
  obtain⟨v,hv,r⟩:=ok.val i _ he;obtain⟨a,xs,rfl,ha,rs⟩:=dY.eY r;refine⟨_,hv,a,rfl,.inr ⟨⟨xs,iz.of ha⟩,k _ H ds env S n [(.tuple ds,.ref a)] (ok.DO r) (λS2 H2 hh=>?_) hu⟩⟩;obtain⟨a',oZ,e',kh,Ar⟩:=(hh _ (aq.mpr rfl)).eY;cases e';exact yQ kh Ar
 .rename_i ds he
  obtain⟨v,hv,r⟩:=ok.val i _ he;obtain⟨a,xs,rfl,ha,_,rs⟩:=dY.eR r;refine⟨_,hv,a,rfl,.inl ⟨⟨xs,gc.of ha⟩,k _ H ds env S n [(.list ds,.ref a)] (ok.DO r) (λS2 H2 hh=>?_) hu⟩⟩;obtain⟨a',oZ,e',kh,_,Ar⟩:=(hh _ (aq.mpr rfl)).eR;cases e';exact uU kh Ar
 .rename_i ds he
  obtain⟨a,xs,S',hv,ha,r,jO⟩:=ok.freeze he;refine⟨_,hv,a,rfl,.inl ⟨⟨xs,gc.of ha⟩,k _ H ds _ S' n [(.list ds,.ref a)] (jO.DO r) (λS2 H2 hh=>?_) hu⟩⟩;obtain⟨a',oZ,e',kh,_,Ar⟩:=(hh _ (aq.mpr rfl)).eR;cases e';exact uU kh Ar
 .exact hu.elim⟩
end
noncomputable def dC (u w:US):US:=λE env n=>u { E with nx:=w E } env n
noncomputable def eU:US:=λE env n=>E.nx env n
noncomputable def fD (c:UT)(u w:US):US:=λE env n=>c env n λb n1=>if b=true then u E env n1 else w E env n1
noncomputable def fu (u:UX):US:=λE env n=>u env n E.rt
noncomputable def jP (i:Nat):US:=λE env n=>match env[i]? with | some (some (.s d))=>E.rt d n | some (some (.o ds))=>E.rt (.list ds) n | some (some (.d _ t kvs))=>E.rt (eM t kvs) n | _=>False
noncomputable def eB (i:Nat)(u:UX):US:=λE env n=>u env n λd n1=>E.nx (env.set i (some (.s d))) n1
noncomputable def mO (i:Nat)(u:eF->Int->(List af->Int->Prop)->Prop):US:=λE env n=>u env n λds n1=>E.nx (env.set i (some (.o ds))) n1
noncomputable def G4 (u:UX)(g:UG):US:=λE env n=>u env n λd n1=>g d env λdZ=>E.nx dZ n1
section
variable {X:Cx}{M:Fr}{st:Stmt}{K2 body NW:List Stmt}{u w:US}{e c tg iter a b:Expr}{ue ua ub:UX}{uc:UT}{pos:Pos}
theorem KS.of (h:QS X st t)(k:∀D σ H env pn S n E,dF M env pn σ S H n->u E env n->(∀dZ σ' S' H' n',dF M dZ pn σ' S' H' n'->E.nx dZ n'->D.nx σ' H')->(∀v H' d n',dY M.S0 H' d v->Ext M.gs M.H0 H'->M.G H' n'->E.rt d n'->D.rt v H')->t D σ H):KS X M st u :=
 ⟨h.weaken λD σ H h=>BH h λenv pn S n E h=>k D σ H env pn S n E h.1 h.2.1 h.2.2.1 h.2.2.2⟩
theorem fR:vF X M [] eU:=⟨pR.weaken λD σ H h=>BH h λenv pn S n E h=>h.2.2.1 _ _ _ _ _ h.1 h.2.1⟩
theorem dM (h:KS X M st u):vF X M [st] u:=⟨gP h.run⟩
theorem dS (h:KS X M st u)(hr:vF X M K2 w):vF X M (st::K2) (dC u w):=⟨(eN h.run hr.run).weaken λD σ H h=>BH h λenv pn S n E h =>
 ⟨env,pn,S,n,_,h.1,h.2.1,λdZ σ' S' H' n' jO q=>⟨dZ,pn,S',n',E,jO,q,h.2.2.1,h.2.2.2⟩,h.2.2.2⟩⟩
theorem mP (hc:KB X M c uc)(ha:vF X M body u)(hb:vF X M NW w):KS X M (.If c body NW pos) (fD uc u w):=.of (Ae hc.run ha.run hb.run) λD σ H env pn S n E ok hu k1 k2 =>
 ⟨env,pn,S,n,_,ok,hu,λb H1 n1 x1 g1 q=>by
  cases b with
  | true=>exact⟨env,pn,S,n1,E,ok.step x1 g1,q,k1,k2⟩
  | false=>exact⟨env,pn,S,n1,E,ok.step x1 g1,q,k1,k2⟩⟩
theorem fT (h:KE X M e ue):KS X M (.Return (some e) pos) (fu ue):=.of (j9 h.run) λD σ H env pn S n E ok hu k1 k2 =>
 ⟨env,pn,S,n,_,ok,hu,λv H1 d n1 r1 x1 g1 _ q=>k2 v H1 d n1 (r1.less ok.s0) (ok.step x1 g1).ext g1 q⟩
theorem uW (i:Nat)(hN:X.N[i]? = some x:=by rfl)(hv:rZ X.env.scope x:=by (first | exact Or.inl rfl | exact Or.inr (Or.inl rfl) | exact Or.inr (Or.inr rfl)))(hd:(x == ("__debug__" : Str))=false:=by decide)
  (iU:(x == ("__classdict__" : Str))=false:=by decide):KS X M (.Return (some (.Name x fZ)) pos) (jP i):=.of (j9 (qv i hN hv hd iU)) λD σ H env pn S n E ok hu k1 k2=>by
 unfold jP at hu;split at hu
 .rename_i d he
  obtain⟨v,hv,r⟩:=ok.val i _ he;exact⟨v,hv,k2 v H d n (dY.less ok.s0 r) ok.ext ok.gd hu⟩
 .rename_i ds he
  obtain⟨v,hv,a,xs,rfl,ha,r,hs,h0⟩:=ok.val i _ he;exact⟨_,hv,k2 _ H _ n (.lst ha (λz=>M.sr a z h0) (r.less ok.s0)) ok.ext ok.gd hu⟩
 .rename_i a t kvs he
  obtain⟨v,hv,rfl,xs,ha,r,hk,hs,h0⟩:=ok.val i _ he;exact⟨_,hv,k2 _ H _ n (.Mw ha (λz=>M.sr a z h0) hk (r.less ok.s0)) ok.ext ok.gd hu⟩
 .exact hu.elim
theorem Oz (hN:X.N.Nodup)(hx:Loc X.env.scope x)(h:KE X M e ue)(hi:X.N[i]? = some x:=by rfl)(hs:swapsWith e (some (.Name x fZ)) pos.line X.env=pure false:=by rfl)
  (hf:X.fn x=true\/X.env.scope.names.lookup x=some .local:=by (first | exact .inl rfl | exact .inr rfl | assumption)) (hfd:i ∉ M.fd:=by decide):KS X M (.Assign [.Name x fZ] e pos) (eB i ue):=.of (gD hN hi hx h.run hs hf) λD σ H env pn S n E ok hu k1 k2 =>
 ⟨env,pn,S,n,_,ok,hu,λv H1 d n1 r1 x1 g1 _ q=>k1 _ _ _ _ _ ((ok.step x1 g1).set r1 hfd) q⟩
theorem OA (hN:X.N.Nodup)(hx:Loc X.env.scope x)(h:KN X M e un)(hi:X.N[i]? = some x:=by rfl)(hs:swapsWith e (some (.Name x fZ)) pos.line X.env=pure false:=by rfl)
  (hf:X.fn x=true\/X.env.scope.names.lookup x=some .local:=by (first | exact .inl rfl | exact .inr rfl | assumption)) (hfd:i ∉ M.fd:=by decide):KS X M (.Assign [.Name x fZ] e pos) (mO i un):=.of (gD hN hi hx h.run hs hf) λD σ H env pn S n E ok hu k1 k2 =>
 ⟨env,pn,S,n,_,ok,hu,λa xs H1 ds n1 h0 h1 r1 x1 g1 _ q=>k1 _ _ _ _ _ (ok.Rx h0 h1 r1 x1 g1 hfd) q⟩
theorem OB (he:KE X M e ue)(hg:KG X M tg g)(hs:swapsWithSole [tg] e pos.line X.env=pure false:=by rfl)(hw:swappedStores [tg] e X.env=pure none:=by rfl)
  (h1:(assignEach [tg] X.env).map (·.2)=[assign tg X.env]:=by rfl):KS X M (.Assign [tg] e pos) (G4 ue g):=.of (qw he.run hg.run hs hw h1) λD σ H env pn S n E ok hu k1 k2 =>
 ⟨env,pn,S,n,_,ok,hu,λv H1 d n1 r1 x1 g1 _ q=>⟨env,pn,S,n1,d,_,ok.step x1 g1,r1,q,λdZ σ' jO q'=>k1 _ _ _ _ _ jO q'⟩⟩
noncomputable def g7 (ug:UG)(ub:US)(E:jj):List af->eF->Int->Prop
 | [],env,n=>E.nx env n
 | d::ds,env,n=>ug d env λdZ=>ub { nx:=g7 ug ub E ds,rt:=E.rt } dZ n
noncomputable def iQ (ui:UI)(ug:UG)(ub:US):US:=λE env n=>ui env n λits DT n1=>g7 ug ub E its DT n1
noncomputable def oq (c:UT)(ub:US):US:=λE env n=>∃W:Nat->eF->Int->Prop,(∃m,W m env n)/\∀m env n,W m env n->c env n λb n1=>if b=true then ub { nx:=λdZ n'=>∃m',m' < m/\W m' dZ n',rt:=E.rt } env n1 else E.nx env n1
theorem lg (hp:PassesOwn (model X.prog X.w) X.A X.env X.xe)(hc:X.calm=true)(hi:KI X M tg iter ui)(hg:KG X M tg ug)(hb:vF X M body u)(hs:∀x,foldedSetIterable iter X.env x=pure x:=by rw[3]):KS X M (.For tg iter body [] pos) (iQ ui ug u):=by
 obtain⟨wi,qi,OC⟩:=hi.ex;refine .of (uH hp hc qi hg.run hb.run hs) λD σ H env pn S n E ok hu k1 k2=>OC σ H _ env pn S n _ ok hu λJ H1 its DT S1 n1 p hU hJ q=>?_;refine⟨λi m σ' H'=>m=its.length - i/\i<=its.length/\∃dZ S' n',dF M dZ (p++pn) σ' S' H' n'/\g7 ug u E (its.drop i) dZ n',⟨its.length,!4,bF _,DT,S1,n1,hU,q⟩,?_⟩;rintro i m σ' H' ⟨rfl,my,dZ,S',n',jO,q'⟩;have it:=hJ S' H' λr hr=>jO.pin r (bx _ hr);by_cases gn:i<its.length
 .refine .inr ⟨it.go i gn,λσ2 H2=>∃sx S2 n2,dF M sx (p++pn) σ2 S2 H2 n2/\g7 ug u E (its.drop (i+1)) sx n2,λσ2 H2 h=>⟨its.length - (i+1),!1,rfl,gn,h⟩,λx H2 hy=>?_⟩
  obtain⟨d,hd,x2,rd⟩:=it.Fs i x H2 gn hy
  have e:its.drop i=d::its.drop (i+1):=by
   rw[bf gn];congr;exact (aD.mp hd).2
  rw[e] at q';have qG:=jO.step (x2.mono (!4)) (M.iF jO.gd x2 (!4));exact⟨dZ,p++pn,S',n',d,_,qG,rd,q',λwR σ3 FE q3=>⟨wR,p++pn,S',n',_,FE,q3,λLn σ4 S4 H4 n4 RE q4=>⟨Ln,S4,n4,RE,q4⟩,k2⟩⟩
 .refine .inl ⟨it.stop i (!1),?_⟩
  rw[bI (!1)] at q';exact k1 _ _ _ _ _ (jO.pins λr hr=>aY _ hr) q'
theorem Av (hp:PassesOwn (model X.prog X.w) X.A X.env X.xe)(hc:KB X M c uc)(hb:vF X M body u):KS X M (.While c body [] pos) (oq uc u) :=
 .of (Dl hp hc.run hb.run) λD σ H env pn S n E ok ⟨W,⟨m,hm⟩,hW⟩ k1 k2=>by
  refine⟨λm σ' H'=>∃dZ S' n',dF M dZ pn σ' S' H' n'/\W m dZ n',⟨m,env,S,n,ok,hm⟩,?_⟩;rintro m σ' H' ⟨dZ,S',n',jO,hw⟩;refine⟨dZ,pn,S',n',_,jO,hW m dZ n' hw,λb H1 n1 x1 g1 q=>?_⟩
  cases b with
  | true=>exact⟨λσ2 H2=>∃m',m' < m/\∃sx S2 n2,dF M sx pn σ2 S2 H2 n2/\W m' sx n2,λσ2 H2 h=>h,dZ,pn,S',n1,_,jO.step x1 g1,q,λsx σ2 S2 H2 n2 qG ⟨m',Mt,OD⟩=>⟨m',Mt,sx,S2,n2,qG,OD⟩,k2⟩
  | false=>exact k1 _ _ _ _ _ (jO.step x1 g1) q
end
noncomputable def qH (mp:List (Option Nat))(env:eF):eF:=mp.map λo=>match o with | none=>none | some i=>(env[i]?).join
noncomputable def Fr.sub (M:Fr)(fd:List Nat):Fr:={ M with fd:=fd }
noncomputable def fY (ug:UG)(uc:UT)(ue:UX)(Q:List af->Int->Prop):List af->List af->eF->Int->Prop
 | [],acc,_,n=>Q acc n
 | d::ds,acc,env,n=>ug d env λdZ=>uc dZ n λb n1=>if b=true then ue dZ n1 λy n2=>fY ug uc ue Q ds (acc++[y]) dZ n2 else fY ug uc ue Q ds acc dZ n1
noncomputable def mz (ui:UJ)(mp:List (Option Nat))(ug:UG)(uc:UT)(ue:UX):eF->Int->(List af->Int->Prop)->Prop:=λenv n Q=>ui env n λits n1=>fY ug uc ue Q its [] (qH mp env) n1
noncomputable def DU:UT:=λ_ n Q=>Q true n
structure KK (X:Cx) (M:Fr) (uD:List Expr) (u:UT):Prop where run:QK X uD (liftT M u)
section
theorem dF.kW (ok:dF M env pn σ S H n)(hfd:∀j∈fd,∃i∈M.fd,mp[j]? = some (some i))(G5:(mp.filterMap id).Nodup):dF (M.sub fd) (qH mp env) pn (kW mp σ) S H n:=by
 have PX:∀(j:Nat) (e:Ent),(qH mp env)[j]? = some (some e)->∃i,mp[j]? = some (some i)/\env[i]? = some (some e):=λj e he=>by
  unfold qH at he;rw[aE] at he
  cases hm:mp[j]? with
  | none=>rw[hm] at he;cases he
  | some o =>
   rw[hm] at he
   cases o with
   | none=>cases he
   | some i =>
    refine⟨i,rfl,?_⟩;have BM:(env[i]?).join=some e:=Option.some.inj he
    cases hv:env[i]? with
    | none=>rw[hv] at BM;cases BM
    | some z=>rw[hv] at BM;exact congrArg some (show z=some e from BM)
 have RF:∀(j i:Nat) (v:V),mp[j]? = some (some i)->σ[i]? = some (some v)->(L2.kW mp σ)[j]? = some (some v):=λj i v h1 h2=>by
  unfold L2.kW;rw[aE,h1];simp[h2]
 have RG:∀(j i:Nat) (v:V),mp[j]? = some (some i)->(L2.kW mp σ)[j]? = some (some v)->σ[i]? = some (some v):=λj i v h1 h2=>by
  unfold L2.kW at h2;rw[aE,h1] at h2;have BM:(σ[i]?).join=some v:=Option.some.inj h2
  cases hv:σ[i]? with
  | none=>rw[hv] at BM;cases BM
  | some z=>rw[hv] at BM;exact congrArg some (show z=some v from BM)
 refine⟨λj e he=>?_,λj k ds es a h1 h2 h3 h4=>?_,by simp[qH,L2.kW],λj hj=>?_,ok.gd,ok.ext,ok.s0,ok.sn,ok.has,ok.pin⟩
 .obtain⟨i,hm,hv⟩:=PX j e he
  obtain⟨v,tm,r⟩:=ok.val i e hv;exact⟨v,RF j i v hm tm,r⟩
 .obtain⟨i,hm,hv⟩:=PX j _ h1
  obtain⟨i2,Lp,Aw⟩:=PX k _ h2;have e:=ok.ne i i2 _ _ a hv Aw (RG _ _ _ hm h3) (RG _ _ _ Lp h4);subst e;have hj:j<mp.length:=(aD.mp hm).1;have hk:k<mp.length:=(aD.mp Lp).1;clear h1 h2 h3 h4 PX RF RG hfd
  induction mp generalizing j k with
  | nil=>cases hm
  | cons o mp ih =>
   have nd:∀{i:Nat},i∈mp.filterMap id->o≠some i:=λ{i} hi z=>by
    subst z;simp only[cK,id] at G5;exact (aZ.mp G5).1 hi
   have RH:(mp.filterMap id).Nodup:=by
    cases o with
    | none=>simpa using G5
    | some z=>simp only[cK,id] at G5;exact (aZ.mp G5).2
   have mem:∀{k:Nat},mp[k]? = some (some i)->i∈mp.filterMap id:=λ{k} hk=>List.mem_filterMap.mpr ⟨some i,cp hk,rfl⟩
   cases j with
   | zero=>cases k with
    | zero=>rfl
    | succ k =>
     have h1:o=some i:=by simpa using hm
     have h2:mp[k]? = some (some i):=by simpa using Lp
     exact absurd h1 (nd (mem h2))
   | succ j=>cases k with
    | zero =>
     have h1:o=some i:=by simpa using Lp
     have h2:mp[j]? = some (some i):=by simpa using hm
     exact absurd h1 (nd (mem h2))
    | succ k=>rw[ih RH j k (by simpa using hm) (by simpa using Lp) (by simpa using hj) (by simpa using hk)]
 .obtain⟨i,hi,hm⟩:=hfd j hj
  exact RF j i _ hm (ok.wx i hi)
theorem DV:KK X M [] DU:=⟨⟨λpins s σ H Q I h=>BH h λenv pn S n R h=>K1.run pins s σ H Q I (h.2.2 true H n (.refl _ _) h.1.gd h.2.1)⟩⟩
theorem uX (h:KB X M c uc):KK X M [c] uc:=⟨yy h.run⟩
theorem G6 (OC:∀σ H R env pn S n Q,dF M env pn σ S H n->ui env n Q ->
  (∀J H' its n',Ext M.gs H H'->M.G H' n'->(∀H2,Ext M.gs H' H2->xY S J its H2)->its.length<=aA->Q its n'->R J H')->wi σ H R)
  (hfd:∀j∈fd,∃i∈M.fd,mp[j]? = some (some i)) (G5:(mp.filterMap id).Nodup) (ok:dF M env pn σ S H n) (hu:mz ui mp ug uc ue env n Q)
  (k:∀ys H' ds n',dw S H' ds ys->Ext M.gs H H'->M.G H' n'->Q ds n'->R ys H'):z8 wi mp (IP (M.sub fd) ug) (liftT (M.sub fd) uc) (Oj (M.sub fd) ue) σ H R:=by
 refine OC σ H _ env pn S n _ ok hu λJ H1 its n1 x1 g1 hJ hl q=>?_;have hU:=ok.step x1 g1
 refine⟨λi m ys σ' H'=>m=its.length - i/\i<=its.length/\∃dZ n' acc,dF (M.sub fd) dZ pn σ' S H' n'/\dw S H' acc ys/\acc.length<=i/\Ext M.gs H1 H'/\fY ug uc ue Q (its.drop i) acc dZ n',
  ⟨its.length,!4,bF _,_,n1,[],hU.kW hfd G5,.nil,am _,.refl _ _,q⟩,?_⟩
 rintro i m ys σ' H' ⟨rfl,my,dZ,n',acc,jO,ra,ha,x',q'⟩;have it:=hJ H' x';by_cases gn:i<its.length
 .refine .inr ⟨it.go i gn,by rw[ra.length];omega,λx H2 hy=>?_⟩
  obtain⟨d,hd,x2,rd⟩:=it.Fs i x H2 gn hy
  have e:its.drop i=d::its.drop (i+1):=by
   rw[bf gn];congr;exact (aD.mp hd).2
  rw[e] at q';have qG:dF (M.sub fd) dZ pn σ' S H2 n':=jO.step (x2.mono (!4)) (M.iF jO.gd x2 (!4));refine⟨dZ,pn,S,n',d,_,qG,rd,q',λwR σ3 FE q3=>⟨wR,pn,S,n',_,FE,q3,λb H4 n4 x4 g4 q4=>?_⟩⟩;have PY:Ext M.gs H' H4:=(x2.mono (!4)).trans x4
  cases b with
  | true=>exact⟨wR,pn,S,n4,_,FE.step x4 g4,q4,λy H5 dy n5 r5 x5 g5 _ q5=>⟨its.length - (i+1),!1,rfl,gn,wR,n5,acc++[dy],(FE.step x4 g4).step x5 g5,(ra.ext ((PY.trans x5).mono ok.pC)).append (.cons r5 .nil),by simp;omega,x'.trans (PY.trans x5),q5⟩⟩
  | false=>exact⟨its.length - (i+1),!1,rfl,gn,wR,n4,acc,FE.step x4 g4,ra.ext (PY.mono ok.pC),!1,x'.trans PY,q4⟩
 .refine .inl ⟨it.stop i (!1),by rw[ra.length];omega,?_⟩
  rw[bI (!1)] at q';exact k ys H' acc n' ra (x1.trans x') jO.gd q'
theorem ou (fd:List Nat)(hc:X.calm=true)(hi:KJ X M tg iter ui)(hk:sc.kind=.function)(hm:j7 X.N X.env.scope sc N mp=true)
  (hb:∀(cl:List (Str × Addr)) (C:Addr) (s₂:ax) (H₂:Hp) (fp:List Addr),KG (gr X sc N cl C s₂ H₂ fp) (M.sub fd) tg ug/\KK (gr X sc N cl C s₂ H₂ fp) (M.sub fd) uD uc/\KE (gr X sc N cl C s₂ H₂ fp) (M.sub fd) vE ue)
  (hfd:∀j∈fd,∃i∈M.fd,mp[j]? = some (some i):=by decide) (G5:(mp.filterMap id).Nodup:=by decide) (hs:∀x,foldedSetIterable iter X.env x=pure x:=by rw[3]):KN X M (.ListComp vE [⟨tg,iter,uD,0⟩] sc pos) (mz ui mp ug uc ue):=by
 obtain⟨wi,qi,OC⟩:=hi.ex;refine .of (uI hc qi hk hm (λcl C s₂ H₂ fp=>⟨(hb cl C s₂ H₂ fp).1.run,(hb cl C s₂ H₂ fp).2.1.run,(hb cl C s₂ H₂ fp).2.2.run⟩) hs) λσ H R env pn S n Q ok hu k=>?_;refine G6 OC hfd G5 ok hu λys H' ds n' r x g q D hD=>?_;have jO:=ok.step x g
 have U3:H D=none:=by
  by_cases z:D∈M.gs
  .exact absurd hD (M.uN g D z)
  .exact x.fresh z hD
 exact k D ys _ ds n' U3 dz ((r.fresh hD).ext (.new hD)) (x.trans (.new hD)) (M.iF g (.new (S:=[]) hD) (!4)) q
end
noncomputable def jl (i:Nat)(f:List af->List af->Option (List af))(ua:UA):US:=λE env n=>match env[i]? with | some (some (.o ds))=>ua env n λas n1=>kK (f ds as) λpD=>E.nx (env.set i (some (.o pD))) n1 | _=>False
noncomputable def ir (ds as:List af):Option (List af):=match as with | [d]=>if ds.length<aA then some (ds++[d]) else none | _=>none
noncomputable def jm (ds as:List af):Option (List af):=match as with | [.tuple es]=>if ds.length+es.length<=aA then some (ds++es) else none | [.list es]=>if ds.length+es.length<=aA then some (ds++es) else none | _=>none
structure RI (X:Cx) (id:String) (f:List af->List af->Option (List af)):Prop where
 ex:∃r,Gm X id r/\∀S H a xs ds as vs pD (R:VK),H a=some (.lst xs)->dw S H ds xs->dw S H as vs->f ds as=some pD->(∀ys v,dw S H pD ys->R v (eg H a (.lst ys)))->r (.ref a) vs H R
section
variable {X:Cx}{M:Fr}{e o:Expr}{es:List Expr}{ua:UA}{pos j6 g8:Pos}{name:Str}{id:String}{f:List af->List af->Option (List af)}
theorem lh:RI X "list.append" ir:=⟨_,Bq,λS H a xs ds as vs pD R ha r ra e k=>by
 obtain⟨d,rfl⟩:∃d,as=[d]:=by
  unfold ir at e;split at e
  .exact⟨_,rfl⟩
  .cases e
 simp only[ir] at e;split at e
 .rename_i hl
  cases e;obtain⟨v,t,rfl,r1,r2⟩:=ra.of_cons;cases r2.eO;exact⟨a,xs,v,rfl,rfl,ha,by rw[r.length];exact hl,k _ _ (r.append (.cons r1 .nil))⟩
 .cases e⟩
theorem DW:RI X "list.extend" jm:=⟨_,Gm.or (Br (X:=X)) (yC X.K),λS H a xs ds as vs pD R ha r ra e k=>by
 obtain⟨es,h⟩:∃es,as=[.tuple es]\/as=[.list es]:=by
  unfold jm at e;split at e
  .exact⟨_,.inl rfl⟩
  .exact⟨_,.inr rfl⟩
  .cases e
 rcases h with rfl | rfl
 .simp only[jm] at e
  split at e
  .rename_i hl
   cases e;obtain⟨v,t,rfl,r1,r2⟩:=ra.of_cons;cases r2.eO;obtain⟨b,ys,rfl,hb,rb⟩:=r1.eY;exact .inr ⟨a,b,xs,ys,rfl,rfl,ha,iz.of hb,by rw[r.length,rb.length];exact hl,k _ _ (r.append rb)⟩
  .cases e
 .simp only[jm] at e
  split at e
  .rename_i hl
   cases e;obtain⟨v,t,rfl,r1,r2⟩:=ra.of_cons;cases r2.eO;obtain⟨b,ys,rfl,hb,_,rb⟩:=r1.eR;exact .inl ⟨a,b,xs,ys,rfl,rfl,ha,hb,by rw[r.length,rb.length];exact hl,k _ _ (r.append rb)⟩
  .cases e⟩
theorem ow (i:Nat)(pa:PlainAttrs "list")(slot:Slot "list" name id)(Kp:typeOf (.builtin id)=pure (.type "method_descriptor"))(hm:RI X id f)(ha:KA X M (e::es) ua)
  (hN:X.N[i]? = some x:=by rfl) (hv:rZ X.env.scope x:=by (first | exact Or.inl rfl | exact Or.inr (Or.inl rfl) | exact Or.inr (Or.inr rfl))) (hd:(x == ("__debug__" : Str))=false:=by decide) (iU:(x == ("__classdict__" : Str))=false:=by decide)
  (qk:attributeBase (.Name x p) name X.env (eval (.Name x p) X.env)=eval (.Name x p) X.env:=by rfl) (hl:decide ((e::es).length+0+0<30)=true:=by rfl) (ql:(j6.endLine == g8.line)=true:=by rfl)
  (hs:swapsWith (.Call (.Attribute (.Name x p) name j6) (e::es) [] g8) none pos.line X.env=pure false:=by rfl):KS X M (.Expr (.Call (.Attribute (.Name x p) name j6) (e::es) [] g8) pos) (jl i f ua):=by
 obtain⟨r,h1,h2⟩:=hm.ex;refine .of (GG (K5 X.K pa slot Kp h1 (qv i hN hv hd iU) ha.run rfl qk hl ql) hs) λD σ H env pn S n E ok hu k1 k2=>?_;unfold jl at hu;split at hu
 .rename_i ds he
  obtain⟨v,hv,a,xs,rfl,ha,ra,hs,h0⟩:=ok.val i _ he;refine⟨_,hv,.inl ⟨rfl,xs,gc.of ha⟩,env,pn,S,n,_,ok,hu,λvs H1 as n1 el r1 x1 g1 _ q=>?_⟩;obtain⟨pD,e',q⟩:=q;have hU:=ok.step x1 g1;obtain⟨v',tm,a',oZ,U4,kh,Tx,_,_⟩:=hU.val i _ he;subst U4;rw[hv] at tm;cases tm;exact h2 S H1 a oZ ds as vs pD _ kh Tx r1 e' λys w ry=>k1 _ _ _ _ _ (hU.put he hv kh ry) q
 .exact hu.elim
noncomputable def o3 (i:Nat)(ui ue:UX):US:=λE env n=>match env[i]? with | some (some (.o ds))=>ue env n λd n1=>ui env n1 λk n2=>(match k with | .int k=>kK (Co ds.length k) λj=>E.nx (env.set i (some (.o (ds.set j d)))) n2 | _=>False) | _=>False
theorem dw.set (h:dY S H d v):∀{ds:List af} {xs:List V} (j:Nat),dw S H ds xs->dw S H (ds.set j d) (xs.set j v)
 | [],_,j,r=>by cases r.eO;exact .nil
 | e::es,_,0,r=>by obtain⟨x,t,rfl,r1,r2⟩:=r.of_cons;exact .cons h r2
 | e::es,_,j+1,r=>by obtain⟨x,t,rfl,r1,r2⟩:=r.of_cons;exact .cons r1 (dw.set h j r2)
theorem DX (i:Nat)(hi:KE X M ie ui)(he:KE X M e ue)
  (hN:X.N[i]? = some x:=by rfl) (hv:rZ X.env.scope x:=by (first | exact Or.inl rfl | exact Or.inr (Or.inl rfl) | exact Or.inr (Or.inr rfl))) (hd:(x == ("__debug__" : Str))=false:=by decide) (iU:(x == ("__classdict__" : Str))=false:=by decide)
  (ha:∀v,assign (.Subscript (.Name x p) ie sm) X.env v=(do
   let ov <- holding [v] (eval (.Name x p) X.env);let iv <- holding [v,ov] (eval ie X.env)
   standAt sm
   holding [v,ov,iv] (setItem ov iv v)
   release [v,ov,iv] []):=by rw[3])
  (hs:swapsWithSole [.Subscript (.Name x p) ie sm] e pos.line X.env=pure false:=by rfl) (hw:swappedStores [.Subscript (.Name x p) ie sm] e X.env=pure none:=by rfl)
  (h1:(assignEach [.Subscript (.Name x p) ie sm] X.env).map (·.2)=[assign (.Subscript (.Name x p) ie sm) X.env]:=by rfl):KS X M (.Assign [.Subscript (.Name x p) ie sm] e pos) (o3 i ui ue):=by
 refine .of (qw he.run (uG (qv i hN hv hd iU) hi.run nB ha) hs hw h1) λD σ H env pn S n E ok hu k1 k2=>?_;unfold o3 at hu;split at hu
 .rename_i ds OE
  refine⟨env,pn,S,n,_,ok,hu,λv H1 d n1 r1 x1 g1 _ q=>?_⟩;have hU:=ok.step x1 g1;obtain⟨v',tm,a,xs,rfl,kh,Tx,n9,WJ⟩:=hU.val i _ OE;refine⟨_,tm,env,pn,S,n1,_,hU,q,λkv H2 k n2 r2 x2 g2 _ q=>?_⟩;have qG:=hU.step x2 g2;obtain⟨v2,Aw,a2,U5,e2,Tz,TB,_,_⟩:=qG.val i _ OE;subst e2;rw[tm] at Aw;cases Aw
  cases k with
  | int k =>
   obtain⟨j,hj,q⟩:=q;exact⟨a,U5,k,j,rfl,r2.ee,Tz,by rw[TB.length];exact hj,k1 _ _ _ _ _ (qG.put OE tm Tz (dw.set (r1.ext (x2.mono ok.pC)) j TB)) q⟩
  | _=>exact False.elim q
 .exact hu.elim
end
noncomputable abbrev XQ:=Str->List af->Prop
noncomputable abbrev UF:=List af->Int->(af->Int->Prop)->XQ->Prop
noncomputable def Cr:XQ:=λ_ _=>False
noncomputable def Rz (C:Xc)(S gs:List Addr)(H:Hp)(E:XK)(c:Str)(as:List af):Prop:=∀(dx:Addr) (H':Hp) (vs:List V),dw S H' as vs->H' dx=some (.ext (ID dx ((C.fl c).zip vs)))->Ext gs H H'->E (.ref (C.cl c)) (some dx) H'
noncomputable def vH (C:Xc)(F:UF):Sp:=λvs H Q E=>∃S ds n Qp Xp,dw S H ds vs/\(∀a∈S,H a≠none)/\F ds n Qp Xp/\(∀d v H',dY S H' d v->Ext [] H H'->Qp d n->Q v H')/\∀c as,Xp c as->Rz C S [] H E c as
structure yS where
 iG:Hp->Addr->Addr->Int->Prop
 ext:∀{S:List Addr} {H H':Hp} {fa sa:Addr} {n:Int},iG H fa sa n->Ext S H H'->fa ∉ S->sa ∉ S->iG H' fa sa n
 fa:∀{H:Hp} {fa sa:Addr} {n:Int},iG H fa sa n->H fa≠none
 sa:∀{H:Hp} {fa sa:Addr} {n:Int},iG H fa sa n->H sa≠none
 nx:∀{H:Hp} {fa sa:Addr} {n:Int},iG H fa sa n->∀φ,H fa≠some (.ext φ)
noncomputable def qI (Y:yS)(F:UF):Sp:=λvs H Q E=>∃fa sa us S ds n Qp,vs=.ref fa::us/\Y.iG H fa sa n/\fa∈S/\dw S H ds us/\(∀a∈S,H a≠none)/\F ds n Qp Cr/\(∀d n' v H',dY S H' d v->Y.iG H' fa sa n'->Ext [fa] H H'->Qp d n'->Q v H')
noncomputable def Fr.pure (C:Xc)(n0:Int)(S:List Addr)(H:Hp)(has:∀a∈S,H a≠none):Fr where
 G:=λ_ n=>n=n0
 gs:=[]
 S0:=S
 H0:=H
 fa:=.f'
 fd:=[]
 xc:=C
 iF:=λh _ _=>h
 uN:=λ_ a h=>by cases h
 Rt:=λ_ a h=>by cases h
 Oi:=λa h=>by cases h
 sr:=has
noncomputable def Fr.feed (C:Xc)(Y:yS)(i:Nat)(fa sa:Addr)(n0:Int)(S:List Addr)(H:Hp)(hf:Y.iG H fa sa n0)(hS:fa∈S)(has:∀a∈S,H a≠none):Fr where
 G:=λH n=>Y.iG H fa sa n
 gs:=[fa]
 S0:=S
 H0:=H
 fa:=.ref fa
 fd:=[i]
 xc:=C
 iF:=λh x k=>Y.ext h x (λz=>Y.fa hf (k _ z)) (λz=>Y.sa hf (k _ z))
 uN:=λh a ha=>by have e:=aq.mp ha;subst e;exact Y.fa h
 Rt:=λh a ha=>by have e:=aq.mp ha;subst e;exact Y.nx h
 Oi:=λa ha=>by have e:=aq.mp ha;subst e;exact hS
 sr:=has
noncomputable def envOf (N:Nat)(ds:List af):eF:=ds.map (λd=>some (.s d))++List.replicate (N - ds.length) none
noncomputable def mQ (N np:Nat)(u:XQ->US):UF:=λds n Q Ex=>ds.length=np/\u Ex { nx:=λ_ n'=>Q .none n',rt:=Q } (envOf N ds) n
noncomputable def iH (N np:Nat)(u:XQ->US):UF:=λds n Q Ex=>ds.length+1=np/\u Ex { nx:=λ_ n'=>Q .none n',rt:=Q } (none::envOf (N - 1) ds) n
theorem BN (h0:M.H0=H)(hS:M.S0=S)(r:dw S H ds vs)(hfd:M.fd=[])(g:M.G H n):dF M (envOf N.length ds) [] (start N vs) S H n:=by
 subst h0 hS;have hl:=r.length
 have key:∀(i:Nat) (e:Ent),(envOf N.length ds)[i]? = some (some e)->∃d,ds[i]? = some d/\e=.s d:=λi e h=>by
  unfold envOf at h;by_cases hi:i<ds.length
  .rw[bD (by simpa using hi),aE] at h
   cases hd:ds[i]? with
   | none=>rw[hd] at h;cases h
   | some d=>rw[hd] at h;exact⟨d,rfl,(Option.some.inj (Option.some.inj h)).symm⟩
  .rw[bG (by simp;omega),bX] at h
   split at h<;>cases h
 refine⟨λi e h=>?_,λi j a b c h1=>?_,?_,(by rw[hfd];intro i hi;cases hi),g,.refl _ _,λa h=>h,λa h=>.inl h,M.sr,λp hp=>by cases hp⟩
 .obtain⟨d,hd,rfl⟩:=key i e h
  obtain⟨v,hv,rv⟩:=r.at hd;refine⟨v,?_,rv⟩;unfold start;rw[bD (by rw[au];exact (aD.mp hv).1),aE,hv];rfl
 .obtain⟨d,_,e⟩:=key _ _ h1
  cases e
 .unfold envOf start
  simp[hl]
theorem yT (h0:M.H0=H)(hS:M.S0=S)(r:dw S H ds vs)(hfd:M.fd=[0])(wU:M.fa=.ref fa)(hN:1<=N.length)(g:M.G H n):dF M (none::envOf (N.length - 1) ds) [] (start N (.ref fa::vs)) S H n:=by
 subst h0 hS;have hl:=r.length
 have key:∀(i:Nat) (e:Ent),(none::envOf (N.length - 1) ds)[i]? = some (some e)->∃j d,i=j+1/\ds[j]? = some d/\e=.s d:=λi e h=>by
  cases i with
  | zero=>cases h
  | succ i =>
   rw[ae] at h;unfold envOf at h;by_cases hi:i<ds.length
   .rw[bD (by simpa using hi),aE] at h
    cases hd:ds[i]? with
    | none=>rw[hd] at h;cases h
    | some d=>rw[hd] at h;exact⟨i,d,rfl,hd,(Option.some.inj (Option.some.inj h)).symm⟩
   .rw[bG (by simp;omega),bX] at h
    split at h<;>cases h
 refine⟨λi e h=>?_,λi j a b c h1=>?_,?_,?_,g,.refl _ _,λa h=>h,λa h=>.inl h,M.sr,λp hp=>by cases hp⟩
 .obtain⟨j,d,rfl,hd,rfl⟩:=key i e h
  obtain⟨v,hv,rv⟩:=r.at hd;refine⟨v,?_,rv⟩;unfold start;have WK:j<vs.length:=(aD.mp hv).1;rw[bD (by rw[au,ao];omega),ak,ae,aE,hv];rfl
 .obtain⟨j,d,_,_,e⟩:=key _ _ h1
  cases e
 .unfold envOf start
  simp[hl];omega
 .rw[hfd,wU]
  intro i hi;have e:=aq.mp hi;subst e;unfold start;simp
section
variable {P:aV}{w:World}{K:W.Frag}{mg:Str->Option ah}{base:Heap}{f:Addr}{fd:bT}{x:Str}{fi:Str}{st:Stmt}{N ps:List Str}{k:Nat}{C:Xc}{u:XQ->US}{Y:yS}
theorem RJ (F:v7 K x fi st f fd)(hm:mg x=some (.ref f))(sc:fg N ps (dB st))(hb:Binds K fd ps [])
  (body:∀(fj:ah) (A:Around) (outer:List Env) (s:ax) (H:Hp) (E:XK) (n0:Int) (S:List Addr) (has:∀a∈S,H a≠none),f6 k (A.deeper (envOfC fi (dB st) s.heap.objs.size f fj))->vF (mI ux P w K mg base N fi (dB st) f fj A outer s H E).Bg (Fr.pure C n0 S H has) (fE st) (u Cr)) :
  d4 P w K mg base (k+1) x ps (vH C (mQ N.length ps.length λ_=>u Cr)):=by
 refine⟨f,fd,F.K3 sc (λvs H Q E h=>?_) (λfj A outer s H vs Q E hr h=>?_),hm,F.kp,hb⟩
 .obtain⟨S,ds,n,Qp,Xp,r,_,hF,_⟩:=h
  rw[r.length];exact hF.1
 .obtain⟨S,ds,n,Qp,Xp,r,has,hF,hq,hx⟩:=h
  refine⟨_,(body fj A outer s H E n S has hr).run,envOf N.length ds,[],S,n,_,BN rfl rfl r rfl rfl,hF.2,λdZ σ' S' H' n' ok q=>?_,λv H' d n' rv x g q=>?_⟩
  .have e:n'=n:=ok.gd
   subst e;exact hq _ _ H' .f' ok.ext q
  .have e:n'=n:=g
   subst e;exact hq d v H' rv x q
theorem RK (F:v7 K x fi st f fd)(hm:mg x=some (.ref f))(sc:fg N ps (dB st))(hb:Binds K fd ps [])(hN:1<=N.length)
  (body:∀(fj:ah) (A:Around) (outer:List Env) (s:ax) (H:Hp) (E:XK) (fa sa:Addr) (n0:Int) (S:List Addr) (hf:Y.iG H fa sa n0) (hS:fa∈S) (has:∀a∈S,H a≠none),f6 k (A.deeper (envOfC fi (dB st) s.heap.objs.size f fj)) ->
   vF (mI ux P w K mg base N fi (dB st) f fj A outer s H E).Bg (Fr.feed C Y 0 fa sa n0 S H hf hS has) (fE st) (u Cr)) :
  d4 P w K mg base (k+1) x ps (qI Y (iH N.length ps.length λ_=>u Cr)):=by
 refine⟨f,fd,F.K3 sc (λvs H Q E h=>?_) (λfj A outer s H vs Q E hr h=>?_),hm,F.kp,hb⟩
 .obtain⟨fa,sa,us,S,ds,n,Qp,rfl,_,_,r,_,hF,_⟩:=h
  rw[ao,r.length];exact hF.1
 .obtain⟨fa,sa,us,S,ds,n,Qp,rfl,fe,hS,r,has,hF,hq⟩:=h
  refine⟨_,(body fj A outer s H E fa sa n S fe hS has hr).run,none::envOf (N.length - 1) ds,[],S,n,_,yT rfl rfl r rfl rfl hN fe,hF.2,λdZ σ' S' H' n' ok q=>?_,λv H' d n' rv x g q=>?_⟩
  .exact hq _ n' _ H' .f' ok.gd ok.ext q
  .exact hq d n' v H' rv g x q
end
noncomputable def dP (F:UF)(ua:UA):UX:=λenv n Q=>ua env n λds n1=>F ds n1 Q Cr
mutual
def iO:af->Bool
 | .list _=>false
 | .tuple ds=>iZ ds
 | .dict _=>false
 | _=>true
def iZ:List af->Bool
 | []=>true
 | d::ds=>iO d && iZ ds
end
mutual
theorem dY.any {S S':List Addr}{H:Hp}:∀{d:af} {v:V},iO d=true->dY S H d v->dY S' H d v
 | .none,_,_,h=>h
 | .bool _,_,_,h=>h
 | .int _,_,_,h=>h
 | .str _,_,_,h=>h
 | .tuple ds,_,hn,h=>by
  obtain⟨a,xs,rfl,ha,r⟩:=h.eY;exact .tup ha (dw.any (by simpa [iO] using hn) r)
 | .list ds,_,hn,h=>by simp[iO] at hn
 | .dict _,_,hn,h=>by simp[iO] at hn
theorem dw.any {S S':List Addr}{H:Hp}:∀{ds:List af} {vs:List V},iZ ds=true->dw S H ds vs->dw S' H ds vs
 | [],_,_,h=>h
 | d::ds,_,hn,h=>by
  obtain⟨x,t,rfl,h1,h2⟩:=h.of_cons;simp only[iZ,bH] at hn;exact .cons (dY.any hn.1 h1) (dw.any hn.2 h2)
end
noncomputable def qJ (F:UF)(ua:UA):UX:=λenv n Q=>ua env n λds n1=>F ds n1 (λd n'=>iO d=true/\Q d n') Cr
section
theorem gF (D:d4 X.prog X.w X.K X.mg X.base k x ps (vH C F))(hr:f6 k X.A)(ha:KA X M (e::es) ua)(hg:Gl X x:=by rfl)(oh:(x == ("__debug__" : Str))=false:=by decide):KE X M (.Call (.Name x p) (e::es) [] pos) (dP F ua) :=
 .of (kY D hr ha.run hg oh) λσ H R env pn S n Q ok hu k=>⟨env,pn,S,n,_,ok,hu,λvs H1 ds n1 el r1 x1 g1 _ q=>⟨S,ds,n1,Q,Cr,r1,(ok.step x1 g1).has,q,λd v H2 r2 x2 q2=>k v H2 d n1 r2 (x1.trans (x2.mono (!4))) (M.iF g1 x2 (!4)) q2,λc as z=>z.elim⟩⟩
theorem Ax (D:d4 X.prog X.w X.K X.mg X.base k x ps (vH C F))(hr:f6 k X.A)(ha:IE X M (e::es) ua)(hg:Gl X x:=by rfl)(oh:(x == ("__debug__" : Str))=false:=by decide):KE X M (.Call (.Name x p) (e::es) [] pos) (qJ F ua) :=
 .of (kY D hr ha.run hg oh) λσ H R env pn S n Q ok hu k=>⟨env,pn,S,n,_,ok,hu,λvs H1 ds n1 r1 x1 g1 _ q=>⟨M.gs,ds,n1,_,Cr,r1.less ok.pC,M.uN g1,q,λd v H2 r2 x2 q2=>k v H2 d n1 (r2.any q2.1) (x1.trans (x2.mono (!4))) (M.iF g1 x2 (!4)) q2.2,λc as z=>z.elim⟩⟩
theorem fw (i:Nat){y:Str}{p2:Pos}{fa sa:Addr}(D:d4 X.prog X.w X.K X.mg X.base k x ps (qI Y F))(hr:f6 k X.A)(ha:KA X M es ua)
  (hG:M.G=λH n=>Y.iG H fa sa n:=by rfl) (wU:M.fa=.ref fa:=by rfl) (Lq:M.gs=[fa]:=by rfl) (hfd:i∈M.fd:=by decide)
  (hN:X.N[i]? = some y:=by rfl) (hv:rZ X.env.scope y:=by (first | exact Or.inl rfl | exact Or.inr (Or.inl rfl) | exact Or.inr (Or.inr rfl))) (hd:(y == ("__debug__" : Str))=false:=by decide) (iU:(y == ("__classdict__" : Str))=false:=by decide)
  (hg:Gl X x:=by rfl) (oh:(x == ("__debug__" : Str))=false:=by decide):KE X M (.Call (.Name x p) (.Name y p2::es) [] pos) (dP F ua) :=
 .of (kY D hr (gC (qv i hN hv hd iU) ha.run rfl) hg oh) λσ H R env pn S n Q ok hu k=>⟨_,ok.wx i hfd,env,pn,S,n,_,ok,hu,λvs H1 ds n1 el r1 x1 g1 _ q=>by
  have hU:=ok.step x1 g1;refine⟨fa,sa,vs,S,ds,n1,Q,by rw[wU],by rw[hG] at g1;exact g1,ok.pC fa (by rw[Lq];simp),r1,hU.has,q,λd n2 v H2 r2 f2 x2 q2=>k v H2 d n2 r2 (x1.trans (by rw[Lq];exact x2)) (by rw[hG];exact f2) q2⟩⟩
end
noncomputable def G7 (c:String)(d:af):Bool:=match c,d with
 | "int",.int _=>true | "int",.bool _=>true | "bool",.bool _=>true | "tuple",.tuple _=>true | "list",.list _=>true | "str",.str _=>true | _,_=>false
noncomputable def DY (c:String)(u:UX):UX:=λenv n Q=>u env n λd n1=>Q (.bool (G7 c d)) n1
theorem RL {K:W.Frag}{c:String}(hc:c = "int" \/ c = "bool" \/ c = "tuple" \/ c = "list" \/ c = "str")(d:af):W.kitOne K (.type (Ra d)) (.type c)=some (G7 c d):=by
 rcases hc with rfl | rfl | rfl | rfl | rfl<;>cases d<;>rfl
theorem eQ.ty {K:W.Frag}{gs S:List Addr}{H:Hp}{d:af}{v:V}(h:eQ gs S H d v):l7 K H v (.type (Ra d)):=by
 rcases h with h | ⟨ds,a,xs,rfl,rfl,ha,_⟩ | ⟨t,kvs,a,xs,rfl,rfl,ha,_⟩
 .exact h.ty
 .exact .lst ha
 .cases t with
  | true=>exact .dT ha
  | false=>exact .dK ha
section
variable {X:Cx}{M:Fr}{e a b:Expr}{u w:UX}{p p2 q2 pos:Pos}{c:String}{x:Str}
theorem IV (hm:X.mg "isinstance" = none)(hx:X.mg x=none)(h:KL X M e u)(hc:c = "int" \/ c = "bool" \/ c = "tuple" \/ c = "list" \/ c = "str" := by decide)(hv:bootBuiltins x=some (.type c):=by decide +kernel)(hg:Gl X "isinstance" := by rfl)(U6:Gl X x:=by rfl)(hs:eI e=true:=by rfl)(hn:x ≠ "__name__" := by decide)(oh:(x == ("__debug__" : Str))=false:=by decide) :
  KE X M (.Call (.Name "isinstance" p) [e,.Name x p2] [] pos) (DY c u) :=
 .of (gO (Rb X.K) hg hm (!3) (gC h.run (gC (NS c U6 hx hv hn oh) eS rfl) hs)) λσ H R env pn S n Q ok hu k=>⟨env,pn,S,n,_,ok,hu,λv H1 d n1 r1 x1 g1 _ q=>⟨v,_,c,_,rfl,r1.ty,RL hc d,k _ H1 _ n1 (.bl _) x1 g1 q⟩⟩
noncomputable def wV (u:UX):eF->Int->(List af->Int->Prop)->Prop:=λenv n Q=>u env n λd n1=>kK (mN d) λds=>Q ds n1
theorem uY (ok:dF M env pn σ S H n)(x:Ext M.gs H H')(g:M.G H' n')(h:H' l=none):H l=none:=by
 by_cases z:l∈M.gs
 .exact absurd h (M.uN g l z)
 .exact x.fresh z h
theorem DZ (hm:X.mg "list" = none)(h:KL X M e u)(hg:Gl X "list" := by rfl)(hs:eI e=true:=by rfl):KN X M (.Call (.Name "list" p) [e] [] pos) (wV u) :=
 .of (gJ (NY X.K) hg hm (!3) (gC h.run eS hs)) λσ H R env pn S n Q ok hu k=>⟨env,pn,S,n,_,ok,hu,λv H1 d n1 r1 x1 g1 _ q=>by
  obtain⟨ds,e,q⟩:=q;have fin:∀xs,dw S H1 ds xs->∀l,H1 l=none->R (.ref l) (eg H1 l (.lst xs)):=λxs rs l hl=>k l xs _ ds n1 (uY ok x1 g1 hl) dz ((rs.fresh hl).ext (.new hl)) (x1.trans (.new hl)) (M.iF g1 (.new (S:=[]) hl) (!4)) q
  cases d with
  | tuple es =>
   cases e;obtain⟨a,xs,rfl,ha,rs⟩:=r1.eY;exact⟨a,xs,rfl,.inr (iz.of ha),fin xs rs⟩
  | list es =>
   cases e;obtain⟨a,xs,rfl,ha,rs⟩:=r1.eR;exact⟨a,xs,rfl,.inl (gc.of ha),fin xs rs⟩
  | _=>cases e⟩
noncomputable def IW (u:UX):eF->Int->(List af->Int->Prop)->Prop:=λenv n Q=>u env n λd n1=>match d with | .int j=>(-(2 ^ 62)<=j/\j<=16777216)/\Q (nJ 0 j.toNat) n1 | _=>False
theorem D0 (j:Int):dw S H (nJ 0 j.toNat) (sj 0 j):=by
 unfold nJ sj;rw[Int.sub_zero];generalize j.toNat=m
 induction m with
 | zero=>exact .nil
 | succ m ih =>
  rw[List.range_succ,aO,aO];exact ih.append (.cons (.int _) .nil)
noncomputable def IY (u:eF->Int->(List af->Int->Prop)->Prop):UX:=λenv n Q=>u env n λds n'=>Q (.tuple ds) n'
theorem Lr (hm:X.mg "tuple" = none)(Lp:X.mg "range" = none)(hc:X.calm=true)(h:KE X M e u)(hg:Gl X "tuple" := by rfl)(PZ:Gl X "range" := by rfl)(hs:eI e=true:=by rfl):KE X M (.Call (.Name "tuple" p) [.Call (.Name "range" p2) [e] [] q2] [] pos) (IY (IW u)) :=
 .of (gJ (qt hc) hg hm (!3) (gC (gJ Dd PZ Lp (!3) (gC h.run eS hs)) eS)) λσ H R env pn S n Q ok hu k=>⟨env,pn,S,n,_,ok,hu,λv H1 d n1 r1 x1 g1 _ q=>by
  cases d with
  | int j =>
   refine⟨j,by rw[r1.ee],λr hr=>⟨r,0,j,rfl,dz,⟨!2,!2,q.1.1,by have:=q.1.2;omega⟩,by have:=q.1.2;omega,λl hl=>?_⟩⟩;have x2:Ext [] H1 (eg H1 r (.HX 0 j)):=.new hr;have x3:Ext [] (eg H1 r (.HX 0 j)) _:=.new (o:=.tup (sj 0 j)) hl;have TF:=x2.trans x3;exact k _ _ _ n1 (.tup dz (D0 j)) (x1.trans (TF.mono (!4))) (M.iF g1 TF (!4)) q.2
  | _=>exact False.elim q⟩
noncomputable def wW:af->Option Int | .int i=>some i | _=>none
noncomputable def i5 (ds:List af):Option (List Int):=ds.mapM wW
@[simp] theorem hV (ns:List Int):i5 (ns.map .int)=some ns:=by
 unfold i5
 induction ns with
 | nil=>rfl
 | cons n ns ih=>rw[ak,cu,ih];rfl
theorem gK:∀{ds:List af} {ns:List Int},i5 ds=some ns->ds=ns.map .int
 | [],ns,h=>by cases h;rfl
 | d::ds,ns,h=>by
  unfold i5 at h;rw[cu] at h
  cases d with
  | int i =>
   cases e:ds.mapM wW with
   | none=>simp[wW,e] at h
   | some ms =>
    simp[wW,e] at h;subst h;rw[gK (ds:=ds) e];rfl
  | _=>simp[wW] at h
theorem hZ:∀{ns:List Int} {xs:List V},dw S H (ns.map .int) xs->xs=ns.map V.int
 | [],_,r=>r.eO
 | n::ns,_,r=>by
  obtain⟨x,t,rfl,r1,r2⟩:=r.of_cons;rw[r1.ee,hZ r2];rfl
noncomputable def insI (a:Int):List Int->List Int | []=>[a] | b::l=>if a<=b then a::b::l else b::insI a l
noncomputable def sortI:List Int->List Int | []=>[] | a::l=>insI a (sortI l)
theorem insI_perm (a:Int):∀l,(insI a l).Perm (a::l)
 | []=>.refl _
 | b::l=>by
  unfold insI;split
  .exact .refl _
  .exact ((insI_perm a l).cons b).trans (.swap a b l)
theorem sortI_perm:∀l,(sortI l).Perm l
 | []=>.refl _
 | a::l=>(insI_perm a (sortI l)).trans ((sortI_perm l).cons a)
theorem o4 (a:Int):∀l:List Int,l.Pairwise (·<=·)->(insI a l).Pairwise (·<=·)
 | [],_=>by simp[insI]
 | b::l,h=>by
  unfold insI;obtain⟨h1,h2⟩:=bP.mp h;split
  .rename_i mR
   exact bP.mpr ⟨λc hc=>by rcases av.mp hc with rfl | hc;exact mR;exact bE mR (h1 c hc),h⟩
  .rename_i mR
   refine bP.mpr ⟨λc hc=>?_,o4 a l h2⟩;rcases av.mp ((insI_perm a l).mem_iff.mp hc) with rfl | hc
   .omega
   .exact h1 c hc
theorem fx:∀l,(sortI l).Pairwise (·<=·)
 | []=>.nil
 | a::l=>o4 a _ (fx l)
theorem ki {l m:List Int}(h:l.Perm m)(hl:l.Pairwise (·<=·))(hm:m.Pairwise (·<=·)):l=m:=h.eq_of_pairwise (λa b _ _ h1 h2=>Int.le_antisymm h1 h2) hl hm
noncomputable def jQ:List Int->List Int | []=>[] | a::l=>if a∈l then jQ l else a::jQ l
theorem iT:∀{l:List Int},k∈jQ l↔k∈l
 | []=>Iff.rfl
 | a::l=>by
  unfold jQ;split
  .rename_i h
   rw[iT,av];exact⟨.inr,λz=>z.elim (λe=>e ▸ h) id⟩
  .rw[av,iT,av]
theorem jn:∀l:List Int,(jQ l).Nodup
 | []=>cQ
 | a::l=>by
  unfold jQ;split
  .exact jn l
  .rename_i h
   exact aZ.mpr ⟨λz=>h (iT.mp z),jn l⟩
noncomputable def yU (l:List Int):List Int:=sortI (jQ l)
theorem kj:k∈yU l↔k∈l:=((sortI_perm _).mem_iff).trans iT
theorem lW (l:List Int):(yU l).Pairwise (· < ·):=ji (fx _) ((sortI_perm _).nodup_iff.mpr (jn l))
theorem qK:∀{l m:List Int},l.Pairwise (· < ·)->m.Pairwise (· < ·)->(∀k,k∈l↔k∈m)->l=m:=λ{l m} hl hm h=>by
 have nl:l.Nodup:=hl.imp λh=>by omega
 have nm:m.Nodup:=hm.imp λh=>by omega
 exact ki ((bQ nl nm).mpr h) (hl.imp λh=>by omega) (hm.imp λh=>by omega)
noncomputable def mB (u:UX):UX:=λenv n Q=>u env n λd n1=>Good d/\Q (.str d.shown) n1
theorem uZ (hr:f6 kk X.A)(hm:X.mg "repr" = none)(h:KE X M e u)(hg:Gl X "repr" := by rfl)(hs:eI e=true:=by rfl):KE X M (.Call (.Name "repr" p) [e] [] pos) (mB u) :=
 .of (gO (yu hr) hg hm (!3) (gC h.run eS hs)) λσ H R env pn S n Q ok hu k=>⟨env,pn,S,n,_,ok,hu,λv H1 d n1 r1 x1 g1 _ q=>⟨S,d,v,rfl,r1,q.1,k _ H1 _ n1 (.str _) x1 g1 q.2⟩⟩
noncomputable def Ls:af->Option Bool | .bool i=>some i | _=>none
noncomputable def Ay (ds:List af):Option (List Bool):=ds.mapM Ls
@[simp] theorem IZ (ns:List Bool):Ay (ns.map .bool)=some ns:=by
 unfold Ay
 induction ns with
 | nil=>rfl
 | cons n ns ih=>rw[ak,cu,ih];rfl
end
theorem nf (i:Nat)(l:List Nat)(h:l.contains i=false:=by rfl):i ∉ l:=λz=>by
 have:l.contains i=true:=List.contains_iff_mem.mpr z;rw[h] at this;cases this
theorem P0 {P:Nat->Prop}:∀j∈([]:List Nat),P j:=λj h=>by cases h
theorem TH {i j:Nat}{mp:List (Option Nat)}(h:mp[j]? = some (some i)):∀j'∈[j],∃i'∈[i],mp[j']? = some (some i'):=λj' hj=>by
 have e:=aq.mp hj;subst e;exact⟨i,aq.mpr rfl,h⟩
noncomputable def Lu (ua ub:UX):eF->Int->(List af->Int->Prop)->Prop:=λenv n Q=>ua env n λx n1=>ub env n1 λy n2=>match x,y with | .list xs,.int k=>(-(2 ^ 63)<=k/\k<2 ^ 63/\xs.length * k.toNat<=aA)/\Q (List.replicate k.toNat xs).flatten n2 | _,_=>False
section
variable {X:Cx}{M:Fr}{e a b:Expr}{u ua ub:UX}{p p2 q2 pos:Pos}
theorem OG (ha:KL X M a ua)(hb:KL X M b ub):KN X M (.BinOp a .Mult b pos) (Lu ua ub) :=
 .of (fq yo ha.run hb.run) λσ H R env pn S n Q ok hu k=>⟨env,pn,S,n,_,ok,hu,λx H1 dx n1 r1 x1 g1 _ q1=>⟨env,pn,S,n1,_,ok.step x1 g1,q1,λy H2 dy n2 r2 x2 g2 sz q=>by
  cases dx with
  | list xs=>cases dy with
   | int kk =>
    obtain⟨l,vs,rfl,hl,rs⟩:=(r1.ext ok.pC x2).eR;exact⟨l,kk,vs,rfl,r2.ee,hl,q.1.1,q.1.2.1,by rw[rs.length];exact q.1.2.2,λp hp=>k p _ _ _ n2 (uY ok (x1.trans x2) g2 hp) dz (((rs.flat _).fresh hp).ext (.new hp)) ((x1.trans x2).trans (.new hp)) (M.iF g2 (.new (S:=[]) hp) (!4)) q.2⟩
   | _=>exact False.elim q
  | _=>cases dy<;>exact False.elim q⟩⟩
end
noncomputable def iA:Int:=1099511627776
noncomputable def gR:UF:=λds n Q _=>match ds with | [.int m]=>(0<m/\m<1073741824/\n<iA)/\∀r:Int,0<=r->r<m->Q (.int r) (n+1) | _=>False
noncomputable def Az (Y:yS):Sp:=λvs H Q _=>∃(fa sa:Addr) (n many:Int),vs=[.ref fa,.int many]/\Y.iG H fa sa n/\0<many/\many<1073741824/\n<iA/\∀(r:Int) (H':Hp),0<=r->r<many->Y.iG H' fa sa (n+1)->Ext [fa] H H'->Q (.int r) H'
noncomputable def pW (Y:yS)(K:W.Frag):Sp:=λvs H Q _=>∃(a:Addr) (ns:List Int),vs=[.ref a]/\gc K H a (ns.map V.int)/\∀(fa sa:Addr) (H':Hp),Y.iG H' fa sa 0->Ext [] H H'->H fa=none->H sa=none->Q (.ref fa) H'
noncomputable def wX (K:W.Frag):Sp:=λvs H Q _=>∃(a:Addr) (ns:List Int),vs=[.ref a]/\gc K H a (ns.map V.int)/\ns.length<=63/\∀H',Q (.bl true) H'
section
variable {P:aV}{w:World}{K:W.Frag}{mg:Str->Option ah}{base:Heap}{f:Addr}{fd:bT}{x:Str}{ps:List Str}{k:Nat}{C:Xc}{u:US}{Y:yS}{st Cs:Stmt}{rest:List Stmt}{N:List Str}{sn:Str}
theorem d4.imp {sp Ni:Sp}(D:d4 P w K mg base k x ps sp)(h:∀vs H Q E,Ni vs H Q E->sp vs H Q E):d4 P w K mg base k x ps Ni:=let ⟨f,fd,F,r⟩:=D.ex;⟨f,fd,F.imp h,r⟩
theorem d4.up {sp:Sp}{k':Nat}(D:d4 P w K mg base k x ps sp)(h:k<=k'):d4 P w K mg base k' x ps sp:=let ⟨f,fd,F,r⟩:=D.ex;⟨f,fd,F.mono h,r⟩
theorem d4.draw (D:d4 P w K mg base k x ps (Az Y)):d4 P w K mg base k x ps (qI Y gR):=D.imp λvs H Q E h=>by
 obtain⟨fa,sa,us,S,ds,n,Qp,rfl,fe,hS,r,has,hF,hq⟩:=h;unfold gR at hF;split at hF
 .rename_i m
  obtain⟨⟨h1,h2,h3⟩,h4⟩:=hF;obtain⟨v,t,rfl,r1,r2⟩:=r.of_cons;cases r2.eO;cases r1.ee;exact⟨fa,sa,n,m,rfl,fe,h1,h2,h3,λr H' r0 r1 U7 x=>hq _ _ _ H' (.int r) U7 x (h4 r r0 r1)⟩
 .exact hF.elim
theorem RN (F:v7 K "law" "law" st f fd)(sc:fg N [sn] (dB st))(hN:2<=N.length)
  (body:∀(fj:ah) (A:Around) (outer:List Env) (s:ax) (H:Hp) (E:XK),f6 k (A.deeper (envOfC "law" (dB st) s.heap.objs.size f fj)) ->
   QS (mI ux P w K mg base N "law" (dB st) f fj A outer s H E).Bg Cs (CJ (qo (pW Y K) (CS (FQ 0) Kb)) (vT 1)) /\
   ∀(fa sa:Addr) (n0:Int) (S:List Addr) (H1:Hp) (hf:Y.iG H1 fa sa n0) (hS:fa∈S) (has:∀a∈S,H1 a≠none),vF (mI ux P w K mg base N "law" (dB st) f fj A outer s H E).Bg (Fr.feed C Y 1 fa sa n0 S H1 hf hS has) rest u)
  (hb:fE st=Cs::rest) (hu:u { nx:=λ_ _=>False,rt:=λd _=>d=.bool true } (List.replicate N.length none) 0):kI P w K mg base ux (k+1) f fd [sn] (wX K):=by
 refine F.K3 sc (λvs H Q E h=>?_) (λfj A outer s H vs Q E hr h=>?_)
 .obtain⟨a,ns,rfl,_⟩:=h
  rfl
 .obtain⟨a,ns,rfl,hs,_,q⟩:=h
  obtain⟨q0,qr⟩:=body fj A outer s H E hr
  have OH:wd (mI ux P w K mg base N "law" (dB st) f fj A outer s H E).Bg rest (λD σ H'=>∃fa sa n0 S H1 hf hS has,Ag (Fr.feed C Y 1 fa sa n0 S H1 hf hS has) u D σ H') :=
   ⟨λpins s σ H D I ⟨fa,sa,n0,S,H1,hf,hS,has,h⟩=>(qr fa sa n0 S H1 hf hS has).run.run pins s σ H D I h⟩
  rw[hb];have F0:start N [V.ref a]=some (.ref a)::List.replicate (N.length - 1) none:=rfl;refine⟨_,eN q0 OH,_,by rw[F0];rfl,a,ns,rfl,hs,λfa sa H1 fe x1 wU WL=>?_⟩;have has:∀b∈[fa],H1 b≠none:=λb hb=>by have e:=aq.mp hb;subst e;exact Y.fa fe
  refine⟨fa,sa,0,[fa],H1,fe,aq.mpr rfl,has,List.replicate N.length none,[],[fa],0,_,⟨λi e he=>?_,λi j ds es b h1=>?_,?_,?_,fe,.refl _ _,λb hb=>hb,λb hb=>.inl hb,has,λp hp=>by cases hp⟩,hu,λ_ _ _ _ _ _ z=>z.elim,λv H' d n' r _ _ e=>?_⟩
  .rw[bX] at he
   split at he<;>cases he
  .rw[bX] at h1
   split at h1<;>cases h1
  .rw[a6,F0,ao,cR,cR]
   omega
  .intro i hi
   have e:i=1:=aq.mp hi;subst e;rw[F0];exact iq (by rw[ao,cR];omega)
  .subst e
   rw[r.kB];exact q H'
end
noncomputable def OI:UF:=λ_ _ _ _=>False
end L2
namespace L2
open PySem
mutual
def Gd (B:Nat):af->Prop
 | .none=>True
 | .bool _=>True
 | .int i=>i.natAbs<=B
 | .str x=>(∀c∈x.cps.toList,c<1114112)/\x.cps.size<=60
 | .tuple ds=>I0 B ds
 | .list ds=>I0 B ds
 | .dict _=>False
def I0 (B:Nat):List af->Prop
 | []=>True
 | d::ds=>Gd B d/\I0 B ds
end
theorem OJ:(10:Nat) ^ 50<2 ^ 1920:=by decide +kernel
mutual
theorem u3:∀d:af,Gd (10 ^ 50) d->d.canLay0=true/\d.showable=true/\d.leavesShort 60=true
 | .none,_=>⟨rfl,rfl,rfl⟩
 | .bool _,_=>⟨rfl,rfl,rfl⟩
 | .int i,g=>by
  simp only[Gd] at g;refine⟨rfl,?_,?_⟩
  .simp only[af.showable,decide_eq_true_eq]
   by_cases h:i.natAbs=0
   .rw[h];decide
   .exact (Nat.log2_lt h).mpr (cz g OJ)
  .simp only[af.leavesShort,decide_eq_true_eq]
   have e:=int_text_length_le10 (k:=51) (!2) (cz g (by decide +kernel:(10:Nat) ^ 50<10 ^ 51));show (Str.ofString (toString i)).length<=60;rw[ofString_length];omega
 | .str x,g=>by
  simp only[Gd] at g;refine⟨?_,rfl,?_⟩
  .show af.strOk x=true
   unfold af.strOk;rw[Array.all_eq_true'];intro c hc;exact decide_eq_true (g.1 c (by simpa using hc))
  .simp only[af.leavesShort,List.all_eq_true,decide_eq_true_eq]
   intro c hc;exact aU (g.1 c hc) (!2)
 | .tuple ds,g=>by simp only[Gd] at g;simpa only [af.canLay0,af.showable,af.leavesShort] using u4 ds g
 | .list ds,g=>by simp only[Gd] at g;simpa only [af.canLay0,af.showable,af.leavesShort] using u4 ds g
 | .dict _,g=>by simp only[Gd] at g
theorem u4:∀ds:List af,I0 (10 ^ 50) ds->af.canLayAll0 ds=true/\af.showableAll ds=true/\af.leavesShortAll 60 ds=true
 | [],_=>⟨rfl,rfl,rfl⟩
 | d::ds,g=>by
  simp only[I0] at g;obtain⟨a1,a2,a3⟩:=u3 d g.1;obtain⟨b1,b2,b3⟩:=u4 ds g.2;simp only[af.canLayAll0,af.showableAll,af.leavesShortAll,a1,a2,a3,b1,b2,b3];exact⟨rfl,rfl,rfl⟩
end
theorem G8 (g:Gd (10 ^ 50) d)(hd:d.depth<=60)(hw:d.weight<=200000):Good d:=⟨(u3 d g).1,(u3 d g).2.1,(u3 d g).2.2,hd,hw⟩
theorem OK (h:i.natAbs<2 ^ k):af.weight (.int i)<=k:=by
 simp only[af.weight];split
 .omega
 .rename_i iW
  have:i.natAbs≠0:=λz=>iW (by simp;omega);have:=(Nat.log2_lt this).mpr h;omega
mutual
def Gq (B L:Nat):af->Prop
 | .none=>True
 | .bool _=>True
 | .int i=>i.natAbs<=B
 | .str x=>(∀c∈x.cps.toList,c<1114112)/\x.cps.size<=L
 | .tuple ds=>AA B L ds
 | .list ds=>AA B L ds
 | .dict _=>False
def AA (B L:Nat):List af->Prop
 | []=>True
 | d::ds=>Gq B L d/\AA B L ds
end
mutual
theorem u5 {B L B' L':Nat}(h:B<=B')(k:L<=L'):∀d:af,Gq B L d->Gq B' L' d
 | .none,_=>by simp[Gq]
 | .bool _,_=>by simp[Gq]
 | .int i,g=>by simp only[Gq] at g ⊢;omega
 | .str x,g=>by simp only[Gq] at g ⊢;exact⟨g.1,!1⟩
 | .tuple ds,g=>by simp only[Gq] at g ⊢;exact nK h k ds g
 | .list ds,g=>by simp only[Gq] at g ⊢;exact nK h k ds g
 | .dict _,g=>by simp only[Gq] at g
theorem nK {B L B' L':Nat}(h:B<=B')(k:L<=L'):∀ds:List af,AA B L ds->AA B' L' ds
 | [],_=>by simp[AA]
 | d::ds,g=>by simp only[AA] at g ⊢;exact⟨u5 h k d g.1,nK h k ds g.2⟩
end
mutual
theorem I8:∀d:af,Gq (10 ^ 50) 60 d->Gd (10 ^ 50) d
 | .none,_=>by simp[Gd]
 | .bool _,_=>by simp[Gd]
 | .int i,g=>by simp only[Gq] at g;simp only[Gd];exact g
 | .str x,g=>by simp only[Gq] at g;simp only[Gd];exact g
 | .tuple ds,g=>by simp only[Gq] at g;simp only[Gd];exact yV ds g
 | .list ds,g=>by simp only[Gq] at g;simp only[Gd];exact yV ds g
 | .dict _,g=>by simp only[Gq] at g
theorem yV:∀ds:List af,AA (10 ^ 50) 60 ds->I0 (10 ^ 50) ds
 | [],_=>by simp[I0]
 | d::ds,g=>by simp only[AA] at g;simp only[I0];exact⟨I8 d g.1,yV ds g.2⟩
end
structure Sz (B L w p:Nat) (d:af):Prop where
 gq:Gq B L d
 wt:d.weight<=w
 dp:d.depth<=p
structure kP (B L w p:Nat) (ds:List af):Prop where
 gq:AA B L ds
 wt:af.weightAll ds<=w
 dp:af.depthAll ds<=p
section
variable {B L B' L' w w' p p':Nat}{d:af}{ds es:List af}
theorem Sz.mono (h:Sz B L w p d)(hB:B<=B')(hL:L<=L')(hw:w<=w')(hp:p<=p'):Sz B' L' w' p' d:=⟨u5 hB hL d h.gq,bu h.wt hw,bu h.dp hp⟩
theorem kP.mono (h:kP B L w p ds)(hB:B<=B')(hL:L<=L')(hw:w<=w')(hp:p<=p'):kP B' L' w' p' ds:=⟨nK hB hL ds h.gq,bu h.wt hw,bu h.dp hp⟩
theorem Sz.gd (h:Sz B L w p d)(hB:B<=10 ^ 50)(hL:L<=60):Gd (10 ^ 50) d:=I8 d (u5 hB hL d h.gq)
theorem Sz.good (h:Sz B L w p d)(hB:B<=10 ^ 50)(hL:L<=60)(hw:w<=200000)(hp:p<=60):Good d:=G8 (h.gd hB hL) (bu h.dp hp) (bu h.wt hw)
mutual
theorem D1:∀d:af,Gq B L d->d.canLay0=true
 | .none,_=>rfl
 | .bool _,_=>rfl
 | .int i,_=>rfl
 | .str x,g=>by
  simp only[Gq] at g;show af.strOk x=true;unfold af.strOk;rw[Array.all_eq_true'];intro c hc;exact decide_eq_true (g.1 c (by simpa using hc))
 | .tuple ds,g=>by simp only[Gq] at g;simpa only [af.canLay0] using u6 ds g
 | .list ds,g=>by simp only[Gq] at g;simpa only [af.canLay0] using u6 ds g
 | .dict _,g=>by simp only[Gq] at g
theorem u6:∀ds:List af,AA B L ds->af.canLayAll0 ds=true
 | [],_=>rfl
 | d::ds,g=>by
  simp only[AA] at g;simp only[af.canLayAll0,D1 d g.1,u6 ds g.2];rfl
end
theorem Sz.lay (h:Sz B L w p d):d.canLay0=true:=D1 d h.gq
theorem kP.nil:kP B L 0 0 []:=⟨by simp[AA],by simp[af.weightAll],by simp[af.depthAll]⟩
theorem kP.cons (h:Sz B L w p d)(t:kP B L w' p' ds):kP B L (w+1+w') (max p p') (d::ds):=by
 refine⟨by simp only[AA];exact⟨h.gq,t.gq⟩,?_,?_⟩
 .simp only[af.weightAll];have:=h.wt;have:=t.wt;omega
 .simp only[af.depthAll];have:=h.dp;have:=t.dp;omega
theorem Sz.tup (h:kP B L w p ds):Sz B L w (p+1) (.tuple ds):=⟨by simp only[Gq];exact h.gq,by simp only[af.weight];exact h.wt,by simp only[af.depth];have:=h.dp;omega⟩
theorem Sz.lst (h:kP B L w p ds):Sz B L w (p+1) (.list ds):=⟨by simp only[Gq];exact h.gq,by simp only[af.weight];exact h.wt,by simp only[af.depth];have:=h.dp;omega⟩
theorem Sz.small (h:i.natAbs<1024)(hB:1023<=B):Sz B L 10 0 (.int i):=⟨by simp only[Gq];omega,OK h,by simp[af.depth]⟩
theorem kP.ints (hB:1023<=B):∀{ns:List Int},(∀i∈ns,i.natAbs<1024)->kP B L (11 * ns.length) 0 (ns.map .int)
 | [],_=>kP.nil
 | n::ns,h=>by
  have t:=kP.ints (ns:=ns) hB λi hi=>h i (ai _ hi);have:=kP.cons (Sz.small (h n (ar ..)) hB) t;rw[ak,ao];exact this.mono (am _) (am _) (!1) (!4)
theorem kP.all:∀{ds:List af},(∀d∈ds,Sz B L w p d)->kP B L ((w+1) * ds.length) p ds
 | [],_=>kP.nil.mono (am _) (am _) (!4) (bF _)
 | d::ds,h=>by
  have t:=kP.all (ds:=ds) λi hi=>h i (ai _ hi);refine (kP.cons (h d (ar ..)) t).mono (am _) (am _) ?_ (!4);rw[ao,Nat.mul_succ];omega
end
section
variable {i j:Int}{ns ms:List Int}{x y:af}
theorem qL (ns:List Int):af.canLayAll0 (ns.map .int)=true:=by
 induction ns with
 | nil=>rfl
 | cons n ns ih=>simpa [af.canLayAll0,af.canLay0] using ih
theorem D2 (ns:List Int):af.depthAll (ns.map .int)=0:=by
 induction ns with
 | nil=>rfl
 | cons n ns ih=>simpa [af.depthAll,af.depth] using ih
theorem wY:∀ns ms:List Int,af.eqvAll (ns.map .int) (ms.map .int)=decide (ns=ms)
 | [],[]=>rfl
 | [],m::ms=>rfl
 | n::ns,[]=>rfl
 | n::ns,m::ms=>by
  simp only[ak,af.eqvAll,af.eqv,wY ns ms,List.cons.injEq];by_cases h:n=m<;>simp[h]
theorem Lv (hx:x.canLay0=true)(hy:y.canLay0=true)(hd:x.depth<=60):DD x y=some (.bool (af.eqv x y)):=if_pos ⟨hx,hy,hd⟩
theorem u7 (hx:x.canLay0=true)(hy:y.canLay0=true)(hd:x.depth<=60):wG x y=some (.bool (!PyData.eqv x y)):=if_pos ⟨hx,hy,hd⟩
theorem lX:DD (.int i) (.int j)=some (.bool (decide (i=j))):=by
 rw[Lv rfl rfl (by simp[af.depth])];simp only[af.eqv];congr
theorem G9:wG (.int i) (.int j)=some (.bool (!decide (i=j))):=by
 rw[u7 rfl rfl (by simp[af.depth])];simp only[af.eqv];congr
theorem wZ:wG (.bool a) (.bool b)=some (.bool (!(a == b))):=by
 rw[u7 rfl rfl (by simp[af.depth])];simp only[af.eqv]
theorem BO:wG (.tuple (ns.map .int)) (.tuple (ms.map .int))=some (.bool (!decide (ns=ms))):=by
 rw[u7 (show af.canLay0 (.tuple _)=true from qL ns) (show af.canLay0 (.tuple _)=true from qL ms) (by simp[af.depth,D2])];simp only[af.eqv,wY]
theorem any_ints (i:Int)(ns:List Int):((ns.map af.int).any λd=>af.eqv d (.int i))=decide (i∈ns):=by
 induction ns with
 | nil=>rfl
 | cons n ns ih =>
  rw[ak,ce,ih];simp only[af.eqv,av];by_cases h:n=i
  .simp[h]
  .have h':¬ i=n:=λz=>h z.symm
   simp[h,h']
theorem D3:IF (.int i) (ns.map .int)=some (decide (i∈ns)):=by
 unfold IF;rw[if_pos ⟨rfl,qL ns,by simp[af.depth]⟩,any_ints]
theorem qM:DE (.int i) (.tuple (ns.map .int))=some (.bool (!decide (i∈ns))):=by simp only[DE,D3,bS]
end
section
variable {α:Type}
theorem mS (h0:0<=i)(h1:i<xs.length):oX xs i=xs[i.toNat]? := by
 unfold oX Co;rw[if_pos h0,if_pos h1];rfl
theorem gS (a:α)(l:List α):oX (a::l) 0=some a:=by rw[mS (!2) (by simp only[ao];omega)];rfl
theorem kF (a b:α)(l:List α):oX (a::b::l) 1=some b:=by rw[mS (!2) (by simp only[ao];omega)];rfl
theorem D4 (a b c:α)(l:List α):oX (a::b::c::l) 2=some c:=by rw[mS (!2) (by simp only[ao];omega)];rfl
theorem G' (h:xs.getLast? = some x):oX xs (-1)=some x:=by
 have hl:0<xs.length:=by
  cases xs with
  | nil=>cases h
  | cons a l=>simp
 unfold oX Co;rw[if_neg (!2),if_pos (!1)];show xs[(-1+(xs.length:Int)).toNat]? = some x;rw[show (-1+(xs.length:Int)).toNat=xs.length - 1 by omega,<- List.getLast?_eq_getElem?];exact h
theorem D5 (xs:List α)(x:α):oX (xs++[x]) (-1)=some x:=G' (!4)
theorem D6 {xs:List α}{i:Int}(h0:0<=i)(h1:i<xs.length):∃x,oX xs i=some x/\x∈xs:=by
 have:i.toNat<xs.length:=by omega
 exact⟨xs[i.toNat],by rw[mS h0 h1];simp[this],bY _⟩
theorem AB (xs:List α)(k:Int)(h:0<=k):oo xs none (some k)=xs.take k.toNat:=by
 unfold oo;rw[show k=((k.toNat:Nat):Int) by omega,HT.pP,HT.nv];simp only[List.drop_zero,Nat.sub_zero,bU];by_cases hc:k.toNat<=xs.length
 .rw[Nat.min_eq_left hc]
 .rw[Nat.min_eq_right (!1),bJ (am _),bJ (!1)]
theorem BP (xs:List α)(k:Int)(h:0<=k):oo xs (some k) none=xs.drop k.toNat:=by
 unfold oo;rw[show k=((k.toNat:Nat):Int) by omega,HT.pP,HT.nv];simp only[bU];by_cases hc:k.toNat<=xs.length
 .rw[Nat.min_eq_left hc,bJ (by rw[List.length_drop];exact am _)]
 .rw[Nat.min_eq_right (!1),bI (am _),bI (!1)]
  simp
end
theorem fC:fh (.tuple ds) (.int i)=oX ds i:=rfl
theorem w4:fh (.list ds) (.int i)=oX ds i:=rfl
theorem iu (h0:0<m)(h1:m<1073741824)(h2:n<iA)(h:∀r:Int,0<=r->r<m->Q (.int r) (n+1)):gR [.int m] n Q X:=⟨⟨h0,h1,h2⟩,h⟩
section
variable {i j:Nat}{ue:UX}{uc:UT}{Q:List af->Int->Prop}{env:eF}
theorem o5 (f:af->af)(p:af->Bool):∀(its acc:List af) (n:Int) (env:eF),(∀d∈its,∀n Q,ue (env.set i (some (.s d))) n Q=Q (f d) n)->(∀d∈its,∀n Q,uc (env.set i (some (.s d))) n Q=Q (p d) n)->fY (gj i) uc ue Q its acc env n=Q (acc++(its.filter p).map f) n
 | [],acc,n,env,_,_=>by simp[fY]
 | d::ds,acc,n,env,h,k=>by
  have ih:=λacc=>o5 f p ds acc n (env.set i (some (.s d))) (λe he n Q=>by rw[dq];exact h e (ai _ he) n Q) (λe he n Q=>by rw[dq];exact k e (ai _ he) n Q);simp only[fY,gj,k d (ar ..),h d (ar ..),ih]
  cases hp:p d with
  | true=>simp[hp]
  | false=>simp[hp]
end
theorem jR (Inv:List af->List af->eF->Int->Prop) :
  ∀(its pre:List af) (env:eF) (n:Int),(∀pre d post env n (E':jj),E'.rt=E.rt->Inv pre (d::post) env n->(∀dZ n',Inv (pre++[d]) post dZ n'->E'.nx dZ n')->ug d env λDT=>ub E' DT n)->Inv pre its env n->(∀pre env n,Inv pre [] env n->E.nx env n)->g7 ug ub E its env n
 | [],pre,env,n,_,h0,hd=>hd pre env n h0
 | d::ds,pre,env,n,hb,h0,hd=>hb pre d ds env n { nx:=g7 ug ub E ds,rt:=E.rt } rfl h0 λdZ n' h'=>jR Inv ds (pre++[d]) dZ n' hb h' hd
theorem nL (h:yf i j):uO (.int i) (.int j)=some (.int (i * j)):=if_pos h
theorem D7:uO (.int c) (.int (if b=true then 1 else 0))=some (.int (if b=true then c else 0)):=by
 cases b with
 | true=>rw[if_pos rfl,if_pos rfl,nL (.inr ⟨!2,!2⟩),Int.mul_one]
 | false=>rw[if_neg (!2),if_neg (!2),nL (.inr ⟨!2,!2⟩),Int.mul_zero]
theorem D8 (h:xs.length+ys.length<=16777216):gZ (.tuple xs) (.tuple ys)=some (.tuple (xs++ys)):=if_pos (by rw[show aA=16777216 by decide];exact h)
theorem Lw (h:xs.length+ys.length<=16777216):gZ (.list xs) (.list ys)=some (.list (xs++ys)):=if_pos (by rw[show aA=16777216 by decide];exact h)
theorem i6 (h:ds.length<16777216):ir ds [d]=some (ds++[d]):=if_pos (by rw[show aA=16777216 by decide];exact h)
theorem Ha (h:0<j):GX (.int i) (.int j)=some (.int (i % j)):=if_pos h
noncomputable def fc (lo:Int)(n:Nat):List Int:=(List.range n).map λ(k:Nat)=>lo+(k:Int)
theorem kl (lo:Int)(n:Nat):nJ lo n=(fc lo n).map .int:=by unfold nJ fc;rw[bA];rfl
theorem gg:i∈fc lo n↔lo<=i/\i<lo+n:=by
 unfold fc;rw[aQ];constructor
 .rintro⟨k,hk,rfl⟩
  have:=List.mem_range.mp hk;omega
 .intro h
  exact⟨(i - lo).toNat,List.mem_range.mpr (!1),!1⟩
theorem fy (lo:Int)(n:Nat):(fc lo n).length=n:=by simp[fc]
theorem w5 (p:af->Bool)(ns:List Int):(ns.map af.int).filter p=(ns.filter λi=>p (.int i)).map .int:=by rw[List.filter_map];rfl
theorem D9 (f:af->af)(ns:List Int):(ns.map af.int).map f=ns.map λi=>f (.int i):=by rw[bA];rfl
section
variable {ns:List Int}
theorem w6:wG (.tuple (ns.map .int)) (.tuple [])=some (.bool (!decide (ns=[]))):=BO (ms:=[])
end
theorem ox (f:Int->af)(p:Int->Bool)(ns:List Int)(acc:List af)(n:Int)(env:eF)(h:∀k∈ns,∀n Q,ue (env.set i (some (.s (.int k)))) n Q=Q (f k) n)(hp:∀k∈ns,∀n Q,uc (env.set i (some (.s (.int k)))) n Q=Q (p k) n) :
  fY (gj i) uc ue Q (ns.map .int) acc env n=Q (acc++(ns.filter p).map f) n:=by
 rw[o5 (λd=>match d with | .int k=>f k | _=>.none) (λd=>match d with | .int k=>p k | _=>false) _ _ _ _ (λd hd n Q=>?_) (λd hd n Q=>?_),w5,D9]
 .obtain⟨k,hk,rfl⟩:=aQ.mp hd
  exact h k hk n Q
 .obtain⟨k,hk,rfl⟩:=aQ.mp hd
  exact hp k hk n Q
noncomputable def yW (x y:af):Option af:=match x,y with | .str a,.str b=>some (.bool (!decide (a=b))) | _,_=>none
noncomputable def D' (x y:af):Option af:=match x,y with | .str a,.str b=>some (.bool (decide (a=b))) | _,_=>none
theorem w9:decide (V.str a=V.str b)=decide (a=b):=by
 rw[decide_eq_decide];exact⟨λh=>by cases h;rfl,λh=>by rw[h]⟩
theorem eQ.pX (r:eQ gs S H (.str x) v):v=.str x:=by
 rcases r with r | ⟨ds,a,xs,h,_⟩ | ⟨t,kvs,a,xs,h,_⟩
 .exact r.jx
 .cases h
 .cases h
section
theorem OL:vG X (compareOp .NotEq) yW:=⟨_,Nc,λgs S H dx dy x y d R _ _ r1 r2 e k=>by
 unfold yW at e;split at e
 .rename_i a b
  cases e;have e1:=r1.pX;have e2:=r2.pX;subst e1 e2;refine⟨rfl,?_⟩;rw[w9];exact k _ H (.bl _) (.refl _ _)
 .cases e⟩
theorem OM:vG X (compareOp .Eq) D':=⟨_,Nb,λgs S H dx dy x y d R _ _ r1 r2 e k=>by
 unfold D' at e;split at e
 .rename_i a b
  cases e;have e1:=r1.pX;have e2:=r2.pX;subst e1 e2;refine⟨rfl,?_⟩;rw[w9];exact k _ H (.bl _) (.refl _ _)
 .cases e⟩
end
end L2
namespace L2
open PySem PySem.Spec PyProof.Rows
noncomputable def RO (x:af):Prop:=match x with | .tuple _=>True | .list _=>True | _=>False
theorem Hb {α:Type}{us:List α}{n:Nat}(h:us.length=n+1):∃a r,us=a::r/\r.length=n:=by
 cases us with
 | nil=>cases h
 | cons a r=>exact⟨a,r,rfl,Nat.succ.inj h⟩
theorem Ea {α:Type}{us:List α}(h:us.length=1):∃a,us=[a]:=by
 obtain⟨a,r,rfl,k⟩:=Hb (n:=0) h;rw[cW k];exact⟨_,rfl⟩
theorem BQ {α:Type}{us:List α}(h:us.length=2):∃a b,us=[a,b]:=by
 obtain⟨a,r,rfl,k⟩:=Hb (n:=1) h;obtain⟨b,rfl⟩:=Ea k;exact⟨_,_,rfl⟩
theorem Eb {α:Type}{us:List α}(h:us.length=3):∃a b c,us=[a,b,c]:=by
 obtain⟨a,r,rfl,k⟩:=Hb (n:=2) h;obtain⟨b,c,rfl⟩:=BQ k;exact⟨_,_,_,rfl⟩
theorem ON {α:Type}{us:List α}(h:us.length=4):∃a b c d,us=[a,b,c,d]:=by
 obtain⟨a,r,rfl,k⟩:=Hb (n:=3) h;obtain⟨b,c,d,rfl⟩:=Eb k;exact⟨_,_,_,_,rfl⟩
section
theorem o6 (ht:s.heap.IsTuple t vs.toArray)(hsz:vs.length<=1000)
  (h:∀h1:Heap,(∀b o,s.heap.get? b=some o->h1.get? b=some o)->Q vs { s with heap:=h1 }):aG (model prog w) A (collect (.ref t)) Q E s:=by
 obtain⟨o,ho,hc,n,hd⟩:=id ht;have h6:aA=16777216:=by decide
 (unfold collect;refine ag (wpAny_runValue (codeAny_builtin entry_proto_collect' ?_)))
 show aG _ _ (newList [] >>= λz=>again (.builtin "list.__iadd__" ⟨[z,.ref t],[]⟩)) _ _ s;refine ag (wpAny_newList (ap ⟨Code.quiet_builtin _ (!3),codeAny_builtin entry_list_iadd' (?_:aG _ _ _ _ _ _)⟩));show aG _ _ (Builtin.List.listExtendWith (.ref s.heap.objs.size) (.ref t) (.ref s.heap.objs.size)) _ _ { s with heap:=s.heap.push (seqObj "list" #[] 0) };have g:(s.heap.push (seqObj "list" #[] 0)).get? t=some o:=aj _ ho
 (unfold Builtin.List.listExtendWith;refine ag (wpAny_typeOf (T := "tuple") ⟨o,g,hc⟩ ?_))
 rw[if_pos (!4)];refine ag (listItems_at g hd (ag (listItems_at (xs:=#[]) (n:=0) (aB _ rfl) rfl ?_)));rw[if_neg (!4)];refine ag (listUpdate_at (xs:=#[]) (n:=0) (aB _ rfl) rfl (ap ?_) (bF _) (by show (#[]++vs.toArray).size<=aA+1;simp only[Array.size_append,aC,bn];omega));show aG (model prog w) A (load s.heap.objs.size >>= _) Q E { s with heap:=(s.heap.push (seqObj "list" #[] 0)).update s.heap.objs.size (Obj.mapSeq (·++vs.toArray)) };refine ag (wpAny_load (get?_update_seq (aB _ rfl) _) ?_);show aG _ _ (pure ((#[]:Array ah)++vs.toArray).toList) Q E _;rw[show ((#[]:Array ah)++vs.toArray).toList=vs by simp];refine ap (h _ λb ob e=>?_);rw[aJ _ _ (cc (aI e))];exact aj _ e
end
section
theorem u9 (K:W.Frag)(hk:X.K=K:=by rfl):fP X (.builtin "sorted") (λxs H Q=>∃(p:Addr) (ns:List Int),xs=[.ref p]/\iz K H p (ns.map V.int)/\ns.length<64 /\
  ∀(l:Addr) (ms:List Int),ms.Perm ns->ms.Pairwise (·<=·)->H l=none->Q (.ref l) (eg H l (.lst (ms.map V.int)))):=by
 subst hk;intro pins s σ H xs us Q I r h;obtain⟨p,ns,rfl,hp,PQ,q⟩:=h;obtain⟨u,rfl,ru⟩:=vals1 r;cases ru;obtain⟨its,rv,ht,hz⟩:=I.tuple hp;have hI:IntsAre its ns:=IntsAre.uJ rv;have U8:its.length<64:=by rw[IntsAre.length hI];exact PQ
 refine Calls.call_function_entry kind_sorted plain_sorted entry_sorted (args_sorted1 _) ?_
 (unfold Builtin.«sorted»;refine ag (m:=checkCount "sorted" 1 1 _) (ap ?_))
 refine ag (o6 (A:=X.A.in1) (show s.heap.IsTuple p its.toArray from ht) (!1) λh1 Lx=>?_);refine ag (wpAny_newList ?_);have FP:(h1.push (seqObj "list" its.toArray 0)).get? h1.objs.size=some (seqObj "list" its.toArray 0):=aB _ rfl;show aG _ _ _ _ _ { s with heap:=h1.push (seqObj "list" its.toArray 0) };refine ag (wpAny_holding (wpAny_call_entry slot_list_sort ⟨_,FP,rfl⟩ entry_list_sort (list_sort_tree FP hI U8 λout P1 a1 a2 a3=>⟨_,rfl,?_⟩) (args_list_sort _)));refine ap ⟨_,rfl,?_⟩;have hm:=a2.length_eq;have hv:dW (P1.map V.int) out.toList:=dW.uK a1;have hsz:(P1.map V.int).length<=aA:=by rw[au,show aA=16777216 by decide];omega
 have I1:Inv X pins σ H { s with heap:=h1 }:=I.kept (t':=s.toks) Lx
 have Lb:∀b ob,h1.get? b=some ob->(sortedHeap (h1.push (seqObj "list" its.toArray 0)) h1.objs.size its out).get? b=some ob:=by
  intro b ob e;have hb:h1.objs.size≠b:=cc (aI e);unfold sortedHeap;rw[aJ _ _ hb];refine aj _ (aj _ ?_);rw[aJ _ _ hb];exact aj _ e
 have nw:∃n,(sortedHeap (h1.push (seqObj "list" its.toArray 0)) h1.objs.size its out).get? h1.objs.size=some { cls:=.type "list",data:=.seq out n }:=by
  have g2:=bj (Obj.mapSeq λ_=>(#[]:Array ah)) FP rfl;have g3:=aj (seqObj "list" #[] 0) (aj (seqObj "tuple" its.toArray 0) g2);exact⟨_,bj (Obj.mapSeq λ_=>out) g3 rfl⟩
 obtain⟨n,nw⟩:=nw;exact⟨.ref h1.objs.size,_,I1.laid (t':=s.toks) (o:=.lst (P1.map V.int)) Lb (am _) ⟨hsz,out.toList,n,hv,by simpa using nw⟩,rfl,q _ P1 a2 a3 (I1.eD.fresh (am _))⟩
end
noncomputable def AD (u:UX):eF->Int->(List af->Int->Prop)->Prop:=λenv n Q=>u env n λd n1=>kK (mN d) λds=>kK (i5 ds) λns=>ns.length<64/\Q ((sortI ns).map .int) n1
section
theorem AE (hm:X.mg "sorted" = none)(h:KL X M e u)(hg:Gl X "sorted" := by rfl)(hs:eI e=true:=by rfl):KN X M (.Call (.Name "sorted" p) [e] [] pos) (AD u) :=
 .of (gO (show fP X (.builtin "sorted") _ from λpins s σ H xs us Q I r (hh:(∃(p:Addr) (ns:List Int),xs=[.ref p]/\(gc X.K H p (ns.map V.int)\/iz X.K H p (ns.map V.int))/\ns.length<64/\∀(l:Addr) (ms:List Int),ms.Perm ns->ms.Pairwise (·<=·)->H l=none->Q (.ref l) (eg H l (.lst (ms.map V.int)))))=>by
  obtain⟨p,ns,e1,sq,rest⟩:=hh;rcases sq with sq | sq
  .exact kc X.K rfl pins s σ H xs us Q I r ⟨p,ns,e1,sq,rest⟩
  .exact u9 X.K rfl pins s σ H xs us Q I r ⟨p,ns,e1,sq,rest⟩) hg hm (!3) (gC h.run eS hs)) λσ H R env pn S n Q ok hu k=>⟨env,pn,S,n,_,ok,hu,λv H1 d n1 r1 x1 g1 _ q=>by
  obtain⟨ds,es,ns,ei,hl,q⟩:=q;have e2:=gK ei;subst e2
  have fin:∀(l:Addr) (ms:List Int),ms.Perm ns->ms.Pairwise (·<=·)->H1 l=none->R (.ref l) (eg H1 l (.lst (ms.map V.int))):=λl ms pm ps hl=>by
   have em:ms=sortI ns:=ki (pm.trans (sortI_perm ns).symm) ps (fx ns);subst em;exact k l _ _ _ n1 (uY ok x1 g1 hl) dz (.ints _) (x1.trans (.new hl)) (M.iF g1 (.new (S:=[]) hl) (!4)) q
  cases d with
  | list xs =>
   cases es;obtain⟨a,xs,rfl,sq,_,rs⟩:=r1.II (K:=X.K);rw[hZ rs] at sq;exact⟨a,ns,rfl,.inl sq,hl,fin⟩
  | tuple xs =>
   cases es;obtain⟨a,xs,rfl,sq,_,rs⟩:=r1.IH (K:=X.K);rw[hZ rs] at sq;exact⟨a,ns,rfl,.inr sq,hl,fin⟩
  | _=>cases es⟩
end
noncomputable abbrev Cx.low (X:Cx):Cx:={ X with calm:=false,xe:=λ_ _=>False }
noncomputable abbrev g6 (h0 h1:Heap):Prop:=∀b o,h0.get? b=some o->h1.get? b=some o
noncomputable def tp (prog:aV)(w:World)(A:Around)(h0:Heap)(op:CmpOp)(P:Nat->ah->Prop)(bt:Nat->Nat->Bool):Prop :=
 ∀i j u v (s:ax) (Q:ah->ax->Prop) (E:ah->ax->Prop),g6 h0 s.heap->P i u->P j v->Q (.bool (bt i j)) s->aG (model prog w) A (richCompare op u v) Q E s
section
variable {prog:aV}{w:World}{A:Around}{E:ah->ax->Prop}{s:ax}{R:Result->ax->Prop}{it:Addr}{fp wr:List Addr}{n:Nat}{P:Nat->ah->Prop}{St:Nat->Heap->Prop}
theorem Ec {h0:Heap}{kw:List (Str × ah)}(W:Walks prog w A.in1 it fp wr n P St)(nw:∀b∈wr,h0.get? b=none)(bt:Nat->Nat->Bool)(cmp:tp prog w A.in1 h0 .Lt P bt)(z:Addr)(zf:z ∉ fp)(z0:h0.get? z=none) :
  ∀(m j:Nat) (s:ax) (b:ah) (c:Nat),n=j+1+m->St (j+1) s.heap->P (argBest bt j) b->s.heap.get? z=some { cls:=.type "list",dict:=none,data:=.seq #[b,b] c,slots:=#[] }->g6 h0 s.heap ->
  (∀v hh tk,P (argBest bt (n - 1)) v->g6 h0 hh->R (.ok (.ret v)) { s with heap:=hh,toks:=tk })->codeAny (model prog w) A (.builtin "min.loop" ⟨[.ref it,.none,.ref z],kw⟩) R s:=by
 have zw:z ∉ wr:=λy=>zf (W.sub _ y);have nm:(toString "min" ++ toString ".loop" : String) = "min.loop" := by decide
 have Ed:∀{hh:Heap} {f:Obj->Obj},g6 h0 hh->g6 h0 (hh.update z f):=λ{hh f} k x o e=>(aJ _ _ (λq:z=x=>by rw[<- q,z0] at e;cases e)).trans (k x o e);intro m
 induction m with
 | zero =>
  intro j s b c en st pb gz kp fin;refine codeAny_builtin F.entry_min_loop ?_;rw[Around.under_plainId F.plain_min_loop _];refine ag (m:=seqItems? (.ref z)) (wpAny_seqItems gz rfl ?_);refine ag (m:=tryCatch (pyNext (.ref it)) _) (wpAny_tryCatch (W.done s _ _ (by rw[en];exact st) λh1 t1 k1=>?_));have k2:g6 h0 h1:=λx o e=>k1 x o (λy=>by rw[nw x y] at e;cases e) (kp x o e);refine ag (m:=updateSeq z λ_=>#[]) (wpAny_updateSeq (k1 z _ zw gz) rfl (ag (wpAny_letGo (ap (fin b _ t1 (by rw[en];exact pb) (Ed k2))))))
 | succ m ih =>
  intro j s b c en st pb gz kp fin;refine codeAny_builtin F.entry_min_loop ?_;rw[Around.under_plainId F.plain_min_loop _];refine ag (m:=seqItems? (.ref z)) (wpAny_seqItems gz rfl ?_);refine ag (m:=tryCatch (pyNext (.ref it)) _) (wpAny_tryCatch (W.item (j+1) s _ _ (!1) st λv h1 t1 pv OO k1=>?_));have k2:g6 h0 h1:=λx o e=>k1 x o (λy=>by rw[nw x y] at e;cases e) (kp x o e);have g1:=k1 z _ zw gz;refine ag (m:=tryCatch (holding [v,v] (richCompare .Lt v b >>= _)) _) (wpAny_tryCatch (wpAny_holding (ag (cmp (j+1) (argBest bt j) v b _ _ _ k2 pv pb (ag (wpAny_holding (wpAny_truthy_bool (ag (wpAny_letGo (ap ?_))))))))))
  cases eb:bt (j+1) (argBest bt j) with
  | true =>
   rw[if_pos rfl];refine ag (wpAny_updateSeq g1 rfl (ag (wpAny_letGo ?_)));rw[nm];exact ap ⟨plainId_quiet F.plain_min_loop _,ih (j+1) _ v _ (!1) (W.frame _ _ _ OO λx xf o e=>(aJ _ _ (λq:z=x=>zf (by rw[q];exact xf))).trans e) (by simp only[argBest,eb,if_true];exact pv) (bj _ g1 rfl) (Ed k2) λv' h2 t2 p2 k3=>fin v' h2 t2 p2 k3⟩
  | false =>
   rw[if_neg (!2)];refine ag (wpAny_letGo ?_);rw[nm];exact ap ⟨plainId_quiet F.plain_min_loop _,ih (j+1) _ b c (!1) OO (by simp only[argBest,eb,bK,if_false];exact pb) g1 k2 λv' h2 t2 p2 k3=>fin v' h2 t2 p2 k3⟩
theorem Ly {l:Addr}{vs:Array ah}{bt:Nat->Nat->Bool}{Q:ah->ax->Prop}(hh:A.handled=none)(gl:s.heap.IsList l vs)(ne:0<vs.size)(cmp:tp prog w A.in1 s.heap .Lt (λi v=>vs[i]? = some v) bt)
  (fin:∀v h1 tk,vs[argBest bt (vs.size - 1)]? = some v->g6 s.heap h1->Q v { s with heap:=h1,toks:=tk }):aG (model prog w) A (call (.builtin "min") [.ref l]) Q E s:=by
 have nm:(toString "min" ++ toString ".loop" : String) = "min.loop" := by decide
 have ll:l<s.heap.objs.size:=let ⟨_,e,_⟩:=gl;aI e;refine call_function_tree F.kind_min F.plain_min F.entry_min (F.args_min1 _) ?_;refine ag (m:=Builtin.Builtins.bindParams "min" ["key", "default"] 0 ⟨[],[]⟩) (wpAny_of_eq (show _=pure [none,none] from rfl) (ag (ap (ag ?_))));refine wpAny_pyIter_list gl (ag (bh ?_));rw[nm];have W:=Walks.list (prog:=prog) (w:=w) (A:=A.in1) hh s.heap.objs.size l (bp ll) vs;have no:∀k,s.heap.get? (s.heap.objs.size+k)=none:=λk=>by simp[Heap.get?]
 have gi:(s.heap.push { cls:=.type "list_iterator",data:=.fields #[.ref l,.int 0 0] }).IsListIter s.heap.objs.size l 0:=⟨_,aB _ rfl,rfl,rfl⟩;have sz:(s.heap.push { cls:=.type "list_iterator",data:=.fields #[.ref l,.int 0 0] }).objs.size=s.heap.objs.size+1:=cf ..;have nM:g6 s.heap (s.heap.push { cls:=.type "list_iterator",data:=.fields #[.ref l,.int 0 0] }):=λb o e=>aj _ e;have Cs:(s.heap.push { cls:=.type "list_iterator",data:=.fields #[.ref l,.int 0 0] }).IsList l vs:=gl.push _;show aG _ _ _ _ _ { s with heap:=(s.heap.push { cls:=.type "list_iterator",data:=.fields #[.ref l,.int 0 0] }).push { cls:=.type "list",data:=.seq #[] 0 } };generalize s.heap.push { cls:=.type "list_iterator",data:=.fields #[.ref l,.int 0 0] }=h1 at gi sz nM Cs ⊢;have gz:(h1.push { cls:=.type "list",data:=.seq #[] 0 }).get? h1.objs.size=some { cls:=.type "list",data:=.seq #[] 0 }:=aB _ rfl;have mD:g6 h1 (h1.push { cls:=.type "list",data:=.seq #[] 0 }):=λb o e=>aj _ e
 have zf:h1.objs.size ∉ [s.heap.objs.size,l]:=by
  rw[sz];simp only[av,cv,or_false,not_or];exact⟨cT _,cc (cP ll)⟩
 have zw:h1.objs.size ∉ [s.heap.objs.size]:=λy=>zf (W.sub _ y);refine ap ⟨plainId_quiet F.plain_min_loop _,codeAny_builtin F.entry_min_loop ?_⟩;rw[Around.under_plainId F.plain_min_loop _];refine ag (m:=seqItems? (.ref h1.objs.size)) (wpAny_seqItems gz rfl ?_);refine ag (m:=tryCatch (pyNext (.ref s.heap.objs.size)) _) (wpAny_tryCatch (W.item 0 _ _ _ ne (W.frame _ _ _ ⟨gi,Cs⟩ λb _ o e=>mD b o e) λv h3 t3 pv ye k3=>?_));have g3:=k3 _ _ zw gz;have qN:g6 s.heap h3:=λb o e=>k3 b o (λy=>by rw[aq.mp y,<- cq s.heap.objs.size,no] at e;cases e) (mD b o (nM b o e));refine ag (m:=updateSeq h1.objs.size λ_=>#[v,v]) (wpAny_updateSeq g3 rfl ?_);rw[nm];refine ap ⟨plainId_quiet F.plain_min_loop _,Ec W (λb hb=>by rw[aq.mp hb,<- cq s.heap.objs.size];exact no 0) bt cmp h1.objs.size zf (by rw[sz];exact no 1) (vs.size - 1) 0 _ v _ (!1) (W.frame _ _ _ ye λx xf o e=>(aJ _ _ (λq:h1.objs.size=x=>zf (by rw[q];exact xf))).trans e) pv (bj _ g3 rfl) (λx o e=>(aJ _ _ (λq:h1.objs.size=x=>by rw[<- q,sz,no] at e;cases e)).trans (qN x o e)) λv' h4 t4 p4 k4=>fin v' h4 t4 p4 k4⟩
theorem Lz {h0:Heap}(W:Walks prog w A.in1 it fp wr n P St)(nw:∀b∈wr,h0.get? b=none)(bt:Nat->Nat->Bool)(cmp:tp prog w A.in1 h0 .Gt P bt)(z:Addr)(zf:z ∉ fp)(z0:h0.get? z=none) :
  ∀(m j:Nat) (s:ax) (b:ah) (c:Nat),n=j+1+m->St (j+1) s.heap->P (argBest bt j) b->s.heap.get? z=some { cls:=.type "list",dict:=none,data:=.seq #[b,b] c,slots:=#[] }->g6 h0 s.heap ->
  (∀v hh tk,P (argBest bt (n - 1)) v->g6 h0 hh->R (.ok (.ret v)) { s with heap:=hh,toks:=tk })->codeAny (model prog w) A (.builtin "max.loop" ⟨[.ref it,.none,.ref z],[]⟩) R s:=by
 have zw:z ∉ wr:=λy=>zf (W.sub _ y);have nm:(toString "max" ++ toString ".loop" : String) = "max.loop" := by decide
 have Ed:∀{hh:Heap} {f:Obj->Obj},g6 h0 hh->g6 h0 (hh.update z f):=λ{hh f} k x o e=>(aJ _ _ (λq:z=x=>by rw[<- q,z0] at e;cases e)).trans (k x o e);intro m
 induction m with
 | zero =>
  intro j s b c en st pb gz kp fin;refine codeAny_builtin F.entry_max_loop ?_;rw[Around.under_plainId F.plain_max_loop _];refine ag (m:=seqItems? (.ref z)) (wpAny_seqItems gz rfl ?_);refine ag (m:=tryCatch (pyNext (.ref it)) _) (wpAny_tryCatch (W.done s _ _ (by rw[en];exact st) λh1 t1 k1=>?_));have k2:g6 h0 h1:=λx o e=>k1 x o (λy=>by rw[nw x y] at e;cases e) (kp x o e);refine ag (m:=updateSeq z λ_=>#[]) (wpAny_updateSeq (k1 z _ zw gz) rfl (ag (wpAny_letGo (ap (fin b _ t1 (by rw[en];exact pb) (Ed k2))))))
 | succ m ih =>
  intro j s b c en st pb gz kp fin;refine codeAny_builtin F.entry_max_loop ?_;rw[Around.under_plainId F.plain_max_loop _];refine ag (m:=seqItems? (.ref z)) (wpAny_seqItems gz rfl ?_);refine ag (m:=tryCatch (pyNext (.ref it)) _) (wpAny_tryCatch (W.item (j+1) s _ _ (!1) st λv h1 t1 pv OO k1=>?_));have k2:g6 h0 h1:=λx o e=>k1 x o (λy=>by rw[nw x y] at e;cases e) (kp x o e);have g1:=k1 z _ zw gz;refine ag (m:=tryCatch (holding [v,v] (richCompare .Gt v b >>= _)) _) (wpAny_tryCatch (wpAny_holding (ag (cmp (j+1) (argBest bt j) v b _ _ _ k2 pv pb (ag (wpAny_holding (wpAny_truthy_bool (ag (wpAny_letGo (ap ?_))))))))))
  cases eb:bt (j+1) (argBest bt j) with
  | true =>
   rw[if_pos rfl];refine ag (wpAny_updateSeq g1 rfl (ag (wpAny_letGo ?_)));rw[nm];exact ap ⟨plainId_quiet F.plain_max_loop _,ih (j+1) _ v _ (!1) (W.frame _ _ _ OO λx xf o e=>(aJ _ _ (λq:z=x=>zf (by rw[q];exact xf))).trans e) (by simp only[argBest,eb,if_true];exact pv) (bj _ g1 rfl) (Ed k2) λv' h2 t2 p2 k3=>fin v' h2 t2 p2 k3⟩
  | false =>
   rw[if_neg (!2)];refine ag (wpAny_letGo ?_);rw[nm];exact ap ⟨plainId_quiet F.plain_max_loop _,ih (j+1) _ b c (!1) OO (by simp only[argBest,eb,bK,if_false];exact pb) g1 k2 λv' h2 t2 p2 k3=>fin v' h2 t2 p2 k3⟩
theorem LA {l:Addr}{vs:Array ah}{bt:Nat->Nat->Bool}{Q:ah->ax->Prop}(hh:A.handled=none)(gl:s.heap.IsList l vs)(ne:0<vs.size)(cmp:tp prog w A.in1 s.heap .Gt (λi v=>vs[i]? = some v) bt)
  (fin:∀v h1 tk,vs[argBest bt (vs.size - 1)]? = some v->g6 s.heap h1->Q v { s with heap:=h1,toks:=tk }):aG (model prog w) A (call (.builtin "max") [.ref l]) Q E s:=by
 have nm:(toString "max" ++ toString ".loop" : String) = "max.loop" := by decide
 have ll:l<s.heap.objs.size:=let ⟨_,e,_⟩:=gl;aI e;refine call_function_tree F.kind_max F.plain_max F.entry_max (F.args_max1 _) ?_;refine ag (m:=Builtin.Builtins.bindParams "max" ["key", "default"] 0 ⟨[],[]⟩) (wpAny_of_eq (show _=pure [none,none] from rfl) (ag (ap (ag ?_))));refine wpAny_pyIter_list gl (ag (bh ?_));rw[nm];have W:=Walks.list (prog:=prog) (w:=w) (A:=A.in1) hh s.heap.objs.size l (bp ll) vs;have no:∀k,s.heap.get? (s.heap.objs.size+k)=none:=λk=>by simp[Heap.get?]
 have gi:(s.heap.push { cls:=.type "list_iterator",data:=.fields #[.ref l,.int 0 0] }).IsListIter s.heap.objs.size l 0:=⟨_,aB _ rfl,rfl,rfl⟩;have sz:(s.heap.push { cls:=.type "list_iterator",data:=.fields #[.ref l,.int 0 0] }).objs.size=s.heap.objs.size+1:=cf ..;have nM:g6 s.heap (s.heap.push { cls:=.type "list_iterator",data:=.fields #[.ref l,.int 0 0] }):=λb o e=>aj _ e;have Cs:(s.heap.push { cls:=.type "list_iterator",data:=.fields #[.ref l,.int 0 0] }).IsList l vs:=gl.push _;show aG _ _ _ _ _ { s with heap:=(s.heap.push { cls:=.type "list_iterator",data:=.fields #[.ref l,.int 0 0] }).push { cls:=.type "list",data:=.seq #[] 0 } };generalize s.heap.push { cls:=.type "list_iterator",data:=.fields #[.ref l,.int 0 0] }=h1 at gi sz nM Cs ⊢;have gz:(h1.push { cls:=.type "list",data:=.seq #[] 0 }).get? h1.objs.size=some { cls:=.type "list",data:=.seq #[] 0 }:=aB _ rfl;have mD:g6 h1 (h1.push { cls:=.type "list",data:=.seq #[] 0 }):=λb o e=>aj _ e
 have zf:h1.objs.size ∉ [s.heap.objs.size,l]:=by
  rw[sz];simp only[av,cv,or_false,not_or];exact⟨cT _,cc (cP ll)⟩
 have zw:h1.objs.size ∉ [s.heap.objs.size]:=λy=>zf (W.sub _ y);refine ap ⟨plainId_quiet F.plain_max_loop _,codeAny_builtin F.entry_max_loop ?_⟩;rw[Around.under_plainId F.plain_max_loop _];refine ag (m:=seqItems? (.ref h1.objs.size)) (wpAny_seqItems gz rfl ?_);refine ag (m:=tryCatch (pyNext (.ref s.heap.objs.size)) _) (wpAny_tryCatch (W.item 0 _ _ _ ne (W.frame _ _ _ ⟨gi,Cs⟩ λb _ o e=>mD b o e) λv h3 t3 pv ye k3=>?_));have g3:=k3 _ _ zw gz;have qN:g6 s.heap h3:=λb o e=>k3 b o (λy=>by rw[aq.mp y,<- cq s.heap.objs.size,no] at e;cases e) (mD b o (nM b o e));refine ag (m:=updateSeq h1.objs.size λ_=>#[v,v]) (wpAny_updateSeq g3 rfl ?_);rw[nm];refine ap ⟨plainId_quiet F.plain_max_loop _,Lz W (λb hb=>by rw[aq.mp hb,<- cq s.heap.objs.size];exact no 0) bt cmp h1.objs.size zf (by rw[sz];exact no 1) (vs.size - 1) 0 _ v _ (!1) (W.frame _ _ _ ye λx xf o e=>(aJ _ _ (λq:h1.objs.size=x=>zf (by rw[q];exact xf))).trans e) pv (bj _ g3 rfl) (λx o e=>(aJ _ _ (λq:h1.objs.size=x=>by rw[<- q,sz,no] at e;cases e)).trans (qN x o e)) λv' h4 t4 p4 k4=>fin v' h4 t4 p4 k4⟩
end
noncomputable def lj (op:CmpOp)(A:Around)(s:ax)(y x:ah)(b:Bool):Prop :=
 ∀(prog:aV) (w:World) (E:ah->ax->Prop) (Q:ah->ax->Prop),Q (.bool b) s->aG (model prog w) A (richCompare op y x) Q E s
noncomputable def i7 (e f:Nat->Bool)(fin:Bool):List Nat->Bool
 | []=>fin
 | i::r=>if e i then i7 e f fin r else f i
mutual
def gk (g:Bool):af->af->Option Bool
 | .int i,.int j=>some (if g then decide (j<i) else decide (i<j))
 | .tuple xs,.tuple ys=>gL g xs ys
 | _,_=>none
def gL (g:Bool):List af->List af->Option Bool
 | [],[]=>some false
 | [],_::_=>some (!g)
 | _::_,[]=>some g
 | x::xs,y::ys=>if af.eqv x y then gL g xs ys else gk g x y
end
theorem oy:∀(xs ys:List af) (j:Nat) (r:Bool),gL g xs ys=some r->j<xs.length->j<ys.length->(∀i<j,SeqAt.pairEq xs ys i=true)->SeqAt.pairEq xs ys j=false->∃q,gk g (xs.getD j .none) (ys.getD j .none)=some q
 | [],_,_,_,_,h,_,_,_=>absurd h (c6 _)
 | _::_,[],_,_,_,_,h,_,_=>absurd h (c6 _)
 | x::xs,y::ys,j,r,e,h1,h2,al,hj=>by
  rw[gL] at e
  cases j with
  | zero =>
   have:af.eqv x y=false:=hj;rw[this,if_neg (!2)] at e;exact⟨r,e⟩
  | succ j =>
   have:af.eqv x y=true:=al 0 (Nat.succ_pos _);rw[this,if_pos rfl] at e;exact oy xs ys j r e (bL h1) (bL h2) (λi hi=>al (i+1) (Nat.succ_lt_succ hi)) hj
theorem fU:∀{vs:List ah} {xs:List af} {as:List Addr},ReadsAll h vs xs as->∀{j:Nat} (hj:j<vs.length),∃bs,Reads h vs[j] (xs.getD j .none) bs
 | _::_,_::_,_,.cons r rs,j,hj=>by
  cases j with
  | zero=>exact⟨_,r⟩
  | succ j=>exact fU rs (bL hj)
theorem qO:∀{xs:List af} {j:Nat},j<xs.length->(xs.getD j .none).depth<=af.depthAll xs
 | x::xs,0,_=>by simp only[af.depthAll,List.getD_cons_zero];omega
 | x::xs,j+1,h=>by
  have:=qO (xs:=xs) (j:=j) (bL h);simp only[af.depthAll,List.getD_cons_succ];omega
theorem qP:∀{xs:List af} {j:Nat},af.canLayAll0 xs=true->j<xs.length->(xs.getD j .none).canLay0=true
 | x::xs,0,h,_=>by simp only[af.canLayAll0,bH] at h;exact h.1
 | x::xs,j+1,h,hj=>by simp only[af.canLayAll0,bH] at h;exact qP (xs:=xs) (j:=j) h.2 (bL hj)
theorem oz (e f:Nat->Bool)(fin:Bool):∀l:List Nat,i7 e f fin (l.map (· + 1))=i7 (λi=>e (i+1)) (λi=>f (i+1)) fin l
 | []=>rfl
 | i::l=>by rw[ak,i7,i7,oz e f fin l]
theorem Ee (l b:Addr)(xs ys:Array ah)(n m:Nat)(d1 d2:Option Addr)(s1 s2:Array (Option ah))(e f:Nat->Bool) :
  Meets (Builtin.«tuple.__lt__» ⟨[.ref l,.ref b],[]⟩) (λA R s=>s.heap.get? l=some { cls:=.type "tuple",dict:=d1,data:=.seq xs n,slots:=s1 }/\s.heap.get? b=some { cls:=.type "tuple",dict:=d2,data:=.seq ys m,slots:=s2 } /\
    (∀j (h1:j<xs.size) (h2:j<ys.size),SeqAt.EqAt A.in1 s xs[j] ys[j] (e j))/\(∀j (h1:j<xs.size) (h2:j<ys.size),(∀i<j,e i=true)->e j=false->lj .Lt A.in1 s xs[j] ys[j] (f j)) /\
    R (.ok (.ret (.bool (i7 e f (decide (xs.size<ys.size)) (List.range (min xs.size ys.size)))))) s) :=
 .of_wp λprog w A R s h=>by
  obtain⟨hp,g,d,tk,os⟩:=s;obtain⟨gl,gb,he,hf,h⟩:=h;have sub:=AutoSeq1.sub_tuple_tuple;have zl:(xs.toList.zip ys.toList).length=min xs.size ys.size:=by simp
  wp_walk using AutoSeq1.wpAny_loadPart' gl,AutoSeq1.wpAny_loadPart' gb,wpAny_forIn_list _ (λleft b s'=>b.1=none/\s'=⟨hp,g,d,tk,os⟩/\∃i,left=(xs.toList.zip ys.toList).drop i/\(∀k<i,e k=true)/\R (.ok (.ret (.bool (i7 e f (decide (xs.size<ys.size)) ((List.range (min xs.size ys.size)).drop i))))) ⟨hp,g,d,tk,os⟩) _
  case turn =>
   rintro⟨y,x⟩ left b s' ⟨nb,rfl,i,ez,al,rr⟩;have il:i<(xs.toList.zip ys.toList).length:=Nat.lt_of_not_le λq=>by rw[bI q] at ez;cases ez
   have im:i<min xs.size ys.size:=zl ▸ il;have i1:i<xs.size:=by omega
   have i2:i<ys.size:=by omega
   rw[bf il] at ez;injection ez with ep er;obtain rfl:y=xs[i]:=by simpa using congrArg Prod.fst ep
   obtain rfl:x=ys[i]:=by simpa using congrArg Prod.snd ep
   rw[show (List.range (min xs.size ys.size)).drop i=i::(List.range (min xs.size ys.size)).drop (i+1) by simp[bf,im],i7] at rr;refine ag (he i i1 i2 prog w _ _ ?_)
   cases ei:e i with
   | true =>
    rw[ei,if_pos rfl] at rr
    wp_walk
    exact⟨rfl,rfl,i+1,er,λk hk=>(Nat.lt_or_ge k i).elim (al k) λq=>by rw[show k=i by omega];exact ei,rr⟩
   | false =>
    rw[ei,if_neg (!2)] at rr;have hc:=hf i i1 i2 al ei prog w
    wp_walk using hc _ _
    exact⟨_,rfl,by simpa using rr⟩
  case fin =>
   rintro⟨b1,b2⟩ s' ⟨nb,rfl,i,ez,_,rr⟩;simp only at nb;subst nb;have ge:min xs.size ys.size<=i:=Nat.le_of_not_lt λq=>by rw[bf (zl.symm ▸ q)] at ez;cases ez
   rw[bI (by simpa using ge),i7] at rr
   wp_walk
   exact⟨_,rfl,by simpa [Builtin.Tuple.tupleCompareSizes] using rr⟩
  case h=>exact⟨rfl,rfl,0,!4,!4,by simpa using h⟩
theorem lj.Hc (hl:s.heap.IsTuple l xs)(hb:s.heap.IsTuple b ys)(hu:A.units<cLine)(he:∀j (h1:j<xs.size) (h2:j<ys.size),SeqAt.EqAt A.in1 s xs[j] ys[j] (e j))
  (hf:∀j (h1:j<xs.size) (h2:j<ys.size),(∀i<j,e i=true)->e j=false->lj .Lt A.in1 s xs[j] ys[j] (f j)):lj .Lt A s (.ref l) (.ref b) (i7 e f (decide (xs.size<ys.size)) (List.range (min xs.size ys.size))):=λprog w E Q h=>by
 obtain⟨⟨c1,d1,data,s1⟩,ho,hc,n,hd⟩:=id hl;obtain⟨⟨c2,d2,data2,s2⟩,Bp,Cn,n2,vY⟩:=id hb;simp only at hc hd Cn vY;subst hc hd Cn vY;exact richCompare_meets_room (op:=.Lt) ⟨_,ho,rfl⟩ ⟨_,Bp,rfl⟩ F.slot_tuple_lt F.entry_tuple_lt (F.args_tuple_lt_2 _ _) (Ee l b xs ys n n2 d1 d2 s1 s2 e f) ⟨ho,Bp,he,hf,show ah.bool _≠ah.notImplemented/\Q (.bool _) s from ⟨(λx=>nomatch x),h⟩⟩ hu
theorem lex_lt:∀(xs ys:List af) (r:Bool),gL false xs ys=some r->i7 (SeqAt.pairEq xs ys) (λj=>(gk false (xs.getD j .none) (ys.getD j .none)).getD false) (decide (xs.length<ys.length)) (List.range (min xs.length ys.length))=r
 | [],[],r,e=>by cases e;rfl
 | [],y::ys,r,e=>by cases e;simp[i7]
 | x::xs,[],r,e=>by cases e;simp[i7]
 | x::xs,y::ys,r,e=>by
  rw[gL] at e;rw[ao,ao,Nat.succ_min_succ,cA,i7]
  cases q:af.eqv x y with
  | true =>
   rw[q,if_pos rfl] at e;rw[if_pos (show SeqAt.pairEq (x::xs) (y::ys) 0=true from q)];have:=lex_lt xs ys r e;rw[show List.map Nat.succ=List.map (· + 1) from rfl,oz,show decide (xs.length+1<ys.length+1)=decide (xs.length<ys.length) by simp];exact this
  | false =>
   rw[q,if_neg (!2)] at e;rw[if_neg (by rw[show SeqAt.pairEq (x::xs) (y::ys) 0=false from q];decide)];simp only[List.getD_cons_zero,e,cw]
theorem Ef:∀(N:Nat) (da db:af) (r:Bool) (A:Around) (s:ax) (a b:ah) (as bs:List Addr),da.depth<=N->Reads s.heap a da as->Reads s.heap b db bs->da.canLay0=true->db.canLay0=true->A.units+N<cLine->gk false da db=some r->lj .Lt A s a b r:=by
 intro N
 induction N with
 | zero =>
  intro da db r A s a b as bs hN ra rb ha hb hu e
  cases ra with
  | int i t =>
   cases rb with
   | int j u =>
    cases e;exact λprog w E Q h=>richCompare_gives (op:=.Lt) (typeIs_int s _ t) (typeIs_int s _ u) F.slot_int_lt F.entry_int_lt (F.args_int_lt_2 _ _) (gives_int_lt _ _ t u) (λx=>nomatch x) h
   | _=>simp[gk] at e
  | tuple=>simp[af.depth] at hN
  | _=>simp[gk] at e
 | succ N ih =>
  intro da db r A s a b as bs hN ra rb ha hb hu e
  cases ra with
  | int i t =>
   cases rb with
   | int j u =>
    cases e;exact λprog w E Q h=>richCompare_gives (op:=.Lt) (typeIs_int s _ t) (typeIs_int s _ u) F.slot_int_lt F.entry_int_lt (F.args_int_lt_2 _ _) (gives_int_lt _ _ t u) (λx=>nomatch x) h
   | _=>simp[gk] at e
  | @tuple l o vs n xs OP h1 h2 h3 h4 =>
   cases rb with
   | @tuple l' o' ws n' ys OQ k1 k2 k3 k4 =>
    have n1:vs.size=xs.length:=by simpa using SeqAt.ReadsAll.length _ _ _ h4
    have n2:ws.size=ys.length:=by simpa using SeqAt.ReadsAll.length _ _ _ k4
    simp only[af.depth] at hN;simp only[gk] at e
    have he:∀j (j1:j<vs.size) (j2:j<ws.size),SeqAt.EqAt A.in1 s vs[j] ws[j] (SeqAt.pairEq xs ys j):=λj j1 j2=>by
     have G0:A.in1.units+min (af.depthAll xs) (af.depthAll ys)<cLine:=by show A.units+1+_<_;omega
     have q:=SeqAt.eqAt_readsAll xs ys A.in1 s vs.toList ws.toList _ _ h4 k4 ha hb G0 j (by simpa using j1) (by simpa using j2);rw[bo,bo] at q;exact q
    have hf:∀j (j1:j<vs.size) (j2:j<ws.size),(∀i<j,SeqAt.pairEq xs ys i=true)->SeqAt.pairEq xs ys j=false->lj .Lt A.in1 s vs[j] ws[j] ((gk false (xs.getD j .none) (ys.getD j .none)).getD false):=λj j1 j2 al hj=>by
     obtain⟨q,hq⟩:=oy xs ys j r e (!1) (!1) al hj;obtain⟨P4,r1⟩:=fU h4 (j:=j) (by simpa using j1);obtain⟨P5,r2⟩:=fU k4 (j:=j) (by simpa using j2);rw[hq];have d1:=qO (xs:=xs) (j:=j) (!1);have q2:=ih _ _ q A.in1 s _ _ P4 P5 (!1) r1 r2 (qP ha (!1)) (qP hb (!1)) (by show A.units+1+_<_;omega) hq;rw[bo,bo] at q2;exact q2
    have:=lj.Hc ⟨_,h1,h2,_,h3⟩ ⟨_,k1,k2,_,k3⟩ (show A.units<cLine by omega) he hf;rw[n1,n2,lex_lt xs ys r e] at this;exact this
   | _=>simp[gk] at e
  | _=>simp[gk] at e
theorem LB (l b:Addr)(xs ys:Array ah)(n m:Nat)(d1 d2:Option Addr)(s1 s2:Array (Option ah))(e f:Nat->Bool) :
  Meets (Builtin.«tuple.__gt__» ⟨[.ref l,.ref b],[]⟩) (λA R s=>s.heap.get? l=some { cls:=.type "tuple",dict:=d1,data:=.seq xs n,slots:=s1 }/\s.heap.get? b=some { cls:=.type "tuple",dict:=d2,data:=.seq ys m,slots:=s2 } /\
    (∀j (h1:j<xs.size) (h2:j<ys.size),SeqAt.EqAt A.in1 s xs[j] ys[j] (e j))/\(∀j (h1:j<xs.size) (h2:j<ys.size),(∀i<j,e i=true)->e j=false->lj .Gt A.in1 s xs[j] ys[j] (f j)) /\
    R (.ok (.ret (.bool (i7 e f (decide (xs.size > ys.size)) (List.range (min xs.size ys.size)))))) s) :=
 .of_wp λprog w A R s h=>by
  obtain⟨hp,g,d,tk,os⟩:=s;obtain⟨gl,gb,he,hf,h⟩:=h;have sub:=AutoSeq1.sub_tuple_tuple;have zl:(xs.toList.zip ys.toList).length=min xs.size ys.size:=by simp
  wp_walk using AutoSeq1.wpAny_loadPart' gl,AutoSeq1.wpAny_loadPart' gb,wpAny_forIn_list _ (λleft b s'=>b.1=none/\s'=⟨hp,g,d,tk,os⟩/\∃i,left=(xs.toList.zip ys.toList).drop i/\(∀k<i,e k=true)/\R (.ok (.ret (.bool (i7 e f (decide (xs.size > ys.size)) ((List.range (min xs.size ys.size)).drop i))))) ⟨hp,g,d,tk,os⟩) _
  case turn =>
   rintro⟨y,x⟩ left b s' ⟨nb,rfl,i,ez,al,rr⟩;have il:i<(xs.toList.zip ys.toList).length:=Nat.lt_of_not_le λq=>by rw[bI q] at ez;cases ez
   have im:i<min xs.size ys.size:=zl ▸ il;have i1:i<xs.size:=by omega
   have i2:i<ys.size:=by omega
   rw[bf il] at ez;injection ez with ep er;obtain rfl:y=xs[i]:=by simpa using congrArg Prod.fst ep
   obtain rfl:x=ys[i]:=by simpa using congrArg Prod.snd ep
   rw[show (List.range (min xs.size ys.size)).drop i=i::(List.range (min xs.size ys.size)).drop (i+1) by simp[bf,im],i7] at rr;refine ag (he i i1 i2 prog w _ _ ?_)
   cases ei:e i with
   | true =>
    rw[ei,if_pos rfl] at rr
    wp_walk
    exact⟨rfl,rfl,i+1,er,λk hk=>(Nat.lt_or_ge k i).elim (al k) λq=>by rw[show k=i by omega];exact ei,rr⟩
   | false =>
    rw[ei,if_neg (!2)] at rr;have hc:=hf i i1 i2 al ei prog w
    wp_walk using hc _ _
    exact⟨_,rfl,by simpa using rr⟩
  case fin =>
   rintro⟨b1,b2⟩ s' ⟨nb,rfl,i,ez,_,rr⟩;simp only at nb;subst nb;have ge:min xs.size ys.size<=i:=Nat.le_of_not_lt λq=>by rw[bf (zl.symm ▸ q)] at ez;cases ez
   rw[bI (by simpa using ge),i7] at rr
   wp_walk
   exact⟨_,rfl,by simpa [Builtin.Tuple.tupleCompareSizes] using rr⟩
  case h=>exact⟨rfl,rfl,0,!4,!4,by simpa using h⟩
theorem lj.Hd (hl:s.heap.IsTuple l xs)(hb:s.heap.IsTuple b ys)(hu:A.units<cLine)(he:∀j (h1:j<xs.size) (h2:j<ys.size),SeqAt.EqAt A.in1 s xs[j] ys[j] (e j))
  (hf:∀j (h1:j<xs.size) (h2:j<ys.size),(∀i<j,e i=true)->e j=false->lj .Gt A.in1 s xs[j] ys[j] (f j)):lj .Gt A s (.ref l) (.ref b) (i7 e f (decide (xs.size > ys.size)) (List.range (min xs.size ys.size))):=λprog w E Q h=>by
 obtain⟨⟨c1,d1,data,s1⟩,ho,hc,n,hd⟩:=id hl;obtain⟨⟨c2,d2,data2,s2⟩,Bp,Cn,n2,vY⟩:=id hb;simp only at hc hd Cn vY;subst hc hd Cn vY;exact richCompare_meets_room (op:=.Gt) ⟨_,ho,rfl⟩ ⟨_,Bp,rfl⟩ F.slot_tuple_gt F.entry_tuple_gt (F.args_tuple_gt_2 _ _) (LB l b xs ys n n2 d1 d2 s1 s2 e f) ⟨ho,Bp,he,hf,show ah.bool _≠ah.notImplemented/\Q (.bool _) s from ⟨(λx=>nomatch x),h⟩⟩ hu
theorem Eg:∀(xs ys:List af) (r:Bool),gL true xs ys=some r->i7 (SeqAt.pairEq xs ys) (λj=>(gk true (xs.getD j .none) (ys.getD j .none)).getD false) (decide (xs.length > ys.length)) (List.range (min xs.length ys.length))=r
 | [],[],r,e=>by cases e;rfl
 | [],y::ys,r,e=>by cases e;simp[i7]
 | x::xs,[],r,e=>by cases e;simp[i7]
 | x::xs,y::ys,r,e=>by
  rw[gL] at e;rw[ao,ao,Nat.succ_min_succ,cA,i7]
  cases q:af.eqv x y with
  | true =>
   rw[q,if_pos rfl] at e;rw[if_pos (show SeqAt.pairEq (x::xs) (y::ys) 0=true from q)];have:=Eg xs ys r e;rw[show List.map Nat.succ=List.map (· + 1) from rfl,oz,show decide (xs.length+1 > ys.length+1)=decide (xs.length > ys.length) by simp];exact this
  | false =>
   rw[q,if_neg (!2)] at e;rw[if_neg (by rw[show SeqAt.pairEq (x::xs) (y::ys) 0=false from q];decide)];simp only[List.getD_cons_zero,e,cw]
theorem OR:∀(N:Nat) (da db:af) (r:Bool) (A:Around) (s:ax) (a b:ah) (as bs:List Addr),da.depth<=N->Reads s.heap a da as->Reads s.heap b db bs->da.canLay0=true->db.canLay0=true->A.units+N<cLine->gk true da db=some r->lj .Gt A s a b r:=by
 intro N
 induction N with
 | zero =>
  intro da db r A s a b as bs hN ra rb ha hb hu e
  cases ra with
  | int i t =>
   cases rb with
   | int j u =>
    cases e;exact λprog w E Q h=>richCompare_gives (op:=.Gt) (typeIs_int s _ t) (typeIs_int s _ u) F.slot_int_gt F.entry_int_gt (F.args_int_gt_2 _ _) (gives_int_gt _ _ t u) (λx=>nomatch x) h
   | _=>simp[gk] at e
  | tuple=>simp[af.depth] at hN
  | _=>simp[gk] at e
 | succ N ih =>
  intro da db r A s a b as bs hN ra rb ha hb hu e
  cases ra with
  | int i t =>
   cases rb with
   | int j u =>
    cases e;exact λprog w E Q h=>richCompare_gives (op:=.Gt) (typeIs_int s _ t) (typeIs_int s _ u) F.slot_int_gt F.entry_int_gt (F.args_int_gt_2 _ _) (gives_int_gt _ _ t u) (λx=>nomatch x) h
   | _=>simp[gk] at e
  | @tuple l o vs n xs OP h1 h2 h3 h4 =>
   cases rb with
   | @tuple l' o' ws n' ys OQ k1 k2 k3 k4 =>
    have n1:vs.size=xs.length:=by simpa using SeqAt.ReadsAll.length _ _ _ h4
    have n2:ws.size=ys.length:=by simpa using SeqAt.ReadsAll.length _ _ _ k4
    simp only[af.depth] at hN;simp only[gk] at e
    have he:∀j (j1:j<vs.size) (j2:j<ws.size),SeqAt.EqAt A.in1 s vs[j] ws[j] (SeqAt.pairEq xs ys j):=λj j1 j2=>by
     have G0:A.in1.units+min (af.depthAll xs) (af.depthAll ys)<cLine:=by show A.units+1+_<_;omega
     have q:=SeqAt.eqAt_readsAll xs ys A.in1 s vs.toList ws.toList _ _ h4 k4 ha hb G0 j (by simpa using j1) (by simpa using j2);rw[bo,bo] at q;exact q
    have hf:∀j (j1:j<vs.size) (j2:j<ws.size),(∀i<j,SeqAt.pairEq xs ys i=true)->SeqAt.pairEq xs ys j=false->lj .Gt A.in1 s vs[j] ws[j] ((gk true (xs.getD j .none) (ys.getD j .none)).getD false):=λj j1 j2 al hj=>by
     obtain⟨q,hq⟩:=oy xs ys j r e (!1) (!1) al hj;obtain⟨P4,r1⟩:=fU h4 (j:=j) (by simpa using j1);obtain⟨P5,r2⟩:=fU k4 (j:=j) (by simpa using j2);rw[hq];have d1:=qO (xs:=xs) (j:=j) (!1);have q2:=ih _ _ q A.in1 s _ _ P4 P5 (!1) r1 r2 (qP ha (!1)) (qP hb (!1)) (by show A.units+1+_<_;omega) hq;rw[bo,bo] at q2;exact q2
    have:=lj.Hd ⟨_,h1,h2,_,h3⟩ ⟨_,k1,k2,_,k3⟩ (show A.units<cLine by omega) he hf;rw[n1,n2,Eg xs ys r e] at this;exact this
   | _=>simp[gk] at e
  | _=>simp[gk] at e
noncomputable def iB (g:Bool):af->List af->af
 | b,[]=>b
 | b,d::ds=>iB g (if (gk g d b).getD false=true then d else b) ds
theorem qQ (g:Bool)(x:af):∀(b:af) (l:List af),iB g b (l++[x])=if (gk g x (iB g b l)).getD false=true then x else iB g b l
 | b,[]=>rfl
 | b,d::l=>by rw[be,iB,iB,qQ g x _ l]
noncomputable def va (g:Bool)(ds:List af):Prop:=∀x∈ds,(x.canLay0=true/\x.depth<=50)/\∀y∈ds,(gk g x y).isSome=true
open Classical in
noncomputable def qR (g:Bool)(as:List af):Option af:=match as with | [.list (d::ds)]=>if va g (d::ds) then some (iB g d ds) else none | _=>none
noncomputable abbrev xh:=qR false
noncomputable def Ct (g:Bool)(L:List af)(i j:Nat):Bool:=(gk g (L.getD i .none) (L.getD j .none)).getD false
theorem vb (g:Bool)(d:af)(ds:List af):∀k,k<=ds.length->(d::ds).getD (argBest (Ct g (d::ds)) k) .none=iB g d (ds.take k)
 | 0,_=>rfl
 | k+1,h=>by
  have ih:=vb g d ds k (!1);have hk:k<ds.length:=h;rw[argBest,List.take_succ_eq_append_getElem hk,qQ,<- ih]
  have e:Ct g (d::ds) (k+1) (argBest (Ct g (d::ds)) k)=(gk g ds[k] ((d::ds).getD (argBest (Ct g (d::ds)) k) .none)).getD false:=by
   unfold Ct;simp[az,hk]
  rw[e];split
  .simp[az,hk]
  .rfl
theorem dw.RP:∀{ds:List af} {xs:List V} {us:List ah},dw S H ds xs->dW xs us->∀(j:Nat) (hj:j<us.length),∃v,dY S H (ds.getD j .none) v/\RelV v us[j]
 | [],_,us,r,q,j,hj=>by
  cases r.eO;cases q;exact absurd hj (c6 _)
 | d::ds,_,us,r,q,j,hj=>by
  obtain⟨x,t,rfl,h1,h2⟩:=r.of_cons
  cases q with
  | cons q1 q2 =>
   cases j with
   | zero=>exact⟨_,h1,q1⟩
   | succ j=>exact dw.RP h2 q2 j (bL hj)
theorem mT:∀{ds:List af},(∀x∈ds,x.canLay0=true)->af.canLayAll0 ds=true
 | [],_=>rfl
 | d::ds,h=>by rw[af.canLayAll0,h d (ar ..),mT λx hx=>h x (ai _ hx)];rfl
section
theorem yX (g:Bool)(hc:X.calm=true)(hu:X.A.units+64<cLine):fP X (.builtin (if g then "max" else "min")) (λxs H Q=>∃p ys S d ds,xs=[.ref p]/\gc X.K H p ys/\dw S H (d::ds) ys/\va g (d::ds)/\∀v,dY S H (iB g d ds) v->Q v H):=by
 intro pins s σ H xs us Q I r h;obtain⟨p,ys,S,d,ds,rfl,hp,hr,BR,q⟩:=h;obtain⟨u,rfl,ru⟩:=vals1 r;cases ru;obtain⟨its,rv,ht,hz⟩:=I.list hp;have hlen:its.length=(d::ds).length:=by rw[<- rv.length,hr.length]
 have FF:af.canLayAll0 (d::ds)=true:=mT λx hx=>(BR x hx).1.1
 have pE:∀i,i<its.length->(d::ds).getD i .none∈d::ds:=λi hi=>by
  rw[az,aX (!1),cw];exact bY _
 have OS:∀op:CmpOp,(∀(a b:af) (r:Bool) (A:Around) (s:ax) (u v:ah) (as bs:List Addr),a.depth<=50->Reads s.heap u a as->Reads s.heap v b bs->a.canLay0=true->b.canLay0=true->A.units+50<cLine->gk g a b=some r->lj op A s u v r) ->
   tp X.prog X.w X.A.in1 s.heap op (λi v=>its.toArray[i]? = some v) (Ct g (d::ds)):=λop U9 i j u v s' Q' E' held hi hj hq=>by
  have hi:its.toArray[i]? = some u:=hi;have hj:its.toArray[j]? = some v:=hj;rw[cS] at hi hj;obtain⟨as,ra⟩:=dw.reads (I.kept (h':=s'.heap) (t':=s.toks) held).eD FF hr rv;obtain⟨i1,rfl⟩:=aD.mp hi;obtain⟨j1,rfl⟩:=aD.mp hj;obtain⟨RQ,r1⟩:=fU ra i1;obtain⟨RR,r2⟩:=fU ra j1;have mi:=pE i i1;have mj:=pE j j1;obtain⟨r,hr⟩:=bO.mp ((BR _ mi).2 _ mj);have e:Ct g (d::ds) i j=r:=by unfold Ct;rw[hr];rfl
  rw[e] at hq;exact U9 _ _ r X.A.in1 s' _ _ RQ RR (BR _ mi).1.2 r1 r2 (BR _ mi).1.1 (BR _ mj).1.1 (by show X.A.units+1+50<_;omega) hr X.prog X.w E' Q' hq
 have fin:∀(v:ah) (h1:Heap) (tk:Nat),its.toArray[argBest (Ct g (d::ds)) (its.toArray.size - 1)]? = some v->g6 s.heap h1->EP X pins σ Q v { s with heap:=h1,toks:=tk }:=λv h1 tk hv held=>by
  rw[cS] at hv;obtain⟨k1,rfl⟩:=aD.mp hv;obtain⟨x,rx,kC⟩:=hr.RP rv _ k1;have hs:its.toArray.size - 1=ds.length:=by rw[aC,hlen,ao];omega
  rw[hs,vb g d ds ds.length (am _),List.take_length] at rx;exact⟨x,H,I.kept held,kC,q x rx⟩
 have iW:0<its.toArray.size:=by rw[aC,hlen,ao];omega
 cases g with
 | true=>exact LA (I.ok.hd hc) ht.isList iW (OS .Gt λa b r A s u v as bs=>OR 50 a b r A s u v as bs) fin
 | false=>exact Ly (I.ok.hd hc) ht.isList iW (OS .Lt λa b r A s u v as bs=>Ef 50 a b r A s u v as bs) fin
theorem He (g:Bool)(hc:X.calm=true)(hu:X.A.units+64<cLine):mw X (.builtin (if g then "max" else "min")) (qR g):=⟨_,yX g hc hu,λgs S H as vs d R _ _ rs e k=>by
 unfold qR at e;split at e
 .rename_i d0 ds
  split at e
  .rename_i BR
   cases e;obtain⟨v,rfl,rl⟩:=rs.one;obtain⟨a,xs,rfl,sq,_,rr⟩:=rl.II (K:=X.K);exact⟨a,xs,S,d0,ds,rfl,sq,rr,BR,λv rv=>k v H rv (.refl _ _)⟩
  .cases e
 .cases e⟩
theorem Eh (hc:X.calm=true)(hu:X.A.units+64<cLine):mw X (.builtin "min") xh:=He false hc hu
end
theorem RM (hr:f6 k A)(h:d<=k:=by decide):f6 d A:=hr.mono h
theorem nd (N:List Str)(h:N.Nodup:=by decide +kernel):N.Nodup:=h
theorem co (N:List Str)(s:Scope)(h:j7 N s sc N' mp=true:=by decide +kernel):j7 N s sc N' mp=true:=h
theorem P6 (h1:s.kind=.function:=by rfl)(h2:s.isCoroutine=false:=by rfl)(h3:s.isGenerator=false:=by rfl)(h4:N.Nodup:=by decide +kernel)(h5:N.take ps.length=ps:=by rfl)
  (h6:∀x∈ps,s.names.lookup x=some .local\/s.names.lookup x=some .cell:=by decide +kernel) (h7:∀y∈s.names,y.2≠.free:=by decide +kernel):fg N ps s:=⟨h1,h2,h3,h4,h5,h6,h7⟩
theorem OT (is:List Nat)(h:us=is.map gj:=by rfl):∀u∈us,∀d env (Q:eF->Prop),u d env Q->∃dZ,Q dZ:=λu hu=>by
 subst h;obtain⟨i,_,rfl⟩:=aQ.mp hu;exact Ow
section
theorem pF (i:Nat)(hN:X.N.Nodup)(hx:Loc X.env.scope x:=by exact Or.inl rfl)(hi:X.N[i]? = some x:=by rfl)(hf:X.fn x=true\/X.env.scope.names.lookup x=some .local:=by (first | exact .inl rfl | exact .inr rfl | assumption))(hfd:i ∉ M.fd:=by exact nf _ _ rfl):KG X M (.Name x pos) (gj i):=U2 hN hx hi hf hfd
theorem gN (i:Nat)(hN:X.N.Nodup)(h:KE X M e ue)(hx:Loc X.env.scope x:=by exact Or.inl rfl)(hi:X.N[i]? = some x:=by rfl)(hs:swapsWith e (some (.Name x fZ)) pos.line X.env=pure false:=by rfl)
  (hf:X.fn x=true\/X.env.scope.names.lookup x=some .local:=by (first | exact .inl rfl | exact .inr rfl | assumption)) (hfd:i ∉ M.fd:=by exact nf _ _ rfl):KS X M (.Assign [.Name x fZ] e pos) (eB i ue):=Oz hN hx h hi hs hf hfd
theorem BS (i:Nat)(hN:X.N.Nodup)(h:KN X M e un)(hx:Loc X.env.scope x:=by exact Or.inl rfl)(hi:X.N[i]? = some x:=by rfl)(hs:swapsWith e (some (.Name x fZ)) pos.line X.env=pure false:=by rfl)
  (hf:X.fn x=true\/X.env.scope.names.lookup x=some .local:=by (first | exact .inl rfl | exact .inr rfl | assumption)) (hfd:i ∉ M.fd:=by exact nf _ _ rfl):KS X M (.Assign [.Name x fZ] e pos) (mO i un):=OA hN hx h hi hs hf hfd
end
structure FM (K:W.Frag) (mg:Str->Option ah) (x:Str) (st:Stmt):Prop where
 ex:∃f fd,v7 K x x st f fd/\mg x=some (.ref f)
structure LC (K:W.Frag) (x:Str) (st:Stmt):Prop where
 ex:∃f fd,v7 K x x st f fd/\W.nsIn K bq x=some (some (.ref f))
theorem LC.of {K:W.Frag}{x:Str}{st:Stmt}{f:Addr}{oc:ah}{od an:Option Addr}{Ft:Array (Option ah)}{kV r6 pm fj ct:ah}(a:W.nsIn K bq x=some (some (.ref f)))(l:K.lookup f=some ⟨oc,od,.func (W.fnOf x x (jh st) (fE st) (dB st) .none kV r6 pm an fj ct),Ft⟩)
  (c:W.codeIn K fj x=true) (k:W.keepIn K (.ref f)=true):LC K x st:=⟨f,_,C3 l c k,a⟩
theorem LC.m {K:W.Frag}{x:Str}{st:Stmt}{h:Heap}{mg:Str->Option ah}(a:LC K x st)(X:K.In h)(G:h.Ns bq mg):FM K mg x st :=
 let ⟨f,fd,F,n⟩:=a.ex;⟨f,fd,F,W.mg_of X G n⟩
noncomputable def Ei (K:W.Frag)(t:Nat->Stmt):List (Str × Nat)->Prop
 | []=>True
 | (x,i)::r=>LC K x (t i)/\Ei K t r
theorem Ej {K:W.Frag}{t:Nat->Stmt}:Ei K t []:=trivial
theorem LD {K:W.Frag}{t:Nat->Stmt}{x:Str}{i:Nat}{r:List (Str × Nat)}(h:LC K x (t i))(hr:Ei K t r):Ei K t ((x,i)::r):=⟨h,hr⟩
noncomputable def BD (x:Str)(st:Stmt)(ps:List Str):Prop:=∀(kV r6 pm:ah) (an:Option Addr) (fj ct:ah) (us:List ah),us.length=ps.length->bindArgs (W.fnOf x x (jh st) (fE st) (dB st) .none kV r6 pm an fj ct) ⟨us,[]⟩=pure (ps.zip us)
section
variable {P:aV}{w:World}{K:W.Frag}{mg:Str->Option ah}{base:Heap}{x:Str}{st:Stmt}{N ps:List Str}{k:Nat}{C:Xc}{Y:yS}
theorem kG (u:US)(N:List Str)(F:FM K mg x st)
  (body:fg N ps (dB st)->∀(f:Addr) (fj:ah) (A:Around) (outer:List Env) (s:ax) (H:Hp) (E:XK) (n0:Int) (S:List Addr) (has:∀a∈S,H a≠none),f6 k (A.deeper (envOfC x (dB st) s.heap.objs.size f fj))->(A.deeper (envOfC x (dB st) s.heap.objs.size f fj)).units+64<cLine->vF (mI ux P w K mg base N x (dB st) f fj A outer s H E).Bg (Fr.pure C n0 S H has) (fE st) u)
  (sc:fg N ps (dB st):=by exact P6) (hb:BD x st ps:=by rw[999]) :
  d4 P w K mg base (k+1) x ps (vH C (mQ N.length ps.length λ_=>u)) :=
 let ⟨f,_,F,hm⟩:=F.ex;RJ (u:=λ_=>u) F hm sc (F.binds hb) λfj A outer s H E n0 S has hr=>body sc f fj A outer s H E n0 S has hr hr.units
theorem tq (u:US)(N:List Str)(F:FM K mg x st)
  (body:fg N ps (dB st)->∀(f:Addr) (fj:ah) (A:Around) (outer:List Env) (s:ax) (H:Hp) (E:XK) (fa sa:Addr) (n0:Int) (S:List Addr) (hf:Y.iG H fa sa n0) (hS:fa∈S) (has:∀a∈S,H a≠none),f6 k (A.deeper (envOfC x (dB st) s.heap.objs.size f fj))->(A.deeper (envOfC x (dB st) s.heap.objs.size f fj)).units+64<cLine ->
   vF (mI ux P w K mg base N x (dB st) f fj A outer s H E).Bg (Fr.feed C Y 0 fa sa n0 S H hf hS has) (fE st) u)
  (sc:fg N ps (dB st):=by exact P6) (hN:1<=N.length:=by decide) (hb:BD x st ps:=by rw[999]) :
  d4 P w K mg base (k+1) x ps (qI Y (iH N.length ps.length λ_=>u)) :=
 let ⟨f,_,F,hm⟩:=F.ex;RK (u:=λ_=>u) F hm sc (F.binds hb) hN λfj A outer s H E fa sa n0 S hf hS has hr=>body sc f fj A outer s H E fa sa n0 S hf hS has hr hr.units
end
end L2
namespace PySem
open Sem (wp)
open PyProof.Rows Builtin Builtin.Frozenset
end PySem
namespace L2
open PySem PySem.Spec PyProof.Rows
open PySem.W (KasT kas_asc kas_desc kas_tail3 kas_descPart kas_count kas_place kas_bin kas_sort kas_rev kas_ask kas_item kat_run kat_snds KatTups KatLex KatGo kat_cons kat_nil kat_go kat_yes kat_no kat_one kat_lt kas_mapM kas_first_eq)
noncomputable abbrev P7 (n:Nat)(p:Array Nat):Prop:=p.Perm (cI (List.range n))
section
variable {prog:aV}{w:World}{A:Around}{E:ah->ax->Prop}{s:ax}
theorem qS (vs:List ah):(List.range vs.length).map (λi=>vs.getD i ah.none)=vs:=by
 refine di (!4) λi h1 h2=>?_;simp[az,h2]
noncomputable def AF (prog:aV)(w:World)(A:Around)(vs:List ah)(s:ax)(G:Array Nat->Prop):Prop:=2<=vs.length->∃κ:SortKind,(∀(Q:SortKind->ax->Prop) (E:ah->ax->Prop),Q κ s->aG (model prog w) A (keyKind' vs.toArray) Q E s)/\∀E:ah->ax->Prop,aG (model prog w) A (sortRuns'.run (SortSt.mk' κ (vs.toArray.zip vs.toArray) #[] 7 none)) (λr s'=>s'=s/\∃p:Array Nat,P7 vs.length p/\G p/\arrOf r.2=p.map (kas_item (vs.toArray.zip vs.toArray))/\failedOf r.2=none) E s
theorem sy {a:Addr}{vs:List ah}{n:Nat}{P:Fin->ax->Prop}{G:Array Nat->Prop}(hG:vs.length<2->G (cI (List.range vs.length)))(ho:s.heap.get? a=some (seqObj "list" vs.toArray n))(PQ:vs.length<1000000)
  (hk:∀s':ax,(∀b o,b≠a->s.heap.get? b=some o->s'.heap.get? b=some o)->AF prog w A vs s' G)
  (h:∀p:Array Nat,P7 vs.length p->G p->P (.done (.ret .none)) { s with heap:=sortedHeap s.heap a vs (cI (p.toList.map λi=>vs.getD i ah.none)) }) :
  aG (model prog w) A (Builtin.«list.sort» ⟨[.ref a],[]⟩) P E s:=by
 rw[list_sort_plain];have ha:a<s.heap.objs.size:=aI ho;refine ag (listItems_at ho rfl ?_);refine ag (listUpdate_at ho rfl ?_);obtain⟨e1,TJ⟩:∃e1,(s.heap.update a (Obj.mapSeq λ_=>#[])).get? a=some (seqObj "list" #[] e1):=⟨_,get?_update_seq ho (λ_=>#[])⟩;refine ag (seqEpoch_at TJ rfl ?_);refine ag (wpAny_newTuple ?_);refine ag (wpAny_newList ?_);refine wpAny_holding ?_
 have P8:(((s.heap.update a (Obj.mapSeq λ_=>#[])).push (seqObj "tuple" vs.toArray 0)).push (seqObj "list" #[] 0)).get? a=some (seqObj "list" #[] e1):=by
  rw[Heap.get?_push_ne _ _ _ (by rw[size_push',Heap.size_update];exact bp (cP ha)),Heap.get?_push_ne _ _ _ (by rw[Heap.size_update];exact bp ha)];exact TJ
 have Lx:∀b o,b≠a->s.heap.get? b=some o->(((s.heap.update a (Obj.mapSeq λ_=>#[])).push (seqObj "tuple" vs.toArray 0)).push (seqObj "list" #[] 0)).get? b=some o:=λb o hb e=>aj _ (aj _ ((Heap.get?_update_ne _ _ _ _ hb).trans e));show aG (model prog w) A _ P E { s with heap:=((s.heap.update a (Obj.mapSeq λ_=>#[])).push (seqObj "tuple" vs.toArray 0)).push (seqObj "list" #[] 0) };dsimp only;have hsz:vs.toArray.size=vs.length:=by simp
 by_cases h2:vs.toArray.size<2
 .rw[if_pos h2,if_pos h2]
  refine ag (ap ?_);rw[StateT.run_pure];refine ag (ap ?_);dsimp only;refine ag (seqEpoch_at P8 rfl ?_);refine ag (listUpdate_at P8 rfl ?_ (hsz2:=by rw[Array.size_map];show (pairsOf vs).size<=_;rw[pairsOf_size,sizeLine_eq];omega));simp only[bne_self_eq_false,bK,if_false];have:=h (cI (List.range vs.length)) (Array.Perm.refl _) (hG (!1));rw[List.toList_toArray,qS] at this
  have e:(arrOf (SortSt.mk' general' (vs.toArray.zip vs.toArray) #[] 7 none)).map (·.2)=vs.toArray:=by
   show (vs.toArray.zip vs.toArray).map (·.2)=vs.toArray;apply cJ.mp;simp[List.map_snd_zip]
  refine ap ?_;rw[<- e] at this;exact this
 .rw[if_neg h2,if_neg h2]
  obtain⟨κ,kk,ka⟩:=hk { s with heap:=((s.heap.update a (Obj.mapSeq λ_=>#[])).push (seqObj "tuple" vs.toArray 0)).push (seqObj "list" #[] 0) } Lx (!1);refine ag (kk _ _ ?_);refine ag (b8 (ka E) ?_ λ_ _ e=>e);rintro⟨⟨⟩,eh⟩ s' ⟨rfl,p,hp,hg,U',hf⟩;dsimp only;have Hf:=kat_snds (ks:=vs) (vs:=vs) rfl U';have OU:p.size=vs.length:=by have:=hp.size_eq;simpa using this
  refine ag (seqEpoch_at P8 rfl ?_);refine ag (listUpdate_at P8 rfl ?_ (hsz2:=by rw[Hf,aC,au,bv,OU,sizeLine_eq];omega));rw[hf];simp only[bne_self_eq_false,bK,if_false];refine ap ?_;have:=h p hp hg;rw[<- Hf] at this;exact this
noncomputable def LF (h:Heap)(v:ah):Prop:=∃(a:Addr) (o:Obj) (xs:Array ah) (n:Nat) (row:List Int) (as:List Addr),v=.ref a/\h.get? a=some o/\o.cls=.type "tuple" /\ o.data=.seq xs n/\ReadsAll h xs.toList (row.map .int) as
theorem qT:∀{us:List ah} {row:List Int} {as:List Addr},ReadsAll h us (row.map .int) as->∀v∈us,∃i t,v=ah.int i t
 | [],_,_,_,v,hv=>by cases hv
 | u::us,[],_,r,v,hv=>by cases r
 | u::us,i::row,_,.cons r rs,v,hv=>by
  rcases av.mp hv with rfl | hv
  .cases r
   exact⟨_,_,rfl⟩
  .exact qT rs v hv
theorem AG (i j:Int)(t u:Tok)(A:Around)(s:ax):lj .Lt A s (.int i t) (.int j u) (decide (i<j)):=λprog w E Q h=>richCompare_gives (op:=.Lt) (typeIs_int s _ t) (typeIs_int s _ u) F.slot_int_lt F.entry_int_lt (F.args_int_lt_2 _ _) (gives_int_lt _ _ t u) (λx=>nomatch x) h
theorem jS:∀row:List Int,af.canLayAll0 (row.map af.int)=true
 | []=>rfl
 | i::row=>by simp only[ak,af.canLayAll0,af.canLay0,jS row,Bool.and_self]
theorem oE:∀row:List Int,af.depthAll (row.map af.int)=0
 | []=>rfl
 | i::row=>by simp only[ak,af.depthAll,af.depth,oE row];rfl
noncomputable def vc (h:Heap):List ah->List (Option ah)->Prop
 | [],[]=>True
 | v::vs,f::fs=>(∃a o xs n,v=.ref a/\h.get? a=some o/\o.cls=.type "tuple" /\ o.data=.seq xs n/\xs[0]? = f)/\vc h vs fs
 | _,_=>False
theorem mU:∀(vs:List ah) (fs:List (Option ah)) {Q:List (Option ah)->ax->Prop},vc s.heap vs fs->Q fs s->aG (model prog w) A (vs.mapM firstOfTuple') Q E s
 | [],[],_,_,h=>by rw[List.mapM_nil];exact ap h
 | [],_::_,_,t,_=>t.elim
 | _::_,[],_,t,_=>t.elim
 | v::vs,f::fs,Q,t,h=>by
  obtain⟨⟨a,o,xs,n,rfl,ho,hc,hd,hf⟩,t⟩:=t;rw[cu];refine ag ?_;rw[kas_first_eq];refine ag (W.Looks.here (show W.Looks (model prog w) s.heap (typeOf (.ref a)) o.cls from (W.Looks.ld ho).andThen .now) ?_);rw[hc,if_neg (by first | decide | simp)];refine ag (listItems_at ho hd (ap ?_));rw[hf];exact ag (mU vs fs (Q:=λbs s'=>aG (model prog w) A (pure (f::bs)) Q E s') t (ap h))
theorem tu:∀(vs:List ah),(∀v∈vs,LF s.heap v)->∃fs,vc s.heap vs fs/\∀f∈fs,f=none\/∃i t,f=some (ah.int i t)
 | [],_=>⟨[],trivial,!4⟩
 | v::vs,h=>by
  obtain⟨fs,h1,h2⟩:=tu vs λv hv=>h v (ai _ hv);obtain⟨a,o,xs,n,row,as,rfl,k1,k2,k3,k4⟩:=h v (ar ..);refine⟨xs[0]? :: fs,⟨⟨a,o,xs,n,rfl,k1,k2,k3,rfl⟩,h1⟩,λf hf=>?_⟩;rcases av.mp hf with rfl | hf
  .cases e:xs[0]? with
   | none=>exact .inl rfl
   | some u =>
    obtain⟨i,t,rfl⟩:=qT k4 u (by have:=Array.mem_of_getElem? e;simpa using this);exact .inr ⟨i,t,rfl⟩
  .exact h2 f hf
theorem qU:∀(vs:List ah) (fs:List (Option ah)),vc h vs fs->fs.all (·.isSome)=true->∃gs:List ah,fs=gs.map some/\KatTups h vs gs
 | [],[],_,_=>⟨[],rfl,trivial⟩
 | [],_::_,t,_=>t.elim
 | _::_,[],t,_=>t.elim
 | v::vs,none::fs,_,e=>by simp at e
 | v::vs,some g::fs,t,e=>by
  obtain⟨⟨a,o,xs,n,rfl,ho,hc,hd,hf⟩,t⟩:=t;obtain⟨gs,rfl,k⟩:=qU vs fs t (by simpa using e);exact⟨g::gs,rfl,W.KatTups.cons ho hc hd hf k⟩
theorem o7:∀{vs gs:List ah},KatTups h vs gs->gs.length=vs.length
 | [],[],_=>rfl
 | [],_::_,t=>t.elim
 | _::_,[],t=>t.elim
 | v::vs,g::gs,t=>by rw[ao,ao,o7 t.2]
theorem BU {vs:List ah}(h:∀v∈vs,LF s.heap v)(h2:2<=vs.length):∃κ:SortKind,(κ=tuples' true\/κ=general'\/κ=oneType')/\∀(Q:SortKind->ax->Prop) (E:ah->ax->Prop),Q κ s->aG (model prog w) A (keyKind' vs.toArray) Q E s:=by
 obtain⟨fs,hf,Va⟩:=tu vs h;by_cases mJ:(fs.toArray.all (·.isSome))=true
 .refine⟨tuples' true,.inl rfl,λQ E hq=>?_⟩
  obtain⟨gs,rfl,k⟩:=qU vs fs hf (by simpa using mJ);refine W.kat_kind (T:=ah.type "int") k (by rw[o7 k];omega) (λv hv=>?_) rfl hq;rcases Va (some v) (List.mem_map_of_mem hv) with e | ⟨i,t,e⟩
  .cases e
  .cases e
   exact W.Looks.of_pure rfl
 .by_cases h0:(fs.toArray[0]?.bind id).isSome=true
  .refine⟨general',.inr (.inl rfl),λQ E hq=>?_⟩
   rw[PyProof.Rows.kat_kind_eq,List.mapM_toArray,map_eq_pure_bind];refine ag (ag (mU vs fs hf (ap ?_)));rw[if_neg mJ,if_pos h0];exact ap hq
  .refine⟨oneType',.inr (.inr rfl),λQ E hq=>?_⟩
   rw[PyProof.Rows.kat_kind_eq,List.mapM_toArray,map_eq_pure_bind];refine ag (ag (mU vs fs hf (ap ?_)));rw[if_neg mJ,if_neg h0]
   obtain⟨v₁,rest,rfl⟩:∃v₁ rest,vs=v₁::rest:=by
    match vs,h2 with
    | [],h2=>simp at h2
    | v₁::rest,_=>exact⟨v₁,rest,rfl⟩
   rw[oneTypeOnly'_eq,List.mapM_toArray,map_eq_pure_bind];refine ag (ag (ag (kas_mapM (r:=ah.type "tuple") _ (λv hv Q' hq=>?_) (ap ?_))))
   .obtain⟨a,o,xs,n,row,as,rfl,k1,k2,k3,k4⟩:=h v hv
    refine W.Looks.here ?_ hq;exact (show W.Looks (model prog w) s.heap (typeOf (.ref a)) o.cls from (W.Looks.ld k1).andThen .now) |> λz=>by rw[k2] at z;exact z
   .have OV:((List.map (λ_=>ah.type "tuple") (v₁::rest)).toArray.all λx=>x == ah.type "tuple")=true:=by
     simp only[List.all_toArray,List.all_map,List.all_eq_true];intro _ _;rfl
    have Cu:(List.map (λ_=>ah.type "tuple") (v₁::rest)).toArray[0]? = some (ah.type "tuple"):=by simp
    rw[Cu];simp only[OV,if_true];exact ap (ap hq)
end
noncomputable def xj:af->Option (List Int) | .tuple ds=>i5 ds | _=>none
noncomputable def qV (ds:List af):Option (List (List Int)):=ds.mapM xj
noncomputable def kL (r:List Int):af:=.tuple (r.map .int)
theorem Ek (h:xj d=some r):d=kL r:=by
 cases d with
 | tuple ds=>rw[kL,<- gK h]
 | _=>cases h
theorem yY (rs:List (List Int)):qV (rs.map kL)=some rs:=by
 unfold qV
 induction rs with
 | nil=>rfl
 | cons r rs ih=>rw[ak,cu,ih,kL,xj,hV];rfl
theorem tw:∀{ds:List af} {rs:List (List Int)},qV ds=some rs->ds=rs.map kL
 | [],rs,h=>by cases h;rfl
 | d::ds,rs,h=>by
  unfold qV at h;rw[cu] at h
  cases e1:xj d with
  | none=>rw[e1] at h;cases h
  | some r =>
   cases e:ds.mapM xj with
   | none=>rw[e1,e] at h;cases h
   | some ms =>
    rw[e1,e] at h;cases h;rw[Ek e1,tw (ds:=ds) e];rfl
theorem dW.at:∀{xs:List V} {us:List ah},dW xs us->∀j,j<us.length->RelV (xs.getD j .f') (us.getD j ah.none)
 | _,[],_,j,hj=>absurd hj (c6 _)
 | _,u::us,q,j,hj=>by
  cases q with
  | cons q1 q2 =>
   cases j with
   | zero=>exact q1
   | succ j=>exact dW.at q2 j (bL hj)
theorem dw.TK:∀{ds:List af} {xs:List V},dw S H ds xs->∀j,j<ds.length->dY S H (ds.getD j .none) (xs.getD j .f')
 | [],_,_,j,hj=>absurd hj (c6 _)
 | d::ds,_,r,j,hj=>by
  obtain⟨x,t,rfl,h1,h2⟩:=r.of_cons
  cases j with
  | zero=>exact h1
  | succ j=>exact dw.TK h2 j (bL hj)
theorem dW.pick (q:dW xs us):∀l:List Nat,(∀j∈l,j<us.length)->dW (l.map λj=>xs.getD j .f') (l.map λj=>us.getD j ah.none)
 | [],_=>.nil
 | j::l,h=>.cons (q.at j (h j (ar ..))) (dW.pick q l λk hk=>h k (ai _ hk))
theorem dw.pick {S:List Addr}{H:Hp}{rs:List (List Int)}{xs:List V}(r:dw S H (rs.map kL) xs):∀l:List Nat,(∀j∈l,j<rs.length)->dw S H ((l.map λj=>rs.getD j []).map kL) (l.map λj=>xs.getD j .f')
 | [],_=>.nil
 | j::l,h=>by
  have hj:=h j (ar ..);have:=r.TK j (by rw[au];exact hj);have e:(rs.map kL).getD j .none=kL (rs.getD j []):=by simp[az,hj]
  rw[e] at this;exact .cons this (dw.pick r l λk hk=>h k (ai _ hk))
section
theorem El (rs:List (List Int)):af.canLayAll0 (rs.map kL)=true:=by
 have:∀r:List Int,af.canLayAll0 (r.map .int)=true:=λr=>by
  induction r with
  | nil=>rfl
  | cons a r ih=>simpa [af.canLayAll0,af.canLay0] using ih
 induction rs with
 | nil=>rfl
 | cons r rs ih=>simp only[ak,af.canLayAll0,kL,af.canLay0,this,ih];rfl
end
noncomputable def Hg:Bool->Keyed->Array Keyed->Nat->Nat->Nat->StateT SortSt Sem (Option Nat):=sortPriv% PySem.Builtin.gallop
noncomputable def mE:Nat->StateT SortSt Sem Unit:=sortPriv% PySem.Builtin.setMinGallop
noncomputable def Em:Array Keyed->Array Keyed->StateT SortSt Sem (Array Keyed):=sortPriv% PySem.Builtin.mergeLo
noncomputable def En:Array Keyed->Array Keyed->StateT SortSt Sem (Array Keyed):=sortPriv% PySem.Builtin.mergeHi
noncomputable abbrev mV (st:SortSt)(g:Nat):SortSt:=SortSt.mk' (kindOf st) (arrOf st) (pendingOf st) g (failedOf st)
theorem oF (g:Nat):mE g=modify λs=>mV s g:=rfl
section
theorem eJ {arr:Array Keyed}{i:Nat}{st:SortSt}{Q:Keyed->SortSt->Prop}(hi:i<arr.size)(h:Q arr[i] st):wpS (model prog w) A E s (elem' arr i) Q st:=by
 rw[elem'_eq,getElem?_pos arr i hi];exact wpS_pure h
theorem Hh {β:Type}{a b:Nat}{f:Nat->β->StateT SortSt Sem (ForInStep β)}(I:β->SortSt->Prop)(OW:∀i c st,I c st->wpS (model prog w) A E s (f i c) (λr eh=>match r with | .done c'=>I c' eh | .yield c'=>I c' eh) st){c:β}{st:SortSt}(h:I c st):wpS (model prog w) A E s (forIn [a:b] c f) I st :=
 wpS_forRange (I:=λ_=>I) (λi c st _ _ h=>OW i c st h) (λ_ _ h=>h) h
end
section
variable {prog:aV}{w:World}{A:Around}{E:ah->ax->Prop}{s:ax}
theorem BV {st:SortSt}{g:Nat}{Q:Unit->SortSt->Prop}(h:Q () (mV st g)):wpS (model prog w) A E s (mE g) Q st:=by
 rw[oF];exact wpS_modify h
noncomputable def Lo (a b out:Array Keyed)(ia ib:Nat):Prop:=(out.toList++a.toList.drop ia++b.toList.drop ib).Perm (a.toList++b.toList)
theorem vd (a:Array Keyed)(i:Nat):(a.extract i a.size).toList=a.toList.drop i:=by
 rw[cG,cm,bJ (!4)]
theorem dJ {α:Type}{c:Prop}[Decidable c]{m1 m2:StateT SortSt Sem α}{Q:α->SortSt->Prop}{st:SortSt}(h1:c->wpS (model prog w) A E s m1 Q st)(h2:¬c->wpS (model prog w) A E s m2 Q st):wpS (model prog w) A E s (if c then m1 else m2) Q st:=by
 by_cases h:c
 .rw[if_pos h];exact h1 h
 .rw[if_neg h];exact h2 h
theorem Lo.done (h:Lo a b out ia ib):(out++a.extract ia a.size++b.extract ib b.size).toList.Perm (a.toList++b.toList):=by
 rw[aP,aP,vd,vd];exact h
theorem Lo.last (h:Lo a b out ia ib):(out++b.extract ib b.size++a.extract ia a.size).toList.Perm (a.toList++b.toList):=by
 refine List.Perm.trans ?_ h;rw[aP,aP,vd,vd,aF,aF];exact List.Perm.append_left _ cD
theorem Lo.as (k:Nat)(h:Lo a b out ia ib):Lo a b (out++a.extract ia (ia+k)) (ia+k) ib:=by
 unfold Lo at h ⊢
 have e:a.toList.drop ia=(a.extract ia (ia+k)).toList++a.toList.drop (ia+k):=by
  rw[cG,cm,cO,<- List.drop_drop,List.take_append_drop]
 rw[e] at h;simpa using h
theorem Lo.bs (k:Nat)(h:Lo a b out ia ib):Lo a b (out++b.extract ib (ib+k)) ia (ib+k):=by
 unfold Lo at h ⊢
 have e:b.toList.drop ib=(b.extract ib (ib+k)).toList++b.toList.drop (ib+k):=by
  rw[cG,cm,cO,<- List.drop_drop,List.take_append_drop]
 rw[e] at h;refine List.Perm.trans ?_ h;rw[aP,aF,aF,aF];refine List.Perm.append_left _ ?_;rw[<- aF,<- aF];exact List.Perm.append_right _ cD
theorem Lo.a1 (h:Lo a b out ia ib)(hi:ia<a.size):Lo a b (out.push a[ia]) (ia+1) ib:=by
 have:=h.as 1;rwa [show out++a.extract ia (ia+1)=out.push a[ia] from cJ.mp (by simp[bf,hi,List.take])] at this
theorem Lo.b1 (h:Lo a b out ia ib)(hi:ib<b.size):Lo a b (out.push b[ib]) ia (ib+1):=by
 have:=h.bs 1;rwa [show out++b.extract ib (ib+1)=out.push b[ib] from cJ.mp (by simp[bf,hi,List.take])] at this
structure Mo (a b:Array Keyed) (i:Nat) (out:Array Keyed) (ia ib:Nat):Prop where
 lo:Lo a b out ia ib
 la:ia+1<a.size
 lb:ib<b.size
 up:i<ia+ib
theorem Mo.a1 (h:Mo a b i out ia ib)(e:¬ (ia+1+1 == a.size)=true):Mo a b i (out.push (a[ia]'(by have:=h.la;omega))) (ia+1) ib:=by
 have:=h.la;have:=h.up;rw[beq_iff_eq] at e;exact⟨h.lo.a1 _,!1,h.lb,!1⟩
theorem Mo.as (h:Mo a b i out ia ib)(hk:k<=a.size - ia)(e:¬ (ia+k+1 == a.size)=true)(e':¬ (ia+k == a.size)=true):Mo a b i (out++a.extract ia (ia+k)) (ia+k) ib:=by
 have:=h.la;have:=h.up;rw[beq_iff_eq] at e e';exact⟨h.lo.as k,!1,h.lb,!1⟩
theorem Mo.bs (h:Mo a b i out ia ib)(hk:k<=b.size - ib)(e:¬ (ib+k == b.size)=true):Mo a b i (out++b.extract ib (ib+k)) ia (ib+k):=by
 have:=h.lb;have:=h.up;rw[beq_iff_eq] at e;exact⟨h.lo.bs k,h.la,!1,!1⟩
theorem Mo.b1 (h:Mo a b i out ia ib)(e:¬ (ib+1 == b.size)=true):Mo a b i (out.push (b[ib]'h.lb)) ia (ib+1):=by
 have:=h.lb;have:=h.up;rw[beq_iff_eq] at e;exact⟨h.lo.b1 _,h.la,!1,!1⟩
theorem Mo.lt (h:Mo a b i out ia ib):ia<a.size:=by
 have:=h.la;omega
noncomputable def Hi (a b out:Array Keyed)(na nb:Nat):Prop:=(a.toList.take na++b.toList.take nb++out.toList).Perm (a.toList++b.toList)
theorem pY (a:Array Keyed)(i:Nat):(a.extract 0 i).toList=a.toList.take i:=by
 rw[cG,cm,Nat.sub_zero,List.drop_zero]
theorem Hi.done (h:Hi a b out na nb):(a.extract 0 na++b.extract 0 nb++out.reverse).toList.Perm (a.toList++b.toList):=by
 rw[aP,aP,pY,pY,bZ];exact (List.Perm.append_left _ (de _)).trans h
theorem Hi.first (h:Hi a b out na nb):(b.extract 0 nb++a.extract 0 na++out.reverse).toList.Perm (a.toList++b.toList):=by
 rw[aP,aP,pY,pY,bZ];exact ((List.Perm.append_left _ (de _)).trans (List.Perm.append_right _ cD)).trans h
theorem pZ (a:Array Keyed)(h:k<=n):a.toList.take n=a.toList.take k++(a.extract k n).toList:=by
 rw[cG,cm,show n=k+(n - k) by omega,List.take_add,cO]
theorem Hi.as (h:Hi a b out na nb)(hk:k<=na):Hi a b (out++(a.extract k na).reverse) k nb:=by
 unfold Hi at h ⊢;rw[pZ a hk] at h;refine List.Perm.trans ?_ h;rw[aP,bZ,aF,aF,aF];refine List.Perm.append_left _ ?_;rw[<- aF,<- aF];refine (List.Perm.append_left _ (de _)).trans ?_;exact cD.trans (by rw[aF])
theorem Hi.bs (h:Hi a b out na nb)(hk:k<=nb):Hi a b (out++(b.extract k nb).reverse) na k:=by
 unfold Hi at h ⊢;rw[pZ b hk] at h;refine List.Perm.trans ?_ h;rw[aP,bZ,aF,aF,aF];refine List.Perm.append_left _ (List.Perm.append_left _ ?_);exact (List.Perm.append_left _ (de _)).trans cD
theorem yZ (a:Array Keyed)(h:n<a.size):(a.extract n (n+1)).reverse=#[a[n]]:=cJ.mp (by simp[bf,h,List.take])
theorem Hi.a1 (h:Hi a b out na nb)(h0:0<na)(hi:na - 1<a.size):Hi a b (out.push a[na - 1]) (na - 1) nb:=by
 have:=h.as (Nat.sub_le na 1);have e:=yZ a hi;rw[show na - 1+1=na by omega] at e;rw[e] at this;simpa using this
theorem Hi.b1 (h:Hi a b out na nb)(h0:0<nb)(hi:nb - 1<b.size):Hi a b (out.push b[nb - 1]) na (nb - 1):=by
 have:=h.bs (Nat.sub_le nb 1);have e:=yZ b hi;rw[show nb - 1+1=nb by omega] at e;rw[e] at this;simpa using this
structure Mh (a b:Array Keyed) (i:Nat) (out:Array Keyed) (na nb:Nat):Prop where
 hi:Hi a b out na nb
 la:0<na
 lb:1<nb
 ua:na<a.size
 ub:nb<=b.size
 up:i+na+nb<a.size+b.size
theorem Mh.xa (h:Mh a b i out na nb):na - 1<a.size:=by
 have:=h.ua;omega
theorem Mh.xb (h:Mh a b i out na nb):nb - 1<b.size:=by
 have:=h.ub;have:=h.lb;omega
theorem Mh.a1 (h:Mh a b i out na nb)(e:¬ (na - 1 == 0)=true):Mh a b i (out.push (a[na - 1]'h.xa)) (na - 1) nb:=by
 obtain⟨h1,h2,h3,h4,h5,h6⟩:=h;rw[beq_iff_eq] at e;exact⟨h1.a1 h2 _,!1,h3,!1,h5,!1⟩
theorem Mh.b1 (h:Mh a b i out na nb)(e:¬ (nb - 1 == 1)=true):Mh a b i (out.push (b[nb - 1]'h.xb)) na (nb - 1):=by
 obtain⟨h1,h2,h3,h4,h5,h6⟩:=h;rw[beq_iff_eq] at e;exact⟨h1.b1 (!1) _,h2,!1,h4,!1,!1⟩
theorem Mh.as (h:Mh a b i out na nb)(hk:k<=na)(e:¬ (k == 0)=true):Mh a b i (out++(a.extract k na).reverse) k nb:=by
 obtain⟨h1,h2,h3,h4,h5,h6⟩:=h;rw[beq_iff_eq] at e;exact⟨h1.as hk,!1,h3,!1,h5,!1⟩
theorem Mh.bs (h:Mh a b i out na nb)(hk:k<=nb)(e:¬ (k == 1)=true)(e':¬ (k == 0)=true):Mh a b i (out++(b.extract k nb).reverse) na k:=by
 obtain⟨h1,h2,h3,h4,h5,h6⟩:=h;rw[beq_iff_eq] at e e';exact⟨h1.bs hk,h2,!1,h4,!1,!1⟩
end
section
variable {prog:aV}{w:World}{A:Around}{E:ah->ax->Prop}{s:ax}{a₀:Array Keyed}{κ:SortKind}
noncomputable abbrev Run:=Nat × Nat × Nat
noncomputable def Ch:Nat->List Run->Nat->Prop
 | lo,[],hi=>lo=hi
 | lo,(s,n,_)::l,hi=>s=lo/\1<=n/\Ch (lo+n) l hi
structure Sb (a₀:Array Keyed) (κ:SortKind) (hi:Nat) (st:SortSt):Prop where
 perm:(arrOf st).Perm a₀
 kind:kindOf st=κ
 failed:failedOf st=none
 ch:Ch 0 (pendingOf st).toList hi
 le:hi<=a₀.size
theorem Sb.size {st:SortSt}{hi:Nat}(h:Sb a₀ κ hi st):(arrOf st).size=a₀.size:=h.perm.size_eq
theorem Sb.arr {st:SortSt}{hi:Nat}(h:Sb a₀ κ hi st){xs:Array Keyed}(hp:xs.Perm (arrOf st)):Sb a₀ κ hi (setArr st xs):=⟨hp.trans h.perm,h.kind,h.failed,h.ch,h.le⟩
theorem Sb.g {st:SortSt}{hi:Nat}(h:Sb a₀ κ hi st)(g:Nat):Sb a₀ κ hi (mV st g):=⟨h.perm,h.kind,h.failed,h.ch,h.le⟩
theorem Ch.split:∀{l:List Run} {lo hi i:Nat},Ch lo l hi->i+1<l.length->∃pre sa na p nb q post,l=pre++(sa,na,p)::(sa+na,nb,q)::post/\pre.length=i/\lo<=sa/\1<=na/\1<=nb/\sa+na+nb<=hi/\∀p',Ch lo (pre++(sa,na+nb,p')::post) hi
 | (sa,na,p)::(sb,nb,q)::post,lo,hi,0,h,_=>by
  obtain⟨rfl,h1,rfl,h2,h3⟩:=h
  have le:∀{l:List Run} {lo hi:Nat},Ch lo l hi->lo<=hi:=λ{l}=>by
   induction l with
   | nil=>intro lo hi h;exact Nat.le_of_eq h
   | cons x l ih=>intro lo hi h;exact bu (Nat.le_add_right _ _) (ih h.2.2)
  exact⟨[],_,_,_,_,_,_,rfl,rfl,am _,h1,h2,le h3,λp'=>⟨rfl,!1,by rw[<- Nat.add_assoc];exact h3⟩⟩
 | (s,n,p)::l,lo,hi,i+1,h,wc=>by
  obtain⟨rfl,h1,h2⟩:=h;obtain⟨pre,sa,na,p',nb,q,post,rfl,e,b1,b2,b3,b4,b5⟩:=Ch.split h2 (bL wc);exact⟨(s,n,p)::pre,sa,na,p',nb,q,post,rfl,by rw[ao,e],!1,b2,b3,b4,λp'=>⟨rfl,h1,b5 p'⟩⟩
 | [_],_,_,0,_,h=>by simp at h
 | [],_,_,_,_,h=>by simp at h
theorem Ch.push (h1:1<=n):∀{l:List Run} {lo hi:Nat},Ch lo l hi->Ch lo (l++[(hi,n,p)]) (hi+n)
 | [],lo,hi,h=>⟨h.symm,h1,by rw[show lo=hi from h];rfl⟩
 | _::_,lo,hi,h=>⟨h.1,h.2.1,Ch.push h1 h.2.2⟩
theorem Ch.mod (pw:Nat):∀{l:List Run} {i lo hi:Nat},Ch lo l hi->Ch lo (l.modify i λx=>(x.1,x.2.1,pw)) hi
 | [],i,lo,hi,h=>by simpa using h
 | _::_,0,lo,hi,h=>h
 | _::l,i+1,lo,hi,h=>⟨h.1,h.2.1,Ch.mod pw (l:=l) (i:=i) h.2.2⟩
theorem AH (f:Nat):∀(l:List Keyed) (j:Nat) (xs:Array Keyed),f+j+l.length<=xs.size->((l.zipIdx j).foldl (λa x=>a.setIfInBounds (f+x.2) x.1) xs).toList=xs.toList.take (f+j)++l++xs.toList.drop (f+j+l.length)
 | [],j,xs,_=>by simp
 | z::l,j,xs,h=>by
  rw[ao] at h;rw[List.zipIdx_cons,cZ];dsimp only;rw[AH f l (j+1) _ (by rw[Array.size_setIfInBounds];omega),Array.toList_setIfInBounds,ao];have hz:f+j<xs.toList.length:=by rw[bv];omega
  have e1:(xs.toList.set (f+j) z).take (f+(j+1))=xs.toList.take (f+j)++[z]:=by
   rw[<- Nat.add_assoc,List.take_succ,List.take_set_of_le (am _),cy hz];rfl
  have e2:(xs.toList.set (f+j) z).drop (f+(j+1)+l.length)=xs.toList.drop (f+j+(l.length+1)):=by
   rw[List.drop_set_of_lt (!1)];congr 1;omega
  rw[e1,e2,aF,aF,aF];rfl
end
section
variable {prog:aV}{w:World}{A:Around}{E:ah->ax->Prop}{s:ax}{a₀:Array Keyed}{κ:SortKind}
theorem Hj {x st:SortSt}{Q:PUnit->SortSt->Prop}(h:Q ⟨⟩ x):wpS (model prog w) A E s (set x:StateT SortSt Sem PUnit) Q st:=by
 unfold wpS;rw[StateT.run_set];exact ap ⟨rfl,h⟩
theorem vf {a:Array Keyed}{i j:Nat}{x:Keyed}(h:x∈a.extract i j):x∈a:=by
 obtain⟨k,hk,rfl⟩:=Array.getElem_of_mem h;rw[ck];exact bi _
end
open PySem.W (kas_ask kas_item)
theorem Hk {α:Type}(d:α){l m:List α}(h:l.Perm m):∃p:List Nat,p.Perm (List.range m.length)/\l=p.map λi=>m.getD i d:=by
 induction h with
 | nil=>exact⟨[],.nil,rfl⟩
 | cons x _ ih =>
  obtain⟨p,hp,e⟩:=ih;refine⟨0::p.map (· + 1),?_,?_⟩
  .rw[ao,cA]
   exact (hp.map _).cons 0
  .rw[ak,bA,e]
   rfl
 | swap x y l =>
  refine⟨1::0::(List.range l.length).map (· + 2),?_,?_⟩
  .rw[ao,ao,cA,cA,ak,bA]
   exact .swap ..
  .have e:(List.range l.length).map (λi=>l.getD i d)=l:=di (!4) λi h1 h2=>by simp[az,h2]
   rw[ak,ak,bA];show _=_::_::(List.range l.length).map (λi=>l.getD i d);rw[e];rfl
 | trans _ _ Vb Vc =>
  obtain⟨p,hp,e⟩:=Vb;obtain⟨q,hq,e2⟩:=Vc;have hl:=hq.length_eq;subst e2;rw[au] at hp;refine⟨p.map λi=>q.getD i 0,?_,?_⟩
  .refine List.Perm.trans ?_ hq
   have:=hp.map λi=>q.getD i 0;rwa [show (List.range q.length).map (λi=>q.getD i 0)=q from di (!4) λi h1 h2=>by simp[az,h2]] at this
  .rw[e,bA]
   refine ca λi hi=>?_;have wc:i<q.length:=by simpa using hp.mem_iff.mp hi
   simp[az,wc]
section
variable {prog:aV}{w:World}{A:Around}{E:ah->ax->Prop}{s:ax}{key:Keyed->Int}
noncomputable def qW (prog:aV)(w:World)(A:Around)(s:ax)(key:Keyed->Int)(κ:SortKind)(x y:Keyed):Prop:=∀C:Bool->ax->Prop,C (decide (key x<key y)) s->aG (model prog w) A (keyLt' κ x.1 y.1) C (λ_ _=>False) s
theorem Eo {x y:Keyed}{st:SortSt}{Q:Option Bool->SortSt->Prop}(hc:qW prog w A s key (kindOf st) x y)(h:Q (some (decide (key x<key y))) st):wpS (model prog w) A E s (lt' x y) Q st:=by
 rw[lt'_eq];refine wpS_bind (wpS_get ?_);refine wpS_bind (wpS_lift (wpAny_attempt (b8 (hc (λb s'=>s'=s/\wpS (model prog w) A E s (pure (some b)) Q st) ⟨rfl,wpS_pure h⟩) (λb s' hb=>hb) λ_ _ hF=>hF.elim)))
noncomputable def kA (key:Keyed->Int)(xs:Array Keyed)(i:Nat):Int:=match xs[i]? with | some x=>key x | none=>0
theorem gM (h:i<xs.size):kA key xs i=key xs[i]:=by
 unfold kA;rw[getElem?_pos xs i h]
noncomputable def y0 (left:Bool)(q a:Int):Bool:=if left=true then decide (a<q) else !decide (q<a)
theorem Ep (h:a<=b)(hb:y0 left q b=true):y0 left q a=true:=by
 unfold y0 at hb ⊢
 cases left with
 | true =>
  rw[if_pos rfl,decide_eq_true_eq] at hb ⊢;omega
 | false =>
  rw[if_neg (!2),Bool.not_eq_true',decide_eq_false_iff_not] at hb ⊢;omega
theorem jT {left:Bool}{it:Keyed}{arr:Array Keyed}{base n hint:Nat}{st:SortSt}{Q:Option Nat->SortSt->Prop}(hn:base+n<=arr.size)(hh:hint<n)
  (hc:∀x∈arr,qW prog w A s key (kindOf st) it x/\qW prog w A s key (kindOf st) x it) (hs:∀i j,i<=j->j<n->kA key arr (base+i)<=kA key arr (base+j))
  (h:∀k,k<=n->(∀i,i<k->y0 left (key it) (kA key arr (base+i))=true)->(∀i,k<=i->i<n->y0 left (key it) (kA key arr (base+i))=false)->Q (some k) st):wpS (model prog w) A E s (Hg left it arr base n hint) Q st:=by
 obtain⟨B,hB⟩:∃B:Nat->Bool,∀i,y0 left (key it) (kA key arr (base+i))=B i:=⟨_,λ_=>rfl⟩
 have an:∀i j,i<=j->j<n->B j=true->B i=true:=λi j h1 h2 h3=>by
  rw[<- hB] at h3 ⊢;exact Ep (hs i j h1 h2) h3
 simp only[hB] at h
 have hb:∀{i:Nat} {Q:Option Bool->SortSt->Prop},i<n->Q (some (B i)) st->wpS (model prog w) A E s (elem' arr (base+i) >>= λx=>if left=true then lt' x it else lt' it x >>= λr=>pure (r.map λb=>!b)) Q st:=λ{i Q} hi q=>by
  have gn:base+i<arr.size:=by omega
  refine wpS_bind (eJ gn ?_);have e:=hB i;rw[gM gn] at e;unfold y0 at e
  cases left with
  | true =>
   rw[if_pos rfl] at e ⊢;exact Eo (hc _ (bi _)).2 (e ▸ q)
  | false =>
   rw[if_neg (!2)] at e ⊢;exact wpS_bind (Eo (hc _ (bi _)).1 (wpS_pure (by rw[bS,e];exact q)))
 have OX:∀{f:Nat->Option (Option Nat) × Nat × Nat->StateT SortSt Sem (ForInStep (Option (Option Nat) × Nat × Nat))} {lo hi:Nat},hi<=n->(∀i,i<lo->i<n->B i=true)->(∀i,hi<=i->i<n->B i=false) ->
   (∀i lo hi (Q:ForInStep (Option (Option Nat) × Nat × Nat)->SortSt->Prop),hi<=n->(hi<=lo->Q (.done (none,lo,hi)) st)->(∀m,lo+(hi - lo) / 2=m->m<hi->(B m=true->Q (.yield (none,m+1,hi)) st)/\(B m=false->Q (.yield (none,lo,m)) st))->wpS (model prog w) A E s (f i (none,lo,hi)) Q st) ->
   wpS (model prog w) A E s (forIn [0:n] ((none,lo,hi):Option (Option Nat) × Nat × Nat) f) (λc eh=>eh=st/\∃lo hi,c=(none,lo,hi)/\hi<=n/\(∀i,i<lo->i<n->B i=true)/\(∀i,hi<=i->i<n->B i=false)/\hi<=lo) st:=λ{f lo hi} h1 h2 h3 hf=>by
  refine wpS_forRange (I:=λi c eh=>eh=st/\∃lo hi,c=(none,lo,hi)/\hi<=n/\(∀i,i<lo->i<n->B i=true)/\(∀i,hi<=i->i<n->B i=false)/\hi<=lo+(n - i)) ?_ ?_ ⟨rfl,_,_,rfl,h1,h2,h3,!1⟩
  .rintro i _ st a1 a2 ⟨rfl,lo,hi,rfl,b1,b2,b3,b4⟩
   refine hf i lo hi _ b1 (λmy=>⟨rfl,_,_,rfl,b1,b2,b3,my⟩) λm hm gn=>⟨λe=>⟨rfl,_,_,rfl,b1,λj j1 j2=>an j m (!1) (!1) e,b3,!1⟩,λe=>⟨rfl,_,_,rfl,!1,b2,λj j1 j2=>?_,!1⟩⟩
   cases e2:B j with
   | false=>rfl
   | true=>rw[an m j j1 j2 e2] at e;cases e
  .rintro _ st ⟨rfl,lo,hi,rfl,b1,b2,b3,b4⟩
   exact⟨rfl,_,_,rfl,b1,b2,b3,!1⟩
 refine wpS_bind (hb hh ?_);dsimp only
 cases e0:B hint with
 | true =>
  refine wpS_bind (wpS_mono (wpS_forRange (I:=λi c eh=>eh=st/\∃l u,c=(none,l,u)/\hint+l<n/\B (hint+l)=true/\i+1<=u) (Q:=λc eh=>eh=st/\∃l u,c=(none,l,u)/\hint+l<n/\B (hint+l)=true/\(n - hint<=u\/hint+u<n/\B (hint+u)=false)) ?_ ?_ ⟨rfl,_,_,rfl,hh,e0,am _⟩) ?_)
  .rintro i _ st a1 a2 ⟨rfl,l,u,rfl,b1,b2,b3⟩
   dsimp only;refine dJ (λ_=>wpS_pure ⟨rfl,_,_,rfl,b1,b2,.inl (!1)⟩) λgn=>wpS_bind (hb (!1) ?_);dsimp only
   cases e:B (hint+u) with
   | true=>exact wpS_pure ⟨rfl,_,_,rfl,!1,e,!1⟩
   | false=>exact wpS_pure ⟨rfl,_,_,rfl,b1,b2,.inr ⟨!1,e⟩⟩
  .rintro _ st ⟨rfl,l,u,rfl,b1,b2,b3⟩
   exact⟨rfl,_,_,rfl,b1,b2,.inl (!1)⟩
  .rintro _ st ⟨rfl,l,u,rfl,b1,b2,b3⟩
   have RS:∀i,hint+min u (n - hint)<=i->i<n->B i=false:=λi i1 i2=>by
    rcases b3 with b3 | ⟨b3,b4⟩
    .omega
    .cases e:B i with
     | false=>rfl
     | true=>rw[an (hint+u) i (!1) i2 e] at b4;cases b4
   dsimp only;refine wpS_bind (wpS_mono (OX (lo:=hint+l+1) (hi:=hint+min u (n - hint)) (!1) (λi i1 i2=>an i _ (!1) b1 b2) RS ?_) ?_)
   .intro i lo hi Q q0 q1 q2
    dsimp only;refine dJ (λ_=>wpS_pure (q1 (!1))) λ_=>wpS_bind (hb (!1) ?_);have:=q2 _ rfl (!1);dsimp only
    cases e:B (lo+(hi - lo) / 2) with
    | true=>exact wpS_pure (this.1 e)
    | false=>exact wpS_pure (this.2 e)
   .rintro _ st ⟨rfl,lo,hi,rfl,c1,c2,c3,c4⟩
    exact wpS_pure (h hi c1 (λj hj=>c2 j (!1) (!1)) c3)
 | false =>
  refine wpS_bind (wpS_mono (wpS_forRange (I:=λi c eh=>eh=st/\∃l u,c=(none,l,u)/\l<=hint/\B (hint - l)=false/\i+1<=u) (Q:=λc eh=>eh=st/\∃l u,c=(none,l,u)/\l<=hint/\B (hint - l)=false/\(hint+1<=u\/u<=hint/\B (hint - u)=true)) ?_ ?_ ⟨rfl,_,_,rfl,bF _,e0,am _⟩) ?_)
  .rintro i _ st a1 a2 ⟨rfl,l,u,rfl,b1,b2,b3⟩
   dsimp only;refine dJ (λ_=>wpS_pure ⟨rfl,_,_,rfl,b1,b2,.inl (!1)⟩) λgn=>wpS_bind (hb (!1) ?_);dsimp only
   cases e:B (hint - u) with
   | true=>exact wpS_pure ⟨rfl,_,_,rfl,b1,b2,.inr ⟨!1,e⟩⟩
   | false=>exact wpS_pure ⟨rfl,_,_,rfl,!1,e,!1⟩
  .rintro _ st ⟨rfl,l,u,rfl,b1,b2,b3⟩
   exact⟨rfl,_,_,rfl,b1,b2,.inl (!1)⟩
  .rintro _ st ⟨rfl,l,u,rfl,b1,b2,b3⟩
   have NA:∀i,i<hint+1 - min u (hint+1)->i<n->B i=true:=λi i1 i2=>by
    rcases b3 with b3 | ⟨b3,b4⟩
    .omega
    .exact an i (hint - u) (!1) (!1) b4
   have RS:∀i,hint - l<=i->i<n->B i=false:=λi i1 i2=>by
    cases e:B i with
    | false=>rfl
    | true=>rw[an (hint - l) i i1 i2 e] at b2;cases b2
   dsimp only;refine wpS_bind (wpS_mono (OX (lo:=hint+1 - min u (hint+1)) (hi:=hint - l) (!1) NA RS ?_) ?_)
   .intro i lo hi Q q0 q1 q2
    dsimp only;refine dJ (λ_=>wpS_pure (q1 (!1))) λ_=>wpS_bind (hb (!1) ?_);have:=q2 _ rfl (!1);dsimp only
    cases e:B (lo+(hi - lo) / 2) with
    | true=>exact wpS_pure (this.1 e)
    | false=>exact wpS_pure (this.2 e)
   .rintro _ st ⟨rfl,lo,hi,rfl,c1,c2,c3,c4⟩
    exact wpS_pure (h hi c1 (λj hj=>c2 j (!1) (!1)) c3)
end
section
variable {prog:aV}{w:World}{A:Around}{E:ah->ax->Prop}{s:ax}{key:Keyed->Int}
theorem TL {P:Nat->Prop}{ia k:Nat}(h:∀j,j<k->P (ia+j)):∀i,ia<=i->i<ia+k->P i:=λi h1 h2=>Nat.add_sub_cancel' h1 ▸ h (i - ia) (!1)
theorem TM {P:Nat->Prop}{ia k n:Nat}(h:∀j,k<=j->j<n - ia->P (ia+j)):∀i,ia+k<=i->i<n->P i:=λi h1 h2=>Nat.add_sub_cancel' (show ia<=i by omega) ▸ h (i - ia) (!1) (!1)
noncomputable abbrev Nd (key:Keyed->Int)(l:List Keyed):Prop:=l.Pairwise λx y=>key x<=key y
noncomputable def Sk (key:Keyed->Int)(a:Array Keyed):Prop:=∀i j,i<=j->j<a.size->kA key a i<=kA key a j
theorem gp (h:x∈(a.extract i j).toList):∃k,i<=k/\k<j/\k<a.size/\key x=kA key a k:=by
 obtain⟨k,hk,rfl⟩:=cL h;rw[bv,br] at hk;refine⟨i+k,!1,!1,!1,?_⟩;rw[bo,ck,gM (!1)]
theorem lp (h:Sk key a)(i j:Nat):Nd key (a.extract i j).toList:=by
 refine List.pairwise_iff_getElem.mpr λp q hp hq WM=>?_;rw[bv,br] at hp hq;rw[bo,bo,ck,ck];have:=h (i+p) (i+q) (!1) (!1);rwa [gM (!1),gM (!1)] at this
theorem OY (h:Sk key a):Nd key a.toList:=by
 have:=lp h 0 a.size;rwa [Array.extract_size] at this
theorem AI (out a:Array Keyed)(hi:i<a.size):out++a.extract i (i+1)=out.push a[i]:=cJ.mp (by simp[bf,hi,List.take])
structure sC (key:Keyed->Int) (a b out:Array Keyed) (ia ib:Nat):Prop where
 Er:Nd key out.toList
 ba:∀x∈out.toList,∀i,ia<=i->i<a.size->key x<=kA key a i
 bb:∀x∈out.toList,∀i,ib<=i->i<b.size->key x<=kA key b i
theorem jy (h1:Nd key l)(h2:Nd key m)(h3:∀x∈l,∀y∈m,key x<=key y):Nd key (l++m):=List.pairwise_append.mpr ⟨h1,h2,h3⟩
section
variable {a b out:Array Keyed}{ia ib:Nat}
theorem sC.as (h:sC key a b out ia ib)(sa:Sk key a)(k:Nat)(my:∀i,ia<=i->i<ia+k->i<a.size->∀j,ib<=j->j<b.size->kA key a i<=kA key b j):sC key a b (out++a.extract ia (ia+k)) (ia+k) ib:=by
 refine⟨?_,λx hx i i1 i2=>?_,λx hx i i1 i2=>?_⟩
 .rw[aP]
  refine jy h.Er (lp sa _ _) λx hx y hy=>?_;obtain⟨k,k1,k2,k3,e⟩:=gp (key:=key) hy;rw[e];exact h.ba x hx k k1 k3
 all_goals
  rw[aP] at hx;rcases aK.mp hx with hx | hx
 .exact h.ba x hx i (!1) i2
 .obtain⟨k,k1,k2,k3,e⟩:=gp (key:=key) hx
  rw[e];exact sa _ _ (!1) i2
 .exact h.bb x hx i i1 i2
 .obtain⟨k,k1,k2,k3,e⟩:=gp (key:=key) hx
  rw[e];exact my k k1 k2 k3 i i1 i2
theorem sC.bs (h:sC key a b out ia ib)(sb:Sk key b)(k:Nat)(my:∀i,ib<=i->i<ib+k->i<b.size->∀j,ia<=j->j<a.size->kA key b i<=kA key a j):sC key a b (out++b.extract ib (ib+k)) ia (ib+k):=by
 have:=sC.as (key:=key) (a:=b) (b:=a) (out:=out) (ia:=ib) (ib:=ia) ⟨h.Er,h.bb,h.ba⟩ sb k my;exact⟨this.Er,this.bb,this.ba⟩
theorem sC.a1 (h:sC key a b out ia ib)(sa:Sk key a)(hi:ia<a.size)(my:∀j,ib<=j->j<b.size->kA key a ia<=kA key b j):sC key a b (out.push a[ia]) (ia+1) ib:=by
 have:=h.as sa 1 λi i1 i2 i3 j j1 j2=>by rw[show i=ia by omega];exact my j j1 j2
 rwa [AI out a hi] at this
theorem sC.b1 (h:sC key a b out ia ib)(sb:Sk key b)(hi:ib<b.size)(my:∀j,ia<=j->j<a.size->kA key b ib<=kA key a j):sC key a b (out.push b[ib]) ia (ib+1):=by
 have:=h.bs sb 1 λi i1 i2 i3 j j1 j2=>by rw[show i=ib by omega];exact my j j1 j2
 rwa [AI out b hi] at this
theorem sC.done (h:sC key a b out ia ib)(sa:Sk key a)(sb:Sk key b)(he:a.size<=ia\/b.size<=ib):Nd key (out++a.extract ia a.size++b.extract ib b.size).toList:=by
 rw[aP,aP];refine jy (jy h.Er (lp sa _ _) λx hx y hy=>?_) (lp sb _ _) λx hx y hy=>?_
 .obtain⟨k,k1,k2,k3,e⟩:=gp (key:=key) hy
  rw[e];exact h.ba x hx k k1 k3
 .obtain⟨k,k1,k2,k3,e⟩:=gp (key:=key) hy
  rw[e];rcases aK.mp hx with hx | hx
  .exact h.bb x hx k k1 k3
  .obtain⟨j,j1,j2,j3,_⟩:=gp (key:=key) hx
   omega
theorem sC.last (h:sC key a b out ia ib)(sa:Sk key a)(sb:Sk key b)(hl:∀j,j<b.size->kA key b j<=kA key a (a.size - 1))(he:ia+1=a.size):Nd key (out++b.extract ib b.size++a.extract ia a.size).toList:=by
 rw[aP,aP];refine jy (jy h.Er (lp sb _ _) λx hx y hy=>?_) (lp sa _ _) λx hx y hy=>?_
 .obtain⟨k,k1,k2,k3,e⟩:=gp (key:=key) hy
  rw[e];exact h.bb x hx k k1 k3
 .obtain⟨k,k1,k2,k3,e⟩:=gp (key:=key) hy
  rw[e];rcases aK.mp hx with hx | hx
  .exact h.ba x hx k k1 k3
  .obtain⟨j,j1,j2,j3,e⟩:=gp (key:=key) hx
   rw[e,show k=a.size - 1 by omega];exact hl j j3
end
theorem Es:y0 false q a=true↔a<=q:=by unfold y0;rw[if_neg (!2),Bool.not_eq_true',decide_eq_false_iff_not];omega
theorem y9:y0 false q a=false↔q<a:=by unfold y0;rw[if_neg (!2),Bool.not_eq_false',decide_eq_true_eq]
theorem Et:y0 true q a=true↔a<q:=by unfold y0;rw[if_pos rfl,decide_eq_true_eq]
theorem y':y0 true q a=false↔q<=a:=by unfold y0;rw[if_pos rfl,decide_eq_false_iff_not];omega
inductive P9 {γ:Type} (key:Keyed->Int) (a b:Array Keyed) (st:SortSt) (i:Nat) (P:Nat->Nat->Prop):Option (Array Keyed) × Array Keyed × Nat × Nat × γ->SortSt->Prop
 | mk (out:Array Keyed) (ia ib:Nat) (z:γ) (g:Nat) (m:Mo a b i out ia ib) (o:sC key a b out ia ib) (p:P ia ib):P9 key a b st i P (none,out,ia,ib,z) (mV st g)
inductive P' {γ:Type} (key:Keyed->Int) (a b:Array Keyed) (st:SortSt) (i:Nat):Option (Array Keyed) × Array Keyed × Nat × Nat × γ->SortSt->Prop
 | nx (out:Array Keyed) (ia ib:Nat) (z:γ) (g:Nat) (m:Mo a b i out ia ib) (o:sC key a b out ia ib):P' key a b st i (none,out,ia,ib,z) (mV st g)
 | rt (x out:Array Keyed) (ia ib:Nat) (z:γ) (g:Nat) (h:x.toList.Perm (a.toList++b.toList)) (n:Nd key x.toList):P' key a b st i (some x,out,ia,ib,z) (mV st g)
inductive RT {γ:Type} (key:Keyed->Int) (a b:Array Keyed) (st:SortSt):Option (Array Keyed) × γ->SortSt->Prop
 | mk (x:Array Keyed) (z:γ) (g:Nat) (h:x.toList.Perm (a.toList++b.toList)) (n:Nd key x.toList):RT key a b st (some x,z) (mV st g)
noncomputable abbrev Hl:Nat->Nat->Prop:=λ_ _=>True
theorem BW {a b:Array Keyed}{st:SortSt}{Q:Array Keyed->SortSt->Prop}(ha:1<=a.size)(hb:1<=b.size)(hc:∀x∈a,∀y∈b,qW prog w A s key (kindOf st) x y/\qW prog w A s key (kindOf st) y x)
  (sa:Sk key a) (sb:Sk key b) (Cu:kA key b 0<=kA key a 0) (MC:∀j,j<b.size->kA key b j<=kA key a (a.size - 1))
  (h:∀out g,out.toList.Perm (a.toList++b.toList)->Nd key out.toList->Q out (mV st g)):wpS (model prog w) A E s (Em a b) Q st:=by
 refine wpS_bind (wpS_lift (wpAny_rule ⟨rfl,?_⟩));refine wpS_bind (eJ (!1) ?_)
 have h0:Lo a b #[b[0]] 0 1:=by
  have:=Lo.b1 (a:=a) (b:=b) (out:=#[]) (ia:=0) (ib:=0) (by simp[Lo]) (!1);simpa using this
 have o0:sC key a b #[b[0]] 0 1:=by
  have:=sC.b1 (key:=key) (a:=a) (b:=b) (out:=#[]) (ia:=0) (ib:=0) ⟨!4,!4,!4⟩ sb (!1) λj _ hj=>bE Cu (sa _ _ (bF _) hj);simpa using this
 dsimp only;refine dJ (λe=>wpS_pure (h _ (gallopOf st) h0.done (o0.done sa sb (.inr (by rw[beq_iff_eq] at e;omega))))) λe1=>?_;refine dJ (λe=>wpS_pure (h _ (gallopOf st) h0.last (o0.last sa sb MC (by rw[beq_iff_eq] at e;omega)))) λe2=>?_;refine wpS_bind (wpS_get ?_);rw[beq_iff_eq] at e1 e2;refine wpS_bind (wpS_mono (wpS_forRange (I:=λi=>P9 key a b st i Hl) (Q:=RT key a b st) ?step ?fin (.mk _ _ _ _ (gallopOf st) ⟨h0,!1,!1,!1⟩ o0 trivial)) ?post)
 case post =>
  rintro _ _ ⟨x,t,g',hx,hn⟩;exact wpS_pure (h _ _ hx hn)
 case fin =>
  rintro _ _ ⟨out,ia,ib,g,g',m,o,_⟩;have:=m.la;have:=m.lb;have:=m.up;omega
 case step =>
  rintro i _ _ _ hi ⟨out,ia,ib,g,g',m,o,_⟩;dsimp only;refine wpS_bind (wpS_mono (wpS_forRange (I:=λj=>P9 key a b st i λia ib=>0<j->i+1<ia+ib) (Q:=P' key a b st (i+1)) ?s1 ?f1 (.mk _ _ _ _ _ m o (!1))) ?p1)
  case f1 =>
   rintro _ _ ⟨out,ia,ib,z,g',m,o,hp⟩;exact .nx _ _ _ _ _ ⟨m.lo,m.la,m.lb,hp (!1)⟩ o
  case s1 =>
   rintro j _ _ _ hj ⟨out,ia,ib,⟨ac,bc⟩,g',⟨lo,la,lb,up⟩,o,hp⟩;dsimp only;have LG:ia<a.size:=by omega
   refine wpS_bind (eJ lb (wpS_bind (eJ LG (wpS_bind (Eo (hc _ (bi _) _ (bi _)).2 ?_)))));dsimp only;rw[<- gM (key:=key) lb,<- gM (key:=key) LG];refine dJ (λhw=>wpS_bind (eJ lb ?_)) λhw=>wpS_bind (eJ LG ?_)
   .have hw:kA key b ib<kA key a ia:=of_decide_eq_true hw
    have o1:=o.b1 sb lb λj j1 j2=>bE (cB hw) (sa _ _ j1 j2);refine dJ (λe=>wpS_pure (.rt _ _ _ _ _ _ (lo.b1 lb).done (o1.done sa sb (.inr (by rw[beq_iff_eq] at e;omega))))) λe=>?_;rw[beq_iff_eq] at e;refine dJ (λ_=>wpS_pure (.nx _ _ _ _ _ ⟨lo.b1 lb,la,!1,!1⟩ o1)) λ_=>wpS_pure (.mk _ _ _ _ _ ⟨lo.b1 lb,la,!1,!1⟩ o1 (!1))
   .have hw:kA key a ia<=kA key b ib:=by have:¬ kA key b ib<kA key a ia:=λz=>hw (decide_eq_true z);omega
    have o1:=o.a1 sa LG λj j1 j2=>bE hw (sb _ _ j1 j2);refine dJ (λe=>wpS_pure (.rt _ _ _ _ _ _ (lo.a1 LG).last (o1.last sa sb MC (by rw[beq_iff_eq] at e;omega)))) λe=>?_;rw[beq_iff_eq] at e;refine dJ (λ_=>wpS_pure (.nx _ _ _ _ _ ⟨lo.a1 LG,!1,!1,!1⟩ o1)) λ_=>wpS_pure (.mk _ _ _ _ _ ⟨lo.a1 LG,!1,!1,!1⟩ o1 (!1))
  case p1 =>
   rintro _ _ (⟨out,ia,ib,⟨ac,bc⟩,g',m,o⟩ | ⟨x,out,ia,ib,t,g',hx,hn⟩)
   .dsimp only
    refine wpS_bind (wpS_lift (wpAny_rule ⟨rfl,?_⟩));refine wpS_bind (wpS_mono (wpS_forRange (I:=λ_=>P9 key a b st (i+1) Hl) (Q:=P' key a b st (i+1)) ?s2 ?f2 (.mk _ _ _ _ _ m o trivial)) ?p2)
    case f2 =>
     rintro _ _ ⟨out,ia,ib,z,g',m,o,_⟩;exact .nx _ _ _ _ _ m o
    case p2 =>
     rintro _ _ (⟨out,ia,ib,⟨mg,ac,bc⟩,g',m,o⟩ | ⟨x,out,ia,ib,t,g',hx,hn⟩)
     .exact wpS_bind (BV (wpS_pure (.mk _ _ _ _ _ m o trivial)))
     .exact wpS_pure (.mk _ _ _ hx hn)
    case s2 =>
     rintro j _ _ _ hj ⟨out,ia,ib,⟨mg,ac,bc⟩,g',m,o,_⟩;dsimp only;refine dJ (λ_=>wpS_bind (BV ?_)) λ_=>wpS_bind (BV ?_)
     all_goals
      have hl:=m.la;have Qa:=m.lb;refine wpS_bind (eJ m.lb (wpS_bind (jT (key:=key) (!1) (!1) (λx hx=>⟨(hc x hx _ (bi _)).2,(hc x hx _ (bi _)).1⟩) (λi j h1 h2=>sa _ _ (!1) (!1)) λk hk MD wg=>?_)));rw[<- gM (key:=key) m.lb] at MD wg;have g1:=TL (P:=λi=>kA key a i<=kA key b ib) λj hj=>Es.mp (MD j hj);have g2:=TM (P:=λi=>kA key b ib<=kA key a i) λj h1 h2=>cB (y9.mp (wg j h1 h2));have oA:=o.as sa k λi i1 i2 i3 j j1 j2=>bE (g1 i i1 i2) (sb _ _ j1 j2);dsimp only;refine dJ (λ_=>dJ (λe=>wpS_pure (.rt _ _ _ _ _ _ (m.lo.as k).last (oA.last sa sb MC (by rw[beq_iff_eq] at e;omega)))) λe=>dJ (λe'=>wpS_pure (.rt _ _ _ _ _ _ (m.lo.as k).done (oA.done sa sb (.inl (by rw[beq_iff_eq] at e';omega))))) λe'=>?_) λEu=>?_
      all_goals first
       | (replace m:=m.as hk e e';replace o:=oA)
       | (have Eu:k=0:=(!1);subst Eu;rw[cq] at g2)
      all_goals
       have Qa:=m.lb;have oB:=o.b1 sb m.lb λj j1 j2=>g2 j j1 j2;refine wpS_bind (eJ m.lb (dJ (λe=>wpS_pure (.rt _ _ _ _ _ _ (m.lo.b1 m.lb).done (oB.done sa sb (.inr (by rw[beq_iff_eq] at e;omega))))) λe=>?_));replace m:=m.b1 e;replace o:=oB;have Qa:=m.lb;have Vd:=m.lt;refine wpS_bind (eJ m.lt (wpS_bind (jT (key:=key) (!1) (!1) (λx hx=>hc _ (bi _) x hx) (λi j h1 h2=>sb _ _ (!1) (!1)) λk' FA OZ O0=>?_)));rw[<- gM (key:=key) m.lt] at OZ O0;have q3:=TL (P:=λi=>kA key b i<_) λj hj=>Et.mp (OZ j hj);have oC:=o.bs sb k' λi i1 i2 i3 j j1 j2=>bE (cB (q3 i i1 i2)) (sa _ _ j1 j2);have g3:=TM (P:=λi=>_<=kA key b i) λj h1 h2=>y'.mp (O0 j h1 h2);dsimp only;refine dJ (λ_=>dJ (λe=>wpS_pure (.rt _ _ _ _ _ _ (m.lo.bs k').done (oC.done sa sb (.inr (by rw[beq_iff_eq] at e;omega))))) λe=>?_) λEu=>?_
       all_goals first
        | (replace m:=m.bs FA e;replace o:=oC)
        | (have Eu:k'=0:=(!1);subst Eu;rw[cq] at g3)
       all_goals
        have Vd:=m.lt;have oD:=o.a1 sa m.lt λj j1 j2=>g3 j j1 j2;exact wpS_bind (eJ m.lt (dJ (λe=>wpS_pure (.rt _ _ _ _ _ _ (m.lo.a1 m.lt).last (oD.last sa sb MC (by rw[beq_iff_eq] at e;omega)))) λe=>dJ (λ_=>wpS_pure (.nx _ _ _ _ _ (m.a1 e) oD)) λ_=>wpS_pure (.mk _ _ _ _ _ (m.a1 e) oD trivial)))
   .exact wpS_pure (.mk _ _ _ hx hn)
end
section
variable {prog:aV}{w:World}{A:Around}{E:ah->ax->Prop}{s:ax}{key:Keyed->Int}
structure sD (key:Keyed->Int) (a b out:Array Keyed) (na nb:Nat):Prop where
 Er:Nd key out.toList.reverse
 ba:∀x∈out.toList,∀i,i<na->i<a.size->kA key a i<=key x
 bb:∀x∈out.toList,∀i,i<nb->i<b.size->kA key b i<=key x
section
theorem sD.as (h:sD key a b out na nb)(sa:Sk key a)(hk:k<=na)(my:∀i,k<=i->i<na->i<a.size->∀j,j<nb->j<b.size->kA key b j<=kA key a i):sD key a b (out++(a.extract k na).reverse) k nb:=by
 refine⟨?_,λx hx i i1 i2=>?_,λx hx i i1 i2=>?_⟩
 .rw[aP,bZ,List.reverse_append,List.reverse_reverse]
  refine jy (lp sa _ _) h.Er λx hx y hy=>?_;obtain⟨k,k1,k2,k3,e⟩:=gp (key:=key) hx;rw[e];exact h.ba y (cU.mp hy) k k2 k3
 all_goals
  rw[aP,bZ] at hx;rcases aK.mp hx with hx | hx
 .exact h.ba x hx i (!1) i2
 .obtain⟨k,k1,k2,k3,e⟩:=gp (key:=key) (cU.mp hx)
  rw[e];exact sa _ _ (!1) k3
 .exact h.bb x hx i i1 i2
 .obtain⟨k,k1,k2,k3,e⟩:=gp (key:=key) (cU.mp hx)
  rw[e];exact my k k1 k2 k3 i i1 i2
theorem sD.bs (h:sD key a b out na nb)(sb:Sk key b)(hk:k<=nb)(my:∀i,k<=i->i<nb->i<b.size->∀j,j<na->j<a.size->kA key a j<=kA key b i):sD key a b (out++(b.extract k nb).reverse) na k:=by
 have:=sD.as (key:=key) (a:=b) (b:=a) (out:=out) (na:=nb) (nb:=na) ⟨h.Er,h.bb,h.ba⟩ sb hk my;exact⟨this.Er,this.bb,this.ba⟩
theorem Ew (out a:Array Keyed)(h0:0<n)(h:n - 1<a.size):out++(a.extract (n - 1) n).reverse=out.push a[n - 1]:=by
 have e:=yZ a h;rw[show n - 1+1=n by omega] at e;rw[e];simp
theorem sD.a1 (h:sD key a b out na nb)(sa:Sk key a)(h0:0<na)(hi:na - 1<a.size)(my:∀j,j<nb->j<b.size->kA key b j<=kA key a (na - 1)):sD key a b (out.push a[na - 1]) (na - 1) nb:=by
 have:=h.as sa (Nat.sub_le na 1) λi i1 i2 i3 j j1 j2=>by rw[show i=na - 1 by omega];exact my j j1 j2
 rwa [Ew out a h0 hi] at this
theorem sD.b1 (h:sD key a b out na nb)(sb:Sk key b)(h0:0<nb)(hi:nb - 1<b.size)(my:∀j,j<na->j<a.size->kA key a j<=kA key b (nb - 1)):sD key a b (out.push b[nb - 1]) na (nb - 1):=by
 have:=h.bs sb (Nat.sub_le nb 1) λi i1 i2 i3 j j1 j2=>by rw[show i=nb - 1 by omega];exact my j j1 j2
 rwa [Ew out b h0 hi] at this
theorem sD.done (h:sD key a b out na nb)(sa:Sk key a)(sb:Sk key b)(he:na=0\/nb=0):Nd key (a.extract 0 na++b.extract 0 nb++out.reverse).toList:=by
 rw[aP,aP,bZ];refine jy (jy (lp sa _ _) (lp sb _ _) λx hx y hy=>?_) h.Er λx hx y hy=>?_
 .obtain⟨k,k1,k2,k3,e⟩:=gp (key:=key) hx
  obtain⟨j,j1,j2,j3,_⟩:=gp (key:=key) hy;omega
 .have hy:=cU.mp hy
  rcases aK.mp hx with hx | hx
  .obtain⟨k,k1,k2,k3,e⟩:=gp (key:=key) hx
   rw[e];exact h.ba y hy k k2 k3
  .obtain⟨k,k1,k2,k3,e⟩:=gp (key:=key) hx
   rw[e];exact h.bb y hy k k2 k3
theorem sD.first (h:sD key a b out na nb)(sa:Sk key a)(sb:Sk key b)(Cu:kA key b 0<=kA key a 0)(he:nb<=1):Nd key (b.extract 0 nb++a.extract 0 na++out.reverse).toList:=by
 rw[aP,aP,bZ];refine jy (jy (lp sb _ _) (lp sa _ _) λx hx y hy=>?_) h.Er λx hx y hy=>?_
 .obtain⟨k,k1,k2,k3,e⟩:=gp (key:=key) hx
  obtain⟨j,j1,j2,j3,e'⟩:=gp (key:=key) hy;rw[e,e',show k=0 by omega];exact bE Cu (sa _ _ (bF _) j3)
 .have hy:=cU.mp hy
  rcases aK.mp hx with hx | hx
  .obtain⟨k,k1,k2,k3,e⟩:=gp (key:=key) hx
   rw[e];exact h.bb y hy k k2 k3
  .obtain⟨k,k1,k2,k3,e⟩:=gp (key:=key) hx
   rw[e];exact h.ba y hy k k2 k3
end
inductive Qb {γ:Type} (key:Keyed->Int) (a b:Array Keyed) (st:SortSt) (i:Nat) (P:Nat->Nat->Prop):Option (Array Keyed) × Nat × Nat × Array Keyed × γ->SortSt->Prop
 | mk (na nb:Nat) (out:Array Keyed) (z:γ) (g:Nat) (m:Mh a b i out na nb) (o:sD key a b out na nb) (p:P na nb):Qb key a b st i P (none,na,nb,out,z) (mV st g)
inductive Qc {γ:Type} (key:Keyed->Int) (a b:Array Keyed) (st:SortSt) (i:Nat):Option (Array Keyed) × Nat × Nat × Array Keyed × γ->SortSt->Prop
 | nx (na nb:Nat) (out:Array Keyed) (z:γ) (g:Nat) (m:Mh a b i out na nb) (o:sD key a b out na nb):Qc key a b st i (none,na,nb,out,z) (mV st g)
 | rt (x:Array Keyed) (na nb:Nat) (out:Array Keyed) (z:γ) (g:Nat) (h:x.toList.Perm (a.toList++b.toList)) (n:Nd key x.toList):Qc key a b st i (some x,na,nb,out,z) (mV st g)
theorem BX {a b:Array Keyed}{st:SortSt}{Q:Array Keyed->SortSt->Prop}(ha:1<=a.size)(hb:1<=b.size)(hc:∀x∈a,∀y∈b,qW prog w A s key (kindOf st) x y/\qW prog w A s key (kindOf st) y x)
  (sa:Sk key a) (sb:Sk key b) (Cu:kA key b 0<=kA key a 0) (MC:∀j,j<b.size->kA key b j<=kA key a (a.size - 1))
  (h:∀out g,out.toList.Perm (a.toList++b.toList)->Nd key out.toList->Q out (mV st g)):wpS (model prog w) A E s (En a b) Q st:=by
 refine wpS_bind (wpS_lift (wpAny_rule ⟨rfl,?_⟩));refine wpS_bind (eJ (!1) ?_)
 have h0:Hi a b #[a[a.size - 1]] (a.size - 1) b.size:=by
  have:=Hi.a1 (a:=a) (b:=b) (out:=#[]) (na:=a.size) (nb:=b.size) (by simp[Hi,bJ]) (!1) (!1);simpa using this
 have o0:sD key a b #[a[a.size - 1]] (a.size - 1) b.size:=by
  have:=sD.a1 (key:=key) (a:=a) (b:=b) (out:=#[]) (na:=a.size) (nb:=b.size) ⟨!4,!4,!4⟩ sa (!1) (!1) λj j1 _=>MC j j1;simpa using this
 dsimp only;refine dJ (λe=>wpS_pure (h _ (gallopOf st) h0.done (o0.done sa sb (.inl (by rw[beq_iff_eq] at e;omega))))) λe1=>?_;refine dJ (λe=>wpS_pure (h _ (gallopOf st) h0.first (o0.first sa sb Cu (by rw[beq_iff_eq] at e;omega)))) λe2=>?_;refine wpS_bind (wpS_get ?_);rw[beq_iff_eq] at e1 e2;refine wpS_bind (wpS_mono (wpS_forRange (I:=λi=>Qb key a b st i Hl) (Q:=RT key a b st) ?step ?fin (.mk _ _ _ _ (gallopOf st) ⟨h0,!1,!1,!1,!1,!1⟩ o0 trivial)) ?post)
 case post =>
  rintro _ _ ⟨x,t,g',hx,hn⟩;exact wpS_pure (h _ _ hx hn)
 case fin =>
  rintro _ _ ⟨na,nb,out,g,g',m,o,_⟩;have:=m.up;omega
 case step =>
  rintro i _ _ _ hi ⟨na,nb,out,g,g',m,o,_⟩;dsimp only;refine wpS_bind (wpS_mono (wpS_forRange (I:=λj=>Qb key a b st i λna nb=>0<j->i+1+na+nb<a.size+b.size) (Q:=Qc key a b st (i+1)) ?s1 ?f1 (.mk _ _ _ _ _ m o (!1))) ?p1)
  case f1 =>
   rintro _ _ ⟨na,nb,out,z,g',m,o,hp⟩;exact .nx _ _ _ _ _ ⟨m.hi,m.la,m.lb,m.ua,m.ub,hp (!1)⟩ o
  case s1 =>
   rintro j _ _ _ hj ⟨na,nb,out,⟨ac,bc⟩,g',m,o,hp⟩;dsimp only;have:=m.la;have:=m.lb;have:=m.up;refine wpS_bind (eJ m.xb (wpS_bind (eJ m.xa (wpS_bind (Eo (hc _ (bi _) _ (bi _)).2 ?_)))));dsimp only;rw[<- gM (key:=key) m.xb,<- gM (key:=key) m.xa];refine dJ (λhw=>wpS_bind (eJ m.xa ?_)) λhw=>wpS_bind (eJ m.xb ?_)
   .have hw:kA key b (nb - 1)<kA key a (na - 1):=of_decide_eq_true hw
    have o1:=o.a1 sa m.la m.xa λj j1 j2=>bE (sb _ _ (!1) m.xb) (cB hw);refine dJ (λe=>wpS_pure (.rt _ _ _ _ _ _ (m.hi.a1 m.la m.xa).done (o1.done sa sb (.inl (by rw[beq_iff_eq] at e;omega))))) λe=>?_;have m1:=m.a1 e;refine dJ (λ_=>wpS_pure (.nx _ _ _ _ _ ⟨m1.hi,m1.la,m1.lb,m1.ua,m1.ub,!1⟩ o1)) λ_=>wpS_pure (.mk _ _ _ _ _ m1 o1 (!1))
   .have hw:kA key a (na - 1)<=kA key b (nb - 1):=by have:¬ kA key b (nb - 1)<kA key a (na - 1):=λz=>hw (decide_eq_true z);omega
    have o1:=o.b1 sb (!1) m.xb λj j1 j2=>bE (sa _ _ (!1) m.xa) hw;refine dJ (λe=>wpS_pure (.rt _ _ _ _ _ _ (m.hi.b1 (!1) m.xb).first (o1.first sa sb Cu (by rw[beq_iff_eq] at e;omega)))) λe=>?_;have m1:=m.b1 e;refine dJ (λ_=>wpS_pure (.nx _ _ _ _ _ ⟨m1.hi,m1.la,m1.lb,m1.ua,m1.ub,!1⟩ o1)) λ_=>wpS_pure (.mk _ _ _ _ _ m1 o1 (!1))
  case p1 =>
   rintro _ _ (⟨na,nb,out,⟨ac,bc⟩,g',m,o⟩ | ⟨x,na,nb,out,t,g',hx,hn⟩)
   .dsimp only
    refine wpS_bind (wpS_lift (wpAny_rule ⟨rfl,?_⟩));refine wpS_bind (wpS_mono (wpS_forRange (I:=λ_=>Qb key a b st (i+1) Hl) (Q:=Qc key a b st (i+1)) ?s2 ?f2 (.mk _ _ _ _ _ m o trivial)) ?p2)
    case f2 =>
     rintro _ _ ⟨na,nb,out,z,g',m,o,_⟩;exact .nx _ _ _ _ _ m o
    case p2 =>
     rintro _ _ (⟨na,nb,out,⟨mg,ac,bc⟩,g',m,o⟩ | ⟨x,na,nb,out,t,g',hx,hn⟩)
     .exact wpS_bind (BV (wpS_pure (.mk _ _ _ _ _ m o trivial)))
     .exact wpS_pure (.mk _ _ _ hx hn)
    case s2 =>
     rintro j _ _ _ hj ⟨na,nb,out,⟨mg,ac,bc⟩,g',m,o,_⟩;dsimp only;refine dJ (λ_=>wpS_bind (BV ?_)) λ_=>wpS_bind (BV ?_)
     all_goals
      have h1:=m.la;have h2:=m.ua;have h5:=m.ub;refine wpS_bind (eJ m.xb (wpS_bind (jT (key:=key) (!1) (!1) (λx hx=>⟨(hc x hx _ (bi _)).2,(hc x hx _ (bi _)).1⟩) (λi j q1 q2=>sa _ _ (!1) (!1)) λk hk MD wg=>?_)));rw[<- gM (key:=key) m.xb] at MD wg
      have g1:∀i,i<k->kA key a i<=kA key b (nb - 1):=λi i1=>by
       have:=Es.mp (MD i i1);rwa [c9] at this
      have g2:∀i,k<=i->i<na->kA key b (nb - 1)<=kA key a i:=λi i1 i2=>by
       have:=y9.mp (wg i i1 i2);rw[c9] at this;omega
      have Ve:=m.xb;have oA:=o.as sa hk λi i1 i2 i3 j j1 j2=>bE (sb _ _ (!1) Ve) (g2 i i1 i2);dsimp only;refine dJ (λ_=>dJ (λe=>wpS_pure (.rt _ _ _ _ _ _ (m.hi.as hk).done (oA.done sa sb (.inl (by rw[beq_iff_eq] at e;omega))))) λe=>?_) λEu=>?_
      all_goals first
       | (replace m:=m.as hk e;replace o:=oA)
       | (have Eu:k=na:=(!1);subst Eu)
      all_goals
       have h3:=m.lb;have oB:=o.b1 sb (!1) m.xb λj j1 j2=>g1 j j1;refine wpS_bind (eJ m.xb (dJ (λe=>wpS_pure (.rt _ _ _ _ _ _ (m.hi.b1 (!1) m.xb).first (oB.first sa sb Cu (by rw[beq_iff_eq] at e;omega)))) λe=>?_));replace m:=m.b1 e;replace o:=oB;have h4:=m.lb;have h5:=m.ub;have h6:=m.la;have h7:=m.ua;refine wpS_bind (eJ m.xa (wpS_bind (jT (key:=key) (!1) (!1) (λx hx=>hc _ (bi _) x hx) (λi j q1 q2=>sb _ _ (!1) (!1)) λk' FA OZ O0=>?_)));rw[<- gM (key:=key) m.xa] at OZ O0
       have g3:∀i,i<k'->kA key b i<=_:=λi i1=>by
        have:=Et.mp (OZ i i1);rw[c9] at this;exact cB this
       have Vf:=m.xa
       have oC:=o.bs sb FA λi i1 i2 i3 j j1 j2=>by
        have:=y'.mp (O0 i i1 i2);rw[c9] at this;exact bE (sa _ _ (!1) Vf) this
       dsimp only;refine dJ (λ_=>dJ (λe=>wpS_pure (.rt _ _ _ _ _ _ (m.hi.bs FA).first (oC.first sa sb Cu (by rw[beq_iff_eq] at e;omega)))) λe=>dJ (λe'=>wpS_pure (.rt _ _ _ _ _ _ (m.hi.bs FA).done (oC.done sa sb (.inr (by rw[beq_iff_eq] at e';omega))))) λe'=>?_) λEu=>?_
       all_goals first
        | (replace m:=m.bs FA e e';replace o:=oC)
        | (have Eu:k'=_:=Nat.le_antisymm FA (!1);subst Eu)
       all_goals
        have oD:=o.a1 sa m.la m.xa λj j1 j2=>g3 j j1;exact wpS_bind (eJ m.xa (dJ (λe=>wpS_pure (.rt _ _ _ _ _ _ (m.hi.a1 m.la m.xa).done (oD.done sa sb (.inl (by rw[beq_iff_eq] at e;omega))))) λe=>dJ (λ_=>wpS_pure (.nx _ _ _ _ _ (m.a1 e) oD)) λ_=>wpS_pure (.mk _ _ _ _ _ (m.a1 e) oD trivial)))
   .exact wpS_pure (.mk _ _ _ hx hn)
end
section
variable {prog:aV}{w:World}{A:Around}{E:ah->ax->Prop}{s:ax}{a₀:Array Keyed}{κ:SortKind}{key:Keyed->Int}
noncomputable def Sg (key:Keyed->Int)(xs:Array Keyed)(lo hi:Nat):Prop:=∀i j,lo<=i->i<=j->j<hi->kA key xs i<=kA key xs j
noncomputable def Dg (key:Keyed->Int)(xs:Array Keyed)(lo hi:Nat):Prop:=∀i j,lo<=i->i<=j->j<hi->kA key xs j<=kA key xs i
theorem Sg.more {xs:Array Keyed}{lo m:Nat}(h:Sg key xs lo m)(h1:lo<m)(h2:kA key xs (m - 1)<=kA key xs m):Sg key xs lo (m+1):=λi j i1 i2 i3=>by
 by_cases hj:j=m
 .subst hj
  by_cases hi:i=j
  .subst hi;exact bz _
  .exact bE (h i (j - 1) i1 (!1) (!1)) h2
 .exact h i j i1 i2 (!1)
theorem Dg.more {xs:Array Keyed}{lo m:Nat}(h:Dg key xs lo m)(h1:lo<m)(h2:kA key xs m<=kA key xs (m - 1)):Dg key xs lo (m+1):=λi j i1 i2 i3=>by
 by_cases hj:j=m
 .subst hj
  by_cases hi:i=j
  .subst hi;exact bz _
  .exact bE h2 (h i (j - 1) i1 (!1) (!1))
 .exact h i j i1 i2 (!1)
theorem Sg.one (xs:Array Keyed)(lo:Nat):Sg key xs lo (lo+1):=λi j i1 i2 i3=>by rw[show i=j by omega];exact bz _
theorem Sg.za {xs ys:Array Keyed}{lo hi:Nat}(h:Sg key xs lo hi)(e:∀i,lo<=i->i<hi->kA key ys i=kA key xs i):Sg key ys lo hi:=λi j i1 i2 i3=>by
 rw[e i i1 (!1),e j (!1) i3];exact h i j i1 i2 i3
theorem Dg.za {xs ys:Array Keyed}{lo hi:Nat}(h:Dg key xs lo hi)(e:∀i,lo<=i->i<hi->kA key ys i=kA key xs i):Dg key ys lo hi:=λi j i1 i2 i3=>by
 rw[e i i1 (!1),e j (!1) i3];exact h i j i1 i2 i3
theorem Ch.within:∀{l:List Run} {lo hi:Nat},Ch lo l hi->lo<=hi/\∀r∈l,lo<=r.1/\r.1+r.2.1<=hi
 | [],lo,hi,h=>⟨Nat.le_of_eq h,!4⟩
 | (s,n,p)::l,lo,hi,h=>by
  obtain⟨rfl,h1,h2⟩:=h;obtain⟨h3,h4⟩:=Ch.within h2;refine⟨!1,λr hr=>?_⟩;rcases av.mp hr with rfl | hr
  .exact⟨am _,h3⟩
  .have:=h4 r hr
   omega
structure So (key:Keyed->Int) (a₀:Array Keyed) (κ:SortKind) (hi:Nat) (st:SortSt):Prop where
 sb:Sb a₀ κ hi st
 seg:∀r∈(pendingOf st).toList,Sg key (arrOf st) r.1 (r.1+r.2.1)
theorem So.arr {st:SortSt}{hi:Nat}(h:So key a₀ κ hi st){xs:Array Keyed}(hp:xs.Perm (arrOf st))(e:∀i,i<hi->kA key xs i=kA key (arrOf st) i):So key a₀ κ hi (setArr st xs) :=
 ⟨h.sb.arr hp,λr hr=>(h.seg r hr).za λi i1 i2=>e i (by have:=(Ch.within h.sb.ch).2 r hr;omega)⟩
noncomputable def Call3 (prog:aV)(w:World)(A:Around)(s:ax)(key:Keyed->Int)(κ:SortKind)(a₀:Array Keyed):Prop:=∀x∈a₀,∀y∈a₀,qW prog w A s key κ x y
theorem So.cmp {st:SortSt}{hi:Nat}(h:So key a₀ κ hi st)(hc:Call3 prog w A s key κ a₀){x y:Keyed}(hx:x∈arrOf st)(hy:y∈arrOf st):qW prog w A s key (kindOf st) x y:=by
 rw[h.sb.kind];exact hc x (h.sb.perm.mem_iff.mp hx) y (h.sb.perm.mem_iff.mp hy)
theorem So.lt {st:SortSt}{hi i j:Nat}{Q:Option Bool->SortSt->Prop}(h:So key a₀ κ hi st)(hc:Call3 prog w A s key κ a₀)(hi:i<a₀.size)(hj:j<a₀.size)(q:Q (some (decide (kA key (arrOf st) i<kA key (arrOf st) j))) st):wpS (model prog w) A E s (ltAt' i j) Q st:=by
 rw[ltAt'_eq];have e:=h.sb.size;rw[gM (!1),gM (!1)] at q;refine wpS_bind (wpS_get (wpS_bind (eJ (!1) (wpS_bind (eJ (!1) (Eo ?_ q))))));exact h.cmp hc (bi _) (bi _)
theorem Ey {α:Type}{r:Option α}{lo n kM hi:Nat}{st:SortSt}{f:Nat->Option α × Nat->StateT SortSt Sem (ForInStep (Option α × Nat))}{Q:Option α × Nat->SortSt->Prop}(h:So key a₀ κ hi st)(hc:Call3 prog w A s key κ a₀)(hl:lo+kM<=a₀.size)(h1:1<=n)(hn:n<=kM)(hs:Sg key (arrOf st) lo (lo+n))
  (hf:∀i m,f i (none,m)=ltAt' (lo+m) (lo+m - 1) >>= λx=>match x with | some b=>if b=true then pure (ForInStep.done (none,m)) else pure (ForInStep.yield (none,m+1)) | none=>pure (ForInStep.done (r,m)))
  (q:∀m,n<=m->m<=kM->Sg key (arrOf st) lo (lo+m)->(m<kM->kA key (arrOf st) (lo+m)<kA key (arrOf st) (lo+m - 1))->Q (none,m) st):wpS (model prog w) A E s (forIn [n:kM] ((none,n):Option α × Nat) f) Q st:=by
 refine wpS_forRange (I:=λx c eh=>eh=st/\c=(none,x)/\Sg key (arrOf st) lo (lo+x)) ?_ ?_ ⟨rfl,rfl,hs⟩
 .rintro x _ st a1 a2 ⟨rfl,rfl,hx⟩
  rw[hf];refine wpS_bind (h.lt hc (!1) (!1) ?_);by_cases gn:kA key (arrOf st) (lo+x)<kA key (arrOf st) (lo+x - 1)
  .rw[decide_eq_true gn]
   exact wpS_pure (q _ a1 (!1) hx λ_=>gn)
  .rw[decide_eq_false gn]
   exact wpS_pure ⟨rfl,rfl,hx.more (!1) (!1)⟩
 .rintro _ st ⟨rfl,rfl,hx⟩
  rw[show max n kM=kM by omega] at hx ⊢;exact q _ hn (am _) hx λz=>absurd z (bN _)
theorem xk {i j lo:Nat}{st:SortSt}{Q:Unit->SortSt->Prop}(h:So key a₀ κ lo st)(hi:lo<=i)(hj:j<=a₀.size)(q:∀eh,So key a₀ κ lo eh->(∀k,kA key (arrOf eh) k=if i<=k/\k<j then kA key (arrOf st) (i+j - 1 - k) else kA key (arrOf st) k)->Q () eh):wpS (model prog w) A E s (reverseSlice' i j) Q st:=by
 rw[reverseSlice'_eq]
 have e:∀k,kA key (mirror (arrOf st) i j ((j - i) / 2)) k=if i<=k/\k<j then kA key (arrOf st) (i+j - 1 - k) else kA key (arrOf st) k:=λk=>by
  have:=getElem?_mirror_all (xs:=arrOf st) (i:=i) (j:=j) (by rw[h.sb.size];exact hj) k;unfold kA;rw[this];by_cases hk:i<=k/\k<j
  .rw[if_pos hk,if_pos hk]
  .rw[if_neg hk,if_neg hk]
 refine wpS_modify (q _ (h.arr (mirror_perm _ _ _ _) λk hk=>?_) e);rw[e,if_neg (!1)]
theorem zc {lo kM:Nat}{st:SortSt}{Q:Option Nat->SortSt->Prop}(h:So key a₀ κ lo st)(hc:Call3 prog w A s key κ a₀)(hl:lo+kM<=a₀.size)(h1:1<=kM)
  (q:∀m eh,So key a₀ κ lo eh->1<=m->m<=kM->Sg key (arrOf eh) lo (lo+m)->Q (some m) eh):wpS (model prog w) A E s (countRun' lo kM) Q st:=by
 rw[countRun'_eq];refine wpS_bind (Ey (r:=some none) h hc hl (am 1) h1 (Sg.one _ _) (λi m=>bind_congr λx=>by cases x<;>rfl) λm m1 m2 hs RU=>?_);dsimp only;refine dJ (λ_=>wpS_pure (q _ _ h m1 m2 hs)) λe=>?_;rw[beq_iff_eq] at e;have RU:=RU (!1)
 have go:∀eh,So key a₀ κ lo eh->Dg key (arrOf eh) lo (lo+(m+1))->∀{f:Nat->Option (Option Nat) × Nat × Nat->StateT SortSt Sem (ForInStep (Option (Option Nat) × Nat × Nat))},
   (∀x vI eh (Q:ForInStep (Option (Option Nat) × Nat × Nat)->SortSt->Prop),So key a₀ κ lo eh->m+1<=x->x<kM->vI<x->(∀i,lo+x - (vI+1)<=i->i<lo+x->kA key (arrOf eh) i=kA key (arrOf eh) (lo+x - 1)) ->
    (kA key (arrOf eh) (lo+x)<kA key (arrOf eh) (lo+x - 1)->∀Hm,So key a₀ κ lo Hm->(∀k,kA key (arrOf Hm) k=kA key (arrOf eh) k)->Q (.yield (none,x+1,0)) Hm) ->
    (kA key (arrOf eh) (lo+x - 1)<kA key (arrOf eh) (lo+x)->Q (.done (none,x,vI)) eh)->(kA key (arrOf eh) (lo+x)=kA key (arrOf eh) (lo+x - 1)->Q (.yield (none,x+1,vI+1)) eh)->wpS (model prog w) A E s (f x (none,x,vI)) Q eh) ->
   wpS (model prog w) A E s (forIn [m+1:kM] ((none,m+1,0):Option (Option Nat) × Nat × Nat) f) (λc eh=>∃x vI,c=(none,x,vI)/\m+1<=x/\x<=kM/\So key a₀ κ lo eh/\Dg key (arrOf eh) lo (lo+x)/\vI<x/\∀i,lo+x - (vI+1)<=i->i<lo+x->kA key (arrOf eh) i=kA key (arrOf eh) (lo+x - 1)) eh:=λeh h hd f hf=>by
  refine wpS_forRange (I:=λx c eh=>∃vI,c=(none,x,vI)/\m+1<=x/\x<=kM/\So key a₀ κ lo eh/\Dg key (arrOf eh) lo (lo+x)/\vI<x/\∀i,lo+x - (vI+1)<=i->i<lo+x->kA key (arrOf eh) i=kA key (arrOf eh) (lo+x - 1)) ?_ ?_ ⟨_,rfl,am _,!1,h,hd,!1,λi i1 i2=>by rw[show i=lo+(m+1) - 1 by omega]⟩
  .rintro x _ st a1 a2 ⟨vI,rfl,b1,b2,h,hd,b3,b4⟩
   refine hf x vI st _ h b1 a2 b3 b4 (λgn Hm h2 e2=>⟨_,rfl,!1,!1,h2,?_,!1,λi i1 i2=>by rw[show i=lo+(x+1) - 1 by omega]⟩) (λgn=>⟨_,_,rfl,b1,b2,h,hd,b3,b4⟩) λVg=>⟨_,rfl,!1,!1,h,Dg.more (m:=lo+x) hd (!1) (!1),!1,λi i1 i2=>?_⟩
   .refine Dg.za (Dg.more (m:=lo+x) hd (!1) (!1)) λi _ _=>e2 i
   .by_cases hi:i=lo+x
    .rw[hi];rfl
    .rw[b4 i (!1) (!1),<- Vg];rfl
  .rintro _ st ⟨vI,rfl,b1,b2,h,hd,b3,b4⟩
   rw[show max (m+1) kM=kM by omega] at *;exact⟨_,_,rfl,b1,b2,h,hd,b3,b4⟩
 have hD:∀eh,So key a₀ κ lo eh->(∀k,kA key (arrOf eh) k=kA key (arrOf st) k)->(m > 1->¬ kA key (arrOf st) lo<kA key (arrOf st) (lo+m - 1))->Dg key (arrOf eh) lo (lo+(m+1)):=λeh _ e2 hr=>by
  refine Dg.za (Dg.more (m:=lo+m) (λi j i1 i2 i3=>?_) (!1) (cB RU)) λi _ _=>e2 i;by_cases hm:m > 1
  .have:=hr hm
   have a:=hs lo i (am _) i1 (!1);have b:=hs j (lo+m - 1) (!1) (!1) (!1);omega
  .rw[show i=j by omega];exact bz _
 refine dJ (λhm=>wpS_bind (h.lt hc (!1) (!1) (dJ (λ_=>wpS_pure (q _ _ h m1 m2 hs)) λhr=>wpS_bind (xk h (am _) (!1) λF6 h2 e2=>?_)))) λhm=>?_;have hr:¬ kA key (arrOf st) lo<kA key (arrOf st) (lo+m - 1):=λz=>hr (decide_eq_true z)
 have e2:∀k,kA key (arrOf F6) k=kA key (arrOf st) k:=λk=>by
  rw[e2];split
  .rename_i hk
   have a1:=hs lo k (am _) hk.1 (!1);have a2:=hs k (lo+m - 1) (!1) (!1) (!1);have a3:=hs lo (lo+(lo+m) - 1 - k) (am _) (!1) (!1);have a4:=hs (lo+(lo+m) - 1 - k) (lo+m - 1) (!1) (!1) (!1);omega
  .rfl
 have hd:=hD F6 h2 e2 λ_=>hr;clear e2;generalize F6=st at h2 hd ⊢;replace h:=h2
 rotate_left
 have hd:=hD st h (λk=>rfl) λz=>absurd z hm
 all_goals
  refine wpS_bind (wpS_lift (wpAny_rule ⟨rfl,wpS_bind (wpS_mono (go st h hd ?_) ?_)⟩))
  .intro x vI eh Q h c1 c2 c3 c4 k1 k2 k3
   dsimp only;refine wpS_bind (h.lt hc (!1) (!1) (dJ (λhw=>?_) λhw=>wpS_bind (h.lt hc (!1) (!1) (dJ (λRV=>wpS_pure (k2 (of_decide_eq_true RV))) λRV=>wpS_pure (k3 ?_)))))
   .have hw:=of_decide_eq_true hw
    refine dJ (λhq=>wpS_bind (xk h (!1) (!1) λye h3 e3=>wpS_pure (k1 hw ye h3 λk=>?_))) λhq=>wpS_pure (k1 hw eh h λk=>rfl);rw[e3];split
    .rw[c4 k (!1) (!1),c4 _ (!1) (!1)]
    .rfl
   .have:¬ kA key (arrOf eh) (lo+x)<kA key (arrOf eh) (lo+x - 1):=λz=>hw (decide_eq_true z)
    have:¬ kA key (arrOf eh) (lo+x - 1)<kA key (arrOf eh) (lo+x):=λz=>RV (decide_eq_true z);omega
  .rintro _ st ⟨x,vI,rfl,x1,x2,h,hd,c3,c4⟩
   dsimp only;refine dJ (λ_=>wpS_bind (xk h (!1) (!1) λye h3 e3=>wpS_bind (xk h3 (am _) (!1) λVh h4 e4=>?_))) λ_=>wpS_bind (xk h (am _) (!1) λVh h4 e4=>?_)
   .have e3:∀k,kA key (arrOf ye) k=kA key (arrOf st) k:=λk=>by
     rw[e3];split
     .rw[c4 k (!1) (!1),c4 _ (!1) (!1)]
     .rfl
    refine wpS_bind (Ey (r:=some none) h4 hc hl (!1) x2 (λi j i1 i2 i3=>?_) (λi m=>bind_congr λx=>by cases x<;>rfl) λm m1 m2 hs _=>wpS_pure (q _ _ h4 (!1) m2 hs));rw[e4,e4,if_pos ⟨!1,!1⟩,if_pos ⟨!1,!1⟩,e3,e3];exact hd _ _ (!1) (!1) (!1)
   .refine wpS_bind (Ey (r:=some none) h4 hc hl (!1) x2 (λi j i1 i2 i3=>?_) (λi m=>bind_congr λx=>by cases x<;>rfl) λm m1 m2 hs _=>wpS_pure (q _ _ h4 (!1) m2 hs))
    rw[e4,e4,if_pos ⟨!1,!1⟩,if_pos ⟨!1,!1⟩];exact hd _ _ (!1) (!1) (!1)
end
section
variable {prog:aV}{w:World}{A:Around}{E:ah->ax->Prop}{s:ax}{a₀:Array Keyed}{κ:SortKind}{key:Keyed->Int}
theorem BY (hs:src<xs.size)(hd:d<=src)(k:Nat):kA key (bubble xs src d) k=if k=src - d then kA key xs src else if src - d<k/\k<=src then kA key xs (k - 1) else kA key xs k:=by
 have e:=getElem?_bubble hs d hd k;unfold kA;rw[e];by_cases h1:k=src - d
 .rw[if_pos h1,if_pos h1]
 .rw[if_neg h1,if_neg h1]
  by_cases h2:src - d<k/\k<=src
  .rw[if_pos h2,if_pos h2]
  .rw[if_neg h2,if_neg h2]
theorem vg {lo n ok:Nat}{st:SortSt}{Q:Bool->SortSt->Prop}(h:So key a₀ κ lo st)(hc:Call3 prog w A s key κ a₀)(hl:lo+n<=a₀.size)(h1:1<=ok)(h2:ok<=n)(hs:Sg key (arrOf st) lo (lo+ok))(q:∀eh,So key a₀ κ lo eh->Sg key (arrOf eh) lo (lo+n)->Q true eh):wpS (model prog w) A E s (binarySort' lo n ok) Q st:=by
 rw[binarySort'_eq];refine wpS_bind (wpS_mono (wpS_forRange (I:=λk c eh=>c=(none,())/\So key a₀ κ lo eh/\Sg key (arrOf eh) lo (lo+k)) (Q:=λc eh=>c=(none,())/\So key a₀ κ lo eh/\Sg key (arrOf eh) lo (lo+n)) ?_ ?_ ⟨rfl,h,by rw[show max ok 1=ok by omega];exact hs⟩) ?_)
 .rintro k _ st a1 a2 ⟨rfl,h,hs⟩
  have sz:=h.sb.size;dsimp only;refine wpS_bind (wpS_mono (wpS_forRange (I:=λi c eh=>eh=st/\∃l r,c=(none,l,r)/\l<=r/\r<=k/\(∀i,i<l->kA key (arrOf st) (lo+i)<=kA key (arrOf st) (lo+k))/\(∀i,r<=i->i<k->kA key (arrOf st) (lo+k)<=kA key (arrOf st) (lo+i))/\r<=l+(k - i)) (Q:=λc eh=>eh=st/\∃l r,c=(none,l,r)/\l=r/\r<=k/\(∀i,i<l->kA key (arrOf st) (lo+i)<=kA key (arrOf st) (lo+k))/\(∀i,r<=i->i<k->kA key (arrOf st) (lo+k)<=kA key (arrOf st) (lo+i))) ?_ ?_ ⟨rfl,_,_,rfl,bF _,am _,λi hi=>by omega,λi i1 i2=>by omega,!1⟩) ?_)
  .rintro i _ eh b1 b2 ⟨rfl,l,r,rfl,c1,c2,c3,c4,c5⟩
   dsimp only;refine dJ (λe=>wpS_pure ⟨rfl,_,_,rfl,!1,c2,c3,c4⟩) λe=>wpS_bind (h.lt hc (!1) (!1) ?_);generalize hm:(l+r) / 2=m;dsimp only;by_cases gn:kA key (arrOf eh) (lo+k)<kA key (arrOf eh) (lo+m)
   .rw[decide_eq_true gn,if_pos rfl]
    exact wpS_pure ⟨rfl,_,_,rfl,!1,!1,c3,λi i1 i2=>bE (cB gn) (hs _ _ (!1) (!1) (!1)),!1⟩
   .rw[decide_eq_false gn,if_neg (!2)]
    exact wpS_pure ⟨rfl,_,_,rfl,!1,c2,λi i1=>bE (hs _ (lo+m) (!1) (!1) (!1)) (!1),c4,!1⟩
  .rintro _ eh ⟨rfl,l,r,rfl,c1,c2,c3,c4,c5⟩
   exact⟨rfl,_,_,rfl,!1,c2,c3,c4⟩
  .rintro _ eh ⟨rfl,l,r,rfl,rfl,c2,c3,c4⟩
   dsimp only;rw[moveDown'_eq];have e:=BY (key:=key) (xs:=arrOf eh) (src:=lo+k) (d:=lo+k - (lo+l)) (!1) (!1);rw[show lo+k - (lo+k - (lo+l))=lo+l by omega] at e;refine wpS_bind (wpS_modify (wpS_pure ⟨rfl,h.arr (bubble_perm _ _ _) λi hi=>?_,λi j i1 i2 i3=>?_⟩))
   .rw[e,if_neg (!1),if_neg (!1)]
   .show kA key (bubble (arrOf eh) (lo+k) (lo+k - (lo+l))) i<=kA key (bubble (arrOf eh) (lo+k) (lo+k - (lo+l))) j
    rw[e,e];by_cases x1:i=lo+l
    .rw[if_pos x1]
     by_cases y1:j=lo+l
     .rw[if_pos y1];exact bz _
     .rw[if_neg y1,if_pos ⟨!1,!1⟩]
      have:=c4 (j - 1 - lo) (!1) (!1);rwa [show lo+(j - 1 - lo)=j - 1 by omega] at this
    .rw[if_neg x1]
     by_cases x2:lo+l<i/\i<=lo+k
     .rw[if_pos x2,if_neg (!1),if_pos ⟨!1,!1⟩]
      exact hs _ _ (!1) (!1) (!1)
     .rw[if_neg x2]
      have hi:i<lo+l:=by omega
      by_cases y1:j=lo+l
      .rw[if_pos y1]
       have:=c3 (i - lo) (!1);rwa [show lo+(i - lo)=i by omega] at this
      .rw[if_neg y1]
       by_cases y2:lo+l<j/\j<=lo+k
       .rw[if_pos y2]
        exact hs _ _ (!1) (!1) (!1)
       .rw[if_neg y2]
        exact hs _ _ (!1) (!1) (!1)
 .rintro _ st ⟨rfl,h,hs⟩
  rw[show max (max ok 1) n=n by omega] at hs;exact⟨rfl,h,hs⟩
 .rintro _ st ⟨rfl,h,hs⟩
  exact wpS_pure (q _ h hs)
theorem Ch.two:∀{l m:List Run} {lo hi:Nat},Ch lo (l++m) hi->∃mid,Ch lo l mid/\Ch mid m hi
 | [],m,lo,hi,h=>⟨lo,rfl,h⟩
 | (s,n,p)::l,m,lo,hi,h=>by
  obtain⟨rfl,h1,h2⟩:=h;obtain⟨mid,h3,h4⟩:=Ch.two h2;exact⟨mid,⟨rfl,h1,h3⟩,h4⟩
theorem LH (h:ys.toList=xs.toList.take f++l++xs.toList.drop (f+l.length))(hf:f+l.length<=xs.size):(∀i,i<f\/f+l.length<=i->kA key ys i=kA key xs i)/\∀i (hi:i<l.length),kA key ys (f+i)=key l[i]:=by
 have ht:(xs.toList.take f).length=f:=by rw[bW,bv];omega
 have e:∀i,ys[i]? = (xs.toList.take f++l++xs.toList.drop (f+l.length))[i]? := λi=>by rw[<- h,cE]
 refine⟨λi hi=>?_,λi hi=>?_⟩
 .unfold kA
  rw[e]
  have:(xs.toList.take f++l++xs.toList.drop (f+l.length))[i]? = xs[i]? := by
   rcases hi with hi | hi
   .rw[aF,bD (!1),List.getElem?_take,if_pos hi,cE]
   .rw[bG (by rw[aH,ht];exact hi),aH,ht,List.getElem?_drop,cE]
    congr 1;omega
  rw[this]
 .unfold kA
  rw[e,aF,bG (!1),ht,show f+i - f=i by omega,bD hi,aX hi]
theorem I9 {xs:Array Keyed}{lo hi:Nat}(h:Sg key xs lo hi)(hh:hi<=xs.size){i j:Nat}(RW:lo<=i)(hj:j<=hi):Sk key (xs.extract i j):=λp q h1 h2=>by
 rw[br] at h2
 have e:∀p,p<(xs.extract i j).size->kA key (xs.extract i j) p=kA key xs (i+p):=λp hp=>by
  rw[br] at hp;rw[gM (by rw[br];omega),ck,gM (!1)]
 rw[e p (by rw[br];omega),e q (by rw[br];omega)];exact h _ _ (!1) (!1) (!1)
theorem AJ (hp:p<j - i)(hj:j<=xs.size):kA key (xs.extract i j) p=kA key xs (i+p):=by
 rw[gM (by rw[br];omega),ck,gM (!1)]
theorem tD {i hi:Nat}{st:SortSt}{Q:Bool->SortSt->Prop}(h:So key a₀ κ hi st)(hc:Call3 prog w A s key κ a₀)(hl:i+1<(pendingOf st).size)(q:∀eh,So key a₀ κ hi eh->(pendingOf eh).size+1=(pendingOf st).size->(∀i,hi<=i->kA key (arrOf eh) i=kA key (arrOf st) i)->Q true eh):wpS (model prog w) A E s (mergeAt' i) Q st:=by
 obtain⟨pre,sa,na,p,nb,p2,post,e,rfl,b1,b2,b3,b4,b5⟩:=Ch.split h.sb.ch (by simpa using hl);refine wpS_bind (wpS_get ?_);have g1:(pendingOf st)[pre.length]? = some (sa,na,p):=by rw[<- cE,e];simp
 have g2:(pendingOf st)[pre.length+1]? = some (sa+na,nb,p2):=by rw[<- cE,e];simp[List.getElem?_append]
 have g3:(((pendingOf st).setIfInBounds pre.length (sa,na+nb,p)).eraseIdxIfInBounds (pre.length+1)).toList=pre++(sa,na+nb,p)::post:=by
  rw[Array.toList_eraseIdxIfInBounds,Array.toList_setIfInBounds,e];rw[List.set_append_right _ _ (am _),Nat.sub_self,aw,List.eraseIdx_append_of_length_le (!1),cO];rfl
 rw[g1,g2];refine wpS_bind (Hj ?_);generalize ((pendingOf st).setIfInBounds pre.length (sa,na+nb,p)).eraseIdxIfInBounds (pre.length+1)=pd at g3 ⊢
 have hsz:pd.size+1=(pendingOf st).size:=by
  have x1:=congrArg List.length g3;have x2:=congrArg List.length e;simp only[bv,aH,ao] at x1 x2;omega
 have RX:Sb a₀ κ hi (setPending st pd):=⟨h.sb.perm,h.sb.kind,h.sb.failed,by show Ch 0 pd.toList hi;rw[g3];exact b5 p,h.sb.le⟩;have sz:=h.sb.size;have le:=h.sb.le;have sA:Sg key (arrOf st) sa (sa+na):=h.seg (sa,na,p) (by rw[e];simp);have sB:Sg key (arrOf st) (sa+na) (sa+na+nb):=h.seg (sa+na,nb,p2) (by rw[e];simp)
 have Bt:∀r∈pre,r.1+r.2.1<=sa:=λr hr=>by
  have:=h.sb.ch;rw[e] at this;obtain⟨mid,c1,c2⟩:=Ch.two this;have:=(Ch.within c1).2 r hr;have:=c2.1;omega
 have qX:∀r∈post,sa+na+nb<=r.1:=λr hr=>by
  have:=h.sb.ch;rw[e] at this;obtain⟨mid,c1,c2⟩:=Ch.two this;have:=(Ch.within c2.2.2.2.2).2 r hr;have:=c2.1;omega
 have all:∀(xs:Array Keyed),(∀i,i<sa\/sa+na+nb<=i->kA key xs i=kA key (arrOf st) i)->Sg key xs sa (sa+na+nb)->∀r∈pd.toList,Sg key xs r.1 (r.1+r.2.1):=λxs hx hs r hr=>by
  rw[g3] at hr;rcases aK.mp hr with hr | hr
  .have h1:=Bt r hr
   exact (h.seg r (by rw[e];exact bx _ hr)).za λi i1 i2=>hx i (.inl (!1))
  .rcases av.mp hr with rfl | hr
   .show Sg key xs sa (sa+(na+nb))
    rw[<- Nat.add_assoc];exact hs
   .have h1:=qX r hr
    exact (h.seg r (by rw[e];exact aY _ (ai _ (ai _ hr)))).za λi i1 i2=>hx i (.inr (!1))
 have xb:sa+na<(arrOf st).size:=by omega
 refine wpS_bind (eJ (arr:=arrOf st) xb (wpS_bind (jT (key:=key) (arr:=arrOf st) (!1) (!1) (λx hx=>⟨h.cmp hc (bi _) hx,h.cmp hc hx (bi _)⟩) (λi j q1 q2=>sA _ _ (!1) (!1) (!1)) λk hk k1 k2=>?_)));rw[<- gM (key:=key) xb] at k1 k2
 have k1:∀i,sa<=i->i<sa+k->kA key (arrOf st) i<=kA key (arrOf st) (sa+na):=λi i1 i2=>by
  have:=Es.mp (k1 (i - sa) (!1));rwa [show sa+(i - sa)=i by omega] at this
 have k2:∀i,sa+k<=i->i<sa+na->kA key (arrOf st) (sa+na)<kA key (arrOf st) i:=λi i1 i2=>by
  have:=y9.mp (k2 (i - sa) (!1) (!1));rwa [show sa+(i - sa)=i by omega] at this
 dsimp only;refine dJ (λe1=>wpS_pure (q _ ⟨RX,all _ (λi _=>rfl) λi j i1 i2 i3=>?_⟩ hsz λ_ _=>rfl)) λe1=>?_
 .rw[beq_iff_eq] at e1
  show kA key (arrOf st) i<=kA key (arrOf st) j;by_cases x1:j<sa+na
  .exact sA _ _ i1 i2 x1
  .by_cases x2:sa+na<=i
   .exact sB _ _ x2 i2 i3
   .exact bE (k1 i i1 (!1)) (sB _ _ (am _) (!1) i3)
 rw[beq_iff_eq] at e1;have xa:sa+k+(na - k) - 1<(arrOf st).size:=by omega
 refine wpS_bind (eJ (arr:=arrOf st) xa (wpS_bind (jT (key:=key) (arr:=arrOf st) (!1) (!1) (λx hx=>⟨h.cmp hc (bi _) hx,h.cmp hc hx (bi _)⟩) (λi j q1 q2=>sB _ _ (!1) (!1) (!1)) λk' FA k3 k4=>?_)));rw[<- gM (key:=key) xa,show sa+k+(na - k) - 1=sa+na - 1 by omega] at k3 k4
 have k3:∀i,sa+na<=i->i<sa+na+k'->kA key (arrOf st) i<kA key (arrOf st) (sa+na - 1):=λi i1 i2=>by
  have:=Et.mp (k3 (i - (sa+na)) (!1));rwa [show sa+na+(i - (sa+na))=i by omega] at this
 have k4:∀i,sa+na+k'<=i->i<sa+na+nb->kA key (arrOf st) (sa+na - 1)<=kA key (arrOf st) i:=λi i1 i2=>by
  have:=y'.mp (k4 (i - (sa+na)) (!1) (!1));rwa [show sa+na+(i - (sa+na))=i by omega] at this
 dsimp only;refine dJ (λe2=>wpS_pure (q _ ⟨RX,all _ (λi _=>rfl) λi j i1 i2 i3=>?_⟩ hsz λ_ _=>rfl)) λe2=>?_
 .rw[beq_iff_eq] at e2
  show kA key (arrOf st) i<=kA key (arrOf st) j;by_cases x1:j<sa+na
  .exact sA _ _ i1 i2 x1
  .by_cases x2:sa+na<=i
   .exact sB _ _ x2 i2 i3
   .exact bE (sA i (sa+na - 1) i1 (!1) (!1)) (k4 j (!1) i3)
 rw[beq_iff_eq] at e2
 have fin:∀(out:Array Keyed) (g:Nat),out.toList.Perm (((arrOf st).extract (sa+k) (sa+na)).toList++((arrOf st).extract (sa+na) (sa+na+k')).toList)->Nd key out.toList->wpS (model prog w) A E s (do
   modify λs=>setArr s (out.toList.zipIdx.foldl (λa x=>a.setIfInBounds (sa+k+x.2) x.1) (arrOf s))
   return (failedOf (<- get)).isNone) Q (mV (setPending st pd) g):=λout g ho hn=>by
  refine wpS_bind (wpS_modify (wpS_bind (wpS_get ?_)))
  have hlen:out.toList.length=na - k+k':=by
   rw[ho.length_eq,aH,bv,bv,br,br];omega
  have lS:=AH (sa+k) out.toList 0 (arrOf st) (!1);rw[cq] at lS
  have hp:(out.toList.zipIdx.foldl (λa x=>a.setIfInBounds (sa+k+x.2) x.1) (arrOf st)).Perm (arrOf st):=by
   rw[ci,lS]
   have e3:(arrOf st).toList=(arrOf st).toList.take (sa+k)++(((arrOf st).extract (sa+k) (sa+na)).toList++((arrOf st).extract (sa+na) (sa+na+k')).toList)++(arrOf st).toList.drop (sa+k+out.toList.length):=by
    rw[<- aF,<- pZ _ (!1),<- pZ _ (!1),show sa+k+out.toList.length=sa+na+k' by omega,List.take_append_drop]
   exact ((List.Perm.append_left _ ho).append_right _).trans (.of_eq e3.symm)
  obtain⟨z1,z2⟩:=LH (key:=key) lS (!1);generalize WN:(out.toList.zipIdx.foldl (λa x=>a.setIfInBounds (sa+k+x.2) x.1) (arrOf st))=xs at hp z1 z2;rw[hlen] at z1
  have zb:∀i,sa+k<=i->i<sa+na+k'->∃j,(sa+k<=j/\j<sa+na+k')/\kA key xs i=kA key (arrOf st) j:=λi i1 i2=>by
   have MA:i - (sa+k)<out.toList.length:=by omega
   have:=z2 (i - (sa+k)) MA;rw[show sa+k+(i - (sa+k))=i by omega] at this;have hm:=ho.mem_iff.mp (bY MA);rcases aK.mp hm with hm | hm
   .obtain⟨j,j1,j2,j3,ej⟩:=gp (key:=key) hm
    exact⟨j,⟨j1,!1⟩,this.trans ej⟩
   .obtain⟨j,j1,j2,j3,ej⟩:=gp (key:=key) hm
    exact⟨j,⟨!1,j2⟩,this.trans ej⟩
  have O1:∀i j,sa<=i->i<sa+k->sa+k<=j->j<sa+na+nb->kA key (arrOf st) i<=kA key (arrOf st) j:=λi j i1 i2 j1 j2=>by
   by_cases x:j<sa+na
   .exact sA _ _ i1 (!1) x
   .exact bE (k1 i i1 i2) (sB _ _ (am _) (!1) j2)
  have Vi:∀i j,sa<=i->i<sa+na+k'->sa+na+k'<=j->j<sa+na+nb->kA key (arrOf st) i<=kA key (arrOf st) j:=λi j i1 i2 j1 j2=>by
   by_cases x:i<sa+na
   .exact bE (sA i (sa+na - 1) i1 (!1) (!1)) (k4 j j1 j2)
   .exact sB _ _ (!1) (!1) j2
  have RY:Sg key xs sa (sa+na+nb):=λi j i1 i2 i3=>by
   by_cases x1:i<sa+k
   .rw[z1 i (.inl x1)]
    by_cases y1:j<sa+k
    .rw[z1 j (.inl y1)]
     exact sA _ _ i1 i2 (!1)
    .by_cases y2:j<sa+na+k'
     .obtain⟨j',⟨u1,u2⟩,ej⟩:=zb j (!1) y2
      rw[ej];exact O1 i j' i1 x1 u1 (!1)
     .rw[z1 j (.inr (!1))]
      exact O1 i j i1 x1 (!1) i3
   .by_cases x2:i<sa+na+k'
    .by_cases y2:j<sa+na+k'
     .have v1:=z2 (i - (sa+k)) (!1)
      have v2:=z2 (j - (sa+k)) (!1);rw[show sa+k+(i - (sa+k))=i by omega] at v1;rw[show sa+k+(j - (sa+k))=j by omega] at v2;rw[v1,v2];by_cases TN:i=j
      .subst TN;exact bz _
      .exact List.pairwise_iff_getElem.mp hn _ _ (!1) (!1) (!1)
     .obtain⟨i',⟨u1,u2⟩,ei⟩:=zb i (!1) x2
      rw[ei,z1 j (.inr (!1))];exact Vi i' j (!1) u2 (!1) i3
    .rw[z1 i (.inr (!1)),z1 j (.inr (!1))]
     exact sB _ _ (!1) i2 i3
  have h2:So key a₀ κ hi (setArr (mV (setPending st pd) g) xs):=⟨(RX.g g).arr hp,all xs (λi hi=>z1 i (!1)) RY⟩;have ef:=h2.sb.failed;refine wpS_pure ?_;have:(failedOf (setArr (mV (setPending st pd) g) xs)).isNone=true:=by rw[ef];rfl
  have:=this ▸ q _ h2 hsz λi hi=>z1 i (!1);exact this
 have AK:∀x∈(arrOf st).extract (sa+k) (sa+na),∀y∈(arrOf st).extract (sa+na) (sa+na+k'),qW prog w A s key (kindOf st) x y/\qW prog w A s key (kindOf st) y x:=λx hx y hy=>⟨h.cmp hc (vf hx) (vf hy),h.cmp hc (vf hy) (vf hx)⟩;have m1:Sk key ((arrOf st).extract (sa+k) (sa+na)):=I9 sA (!1) (!1) (am _);have m2:Sk key ((arrOf st).extract (sa+na) (sa+na+k')):=I9 sB (!1) (am _) (!1)
 have m3:kA key ((arrOf st).extract (sa+na) (sa+na+k')) 0<=kA key ((arrOf st).extract (sa+k) (sa+na)) 0:=by
  rw[AJ (!1) (!1),AJ (!1) (!1)];exact cB (k2 _ (!1) (!1))
 have m4:∀j,j<((arrOf st).extract (sa+na) (sa+na+k')).size->kA key ((arrOf st).extract (sa+na) (sa+na+k')) j<=kA key ((arrOf st).extract (sa+k) (sa+na)) (((arrOf st).extract (sa+k) (sa+na)).size - 1):=λj hj=>by
  rw[br] at hj;rw[br,AJ (!1) (!1),AJ (!1) (!1),show sa+k+(min (sa+na) (arrOf st).size - (sa+k) - 1)=sa+na - 1 by omega];exact cB (k3 _ (!1) (!1))
 exact dJ (λ_=>wpS_bind (BW (a:=(arrOf st).extract (sa+k) (sa+na)) (b:=(arrOf st).extract (sa+na) (sa+na+k')) (by rw[br];omega) (by rw[br];omega) AK m1 m2 m3 m4 fin)) λ_=>wpS_bind (BX (a:=(arrOf st).extract (sa+k) (sa+na)) (b:=(arrOf st).extract (sa+na) (sa+na+k')) (by rw[br];omega) (by rw[br];omega) AK m1 m2 m3 m4 fin)
theorem Ch.count:∀{l:List Run} {lo hi:Nat},Ch lo l hi->lo+l.length<=hi
 | [],lo,hi,h=>Nat.le_of_eq h
 | (s,n,p)::l,lo,hi,h=>by
  have:=Ch.count h.2.2;have:=h.2.1;rw[ao];omega
theorem zd {st:SortSt}{Q:Unit->SortSt->Prop}(h:So key a₀ κ 0 st)(hc:Call3 prog w A s key κ a₀)(q:∀eh,(arrOf eh).Perm a₀->Nd key (arrOf eh).toList->failedOf eh=none->Q () eh):wpS (model prog w) A E s sortRuns' Q st:=by
 rw[sortRuns'_eq];refine wpS_bind (wpS_get ?_);have sz:=h.sb.size;dsimp only;rw[sz];generalize minRun' a₀.size a₀.size 0=mr;refine wpS_bind (wpS_mono (wpS_forRange (I:=λi c eh=>∃lo,c=(none,lo)/\So key a₀ κ lo eh/\(i<=lo\/a₀.size<=lo)) (Q:=λc eh=>∃lo,c=(none,lo)/\So key a₀ κ lo eh/\a₀.size<=lo) ?_ ?_ ⟨_,rfl,h,.inl (am _)⟩) ?_)
 .rintro i _ st a1 a2 ⟨lo,rfl,h,NA⟩
  have:=h.sb.le;dsimp only;refine dJ (λe=>wpS_pure ⟨_,rfl,h,e⟩) λe=>wpS_bind (zc h hc (!1) (!1) λm st h m1 m2 hs=>?_);dsimp only
  have push:∀(n:Nat) (st:SortSt),1<=n->lo+n<=a₀.size->So key a₀ κ lo st->Sg key (arrOf st) lo (lo+n)->wpS (model prog w) A E s (do
    modify λs=>setPending s ((pendingOf s).push (lo,n,0))
    pure (ForInStep.yield ((none,lo+n):Option Unit × Nat))) (λr eh =>
   match r with
   | ForInStep.done c'=>∃lo,c'=(none,lo)/\So key a₀ κ lo eh/\a₀.size<=lo
   | ForInStep.yield c'=>∃lo,c'=(none,lo)/\So key a₀ κ lo eh/\(i+1<=lo\/a₀.size<=lo)) st:=λn st n1 n2 h hs=>by
   refine wpS_bind (wpS_modify (wpS_pure ⟨_,rfl,⟨⟨h.sb.perm,h.sb.kind,h.sb.failed,?_,n2⟩,λr hr=>?_⟩,!1⟩))
   .show Ch 0 ((pendingOf st).push (lo,n,0)).toList _
    rw[Array.toList_push];exact h.sb.ch.push n1
   .have hr:r∈((pendingOf st).push (lo,n,0)).toList:=hr
    rw[Array.toList_push] at hr;rcases aK.mp hr with hr | hr
    .exact h.seg r hr
    .rw[aq.mp hr];exact hs
  refine dJ (λe1=>wpS_bind (wpS_lift (wpAny_rule ⟨rfl,wpS_bind (vg h hc (!1) m1 (!1) hs λst h hs=>?_)⟩))) λ_=>?_
  all_goals
   try rw[if_neg (!2)]
   refine wpS_bind (wpS_get ?_)
   cases (pendingOf st).back? with
   | none=>exact push _ _ (!1) (!1) h hs
   | some x =>
    dsimp only;refine wpS_bind (wpS_mono (Hh (λc eh=>c=(none,())/\So key a₀ κ lo eh/\Sg key (arrOf eh) lo (lo+_)) ?_ ⟨rfl,h,hs⟩) ?_)
    .rintro i _ st ⟨rfl,h,hs⟩
     refine wpS_bind (wpS_get ?_);by_cases e3:(pendingOf st).size > 1
     .rw[if_pos e3,getElem?_pos (pendingOf st) _ (!1)]
      dsimp only;refine dJ (λ_=>wpS_pure ⟨rfl,h,hs⟩) λ_=>wpS_bind (tD h hc (!1) λst h _ hk=>wpS_pure ⟨rfl,h,hs.za λi i1 _=>hk i i1⟩)
     .rw[if_neg e3]
      exact wpS_pure ⟨rfl,h,hs⟩
    .rintro _ st ⟨rfl,h,hs⟩
     dsimp only;refine wpS_bind (wpS_modify (push _ _ (!1) (!1) ⟨⟨h.sb.perm,h.sb.kind,h.sb.failed,?_,h.sb.le⟩,λr hr=>?_⟩ hs))
     .show Ch 0 (Array.modify _ _ _).toList _
      rw[Array.toList_modify];exact h.sb.ch.mod _
     .have hr:r∈(Array.modify _ _ _).toList:=hr
      rw[Array.toList_modify] at hr;obtain⟨j,hj,rfl⟩:=cL hr;rw[List.length_modify] at hj;rw[List.getElem_modify];split
      .exact h.seg (pendingOf st).toList[j] (bY hj)
      .exact h.seg _ (bY hj)
 .rintro _ st ⟨lo,rfl,h,NA⟩
  exact⟨_,rfl,h,!1⟩
 .rintro _ st ⟨lo,rfl,h,NA⟩
  have e0:lo=a₀.size:=by have:=h.sb.le;omega
  subst e0;dsimp only;refine wpS_bind (wpS_mono (wpS_forRange (I:=λi c eh=>c=(none,())/\So key a₀ κ a₀.size eh/\((pendingOf eh).size<=1\/(pendingOf eh).size+i<=a₀.size)) (Q:=λc eh=>c=(none,())/\So key a₀ κ a₀.size eh/\(pendingOf eh).size<=1) ?_ ?_ ⟨rfl,h,.inr (by have:=Ch.count h.sb.ch;rw[bv] at this;omega)⟩) ?_)
  .rintro i _ st a1 a2 ⟨rfl,h,hp⟩
   refine wpS_bind (wpS_get (dJ (λe=>wpS_pure ⟨rfl,h,e⟩) λe=>wpS_bind (tD h hc ?_ λst h hsz _=>wpS_pure ⟨rfl,h,.inr (!1)⟩)));have:∀(c:Prop) [Decidable c] (x:Nat),(if c then x - 1 else x)<=x:=λc _ x=>by split<;>omega
   exact cz (Nat.succ_le_succ (this _ _)) (!1)
  .rintro _ st ⟨rfl,h,hp⟩
   exact⟨rfl,h,!1⟩
  .rintro _ st ⟨rfl,h,hp⟩
   refine wpS_pure (q _ h.sb.perm ?_ h.sb.failed);have zQ:=h.sb.ch;have TQ:=h.seg;have hsz:=h.sb.size;have hl:(pendingOf st).toList.length<=1:=by rw[bv];exact hp
   generalize (pendingOf st).toList=l at zQ TQ hl;refine OY λi j i1 i2=>?_
   match l,hl with
   | [],_ =>
    have:0=a₀.size:=zQ;omega
   | [(s,n,p)],_ =>
    obtain⟨rfl,_,h3⟩:=zQ;have h3:0+n=a₀.size:=h3;exact TQ (0,n,p) (aq.mpr rfl) i j (bF _) i1 (by show j<0+n;omega)
end
open PySem.W (KatLex kat_cons kat_yes kat_no kat_one kat_lt kas_item)
noncomputable def jg:List Int->List Int->Bool
 | [],[]=>false
 | [],_::_=>true
 | _::_,[]=>false
 | a::r,b::t=>if a=b then jg r t else decide (a<b)
theorem AL (a b:Int):af.eqv (.int a) (.int b)=decide (a=b):=by
 by_cases h:a=b
 .subst h;simp[af.eqv]
 .simp[af.eqv,h]
theorem vh:∀xs ys:List Int,gL false (xs.map af.int) (ys.map af.int)=some (jg xs ys)
 | [],[]=>rfl
 | [],_::_=>rfl
 | _::_,[]=>rfl
 | x::xs,y::ys=>by
  rw[ak,ak,gL,jg,AL,vh xs ys];by_cases h:x=y
  .rw[if_pos h,if_pos (decide_eq_true h)]
  .rw[if_neg h,if_neg (by simpa using h)]
   rfl
theorem vi:∀a:List Int,jg a a=false
 | []=>rfl
 | x::a=>by rw[jg,if_pos rfl,vi a]
theorem vj:∀{a b c:List Int},jg a b=true->jg b c=true->jg a c=true
 | [],[],_,h,_=>by cases h
 | [],_::_,[],_,h=>by cases h
 | [],_::_,_::_,_,_=>rfl
 | _::_,[],_,h,_=>by cases h
 | _::_,_::_,[],_,h=>by cases h
 | x::a,y::b,z::c,h,k=>by
  rw[jg] at h k ⊢;by_cases h1:x=y
  .subst h1
   rw[if_pos rfl] at h;by_cases h2:x=z
   .rw[if_pos h2] at k ⊢
    exact vj h k
   .rw[if_neg h2] at k ⊢
    exact k
  .rw[if_neg h1,decide_eq_true_eq] at h
   by_cases h2:y=z
   .subst h2
    rw[if_neg h1];exact decide_eq_true h
   .rw[if_neg h2,decide_eq_true_eq] at k
    rw[if_neg (!1)];exact decide_eq_true (!1)
theorem vk:∀{a b:List Int},jg a b=false->jg b a=false->a=b
 | [],[],_,_=>rfl
 | [],_::_,h,_=>by cases h
 | _::_,[],_,h=>by cases h
 | x::a,y::b,h,k=>by
  rw[jg] at h k;by_cases h1:x=y
  .subst h1
   rw[if_pos rfl] at h k;rw[vk h k]
  .rw[if_neg h1,decide_eq_false_iff_not] at h
   rw[if_neg (λz=>h1 z.symm),decide_eq_false_iff_not] at k;omega
theorem LI (h:jg a b=true):jg b a=false:=by
 cases e:jg b a with
 | false=>rfl
 | true =>
  have:=vj h e;rw[vi] at this;cases this
theorem Ez {a b c:List Int}(h:jg b a=false)(k:jg c b=false):jg c a=false:=by
 cases e:jg c a with
 | false=>rfl
 | true =>
  cases e2:jg a b with
  | true=>rw[vj e e2] at k;cases k
  | false =>
   have:=vk e2 h;subst this;rw[e] at k;cases k
noncomputable def LJ (R:List (List Int))(a:List Int):Int:=((R.countP λt=>jg t a:Nat):Int)
theorem EA:∀{l:List (List Int)} {a:List Int},(∀x∈l,p x=true->q x=true)->a∈l->q a=true->p a=false->l.countP p<l.countP q
 | [],a,_,h,_,_=>by cases h
 | x::l,a,h,ha,hq,hp=>by
  have my:l.countP p<=l.countP q:=List.countP_mono_left λy hy=>h y (ai _ hy);rw[List.countP_cons,List.countP_cons];rcases av.mp ha with rfl | ha
  .simp[hq,hp]
   omega
  .have ih:=EA (λy hy=>h y (ai _ hy)) ha hq hp
   have hx:=h x (ar ..)
   cases e1:p x with
   | true=>rw[hx e1];simp;omega
   | false =>
    cases q x<;>simp<;>omega
theorem Ja (ha:a∈R):decide (LJ R a<LJ R b)=jg a b:=by
 cases e:jg a b with
 | true =>
  refine decide_eq_true ?_;unfold LJ;exact Int.ofNat_lt.mpr (EA (λx _ hx=>vj hx e) ha e (vi a))
 | false =>
  refine decide_eq_false ?_;unfold LJ
  have:R.countP (λt=>jg t b)<=R.countP (λt=>jg t a):=List.countP_mono_left λx _ hx=>by
   cases e2:jg x a with
   | true=>rfl
   | false =>
    have:=Ez e e2;rw[hx] at this;cases this
  omega
noncomputable def tE (rs:List (List Int)):List (List Int):=rs.mergeSort λa b=>!jg b a
noncomputable abbrev FG (rs:List (List Int)):Prop:=rs.Pairwise λa b=>jg b a=false
theorem ze (rs:List (List Int)):(tE rs).Perm rs:=List.mergeSort_perm _ _
theorem EB (rs:List (List Int)):FG (tE rs):=by
 have:=List.pairwise_mergeSort (le:=λa b=>!jg b a) (λa b c h k=>by
  rw[Bool.not_eq_true'] at h k ⊢
  exact Ez h k) (λa b=>by
  cases h:jg b a with
  | false=>simp
  | true=>simp[LI h]) rs
 exact this.imp λh=>by simpa using h
theorem AM:∀{a b:List (List Int)},a.Perm b->FG a->FG b->a=b
 | [],b,h,_,_=>by rw[List.nil_perm.mp h]
 | x::a,[],h,_,_=>by have:=h.length_eq;simp at this
 | x::a,y::b,h,h1,h2=>by
  obtain⟨a1,a2⟩:=bP.mp h1;obtain⟨b1,b2⟩:=bP.mp h2
  have AK:x=y:=by
   have hx:x∈y::b:=h.mem_iff.mp (ar ..);have hy:y∈x::a:=h.mem_iff.mpr (ar ..);rcases av.mp hx with e | hx
   .exact e
   .rcases av.mp hy with e | hy
    .exact e.symm
    .exact vk (b1 x hx |> λz=>z) (a1 y hy) |>.symm ▸ rfl
  subst AK;rw[AM (h.cons_inv) a2 b2]
theorem tF (h:a.Perm b)(h1:FG a):a=tE b:=AM (h.trans (ze b).symm) h1 (EB b)
section
variable {prog:aV}{w:World}{A:Around}{E:ah->ax->Prop}{s:ax}
noncomputable def pG (h:Heap)(v:ah)(row:List Int):Prop:=∃(a:Addr) (o:Obj) (xs:Array ah) (n:Nat) (as:List Addr),v=.ref a/\h.get? a=some o/\o.cls=.type "tuple" /\ o.data=.seq xs n/\ReadsAll h xs.toList (row.map .int) as
theorem pG.tup (t:pG h v row):LF h v:=by
 obtain⟨a,o,xs,n,as,h⟩:=t;exact⟨a,o,xs,n,row,as,h⟩
noncomputable def vInt:ah->Int | .int i _=>i | _=>0
noncomputable def jU (h:Heap)(v:ah):List Int:=match v with
 | .ref a=>(match h.get? a with | some o=>(match o.data with | .seq xs _=>xs.toList.map vInt | _=>[]) | none=>[])
 | _=>[]
theorem tG:∀{us:List ah} {row:List Int} {as:List Addr},ReadsAll h us (row.map .int) as->us.map vInt=row
 | [],[],_,_=>rfl
 | [],_::_,_,r=>by cases r
 | u::us,[],_,r=>by cases r
 | u::us,i::row,_,r=>by
  rw[ak] at r
  cases r with
  | cons r rs =>
   cases r;rw[ak,tG rs];rfl
theorem pG.row {h:Heap}{v:ah}{row:List Int}(t:pG h v row):jU h v=row:=by
 obtain⟨a,o,xs,n,as,rfl,h1,h2,h3,h4⟩:=t;unfold jU;simp only[h1,h3];exact tG h4
theorem BZ (hu:A.units<cLine):∀(us vs:List ah) (r t:List Int) (as bs:List Addr) (i:Nat),ReadsAll s.heap us (r.map .int) as->ReadsAll s.heap vs (t.map .int) bs->(fin=decide (r.length<t.length)\/True)->(∀b,(b=if r.take (min r.length t.length)=t.take (min r.length t.length) then fin else jg r t)->Q b s)->KatLex prog w A true fin Q (us.zip vs) i s:=by
 intro us vs r t as bs i h1 h2 _ hq
 induction us generalizing vs r t as bs i with
 | nil =>
  cases r with
  | nil=>exact hq _ (!4)
  | cons _ _=>cases h1
 | cons u us ih =>
  cases r with
  | nil=>cases h1
  | cons a r =>
   cases vs with
   | nil =>
    cases t with
    | nil=>exact hq _ (!4)
    | cons _ _=>cases h2
   | cons v vs =>
    cases t with
    | nil=>cases h2
    | cons b t =>
     rw[ak] at h1 h2
     cases h1 with
     | cons g1 h1 =>
      cases h2 with
      | cons g2 h2 =>
       cases g1 with
       | int _ t1 =>
        cases g2 with
        | int _ t2 =>
         rw[List.zip_cons_cons];have he:=SeqAt.eqAt_reads (.int a) (.int b) A s _ _ [] [] (.int a t1) (.int b t2) rfl rfl (by simpa [af.depth] using hu);rw[AL] at he;refine kat_cons (he prog w _ _ ?_);by_cases mR:a=b
         .subst mR
          rw[decide_eq_true rfl];refine kat_yes (ih vs r t _ _ (i+1) h1 h2 (.inr trivial) λb hb=>hq b ?_);rw[hb,jg,if_pos rfl];have:min (a::r).length (a::t).length=min r.length t.length+1:=by simp only[ao];omega
          rw[this,cr,cr];simp
         .rw[decide_eq_false mR]
          have O2:Q (decide (a<b)) s:=hq _ (by
           have:min (a::r).length (b::t).length=min r.length t.length+1:=by simp only[ao];omega
           rw[this,cr,cr,if_neg (by simp[mR]),jg,if_neg mR])
          refine kat_no ?_
          cases i with
          | zero=>exact oneLt_int O2
          | succ i=>exact kat_one _ _ (AG a b t1 t2 A s prog w _ _ O2)
theorem AO:∀r t:List Int,(if r.take (min r.length t.length)=t.take (min r.length t.length) then decide (r.length<t.length) else jg r t)=jg r t
 | [],[]=>rfl
 | [],_::_=>by simp[jg]
 | _::_,[]=>by simp[jg]
 | a::r,b::t=>by
  have ih:=AO r t;have:min (a::r).length (b::t).length=min r.length t.length+1:=by simp only[ao];omega
  rw[this,cr,cr,jg];by_cases h:a=b
  .subst h
   rw[if_pos rfl];simpa using ih
  .rw[if_neg (by simp[h])]
theorem zg (hx:pG s.heap x r)(hy:pG s.heap y t)(hu:A.units+1<cLine)(hq:Q (jg r t) s):aG (model prog w) A (keyLt' (tuples' true) x y) Q E s:=by
 obtain⟨a,o,xs,n,as,rfl,h1,h2,h3,h4⟩:=hx;obtain⟨b,o',ys,m,bs,rfl,k1,k2,k3,k4⟩:=hy;have n1:xs.size=r.length:=by have:=SeqAt.ReadsAll.length _ _ _ h4;simpa using this
 have n2:ys.size=t.length:=by have:=SeqAt.ReadsAll.length _ _ _ k4;simpa using this
 refine kat_lt h1 h3 k1 k3 (BZ (!1) xs.toList ys.toList r t as bs 0 h4 k4 (.inr trivial) λb hb=>?_);rw[hb,n1,n2,AO];exact hq
theorem xl (hx:pG s.heap x r)(hy:pG s.heap y t)(hu:A.units+1<cLine)(hq:Q (jg r t) s):aG (model prog w) A (keyLt' general' x y) Q E s:=by
 obtain⟨a,o,xs,n,as,rfl,h1,h2,h3,h4⟩:=hx;obtain⟨b,o',ys,m,bs,rfl,k1,k2,k3,k4⟩:=hy;have e:∀x y,keyLt' general' x y=oneLt' false x y:=λ_ _=>rfl;rw[e];exact kat_one _ _ (Ef 1 (.tuple (r.map .int)) (.tuple (t.map .int)) (jg r t) A s _ _ as bs (by rw[af.depth,oE];exact am _) (.tuple h1 h2 h3 h4) (.tuple k1 k2 k3 k4) (by rw[af.canLay0];exact jS r) (by rw[af.canLay0];exact jS t) hu (by rw[gk];exact vh r t) prog w _ _ hq)
theorem Hn (hx:pG s.heap x row)(hy:pG s.heap y nN)(hu:A.units+2<cLine)(hq:Q (jg row nN) s):aG (model prog w) A (keyLt' oneType' x y) Q E s:=by
 obtain⟨a,⟨c1,d1,data,s1⟩,xs,n,as,rfl,h1,h2,h3,h4⟩:=hx;obtain⟨b,⟨c2,d2,data2,s2⟩,ys,m,bs,rfl,k1,k2,k3,k4⟩:=hy;simp only at h2 h3 k2 k3;subst h2 h3 k2 k3;rw[keyLt'_oneType,oneLt'_eq];simp only[if_true];refine ag (wpAny_cRoomFor (!1) ?_);have n1:xs.size=row.length:=by have:=SeqAt.ReadsAll.length _ _ _ h4;simpa using this
 have n2:ys.size=nN.length:=by have:=SeqAt.ReadsAll.length _ _ _ k4;simpa using this
 have he:∀j (j1:j<xs.size) (j2:j<ys.size),SeqAt.EqAt A.in1 s xs[j] ys[j] (SeqAt.pairEq (row.map af.int) (nN.map af.int) j):=λj j1 j2=>by
  have G0:A.in1.units+min (af.depthAll (row.map af.int)) (af.depthAll (nN.map af.int))<cLine:=by rw[oE];show A.units+1+_<_;omega
  have q:=SeqAt.eqAt_readsAll (row.map af.int) (nN.map af.int) A.in1 s xs.toList ys.toList _ _ h4 k4 (jS row) (jS nN) G0 j (by simpa using j1) (by simpa using j2);rw[bo,bo] at q;exact q
 have hf:∀j (j1:j<xs.size) (j2:j<ys.size),(∀i<j,SeqAt.pairEq (row.map af.int) (nN.map af.int) i=true)->SeqAt.pairEq (row.map af.int) (nN.map af.int) j=false->lj .Lt A.in1 s xs[j] ys[j] ((gk false ((row.map af.int).getD j .none) ((nN.map af.int).getD j .none)).getD false):=λj j1 j2 _ _=>by
  obtain⟨P4,r1⟩:=fU h4 (j:=j) (by simpa using j1);obtain⟨P5,r2⟩:=fU k4 (j:=j) (by simpa using j2);have e1:(row.map af.int).getD j .none=.int (row.getD j 0):=by simp[az,show j<row.length by omega]
  have e2:(nN.map af.int).getD j .none=.int (nN.getD j 0):=by simp[az,show j<nN.length by omega]
  rw[e1,bo] at r1;rw[e2,bo] at r2;rw[e1,e2];generalize xs[j]=X1 at r1 ⊢;generalize ys[j]=Y1 at r2 ⊢;cases r1;cases r2;exact AG _ _ _ _ _ _
 refine ag (wpAny_callSpecialIfBound?_slot ⟨_,h1,rfl⟩ F.slot_tuple_lt (call_meets F.slot_tuple_lt ⟨_,h1,rfl⟩ F.entry_tuple_lt (F.args_tuple_lt_2 _ _) (Ee a b xs ys n m d1 d2 s1 s2 _ _) ⟨h1,k1,he,hf,?_⟩));have:=lex_lt (row.map af.int) (nN.map af.int) _ (vh row nN);rw[au,au,<- n1,<- n2] at this;rw[this];exact wpAny_truthy_bool hq
theorem zh {vs:List ah}(h:∀v∈vs,pG s.heap v (jU s.heap v))(hu:A.units+2<cLine):AF prog w A vs s (λp=>FG (p.toList.map λi=>jU s.heap (vs.getD i ah.none))):=λh2=>by
 obtain⟨κ,hk,kk⟩:=BU (prog:=prog) (w:=w) (A:=A) (λv hv=>(h v hv).tup) h2;have hz:(vs.toArray.zip vs.toArray).size=vs.length:=by simp
 refine⟨κ,kk,λE=>zd (key:=λx=>LJ (vs.map (jU s.heap)) (jU s.heap x.1)) (a₀:=vs.toArray.zip vs.toArray) (κ:=κ) (Q:=λ_ eh=>∃p:Array Nat,P7 vs.length p/\FG (p.toList.map λi=>jU s.heap (vs.getD i ah.none))/\arrOf eh=p.map (kas_item (vs.toArray.zip vs.toArray))/\failedOf eh=none) ⟨⟨Array.Perm.refl _,rfl,rfl,rfl,bF _⟩,λr hr=>by cases hr⟩ (λx hx y hy=>?_) λeh hp hn hf=>?_⟩
 .obtain⟨i,hi,rfl⟩:=Array.getElem_of_mem hx
  obtain⟨j,hj,rfl⟩:=Array.getElem_of_mem hy;intro C hC;have AQ:vs[i]'(!1)∈vs:=bY _;have FH:vs[j]'(!1)∈vs:=bY _;have e1:((vs.toArray.zip vs.toArray)[i]).1=vs[i]'(!1):=by simp
  have e2:((vs.toArray.zip vs.toArray)[j]).1=vs[j]'(!1):=by simp
  have e:decide (LJ (vs.map (jU s.heap)) (jU s.heap ((vs.toArray.zip vs.toArray)[i]).1)<LJ (vs.map (jU s.heap)) (jU s.heap ((vs.toArray.zip vs.toArray)[j]).1))=jg (jU s.heap (vs[i]'(!1))) (jU s.heap (vs[j]'(!1))):=by
   simp only[e1,e2];exact Ja (List.mem_map_of_mem AQ)
  replace hC:C (jg (jU s.heap (vs[i]'(!1))) (jU s.heap (vs[j]'(!1)))) s:=e ▸ hC;rw[e1,e2];rcases hk with rfl | rfl | rfl
  .exact zg (h _ AQ) (h _ FH) (!1) hC
  .exact xl (h _ AQ) (h _ FH) (!1) hC
  .exact Hn (h _ AQ) (h _ FH) (!1) hC
 .obtain⟨p,h1,h2⟩:=Hk ((ah.none,ah.none):Keyed) (ci.mp hp)
  have gn:∀i∈p,i<vs.length:=λi hi=>by have:=h1.mem_iff.mp hi;simpa [hz] using this
  refine⟨p.toArray,?_,?_,?_,hf⟩
  rotate_left 2
  .refine cJ.mp ?_
   rw[h2];simp[kas_item]
  .rw[P7,ci]
   simpa [hz] using h1
  .rw[h2] at hn
   rw[List.toList_toArray];refine List.pairwise_map.mpr ((List.pairwise_map.mp hn).imp_of_mem ?_);intro i j hi hj my;have hi:=gn i hi;have hj:=gn j hj;have e:∀i,i<vs.length->((vs.toArray.zip vs.toArray).toList.getD i ((ah.none,ah.none):Keyed)).1=vs.getD i ah.none:=λi hi=>by simp[az,hi]
   have hm:jU s.heap (vs.getD j ah.none)∈vs.map (jU s.heap):=List.mem_map_of_mem (by rw[az,aX hj];exact bY _);have:=Ja (R:=vs.map (jU s.heap)) (b:=jU s.heap (vs.getD i ah.none)) hm;rw[<- this];refine decide_eq_false ?_;simp only[e i hi,e j hj] at my;omega
end
section
variable {X:Cx}
theorem xm (hu:X.A.units+64<cLine):fP X (.builtin "sorted") (λxs H Q=>∃(p:Addr) (ys:List V) (S:List Addr) (rs:List (List Int)),xs=[.ref p]/\iz X.K H p ys/\dw S H (rs.map kL) ys/\rs.length<1000/\∀(l:Addr) (RZ:List V),dw S H ((tE rs).map kL) RZ->H l=none->Q (.ref l) (eg H l (.lst RZ))):=by
 intro pins s σ H xs us Q I r h;obtain⟨p,ys,S,rs,rfl,hp,hr,PQ,q⟩:=h;obtain⟨u,rfl,ru⟩:=vals1 r;cases ru;obtain⟨its,rv,ht,hz⟩:=I.tuple hp;have hlen:its.length=rs.length:=by rw[<- rv.length,hr.length,au]
 refine Calls.call_function_entry kind_sorted plain_sorted entry_sorted (args_sorted1 _) ?_
 (unfold Builtin.«sorted»;refine ag (m:=checkCount "sorted" 1 1 _) (ap ?_))
 refine ag (o6 (A:=X.A.in1) (show s.heap.IsTuple p its.toArray from ht) (!1) λh1 Lx=>?_);refine ag (wpAny_newList ?_);have FP:(h1.push (seqObj "list" its.toArray 0)).get? h1.objs.size=some (seqObj "list" its.toArray 0):=aB _ rfl;have I1:Inv X pins σ H { s with heap:=h1 }:=I.kept (t':=s.toks) Lx;show aG _ _ _ _ _ { s with heap:=h1.push (seqObj "list" its.toArray 0) };refine ag (wpAny_holding (wpAny_call_entry slot_list_sort ⟨_,FP,rfl⟩ entry_list_sort (sy (G:=λp=>FG (p.toList.map λi=>rs.getD i [])) (λh2=>?_) FP (!1) (λs' held=>?_) λpm TR LK=>⟨_,rfl,?_⟩) (args_list_sort _)))
 .rw[hlen] at h2 ⊢
  rw[List.toList_toArray]
  match rs,h2 with
  | [],_=>exact List.Pairwise.nil
  | [a],_=>simp[FG]
 .have kk:∀b o,s.heap.get? b=some o->s'.heap.get? b=some o:=λb o e=>held b o (bp (aI (Lx b o e))) (aj _ (Lx b o e))
  have xo:∀j (hj:j<its.length),pG s'.heap its[j] (rs.getD j []):=λj hj=>by
   obtain⟨as,ra⟩:=dw.reads (I.kept (h':=s'.heap) (t':=s.toks) kk).eD (El rs) hr rv;obtain⟨bs,rj⟩:=fU ra hj;have e:(rs.map kL).getD j .none=kL (rs.getD j []):=by simp[az,show j<rs.length by omega]
   rw[e,kL] at rj;generalize its[j]=z at rj ⊢
   cases rj with
   | tuple a1 a2 a3 a4=>exact⟨_,_,_,_,_,rfl,a1,a2,a3,a4⟩
  have:=λA' (hA:A'.units+2<cLine)=>zh (prog:=X.prog) (w:=X.w) (A:=A') (s:=s') (vs:=its) (λv hv=>by
   obtain⟨j,hj,rfl⟩:=cL hv;rw[(xo j hj).row];exact xo j hj) hA
  intro h2;obtain⟨κ,kk,kr⟩:=this (X.A.in1.in1) (show X.A.units+1+1+2<cLine by omega) h2;refine⟨κ,kk,λE=>b8 (kr E) ?_ λ_ _ e=>e⟩;rintro r s2 ⟨rfl,p,hp,LK,rest⟩;refine⟨rfl,p,hp,?_,rest⟩;have lS:p.toList.Perm (List.range its.length):=by have:=ci.mp hp;simpa using this
  show FG (p.toList.map λi=>rs.getD i [])
  rw[show (p.toList.map λi=>rs.getD i [])=p.toList.map λi=>jU s2.heap (its.getD i ah.none) from ca λi hi=>by
   have hi:i<its.length:=by simpa using lS.mem_iff.mp hi
   rw[az (l:=its),aX hi,cw,(xo i hi).row]]
  exact LK
 .refine ap ⟨_,rfl,?_⟩
  have lS:pm.toList.Perm (List.range rs.length):=by have:=ci.mp TR;simpa [hlen] using this
  have gn:∀j∈pm.toList,j<rs.length:=λj hj=>by simpa using lS.mem_iff.mp hj
  have hv:dW (pm.toList.map λj=>ys.getD j .f') (pm.toList.map λj=>its.getD j ah.none):=rv.pick _ λj hj=>by rw[hlen];exact gn j hj
  have TU:=hr.pick _ gn
  have R0:(pm.toList.map λj=>rs.getD j []).Perm rs:=by
   have:=lS.map λj=>rs.getD j [];rwa [show (List.range rs.length).map (λj=>rs.getD j [])=rs from di (!4) λi h1 h2=>by simp[az,h2]] at this
  rw[tF R0 LK] at TU;have hsz:(pm.toList.map λj=>ys.getD j V.f').length<=aA:=by rw[au,lS.length_eq,List.length_range,show aA=16777216 by decide];omega
  have Lb:∀b ob,h1.get? b=some ob->(sortedHeap (h1.push (seqObj "list" its.toArray 0)) h1.objs.size its (cI (pm.toList.map λj=>its.getD j ah.none))).get? b=some ob:=by
   intro b ob e;have hb:h1.objs.size≠b:=cc (aI e);unfold sortedHeap;rw[aJ _ _ hb];refine aj _ (aj _ ?_);rw[aJ _ _ hb];exact aj _ e
  obtain⟨n,nw⟩:∃n,(sortedHeap (h1.push (seqObj "list" its.toArray 0)) h1.objs.size its (cI (pm.toList.map λj=>its.getD j ah.none))).get? h1.objs.size=some { cls:=.type "list",data:=.seq (cI (pm.toList.map λj=>its.getD j ah.none)) n }:=by
   have g2:=bj (Obj.mapSeq λ_=>(#[]:Array ah)) FP rfl;have g3:=aj (seqObj "list" #[] 0) (aj (seqObj "tuple" its.toArray 0) g2);exact⟨_,bj (Obj.mapSeq λ_=>cI (pm.toList.map λj=>its.getD j ah.none)) g3 rfl⟩
  exact⟨.ref h1.objs.size,_,I1.laid (t':=s.toks) (o:=.lst (pm.toList.map λj=>ys.getD j V.f')) Lb (am _) ⟨hsz,_,n,hv,by simpa using nw⟩,rfl,q _ _ TU (I1.eD.fresh (am _))⟩
variable {M:Fr}{e:Expr}{u:UX}{p pos:Pos}
noncomputable def zi (u:UX):eF->Int->(List af->Int->Prop)->Prop:=λenv n Q=>u env n λd n1=>match d with | .tuple ds=>kK (qV ds) λrs=>rs.length<1000/\Q ((tE rs).map kL) n1 | _=>False
theorem EC (hm:X.mg "sorted" = none)(hu:X.A.units+64<cLine)(h:KL X M e u)(hg:Gl X "sorted" := by rfl)(hs:eI e=true:=by rfl):KN X M (.Call (.Name "sorted" p) [e] [] pos) (zi u) :=
 .of (gO (xm hu) hg hm (!3) (gC h.run eS hs)) λσ H R env pn S n Q ok hu k=>⟨env,pn,S,n,_,ok,hu,λv H1 d n1 r1 x1 g1 _ q=>by
  cases d with
  | tuple es =>
   obtain⟨rs,ei,hl,q⟩:=q;have e2:=tw ei;subst e2;obtain⟨a,xs,rfl,ha,rr⟩:=r1.eY;refine⟨a,xs,S,rs,rfl,.inl (.inl ha),rr,hl,λl RZ Ho hl=>?_⟩;exact k l _ _ _ n1 (uY ok x1 g1 hl) dz ((Ho.fresh hl).ext (.new hl)) (x1.trans (.new hl)) (M.iF g1 (.new (S:=[]) hl) (!4)) q
  | _=>exact False.elim q⟩
end
noncomputable abbrev fW:=List (List Int × af)
noncomputable def km (t:Bool)(d:af):Option (List Int):=match t,d with | false,.int i=>some [i] | true,.tuple ds=>i5 ds | _,_=>none
noncomputable def eG (kvs:fW)(k:List Int):Option af:=(kvs.find? λp=>decide (p.1=k)).map (·.2)
noncomputable def gT (kvs:fW)(k:List Int)(d:af):fW:=if (kvs.any λp=>decide (p.1=k))=true then kvs.map (λp=>if p.1=k then (p.1,d) else p) else kvs++[(k,d)]
section
variable {κ:Type}[DecidableEq κ]{S:List Addr}{H:Hp}{f:List Int->κ}
noncomputable def mW (f:List Int->κ):fW->List V->List (κ × V)
 | p::kvs,x::xs=>(f p.1,x)::mW f kvs xs
 | _,_=>[]
theorem p6 (f:List Int->κ):∀{kvs:fW} {xs:List V},dw S H (kvs.map (·.2)) xs->(mW f kvs xs).length=kvs.length
 | [],_,r=>by cases r.eO;rfl
 | p::kvs,_,r=>by
  obtain⟨x,t,rfl,r1,r2⟩:=r.of_cons;rw[mW,ao,p6 f r2,ao]
theorem nO:∀{kvs:fW} {xs:List V},dw S H (kvs.map (·.2)) xs->(∀p∈kvs,f p.1=f k->p.1=k)->(eG kvs k=none/\gQ (mW f kvs xs) (f k)=none)\/∃d v,eG kvs k=some d/\gQ (mW f kvs xs) (f k)=some v/\dY S H d v
 | [],_,r,_=>by cases r.eO;exact .inl ⟨rfl,rfl⟩
 | p::kvs,_,r,inj=>by
  obtain⟨x,t,rfl,r1,r2⟩:=r.of_cons;by_cases e:p.1=k
  .refine .inr ⟨p.2,x,?_,?_,r1⟩
   .unfold eG;rw[bM,decide_eq_true e];rfl
   .rw[mW,fF (by rw[e])]
  .have e2:¬ f p.1=f k:=λz=>e (inj p (ar ..) z)
   have ih:=nO r2 λq hq=>inj q (ai _ hq);have h1:eG (p::kvs) k=eG kvs k:=by unfold eG;rw[bM,decide_eq_false e]
   rw[h1,mW,fG (p:=(f p.1,x)) e2];exact ih
theorem AR:∀{kvs:fW} {xs:List V},dw S H (kvs.map (·.2)) xs->(∀p∈kvs,f p.1=f k->p.1=k)->((mW f kvs xs).any λkv=>decide (kv.1=f k))=kvs.any λp=>decide (p.1=k)
 | [],_,r,_=>by cases r.eO;rfl
 | p::kvs,_,r,inj=>by
  obtain⟨x,t,rfl,r1,r2⟩:=r.of_cons;rw[mW,ce,ce,AR r2 λq hq=>inj q (ai _ hq)];congr 1;rw[decide_eq_decide];exact⟨inj p (ar ..),λz=>by rw[z]⟩
theorem AS (rv:dY S H d v):∀{kvs:fW} {xs:List V},dw S H (kvs.map (·.2)) xs->(∀p∈kvs,f p.1=f k->p.1=k) ->
  ∃ys,(mW f kvs xs).map (λkv=>if kv.1=f k then (kv.1,v) else kv)=mW f (kvs.map λp=>if p.1=k then (p.1,d) else p) ys/\dw S H ((kvs.map λp=>if p.1=k then (p.1,d) else p).map (·.2)) ys
 | [],_,r,_=>⟨[],by cases r.eO;rfl,.nil⟩
 | p::kvs,_,r,inj=>by
  obtain⟨x,t,rfl,r1,r2⟩:=r.of_cons;obtain⟨ys,h1,h2⟩:=AS rv r2 λq hq=>inj q (ai _ hq);by_cases e:p.1=k
  .refine⟨v::ys,?_,?_⟩
   .rw[mW,ak,ak,h1,if_pos e,mW,if_pos (by rw[e])]
   .rw[ak,ak,if_pos e]
    exact .cons rv h2
  .have e2:¬ f p.1=f k:=λz=>e (inj p (ar ..) z)
   refine⟨x::ys,?_,?_⟩
   .rw[mW,ak,ak,h1,if_neg e,mW,if_neg e2]
   .rw[ak,ak,if_neg e]
    exact .cons r1 h2
theorem xp:∀{kvs:fW} {xs:List V} (d:af),dw S H (kvs.map (·.2)) xs->mW f kvs xs++[(f k,v)]=mW f (kvs++[(k,d)]) (xs++[v])
 | [],_,d,r=>by cases r.eO;rfl
 | p::kvs,_,d,r=>by
  obtain⟨x,t,rfl,r1,r2⟩:=r.of_cons;rw[mW,be,xp d r2];rfl
theorem vm (rv:dY S H d v)(r:dw S H (kvs.map (·.2)) xs)(inj:∀p∈kvs,f p.1=f k->p.1=k) :
  ∃ys,iX (mW f kvs xs) (f k) v=mW f (gT kvs k d) ys/\dw S H ((gT kvs k d).map (·.2)) ys:=by
 unfold iX gT;rw[AR r inj];split
 .exact AS rv r inj
 .refine⟨xs++[v],xp d r,?_⟩
  rw[aO];exact r.append (.cons rv .nil)
end
theorem zj:∀(kvs:fW) (xs:List V),Fx kvs xs=mW (λk=>(Sum.inl (k.headD 0):Key)) kvs xs
 | [],xs=>by cases xs<;>rfl
 | p::kvs,[]=>rfl
 | p::kvs,x::xs=>by rw[Fx,mW,zj kvs xs]
theorem lq:∀(kvs:fW) (xs:List V),r9 kvs xs=mW (λk=>(k.map Sum.inl:List Key)) kvs xs
 | [],xs=>by cases xs<;>rfl
 | p::kvs,[]=>rfl
 | p::kvs,x::xs=>by rw[r9,mW,lq kvs xs]
theorem nP:∀{a b:List Int},(a.map Sum.inl:List Key)=b.map Sum.inl->a=b
 | [],[],_=>rfl
 | [],_::_,h=>by cases h
 | _::_,[],h=>by cases h
 | x::a,y::b,h=>by
  rw[ak,ak] at h;injection h with h1 h2;injection h1 with h1;rw[h1,nP h2]
theorem one_inj {a b:List Int}(ha:a.length=1)(hb:b.length=1)(h:(Sum.inl (a.headD 0):Key)=Sum.inl (b.headD 0)):a=b:=by
 match a,b,ha,hb with
 | [x],[y],_,_=>injection h with h;simpa using h
theorem nQ {gs S:List Addr}{H:Hp}{t:Bool}{d:af}{v:V}{k:List Int}(r:eQ gs S H d v)(e:km t d=some k):(t=false->k.length=1) /\
  (∀(a:Addr) (kvs:fW) (xs:List V),H a=some (ma t kvs xs)->dw S H (kvs.map (·.2)) xs->(t=false->∀p∈kvs,p.1.length=1) ->
   ((eG kvs k=none/\iE H a v none)\/∃d v',eG kvs k=some d/\iE H a v (some v')/\dY S H d v') /\
   ∀(d':af) (v':V),dY S H d' v'->kvs.length<aA->∃ys,pA H a v v' (eg H a (ma t (gT kvs k d') ys))/\dw S H ((gT kvs k d').map (·.2)) ys):=by
 cases t with
 | false =>
  obtain⟨i,rfl⟩:∃i,d=.int i:=by
   cases d with
   | int i=>exact⟨i,rfl⟩
   | _=>cases e
  cases e;rw[r.ee];refine⟨λ_=>rfl,λa kvs xs ha rr hk=>?_⟩;have kh:H a=some (.dK (mW (λk=>(Sum.inl (k.headD 0):Key)) kvs xs)):=by rw[<- zj];exact ha
  have inj:∀p∈kvs,(Sum.inl (p.1.headD 0):Key)=Sum.inl (([i]:List Int).headD 0)->p.1=[i]:=λp hp h=>one_inj (hk rfl p hp) rfl h;refine⟨?_,λd' v' rv hl=>?_⟩
  .have hg:iE H a (.int i) (gQ (mW (λk=>(Sum.inl (k.headD 0):Key)) kvs xs) (Sum.inl i)):=iE.k (k:=Sum.inl i) kh
   rcases nO (f:=λk=>(Sum.inl (k.headD 0):Key)) (k:=[i]) rr inj with⟨h1,h2⟩ | ⟨d,v,h1,h2,h3⟩
   .have R1:gQ (mW (λk=>(Sum.inl (k.headD 0):Key)) kvs xs) (Sum.inl i)=none:=h2
    rw[R1] at hg;exact .inl ⟨h1,hg⟩
   .have R1:gQ (mW (λk=>(Sum.inl (k.headD 0):Key)) kvs xs) (Sum.inl i)=some v:=h2
    rw[R1] at hg;exact .inr ⟨d,v,h1,hg,h3⟩
  .obtain⟨ys,h1,h2⟩:=vm (f:=λk=>(Sum.inl (k.headD 0):Key)) (k:=[i]) rv rr inj
   refine⟨ys,?_,h2⟩;have hp:=pA.k (k:=Sum.inl i) (v:=v') kh (by rw[p6 _ rr];exact hl);have Vj:iX (mW (λk=>(Sum.inl (k.headD 0):Key)) kvs xs) (Sum.inl i) v'=mW (λk=>(Sum.inl (k.headD 0):Key)) (gT kvs [i] d') ys:=h1;rw[Vj,<- zj] at hp;exact hp
 | true =>
  obtain⟨ds,rfl⟩:∃ds,d=.tuple ds:=by
   cases d with
   | tuple ds=>exact⟨ds,rfl⟩
   | _=>cases e
  have e':ds=k.map .int:=gK e;subst e';obtain⟨b,ys,rfl,hb,rb⟩:=r.eY;rw[hZ rb] at hb;have IQ:H b=some (.tup ((k.map (Sum.inl:Int->Key)).map kV)):=by rw[bA];exact hb
  refine⟨(λz=>by cases z),λa kvs xs ha rr hk=>?_⟩;have kh:H a=some (.dT (mW (λk=>(k.map Sum.inl:List Key)) kvs xs)):=by rw[<- lq];exact ha
  have inj:∀p∈kvs,(p.1.map Sum.inl:List Key)=k.map Sum.inl->p.1=k:=λp _ h=>nP h;refine⟨?_,λd' v' rv hl=>?_⟩
  .have hg:=iE.t kh IQ
   rcases nO (f:=λk=>(k.map Sum.inl:List Key)) (k:=k) rr inj with⟨h1,h2⟩ | ⟨d,v,h1,h2,h3⟩
   .rw[h2] at hg
    exact .inl ⟨h1,hg⟩
   .rw[h2] at hg
    exact .inr ⟨d,v,h1,hg,h3⟩
  .obtain⟨ys,h1,h2⟩:=vm (f:=λk=>(k.map Sum.inl:List Key)) (k:=k) rv rr inj
   refine⟨ys,?_,h2⟩;have hp:=pA.t (v:=v') kh IQ (by rw[p6 _ rr];exact hl);rw[h1,<- lq] at hp;exact hp
theorem Ext.xq (hp:p∈S)(h:H p=Option.some (ma t kvs xs)):Ext S H (eg H p o) :=
 ⟨λb u hb e=>by rw[dH (λ(z:b=p)=>hb (by rw[z];exact hp))];exact e,λb ys e=>by rw[dH (λz=>by rw[z,h] at e;cases t<;>cases e)];exact e⟩
theorem Ext.AU (a:Ext S H0 H)(h0:H0 p=none):Ext S H0 (eg H p o) :=
 ⟨λb u hb e=>by rw[dH (λz=>by rw[z,h0] at e;cases e)];exact a.keep b u hb e,λb ys e=>by rw[dH (λz=>by rw[z,h0] at e;cases e)];exact a.tup b ys e⟩
noncomputable def Hq (env:eF)(i:Nat)(a:Addr):Prop:=∀j t kvs,j≠i->env[j]? ≠ some (some (.d a t kvs))
section
theorem dF.R3 (ok:dF M env pn σ S H n)(h0:H a=none)(h1:H' a=some (ma t kvs xs))(r:dw (a::S) H' (kvs.map (·.2)) xs)(hk:t=false->∀p∈kvs,p.1.length=1)(x:Ext M.gs H H')(g:M.G H' n')(hi:i ∉ M.fd) :
  dF M (env.set i (some (.d a t kvs))) pn (σ.set i (some (.ref a))) (a::S) H' n':=by
 have hg:∀b∈M.gs,b∈a::S:=λb hb=>ai _ (ok.pC b hb);have jO:=ok.step x g;refine⟨λj e he=>?_,λj k ds es b h2 h3 h4 h5=>?_,by rw[a6,a6,ok.len],λj hj=>?_,g,jO.ext,λb hb=>ai _ (ok.s0 b hb),λb hb=>?_,λb hb=>?_,λp hp=>?_⟩
 .rcases d9 he with⟨rfl,e1⟩ | ⟨ne,e1⟩
  .cases e1
   have:i<env.length:=by
    by_cases z:i<env.length
    .exact z
    .rw[bC (by rw[a6];omega)] at he;cases he
   exact⟨.ref a,iq (by rw[<- ok.len];exact this),rfl,xs,h1,r,hk,ar ..,ok.anew h0⟩
  .obtain⟨v',hv,rv⟩:=ok.val j e e1
   exact⟨v',by rw[aL ne];exact hv,(rv.fresh h0).step hg x⟩
 .rcases d9 h2 with⟨_,e1⟩ | ⟨n1,e1⟩
  .cases e1
  .rcases d9 h3 with⟨_,e2⟩ | ⟨n2,e2⟩
   .cases e2
   .rw[aL n1] at h4
    rw[aL n2] at h5;exact ok.ne j k ds es b e1 e2 h4 h5
 .have:i≠j:=λz=>hi (z ▸ hj)
  rw[aL this];exact ok.wx j hj
 .rcases av.mp hb with z | z
  .rw[z];exact .inr (ok.anew h0)
  .exact ok.sn b z
 .rcases av.mp hb with z | z
  .rw[z,h1];simp
  .exact jO.has b z
 .exact ((ok.pin p hp).fresh h0).ext (x.mono hg)
theorem dF.only (ok:dF M env pn σ S H n)(h0:H a=none)(j:Nat)(t:Bool)(kvs:fW):env[j]? ≠ some (some (.d a t kvs)):=λz=>by
 obtain⟨v,_,_,xs,ha,_,_,hs,_⟩:=ok.val j _ z;exact ok.has a hs h0
theorem dF.putD (ok:dF M env pn σ S H n)(he:env[i]? = some (some (.d a t kvs)))(ho:Hq env i a)(r:dw S H (kvs'.map (·.2)) ys)(hk:t=false->∀p∈kvs',p.1.length=1) :
  dF M (env.set i (some (.d a t kvs'))) pn σ S (eg H a (ma t kvs' ys)) n:=by
 obtain⟨v',hv,rfl,xs,ha,_,_,hs,h0⟩:=ok.val i _ he;have x:Ext [a] H (eg H a (ma t kvs' ys)):=.xq (!4) ha;have xS:Ext S H (eg H a (ma t kvs' ys)):=x.mono (by simpa using hs);refine⟨λj e hj=>?_,λj k pD sN b h2 h3 h4 h5=>?_,by rw[a6,ok.len],ok.wx,M.iF ok.gd x (by simpa using h0),ok.ext.AU h0,ok.s0,ok.sn,λb hb=>?_,λp hp=>(ok.pin p hp).ext xS⟩
 .rcases d9 hj with⟨rfl,e1⟩ | ⟨ne,e1⟩
  .cases e1
   exact⟨_,hv,rfl,ys,dz,r.ext xS,hk,hs,h0⟩
  .obtain⟨w,hw,kJ⟩:=ok.val j e e1
   refine⟨w,hw,?_⟩
   cases e with
   | s d=>exact dY.ext xS kJ
   | o sN =>
    obtain⟨b,zs,e2,hb,r2,mq,qD⟩:=kJ;subst e2;exact⟨b,zs,rfl,by rw[dH (λz=>by rw[z,ha] at hb;exact lT hb.symm)];exact hb,r2.ext xS,mq,qD⟩
   | x c as =>
    obtain⟨b,dx,vs,e2,hb,hd,r2,g1,g2⟩:=kJ;exact⟨b,dx,vs,e2,by rw[dH (λz=>by rw[z,ha] at hb;cases t<;>cases hb)];exact hb,by rw[dH (λz=>by rw[z,ha] at hd;cases t<;>cases hd)];exact hd,r2.ext xS,g1,g2⟩
   | d b t2 O3 =>
    obtain⟨e2,zs,hb,r2,wg,mq,qD⟩:=kJ;have R4:b≠a:=λz=>ho j t2 O3 (λz2=>ne z2.symm) (z ▸ e1);exact⟨e2,zs,by rw[dH R4];exact hb,r2.ext xS,wg,mq,qD⟩
   | f b o O3 zs =>
    obtain⟨e2,hb,r2,mq,qD⟩:=kJ;exact⟨e2,by rw[dH (λz=>by rw[z,ha] at hb;cases t<;>cases hb)];exact hb,r2.ext xS,mq,qD⟩
 .rcases d9 h2 with⟨_,e1⟩ | ⟨n1,e1⟩
  .cases e1
  .rcases d9 h3 with⟨_,e2⟩ | ⟨n2,e2⟩
   .cases e2
   .exact ok.ne j k pD sN b e1 e2 h4 h5
 .by_cases z:b=a
  .rw[z,dz];simp
  .rw[dH z];exact ok.has b hb
end
theorem sv {X:Cx}(h:X.A.units+64<cLine):X.A.units+1<cLine:=by omega
noncomputable def o8 (i:Nat)(uk uv:UX):US:=λE env n=>uv env n λd n1=>match env[i]? with | some (some (.d a t kvs))=>uk env n1 λk n2=>kK (km t k) λkk=>(kvs.length<aA/\Hq env i a)/\E.nx (env.set i (some (.d a t (gT kvs kk d)))) n2 | _=>False
noncomputable def xr (i:Nat)(uk:UX):UX:=λenv n Q=>match env[i]? with | some (some (.d a t kvs))=>uk env n λk n1=>kK (km t k) λkk=>kK (eG kvs kk) λd=>Q d n1 | _=>False
noncomputable def AV (i:Nat)(uk:UX):UX:=λenv n Q=>uk env n λk n1=>match env[i]? with | some (some (.d a t kvs))=>kK (km t k) λkk=>Q (.bool (!(eG kvs kk).isSome)) n1 | _=>False
theorem Hr (hk:t=false->∀p∈kvs,p.1.length=1)(h1:t=false->k.length=1):t=false->∀p∈gT kvs k d,p.1.length=1:=λht p hp=>by
 unfold gT at hp;split at hp
 .obtain⟨q,hq,rfl⟩:=aQ.mp hp
  split
  .exact hk ht q hq
  .exact hk ht q hq
 .rcases aK.mp hp with hp | hp
  .exact hk ht p hp
  .rw[aq.mp hp];exact h1 ht
section
theorem ED (i:Nat)(hu:X.A.units+1<cLine)(hk:KL X M ke uk)(hv:KE X M ve uv)(hN:X.N[i]? = some x:=by rfl)(Ht:rZ X.env.scope x:=by (first | exact Or.inl rfl | exact Or.inr (Or.inl rfl) | exact Or.inr (Or.inr rfl)))(hd:(x == ("__debug__" : Str))=false:=by decide)(iU:(x == ("__classdict__" : Str))=false:=by decide)
  (hs:swapsWith ve (some (.Subscript (.Name x p) ke fZ)) pos.line X.env=pure false:=by rfl):KS X M (.Assign [.Subscript (.Name x p) ke fZ] ve pos) (o8 i uk uv):=.of (pT hu (qv i hN Ht hd iU) hk.run hv.run hs) λD σ H env pn S n E ok pH k1 k2=>by
 refine⟨env,pn,S,n,_,ok,pH,λv H1 d n1 r1 x1 g1 _ q=>?_⟩;have hU:=ok.step x1 g1;split at q
 .rename_i a t kvs he
  obtain⟨v0,Jb,rfl,xs,ha,rr,GW,LL,h0⟩:=hU.val i _ he;refine⟨_,Jb,env,pn,S,n1,_,hU,q,λy H3 kd n2 r2 x2 g2 _ q2=>?_⟩;obtain⟨kk,ek,⟨hl,ho⟩,q2⟩:=q2;have qG:=hU.step x2 g2;obtain⟨Vk,R5,e',oZ,kh,Ho,B0,_,_⟩:=qG.val i _ he;obtain⟨h1,h2⟩:=nQ r2 ek;obtain⟨ys,hp,hr⟩:=(h2 a kvs oZ kh Ho B0).2 d v (r1.ext (x2.mono hU.pC)) hl;exact⟨a,_,rfl,hp,k1 _ _ _ _ _ (qG.putD he ho hr (Hr B0 h1)) q2⟩
 .exact q.elim
theorem LM (i:Nat)(hu:X.A.units+1<cLine)(hk:KL X M ke uk)(hN:X.N[i]? = some x:=by rfl)(Ht:rZ X.env.scope x:=by (first | exact Or.inl rfl | exact Or.inr (Or.inl rfl) | exact Or.inr (Or.inr rfl)))(hd:(x == ("__debug__" : Str))=false:=by decide)(iU:(x == ("__classdict__" : Str))=false:=by decide)
  (hs:BB ke:=by exact λ_ _=>rfl):KE X M (.Subscript (.Name x p) ke pos) (xr i uk):=.of (lU hu (qv i hN Ht hd iU) hk.run hs) λσ H R env pn S n Q ok pH k=>by
 unfold xr at pH;split at pH
 .rename_i a t kvs he
  obtain⟨v0,Jb,rfl,xs,ha,rr,GW,LL,h0⟩:=ok.val i _ he;refine⟨_,Jb,env,pn,S,n,_,ok,pH,λy H1 kd n1 r1 x1 g1 _ q=>?_⟩;obtain⟨kk,ek,d,ed,q⟩:=q;have hU:=ok.step x1 g1;obtain⟨Vk,R5,e',oZ,kh,Ho,B0,_,_⟩:=hU.val i _ he;rcases ((nQ r1 ek).2 a kvs oZ kh Ho B0).1 with⟨z,_⟩ | ⟨d',v',z,hg,hr⟩
  .rw[z] at ed;cases ed
  .rw[z] at ed
   cases ed;exact⟨a,v',rfl,hg,k v' H1 _ n1 hr x1 g1 q⟩
 .exact pH.elim
theorem LN (i:Nat)(hu:X.A.units+1<cLine)(hk:KL X M ke uk)(hN:X.N[i]? = some x:=by rfl)(Ht:rZ X.env.scope x:=by (first | exact Or.inl rfl | exact Or.inr (Or.inl rfl) | exact Or.inr (Or.inr rfl)))(hd:(x == ("__debug__" : Str))=false:=by decide)(iU:(x == ("__classdict__" : Str))=false:=by decide)
  (hm:behindInMarks .NotIn (.Name x p)=false:=by first | exact iV _ | rfl):KB X M (.Compare ke [.NotIn] [.Name x p] pos) (d6 (AV i uk)):=.of (⟨yb (oj hu hk.run.run (qv i hN Ht hd iU).run) hm⟩:QT X _ _) λσ H R env pn S n Q ok pH k=>by
 refine⟨env,pn,S,n,_,ok,pH,λy H1 kd n1 r1 x1 g1 _ q=>?_⟩;have hU:=ok.step x1 g1;split at q
 .rename_i a t kvs he
  obtain⟨kk,ek,q⟩:=q;obtain⟨v0,Jb,rfl,oZ,kh,Ho,B0,_,_⟩:=hU.val i _ he;rcases ((nQ r1 ek).2 a kvs oZ kh Ho B0).1 with⟨z,hg⟩ | ⟨d',v',z,hg,hr⟩
  .rw[z] at q
   exact⟨_,Jb,a,_,rfl,hg,_,rfl,k _ H1 n1 x1 g1 q⟩
  .rw[z] at q
   exact⟨_,Jb,a,_,rfl,hg,_,rfl,k _ H1 n1 x1 g1 q⟩
 .exact q.elim
end
noncomputable def nR (p:af × af):Option (List Int × af):=match p.1 with | .tuple ks=>(i5 ks).map λk=>(k,p.2) | _=>none
noncomputable def Hu (d:af):Option (Bool × fW):=match d with | .dict ((.bool t,.none)::l)=>(l.mapM nR).map λkvs=>(t,kvs) | _=>none
theorem EE:∀kvs:fW,(kvs.map λp=>(af.tuple (p.1.map .int),p.2)).mapM nR=some kvs
 | []=>rfl
 | p::kvs=>by
  have e:nR (af.tuple (p.1.map .int),p.2)=some p:=by
   unfold nR;simp only[hV];rfl
  rw[ak,cu,EE kvs,e];rfl
theorem oG (t:Bool)(kvs:fW):Hu (eM t kvs)=some (t,kvs):=by
 unfold eM ml Hu;simp only[EE,bS]
theorem xt:∀{l:List (af × af)} {kvs:fW},l.mapM nR=some kvs->l=kvs.map λp=>(af.tuple (p.1.map .int),p.2)
 | [],kvs,h=>by cases h;rfl
 | p::l,kvs,h=>by
  rw[cu] at h
  cases hp:nR p with
  | none=>rw[hp] at h;cases h
  | some q =>
   cases hl:l.mapM nR with
   | none=>rw[hp,hl] at h;cases h
   | some r =>
    rw[hp,hl] at h;cases h;rw[ak,<- xt hl];congr 1;unfold nR at hp;split at hp
    .rename_i ks he
     cases ha:i5 ks with
     | none=>rw[ha] at hp;cases hp
     | some k =>
      rw[ha] at hp;cases hp;rw[<- gK ha];cases p;simp only at he;rw[he]
    .cases hp
theorem EF (h:Hu d=some (t,kvs)):d=eM t kvs:=by
 unfold Hu at h;split at h
 .rename_i t' l
  cases hl:l.mapM nR with
  | none=>rw[hl] at h;cases h
  | some r =>
   rw[hl] at h;cases h;rw[eM,ml,<- xt hl]
 .cases h
theorem EG (h:ml t kvs=ml t' kvs'):t=t'/\kvs=kvs':=by
 have h1:=oG t kvs;rw[eM,h,<- eM,oG] at h1;cases h1;exact⟨rfl,rfl⟩
theorem eQ.Jc (r:eQ gs S H d v)(e:Hu d=some (t,kvs)):∃a xs,v=.ref a/\H a=some (ma t kvs xs)/\dw S H (kvs.map (·.2)) xs/\(t=false->∀p∈kvs,p.1.length=1):=by
 rw[EF e] at r;obtain⟨a,t',kvs',xs,e1,e2,ha,hk,hr⟩:=eQ.mL r;obtain⟨rfl,rfl⟩:=EG e2;exact⟨a,xs,e1,ha,hr,hk⟩
noncomputable def mF (ud uk:UX):UX:=λenv n Q=>ud env n λd n1=>kK (Hu d) λtk=>uk env n1 λk n2=>kK (km tk.1 k) λkk=>kK (eG tk.2 kk) λx=>Q x n2
noncomputable def xu (uk ud:UX):UX:=λenv n Q=>uk env n λk n1=>ud env n1 λd n2=>kK (Hu d) λtk=>kK (km tk.1 k) λkk=>Q (.bool (eG tk.2 kk).isSome) n2
noncomputable def xv (uk ud:UX):UX:=λenv n Q=>uk env n λk n1=>ud env n1 λd n2=>kK (Hu d) λtk=>kK (km tk.1 k) λkk=>Q (.bool (!(eG tk.2 kk).isSome)) n2
section
variable {X:Cx}{M:Fr}{o e ke ve:Expr}{uk uv ud:UX}{pos fZ p p2:Pos}
theorem vn (hu:X.A.units+1<cLine)(ho:KL X M o ud)(hk:KL X M ke uk)(hs:BB ke:=by exact λ_ _=>rfl):KE X M (.Subscript o ke pos) (mF ud uk):=.of (lU hu ho.run hk.run hs) λσ H R env pn S n Q ok pH k=>by
 refine⟨env,pn,S,n,_,ok,pH,λv H1 d n1 r1 x1 g1 _ q=>?_⟩;obtain⟨⟨t,kvs⟩,e,q⟩:=q;have hU:=ok.step x1 g1;refine⟨env,pn,S,n1,_,hU,q,λy H2 kd n2 r2 x2 g2 _ q2=>?_⟩;obtain⟨kk,ek,x,ex,q2⟩:=q2;obtain⟨a,xs,rfl,ha,rr,GW⟩:=(r1.ext hU.pC x2).Jc e;rcases ((nQ r2 ek).2 a kvs xs ha rr GW).1 with⟨z,_⟩ | ⟨d',v',z,hg,hr⟩
 .rw[z] at ex;cases ex
 .rw[z] at ex
  cases ex;exact⟨a,v',rfl,hg,k v' H2 _ n2 hr (x1.trans x2) g2 q2⟩
theorem LO {σ:St}{H:Hp}{env:eF}{pn:List (af × V)}{S:List Addr}{n:Int}{Q:af->Int->Prop}{f:Bool->Bool}{R:Addr->Option V->V->Hp->Prop}(ok:dF M env pn σ S H n)
  (pH:uk env n λk n1=>ud env n1 λd n2=>kK (Hu d) λtk=>kK (km tk.1 k) λkk=>Q (.bool (f (eG tk.2 kk).isSome)) n2)
  (k:∀a y ov H2 n2,iE H2 a y ov->Ext M.gs H H2->M.G H2 n2->Q (.bool (f ov.isSome)) n2->R a ov y H2) :
  wy M uk σ H λy H1=>wy M ud σ H1 λx H2=>∃a ov,x=.ref a/\iE H2 a y ov/\R a ov y H2 :=
 ⟨env,pn,S,n,_,ok,pH,λy H1 kd n1 r1 x1 g1 _ q=>⟨env,pn,S,n1,_,ok.step x1 g1,q,λv H2 d n2 r2 x2 g2 _ q2=>by
  obtain⟨⟨t,kvs⟩,e,kk,ek,q2⟩:=q2;obtain⟨a,xs,rfl,ha,rr,GW⟩:=r2.Jc e;rcases ((nQ (r1.ext ok.pC x2) ek).2 a kvs xs ha rr GW).1 with⟨z,hg⟩ | ⟨d',v',z,hg,hr⟩
  .rw[z] at q2
   exact⟨a,none,rfl,hg,k a y none H2 n2 hg (x1.trans x2) g2 q2⟩
  .rw[z] at q2
   exact⟨a,some v',rfl,hg,k a y (some v') H2 n2 hg (x1.trans x2) g2 q2⟩⟩⟩
theorem Jd (hu:X.A.units+1<cLine)(hk:KL X M ke uk)(ho:KL X M o ud)(hm:behindInMarks .In o=false:=by first | exact iV _ | rfl):KE X M (.Compare ke [.In] [o] pos) (xu uk ud):=.of (⟨CD (Dr hu hk.run.run ho.run.run) hm⟩:QE X _ _) λσ H R env pn S n Q ok pH k =>
 LO (f:=id) ok pH λa y ov H2 n2 hg x g q=>k _ H2 _ n2 (.bl _) x g q
theorem Je (hu:X.A.units+1<cLine)(hk:KL X M ke uk)(ho:KL X M o ud)(hm:behindInMarks .In o=false:=by first | exact iV _ | rfl):KB X M (.Compare ke [.In] [o] pos) (d6 (xu uk ud)):=.of (⟨yb (Dr hu hk.run.run ho.run.run) hm⟩:QT X _ _) λσ H R env pn S n Q ok pH k =>
 LO (f:=id) (Q:=λd n'=>PU d λb=>Q b n') ok pH λa y ov H2 n2 hg x g q=>⟨_,rfl,k _ H2 n2 x g q⟩
theorem LP (hu:X.A.units+1<cLine)(hk:KL X M ke uk)(ho:KL X M o ud)(hm:behindInMarks .NotIn o=false:=by first | exact iV _ | rfl):KE X M (.Compare ke [.NotIn] [o] pos) (xv uk ud):=.of (⟨CD (oj hu hk.run.run ho.run.run) hm⟩:QE X _ _) λσ H R env pn S n Q ok pH k =>
 LO (f:=not) ok pH λa y ov H2 n2 hg x g q=>k _ H2 _ n2 (.bl _) x g q
end
section
theorem dF.hold (ok:dF M env pn σ S H n){a:Addr}(h0:H a=none)(h1:H' a≠none)(x:Ext M.gs H H')(g:M.G H' n'):dF M env pn σ (a::S) H' n':=by
 have hg:∀b∈M.gs,b∈a::S:=λb hb=>ai _ (ok.pC b hb);have jO:=ok.step x g;refine⟨λj e he=>?_,ok.ne,ok.len,ok.wx,g,jO.ext,λb hb=>ai _ (ok.s0 b hb),λb hb=>?_,λb hb=>?_,λp hp=>((ok.pin p hp).fresh h0).ext (x.mono hg)⟩
 .obtain⟨v',hv,rv⟩:=ok.val j e he
  exact⟨v',hv,(rv.fresh h0).step hg x⟩
 .rcases av.mp hb with z | z
  .rw[z];exact .inr (ok.anew h0)
  .exact ok.sn b z
 .rcases av.mp hb with z | z
  .rw[z];exact h1
  .exact jO.has b z
theorem dF.EH (ok:dF M env pn σ S H n){a:Addr}{t:Bool}{kvs:fW}{xs:List V}(ha:H a=some (ma t kvs xs))(r:dw S H (kvs.map (·.2)) xs)(hk:t=false->∀p∈kvs,p.1.length=1)(hs:a∈S)(h0:M.H0 a=none)(hi:i ∉ M.fd) :
  dF M (env.set i (some (.d a t kvs))) pn (σ.set i (some (.ref a))) S H n:=by
 refine⟨λj e he=>?_,λj k ds es b h2 h3 h4 h5=>?_,by rw[a6,a6,ok.len],λj hj=>?_,ok.gd,ok.ext,ok.s0,ok.sn,ok.has,ok.pin⟩
 .rcases d9 he with⟨rfl,e1⟩ | ⟨ne,e1⟩
  .cases e1
   have:i<env.length:=by
    by_cases z:i<env.length
    .exact z
    .rw[bC (by rw[a6];omega)] at he;cases he
   exact⟨.ref a,iq (by rw[<- ok.len];exact this),rfl,xs,ha,r,hk,hs,h0⟩
  .obtain⟨v',hv,rv⟩:=ok.val j e e1
   exact⟨v',by rw[aL ne];exact hv,rv⟩
 .rcases d9 h2 with⟨_,e1⟩ | ⟨n1,e1⟩
  .cases e1
  .rcases d9 h3 with⟨_,e2⟩ | ⟨n2,e2⟩
   .cases e2
   .rw[aL n1] at h4
    rw[aL n2] at h5;exact ok.ne j k ds es b e1 e2 h4 h5
 .have:i≠j:=λz=>hi (z ▸ hj)
  rw[aL this];exact ok.wx j hj
end
noncomputable def zk (i:Nat)(uk uv:UX):US:=λE env n=>uk env n λk n1=>uv env n1 λd n2=>kK (km false k) λkk=>∀a:Addr,(∀(j:Nat) (t':Bool) (kv:fW),env[j]? ≠ some (some (Ent.d a t' kv)))->E.nx (env.set i (some (.d a false [(kk,d)]))) n2
section
theorem Hv (hN:X.N.Nodup)(hx:Loc X.env.scope x)(hk:KE X M ke uk)(hv:KE X M ve uv)(hi:X.N[i]? = some x:=by rfl)(hs:swapsWith (.Dict [some ke] [ve] p) (some (.Name x fZ)) pos.line X.env=pure false:=by rfl)
  (hf:X.fn x=true\/X.env.scope.names.lookup x=some .local:=by (first | exact .inl rfl | exact .inr rfl | assumption)) (hfd:i ∉ M.fd:=by decide):KS X M (.Assign [.Name x fZ] (.Dict [some ke] [ve] p) pos) (zk i uk uv) :=
 .of (gD hN hi hx (⟨GS (Dv hk.run.run hv.run.run GR) rfl rfl (!4) (!4)⟩:QE X _ _) hs hf) λD σ H env pn S n E ok hu k1 k2 a ha=>by
  have x0:Ext M.gs H (eg H a (.dK [])):=.new ha;have Jf:=ok.hold (H':=eg H a (.dK [])) ha (by rw[dz];simp) x0 (ok.grow (.new ha));have Jg:a ∉ M.gs:=M.out (ok.anew ha);refine⟨env,pn,a::S,n,_,Jf,hu,λy H1 kd n1 r1 x1 g1 _ q=>?_⟩;have hU:=Jf.step x1 g1;refine⟨env,pn,a::S,n1,_,hU,q,λv H2 d n2 r2 x2 g2 _ q=>?_⟩;have qG:=hU.step x2 g2;obtain⟨kk,ek,q⟩:=q;have h2:H2 a=some (.dK []):=x2.keep _ _ Jg (x1.keep _ _ Jg dz)
  obtain⟨j,rfl⟩:∃j:Int,kd=.int j:=by
   cases kd with
   | int j=>exact⟨j,rfl⟩
   | _=>cases ek
  cases ek;refine⟨h2,[(.inl j,v)],by rw[r1.ee];rfl,!4,?_⟩;have R6:=qG.EH (i:=i) (t:=false) (kvs:=[]) (xs:=[]) h2 .nil (!4) (ar ..) (ok.anew ha) hfd
  have pE:(env.set i (some (Ent.d a false [])))[i]? = some (some (Ent.d a false []))\/env.length<=i:=by
   by_cases z:i<env.length
   .exact .inl (iq z)
   .exact .inr (!1)
  have oV:=λj' t' kv=>ok.only ha j' t' kv;rcases pE with pE | hlen
  .have O4:=R6.putD (kvs':=[([j],d)]) (ys:=[v]) pE (λj' t' kv iW z=>by
    rw[aL (λz=>iW z.symm)] at z;exact oV j' t' kv z) (.cons r2 .nil) (λ_ p hp=>by rw[aq.mp hp];rfl)
   rw[dq] at O4;exact k1 _ _ _ _ _ O4 (q a oV)
  .have FI:∀y,env.set i y=env:=λy=>cM hlen
   have vZ:∀y,σ.set i y=σ:=λy=>cM (by rw[<- ok.len];exact hlen);have R7:=ok.hold (H':=eg H2 a (ma false [([j],d)] [v])) (n':=n2) ha (by rw[dz];simp) (((x0.trans x1).trans x2).AU ha) (M.iF g2 (Ext.xq (S:=[a]) (t:=false) (kvs:=[]) (xs:=[]) (!4) h2) (by simpa using ok.anew ha));have:=q a oV;rw[FI] at this;refine k1 _ _ _ _ _ (?_:dF M env pn _ (a::S) _ n2) this;rw[vZ];exact R7
end
section
theorem vo {id:String}{b:Builtin}{args:List ah}{kw:List (Str × ah)}{Q:ah->ax->Prop}(hk:builtinKind id=none)(hp:plainId id=true)(hb:entryFor table id=some b)(ha:argsOk id ⟨args,kw⟩)
  (hc:aG (model prog w) A.in1 (b ⟨args,kw⟩) (λfin s'=>match fin with
   | .done f=>(match (Except.ok f:Result) with | .ok (.ret v)=>Q v s' | .ok _=>False | .error e=>E e s')
   | .again c'=>c'.quiet=true/\codeAny (model prog w) A c' (λr s'=>match r with | .ok (.ret v)=>Q v s' | .ok _=>False | .error e=>E e s') s') E s):aG (model prog w) A (call (.builtin id) args kw) Q E s:=by
 refine wpAny_call (codeAny_call_builtin hp hb ?_);simp only[checkBuiltinCall,hk]
 cases R8:Manifest.signature? id with
 | none=>exact ap hc
 | some sig =>
  simp only[argsOk,R8] at ha;have h2:Bind.checkArgs id sig ⟨args,kw⟩=pure ():=ha;show aG _ A.in1 (Bind.checkArgs id sig ⟨args,kw⟩) _ _ s;rw[h2];exact ap hc
theorem B1 (a d:ah):argsOk "min" ⟨[a],[("default",d)]⟩:=by unfold argsOk;kernel_rfl
theorem Hw (hh:A.handled=none)(gl:s.heap.IsList l vs)(cmp:tp prog w A.in1 s.heap .Lt (λi v=>vs[i]? = some v) bt)
  (f':vs.size=0->∀h1 tk,g6 s.heap h1->Q .none { s with heap:=h1,toks:=tk })
  (fin:∀v h1 tk,0<vs.size->vs[argBest bt (vs.size - 1)]? = some v->g6 s.heap h1->Q v { s with heap:=h1,toks:=tk }):aG (model prog w) A (call (.builtin "min") [.ref l] [("default",.none)]) Q E s:=by
 have nm:(toString "min" ++ toString ".loop" : String) = "min.loop" := by decide
 have ll:l<s.heap.objs.size:=let ⟨_,e,_⟩:=gl;aI e;refine vo F.kind_min F.plain_min F.entry_min (B1 _ _) ?_;refine ag (m:=Builtin.Builtins.bindParams "min" ["key", "default"] 0 ⟨[],[("default",.none)]⟩) (wpAny_of_eq (show _=pure [none,some .none] from rfl) (ag (ap (ag ?_))));refine wpAny_pyIter_list gl (ag (bh ?_));rw[nm];have W:=Walks.list (prog:=prog) (w:=w) (A:=A.in1) hh s.heap.objs.size l (bp ll) vs;have no:∀k,s.heap.get? (s.heap.objs.size+k)=none:=λk=>by simp[Heap.get?]
 have gi:(s.heap.push { cls:=.type "list_iterator",data:=.fields #[.ref l,.int 0 0] }).IsListIter s.heap.objs.size l 0:=⟨_,aB _ rfl,rfl,rfl⟩;have sz:(s.heap.push { cls:=.type "list_iterator",data:=.fields #[.ref l,.int 0 0] }).objs.size=s.heap.objs.size+1:=cf ..;have nM:g6 s.heap (s.heap.push { cls:=.type "list_iterator",data:=.fields #[.ref l,.int 0 0] }):=λb o e=>aj _ e;have Cs:(s.heap.push { cls:=.type "list_iterator",data:=.fields #[.ref l,.int 0 0] }).IsList l vs:=gl.push _;show aG _ _ _ _ _ { s with heap:=(s.heap.push { cls:=.type "list_iterator",data:=.fields #[.ref l,.int 0 0] }).push { cls:=.type "list",data:=.seq #[] 0 } };generalize s.heap.push { cls:=.type "list_iterator",data:=.fields #[.ref l,.int 0 0] }=h1 at gi sz nM Cs ⊢;have gz:(h1.push { cls:=.type "list",data:=.seq #[] 0 }).get? h1.objs.size=some { cls:=.type "list",data:=.seq #[] 0 }:=aB _ rfl;have mD:g6 h1 (h1.push { cls:=.type "list",data:=.seq #[] 0 }):=λb o e=>aj _ e
 have zf:h1.objs.size ∉ [s.heap.objs.size,l]:=by
  rw[sz];simp only[av,cv,or_false,not_or];exact⟨cT _,cc (cP ll)⟩
 have zw:h1.objs.size ∉ [s.heap.objs.size]:=λy=>zf (W.sub _ y);refine ap ⟨plainId_quiet F.plain_min_loop _,codeAny_builtin F.entry_min_loop ?_⟩;rw[Around.under_plainId F.plain_min_loop _];refine ag (m:=seqItems? (.ref h1.objs.size)) (wpAny_seqItems gz rfl ?_);by_cases iW:0<vs.size
 .refine ag (m:=tryCatch (pyNext (.ref s.heap.objs.size)) _) (wpAny_tryCatch (W.item 0 _ _ _ iW (W.frame _ _ _ ⟨gi,Cs⟩ λb _ o e=>mD b o e) λv h3 t3 pv ye k3=>?_))
  have g3:=k3 _ _ zw gz;have qN:g6 s.heap h3:=λb o e=>k3 b o (λy=>by rw[aq.mp y,<- cq s.heap.objs.size,no] at e;cases e) (mD b o (nM b o e));refine ag (m:=updateSeq h1.objs.size λ_=>#[v,v]) (wpAny_updateSeq g3 rfl ?_);rw[nm];refine ap ⟨plainId_quiet F.plain_min_loop _,Ec W (λb hb=>by rw[aq.mp hb,<- cq s.heap.objs.size];exact no 0) bt cmp h1.objs.size zf (by rw[sz];exact no 1) (vs.size - 1) 0 _ v _ (!1) (W.frame _ _ _ ye λx xf o e=>(aJ _ _ (λq:h1.objs.size=x=>zf (by rw[q];exact xf))).trans e) pv (bj _ g3 rfl) (λx o e=>(aJ _ _ (λq:h1.objs.size=x=>by rw[<- q,sz,no] at e;cases e)).trans (qN x o e)) λv' h4 t4 p4 k4=>fin v' h4 t4 iW p4 k4⟩
 .have e0:vs.size=0:=by omega
  refine ag (m:=tryCatch (pyNext (.ref s.heap.objs.size)) _) (wpAny_tryCatch (W.done _ _ _ (by rw[e0];exact W.frame _ _ _ ⟨gi,Cs⟩ λb _ o e=>mD b o e) λh3 t3 k3=>?_));have qN:g6 s.heap h3:=λb o e=>k3 b o (λy=>by rw[aq.mp y,<- cq s.heap.objs.size,no] at e;cases e) (mD b o (nM b o e));exact ag (wpAny_rule (ap (f' e0 h3 t3 qN)))
end
noncomputable def EI (ue:UX):UX:=λenv n Q=>ue env n λd n1=>match d with | .list []=>Q .none n1 | .list (d::ds)=>va false (d::ds)/\Q (iB false d ds) n1 | _=>False
section
variable {X:Cx}{M:Fr}{e:Expr}{ue:UX}{p kp p3 pos:Pos}
theorem B2 (hc:X.calm=true)(hu:X.A.units+64<cLine)(I:Inv X pins σ H s)(hp:gc X.K H q ys)(hr:dw S H ds ys)
  (h:match (generalizing:=false) ds with | []=>Q .f' H | d::ds=>va false (d::ds)/\∀v,dY S H (iB false d ds) v->Q v H):aG (model X.prog X.w) X.A (call (.builtin "min") [.ref q] [("default",.none)]) (EP X pins σ Q) X.xe s:=by
 obtain⟨its,rv,ht,hz⟩:=I.list hp;have hlen:its.length=ds.length:=by rw[<- rv.length,hr.length]
 have BR:va false ds:=by
  cases ds with
  | nil=>intro x hx;cases hx
  | cons d ds=>exact h.1
 have FF:af.canLayAll0 ds=true:=mT λx hx=>(BR x hx).1.1
 have pE:∀i,i<its.length->ds.getD i .none∈ds:=λi hi=>by
  rw[az,aX (!1),cw];exact bY _
 refine Hw (I.ok.hd hc) ht.isList (bt:=Ct false ds) (λi j u v s' Q' E' held hi hj hq=>?_) (λh0 h1 tk held=>?_) λv h1 tk h0 hv held=>?_
 .have hi:its.toArray[i]? = some u:=hi
  have hj:its.toArray[j]? = some v:=hj;rw[cS] at hi hj;obtain⟨as,ra⟩:=dw.reads (I.kept (h':=s'.heap) (t':=s.toks) held).eD FF hr rv;obtain⟨i1,rfl⟩:=aD.mp hi;obtain⟨j1,rfl⟩:=aD.mp hj;obtain⟨RQ,r1⟩:=fU ra i1;obtain⟨RR,r2⟩:=fU ra j1;have mi:=pE i i1;have mj:=pE j j1;obtain⟨r,hr⟩:=bO.mp ((BR _ mi).2 _ mj);have e:Ct false ds i j=r:=by unfold Ct;rw[hr];rfl
  rw[e] at hq;exact Ef 50 _ _ r X.A.in1 s' _ _ RQ RR (BR _ mi).1.2 r1 r2 (BR _ mi).1.1 (BR _ mj).1.1 (by show X.A.units+1+50<_;omega) hr X.prog X.w E' Q' hq
 .rw[aC,hlen] at h0
  cases ds with
  | nil=>exact⟨.f',H,I.kept held,rfl,h⟩
  | cons d ds=>simp at h0
 .rw[cS] at hv
  obtain⟨k1,rfl⟩:=aD.mp hv;obtain⟨x,rx,kC⟩:=hr.RP rv _ k1
  cases ds with
  | nil=>rw[aC,hlen] at h0;simp at h0
  | cons d ds =>
   have hs:its.toArray.size - 1=ds.length:=by rw[aC,hlen,ao];omega
   rw[hs,vb false d ds ds.length (am _),List.take_length] at rx;exact⟨x,H,I.kept held,kC,h.2 x rx⟩
noncomputable def O5 (te:TE):TE:=λσ H Q=>te σ H λx H1=>∃q ys S ds,x=.ref q/\gc X.K H1 q ys/\dw S H1 ds ys/\match ds with | []=>Q .f' H1 | d::ds=>va false (d::ds)/\∀v,dY S H1 (iB false d ds) v->Q v H1
theorem Hx {j}(hc:X.calm=true)(hu:X.A.units+64<cLine)(he:QE X e te)(hm:X.mg "min" = none)(hg:Gl X "min")(hs:eI e=true)(h1:backTo pos (starEach [e] X.env)=(false,eval e X.env)::backTo pos (starEach [] X.env))(h2:(backTo pos (starEach [e] X.env)).any (·.1)=false) :
  QE X (.Call (.Name "min" p) [e] [⟨some "default",.Constant .none j p3,kp⟩] pos) (O5 (X:=X) te):=⟨λpins s σ H Q I h=>by
 refine wpAny_Call_Name_kw (og (u:=.builtin "min") I hg hm (!3) ?_);have ha:=(gC he eS hs).run pos pins s σ H (λvs H1=>match vs with | [x]=>∃q ys S ds,x=.ref q/\gc X.K H1 q ys/\dw S H1 ds ys/\(match ds with | []=>Q .f' H1 | d::ds=>va false (d::ds)/\∀v,dY S H1 (iB false d ds) v->Q v H1) | _=>False) I h;refine callWith_kw (fk ha λus s1 ⟨vs,H1,I1,r1,q1⟩=>?_) h1 h2
 match vs,r1,q1 with
 | [x],r1,⟨q,ys,S,ds,ex,sq,rr,q2⟩ =>
  subst ex;obtain⟨u,rfl,ru⟩:=vals1 r1;cases ru;refine kws_cons (fk (CC pins s1 σ H1 (λx H2=>x=.f'/\H2=H1) I1 ⟨rfl,rfl⟩) λv s2 ⟨x,H2,I2,rx,hx,hH⟩=>kws_nil ?_);subst hx hH;cases (show v=ah.none from rx);exact B2 hc hu I2 sq rr q2⟩
theorem LQ {j}(hc:X.calm=true)(hu:X.A.units+64<cLine)(he:KL X M e ue)(hm:X.mg "min" = none)(hg:Gl X "min" := by rfl)(hs:eI e=true:=by rfl)(h1:backTo pos (starEach [e] X.env)=(false,eval e X.env)::backTo pos (starEach [] X.env):=by rfl)(h2:(backTo pos (starEach [e] X.env)).any (·.1)=false:=by rfl) :
  KE X M (.Call (.Name "min" p) [e] [⟨some "default",.Constant .none j p3,kp⟩] pos) (EI ue):=.of (Hx hc hu he.run hm hg hs h1 h2) λσ H R env pn S n Q ok pH k=>by
 refine⟨env,pn,S,n,_,ok,pH,λv H1 d n1 r1 x1 g1 _ q=>?_⟩;have hU:=ok.step x1 g1;split at q
 .obtain⟨a,xs,rfl,sq,_,rr⟩:=r1.II (K:=X.K)
  exact⟨a,xs,S,[],rfl,sq,rr,k _ H1 _ n1 .f' x1 g1 q⟩
 .rename_i d ds
  obtain⟨a,xs,rfl,sq,_,rr⟩:=r1.II (K:=X.K);exact⟨a,xs,S,d::ds,rfl,sq,rr,q.1,λv rv=>k v H1 _ n1 rv x1 g1 q.2⟩
 .exact q.elim
end
section
variable {prog:aV}{w:World}{A:Around}{E:ah->ax->Prop}{s:ax}{d it:Addr}{o:Obj}{es:Array DictEntry}{ep i:Nat}
theorem EJ {Q:ah->ax->Prop}(hd:(d == sysModules)=false)(ho:s.heap.get? d=some o)(hc:o.ExactDict)(hk:o.data=.dict es ep)
  (q:Q (.ref s.heap.objs.size) { s with heap:=s.heap.push { cls:=.type "dict_keyiterator",data:=.fields #[.ref d,.int 0 0,.int es.size 0,.int ep 0] } }):aG (model prog w) A (pyIter (.ref d)) Q E s:=by
 have ty:s.TypeIs (.ref d) "dict" := ⟨o,ho,hc.1⟩;refine wpAny_pyIter_slot ty F.slot_dict_iter (wpAny_call_entry F.slot_dict_iter ty F.entry_dict_iter (ag ?_) (F.args_dict_iter_1 _));refine ag (wpAny_notOrdered_dict ty (ap ?_));refine (ag ?_:aG _ _ (Builtin.Dict.showsAll d >>= _) _ _ s);unfold Builtin.Dict.showsAll;rw[if_neg (by rw[hd];decide)];refine ap (ag (wpAny_dictEntries ho hk (ag (wpAny_dictEpoch ho hk (ag (bh (ap ⟨_,rfl, "dict_keyiterator",_,⟨_,aB _ rfl,rfl⟩,F.slot_dict_keyiterator_next.lookup,?_⟩)))))));simpa [rawInt] using q
theorem EK {Q:Option ah->ax->Prop}(st:s.heap.IsKeyIter it d i es.size ep)(ho:s.heap.get? d=some o)(hk:o.data=.dict es ep)(hi:i<es.size)
  (q:∀h',h'.IsKeyIter it d (i+1) es.size ep->Heap.SameBut it s.heap h'->Q (some es[i].key) { s with heap:=h' }):aG (model prog w) A (pyNext (.ref it)) Q E s:=by
 obtain⟨u,hu,c,f⟩:=id st;unfold pyNext;refine ag (wpAny_attempt (wpAny_callSpecial?_slot (name:=Str.ofString "__next__") st.typeIs F.slot_dict_keyiterator_next (wpAny_call_entry F.slot_dict_keyiterator_next st.typeIs F.entry_dict_keyiterator_next (ag (ap ?_)) (F.args_dict_keyiterator_next_1 _))));refine ag (ag ?_);first | refine ag (wpAny_typeNameOfWhole_keyiter st.typeIs (ap (ag (wpAny_fieldsOf hu f ?_)))) | refine ag (wpAny_typeNameOf_keyiter st.typeIs (ap (ag (wpAny_fieldsOf hu f ?_))))
 simp only[show Builtin.Dict_items.ownsTuple "dict_keyiterator" = false by decide,bK,if_false];show aG _ _ (ite ((ah.ref d == ah.none)=true) _ _) _ _ s;rw[if_neg (show ¬ ((ah.ref d == ah.none)=true) from aR)];refine ag (ap (ag (wpAny_dictEntries ho hk ?_)));rw[if_neg (!4)];refine ag (ap (ag (wpAny_dictEpoch ho hk ?_)));rw[if_neg (!4)];refine ap ?_;simp only[show ¬ ((i:Int)<0) from by omega,if_false,bU,Array.getElem?_eq_getElem hi];refine ag ?_;first | refine ag (wpAny_typeNameOfWhole_keyiter st.typeIs (ap (ag (wpAny_isOneOf_keyiter st.typeIs ?_)))) | refine ag (wpAny_typeNameOf_keyiter st.typeIs (ap (ag (wpAny_isOneOf_keyiter st.typeIs ?_))))
 refine (ag (wpAny_setField hu f (!4) ?_):aG _ _ (setField (.ref it) 1 (rawInt ((i:Int)+1)) >>= _) _ _ s);have eh:(s.heap.update it (Obj.mapFields (·.setIfInBounds 1 (rawInt ((i:Int)+1))))).IsKeyIter it d (i+1) es.size ep:=⟨_,bj _ hu (Obj.isFreed_of_fields (Obj.data_mapFields f _)),(Obj.cls_mapFields ..).trans c,by rw[Obj.data_mapFields f];simp[rawInt]⟩;refine ag (wpAny_holding (ag (wpAny_isOneOf_keyiter (s:={ s with heap:=s.heap.update it (Obj.mapFields (·.setIfInBounds 1 (rawInt ((i:Int)+1)))) }) eh.typeIs ?_)));show aG _ _ (pure es[i].key) _ _ _;exact ap (ap ⟨_,rfl,ap (q _ eh (Heap.SameBut.update ..))⟩)
theorem Hy {Q:Option ah->ax->Prop}(hh:A.handled=none)(st:s.heap.IsKeyIter it d i es.size ep)(ho:s.heap.get? d=some o)(hk:o.data=.dict es ep)(hi:es.size<=i)
  (q:∀h',Heap.ExtBut it s.heap h'->Q none { s with heap:=h' }):aG (model prog w) A (pyNext (.ref it)) Q E s:=by
 obtain⟨u,hu,c,f⟩:=id st;unfold pyNext;refine ag (wpAny_attempt (wpAny_callSpecial?_slot (name:=Str.ofString "__next__") st.typeIs F.slot_dict_keyiterator_next (wpAny_call_entry F.slot_dict_keyiterator_next st.typeIs F.entry_dict_keyiterator_next (ag (ap ?_)) (F.args_dict_keyiterator_next_1 _))));refine ag (ag ?_);first | refine ag (wpAny_typeNameOfWhole_keyiter st.typeIs (ap (ag (wpAny_fieldsOf hu f ?_)))) | refine ag (wpAny_typeNameOf_keyiter st.typeIs (ap (ag (wpAny_fieldsOf hu f ?_))))
 simp only[show Builtin.Dict_items.ownsTuple "dict_keyiterator" = false by decide,bK,if_false];show aG _ _ (ite ((ah.ref d == ah.none)=true) _ _) _ _ s;rw[if_neg (show ¬ ((ah.ref d == ah.none)=true) from aR)];refine ag (ap (ag (wpAny_dictEntries ho hk ?_)));rw[if_neg (!4)];refine ag (ap (ag (wpAny_dictEpoch ho hk ?_)));rw[if_neg (!4)];refine ap ?_;simp only[show ¬ ((i:Int)<0) from by omega,if_false,bU,Array.getElem?_eq_none hi];refine ag ?_;first | refine ag (wpAny_typeNameOfWhole_keyiter st.typeIs (ap ?_)) | refine ag (wpAny_typeNameOf_keyiter st.typeIs (ap ?_))
 refine (ag (wpAny_setField hu f (!4) ?_):aG _ _ (setField (.ref it) 0 .none >>= _) _ _ s);refine (ag ?_:aG _ _ (newExc (.type "StopIteration") [] >>= _) _ _ _);simp only[newExc,newTuple];refine ag (bh (ag (m:=firstArgMember _ _) (wpAny_of_eq (a:=ah.none) (by first | rfl | (simp only[firstArgMember];rfl)) (bh ?_ (by size_fits)))) (by size_fits));simp only[raiseNew];refine ag (wpAny_handled ?_);rw[show A.in1.handled=none from hh];refine ag (ap (wpAny_throw (ag ?_)));exact wpAny_isInstance (T := "StopIteration") (b:=true) ⟨_,aB _ rfl,rfl⟩ isSubtype_stop (ap (q _ (((Heap.SameBut.update ..).extBut.push _).push _)))
end
theorem Paired.at {α β:Type}{F:α->β->Prop}:∀{l:List α} {m:List β},Paired F l m->∀(i:Nat) (p:α),l[i]? = some p->∃q,m[i]? = some q/\F p q
 | _,_,.nil,i,p,h=>by simp at h
 | _,_,.cons r t,0,p,h=>by
  rw[aa] at h;cases h;exact⟨_,rfl,r⟩
 | _,_,.cons r t,i+1,p,h=>by
  rw[ae] at h;exact Paired.at t i p h
noncomputable def TV (o:Obj)(a:Addr)(kvs:List (List Key × V)):It :=
 ⟨λi H=>H a=some (.mH o (.dT kvs))/\i<kvs.length,λi H x H'=>H'=H/\∃k v b,kvs[i]? = some (k,v)/\x=.ref b/\H b=some (.tup (k.map kV)),λi H=>H a=some (.mH o (.dT kvs))/\kvs.length<=i⟩
section
variable {X:Cx}{pins:List (Addr × Obj)}{s:ax}{σ:St}{H:Hp}{a:Addr}{o:Obj}{kvs:List (List Key × V)}{es:Array DictEntry}{ep:Nat}{tg:Expr}
theorem Jh (x:fb X.prog X.w H s.heap a (.dT kvs)):∃o es ep,s.heap.get? a=some o/\o.ExactDict/\o.data=.dict es ep/\(a == sysModules)=false/\es.size=kvs.length/\∀(i:Nat) (h:i<es.size) (p:List Key × V),kvs[i]? = some p->∃b,es[i].key=.ref b/\H b=some (.tup (p.1.map kV)):=by
 obtain⟨_,y,xs,r,o,es,ep,e,c,d,k,_⟩:=x;have hl:es.size=xs.length:=size_of_entries k;refine⟨o,es,ep,e,c,d,y,by rw[hl];exact (Paired.length r).symm,λi h p hp=>?_⟩;obtain⟨q,hq,z1,z2,_⟩:=Paired.at r i p hp;have:=entry_at k i;rw[hq,Array.getElem?_eq_getElem h] at this;exact⟨q.2.1,by rw[Option.some.inj this];rfl,z2⟩
theorem Ji (I:Inv X pins σ H s)(h:H a=some (.mH o (.dT kvs)))(hd:o.data=.dict es ep):s.heap.get? a=some o/\es.size=kvs.length/\∀(i:Nat) (h:i<es.size) (p:List Key × V),kvs[i]? = some p->∃b,es[i].key=.ref b/\H b=some (.tup (p.1.map kV)):=by
 obtain⟨e,x⟩:=I.eD a _ h;obtain⟨o',sN,JB,e',_,d',_,hl,hk⟩:=Jh x;rw[e] at e';cases e';rw[hd] at d';cases d';exact⟨e,hl,hk⟩
theorem LR {P:aV}{w:World}{K:W.Frag}(a it:Addr)(hd:o.data=.dict es ep):vU P w K tg (TV o a kvs) [it] it (λi h=>h.IsKeyIter it a i kvs.length ep) where
 mem:=by simp
 obj:=λi h st b hb=>by
  have e:b=it:=by simpa using hb
  subst e;obtain⟨o,e,c,d⟩:=st;exact⟨o,e,λv z=>by rw[d] at z;cases z⟩
 keep:=λi h h' st k=>st.at λo e=>k it (!4) o e
 item:=by
  intro X hP hw hK hc i pins s σ H E I hf st hg;subst hP hw hK;obtain⟨hg,hi⟩:=hg;obtain⟨e,hl,hk⟩:=Ji I hg hd;have wc:i<es.size:=by omega
  obtain⟨b,hb,hH⟩:=hk i wc kvs[i] (by simp[hi]);obtain⟨f0,f1,f2,f3,f4,f5⟩:=hf it (!4);rw[<- hl] at st;refine EK st e hd wc λh' eh sb=>?_;have I1:Inv X pins σ H { s with heap:=h' }:=I.turned (t':=s.toks) (λb o hb e=>(sb.2 b hb).trans e) f0 f1 f3 f4 f5;obtain⟨o',e',c',d'⟩:=id eh;rw[hb];exact⟨.ref b,rfl,vV (s:={ s with heap:=h' }) e' c' d' (!2) ⟨.ref b,H,I1,rfl,⟨rfl,kvs[i].1,kvs[i].2,b,by rw[aX hi],rfl,hH⟩,by rw[<- hl];exact eh,λb hb=>(hf b hb).1⟩⟩
 done:=by
  intro X hP hw hK hc i pins s σ H E I hf st hg;subst hP hw hK;obtain⟨hg,hi⟩:=hg;obtain⟨e,hl,hk⟩:=Ji I hg hd;obtain⟨f0,f1,f2,f3,f4,f5⟩:=hf it (!4);rw[<- hl] at st;exact Hy (I.ok.hd hc) st e hd (!1) λh' eb=>⟨rfl,I.turned (t':=s.toks) (λb o hb e=>eb b o hb e) f0 f1 f3 f4 f5⟩
 self:=λ_ _ _ _ _ st h=>wpAny_pyIter_keyiter st h
theorem Inv.Hz (I:Inv X pins σ H s)(h:H a=some (.dT kvs)):∃o es ep,o.data=.dict es ep/\Inv X pins σ (eg H a (.mH o (.dT kvs))) s/\s.heap.get? a=some o/\o.ExactDict/\(a == sysModules)=false/\es.size=kvs.length:=by
 have x:=I.eD a _ h;obtain⟨o,es,ep,e,c,d,y,hl,_⟩:=Jh x;refine⟨o,es,ep,d,?_,e,c,y,hl⟩;exact I.write (x:=a) (e:=a) (h':=s.heap) (t':=s.toks) (o:=.mH o (.dT kvs)) (by rw[h];exact trivial) (.inl rfl) (λb u _ q=>q) ⟨o,e⟩ ⟨e,x.xZ (λ_ _ _ q=>q) (λb hb=>by rw[dH (λz=>by rw[z,h] at hb;cases hb)];exact hb) λb ys hb=>by rw[dH (λz=>by rw[z,h] at hb;cases hb)];exact hb⟩
noncomputable def LS (tl:TE):TI:=λσ H R=>tl σ H λx H1=>∃a kvs,x=.ref a/\H1 a=some (.dT kvs)/\∀o,R (TV o a kvs) (eg H1 a (.mH o (.dT kvs)))
theorem EL {l:Expr}{tl:TE}(hl:QE X l tl):QI X tg l (LS tl):=by
 refine⟨λpins s σ H R I h=>fk (hl.run pins s σ H _ I h) λv s1 ⟨x,H1,I1,r1,q1⟩=>?_⟩;obtain⟨a,kvs,e,ha,q⟩:=q1;subst e;cases r1;obtain⟨o,es,ep,hd,I2,e,c,hy,hlen⟩:=I1.Hz ha;refine EJ hy e c hd ?_;refine⟨s1.heap.objs.size,[s1.heap.objs.size],_,_,_,rfl,I2.kept (t':=s1.toks) λb o e=>aj _ e,LR a _ hd,⟨_,aB _ rfl,rfl,by rw[hlen];rfl⟩,λb hb=>?_,q o⟩;have e:b=s1.heap.objs.size:=by simpa using hb
 subst e;exact I2.px (am _) (I2.eD.fresh (am _))
end
section
variable {prog:aV}{w:World}{A:Around}{E:ah->ax->Prop}{s:ax}{a d:Addr}{o u:Obj}{es fs:Array DictEntry}{ep eq:Nat}
theorem HA {b:Addr}{Q:Bool->ax->Prop}(ty:s.TypeIs (.ref b) "tuple")(q:Q false s):aG (model prog w) A (Builtin.Dict.quietEq (.ref b)) Q E s:=by
 unfold Builtin.Dict.quietEq;exact ag (wpAny_specialOf ty F.slot_tuple_eq.lookup (ap q))
structure R9 (s:ax) (es:Array DictEntry):Prop where
 key:∀e∈es.toList,∃b,e.key=.ref b/\s.TypeIs (.ref b) "tuple"
 one:∀e∈es.toList,(es.filter (·.hash == e.hash)).size<=1
theorem HB {id:String}{Q:Array DictEntry->ax->Prop}(ho:s.heap.get? a=some o)(hk:o.data=.dict es ep)(un:R9 s es)(q:Q es s):aG (model prog w) A (Builtin.Dict.entriesForEmpty id a) Q E s:=by
 unfold Builtin.Dict.entriesForEmpty;refine ag (wpAny_dictEntries ho hk (ag ?_));rw[<- Array.forIn_toList];refine wpAny_forIn_list _ (λrest _ s'=>s'=s/\∀e∈rest,e∈es.toList) _ ?_ ?_ _ _ ⟨rfl,λ_ h=>h⟩
 .rintro e rest _ _ ⟨rfl,hm⟩
  have he:=hm e (ar ..);obtain⟨b,hb,ty⟩:=un.key e he;rw[hb];refine ag (HA ty ?_);rw[if_pos (!2),if_neg (by have:=un.one e he;omega)];exact ap ⟨rfl,λe h=>hm e (ai _ h)⟩
 .rintro _ _ ⟨rfl,_⟩
  exact ap q
theorem HC {nm:String}{Q:Unit->ax->Prop}(Vl:d≠a)(ha:(a == sysModules)=false)(ho:s.heap.get? a=some o)(hk:o.data=.dict es ep)(hu:s.heap.get? d=some u)(hv:u.data=.dict #[] eq)(un:R9 s es)(hz:es.size<=aA)
  (hc:u.ExactDict) (q:∀h' u' Vm,h'.get? d=some u'->u'.ExactDict->u'.data=.dict es Vm->Heap.SameBut d s.heap h'->Q () { s with heap:=h' }):aG (model prog w) A (Builtin.Dict.mergeDict nm d a) Q E s:=by
 unfold Builtin.Dict.mergeDict;rw[if_neg (by simpa using Vl)];unfold Builtin.Dict.showsAll;rw[if_neg (by rw[ha];decide)];refine ag (ap (ag (wpAny_dictEntries ho hk ?_)));by_cases h0:es=#[]
 .subst h0
  dsimp only;rw[if_neg (!4)];refine ag (wpAny_dictEpoch ho hk (ag (wpAny_dictEntries ho hk (ag ?_))));rw[Std.Legacy.Range.forIn_eq_forIn_range'];exact ap (ap (q _ _ _ hu hc hv (Heap.SameBut.refl _ _)))
 .have Kq:(decide (es.size<=8) && es.all λe=>(keyPart e.key).isSome)=false:=by
   rw[Bool.and_eq_false_iff];refine .inr ?_;obtain⟨e,he⟩:∃e,e∈es.toList:=List.exists_mem_of_ne_nil _ (by simpa using h0);obtain⟨b,hb,_⟩:=un.key e he;rw[<- Array.all_toList,List.all_eq_false];exact⟨e,he,by rw[hb];exact aR⟩
  rw[Kq];dsimp only;rw[if_pos (!2)];refine ag (wpAny_dictEntries hu hv ?_);rw[if_pos (!2)];refine ag (HB ho hk un ?_);rw[if_pos (by simpa using h0)];exact ag (wpAny_updateDictKeysTo hu hv (ap (q _ _ (eq+1) (bj _ hu (Obj.isFreed_of_dict (Obj.data_mapDictKeys hv _))) (hc.mapDictKeys _) (Obj.data_mapDictKeys hv _) (Heap.SameBut.update ..))) (Nat.le_succ_of_le hz))
theorem zm {Q:ah->ax->Prop}(ha:(a == sysModules)=false)(ho:s.heap.get? a=some o)(hc:o.ExactDict)(hk:o.data=.dict es ep)(un:R9 s es)(hz:es.size<=aA)
  (q:∀h' u eq,h'.get? s.heap.objs.size=some u->u.ExactDict->u.data=.dict es eq->(∀b v,s.heap.get? b=some v->h'.get? b=some v)->Q (.ref s.heap.objs.size) { s with heap:=h' }):aG (model prog w) A (call (.type "dict") [.ref a]) Q E s:=by
 have gn:=aI ho;refine callType_codes (Q₁:=λobj s₁=>obj=.ref s.heap.objs.size/\s₁={ s with heap:=s.heap.push { cls:=.type "dict",data:=.dict #[] } }) F.kt_called_dict (F.kt_typeCall_dict_1 _) F.entry_dict_init (kt_code_dict_new _ ⟨rfl,rfl⟩) ?_;rintro obj s₁ ⟨rfl,rfl⟩;have hn:(s.heap.push { cls:=.type "dict",data:=.dict #[] }).get? s.heap.objs.size=some { cls:=.type "dict",data:=.dict #[] }:=aB _ rfl;have hold:=aj { cls:=.type "dict",data:=.dict #[] } ho;have ty:ax.TypeIs { s with heap:=s.heap.push { cls:=.type "dict",data:=.dict #[] } } (.ref s.heap.objs.size) "dict" := ⟨_,hn,rfl⟩;have R':ax.TypeIs { s with heap:=s.heap.push { cls:=.type "dict",data:=.dict #[] } } (.ref a) "dict" := ⟨_,hold,hc.1⟩;refine⟨ty,F.args_dict_init_2 _ _,?_⟩;unfold Builtin.«dict.__init__»;refine ag (ag (wpAny_notOrdered_dict ty (ap ?_)));refine (?_:aG _ _ (Builtin.Dict.updateFrom "dict.__init__" s.heap.objs.size (.ref a) [] .none) _ _ _);unfold Builtin.Dict.updateFrom;refine ag (wpAny_typeOf R' ?_);rw[if_neg (!2)];refine ag (ag (ag (wpAny_isInstance R' isSubtype_dict_dict ?_)));simp only[dh,bK,if_false];refine ag (wpAny_specialOf R' F.slot_dict_iter.lookup (ap ?_));simp only[beq_self_eq_true,if_true];refine ag (ap (HC (u:={ cls:=.type "dict",data:=.dict #[] }) (eq:=0) (cc gn) ha hold hk hn rfl ?_ hz ⟨rfl,rfl,rfl⟩ λh' u eq h1 h2 h3 h4=>?_))
 .exact⟨λe he=>let ⟨b,hb,o,h1,h2⟩:=un.key e he;⟨b,hb,o,aj _ h1,h2⟩,un.one⟩
 .show aG _ _ (Builtin.Dict.addKeywords s.heap.objs.size [] >>= _) _ _ _
  refine ag (ap (ap ⟨rfl,q h' u eq h1 h2 h3 λb v hb=>?_⟩));rw[h4.2 b (bp (aI hb))];exact aj _ hb
end
noncomputable def tH (k:List Int):Int:=reduceHash (Builtin.Tuple.tupleHashOf (k.map hashInt))
theorem LU (P:aV)(w:World)(k:List Int):(tupleKind (d8 P w)).hash (k.map Sum.inl)=tH k:=by
 show reduceHash (Builtin.Tuple.tupleHashOf ((k.map Sum.inl).map (d8 P w).hash))=_;rw[bA];rfl
section
variable {X:Cx}{pins:List (Addr × Obj)}{s:ax}{σ:St}{H:Hp}{a:Addr}{o:Obj}{kvs:List (List Key × V)}{es:Array DictEntry}{ep:Nat}
theorem zo {es:Array DictEntry}(h:(es.toList.map (·.hash)).Nodup):∀e∈es.toList,(es.filter (·.hash == e.hash)).size<=1:=λe he=>by
 rw[<- bv,Array.toList_filter]
 have key:∀l:List DictEntry,(l.map (·.hash)).Nodup->(l.filter (·.hash == e.hash)).length<=1:=by
  intro l
  induction l with
  | nil=>intro _;simp
  | cons x l ih =>
   intro hn;rw[ak,aZ] at hn;rw[cV];split
   .rename_i hx
    have hx:x.hash=e.hash:=by simpa using hx
    have:l.filter (·.hash == e.hash)=[]:=List.filter_eq_nil_iff.mpr λy hy z=>hn.1 (aQ.mpr ⟨y,hy,(beq_iff_eq.mp z).trans hx.symm⟩);rw[ao,this];exact am _
   .exact ih hn.2
 exact key _ h
theorem zp:fP X (.type "dict") (λxs H Q=>∃(p:Addr) (kvs:List (List Key × V)),xs=[.ref p]/\Rd H p (.dT kvs)/\(kvs.map λp=>(tupleKind (d8 X.prog X.w)).hash p.1).Nodup/\∀l,H l=none->Q (.ref l) (eg H l (.dT kvs))):=by
 intro pins s σ H xs us Q I r h;obtain⟨p,kvs,rfl,hp,hn,q⟩:=h;obtain⟨u,rfl,ru⟩:=vals1 r;cases ru;obtain⟨z,y,xs,kC,o,es,ep,e,c,d,k,nd⟩:=Dp I.eD hp;have hl:es.size=xs.length:=size_of_entries k;have WO:kvs.length=xs.length:=Paired.length kC
 have hh:es.toList.map (·.hash)=kvs.map λp=>(tupleKind (d8 X.prog X.w)).hash p.1:=by
  rw[k,bA]
  have:∀{l:List (List Key × V)} {m:List (List Key × Addr × ah)},KT H l m->m.map ((·.hash) ∘ entryOfKey (tupleKind (d8 X.prog X.w)))=l.map λp=>(tupleKind (d8 X.prog X.w)).hash p.1:=by
   intro l m t
   induction t with
   | nil=>rfl
   | cons h t ih=>rw[ak,ak,ih,h.1];rfl
  exact this kC
 refine zm y e c d ⟨λx hx=>?_,zo (by rw[hh];exact hn)⟩ (!1) λh' u eq h1 h2 h3 h4=>?_
 .rw[k] at hx
  obtain⟨q,hq,rfl⟩:=aQ.mp hx;obtain⟨i,hi⟩:=List.getElem?_of_mem hq;have:i<kvs.length:=by have:=(aD.mp hi).1;omega
  obtain⟨q',O2,z1,z2,_⟩:=Paired.at kC i kvs[i] (by rw[aX this]);rw[hi] at O2;cases O2;obtain⟨_,its,_,ob,g1,g2,_⟩:=I.eD _ _ z2;exact⟨q.2.1,rfl,ob,g1,g2⟩
 .have fr:=I.eD.fresh (am s.heap.objs.size)
  have hs:(s.heap.objs.size == sysModules)=false:=beq_eq_false_iff_ne.mpr (cc I.big);refine⟨.ref s.heap.objs.size,_,I.laid (a:=s.heap.objs.size) (o:=.dT kvs) (t':=s.toks) h4 (am _) ⟨z,hs,xs,KT.keeps kC λb ys hb=>?_,u,es,eq,h1,h2,h3,k,nd⟩,rfl,q _ fr⟩;rw[dH (λz=>by rw[z,fr] at hb;cases hb)];exact hb
noncomputable def LV (tk tv:TE):TE:=λσ H Q=>∀p,H p=none->tk σ (eg H p (.dT [])) λy H1=>tv σ H1 λv H2=>H2 p=some (.dT [])/\∃b ks,y=.ref b/\H2 b=some (.tup (ks.map kV))/\Q (.ref p) (eg H2 p (.dT [(ks,v)]))
theorem xw {k v:Expr}{tk tv:TE}{pos:Pos}(hu:X.A.units+1<cLine)(hk:PE X k tk)(hv:PE X v tv):PE X (.Dict [some k] [v] pos) (LV tk tv):=by
 intro pins s σ H Q I q;have hn:=I.eD.fresh (am s.heap.objs.size);have I1:=I.laid (a:=s.heap.objs.size) (o:=.dT []) (h':=s.heap.push { cls:=.type "dict",data:=.dict #[] }) (t':=s.toks) (λ_ _ q=>aj _ q) (am _) (Ds s.heap I.big);refine wpAny_Dict_any rfl rfl (!4) (!4) (pairTrees_cons_walk (fk (hk pins _ σ _ _ I1 (q _ hn)) λu s2 ⟨y,H2,I2,ry,q2⟩=>fk (hv pins s2 σ H2 _ I2 q2) λw3 s3 ⟨x,H3,I3,rx,e,b,ks,ey,eb,q3⟩=>pairTrees_nil_walk ?_));subst ey;cases (show u=ah.ref b from ry);obtain⟨z,hd,WQ,r0,dd⟩:=IA I3.eD e;cases r0;unfold storeAll;rw[List.forIn_cons];refine ag (ag (wpAny_dictSet_heap (knd:=tupleKind (d8 X.prog X.w)) (show X.A.units<cLine by omega) (mM I3.eD eb) dd (λh' GL hs=>ap ?_) (!4)));show aG _ _ (pure PUnit.unit) _ _ _;obtain⟨o',sN,JB,g1,g2,g3,g4,_,g5⟩:=GL;refine ap ⟨.ref s.heap.objs.size,_,pS (ob:=.dT [(ks,x)]) I3 (by rw[e];exact True.intro) hs ⟨o',g1⟩ ⟨(by decide:1<=aA),hd,_,.cons ⟨rfl,?_,rx⟩ .nil,o',sN,JB,g1,g2,g3,g4,g5⟩,rfl,q3⟩;have iW:b≠s.heap.objs.size:=λz=>by rw[z,e] at eb;cases eb
 exact (dH iW).trans eb
end
theorem EM (k:List Int):(k.map (Sum.inl:Int->Key)).map kV=k.map V.int:=by rw[bA];rfl
theorem p7 {gs S:List Addr}{H:Hp}{d:af}{v:V}{k:List Int}(r:eQ gs S H d v)(e:km true d=some k):∃b,v=.ref b/\H b=some (.tup ((k.map (Sum.inl:Int->Key)).map kV)):=by
 obtain⟨ds,rfl⟩:∃ds,d=.tuple ds:=by
  cases d with
  | tuple ds=>exact⟨ds,rfl⟩
  | _=>cases e
 have e':ds=k.map .int:=gK e;subst e';obtain⟨b,ys,rfl,hb,rb⟩:=r.eY;rw[hZ rb] at hb;exact⟨b,rfl,by rw[EM];exact hb⟩
theorem HD {S:List Addr}{H:Hp}{b:Addr}{k:List Int}(h:H b=some (.tup ((k.map (Sum.inl:Int->Key)).map kV))):dY S H (.tuple (k.map .int)) (.ref b):=by
 rw[EM] at h;exact .tup h (.ints k)
theorem EN {S:List Addr}{H:Hp}:∀{kvs:fW} {xs:List V},dw S H (kvs.map (·.2)) xs->∀(i:Nat) (k:List Key) (v:V),(r9 kvs xs)[i]? = some (k,v)->∃p,kvs[i]? = some p/\k=p.1.map Sum.inl
 | [],_,r,i,k,v,h=>by cases r.eO;simp[r9] at h
 | p::kvs,_,r,0,k,v,h=>by
  obtain⟨x,t,rfl,r1,r2⟩:=r.of_cons;rw[r9,aa] at h;cases h;exact⟨p,rfl,rfl⟩
 | p::kvs,_,r,i+1,k,v,h=>by
  obtain⟨x,t,rfl,r1,r2⟩:=r.of_cons;rw[r9,ae] at h;exact EN r2 i k v h
theorem AW {S:List Addr}{H:Hp}{kvs:fW}{xs:List V}(r:dw S H (kvs.map (·.2)) xs):(r9 kvs xs).length=kvs.length:=by rw[lq];exact p6 _ r
theorem AX {S:List Addr}{H:Hp}{α:Type}(g:List Key->α):∀{kvs:fW} {xs:List V},dw S H (kvs.map (·.2)) xs->(r9 kvs xs).map (λp=>g p.1)=kvs.map λp=>g (p.1.map Sum.inl)
 | [],_,r=>by cases r.eO;rfl
 | p::kvs,_,r=>by
  obtain⟨x,t,rfl,r1,r2⟩:=r.of_cons;rw[r9,ak,AX g r2,ak]
section
variable {M:Fr}{env:eF}{pn:List (af × V)}{σ:St}{S:List Addr}{H H':Hp}{n n':Int}{i:Nat}
theorem dF.xq (ok:dF M env pn σ S H n){a:Addr}{t:Bool}{kvs:fW}{en:Ent}{ob:HO}(he:env[i]? = some (some (.d a t kvs)))(ho:Hq env i a)(hn:∀es,en≠.o es)
  (r:∀xs,H a=some (ma t kvs xs)->dw S H (kvs.map (·.2)) xs->Ext S H (eg H a ob)->oY M S (eg H a ob) en (.ref a)):dF M (env.set i (some en)) pn σ S (eg H a ob) n:=by
 obtain⟨v',hv,rfl,xs,ha,hr,_,hs,h0⟩:=ok.val i _ he;have x:Ext [a] H (eg H a ob):=.xq (!4) ha;have xS:Ext S H (eg H a ob):=x.mono (by simpa using hs);refine⟨λj e hj=>?_,λj k pD sN b h2 h3 h4 h5=>?_,by rw[a6,ok.len],ok.wx,M.iF ok.gd x (by simpa using h0),ok.ext.AU h0,ok.s0,ok.sn,λb hb=>?_,λp hp=>(ok.pin p hp).ext xS⟩
 .rcases d9 hj with⟨rfl,e1⟩ | ⟨ne,e1⟩
  .cases e1
   exact⟨_,hv,r xs ha hr xS⟩
  .obtain⟨w,hw,kJ⟩:=ok.val j e e1
   refine⟨w,hw,?_⟩
   cases e with
   | s d=>exact dY.ext xS kJ
   | o sN =>
    obtain⟨b,zs,e2,hb,r2,mq,qD⟩:=kJ;subst e2;exact⟨b,zs,rfl,by rw[dH (λz=>by rw[z,ha] at hb;exact lT hb.symm)];exact hb,r2.ext xS,mq,qD⟩
   | x c as =>
    obtain⟨b,dx,vs,e2,hb,hd,r2,g1,g2⟩:=kJ;exact⟨b,dx,vs,e2,by rw[dH (λz=>by rw[z,ha] at hb;cases t<;>cases hb)];exact hb,by rw[dH (λz=>by rw[z,ha] at hd;cases t<;>cases hd)];exact hd,r2.ext xS,g1,g2⟩
   | d b t2 O3 =>
    obtain⟨e2,zs,hb,r2,wg,mq,qD⟩:=kJ;have R4:b≠a:=λz=>ho j t2 O3 (λz2=>ne z2.symm) (z ▸ e1);exact⟨e2,zs,by rw[dH R4];exact hb,r2.ext xS,wg,mq,qD⟩
   | f b o O3 zs =>
    obtain⟨e2,hb,r2,mq,qD⟩:=kJ;exact⟨e2,by rw[dH (λz=>by rw[z,ha] at hb;cases t<;>cases hb)];exact hb,r2.ext xS,mq,qD⟩
 .rcases d9 h2 with⟨_,e1⟩ | ⟨n1,e1⟩
  .exact absurd (Option.some.inj e1.symm) (λz=>hn _ z.symm)
  .rcases d9 h3 with⟨_,e2⟩ | ⟨n2,e2⟩
   .exact absurd (Option.some.inj e2.symm) (λz=>hn _ z.symm)
   .exact ok.ne j k pD sN b e1 e2 h4 h5
 .by_cases z:b=a
  .rw[z,dz];simp
  .rw[dH z];exact ok.has b hb
end
noncomputable def mG (kvs:fW):List af:=kvs.map λp=>af.tuple (p.1.map af.int)
theorem tI (kvs:fW):(mG kvs).length=kvs.length:=by unfold mG;rw[au]
noncomputable abbrev TX (env:eF)(a:Addr):Prop:=∀(j:Nat) (t':Bool) (kv:fW),env[j]? ≠ some (some (Ent.d a t' kv))
noncomputable def zq (i:Nat)(uk uv:UX):US:=λE env n=>uk env n λk n1=>uv env n1 λd n2=>kK (km true k) λkk=>∀a:Addr,TX env a->E.nx (env.set i (some (.d a true [(kk,d)]))) n2
noncomputable def oH (i j:Nat):US:=λE env n=>match env[j]? with | some (some (.d _ true kvs))=>(kvs.map λp=>tH p.1).Nodup/\∀a:Addr,TX env a->E.nx (env.set i (some (.d a true kvs))) n | _=>False
noncomputable def qY (i j:Nat):US:=λE env n=>match env[j]? with | some (some (.d a t kvs))=>E.nx ((env.set j none).set i (some (.d a t kvs))) n | _=>False
noncomputable def mY (i:Nat)(e:Ent)(ug:UG)(ub:US)(E:jj):List af->eF->Int->Prop
 | [],env,n=>env[i]? = some (some e)/\E.nx env n
 | d::ds,env,n=>env[i]? = some (some e)/\ug d env λdZ=>ub { nx:=mY i e ug ub E ds,rt:=E.rt } dZ n
noncomputable def xy (i:Nat)(ug:UG)(ub:US):US:=λE env n=>match env[i]? with
 | some (some (.d a true kvs))=>Hq env i a/\∀(o:Obj) (xs:List V),mY i (.f a o kvs xs) ug ub E (mG kvs) (env.set i (some (.f a o kvs xs))) n
 | _=>False
noncomputable def o9 (i:Nat)(uk:UX):UX:=λenv n Q=>match env[i]? with | some (some (.f a o kvs xs))=>uk env n λk n1=>kK (km true k) λkk=>kK (eG kvs kk) λd=>Q d n1 | _=>False
section
variable {X:Cx}{M:Fr}{e ke ve:Expr}{uk uv ud:UX}{pos fZ p p2:Pos}
theorem EO {i:Nat}{x:Str}(hu:X.A.units+1<cLine)(hN:X.N.Nodup)(hx:Loc X.env.scope x)(hk:KE X M ke uk)(hv:KE X M ve uv)(hi:X.N[i]? = some x:=by rfl)(hs:swapsWith (.Dict [some ke] [ve] p) (some (.Name x fZ)) pos.line X.env=pure false:=by rfl)
  (hf:X.fn x=true\/X.env.scope.names.lookup x=some .local:=by (first | exact .inl rfl | exact .inr rfl | assumption)) (hfd:i ∉ M.fd:=by decide):KS X M (.Assign [.Name x fZ] (.Dict [some ke] [ve] p) pos) (zq i uk uv) :=
 .of (gD hN hi hx (⟨xw hu hk.run.run hv.run.run⟩:QE X _ _) hs hf) λD σ H env pn S n E ok hu k1 k2 a ha=>by
  have x0:Ext M.gs H (eg H a (.dT [])):=.new ha;have Jf:=ok.hold (H':=eg H a (.dT [])) ha (by rw[dz];simp) x0 (ok.grow (.new ha));have Jg:a ∉ M.gs:=M.out (ok.anew ha);refine⟨env,pn,a::S,n,_,Jf,hu,λy H1 kd n1 r1 x1 g1 _ q=>?_⟩;have hU:=Jf.step x1 g1;refine⟨env,pn,a::S,n1,_,hU,q,λv H2 d n2 r2 x2 g2 _ q=>?_⟩;have qG:=hU.step x2 g2;obtain⟨kk,ek,q⟩:=q;have h2:H2 a=some (.dT []):=x2.keep _ _ Jg (x1.keep _ _ Jg dz);obtain⟨b,rfl,hb⟩:=p7 (gs:=M.gs) (.inl (r1.ext (x2.mono hU.pC))) ek;refine⟨h2,b,_,rfl,hb,?_⟩;have R6:=qG.EH (i:=i) (t:=true) (kvs:=[]) (xs:=[]) h2 .nil (!4) (ar ..) (ok.anew ha) hfd;have oV:=λj' t' kv=>ok.only ha j' t' kv;by_cases z:i<env.length
  .have O4:=R6.putD (kvs':=[(kk,d)]) (ys:=[v]) (iq z) (λj' t' kv iW z=>by
    rw[aL (λz=>iW z.symm)] at z;exact oV j' t' kv z) (.cons r2 .nil) (λz=>by cases z)
   rw[dq] at O4;exact k1 _ _ _ _ _ O4 (q a oV)
  .have hlen:env.length<=i:=by omega
   have FI:∀y,env.set i y=env:=λy=>cM hlen;have vZ:∀y,σ.set i y=σ:=λy=>cM (by rw[<- ok.len];exact hlen);have R7:=ok.hold (H':=eg H2 a (ma true [(kk,d)] [v])) (n':=n2) ha (by rw[dz];simp) (((x0.trans x1).trans x2).AU ha) (M.iF g2 (Ext.xq (S:=[a]) (t:=true) (kvs:=[]) (xs:=[]) (!4) h2) (by simpa using ok.anew ha));have:=q a oV;rw[FI] at this;refine k1 _ _ _ _ _ (?_:dF M env pn _ (a::S) _ n2) this;rw[vZ];exact R7
theorem HE {i:Nat}(j:Nat){x y:Str}{p3:Pos}(hm:X.mg "dict" = none)(hN:X.N.Nodup)(hx:Loc X.env.scope x)(hi:X.N[i]? = some x:=by rfl)(hj:X.N[j]? = some y:=by rfl)(hv:rZ X.env.scope y:=by (first | exact Or.inl rfl | exact Or.inr (Or.inl rfl) | exact Or.inr (Or.inr rfl)))(hd:(y == ("__debug__" : Str))=false:=by decide)
  (iU:(y == ("__classdict__" : Str))=false:=by decide) (hg:Gl X "dict" := by rfl) (hs:swapsWith (.Call (.Name "dict" p2) [.Name y p3] [] p) (some (.Name x fZ)) pos.line X.env=pure false:=by rfl)
  (hf:X.fn x=true\/X.env.scope.names.lookup x=some .local:=by (first | exact .inl rfl | exact .inr rfl | assumption)) (hfd:i ∉ M.fd:=by decide):KS X M (.Assign [.Name x fZ] (.Call (.Name "dict" p2) [.Name y p3] [] p) pos) (oH i j) :=
 .of (gD hN hi hx (gJ zp hg hm (!3) (gC (qv j hj hv hd iU) eS)) hs hf) λD σ H env pn S n E ok hu k1 k2=>by
  unfold oH at hu;split at hu
  .rename_i a kvs he
   obtain⟨hn,hu⟩:=hu;obtain⟨v,hv,rfl,xs,ha,r,hk,LL,h0⟩:=ok.val j _ he;refine⟨_,hv,a,r9 kvs xs,rfl,.inl ha,?_,λl hl=>?_⟩
   .have e:=AX (λk=>(tupleKind (d8 X.prog X.w)).hash k) r
    rw[e];have e2:(kvs.map λp=>(tupleKind (d8 X.prog X.w)).hash (p.1.map Sum.inl))=kvs.map λp=>tH p.1:=ca λp _=>LU _ _ _;rw[e2];exact hn
   .exact k1 _ _ _ _ _ (ok.R3 (t:=true) (kvs:=kvs) (xs:=xs) hl dz ((r.fresh hl).ext (.new hl)) (!4) (.new hl) (ok.grow (.new hl)) hfd) (hu l λj t kv=>ok.only hl j t kv)
  .exact hu.elim
theorem HF {i:Nat}(j:Nat){x y:Str}{p3:Pos}(hN:X.N.Nodup)(hx:Loc X.env.scope x)(TN:i≠j)(hi:X.N[i]? = some x:=by rfl)(hj:X.N[j]? = some y:=by rfl)(hv:rZ X.env.scope y:=by (first | exact Or.inl rfl | exact Or.inr (Or.inl rfl) | exact Or.inr (Or.inr rfl)))(hd:(y == ("__debug__" : Str))=false:=by decide)
  (iU:(y == ("__classdict__" : Str))=false:=by decide) (hs:swapsWith (.Name y p3) (some (.Name x fZ)) pos.line X.env=pure false:=by rfl)
  (hf:X.fn x=true\/X.env.scope.names.lookup x=some .local:=by (first | exact .inl rfl | exact .inr rfl | assumption)) (hfd:i ∉ M.fd:=by decide):KS X M (.Assign [.Name x fZ] (.Name y p3) pos) (qY i j) :=
 .of (gD hN hi hx (qv j hj hv hd iU) hs hf) λD σ H env pn S n E ok hu k1 k2=>by
  unfold qY at hu;split at hu
  .rename_i a t kvs he
   obtain⟨v,hv,rfl,xs,ha,r,hk,LL,h0⟩:=ok.val j _ he
   have Vn:dF M (env.set j none) pn σ S H n:=⟨λk e h=>by
     rcases d9 h with⟨_,e1⟩ | ⟨_,e1⟩
     .cases e1
     .exact ok.val k e e1,λk l ds es b h1 h2 h3 h4=>by
     rcases d9 h1 with⟨_,e1⟩ | ⟨_,e1⟩
     .cases e1
     .rcases d9 h2 with⟨_,e2⟩ | ⟨_,e2⟩
      .cases e2
      .exact ok.ne k l ds es b e1 e2 h3 h4,by rw[a6,ok.len],ok.wx,ok.gd,ok.ext,ok.s0,ok.sn,ok.has,ok.pin⟩
   exact⟨_,hv,k1 _ _ _ _ _ (Vn.EH (i:=i) ha r hk LL h0 hfd) hu⟩
  .exact hu.elim
theorem ER (i:Nat){x:Str}(hu:X.A.units+1<cLine)(hk:KL X M ke uk)(hN:X.N[i]? = some x:=by rfl)(Ht:rZ X.env.scope x:=by (first | exact Or.inl rfl | exact Or.inr (Or.inl rfl) | exact Or.inr (Or.inr rfl)))(hd:(x == ("__debug__" : Str))=false:=by decide)(iU:(x == ("__classdict__" : Str))=false:=by decide)
  (hs:BB ke:=by exact λ_ _=>rfl):KE X M (.Subscript (.Name x p) ke pos) (o9 i uk):=.of (lU hu (qv i hN Ht hd iU) hk.run hs) λσ H R env pn S n Q ok pH k=>by
 unfold o9 at pH;split at pH
 .rename_i a o kvs xs he
  obtain⟨v0,Jb,rfl,ha,rr,LL,h0⟩:=ok.val i _ he;refine⟨_,Jb,env,pn,S,n,_,ok,pH,λy H1 kd n1 r1 x1 g1 _ q=>?_⟩;obtain⟨kk,ek,d,ed,q⟩:=q;have hU:=ok.step x1 g1;obtain⟨_,_,e',kh,Ho,_,_⟩:=hU.val i _ he;obtain⟨b,rfl,hb⟩:=p7 r1 ek;have inj:∀q∈kvs,(q.1.map Sum.inl:List Key)=kk.map Sum.inl->q.1=kk:=λq _ h=>nP h;rcases nO (f:=λk=>(k.map Sum.inl:List Key)) (k:=kk) Ho inj with⟨z,_⟩ | ⟨d',v',z,hg,hr⟩
  .rw[z] at ed;cases ed
  .rw[z] at ed
   cases ed;rw[<- lq] at hg;exact⟨a,v',rfl,.inr ⟨_,_,b,.inr ⟨o,kh⟩,rfl,hb,hg.symm⟩,k v' H1 _ n1 hr x1 g1 q⟩
 .exact pH.elim
theorem LW (i:Nat){x:Str}{tg:Expr}{body:List Stmt}{ug:UG}{u:US}(hp:PassesOwn (model X.prog X.w) X.A X.env X.xe)(hc:X.calm=true)(hg:KG X M tg ug)(hb:vF X M body u)(hN:X.N[i]? = some x:=by rfl)(Ht:rZ X.env.scope x:=by (first | exact Or.inl rfl | exact Or.inr (Or.inl rfl) | exact Or.inr (Or.inr rfl)))(hd:(x == ("__debug__" : Str))=false:=by decide)(iU:(x == ("__classdict__" : Str))=false:=by decide)
  (hs:∀y,foldedSetIterable (.Name x p) X.env y=pure y:=by rw[3]):KS X M (.For tg (.Name x p) body [] pos) (xy i ug u) :=
 .of (uH hp hc (EL (qv i hN Ht hd iU)) hg.run hb.run hs) λD σ H env pn S n E ok hu k1 k2=>by
  unfold xy at hu;split at hu
  .rename_i a kvs he
   obtain⟨ho,hu⟩:=hu;obtain⟨v,hv,rfl,xs,ha,r,hk,LL,h0⟩:=ok.val i _ he;refine⟨_,hv,a,r9 kvs xs,rfl,ha,λo=>?_⟩;have hU:dF M (env.set i (some (.f a o kvs xs))) pn σ S (eg H a (.mH o (.dT (r9 kvs xs)))) n:=ok.xq he ho (λes z=>by cases z) λ_ _ _ x'=>⟨rfl,dz,r.ext x',LL,h0⟩;have hl:=AW r;refine⟨λj m σ' H'=>m=kvs.length - j/\j<=kvs.length/\∃dZ S' n',dF M dZ pn σ' S' H' n'/\mY i (.f a o kvs xs) ug u E ((mG kvs).drop j) dZ n',⟨kvs.length,!4,bF _,_,S,n,hU,hu o xs⟩,?_⟩;rintro j m σ' H' ⟨rfl,my,dZ,S',n',jO,q'⟩
   have wc:dZ[i]? = some (some (.f a o kvs xs)):=by
    cases e:(mG kvs).drop j with
    | nil=>rw[e] at q';exact q'.1
    | cons d ds=>rw[e] at q';exact q'.1
   obtain⟨_,_,_,kh,r',_,_⟩:=jO.val i _ wc;by_cases gn:j<kvs.length
   .refine .inr ⟨⟨kh,!1⟩,λσ2 H2=>∃sx S2 n2,dF M sx pn σ2 S2 H2 n2/\mY i (.f a o kvs xs) ug u E ((mG kvs).drop (j+1)) sx n2,λσ2 H2 h=>⟨kvs.length - (j+1),!1,rfl,gn,h⟩,λy H2 hy=>?_⟩
    obtain⟨rfl,k,v,b,wg,rfl,hb⟩:=hy;obtain⟨p,hp,rfl⟩:=EN r' j k v wg
    have e:(mG kvs).drop j=.tuple (p.1.map .int)::(mG kvs).drop (j+1):=by
     rw[bf (by rw[tI];exact gn)];congr 1;unfold mG;rw[List.getElem_map,(aD.mp hp).2]
    rw[e] at q';exact⟨dZ,pn,S',n',_,_,jO,HD hb,q'.2,λwR σ3 FE q3=>⟨wR,pn,S',n',_,FE,q3,λLn σ4 S4 H4 n4 RE q4=>⟨Ln,S4,n4,RE,q4⟩,k2⟩⟩
   .refine .inl ⟨⟨kh,!1⟩,?_⟩
    rw[bI (by rw[tI];omega)] at q';exact k1 _ _ _ _ _ jO q'.2
  .exact hu.elim
end
structure jV where
 T:List Int->af->Prop
 L:List (List Int)
 b:List Int
 Rl:L.length<100000
structure HG (Y:jV) (kvs:fW):Prop where
 ok:∀p∈kvs,Y.T p.1 p.2/\iO p.2=true
 nd:(kvs.map (·.1)).Nodup
 sub:∀p∈kvs,p.1∈Y.L
 Sa:Y.b∈kvs.map (·.1)
theorem tJ:∀{kvs:fW},(∀p∈kvs,iO p.2=true)->iZ (kvs.map (·.2))=true
 | [],_=>rfl
 | p::kvs,h=>by
  rw[ak,iZ,h p (ar ..),tJ λq hq=>h q (ai _ hq)];rfl
theorem HG.nl {Y:jV}{kvs:fW}(t:HG Y kvs):iZ (kvs.map (·.2))=true:=tJ λp hp=>(t.ok p hp).2
theorem ES {l m:List (List Int)}(h:l.Nodup)(hs:∀k∈l,k∈m):l.length<=m.length:=by
 induction l generalizing m with
 | nil=>exact bF _
 | cons a l ih =>
  obtain⟨h1,h2⟩:=aZ.mp h;have ha:=hs a (ar ..);have:=ih (m:=m.erase a) h2 λk hk=>(List.mem_erase_of_ne (λ(z:k=a)=>h1 (z ▸ hk))).mpr (hs k (ai _ hk));rw[dg ha] at this;have:=dn ha;rw[ao];omega
theorem HG.len {Y:jV}{kvs:fW}(t:HG Y kvs):kvs.length<100000:=by
 have:=ES t.nd λk hk=>by
  obtain⟨p,hp,rfl⟩:=aQ.mp hk;exact t.sub p hp
 rw[au] at this;have:=Y.Rl;omega
theorem AY {kvs:fW}{k:List Int}:(kvs.any λp=>decide (p.1=k))=true↔k∈kvs.map (·.1):=by
 rw[cx,aQ];exact⟨λ⟨p,h1,h2⟩=>⟨p,h1,of_decide_eq_true h2⟩,λ⟨p,h1,h2⟩=>⟨p,h1,decide_eq_true h2⟩⟩
theorem HG.put {Y:jV}{kvs:fW}(t:HG Y kvs){k:List Int}{d:af}(hT:Y.T k d)(hn:iO d=true)(hL:k∈Y.L):HG Y (gT kvs k d):=by
 unfold gT;split
 .rename_i ha
  have hm:∀p∈kvs.map (λp=>if p.1=k then (p.1,d) else p),(∃q∈kvs,p=q)\/p=(k,d):=λp hp=>by
   obtain⟨q,hq,rfl⟩:=aQ.mp hp;split
   .rename_i e;exact .inr (by rw[e])
   .exact .inl ⟨q,hq,rfl⟩
  have Jj:(kvs.map (λp=>if p.1=k then (p.1,d) else p)).map (·.1)=kvs.map (·.1):=by
   rw[bA];exact ca λp _=>by simp only[Function.comp];split<;>rfl
  refine⟨λp hp=>?_,by rw[Jj];exact t.nd,λp hp=>?_,by rw[Jj];exact t.Sa⟩
  .rcases hm p hp with⟨q,hq,rfl⟩ | rfl
   .exact t.ok _ hq
   .exact⟨hT,hn⟩
  .rcases hm p hp with⟨q,hq,rfl⟩ | rfl
   .exact t.sub _ hq
   .exact hL
 .rename_i ha
  have hk:k ∉ kvs.map (·.1):=λz=>ha (AY.mpr z);refine⟨λp hp=>?_,?_,λp hp=>?_,by rw[aO];exact bx _ t.Sa⟩
  .rcases aK.mp hp with hp | hp
   .exact t.ok p hp
   .rw[aq.mp hp];exact⟨hT,hn⟩
  .rw[aO]
   refine b9.mpr ⟨t.nd,!4,λa ha b hb z=>?_⟩;have:b=k:=by simpa using hb
   exact hk (this ▸ z ▸ ha)
  .rcases aK.mp hp with hp | hp
   .exact t.sub p hp
   .rw[aq.mp hp];exact hL
theorem tK (kvs:fW)(k:List Int)(d:af):eG (gT kvs k d) k=some d:=by
 unfold gT;split
 .rename_i ha
  unfold eG
  induction kvs with
  | nil=>cases ha
  | cons p t ih =>
   rw[ak,bM];by_cases e:p.1=k
   .rw[if_pos e,decide_eq_true (show (p.1,d).1=k from e)];rfl
   .rw[if_neg e,decide_eq_false e]
    rw[ce,decide_eq_false e,Bool.false_or] at ha;exact ih ha
 .rename_i ha
  unfold eG;have:kvs.find? (λp=>decide (p.1=k))=none:=List.find?_eq_none.mpr λp hp z=>ha (cx.mpr ⟨p,hp,z⟩);rw[List.find?_append,this];simp
noncomputable def zt (Y:jV)(H:Hp)(a:Addr):Prop:=∃kvs xs,H a=some (ma true kvs xs)/\dw [] H (kvs.map (·.2)) xs/\HG Y kvs
theorem zt.ext {Y:jV}{S:List Addr}{H H':Hp}{a:Addr}(h:zt Y H a)(x:Ext S H H')(ha:a ∉ S):zt Y H' a:=by
 obtain⟨kvs,xs,e,r,t⟩:=h;exact⟨kvs,xs,x.keep _ _ ha e,((r.any (S':=S) t.nl).ext x).any t.nl,t⟩
theorem zt.ne {Y:jV}{H:Hp}{a:Addr}(h:zt Y H a):H a≠none:=by
 obtain⟨_,_,e,_⟩:=h;rw[e];simp
noncomputable def Fr.known (C:Xc)(Y:jV)(i:Nat)(a:Addr)(n0:Int)(S:List Addr)(H:Hp)(hk:zt Y H a)(hS:a∈S)(has:∀b∈S,H b≠none):Fr where
 G:=λH n=>n=n0/\zt Y H a
 gs:=[a]
 S0:=S
 H0:=H
 fa:=.ref a
 fd:=[i]
 xc:=C
 iF:=λh x k=>⟨h.1,h.2.ext x λz=>hk.ne (k _ z)⟩
 uN:=λh b hb=>by rw[aq.mp hb];exact h.2.ne
 Rt:=λh b hb φ z=>by
  rw[aq.mp hb] at z;obtain⟨_,_,_,e,_⟩:=h;rw[e] at z;cases z
 Oi:=λb hb=>by rw[aq.mp hb];exact hS
 sr:=has
noncomputable def FJ (F:jV->UF):Sp:=λvs H Q E=>∃Y a us S ds n Qp,vs=us++[.ref a]/\zt Y H a/\a∈S/\dw S H ds us/\(∀b∈S,H b≠none)/\F Y ds n Qp Cr/\∀d v H',dY S H' d v->zt Y H' a->Ext [a] H H'->Qp d n->Q v H'
noncomputable def ET (N np:Nat)(u:US):UF:=λds n Q Ex=>ds.length+1=np/\u { nx:=λ_ n'=>Q .none n',rt:=Q } (envOf N ds) n
theorem zu {M:Fr}{N:List Str}{ds:List af}{vs:List V}{S:List Addr}{H:Hp}{n:Int}{a:Addr}(h0:M.H0=H)(hS:M.S0=S)(r:dw S H ds vs)(hfd:M.fd=[ds.length])(wU:M.fa=.ref a)(hN:ds.length+1<=N.length)(g:M.G H n):dF M (envOf N.length ds) [] (start N (vs++[.ref a])) S H n:=by
 subst h0 hS;have hl:=r.length
 have key:∀(i:Nat) (e:Ent),(envOf N.length ds)[i]? = some (some e)->∃d,ds[i]? = some d/\e=.s d:=λi e h=>by
  unfold envOf at h;by_cases hi:i<ds.length
  .rw[bD (by simpa using hi),aE] at h
   cases hd:ds[i]? with
   | none=>rw[hd] at h;cases h
   | some d=>rw[hd] at h;exact⟨d,rfl,(Option.some.inj (Option.some.inj h)).symm⟩
  .rw[bG (by simp;omega),bX] at h
   split at h<;>cases h
 refine⟨λi e h=>?_,λi j a b c h1=>?_,?_,?_,g,.refl _ _,λa h=>h,λa h=>.inl h,M.sr,λp hp=>by cases hp⟩
 .obtain⟨d,hd,rfl⟩:=key i e h
  obtain⟨v,hv,rv⟩:=r.at hd;refine⟨v,?_,rv⟩;have hi:i<vs.length:=(aD.mp hv).1;unfold start;rw[aO,aF,bD (by rw[au];exact hi),aE,hv];rfl
 .obtain⟨d,_,e⟩:=key _ _ h1
  cases e
 .unfold envOf start
  simp[hl];omega
 .rw[hfd,wU]
  intro i hi;rw[aq.mp hi,<- hl];unfold start;rw[aO,aF,bG (!4)];simp
section
variable {P:aV}{w:World}{K:W.Frag}{mg:Str->Option ah}{base:Heap}{x:Str}{st:Stmt}{ps:List Str}{k:Nat}{C:Xc}
theorem O6 (u:jV->US)(N:List Str)(F:FM K mg x st)
  (body:fg N ps (dB st)->∀(f:Addr) (fj:ah) (A:Around) (outer:List Env) (s:ax) (H:Hp) (E:XK) (Y:jV) (a:Addr) (n0:Int) (S:List Addr) (hk:zt Y H a) (hS:a∈S) (has:∀b∈S,H b≠none),f6 k (A.deeper (envOfC x (dB st) s.heap.objs.size f fj))->(A.deeper (envOfC x (dB st) s.heap.objs.size f fj)).units+64<cLine ->
   vF (mI ux P w K mg base N x (dB st) f fj A outer s H E).Bg (Fr.known C Y (ps.length - 1) a n0 S H hk hS has) (fE st) (u Y))
  (sc:fg N ps (dB st):=by exact P6) (hN:ps.length<=N.length:=by decide) (hb:BD x st ps:=by rw[999]) :
  d4 P w K mg base (k+1) x ps (FJ λY=>ET N.length ps.length (u Y)):=by
 obtain⟨f,fd,F,hm⟩:=F.ex;refine⟨f,fd,F.K3 sc (λvs H Q E h=>?_) (λfj A outer s H vs Q E hr h=>?_),hm,F.kp,F.binds hb⟩
 .obtain⟨Y,a,us,S,ds,n,Qp,rfl,_,_,r,_,hF,_⟩:=h
  rw[aH,r.length];exact hF.1
 .obtain⟨Y,a,us,S,ds,n,Qp,rfl,hk,hS,r,has,hF,hq⟩:=h
  have hlen:ds.length=ps.length - 1:=by have:=hF.1;omega
  refine⟨_,(body sc f fj A outer s H E Y a n S hk hS has hr hr.units).run,envOf N.length ds,[],S,n,_,zu rfl rfl r (by rw[hlen];rfl) rfl (by have:=hF.1;omega) ⟨rfl,hk⟩,hF.2,λdZ σ' S' H' n' ok q=>?_,λv H' d n' rv x g q=>?_⟩
  .have g:=ok.gd
   have e:n'=n:=g.1;subst e;exact hq _ _ H' .f' g.2 ok.ext q
  .have e:n'=n:=g.1
   subst e;exact hq d v H' rv g.2 x q
end
section
variable {X:Cx}{M:Fr}{e1 e2 ve ke:Expr}{u1 u2 uv uk:UX}{p p2 p3 p4 pos fZ Sd Se:Pos}{F:jV->UF}{x y z:Str}{ps:List Str}{k:Nat}{Y:jV}{a:Addr}{n0:Int}
theorem O7 {P:aV}{w:World}{K:W.Frag}{mg:Str->Option ah}{base:Heap}{st:Stmt}{k:Nat}(F:FM K mg x st)(hb:BD x st ps:=by rw[999]):d4 P w K mg base k x ps (FJ λ_=>OI) :=
 let ⟨f,fd,F,hm⟩:=F.ex;⟨f,fd,⟨λvs H Q E ⟨_,_,_,_,_,_,_,_,_,_,_,_,h,_⟩=>h.elim,λ_ _ _ _ _ _ _ _ _ _ _ _ _ ⟨_,_,_,_,_,_,_,_,_,_,_,_,h,_⟩=>h.elim⟩,hm,F.kp,F.binds hb⟩
theorem p8 (i:Nat)(D:d4 X.prog X.w X.K X.mg X.base k x ps (FJ F))(hr:f6 k X.A)(h1:KE X M e1 u1)(h2:KE X M e2 u2)
  (hG:M.G=λH n=>n=n0/\zt Y H a:=by rfl) (wU:M.fa=.ref a:=by rfl) (Lq:M.gs=[a]:=by rfl) (hfd:i∈M.fd:=by exact aq.mpr rfl)
  (hN:X.N[i]? = some y:=by rfl) (hv:rZ X.env.scope y:=by (first | exact Or.inl rfl | exact Or.inr (Or.inl rfl) | exact Or.inr (Or.inr rfl))) (hd:(y == ("__debug__" : Str))=false:=by decide) (iU:(y == ("__classdict__" : Str))=false:=by decide)
  (hg:Gl X x:=by rfl) (oh:(x == ("__debug__" : Str))=false:=by decide) (Qd:eI e1=true:=by rfl) (mq:eI e2=true:=by rfl):KE X M (.Call (.Name x p) [e1,e2,.Name y p2] [] pos) (dP (F Y) (du u1 (du u2 dA))) :=
 .of (kY D hr (gC h1.run (gC h2.run (gC (qv i hN hv hd iU) eS rfl) mq) Qd) hg oh) λσ H R env pn S n Q ok hu k=>⟨env,pn,S,n,_,ok,hu,λv1 H1 d1 n1 r1 x1 g1 _ q=>by
  have hU:=ok.step x1 g1;refine⟨env,pn,S,n1,_,hU,q,λv2 H2 d2 n2 r2 x2 g2 _ q=>?_⟩;have qG:=hU.step x2 g2;have tm:=qG.wx i hfd;rw[wU] at tm;have Sf:=g2;rw[hG] at Sf;refine⟨_,tm,Y,a,[v1,v2],S,[d1,d2],n2,_,rfl,Sf.2,ok.pC a (by rw[Lq];simp),.cons (r1.ext (x2.mono hU.pC)) (.cons r2 .nil),qG.has,q,λd v H3 r3 k3 x3 q3=>k v H3 d n2 r3 ((x1.trans x2).trans (by rw[Lq];exact x3)) (by rw[hG];exact⟨Sf.1,k3⟩) q3⟩⟩
noncomputable def EU (Y:jV)(j:Nat)(uA:US)(uv:UX):US:=λE env n=>∃kk:List Int,env[j]? = some (some (.s (.tuple (kk.map .int))))/\kk∈Y.L/\(∀d,Y.T kk d->E.rt d n) /\
 (kk≠Y.b->uA { nx:=λdZ n'=>dZ[j]? = env[j]? /\ uv dZ n' λd n2=>iO d=true/\Y.T kk d/\E.rt d n2,rt:=E.rt } env n)
theorem Jk {H:Hp}{kk:List Int}{b:Addr}{kvs:fW}{xs:List V}{S:List Addr}(ha:H a=some (ma true kvs xs))(r:dw S H (kvs.map (·.2)) xs)(hb:H b=some (.tup ((kk.map (Sum.inl:Int->Key)).map kV))) :
  (eG kvs kk=none/\iE H a (.ref b) none)\/∃d v,eG kvs kk=some d/\iE H a (.ref b) (some v)/\dY S H d v:=by
 have hg:=iE.t (show H a=some (.dT (r9 kvs xs)) from ha) hb;rw[lq] at hg;rcases nO (f:=λk=>(k.map Sum.inl:List Key)) (k:=kk) r (λ_ _ h=>nP h) with⟨h1,h2⟩ | ⟨d,v,h1,h2,h3⟩
 .rw[h2] at hg;exact .inl ⟨h1,hg⟩
 .rw[h2] at hg;exact .inr ⟨d,v,h1,hg,h3⟩
theorem qZ {kvs:fW}{k:List Int}{d:af}(h:eG kvs k=some d):(k,d)∈kvs:=by
 unfold eG at h
 cases e:kvs.find? λp=>decide (p.1=k) with
 | none=>rw[e] at h;cases h
 | some p =>
  rw[e] at h;cases h;have h1:=List.mem_of_find?_eq_some e;have h2:p.1=k:=by simpa using List.find?_some e
  rw[<- h2];exact h1
theorem EV (i j:Nat){body:Stmt}{uA:US}{q1 q2 q3 q4:Pos}(hu:X.A.units+1<cLine)(hA:KS X M body uA)(Vo:KE X M ve uv)
  (hG:M.G=λH n=>n=n0/\zt Y H a) (wU:M.fa=.ref a) (Lq:M.gs=[a]) (hfd:i∈M.fd)
  (hN:X.N[i]? = some y:=by rfl) (hv:rZ X.env.scope y:=by (first | exact Or.inl rfl | exact Or.inr (Or.inl rfl) | exact Or.inr (Or.inr rfl))) (hd:(y == ("__debug__" : Str))=false:=by decide) (iU:(y == ("__classdict__" : Str))=false:=by decide)
  (Sh:X.N[j]? = some z:=by rfl) (Aw:rZ X.env.scope z:=by (first | exact Or.inl rfl | exact Or.inr (Or.inl rfl) | exact Or.inr (Or.inr rfl))) (vY:(z == ("__debug__" : Str))=false:=by decide) (LX:(z == ("__classdict__" : Str))=false:=by decide)
  (hm:behindInMarks .NotIn (.Name y p)=false:=by first | exact iV _ | rfl) (hs:swapsWith ve (some (.Subscript (.Name y p2) (.Name z p3) fZ)) pos.line X.env=pure false:=by rfl) :
  vF X M [.If (.Compare (.Name z p4) [.NotIn] [.Name y p] Sd) [body,.Assign [.Subscript (.Name y p2) (.Name z p3) fZ] ve pos] [] Se,.Return (some (.Subscript (.Name y q1) (.Name z q2) q3)) q4] (EU Y j uA uv) :=
 ⟨(eN (Ae (⟨yb (oj hu (qv j Sh Aw vY LX).run (qv i hN hv hd iU).run) hm⟩:QT X _ _) (eN hA.run (gP (pT hu (qv i hN hv hd iU) (qv j Sh Aw vY LX) Vo.run hs))) pR) (gP (j9 (lU hu (qv i hN hv hd iU) (qv j Sh Aw vY LX) λ_ _=>rfl)))).weaken λD σ H h=>BH h λenv pn S n E h=>by
  obtain⟨ok,⟨kk,hj,hL,O8,Hf⟩,B3,O9⟩:=h
  have go:∀{dZ:eF} {σ':St} {S':List Addr} {H':Hp} {n':Int},dF M dZ pn σ' S' H' n'->dZ[j]? = some (some (.s (.tuple (kk.map .int))))->∃b kvs xs,σ'[j]? = some (some (.ref b))/\σ'[i]? = some (some (.ref a))/\H' b=some (.tup ((kk.map (Sum.inl:Int->Key)).map kV))/\H' a=some (ma true kvs xs)/\dw [] H' (kvs.map (·.2)) xs/\HG Y kvs/\n'=n0:=λ{dZ σ' S' H' n'} jO Qe=>by
   obtain⟨v,hv,r⟩:=jO.val j _ Qe;obtain⟨b,rfl,hb⟩:=p7 (gs:=M.gs) (d:=.tuple (kk.map .int)) (k:=kk) (.inl r) (by simp[km]);have AQ:=jO.wx i hfd;rw[wU] at AQ;have g:=jO.gd;rw[hG] at g;obtain⟨e,kvs,xs,h1,h2,h3⟩:=g;exact⟨b,kvs,xs,hv,AQ,hb,h1,h2,h3,e⟩
  obtain⟨b,kvs,xs,FH,AQ,hb,ha,r,t,en⟩:=go ok hj;have aS:a∈M.gs:=by rw[Lq];simp
  rcases Jk ha r hb with⟨oV,hg⟩ | ⟨d,v,HH,hg,hr⟩
  .refine⟨_,FH,_,AQ,a,none,rfl,hg,true,rfl,?_⟩
   have Vp:kk≠Y.b:=λz=>by
    have hm:=t.Sa;rw[<- z] at hm;have h1:=AY.mpr hm;unfold eG at oV
    cases hf:kvs.find? λp=>decide (p.1=kk) with
    | none =>
     obtain⟨p,hp,Qf⟩:=cx.mp h1;exact List.find?_eq_none.mp hf p hp Qf
    | some p=>rw[hf] at oV;cases oV
   refine⟨env,pn,S,n,_,ok,Hf Vp,λdZ σ' S' H' n' jO q=>?_,O9⟩;obtain⟨Qe,q⟩:=q;rw[hj] at Qe;refine⟨dZ,pn,S',n',_,jO,q,λv H1 d n1 r1 x1 g1 _ q=>?_⟩;obtain⟨Qg,hT,hq⟩:=q;have hU:=jO.step x1 g1;obtain⟨b,kvs,xs,FH,AQ,hb,ha,r,t,en⟩:=go hU Qe;have hlen:kvs.length<aA:=aU t.len (!2);have r0:dw S' H1 (kvs.map (·.2)) xs:=r.any t.nl;obtain⟨ys,hp,hr⟩:=vm (f:=λk=>(k.map Sum.inl:List Key)) (k:=kk) r1 r0 (λ_ _ h=>nP h);have EW:=pA.t (v:=v) (show H1 a=some (.dT (r9 kvs xs)) from ha) hb (by rw[AW r0];exact hlen);rw[lq,hp,<- lq] at EW;have x2:Ext M.gs H1 (eg H1 a (ma true (gT kvs kk d) ys)):=.xq aS ha;have t2:=t.put hT Qg hL;have TY:dw S' (eg H1 a (ma true (gT kvs kk d) ys)) ((gT kvs kk d).map (·.2)) ys:=hr.ext (x2.mono hU.pC)
   have g2:M.G (eg H1 a (ma true (gT kvs kk d) ys)) n1:=by
    rw[hG];exact⟨en,_,ys,dz,TY.any t2.nl,t2⟩
   refine⟨_,AQ,_,FH,a,_,rfl,EW,?_⟩;have LY:eg H1 a (ma true (gT kvs kk d) ys) b=some (.tup ((kk.map (Sum.inl:Int->Key)).map kV)):=x2.tup _ _ hb;refine⟨_,AQ,_,FH,a,?_⟩;rcases Jk (S:=S') dz TY LY with⟨oV,_⟩ | ⟨d',v',HH,hg,Vq⟩
   .rw[tK] at oV;cases oV
   .rw[tK] at HH
    cases HH;exact⟨v',rfl,hg,O9 v' _ d n1 (Vq.less hU.s0) ((hU.step x2 g2).ext) g2 hq⟩
  .refine⟨_,FH,_,AQ,a,some v,rfl,hg,false,rfl,_,AQ,_,FH,a,v,rfl,hg,?_⟩
   have hp:=t.ok _ (qZ HH);exact O9 v H d n (hr.any hp.2) ok.ext ok.gd (O8 d hp.1)⟩
noncomputable def HI (o:Option Ent):Option Ent:=match o with | some (.s d)=>some (.s d) | _=>none
theorem AZ {env:eF}{i j:Nat}{e:Ent}(h:((env.map HI).set i none)[j]? = some (some e)):j≠i/\∃d,e=.s d/\env[j]? = some (some (.s d)):=by
 rcases d9 h with⟨_,e1⟩ | ⟨ne,e1⟩
 .cases e1
 .refine⟨λz=>ne z.symm,?_⟩
  rw[aE] at e1
  cases ho:env[j]? with
  | none=>rw[ho] at e1;cases e1
  | some o =>
   rw[ho] at e1
   cases o with
   | none=>cases e1
   | some en =>
    cases en with
    | s d=>cases e1;exact⟨d,rfl,rfl⟩
    | _=>cases e1
noncomputable def vp (i:Nat)(uk uv:UX)(w:jV->US):US:=λE env n=>i<env.length/\uk env n λk n1=>uv env n1 λd n2=>kK (km true k) λkk=>∃Y:jV,Y.T kk d/\iO d=true/\kk∈Y.L/\Y.b=kk/\w Y { nx:=λ_ _=>False,rt:=E.rt } ((env.map HI).set i none) n2
theorem B4 {i:Nat}{C:Xc}{S0:List Addr}{H0:Hp}{has:∀b∈S0,H0 b≠none}{rest:List Stmt}{w:jV->US}(hu:X.A.units+1<cLine)(hN:X.N.Nodup)(hx:Loc X.env.scope x)(hk:KE X (Fr.pure C n0 S0 H0 has) ke uk)(hv:KE X (Fr.pure C n0 S0 H0 has) ve uv)
  (hr:∀(Y:jV) (a:Addr) (S:List Addr) (H:Hp) (hk:zt Y H a) (hS:a∈S) (hs:∀b∈S,H b≠none),vF X (Fr.known C Y i a n0 S H hk hS hs) rest (w Y)) (hi:X.N[i]? = some x:=by rfl) (hs:swapsWith (.Dict [some ke] [ve] p) (some (.Name x fZ)) pos.line X.env=pure false:=by rfl)
  (hf:X.fn x=true\/X.env.scope.names.lookup x=some .local:=by (first | exact .inl rfl | exact .inr rfl | assumption)):vF X (Fr.pure C n0 S0 H0 has) (.Assign [.Name x fZ] (.Dict [some ke] [ve] p) pos::rest) (vp i uk uv w):=by
 have EX:wd X rest (λD σ H=>∃(Y:jV) (a:Addr) (S:List Addr) (H1:Hp) (hk:zt Y H1 a) (hS:a∈S) (hs:∀b∈S,H1 b≠none),Ag (Fr.known C Y i a n0 S H1 hk hS hs) (w Y) D σ H) :=
  ⟨λpins s σ H D I q=>let ⟨Y,a,S,H1,hk,hS,hs,h⟩:=q;(hr Y a S H1 hk hS hs).run.run pins s σ H D I h⟩
 refine⟨(eN (gD hN hi hx (⟨xw hu hk.run.run hv.run.run⟩:QE X _ _) hs hf) EX).weaken λD σ H h=>BH h λenv pn S n E h=>?_⟩;obtain⟨ok,⟨hlen,hu⟩,B3,O9⟩:=h;intro a ha;have x0:Ext (Fr.pure C n0 S0 H0 has).gs H (eg H a (.dT [])):=.new ha;have Jf:=ok.hold (H':=eg H a (.dT [])) ha (by rw[dz];simp) x0 (ok.grow (.new ha));have Jg:a ∉ (Fr.pure C n0 S0 H0 has).gs:=by simp[Fr.pure]
 refine⟨env,pn,a::S,n,_,Jf,hu,λy H1 kd n1 r1 x1 g1 _ q=>?_⟩;have hU:=Jf.step x1 g1;refine⟨env,pn,a::S,n1,_,hU,q,λv H2 d n2 r2 x2 g2 _ q=>?_⟩;have qG:=hU.step x2 g2;obtain⟨kk,ek,Y,hT,Qg,hL,Vr,hw⟩:=q;have h2:H2 a=some (.dT []):=x2.keep _ _ Jg (x1.keep _ _ Jg dz);obtain⟨b,rfl,hb⟩:=p7 (gs:=[]) (.inl (r1.ext (x2.mono hU.pC))) ek;have Cu:H0 a=none:=ok.anew ha;have xS:Ext (a::S) H2 (eg H2 a (ma true [(kk,d)] [v])):=.xq (t:=true) (kvs:=[]) (xs:=[]) (!4) h2;have Qh:zt Y (eg H2 a (ma true [(kk,d)] [v])) a:=⟨[(kk,d)],[v],dz,(dw.cons (r2.ext xS) .nil).any (by simp[iZ,Qg]),λp hp=>by rw[aq.mp hp];exact⟨hT,Qg⟩,!4,λp hp=>by rw[aq.mp hp];exact hL,by simp[Vr]⟩
 have mq:∀c∈a::S,eg H2 a (ma true [(kk,d)] [v]) c≠none:=λc hc=>by
  by_cases z:c=a
  .rw[z,dz];simp
  .rw[dH z];exact qG.has c hc
 refine⟨h2,b,_,rfl,hb,Y,a,a::S,_,Qh,ar ..,mq,(env.map HI).set i none,[],a::S,n2,_,⟨λj e he=>?_,λj l ds es c h1=>?_,by rw[a6,au,a6,ok.len],λj hj=>?_,⟨g2,Qh⟩,.refl _ _,λc hc=>hc,λc hc=>.inl hc,mq,λq hq=>by cases hq⟩,hw,λ_ _ _ _ _ _ z=>z.elim,λv' H' d' n' rv xx g q=>?_⟩
 .obtain⟨Vs,d',rfl,BM⟩:=AZ he
  obtain⟨w',OD,kJ⟩:=qG.val j _ BM;exact⟨w',by rw[aL (λz=>Vs z.symm)];exact OD,dY.ext xS kJ⟩
 .obtain⟨_,d',e,_⟩:=AZ h1
  cases e
 .have e:j=i:=aq.mp hj
  rw[e];exact iq (by rw[<- ok.len];exact hlen)
 .refine O9 v' H' d' n' (rv.less λc hc=>ai _ (ok.s0 c hc)) ⟨λc o hc Pa=>?_,λc ys Pa=>?_⟩ ?_ q
  .have TZ:c≠a:=λz=>by rw[z] at Pa;exact absurd (Pa.symm.trans Cu) (!4)
   refine xx.keep c o (by simpa [Fr.known] using TZ) ?_;show eg H2 a _ c=_;rw[dH TZ];exact qG.ext.keep c o hc Pa
  .exact xx.tup c ys (xS.tup c ys (qG.ext.tup c ys Pa))
  .exact g.1
end
end L2
open PySem
namespace Odj
end Odj
open PySem
namespace Odj
noncomputable abbrev sd:=List (Int × Bool)
noncomputable def gw (o:sd)(k:Int):Bool:=((o.find? λp=>decide (p.1=k)).map (·.2)).getD false
noncomputable def fz (o:sd)(k:Int):sd:=if o.any (λp=>decide (p.1=k)) then o.map (λp=>if p.1=k then (p.1,!(gw o k)) else p) else o++[(k,!(gw o k))]
noncomputable def dU (row:List Int):sd:=row.foldl fz []
noncomputable def jo (o:sd):List Int:=(o.filter (·.2)).map (·.1)
noncomputable def eP (o:sd):List Int:=o.map (·.1)
theorem tL (o:sd)(k:Int):eP (fz o k)=if k∈eP o then eP o else eP o++[k]:=by
 unfold fz eP;by_cases h:k∈o.map (·.1)
 .have h':o.any (λp=>decide (p.1=k))=true:=by
   obtain⟨p,hp,e⟩:=aQ.mp h;exact cx.mpr ⟨p,hp,decide_eq_true e⟩
  rw[if_pos h',if_pos h,bA];apply ca;intro p _;simp only[Function.comp];split<;>rfl
 .have h':¬ o.any (λp=>decide (p.1=k))=true:=by
   intro z;obtain⟨p,hp,e⟩:=cx.mp z;exact h (aQ.mpr ⟨p,hp,of_decide_eq_true e⟩)
  rw[if_neg h',if_neg h,aO];rfl
theorem zv (h:(eP o).Nodup):(eP (fz o k)).Nodup:=by
 rw[tL];split
 .exact h
 .rename_i hk
  rw[b9];refine⟨h,!4,λa ha b hb=>?_⟩;have:b=k:=by simpa using hb
  subst this;intro z;subst z;exact hk ha
theorem EY (o:sd)(k:Int):(fz o k).length<=o.length+1:=by
 unfold fz;split
 .simp
 .simp
theorem EZ (h:x∈eP (fz o k)):x=k\/x∈eP o:=by
 rw[tL] at h;split at h
 .exact .inr h
 .rcases aK.mp h with z | z
  .exact .inr z
  .exact .inl (by simpa using z)
theorem E1 {o:sd}(h:(eP o).Nodup){i:Nat}{p:Int × Bool}(hp:o[i]? = some p):gw o p.1=p.2:=by
 induction o generalizing i with
 | nil=>cases hp
 | cons q o ih =>
  unfold eP at h;rw[ak,aZ] at h
  cases i with
  | zero =>
   have:q=p:=by simpa using hp
   subst this;simp[gw]
  | succ i =>
   have ME:o[i]? = some p:=by simpa using hp
   have hm:p.1∈o.map (·.1):=aQ.mpr ⟨p,cp ME,rfl⟩;have iW:¬ q.1=p.1:=λz=>h.1 (z ▸ hm);have:=ih h.2 ME;unfold gw at this ⊢;rw[bM];simp only[iW,decide_false];exact this
end Odj
open PySem
namespace Odj
theorem q8:∀{l1 l2:List Int},l1.Pairwise (· < ·)->l2.Pairwise (· < ·)->(∀k,k∈l1↔k∈l2)->l1=l2
 | [],[],_,_,_=>rfl
 | [],b::l2,_,_,h=>absurd ((h b).mpr (ar ..)) (!4)
 | a::l1,[],_,_,h=>absurd ((h a).mp (ar ..)) (!4)
 | a::l1,b::l2,h1,h2,h=>by
  obtain⟨q1,r1⟩:=bP.mp h1;obtain⟨q2,r2⟩:=bP.mp h2
  have e:a=b:=by
   rcases av.mp ((h a).mp (ar ..)) with z | z
   .exact z
   .rcases av.mp ((h b).mpr (ar ..)) with y | y
    .exact y.symm
    .have:=q2 a z
     have:=q1 b y;omega
  subst e;rw[q8 r1 r2 λk=>?_];constructor
  .intro hk
   rcases av.mp ((h k).mp (ai _ hk)) with z | z
   .have:=q1 k hk
    omega
   .exact z
  .intro hk
   rcases av.mp ((h k).mpr (ai _ hk)) with z | z
   .have:=q2 k hk
    omega
   .exact z
noncomputable def zx (row ns:List Int):Prop:=ns.Pairwise (· < ·)/\∀k,k∈ns↔row.count k % 2=1
end Odj
namespace Odj
open PySem L2
noncomputable def d7 (row:List Int):List Int:=yU (row.filter λk=>decide (row.count k % 2=1))
noncomputable def h8:UF:=λds n Q _=>match ds with
 | [.list es]=>kK (i5 es) λrow=>((jQ row).length<=60/\row.length<=100000)/\Q (.tuple ((d7 row).map .int)) n
 | [.tuple es]=>kK (i5 es) λrow=>((jQ row).length<=60/\row.length<=100000)/\Q (.tuple ((d7 row).map .int)) n
 | _=>False
noncomputable def FL (c:Str):List Str:=(([]:List (Str × List Str)).lookup c).getD []
noncomputable abbrev XC (cl:Str->Addr):Xc:=⟨cl,FL⟩
noncomputable def mZ:US:=(fu (dP h8 (du (dO gZ (dr 0) (dr 1)) dA)))
noncomputable def gG:UF:=mQ 2 2 (λ_=>mZ)
noncomputable def lr:US:=(fu (DC (d6 (dO DD (dO fh (dr 0) (uC (.int 0))) (dr 1))) (dO fh (dr 0) (uC (.int 1))) (dO fh (dr 0) (uC (.int 0)))))
noncomputable def jq:UF:=mQ 2 2 (λ_=>lr)
noncomputable def iI:US:=(dC (mO 2 dA)
 (dC (iQ (Oy (dO fh (dr 0) (uC (.int 1)))) (yO [(gj 3),(gj 4)])
 (fD (d6 (dO wG (xu (dO fh (dr 4) (uC (.int 0))) (dr 1)) (xu (dO fh (dr 4) (uC (.int 1))) (dr 1)))) (dC (eB 5 (DC (d6 (xu (dO fh (dr 4) (uC (.int 0))) (dr 1))) (dO fh (dr 4) (uC (.int 0))) (dO fh (dr 4) (uC (.int 1)))))
 (jl 2 ir (du (eW (du (dO gZ (dO fh (mF (dr 1) (dr 5)) (uC (.int 0))) (dO fh (dr 4) (uC (.int 2)))) (du (dP jq (du (dI 4) (du (dI 5) dA))) (du (dP gG (du (dO fh (mF (dr 1) (dr 5)) (uC (.int 1))) (du (eW (du (dI 3) dA)) dA))) dA)))) dA))) eU))
 (fu (EI (dr 2)))))
noncomputable def fm:UF:=mQ 6 2 (λ_=>iI)
noncomputable def lu:US:=(dC (zk 2 (dI 1) (eW (du (uC (.int 0)) (du (eW dA) dA))))
 (dC (eB 3 (qJ fm (du (dr 0) (du (dr 2) dA))))
 (dC (oq (d6 (dO me (dr 3) (uC .none)))
 (dC (o8 2 (dO fh (dr 3) (uC (.int 1))) (eW (du (dO fh (dr 3) (uC (.int 0))) (du (dO fh (dr 3) (uC (.int 2))) dA))))
 (eB 3 (qJ fm (du (dr 0) (du (dr 2) dA))))))
 (jP 2))))
noncomputable def jr:UF:=mQ 4 2 (λ_=>lu)
noncomputable def i8:US:=(dC (eB 2 (dP jr (du (dI 0) (du (dI 1) dA))))
 (fu (oa gE (du (uL (mz (Ll (dO fh (dr 0) (uC (.int 0)))) [none,some 2] (gj 0) DU (DC (d6 (xu (dr 0) (dr 1))) (dO fh (mF (dr 1) (dr 0)) (uC (.int 0))) (uC .none)))) dA))))
noncomputable def gU:UF:=mQ 3 2 (λ_=>i8)
noncomputable def jz:US:=(fu (uL (mz (Ll (dO fh (dr 0) (uC (.int 0)))) [none,some 0] (gj 0) DU (dP gU (du (dI 1) (du (dI 0) dA))))))
noncomputable def iw:UF:=mQ 1 1 (λ_=>jz)
noncomputable def ic (Y:jV)(Rc:jV->UF):US:=(dC (eB 3 (dO fh (dr 1) (uC (.int 0))))
 (dC (mO 4 dA)
 (dC (iQ (Cq (Cp (dr 1) (DM (uC (.int 1))) DL)) (gj 5)
 (dC (eB 6 (dP (Rc Y) (du (dI 0) (du (dP gG (du (dI 1) (du (eW (du (dI 3) (du (dI 5) dA))) dA))) dA))))
 (fD (BI (d6 (dO me (dO fh (dO fh (dr 0) (dr 3)) (dr 5)) (uC .none))) (d6 (dO me (dr 6) (uC .none)))) (jl 4 ir (du (eW (du (dO gZ (dO fh (dO fh (dr 0) (dr 3)) (dr 5)) (dr 6)) (du (dI 5) dA))) dA)) eU)))
 (jP 4))))
noncomputable def fH (Rc:jV->UF):jV->UF:=λY=>ET 7 3 (ic Y Rc)
noncomputable def iJ (Y:jV)(Rc:jV->UF):US:=(EU Y 1 (eB 3 (dP (Rc Y) (du (dI 0) (du (dI 1) dA)))) (DC (d6 (dO FC (oa mx (du (dr 3) dA)) (uC (.int 0)))) (dO fh (oa xh (du (dr 3) dA)) (uC (.int 0))) (uC .none)))
noncomputable def iK (Rc:jV->UF):jV->UF:=λY=>ET 4 3 (iJ Y Rc)
noncomputable def fI:Nat->jV->UF
 | 0=>λ_=>OI
 | d+1=>iK (fH (fI d))
noncomputable def gy:jV->UF:=fI 5
noncomputable def ig:jV->UF:=fH gy
noncomputable def jA:US:=(dC (eB 2 (dP iw (du (dI 0) dA)))
 (vp 3 (eW dA) (uC (.int 0)) λY=>(dC (fD (d6 (dO uP (dP (gy Y) (du (dI 2) (du (dI 1) dA))) (uC .none))) (fu (uC .none)) eU)
 (dC (mO 4 dA)
 (dC (eB 5 (dI 1))
 (dC (oq (d6 (dO wG (dr 5) (eW dA)))
 (dC (eB 6 (eW (du (dO fh (dr 5) (uC (.int 0))) (du (dO fh (oa xh (du (dP (ig Y) (du (dI 2) (du (dI 5) dA))) dA)) (uC (.int 1))) dA))))
 (dC (jl 4 ir (du (dI 6) dA))
 (eB 5 (dP gG (du (dI 5) (du (dI 6) dA)))))))
 (fu (oa gE (du (dr 4) dA)))))))))
noncomputable def ix:UF:=mQ 7 2 (λ_=>jA)
noncomputable def lx:US:=(dC (eB 2 (dO fh (uL (du (uC (.int 0)) (du (uC (.int 1)) (du (uC (.int 2)) (du (uC (.int 3)) (du (uC (.int 5)) (du (uC (.int 7)) (du (My wD (uC (.int 1))) (du (My wD (uC (.int 2))) (du (My wD (uC (.int 3))) (du (uC (.int 99)) (du (My wD (uC (.int 99))) (du (uC (.int 1)) dA))))))))))))) (dP gR (du (uC (.int 12)) dA))))
 (fu (DC (d6 (dI 1)) (oa Lh (du (dr 2) dA)) (dI 2))))
noncomputable def js:UF:=iH 3 2 (λ_=>lx)
noncomputable def oI:US:=(dC (eB 4 (dO gZ (uC (.int 1)) (dP gR (du (dI 1) dA))))
 (dC (mO 5 dA)
 (dC (iQ (MB (dO uO (dP gR (du (dO gZ (dr 2) (uC (.int 1))) dA)) (oa intD (du (dO FC (dr 4) (uC (.int 1))) dA)))) (gj 6)
 (dC (eB 7 (dP gR (du (dI 4) dA)))
 (dC (eB 8 (dO GX (dO gZ (dO gZ (dr 7) (uC (.int 1))) (dP gR (du (dO BK (dr 4) (uC (.int 1))) dA))) (dr 4)))
 (dC (jl 5 ir (du (eW (du (oa wI (du (dr 7) (du (dr 8) dA))) (du (oa wJ (du (dr 7) (du (dr 8) dA))) (du (dP js (du (dI 3) dA)) dA)))) dA))
 (fD (BI (d6 (dO DD (dP gR (du (uC (.int 8)) dA)) (uC (.int 0)))) (d6 (dO yL (oa mx (du (dr 5) dA)) (dr 2)))) (jl 5 ir (du (dO fh (dr 5) (My wD (uC (.int 1)))) dA)) eU)))))
 (fu (eW (du (dI 4) (du (oa gE (du (Cp (dr 5) DL (DM (dI 2))) dA)) dA)))))))
noncomputable def lY:UF:=iH 9 4 (λ_=>oI)
noncomputable def i9:US:=(dC (eB 2 (dO gZ (uL (mz (RA (dr 0)) [none,some 1] (gj 0) (d6 (dO DE (dr 0) (dr 1))) (dI 0))) (uL (mz (RA (dr 1)) [none,some 0] (gj 0) (d6 (dO DE (dr 0) (dr 1))) (dI 0)))))
 (fu (oa gE (du (uL (AD (dr 2))) dA))))
noncomputable def ff:UF:=mQ 3 2 (λ_=>i9)
noncomputable def m5:US:=(dC (eB 2 (eW dA))
 (dC (iQ (DQ 1) (gj 3)
 (eB 2 (dP ff (du (dI 2) (du (Cp (dO fh (dO fh (dr 0) (uC (.int 1))) (dr 3)) DL (DM (uC (.int 2)))) dA)))))
 (fu (dI 2))))
noncomputable def kn:UF:=mQ 4 2 (λ_=>m5)
noncomputable def jB:US:=(fu (oa gE (du (uL (mz (Ll (oa mx (du (dO fh (dr 1) (uC (.int 1))) dA))) [none,some 0] (gj 0) (d6 (dO DD (dP gR (du (uC (.int 2)) dA)) (uC (.int 0)))) (dI 0))) dA)))
noncomputable def iy:UF:=iH 2 2 (λ_=>jB)
noncomputable def ja:US:=(fu (oa gE (du (uL (mz (Ll (dO fh (dr 1) (uC (.int 0)))) [none,some 0] (gj 0) (d6 (dO DD (dP gR (du (uC (.int 2)) dA)) (uC (.int 0)))) (dI 0))) dA)))
noncomputable def fJ:UF:=iH 2 2 (λ_=>ja)
noncomputable def m6:US:=(dC (fD (d6 (dO FC (dP gR (du (uC (.int 4)) dA)) (uC (.int 0)))) (fu (dP kn (du (dI 1) (du (dP iy (du (dI 1) dA)) dA)))) eU)
 (fu (dP fJ (du (dI 1) dA))))
noncomputable def ko:UF:=iH 2 2 (λ_=>m6)
noncomputable def ly:US:=(dC (zq 1 (eW dA) (eW (du (uC (.int 0)) (du (eW dA) dA))))
 (dC (iQ (Oy (dO fh (dr 0) (uC (.int 1)))) (yO [(gj 2),(gj 3)])
 (dC (oH 4 1)
 (dC (xy 1 (gj 5)
 (dC (eB 6 (dP ff (du (dI 5) (du (Cp (dr 3) DL (DM (uC (.int 2)))) dA))))
 (dC (eB 7 (eW (du (dO gZ (dO fh (o9 1 (dr 5)) (uC (.int 0))) (dO fh (dr 3) (uC (.int 2)))) (du (dO gZ (dO fh (o9 1 (dr 5)) (uC (.int 1))) (eW (du (dI 2) dA))) dA))))
 (fD (wB (d6 (AV 4 (dr 6))) (d6 (dO yL (dO fh (dr 7) (uC (.int 0))) (dO fh (xr 4 (dr 6)) (uC (.int 0)))))) (o8 4 (dr 6) (dI 7)) eU))))
 (qY 1 4))))
 (jP 1)))
noncomputable def jt:UF:=mQ 8 1 (λ_=>ly)
noncomputable def lz:US:=(dC (eB 2 (dP gR (du (uC (.int 12)) dA)))
 (dC (fD (BI (d6 (dO DD (dr 2) (uC (.int 0)))) (d6 (dO DD (dr 1) (uC (.int 0))))) (fu (eW (du (uC (.int 9)) (du (uC (.int 16)) dA)))) eU)
 (fu (DC (d6 (dO yL (dr 2) (uC (.int 3)))) (eW (du (uC (.int 3)) (du (uC (.int 16)) dA))) (eW (du (uC (.int 6)) (du (uC (.int 9)) dA)))))))
noncomputable def ju:UF:=iH 3 2 (λ_=>lz)
noncomputable def oJ:US:=(dC (mO 2 (Lu (uL (du (uC .none) dA)) (dO fh (dr 0) (uC (.int 0)))))
 (dC (o3 2 (dI 1) (uC (.int 0)))
 (dC (iQ (MB (dO fh (dr 0) (uC (.int 0)))) (gj 3)
 (iQ (Cq (dO fh (dr 0) (uC (.int 1)))) (yO [(gj 4),(gj 5),(gj 6)])
 (iQ (Cq (uL (du (eW (du (dI 4) (du (dI 5) dA))) (du (eW (du (dI 5) (du (dI 4) dA))) dA)))) (yO [(gj 7),(gj 8)])
 (fD (d6 (dO me (dO fh (dr 2) (dr 7)) (uC .none))) (dC (eB 9 (dO gZ (dO fh (dr 2) (dr 7)) (dr 6)))
 (fD (wB (d6 (dO uP (dO fh (dr 2) (dr 8)) (uC .none))) (d6 (dO yL (dr 9) (dO fh (dr 2) (dr 8))))) (o3 2 (dI 8) (dI 9)) eU)) eU))))
 (jP 2))))
noncomputable def jW:UF:=mQ 10 2 (λ_=>oJ)
noncomputable def lA:US:=(dC (eB 3 (mB (eW (du (dI 0) (du (dI 1) dA)))))
 (dC (eB 4 (dP ix (du (dI 0) (du (dI 1) dA))))
 (dC (fD (wB (d6 (dO yW (mB (eW (du (dI 0) (du (dI 1) dA)))) (dr 3))) (d6 (dO wG (dO uP (dr 4) (uC .none)) (xv (dr 1) (dr 2))))) (fu (uC (.bool false))) eU)
 (dC (fD (d6 (dO uP (dr 4) (uC .none))) (fu (uC (.bool true))) eU)
 (dC (fD (wB (su (d6 (DY "tuple" (dr 4)))) (d6 (dO wG (uL (wV (dr 4))) (uL (zi (dr 4)))))) (fu (uC (.bool false))) eU)
 (dC (mO 5 dA)
 (dC (eB 6 (uC (.int 0)))
 (dC (iQ (DQ 4) (gj 7)
 (dC (fD (wB (su (d6 (DY "tuple" (dr 7)))) (wB (d6 (dO wG (oa mx (du (dr 7) dA)) (uC (.int 2)))) (su (d6 (dO yL (dO fh (dr 7) (uC (.int 0))) (dO fh (dr 7) (uC (.int 1)))))))) (fu (uC (.bool false))) eU)
 (dC (eB 8 (dO fh (dP jW (du (dI 0) (du (dO fh (dr 7) (uC (.int 0))) dA))) (dO fh (dr 7) (uC (.int 1)))))
 (dC (fD (d6 (dO uP (dr 8) (uC .none))) (fu (uC (.bool false))) eU)
 (dC (eB 6 (dO gZ (dr 6) (dr 8)))
 (jl 5 jm (du (uL (wV (dr 7))) dA)))))))
 (fu (Ao (dO D' (mB (oa gE (du (uL (AD (dr 5))) dA))) (mB (dI 1))) (dO DD (dr 6) (dO fh (mF (dr 2) (dr 1)) (uC (.int 0))))))))))))))
noncomputable def iC:UF:=mQ 9 3 (λ_=>lA)
noncomputable def xA:US:=(dC (iQ (MB (uC (.int 3))) (gj 2)
 (dC (G4 (dP ju (du (dI 2) dA)) (yO [(gj 3),(gj 4)]))
 (dC (eB 5 (dP lY (du (dI 3) (du (dI 4) (du (uC (.bool true)) dA)))))
 (dC (eB 6 (dP jt (du (dI 5) dA)))
 (dC (eB 7 (uL (du (dP ko (du (dI 5) dA)) (du (IY (IW (dO fh (dr 5) (uC (.int 0))))) (du (dP fJ (du (dI 5) dA)) (du (eW dA) dA))))))
 (iQ (Cq (Cp (dr 7) DL (DM (dO BK (uC (.int 4)) (dO uO (uC (.int 2)) (oa intD (du (dO FC (dO fh (dr 5) (uC (.int 0))) (uC (.int 6))) dA))))))) (gj 8)
 (fD (su (d6 (dP iC (du (dI 5) (du (dI 8) (du (dI 6) dA)))))) (fu (uC (.bool false))) eU)))))))
 (fu (uC (.bool true))))
noncomputable def top (i:Nat):Stmt:=PySem.Challenge.pw_oddjoins_k27_least_pairs_told.main.body.getD i (.Pass ⟨0,0,0,0⟩)
structure nS (mg:Str->Option ah):Prop where
 abs:mg "abs" = none
 dict:mg "dict" = none
 enumerate:mg "enumerate" = none
 int:mg "int" = none
 isinstance:mg "isinstance" = none
 len:mg "len" = none
 list:mg "list" = none
 max:mg "max" = none
 min:mg "min" = none
 range:mg "range" = none
 repr:mg "repr" = none
 sorted:mg "sorted" = none
 tuple:mg "tuple" = none
noncomputable abbrev N2:List Str:=["one", "other"]
noncomputable abbrev N3:List Str:=["tie", "place"]
noncomputable abbrev N4:List Str:=["web", "place", "found", "step"]
noncomputable abbrev N5:List Str:=["web", "found", "steps", "number", "tie", "near"]
noncomputable abbrev N6:List Str:=["other", "found"]
noncomputable abbrev N7:List Str:=["web", "place", "found"]
noncomputable abbrev N8:List Str:=["place", "web"]
noncomputable abbrev N9:List Str:=["web"]
noncomputable abbrev Vt:List Str:=["heights", "told", "known", "offers"]
noncomputable abbrev Vu:List Str:=["heights", "told", "known", "first", "offers", "other", "rest"]
noncomputable abbrev Vv:List Str:=["web", "told", "heights", "known", "pairs", "left", "pair"]
noncomputable abbrev Vw:List Str:=["_law_feed_here", "_law_is_plain", "_law_price_here"]
noncomputable abbrev Vx:List Str:=["_law_feed_here", "_law_most", "_law_many_ties", "_law_is_plain", "_law_many", "_law_ties", "_law_k", "_law_a", "_law_b"]
noncomputable abbrev T1:List Str:=["_law_thing", "_law_other"]
noncomputable abbrev Si:List Str:=["_law_one", "_law_other", "_law_both"]
noncomputable abbrev T2:List Str:=["_law_thing", "_law_one"]
noncomputable abbrev Vy:List Str:=["_law_web_here", "_law_some", "_law_found", "_law_number"]
noncomputable abbrev T3:List Str:=["_law_number", "_law_feed_here"]
noncomputable abbrev Pb:List Str:=["_law_feed_here", "_law_web_here"]
noncomputable abbrev T4:List Str:=["_law_place", "_law_feed_here"]
noncomputable abbrev Vz:List Str:=["_law_web_here", "_law_found", "_law_number", "_law_tie", "_law_more", "_law_odds_here", "_law_other", "_law_best"]
noncomputable abbrev VA:List Str:=["_law_feed_here", "_law_k", "_law_way"]
noncomputable abbrev VB:List Str:=["_law_web_here", "_law_place", "_law_found", "_law_turn", "_law_a", "_law_b", "_law_price_here", "_law_one", "_law_other", "_law_far_here"]
noncomputable abbrev VC:List Str:=["_law_web_here", "_law_told_here", "_law_least_here", "_law_kept", "_law_found", "_law_places", "_law_whole_price", "_law_pair", "_law_far_here"]
noncomputable abbrev VD:List Str:=["_law_script", "_law_feed_here", "_law_k", "_law_most", "_law_many", "_law_web_here", "_law_least_here", "_law_some", "_law_told_here"]
section
variable (P:aV)(w:World)(K:W.Frag)(mg:Str->Option ah)(base:Heap)(cl:Str->Addr)(Y:yS)
noncomputable abbrev q9:Prop:=d4 P w K mg base 1 "odd_ones" ["row"] (vH (XC cl) h8)
noncomputable abbrev fS:Prop:=d4 P w K mg base 2 "by_turns" ["one", "other"] (vH (XC cl) gG)
noncomputable abbrev lB:Prop:=d4 P w K mg base 1 "other_end" ["tie", "place"] (vH (XC cl) jq)
noncomputable abbrev lC:Prop:=d4 P w K mg base 4 "ways_from" ["web", "place"] (vH (XC cl) jr)
noncomputable abbrev iL:Prop:=d4 P w K mg base 3 "cheapest_step" ["web", "found"] (vH (XC cl) fm)
noncomputable abbrev jb:Prop:=d4 P w K mg base 5 "heights_from" ["web", "place"] (vH (XC cl) gU)
noncomputable abbrev jC:Prop:=d4 P w K mg base 6 "all_heights" ["web"] (vH (XC cl) iw)
noncomputable abbrev gA:Prop:=d4 P w K mg base 12 "pairing_price" ["heights", "told", "known"] (FJ gy)
noncomputable abbrev ij:Prop:=d4 P w K mg base 13 "partner_offers" ["heights", "told", "known"] (FJ ig)
noncomputable abbrev jD:Prop:=d4 P w K mg base 14 "least_pairs" ["web", "told"] (vH (XC cl) ix)
noncomputable abbrev gH:Prop:=d4 P w K mg base 1 "_law_take" ["_law_feed_here", "_law_many"] (qI Y gR)
noncomputable abbrev lD:Prop:=d4 P w K mg base 2 "_law_price" ["_law_feed_here", "_law_is_plain"] (qI Y js)
noncomputable abbrev oK:Prop:=d4 P w K mg base 3 "_law_web" ["_law_feed_here", "_law_most", "_law_many_ties", "_law_is_plain"] (qI Y lY)
noncomputable abbrev gV:Prop:=d4 P w K mg base 1 "_law_by_turns" ["_law_one", "_law_other"] (vH (XC cl) ff)
noncomputable abbrev m7:Prop:=d4 P w K mg base 2 "_law_odds" ["_law_web_here", "_law_some"] (vH (XC cl) kn)
noncomputable abbrev jE:Prop:=d4 P w K mg base 2 "_law_any_set" ["_law_feed_here", "_law_web_here"] (qI Y iy)
noncomputable abbrev gW:Prop:=d4 P w K mg base 2 "_law_any_side" ["_law_feed_here", "_law_web_here"] (qI Y fJ)
noncomputable abbrev m8:Prop:=d4 P w K mg base 3 "_law_told" ["_law_feed_here", "_law_web_here"] (qI Y ko)
noncomputable abbrev lE:Prop:=d4 P w K mg base 2 "_law_least" ["_law_web_here"] (vH (XC cl) jt)
noncomputable abbrev lF:Prop:=d4 P w K mg base 2 "_law_sizes" ["_law_feed_here", "_law_k"] (qI Y ju)
noncomputable abbrev oM:Prop:=d4 P w K mg base 1 "_law_far" ["_law_web_here", "_law_place"] (vH (XC cl) jW)
noncomputable abbrev lG:Prop:=d4 P w K mg base 15 "_law_right" ["_law_web_here", "_law_told_here", "_law_least_here"] (vH (XC cl) iC)
end
end Odj
namespace L2
open PySem PySem.Spec PyProof.Rows
theorem gc.new {K:W.Frag}{H:Hp}{a p:Addr}{xs:List V}{o:HO}(h:gc K H a xs)(hp:H p=none):gc K (eg H p o) a xs:=by
 rcases h with h | h
 .refine .inl ?_
  rcases h with h | ⟨u,h⟩
  .exact .inl (by rw[dH (e9 h hp)];exact h)
  .exact .inr ⟨u,by rw[dH (e9 h hp)];exact h⟩
 .exact .inr h
noncomputable def Sj (K:W.Frag):R2:=λx y H Q=>∃(a b:Addr) (ns:List Int),x=.ref a/\y=.ref b/\gc K H a (ns.map V.int)/\H b=some (.lst [])/\af.canLayAll0 (ns.map af.int)=true/\(af.list (ns.map af.int)).depth<=60/\Q (.bl (af.eqv (.list (ns.map .int)) (.list []))) H
theorem LZ {X:Cx}{k:Nat}(K:W.Frag)(hr:f6 k X.A)(hk:X.K=K:=by rfl):j0 X (compareOp .Eq) (Sj K):=by
 subst hk;intro pins s σ H x y v u Q I rx ry h;obtain⟨a,b,ns,rfl,rfl,ha,hb,c1,d1,q⟩:=h;cases rx;obtain⟨its,rv,⟨o,n,e,hc,_,hd⟩,_⟩:=I.list ha;obtain⟨as,ra⟩:=dw.reads (S:=[]) I.eD (by simpa [af.canLay0] using c1) (.ints ns) rv;obtain⟨bs,rb⟩:=dY.reads I.eD rfl (dY.lst (S:=[]) hb (!4) .nil) ry;have Fy:=hr.units;exact SeqAt.compareEq_reads (.list e hc hd (by simpa using ra)) rb c1 rfl (!1) ⟨.bl _,H,I,rfl,q⟩
end L2
namespace Odj
open PySem L2
theorem xB (ns:List Int):af.canLayAll0 (ns.map af.int)=true:=by
 induction ns with
 | nil=>rfl
 | cons n ns ih=>simpa [af.canLayAll0,af.canLay0] using ih
theorem zy (ns:List Int):af.depthAll (ns.map af.int)=0:=by
 induction ns with
 | nil=>rfl
 | cons n ns ih=>simpa [af.depthAll,af.depth] using ih
structure iG (H:Hp) (fa sa:Addr) (n:Int):Prop where
 ex:∃(k:Int) (ns:List Int) (i c:Int),H fa=some (.lst [.ref sa,.int i,.int c])/\H sa=some (.lst ((k::ns).map V.int))/\0<=i/\i<=n
 ne:sa≠fa
 lo:0<=n
theorem iG.ext {S:List Addr}{H H':Hp}{fa sa:Addr}{n:Int}(f:iG H fa sa n)(x:Ext S H H')(h1:fa ∉ S)(h2:sa ∉ S):iG H' fa sa n:=by
 obtain⟨k,ns,i,c,e1,e2,e3⟩:=f.ex;exact⟨⟨k,ns,i,c,x.keep _ _ h1 e1,x.keep _ _ h2 e2,e3⟩,f.ne,f.lo⟩
theorem iG.put {H:Hp}{fa sa:Addr}{n:Int}(f:iG H fa sa n)(i c n':Int)(h0:0<=i)(h:i<=n'):iG (eg H fa (.lst [.ref sa,.int i,.int c])) fa sa n'/\Ext [fa] H (eg H fa (.lst [.ref sa,.int i,.int c])):=by
 obtain⟨k,ns,i0,c0,e1,e2,_⟩:=f.ex;exact⟨⟨⟨k,ns,i,c,dz,by rw[dH f.ne];exact e2,h0,h⟩,f.ne,!1⟩,.set (!4) e1⟩
noncomputable def sE:yS where
 iG:=iG
 ext:=λf x h1 h2=>f.ext x h1 h2
 fa:=λf=>let ⟨_,_,_,_,e,_⟩:=f.ex;by rw[e];simp
 sa:=λf=>let ⟨_,_,_,_,_,e,_⟩:=f.ex;by rw[e];simp
 nx:=λf φ=>let ⟨_,_,_,_,e,_⟩:=f.ex;by rw[e];simp
noncomputable abbrev L0 (K:W.Frag):Sp:=pW sE K
noncomputable abbrev L1:Sp:=Az sE
section
variable {P:aV}{w:World}{K:W.Frag}{mg:Str->Option ah}{base:Heap}{f:Addr}{fd:bT}
theorem L3 (F:v7 K "_law_feed" "_law_feed" (top 16) f fd)(hm:mg "_law_feed" = some (.ref f))(B:nS mg):d4 P w K mg base 1 "_law_feed" ["_law_script"] (L0 K):=by
 refine⟨f,fd,?_,hm,F.kp,F.binds λ_ _ _ _ _ _ us hl=>by obtain⟨_,rfl⟩:=Ea hl;rfl⟩;have sc:fg ["_law_script"] ["_law_script"] (dB (top 16)):=⟨rfl,rfl,rfl,!3,rfl,!3,!3⟩;refine F.K3 sc (λvs H Q E h=>?_) (λfj A outer s H vs Q E hr h=>?_)
 .obtain⟨a,ns,rfl,_⟩:=h
  rfl
 .obtain⟨a,ns,rfl,hs,q⟩:=h
  refine⟨_,(gP (j9 (uF (gC (fq CZ (we (Tr K) (qv 0) Ac (Ad eE)) (fq yo (uF (gC eE eS)) (gJ sQ (by rfl) B.int (!3) (gC (Aa (LZ K hr) (qv 0) (uF eS) (iV _)) eS)))) (gC eE (gC eE eS)))))),?_⟩;refine⟨_,rfl,63,rfl,a,_,rfl,hs,λp hp=>⟨by show 1<=aA;decide,λp1 Qi=>⟨_,rfl,bF _,λp2 Fz=>⟨a,p2,ns,rfl,rfl,((hs.new hp).new Qi).new Fz,dz,xB ns,by simp[af.depth,zy],.inr ⟨_,rfl,?_⟩⟩⟩⟩⟩
  obtain⟨cs,Fu,FF,VE⟩:∃cs:List Int,nz (ns.map V.int) none (some 63)=cs.map V.int/\cs.length<=63/\(cs=[]->ns=[]):=by
   refine⟨(ns.drop (HT.gh (ns.map V.int).length 0 none)).take (HT.gh (ns.map V.int).length (ns.map V.int).length (some 63) - HT.gh (ns.map V.int).length 0 none),?_,?_,?_⟩
   .unfold nz
    rw[List.map_take,List.map_drop]
   .rw[HT.nv,show (63:Int)=((63:Nat):Int) from rfl,HT.pP]
    simp only[bW];omega
   .rw[HT.nv,show (63:Int)=((63:Nat):Int) from rfl,HT.pP]
    cases ns with
    | nil=>intro _;rfl
    | cons z zs=>intro h;simp at h
  rw[Fu] at Qi Fz ⊢;have y1:Ext [] H (eg H p (.lst (cs.map V.int))):=.new hp;have ep:(eg H p (.lst (cs.map V.int))) p=some (.lst (cs.map V.int)):=dz;generalize eg H p (.lst (cs.map V.int))=H1 at y1 ep Qi Fz ⊢;have y2:Ext [] H1 (eg H1 p1 (.lst [.int 0])):=.new Qi;have T5:(eg H1 p1 (.lst [.int 0])) p1=some (.lst [.int 0]):=dz;generalize eg H1 p1 (.lst [.int 0])=H2 at y2 T5 Fz ⊢;have y3:Ext [] H2 (eg H2 p2 (.lst [])):=.new Fz;generalize eg H2 p2 (.lst [])=H3 at y3 ⊢;have z1:=y3.keep _ _ (!4) T5;have z0:=y3.keep _ _ (!4) (y2.keep _ _ (!4) ep);have T6:=(y1.trans y2).trans y3;generalize hb:af.eqv (.list (ns.map .int)) (.list [])=b;have Og:ns=[]->b=true:=λz=>by rw[<- hb,z];rfl
  refine⟨p1,_,_,rfl,rfl,z1,by cases b<;>decide,by cases b<;>decide,by cases b<;>decide,λp3 VF=>?_⟩;have y4:Ext [] H3 (eg H3 p3 (.lst (List.replicate (if b=true then (1:Int) else 0).toNat [V.int 0]).flatten)):=.new VF;have z3:(eg H3 p3 (.lst (List.replicate (if b=true then (1:Int) else 0).toNat [V.int 0]).flatten)) p3=some (.lst (List.replicate (if b=true then (1:Int) else 0).toNat [V.int 0]).flatten):=dz;generalize eg H3 p3 (.lst (List.replicate (if b=true then (1:Int) else 0).toNat [V.int 0]).flatten)=H4 at y4 z3 ⊢;have WR:aA=16777216:=by decide
  refine⟨p,p3,_,_,rfl,rfl,y4.keep _ _ (!4) z0,z3,by rw[uw,au];cases b<;>simp<;>omega,λp4 T7=>?_⟩
  obtain⟨k,ks,hk⟩:∃(k:Int) (ks:List Int),cs.map V.int++(List.replicate (if b=true then (1:Int) else 0).toNat [V.int 0]).flatten=(k::ks).map V.int:=by
   cases cs with
   | nil=>rw[Og (VE rfl)];exact⟨0,[],rfl⟩
   | cons z zs =>
    cases b with
    | true=>exact⟨z,zs++[0],!4⟩
    | false=>exact⟨z,zs,!4⟩
  rw[hk];refine⟨by show 3<=aA;decide,λfa wU=>?_⟩;have y5:Ext [] H4 (eg H4 p4 (.lst ((k::ks).map V.int))):=.new T7;have z4:(eg H4 p4 (.lst ((k::ks).map V.int))) p4=some (.lst ((k::ks).map V.int)):=dz;have Sl:H p4=none:=(T6.trans y4).fresh (!4) T7;generalize eg H4 p4 (.lst ((k::ks).map V.int))=H5 at y5 z4 wU ⊢;have T8:=(T6.trans y4).trans y5;have iW:p4≠fa:=λz=>by rw[z,wU] at z4;cases z4
  exact q fa p4 _ ⟨⟨k,ks,0,0,dz,by rw[dH iW];exact z4,!2,!2⟩,iW,!2⟩ (T8.trans (.new wU)) (T8.fresh (!4) wU) Sl
theorem L4 (F:v7 K "_law_take" "_law_take" (top 17) f fd)(hm:mg "_law_take" = some (.ref f))(B:nS mg):d4 P w K mg base 1 "_law_take" ["_law_feed_here", "_law_many"] L1:=by
 refine⟨f,fd,?_,hm,F.kp,F.binds λ_ _ _ _ _ _ us hl=>by obtain⟨_,_,rfl⟩:=BQ hl;rfl⟩;have sc:fg ["_law_feed_here", "_law_many", "_law_found", "_law_spot", "_law_cell", "_law_mixed"] ["_law_feed_here", "_law_many"] (dB (top 17)):=⟨rfl,rfl,rfl,!3,rfl,!3,!3⟩;refine F.K3 sc (λvs H Q E h=>?_) (λfj A outer s H vs Q E hr h=>?_)
 .obtain⟨fa,sa,n,many,rfl,_⟩:=h
  rfl
 .obtain⟨fa,sa,n,many,rfl,fe,m0,m1,nm,q⟩:=h
  have WS:iA=1099511627776:=rfl
  refine⟨_,(eN (Ae (pQ Il (nD (GH K) (qv 0) eE (λ_ _=>rfl)) eE (iV _)) (eN (gD (i:=2) sc.nd rfl (Or.inl rfl) (fq j5 (nD (GH K) (qv 0) eE (λ_ _=>rfl)) (qv 1)))
   (eN (qw (fq zS (nD (GH K) (qv 0) eE (λ_ _=>rfl)) (qv 1)) (uG (qv 0) eE nB))
   (gP (j9 (qv 2))))) pR)
   (eN (gD (i:=3) sc.nd rfl (Or.inl rfl) (nD (GH K) (qv 0) eE (λ_ _=>rfl)))
   (eN (qw (fq kS (qv 3) eE) (uG (qv 0) eE nB))
   (eN (gD (i:=4) sc.nd rfl (Or.inl rfl) (nD (GH K) (nD (GH K) (qv 0) eE (λ_ _=>rfl)) (fq j5 (qv 3) (gO (K4 K) (by rfl) B.len (!3) (gC (nD (GH K) (qv 0) eE (λ_ _=>rfl)) eS))) (λ_ _=>rfl)))
   (GF (Ae (QW.pt (Dh (pQ Nf (qv 4) (fq JZ eE eE) (iV _)) (Ab (pQ Ik (qv 3) (gO (K4 K) (by rfl) B.len (!3) (gC (nD (GH K) (qv 0) eE (λ_ _=>rfl)) eS)) (iV _))))) (eN (qw (fq zS (qv 4) (qv 1)) (uG (qv 0) eE nB))
   (gP (j9 (fq j5 (qv 4) (qv 1))))) pR)
   (eN (gD (i:=5) sc.nd rfl (Or.inl rfl) (fq j5 (fq kT (fq kS (fq kS (fq kS (fq j5 (qv 4) eE) (fq kT (fq kT eE (qv 3)) (qv 3))) (fq kT eE (qv 3))) eE) eE) eE))
   (eN (gD (i:=5) sc.nd rfl (Or.inl rfl) (fq j5 (fq kS (fq kS (fq kT (qv 5) (qv 5)) (fq kT eE (qv 3))) eE) eE))
   (gP (j9 (fq j5 (fq j5 (fq kS (fq kT (qv 5) eE) (qv 3)) eE) (qv 1))))))))))),?_⟩
  obtain⟨k,ns,i,c,e1,e2,i0,i1⟩:=fe.ex;have n0:=fe.lo;refine⟨_,rfl,fa,_,2,_,rfl,rfl,gc.of e1,rfl,c,0,rfl,rfl,_,rfl,Kw (λhc=>?_) (λhc=>?_)⟩
  .refine⟨_,rfl,fa,_,2,_,rfl,rfl,gc.of e1,rfl,_,rfl,c,many,rfl,rfl,m0,?_⟩
   refine⟨_,rfl,fa,_,2,_,rfl,rfl,gc.of e1,rfl,_,rfl,c,many,rfl,rfl,⟨m0,m1⟩,_,rfl,fa,_,2,2,rfl,rfl,e1,rfl,?_⟩;obtain⟨f2,x2⟩:=fe.put i (c / many) (n+1) i0 (!1);exact⟨_,rfl,q _ _ (cN _ (!1)) (cC _ m0) f2 x2⟩
  .refine⟨_,rfl,fa,_,1,_,rfl,rfl,gc.of e1,rfl,?_⟩
   obtain⟨f2,x2⟩:=fe.put (i+1) c (n+1) (!1) (!1);refine⟨_,rfl,i,1,rfl,rfl,_,rfl,fa,_,1,1,rfl,rfl,e1,rfl,?_⟩;have g1:(eg H fa (.lst [.ref sa,.int (i+1),.int c])) fa=some (.lst [.ref sa,.int (i+1),.int c]):=dz;have g2:(eg H fa (.lst [.ref sa,.int (i+1),.int c])) sa=some (.lst ((k::ns).map V.int)):=by rw[dH fe.ne];exact e2
   dsimp only [ay,aw];generalize eg H fa (.lst [.ref sa,.int (i+1),.int c])=H1 at f2 x2 g1 g2 ⊢;have hl:(0:Int)<(((k::ns).map V.int).length:Nat):=by simp
   obtain⟨v,hv,Aw⟩:=KD (xs:=(k::ns).map V.int) (cN i (!1)) (cC i hl)
   obtain⟨cell,rfl⟩:∃z,v=V.int z:=by
    rw[aE] at Aw
    cases e:(k::ns)[(i % (((k::ns).map V.int).length:Nat)).toNat]? with
    | none=>rw[e] at Aw;cases Aw
    | some z=>rw[e] at Aw;exact⟨z,(Option.some.inj Aw).symm⟩
   refine⟨_,rfl,fa,_,0,_,rfl,rfl,gc.of g1,rfl,_,rfl,_,rfl,fa,_,0,_,rfl,rfl,gc.of g1,rfl,sa,_,rfl,.inl (gc.of g2),i,_,rfl,rfl,hl,sa,_,_,_,rfl,rfl,gc.of g2,hv,?_⟩;have ib:-(2 ^ 64)<i/\i<2 ^ 64:=by constructor<;>omega
   refine⟨λσ' H'=>σ'=[some (.ref fa),some (.int many),none,some (.int i),some (.int cell),none]/\H'=H1,?_,?_⟩
   .refine⟨_,rfl,10,18,rfl,rfl,⟨!2,!2,!2⟩,cell,_,rfl,rfl,_,rfl,Kw (λhb=>?_) (λhb=>Kv ⟨rfl,rfl⟩)⟩
    refine⟨_,rfl,_,rfl,fa,_,0,_,rfl,rfl,gc.of g1,rfl,sa,_,rfl,.inl (gc.of g2),_,_,rfl,rfl,_,rfl,Kw (λhd=>?_) (λhd=>⟨rfl,rfl⟩)⟩;refine⟨_,rfl,_,rfl,cell,many,rfl,rfl,⟨m0,m1⟩,_,rfl,fa,_,2,2,rfl,rfl,g1,rfl,?_⟩;obtain⟨f4,x4⟩:=f2.put (i+1) (cell / many) (n+1) (!1) (!1);exact⟨_,rfl,_,rfl,cell,many,rfl,rfl,m0,q _ _ (cN _ (!1)) (cC _ m0) f4 (x2.trans x4)⟩
   .rintro σ' H3 ⟨rfl,rfl⟩
    refine⟨_,rfl,_,_,rfl,rfl,(by show (0:Int)<1000003;decide),_,rfl,_,_,rfl,rfl,.inl ⟨!2,!2⟩,_,rfl,_,_,rfl,rfl,.inr ib,_,_,rfl,rfl,_,rfl,_,_,rfl,rfl,.inl ⟨!2,!2⟩,_,_,rfl,rfl,_,_,rfl,rfl,_,_,rfl,rfl,.inr ⟨!2,!2⟩,_,_,rfl,rfl,(by show (0:Int)<2147483629;decide),?_⟩;generalize hM:(cell % 1000003+37 * i * i+11 * i+5) * 48271 % 2147483629=M;have WT:0<=M:=by rw[<- hM];exact cN _ (!2)
    have WU:M<2147483629:=by rw[<- hM];exact cC _ (!2)
    dsimp only;rw[hM];refine⟨_,rfl,_,rfl,M,M,rfl,rfl,.inl ⟨!1,!1⟩,_,rfl,_,_,rfl,rfl,.inl ⟨!2,!2⟩,_,_,rfl,rfl,_,_,rfl,rfl,_,_,rfl,rfl,(by show (0:Int)<2147483587;decide),?_⟩;exact⟨_,rfl,_,_,rfl,rfl,.inr ⟨!2,!2⟩,_,rfl,_,_,rfl,rfl,_,_,rfl,rfl,(by show (0:Int)<999979;decide),_,rfl,_,_,rfl,rfl,m0,q _ _ (cN _ (!1)) (cC _ m0) f2 x2⟩
end
end Odj
namespace L2
open PySem
theorem Ext.put {S:List Addr}{H0 H:Hp}{p:Addr}{o:HO}(a:Ext S H0 H)(h0:H0 p=none):Ext S H0 (eg H p o) :=
 ⟨λb u hb e=>by rw[dH (λz=>by rw[z,h0] at e;cases e)];exact a.keep b u hb e,λb ys e=>by rw[dH (λz=>by rw[z,h0] at e;cases e)];exact a.tup b ys e⟩
end L2
namespace Odj
open PySem L2
noncomputable def fB (o:sd):List (Key × V):=o.map λp=>((Sum.inl p.1:Key),V.bl p.2)
theorem tM (o:sd)(k:Int):gQ (fB o) (Sum.inl k)=((o.find? λp=>decide (p.1=k)).map (·.2)).map V.bl:=by
 induction o with
 | nil=>rfl
 | cons p o ih =>
  have e:fB (p::o)=((Sum.inl p.1:Key),V.bl p.2)::fB o:=rfl;by_cases h:p.1=k
  .rw[e,fF (by rw[h]),bM]
   simp[h]
  .rw[e,fG (λz=>h (Sum.inl.inj z)),ih,bM]
   simp[h]
theorem nT (o:sd)(k:Int):(gQ (fB o) (Sum.inl k)).getD (.bl false)=.bl (gw o k):=by
 rw[tM];unfold gw;cases (o.find? λp=>decide (p.1=k))<;>rfl
theorem A0 {o:sd}(h:(eP o).Nodup){i:Nat}{p:Int × Bool}(hp:o[i]? = some p):gQ (fB o) (Sum.inl p.1)=some (.bl p.2):=by
 have e:=E1 h hp;rw[tM];unfold gw at e
 cases hf:(o.find? λq=>decide (q.1=p.1)) with
 | none =>
  have:=List.find?_eq_none.mp hf p (cp hp);simp at this
 | some q =>
  rw[hf] at e;have e':q.2=p.2:=e;simp[e']
theorem rf (o:sd)(k:Int):iX (fB o) (Sum.inl k) (.bl (!gw o k))=fB (fz o k):=by
 have ha:((fB o).any λkv=>decide (kv.1=Sum.inl k))=o.any λp=>decide (p.1=k):=by
  unfold fB;rw[List.any_map];congr 1;funext p;show decide ((Sum.inl p.1:Key)=Sum.inl k)=decide (p.1=k);by_cases h:p.1=k
  .simp[h]
  .have:¬ (Sum.inl p.1:Key)=Sum.inl k:=λz=>h (Sum.inl.inj z)
   simp[h]
 unfold iX fz;rw[ha];split
 .unfold fB
  rw[bA,bA];apply ca;intro p _;simp only[Function.comp];by_cases h:p.1=k
  .simp[h]
  .have:¬ (Sum.inl p.1:Key)=Sum.inl k:=λz=>h (Sum.inl.inj z)
   simp[h]
 .unfold fB
  rw[aO];rfl
theorem nU (o:sd):(fB o).length=o.length:=by unfold fB;rw[au]
theorem tN (row:List Int)(k:Int):dU (row++[k])=fz (dU row) k:=by
 unfold dU;rw[List.foldl_append];rfl
noncomputable def HJ (row ns:List Int):Prop:=ns.Perm (jo (dU row))/\ns.Pairwise (·<=·)
theorem zz (o:sd)(k j:Int):gw (fz o k) j=if j=k then !gw o k else gw o j:=by
 have e:=nT (fz o k) j;rw[<- rf,Dn] at e;by_cases h:j=k
 .subst h
  rw[if_pos rfl] at e;rw[if_pos rfl];exact (V.bl.inj e).symm
 .rw[if_neg (λz=>h (Sum.inl.inj z)),nT] at e
  rw[if_neg h];exact (V.bl.inj e).symm
theorem rh (k:Int):∀(row:List Int) (o:sd),gw (row.foldl fz o) k=(gw o k != decide (row.count k % 2=1))
 | [],o=>by simp
 | x::row,o=>by
  rw[cZ,rh k row,zz,List.count_cons];by_cases h:k=x
  .subst h
   rw[if_pos rfl];have h2:=Nat.mod_two_eq_zero_or_one (row.count k);rcases h2 with z | z
   .have e1:(row.count k+if (k == k)=true then 1 else 0) % 2=1:=by simp;omega
    simp only[e1,z];cases gw o k<;>rfl
   .have e1:(row.count k+if (k == k)=true then 1 else 0) % 2=0:=by simp;omega
    simp only[e1,z];cases gw o k<;>rfl
  .rw[if_neg h]
   have e1:(x == k)=false:=by
    rw[beq_eq_false_iff_ne];exact λz=>h z.symm
   simp[e1]
theorem pf (row:List Int)(k:Int):gw (dU row) k=decide (row.count k % 2=1):=by
 unfold dU;rw[rh];have:gw [] k=false:=rfl;rw[this];cases decide (row.count k % 2=1)<;>rfl
theorem rm:∀(row:List Int) (o:sd),(eP o).Nodup->(eP (row.foldl fz o)).Nodup
 | [],o,h=>h
 | x::row,o,h=>rm row _ (zv h)
theorem kq (row:List Int):(eP (dU row)).Nodup:=rm row [] (by simp[eP])
theorem rq:∀(row:List Int) (o:sd),(row.foldl fz o).length<=o.length+row.length
 | [],o=>by simp
 | x::row,o=>by
  rw[cZ,ao];have:=rq row (fz o x);have:=EY o x;omega
theorem m9 (row:List Int):(dU row).length<=row.length:=by
 have:=rq row [];unfold dU;simpa using this
theorem HK {o:sd}{k:Int}(h:gw o k=true):k∈eP o:=by
 unfold gw at h
 cases hf:(o.find? λp=>decide (p.1=k)) with
 | none=>rw[hf] at h;cases h
 | some p=>exact aQ.mpr ⟨p,List.mem_of_find?_eq_some hf,by simpa using List.find?_some hf⟩
theorem E2 {o:sd}(hn:(eP o).Nodup):jo o=(eP o).filter (gw o):=by
 unfold jo eP;rw[List.filter_map];congr 1;apply List.filter_congr;intro p hp;obtain⟨i,hi⟩:=List.getElem?_of_mem hp;exact (E1 hn hi).symm
theorem p9 {row ns:List Int}(h:HJ row ns):zx row ns/\ns.length<=row.length:=by
 have hn:=kq row;have ht:=E2 hn;have Sm:ns.Nodup:=h.1.symm.nodup (by rw[ht];exact hn.filter _);refine⟨⟨?_,λk=>?_⟩,?_⟩
 .have:=h.2.and Sm
  exact this.imp λz=>by
   have h1:=z.1;have h2:=z.2;omega
 .rw[h.1.mem_iff,ht,aT,pf]
  constructor
  .intro z;exact of_decide_eq_true z.2
  .intro z
   exact⟨HK (by rw[pf];exact decide_eq_true z),decide_eq_true z⟩
 .rw[h.1.length_eq]
  unfold jo;rw[au];exact bu (cb _ _) (m9 row)
noncomputable def B5:Sp:=λvs H Q _=>∃(a:Addr) (row:List Int),vs=[.ref a]/\(H a=some (.lst (row.map V.int))\/H a=some (.tup (row.map V.int)))/\(dU row).length<=60/\row.length<=100000 /\
 ∀(ns:List Int) (p:Addr) (H':Hp),zx row ns->ns.length<=row.length->H' p=some (.tup (ns.map V.int))->Ext [] H H'->Q (.ref p) H'
section
variable {P:aV}{w:World}{K:W.Frag}{mg:Str->Option ah}{base:Heap}{f:Addr}{fd:bT}
theorem xC (F:v7 K "odd_ones" "odd_ones" (top 1) f fd)(hm:mg "odd_ones" = some (.ref f))(B:nS mg):d4 P w K mg base 1 "odd_ones" ["row"] B5:=by
 refine⟨f,fd,?_,hm,F.kp,F.binds λ_ _ _ _ _ _ us hl=>by obtain⟨_,rfl⟩:=Ea hl;rfl⟩;have sc:fg ["row", "odd", "number"] ["row"] (dB (top 1)):=⟨rfl,rfl,rfl,!3,rfl,!3,!3⟩;refine F.K3 sc (λvs H Q E h=>?_) (λfj A outer s H vs Q E hr h=>?_)
 .obtain⟨a,row,rfl,_⟩:=h
  rfl
 .obtain⟨a,row,rfl,ha,hb,MF,q⟩:=h
  have hsz:aA=16777216:=by decide
  have hu:=NF hr;rcases ha with ha | ha
  .skip
   refine⟨_,(eN (gD (i:=1) sc.nd rfl (Or.inr rfl) wq)
   (eN (uH PassesOwn.never rfl (Dm K (qv 0)) (nE (i:=2) sc.nd rfl (Or.inl rfl)) (gP (pT hu (qv 1) (qv 2) (Di (wu hu (qv 1) (qv 2) Df ⟨rfl,rfl,rfl,rfl⟩)))))
   (gP (j9 (gJ (yz K) (by rfl) B.tuple (!3) (gC (gO (kc K) (by rfl) B.sorted (!3) (gC (uI (N:=["number", "odd"]) (mp:=[none,some 1]) rfl (Af (qv 1)) rfl (by show j7 ["row", "odd", "number"] (dB (top 1)) _ _ _=true;decide +kernel) λ_ _ _ _ _=>⟨(nE (i:=0) (by show List.Nodup [("number" : Str),("odd" : Str)];decide +kernel) rfl (Or.inl rfl)),(yy (yv (lU hu (qv 1) (qv 0) (λ_ _=>rfl)))),(qv 0)⟩) eS)) eS)))))),?_⟩
   intro d hd;have Sn:a≠d:=e9 ha hd
   refine⟨_,rfl,a,rfl,⟨_,gc.of (by rw[dH Sn];exact ha)⟩,CO (xs:=row.map V.int) (λi σ' H'=>(∃y,σ'=[some (.ref a),some (.ref d),y])/\H' d=some (.dK (fB (dU (row.take i))))/\Ext [] H H')
    ⟨⟨none,rfl⟩,dz,.new hd⟩ (λi σ' H' _ h=>gc.of (h.2.2.keep _ _ (!4) ha)) ?_ ?_⟩
   .rintro i x σ' H' hx ⟨⟨y,rfl⟩,hD,x1⟩
    rw[aE] at hx
    cases hk:row[i]? with
    | none=>rw[hk] at hx;cases hx
    | some k =>
     rw[hk] at hx;cases hx;have ol:=m9 (row.take i);rw[bW] at ol;refine⟨_,rfl,d,rfl,.inl ⟨_,.inl hD⟩,_,rfl,_,iE.k (k:=Sum.inl k) hD,_,nT _ _,_,rfl,_,rfl,d,_,rfl,pA.k (k:=Sum.inl k) hD (by rw[nU];omega),⟨_,rfl⟩,?_,x1.put hd⟩;rw[dz,rf,df,hk];show _=some (HO.dK (fB (dU (row.take i++[k]))));rw[tN]
   .rintro σ' H' ⟨⟨y,rfl⟩,hD,x1⟩
    rw[bJ (by rw[au];exact am _)] at hD;have ol:(dU row).length<=60/\(eP (dU row)).Nodup:=⟨hb,kq row⟩
    refine⟨_,rfl,d,_,rfl,hD,λo=>tf (λi ys σ' H2=>(∃y,σ'=[y,some (.ref d)])/\H2=eg H' d (.mH o (.dK (fB (dU row))))/\ys=(((dU row).take i).filter (·.2)).map λp=>V.int p.1) ⟨⟨none,rfl⟩,rfl,rfl⟩
     (λi ys σ' H2 h=>by rw[h.2.1];exact dz) ?_ ?_⟩
    .rintro i k v ys σ' H2 B6 ⟨⟨y,rfl⟩,rfl,rfl⟩
     unfold fB at B6;rw[aE] at B6
     cases hp:(dU row)[i]? with
     | none=>rw[hp] at B6;cases B6
     | some p =>
      rw[hp] at B6;cases B6
      have hl:((((dU row).take i).filter (·.2)).map λp=>V.int p.1).length<aA:=by
       rw[au];have:=cb (·.2) ((dU row).take i);rw[bW] at this;omega
      refine⟨hl,_,rfl,_,rfl,d,.bl p.2,rfl,.inl ⟨_,Sum.inl p.1,.inr ⟨o,dz⟩,rfl,(A0 ol.2 hp).symm⟩,_,rfl,?_⟩;have et:(dU row).take (i+1)=(dU row).take i++[p]:=by rw[df,hp];rfl
      cases LY:p.2 with
      | true=>exact NG ⟨_,rfl,⟨_,rfl⟩,rfl,by rw[et,dc,aO];simp[cV,LY];rfl⟩
      | false=>exact Kv ⟨⟨_,rfl⟩,rfl,by rw[et,dc,aO];simp[cV,LY]⟩
    .rintro ys σ' H2 ⟨⟨y,rfl⟩,rfl,rfl⟩
     rw[bJ (by rw[nU];exact am _)];have e:((dU row).filter (·.2)).map (λp=>V.int p.1)=(jo (dU row)).map V.int:=by unfold jo;rw[bA];rfl
     rw[e]
     have hl:(jo (dU row)).length<=60:=by
      unfold jo;rw[au];have:=cb (·.2) (dU row);omega
     refine⟨by rw[au];omega,λD Sq=>⟨D,jo (dU row),rfl,gc.of dz,!1,λl ms p1 p2 vZ=>⟨l,_,rfl,.inl ⟨gc.of dz,λt ht=>q ms t _ (p9 ⟨p1,p2⟩).1 (p9 ⟨p1,p2⟩).2 dz ?_⟩⟩⟩⟩;exact (((x1.put hd).trans (.new Sq)).trans (.new vZ)).trans (.new ht)
  .skip
   refine⟨_,(eN (gD (i:=1) sc.nd rfl (Or.inr rfl) wq)
   (eN (uH PassesOwn.never rfl (GI K (qv 0)) (nE (i:=2) sc.nd rfl (Or.inl rfl)) (gP (pT hu (qv 1) (qv 2) (Di (wu hu (qv 1) (qv 2) Df ⟨rfl,rfl,rfl,rfl⟩)))))
   (gP (j9 (gJ (yz K) (by rfl) B.tuple (!3) (gC (gO (kc K) (by rfl) B.sorted (!3) (gC (uI (N:=["number", "odd"]) (mp:=[none,some 1]) rfl (Af (qv 1)) rfl (by show j7 ["row", "odd", "number"] (dB (top 1)) _ _ _=true;decide +kernel) λ_ _ _ _ _=>⟨(nE (i:=0) (by show List.Nodup [("number" : Str),("odd" : Str)];decide +kernel) rfl (Or.inl rfl)),(yy (yv (lU hu (qv 1) (qv 0) (λ_ _=>rfl)))),(qv 0)⟩) eS)) eS)))))),?_⟩
   intro d hd;have Sn:a≠d:=e9 ha hd
   refine⟨_,rfl,a,rfl,⟨_,iz.of (by rw[dH Sn];exact ha)⟩,F7 (K:=K) (a:=a) (xs:=row.map V.int) (λi σ' H'=>(∃y,σ'=[some (.ref a),some (.ref d),y])/\H' d=some (.dK (fB (dU (row.take i))))/\Ext [] H H')
    ⟨⟨none,rfl⟩,dz,.new hd⟩ (λi σ' H' _ h=>iz.of (h.2.2.tup _ _ ha)) ?_ ?_⟩
   .rintro i x σ' H' hx ⟨⟨y,rfl⟩,hD,x1⟩
    rw[aE] at hx
    cases hk:row[i]? with
    | none=>rw[hk] at hx;cases hx
    | some k =>
     rw[hk] at hx;cases hx;have ol:=m9 (row.take i);rw[bW] at ol;refine⟨_,rfl,d,rfl,.inl ⟨_,.inl hD⟩,_,rfl,_,iE.k (k:=Sum.inl k) hD,_,nT _ _,_,rfl,_,rfl,d,_,rfl,pA.k (k:=Sum.inl k) hD (by rw[nU];omega),⟨_,rfl⟩,?_,x1.put hd⟩;rw[dz,rf,df,hk];show _=some (HO.dK (fB (dU (row.take i++[k]))));rw[tN]
   .rintro σ' H' ⟨⟨y,rfl⟩,hD,x1⟩
    rw[bJ (by rw[au];exact am _)] at hD;have ol:(dU row).length<=60/\(eP (dU row)).Nodup:=⟨hb,kq row⟩
    refine⟨_,rfl,d,_,rfl,hD,λo=>tf (λi ys σ' H2=>(∃y,σ'=[y,some (.ref d)])/\H2=eg H' d (.mH o (.dK (fB (dU row))))/\ys=(((dU row).take i).filter (·.2)).map λp=>V.int p.1) ⟨⟨none,rfl⟩,rfl,rfl⟩
     (λi ys σ' H2 h=>by rw[h.2.1];exact dz) ?_ ?_⟩
    .rintro i k v ys σ' H2 B6 ⟨⟨y,rfl⟩,rfl,rfl⟩
     unfold fB at B6;rw[aE] at B6
     cases hp:(dU row)[i]? with
     | none=>rw[hp] at B6;cases B6
     | some p =>
      rw[hp] at B6;cases B6
      have hl:((((dU row).take i).filter (·.2)).map λp=>V.int p.1).length<aA:=by
       rw[au];have:=cb (·.2) ((dU row).take i);rw[bW] at this;omega
      refine⟨hl,_,rfl,_,rfl,d,.bl p.2,rfl,.inl ⟨_,Sum.inl p.1,.inr ⟨o,dz⟩,rfl,(A0 ol.2 hp).symm⟩,_,rfl,?_⟩;have et:(dU row).take (i+1)=(dU row).take i++[p]:=by rw[df,hp];rfl
      cases LY:p.2 with
      | true=>exact NG ⟨_,rfl,⟨_,rfl⟩,rfl,by rw[et,dc,aO];simp[cV,LY];rfl⟩
      | false=>exact Kv ⟨⟨_,rfl⟩,rfl,by rw[et,dc,aO];simp[cV,LY]⟩
    .rintro ys σ' H2 ⟨⟨y,rfl⟩,rfl,rfl⟩
     rw[bJ (by rw[nU];exact am _)];have e:((dU row).filter (·.2)).map (λp=>V.int p.1)=(jo (dU row)).map V.int:=by unfold jo;rw[bA];rfl
     rw[e]
     have hl:(jo (dU row)).length<=60:=by
      unfold jo;rw[au];have:=cb (·.2) (dU row);omega
     refine⟨by rw[au];omega,λD Sq=>⟨D,jo (dU row),rfl,gc.of dz,!1,λl ms p1 p2 vZ=>⟨l,_,rfl,.inl ⟨gc.of dz,λt ht=>q ms t _ (p9 ⟨p1,p2⟩).1 (p9 ⟨p1,p2⟩).2 dz ?_⟩⟩⟩⟩;exact (((x1.put hd).trans (.new Sq)).trans (.new vZ)).trans (.new ht)
theorem tO:∀(row:List Int) (o:sd) (k:Int),k∈eP (row.foldl fz o)->k∈eP o\/k∈row
 | [],o,k,h=>.inl h
 | x::row,o,k,h=>by
  rcases tO row _ k h with h | h
  .rcases EZ h with h | h
   .exact .inr (by rw[h];exact ar ..)
   .exact .inl h
  .exact .inr (ai _ h)
theorem B7 (row:List Int)(k:Int)(h:k∈eP (dU row)):k∈row:=by
 rcases tO row [] k h with h | h
 .simp[eP] at h
 .exact h
theorem ku {S:List Addr}{H:Hp}:∀ns:List Int,dw S H (ns.map .int) (ns.map V.int)
 | []=>.nil
 | n::ns=>.cons (.int n) (ku ns)
theorem E3 {row ns:List Int}(h:zx row ns):ns=d7 row:=by
 refine q8 h.1 (lW _) λk=>?_;unfold d7;rw[h.2,kj,aT];constructor
 .intro z
  exact⟨cj.mp (!1),decide_eq_true z⟩
 .intro z
  exact of_decide_eq_true z.2
theorem tP (row:List Int):(dU row).length<=(jQ row).length:=by
 have h:=gf (kq row) (ns:=jQ row) λk hk=>iT.mpr ?_
 .unfold eP at h
  rwa [au] at h
 .exact B7 row k hk
theorem zA (F:v7 K "odd_ones" "odd_ones" (top 1) f fd)(hm:mg "odd_ones" = some (.ref f))(B:nS mg){C:Xc}:d4 P w K mg base 1 "odd_ones" ["row"] (vH C h8) :=
 (xC F hm B).imp λvs H Q E ⟨S,ds,n,Qp,Xp,r,has,hF,hq,_⟩=>by
  unfold h8 at hF;split at hF
  .rename_i es
   obtain⟨row,e,⟨h1,h2⟩,q⟩:=hF;obtain⟨v,t,rfl,rv,rn⟩:=r.of_cons;cases rn.eO;obtain⟨a,xs,rfl,ha,_,rs⟩:=rv.eR;rw[gK e] at rs;rw[hZ rs] at ha;refine⟨a,row,rfl,.inl ha,bu (tP row) h1,h2,λns p H' ho _ hp x=>hq _ _ H' (.tup hp (ku _)) x ?_⟩;rw[E3 ho];exact q
  .rename_i es
   obtain⟨row,e,⟨h1,h2⟩,q⟩:=hF;obtain⟨v,t,rfl,rv,rn⟩:=r.of_cons;cases rn.eO;obtain⟨a,xs,rfl,ha,rs⟩:=rv.eY;rw[gK e] at rs;rw[hZ rs] at ha;refine⟨a,row,rfl,.inr ha,bu (tP row) h1,h2,λns p H' ho _ hp x=>hq _ _ H' (.tup hp (ku _)) x ?_⟩;rw[E3 ho];exact q
  .exact hF.elim
end
end Odj
namespace Odj
open PySem PySem.Spec L2
section
variable {P:aV}{w:World}{K:W.Frag}{mg:Str->Option ah}{base:Heap}{f:Addr}{fd:bT}{cl:Str->Addr}{Y:yS}
theorem zB (F:FM K mg "by_turns" (top 3))(B:nS mg)(nc:q9 P w K mg base cl) :
  fS P w K mg base cl :=
 kG mZ N2 F λsc f fj A outer s H E n0 S has hr hu =>
 (dM (fT (gF nc (RM hr) (dN (k9 kE (eC 0) (eC 1)) dE))))
theorem xD (F:FM K mg "other_end" (top 5))(B:nS mg) :
  lB P w K mg base cl :=
 kG lr N3 F λsc f fj A outer s H E n0 S has hr hu =>
 (dM (fT (BJ (ft (yM hu) (KE.loose (eT (eC 0) (KE.loose dG))) (eC 1)) (eT (eC 0) (KE.loose dG)) (eT (eC 0) (KE.loose dG)))))
theorem xE (F:FM K mg "ways_from" (top 7))(B:nS mg)(gB:iL P w K mg base cl) :
  lC P w K mg base cl :=
 kG lu N4 F λsc f fj A outer s H E n0 S has hr hu =>
 (dS (Hv (i:=2) sc.nd (Or.inl rfl) (gu 1) (fQ (dN dG (dN (fQ dE) dE))) (hfd:=(nf 2 [])))
 (dS (gN 3 sc.nd (Ax gB (RM hr) (fX (eC 0) (fX (eC 2) eX))))
 (dS (Av PassesOwn.never (ft Ap (eC 3) (KE.loose jN))
 (dS (ED 2 (sv hu) (KE.loose (eT (eC 3) (KE.loose dG))) (fQ (dN (eT (eC 3) (KE.loose dG)) (dN (eT (eC 3) (KE.loose dG)) dE))))
 (dM (gN 3 sc.nd (Ax gB (RM hr) (fX (eC 0) (fX (eC 2) eX)))))))
 (dM (uW 2)))))
theorem pI (F:FM K mg "cheapest_step" (top 8))(B:nS mg)(d5:fS P w K mg base cl)(lH:lB P w K mg base cl) :
  iL P w K mg base cl :=
 kG iI N5 F λsc f fj A outer s H E n0 S has hr hu =>
 (dS (BS 2 sc.nd (kf dE))
 (dS (lg PassesOwn.never rfl (DS B.enumerate (eT (eC 0) (KE.loose dG))) (Ox (n':=2) rfl (qF (pF 3 sc.nd) (qF (pF 4 sc.nd) qE)) (OT [3,4]) rfl)
 (dM (mP (ft (DI hu) (KE.loose (Jd (sv hu) (KE.loose (eT (eC 4) (KE.loose dG))) (eC 1))) (KE.loose (Jd (sv hu) (KE.loose (eT (eC 4) (KE.loose dG))) (eC 1)))) (dS (gN 5 sc.nd (BJ (Je (sv hu) (KE.loose (eT (eC 4) (KE.loose dG))) (eC 1)) (eT (eC 4) (KE.loose dG)) (eT (eC 4) (KE.loose dG))))
 (dM (ow 2 PySem.F.plainAttrs_list PySem.F.slot_list_append PySem.F.type_list_append (lh) (dN (fQ (dN (k9 kE (KE.loose (eT (KE.loose (vn (sv hu) (eC 1) (eC 5))) (KE.loose dG))) (KE.loose (eT (eC 4) (KE.loose dG)))) (dN (gF lH (RM hr) (dN (gu 4) (dN (gu 5) dE))) (dN (gF d5 (RM hr) (dN (eT (KE.loose (vn (sv hu) (eC 1) (eC 5))) (KE.loose dG)) (dN (fQ (dN (gu 3) dE)) dE))) dE)))) dE)))) fR)))
 (dM (fT (LQ rfl hu (eC 2) B.min)))))
end
section
variable {P:aV}{w:World}{K:W.Frag}{mg:Str->Option ah}{base:Heap}{f:Addr}{fd:bT}{cl:Str->Addr}{Y:yS}
theorem rA (F:FM K mg "heights_from" (top 9))(B:nS mg)(lI:lC P w K mg base cl) :
  jb P w K mg base cl :=
 kG i8 N7 F λsc f fj A outer s H E n0 S has hr hu =>
 (dS (gN 2 sc.nd (gF lI (RM hr) (dN (gu 0) (dN (gu 1) dE))) (Or.inr rfl))
 (dM (fT (uT kg B.tuple (fX (KE.loose (KN.data (ou [] (N:=N6) (mp:=[none,some 2]) rfl (pV B.range (eT (eC 0) (KE.loose dG))) rfl (co N7 (dB (top 9))) (λ_ _ _ _ _=>⟨(pF 0 (nd N6)),DV,(BJ (Je (sv hu) (eC 0) (eC 1)) (eT (KE.loose (vn (sv hu) (eC 1) (eC 0))) (KE.loose dG)) jN)⟩) (hfd:=P0)))) eX)))))
theorem sF (F:FM K mg "all_heights" (top 11))(B:nS mg)(jc:jb P w K mg base cl) :
  jC P w K mg base cl :=
 kG jz N9 F λsc f fj A outer s H E n0 S has hr hu =>
 (dM (fT (KN.data (ou [] (N:=N8) (mp:=[none,some 0]) rfl (pV B.range (eT (eC 0) (KE.loose dG))) rfl (co N9 (dB (top 11))) (λ_ _ _ _ _=>⟨(pF 0 (nd N8)),DV,(gF jc (RM hr) (dN (gu 1) (dN (gu 0) dE)))⟩) (hfd:=P0)))))
theorem pJ {kk:Nat}(Rc:jV->UF)(GW:2<=kk)(F:FM K mg "pairing_price" (top 12))(B:nS mg)(d5:fS P w K mg base cl)(fK:d4 P w K mg base kk "partner_offers" ["heights", "told", "known"] (FJ Rc)):d4 P w K mg base (kk+1) "pairing_price" ["heights", "told", "known"] (FJ (iK Rc)) :=
 O6 (C:=XC λ_=>0) (λY=>iJ Y Rc) Vt F λsc f fj A outer s H E Y a n0 S hk hS has hr hu =>
 (EV 2 1 (sv hu) (gN 3 sc.nd (p8 2 fK (hr.mono (!1)) (gu 0) (gu 1))) (BJ (ft GY (KE.loose (uS Aq B.len (fX (eC 3) eX))) (KE.loose dG)) (eT (KE.loose (uS (Eh rfl hu) B.min (fX (eC 3) eX))) (KE.loose dG)) jN) rfl rfl rfl (aq.mpr rfl))
theorem jX {kk:Nat}(Rc:jV->UF)(GW:2<=kk)(F:FM K mg "partner_offers" (top 13))(B:nS mg)(d5:fS P w K mg base cl)(eK:d4 P w K mg base kk "pairing_price" ["heights", "told", "known"] (FJ Rc)):d4 P w K mg base (kk+1) "partner_offers" ["heights", "told", "known"] (FJ (fH Rc)) :=
 O6 (C:=XC λ_=>0) (λY=>ic Y Rc) Vu F λsc f fj A outer s H E Y a n0 S hk hS has hr hu =>
 (dS (gN 3 sc.nd (eT (eC 1) (KE.loose dG)))
 (dS (BS 4 sc.nd (kf dE))
 (dS (lg PassesOwn.never rfl (Au (DN (eC 1) (nI dG) nH)) (pF 5 sc.nd)
 (dS (gN 6 sc.nd (p8 2 eK (hr.mono (!1)) (gu 0) (gF d5 (hr.mono (!1)) (dN (gu 1) (dN (fQ (dN (gu 3) (dN (gu 5) dE))) dE)))))
 (dM (mP (KW.kb (w_and (ft Ap (KE.loose (eT (KE.loose (eT (eC 0) (eC 3))) (eC 5))) (KE.loose jN)) (yJ (ft Ap (eC 6) (KE.loose jN))))) (dM (ow 4 PySem.F.plainAttrs_list PySem.F.slot_list_append PySem.F.type_list_append (lh) (dN (fQ (dN (k9 kE (KE.loose (eT (KE.loose (eT (eC 0) (eC 3))) (eC 5))) (eC 6)) (dN (gu 5) dE))) dE))) fR))))
 (dM (uW 4)))))
theorem jY (F:FM K mg "pairing_price" (top 12))(F2:FM K mg "partner_offers" (top 13))(B:nS mg)(d5:fS P w K mg base cl):∀d:Nat,d4 P w K mg base (2+2 * d) "pairing_price" ["heights", "told", "known"] (FJ (fI d))
 | 0=>O7 F
 | d+1=>pJ (kk:=2+2 * d+1) _ (!1) F B d5 (jX (kk:=2+2 * d) _ (!1) F2 B d5 (jY F F2 B d5 d))
theorem pK (F:FM K mg "pairing_price" (top 12))(F2:FM K mg "partner_offers" (top 13))(B:nS mg)(d5:fS P w K mg base cl):gA P w K mg base  := jY F F2 B d5 5
theorem oN (F:FM K mg "partner_offers" (top 13))(B:nS mg)(d5:fS P w K mg base cl)(eK:gA P w K mg base ):ij P w K mg base  := jX _ (!2) F B d5 eK
theorem sG (F:FM K mg "least_pairs" (top 14))(B:nS mg)(d5:fS P w K mg base cl)(fK:ij P w K mg base )(eK:gA P w K mg base )(jF:jC P w K mg base cl) :
  jD P w K mg base cl :=
 kG jA Vv F λsc f fj A outer s H E n0 S has hr hu =>
 (dS (gN 2 sc.nd (gF jF (RM hr) (dN (gu 0) dE)))
 (B4 (i:=3) (sv hu) sc.nd (Or.inl rfl) (fQ dE) dG λY a1 S1 H1 MD WV Qd =>
 (dS (mP (ft DH (KE.loose (p8 3 eK (RM hr) (gu 2) (gu 1))) (KE.loose jN)) (dM (fT jN)) fR)
 (dS (BS 4 sc.nd (kf dE))
 (dS (gN 5 sc.nd (gu 1))
 (dS (Av PassesOwn.never (ft (DI hu) (eC 5) (KE.loose (fQ dE)))
 (dS (gN 6 sc.nd (fQ (dN (eT (eC 5) (KE.loose dG)) (dN (eT (KE.loose (uS (Eh rfl hu) B.min (fX (KE.loose (p8 3 fK (RM hr) (gu 2) (gu 5))) eX))) (KE.loose dG)) dE))))
 (dS (ow 4 PySem.F.plainAttrs_list PySem.F.slot_list_append PySem.F.type_list_append (lh) (dN (gu 6) dE))
 (dM (gN 5 sc.nd (gF d5 (RM hr) (dN (gu 5) (dN (gu 6) dE))))))))
 (dM (fT (uT kg B.tuple (fX (eC 4) eX))))))))))
end
section
variable {P:aV}{w:World}{K:W.Frag}{mg:Str->Option ah}{base:Heap}{f:Addr}{fd:bT}{cl:Str->Addr}{Y:yS}
theorem xF (F:FM K mg "_law_price" (top 18))(B:nS mg)(dR:gH P w K mg base Y) :
  lD P w K mg base Y :=
 tq (C:=XC λ_=>0) lx Vw F λsc f fj A outer s H E fa sa n0 S hf hS has hr hu =>
 (dS (gN 2 sc.nd (eT (KE.loose (KN.data (kf (dN dG (dN dG (dN dG (dN dG (dN dG (dN dG (dN (wF dG) (dN (wF dG) (dN (wF dG) (dN dG (dN (wF dG) (dN dG dE))))))))))))))) (KE.loose (fw 0 dR (RM hr) (dN dG dE) (hfd:=(by decide:0∈[0]))))))
 (dM (fT (BJ (Am (gu 1)) (uS Ov B.abs (fX (eC 2) eX)) (gu 2)))))
theorem B8 (F:FM K mg "_law_web" (top 19))(B:nS mg)(dR:gH P w K mg base Y)(lJ:lD P w K mg base Y) :
  oK P w K mg base Y :=
 tq (C:=XC λ_=>0) oI Vx F λsc f fj A outer s H E fa sa n0 S hf hS has hr hu =>
 (dS (gN 4 sc.nd (k9 kE (KE.loose dG) (KE.loose (fw 0 dR (RM hr) (dN (gu 1) dE) (hfd:=(by decide:0∈[0]))))))
 (dS (BS 5 sc.nd (kf dE))
 (dS (lg PassesOwn.never rfl (uV B.range (k9 IJ (KE.loose (fw 0 dR (RM hr) (dN (k9 kE (eC 2) (KE.loose dG)) dE) (hfd:=(by decide:0∈[0])))) (KE.loose (uT IM B.int (fX (KE.loose (wA GY (eC 4) (KE.loose dG))) eX))))) (pF 6 sc.nd)
 (dS (gN 7 sc.nd (fw 0 dR (RM hr) (dN (gu 4) dE) (hfd:=(by decide:0∈[0]))))
 (dS (gN 8 sc.nd (k9 Ot (KE.loose (k9 kE (KE.loose (k9 kE (eC 7) (KE.loose dG))) (KE.loose (fw 0 dR (RM hr) (dN (k9 IG (eC 4) (KE.loose dG)) dE) (hfd:=(by decide:0∈[0])))))) (eC 4)))
 (dS (ow 5 PySem.F.plainAttrs_list PySem.F.slot_list_append PySem.F.type_list_append (lh) (dN (fQ (dN (uS (Li rfl) B.min (fX (eC 7) (fX (eC 8) eX))) (dN (uS (Lj rfl) B.max (fX (eC 7) (fX (eC 8) eX))) (dN (fw 0 lJ (RM hr) (dN (gu 3) dE) (hfd:=(by decide:0∈[0]))) dE)))) dE))
 (dM (mP (KW.kb (w_and (ft (yM hu) (KE.loose (fw 0 dR (RM hr) (dN dG dE) (hfd:=(by decide:0∈[0])))) (KE.loose dG)) (yJ (ft DG (KE.loose (uS Aq B.len (fX (eC 5) eX))) (eC 2))))) (dM (ow 5 PySem.F.plainAttrs_list PySem.F.slot_list_append PySem.F.type_list_append (lh) (dN (eT (eC 5) (KE.loose (wF dG))) dE))) fR))))))
 (dM (fT (fQ (dN (gu 4) (dN (uT kg B.tuple (fX (KE.loose (DN (eC 5) nH (nI (gu 2)))) eX)) dE))))))))
theorem rB (F:FM K mg "_law_by_turns" (top 20))(B:nS mg) :
  gV P w K mg base cl :=
 kG i9 Si F λsc f fj A outer s H E n0 S has hr hu =>
 (dS (gN 2 sc.nd (k9 kE (KE.loose (KN.data (ou [] (N:=T1) (mp:=[none,some 1]) rfl (IS (eC 0)) rfl (co Si (dB (top 20))) (λ_ _ _ _ _=>⟨(pF 0 (nd T1)),(uX (ft (IK hu) (eC 0) (eC 1))),(gu 0)⟩) (hfd:=P0)))) (KE.loose (KN.data (ou [] (N:=T2) (mp:=[none,some 0]) rfl (IS (eC 1)) rfl (co Si (dB (top 20))) (λ_ _ _ _ _=>⟨(pF 0 (nd T2)),(uX (ft (IK hu) (eC 0) (eC 1))),(gu 0)⟩) (hfd:=P0))))))
 (dM (fT (uT kg B.tuple (fX (KE.loose (KN.data (AE B.sorted (eC 2)))) eX)))))
theorem zC (F:FM K mg "_law_odds" (top 21))(B:nS mg)(fL:gV P w K mg base cl) :
  m7 P w K mg base cl :=
 kG m5 Vy F λsc f fj A outer s H E n0 S has hr hu =>
 (dS (gN 2 sc.nd (fQ dE))
 (dS (lg PassesOwn.never rfl (IU 1) (pF 3 sc.nd)
 (dM (gN 2 sc.nd (gF fL (RM hr) (dN (gu 2) (dN (DN (KE.loose (eT (KE.loose (eT (eC 0) (KE.loose dG))) (eC 3))) nH (nI dG)) dE))))))
 (dM (fT (gu 2)))))
end
section
variable {P:aV}{w:World}{K:W.Frag}{mg:Str->Option ah}{base:Heap}{f:Addr}{fd:bT}{cl:Str->Addr}{Y:yS}
theorem sH (F:FM K mg "_law_any_set" (top 22))(B:nS mg)(dR:gH P w K mg base Y) :
  jE P w K mg base Y :=
 tq (C:=XC λ_=>0) jB Pb F λsc f fj A outer s H E fa sa n0 S hf hS has hr hu =>
 (dM (fT (uT kg B.tuple (fX (KE.loose (KN.data (ou [1] (N:=T3) (mp:=[none,some 0]) rfl (pV B.range (uS Aq B.len (fX (KE.loose (eT (eC 1) (KE.loose dG))) eX))) rfl (co Pb (dB (top 22))) (λ_ _ _ _ _=>⟨(pF 0 (nd T3)),(uX (ft (yM hu) (KE.loose (fw 1 dR (RM hr) (dN dG dE) (hfd:=(by decide:1∈[1])))) (KE.loose dG))),(gu 0)⟩) (hfd:=(TH (i:=0) rfl))))) eX))))
theorem rC (F:FM K mg "_law_any_side" (top 23))(B:nS mg)(dR:gH P w K mg base Y) :
  gW P w K mg base Y :=
 tq (C:=XC λ_=>0) ja Pb F λsc f fj A outer s H E fa sa n0 S hf hS has hr hu =>
 (dM (fT (uT kg B.tuple (fX (KE.loose (KN.data (ou [1] (N:=T4) (mp:=[none,some 0]) rfl (pV B.range (eT (eC 1) (KE.loose dG))) rfl (co Pb (dB (top 23))) (λ_ _ _ _ _=>⟨(pF 0 (nd T4)),(uX (ft (yM hu) (KE.loose (fw 1 dR (RM hr) (dN dG dE) (hfd:=(by decide:1∈[1])))) (KE.loose dG))),(gu 0)⟩) (hfd:=(TH (i:=0) rfl))))) eX))))
theorem zD (F:FM K mg "_law_told" (top 24))(B:nS mg)(fM:gW P w K mg base Y)(dR:gH P w K mg base Y)(ng:m7 P w K mg base cl)(jG:jE P w K mg base Y) :
  m8 P w K mg base Y :=
 tq (C:=XC λ_=>0) m6 Pb F λsc f fj A outer s H E fa sa n0 S hf hS has hr hu =>
 (dS (mP (ft GY (KE.loose (fw 0 dR (RM hr) (dN dG dE) (hfd:=(by decide:0∈[0])))) (KE.loose dG)) (dM (fT (gF ng (RM hr) (dN (gu 1) (dN (fw 0 jG (RM hr) (dN (gu 1) dE) (hfd:=(by decide:0∈[0]))) dE))))) fR)
 (dM (fT (fw 0 fM (RM hr) (dN (gu 1) dE) (hfd:=(by decide:0∈[0]))))))
theorem xG (F:FM K mg "_law_least" (top 25))(B:nS mg)(fL:gV P w K mg base cl) :
  lE P w K mg base cl :=
 kG ly Vz F λsc f fj A outer s H E n0 S has hr hu =>
 (dS (EO (i:=1) (sv hu) sc.nd (Or.inl rfl) (fQ dE) (fQ (dN dG (dN (fQ dE) dE))) (hfd:=(nf 1 [])))
 (dS (lg PassesOwn.never rfl (DS B.enumerate (eT (eC 0) (KE.loose dG))) (Ox (n':=2) rfl (qF (pF 2 sc.nd) (qF (pF 3 sc.nd) qE)) (OT [2,3]) rfl)
 (dS (HE (i:=4) 1 B.dict sc.nd (Or.inl rfl) (hfd:=(nf 4 [])))
 (dS (LW 1 PassesOwn.never rfl (pF 5 sc.nd)
 (dS (gN 6 sc.nd (gF fL (RM hr) (dN (gu 5) (dN (DN (eC 3) nH (nI dG)) dE))))
 (dS (gN 7 sc.nd (fQ (dN (k9 kE (KE.loose (eT (KE.loose (ER 1 (sv hu) (eC 5))) (KE.loose dG))) (KE.loose (eT (eC 3) (KE.loose dG)))) (dN (k9 kE (KE.loose (eT (KE.loose (ER 1 (sv hu) (eC 5))) (KE.loose dG))) (KE.loose (fQ (dN (gu 2) dE)))) dE))))
 (dM (mP (KW.kb (w_or (LN 4 (sv hu) (eC 6)) (wC (ft DG (KE.loose (eT (eC 7) (KE.loose dG))) (KE.loose (eT (KE.loose (LM 4 (sv hu) (eC 6))) (KE.loose dG))))))) (dM (ED 4 (sv hu) (eC 6) (gu 7))) fR)))))
 (dM (HF (i:=1) 4 sc.nd (Or.inl rfl) (!2) (hfd:=(nf 1 [])))))))
 (dM (uW 1))))
end
section
variable {P:aV}{w:World}{K:W.Frag}{mg:Str->Option ah}{base:Heap}{f:Addr}{fd:bT}{cl:Str->Addr}{Y:yS}
theorem xH (F:FM K mg "_law_sizes" (top 26))(B:nS mg)(dR:gH P w K mg base Y) :
  lF P w K mg base Y :=
 tq (C:=XC λ_=>0) lz VA F λsc f fj A outer s H E fa sa n0 S hf hS has hr hu =>
 (dS (gN 2 sc.nd (fw 0 dR (RM hr) (dN dG dE) (hfd:=(by decide:0∈[0]))))
 (dS (mP (KW.kb (w_and (ft (yM hu) (eC 2) (KE.loose dG)) (yJ (ft (yM hu) (eC 1) (KE.loose dG))))) (dM (fT (fQ (dN dG (dN dG dE))))) fR)
 (dM (fT (BJ (ft DG (eC 2) (KE.loose dG)) (fQ (dN dG (dN dG dE))) (fQ (dN dG (dN dG dE))))))))
theorem B9 (F:FM K mg "_law_far" (top 27))(B:nS mg) :
  oM P w K mg base cl :=
 kG oJ VB F λsc f fj A outer s H E n0 S has hr hu =>
 (dS (BS 2 sc.nd (OG (KE.loose (KN.data (kf (dN jN dE)))) (KE.loose (eT (eC 0) (KE.loose dG)))))
 (dS (DX 2 (gu 1) dG)
 (dS (lg PassesOwn.never rfl (uV B.range (eT (eC 0) (KE.loose dG))) (pF 3 sc.nd)
 (dM (lg PassesOwn.never rfl (Au (eT (eC 0) (KE.loose dG))) (Ox (n':=3) rfl (qF (pF 4 sc.nd) (qF (pF 5 sc.nd) (qF (pF 6 sc.nd) qE))) (OT [4,5,6]) rfl)
 (dM (lg PassesOwn.never rfl (Au (KN.data (kf (dN (fQ (dN (gu 4) (dN (gu 5) dE))) (dN (fQ (dN (gu 5) (dN (gu 4) dE))) dE))))) (Ox (n':=2) rfl (qF (pF 7 sc.nd) (qF (pF 8 sc.nd) qE)) (OT [7,8]) rfl)
 (dM (mP (ft Ap (KE.loose (eT (eC 2) (eC 7))) (KE.loose jN)) (dS (gN 9 sc.nd (k9 kE (KE.loose (eT (eC 2) (eC 7))) (eC 6)))
 (dM (mP (KW.kb (w_or (ft DH (KE.loose (eT (eC 2) (eC 8))) (KE.loose jN)) (wC (ft DG (eC 9) (KE.loose (eT (eC 2) (eC 8))))))) (dM (DX 2 (gu 8) (gu 9))) fR))) fR)))))))
 (dM (uW 2)))))
theorem xI (F:FM K mg "_law_right" (top 28))(B:nS mg)(oO:oM P w K mg base cl)(jH:jD P w K mg base cl) :
  lG P w K mg base cl :=
 kG lA VC F λsc f fj A outer s H E n0 S has hr hu =>
 (dS (gN 3 sc.nd (uZ hr B.repr (fQ (dN (gu 0) (dN (gu 1) dE)))))
 (dS (gN 4 sc.nd (gF jH (RM hr) (dN (gu 0) (dN (gu 1) dE))))
 (dS (mP (KW.kb (w_or (ft OL (KE.loose (uZ hr B.repr (fQ (dN (gu 0) (dN (gu 1) dE))))) (eC 3)) (wC (ft (DI hu) (KE.loose (wA DH (eC 4) (KE.loose jN))) (KE.loose (LP (sv hu) (eC 1) (eC 2))))))) (dM (fT wz)) fR)
 (dS (mP (ft DH (eC 4) (KE.loose jN)) (dM (fT wz)) fR)
 (dS (mP (KW.kb (w_or (An (Am (IV B.isinstance B.tuple (eC 4)))) (wC (ft (DI hu) (KE.loose (KN.data (DZ B.list (eC 4)))) (KE.loose (KN.data (EC B.sorted hu (eC 4)))))))) (dM (fT wz)) fR)
 (dS (BS 5 sc.nd (kf dE))
 (dS (gN 6 sc.nd dG)
 (dS (lg PassesOwn.never rfl (IU 4) (pF 7 sc.nd)
 (dS (mP (KW.kb (w_or (An (Am (IV B.isinstance B.tuple (eC 7)))) (w_or (ft (DI hu) (KE.loose (uS Aq B.len (fX (eC 7) eX))) (KE.loose dG)) (wC (An (ft DG (KE.loose (eT (eC 7) (KE.loose dG))) (KE.loose (eT (eC 7) (KE.loose dG))))))))) (dM (fT wz)) fR)
 (dS (gN 8 sc.nd (eT (KE.loose (gF oO (RM hr) (dN (gu 0) (dN (eT (eC 7) (KE.loose dG)) dE)))) (KE.loose (eT (eC 7) (KE.loose dG)))))
 (dS (mP (ft DH (eC 8) (KE.loose jN)) (dM (fT wz)) fR)
 (dS (gN 6 sc.nd (k9 kE (eC 6) (eC 8)))
 (dM (ow 5 PySem.F.plainAttrs_list PySem.F.slot_list_extend PySem.F.type_list_extend (DW) (dN (KN.data (DZ B.list (eC 7))) dE))))))))
 (dM (fT (Oq (wA OM (KE.loose (uZ hr B.repr (uT kg B.tuple (fX (KE.loose (KN.data (AE B.sorted (eC 5)))) eX)))) (KE.loose (uZ hr B.repr (gu 1)))) (k_one (wA (yM hu) (eC 6) (KE.loose (eT (KE.loose (vn (sv hu) (eC 2) (eC 1))) (KE.loose dG))))))))))))))))
end
section
variable {P:aV}{w:World}{K:W.Frag}{mg:Str->Option ah}{base:Heap}{f:Addr}{fd:bT}{cl:Str->Addr}{Y:yS}
theorem Pc (F:v7 K "law" "law" (top 29) f fd)(B:nS mg)(nh:d4 P w K mg base 1 "_law_feed" ["_law_script"] (pW Y K))(lK:lG P w K mg base cl)(fM:gW P w K mg base Y)(ni:m8 P w K mg base Y)(lL:lE P w K mg base cl)(oP:oK P w K mg base Y)(lM:lF P w K mg base Y)(VG:xA { nx:=λ_ _=>False,rt:=λd _=>d=.bool true } (List.replicate 9 none) 0) :
  kI P w K mg base ux 20 f fd ["_law_script"] (wX K):=by
 have sc:fg VD ["_law_script"] (dB (top 29)):=P6;refine RN (C:=XC cl) (Y:=Y) (k:=19) (u:=xA) F sc (!2) (λfj A outer s H E hr=>⟨gD (i:=1) sc.nd rfl (Or.inl rfl) (kY nh (RM hr) (gC (qv 0) eS)),λfa sa n0 S H1 hf hS has=>?_⟩) rfl VG;have hu:=hr.units;unfold xA;exact (dS (lg PassesOwn.never rfl (uV B.range dG) (pF 2 sc.nd)
 (dS (OB (fw 1 lM (RM hr) (dN (gu 2) dE) (hfd:=(by decide:1∈[1]))) (Ox (n':=2) rfl (qF (pF 3 sc.nd) (qF (pF 4 sc.nd) qE)) (OT [3,4]) rfl))
 (dS (gN 5 sc.nd (fw 1 oP (RM hr) (dN (gu 3) (dN (gu 4) (dN wz dE))) (hfd:=(by decide:1∈[1]))))
 (dS (gN 6 sc.nd (gF lL (RM hr) (dN (gu 5) dE)))
 (dS (gN 7 sc.nd (KN.data (kf (dN (fw 1 ni (RM hr) (dN (gu 5) dE) (hfd:=(by decide:1∈[1]))) (dN (Lr B.tuple B.range rfl (eT (eC 5) (KE.loose dG))) (dN (fw 1 fM (RM hr) (dN (gu 5) dE) (hfd:=(by decide:1∈[1]))) (dN (fQ dE) dE)))))))
 (dM (lg PassesOwn.never rfl (Au (DN (eC 7) nH (nI (k9 IG (KE.loose dG) (KE.loose (k9 IJ (KE.loose dG) (KE.loose (uT IM B.int (fX (KE.loose (wA GY (KE.loose (eT (eC 5) (KE.loose dG))) (KE.loose dG))) eX))))))))) (pF 8 sc.nd)
 (dM (mP (An (Am (gF lK (RM hr) (dN (gu 5) (dN (gu 8) (dN (gu 6) dE)))))) (dM (fT wz)) fR)))))))))
 (dM (fT wz)))
end
end Odj
namespace Odj
open PySem L2
local macro_rules | `(tactic| simp! [$ls,*]) => do let ex <- ("mQ iH envOf List.length_cons List.length_nil List.map_cons List.map_nil List.cons_append List.nil_append List.append_nil List.replicate_succ List.replicate_zero Nat.reduceSub Nat.reduceAdd true_and and_true dC eU fD fu jP eB mO G4 dI dr uC dA du eW uL IY dO d6 d3 BI wB su Ao DC My oa DY dP qJ jl o3 iQ DQ Cq Oy MB mz RA Ll DU Cp DL DM Lu wV IW AD RO mB gj yO wL qH dv Oo mN fC w4 List.getElem?_cons_zero List.getElem?_cons_succ List.set_cons_zero List.set_cons_succ Option.join_some Option.join_none if_true if_false Bool.not_true Bool.not_false Bool.true_eq_false Bool.false_eq_true reduceIte".splitOn " ").toArray.mapM λs => `(Lean.Parser.Tactic.simpLemma| $(Lean.mkIdent s.toName):ident);`(tactic| simp only[$ls,*, $ex,*])
noncomputable abbrev eu:=Int × Int × Int
noncomputable def e8 (t:eu):af:=.tuple [.int t.1,.int t.2.1,.int t.2.2]
noncomputable def eV (many:Int)(ts:List eu):af:=.tuple [.int many,.tuple (ts.map e8)]
noncomputable def dD (ns:List Int):af:=.tuple (ns.map .int)
theorem A1 (i j:Int):BK (.int i) (.int j)=some (.int (i - j)):=by simp only[BK]
theorem ph (i j:Int):gZ (.int i) (.int j)=some (.int (i+j)):=by simp only[gZ]
section
variable {n:Int}{Q:af->Int->Prop}{X:XQ}
noncomputable def lZ (t:eu)(x:Int):Int:=if t.1=x then t.2.1 else t.1
theorem vq (t:eu)(x:Int):jq [e8 t,.int x] n Q X=Q (.int (lZ t x)) n:=by
 simp! [jq,lr,e8,gS,kF,lX,lZ];by_cases h:t.1=x<;>simp[h]
theorem vt {ts:List eu}{i:Int}(h0:0<=i)(h1:i<(ts.length:Int)):∃t,ts[i.toNat]? = some t/\t∈ts/\oX (ts.map e8) i=some (e8 t):=by
 have hl:i.toNat<ts.length:=by omega
 refine⟨ts[i.toNat],by simp[hl],bY _,?_⟩;rw[mS h0 (by simpa using h1),aE];simp[hl]
end
theorem E4 (k:List Int):eG [] k=none:=rfl
theorem ik (p:List Int × af)(kvs:fW)(k:List Int):eG (p::kvs) k=if p.1=k then some p.2 else eG kvs k:=by
 unfold eG;rw[bM];by_cases h:p.1=k
 .rw[decide_eq_true h,if_pos h];rfl
 .rw[decide_eq_false h,if_neg h]
theorem tQ (k j:List Int)(d:af):∀kvs:fW,(kvs.any λp=>decide (p.1=k))=false->eG (kvs++[(k,d)]) j=if j=k then some d else eG kvs j
 | [],_=>by
  rw[aW,ik,E4];by_cases h:j=k
  .rw[if_pos h.symm,if_pos h]
  .rw[if_neg (λz=>h z.symm),if_neg h]
 | p::kvs,ha=>by
  rw[ce,Bool.or_eq_false_iff] at ha;have hp:¬ p.1=k:=of_decide_eq_false ha.1;rw[be,ik,tQ k j d kvs ha.2,ik];by_cases h:p.1=j
  .rw[if_pos h,if_pos h,if_neg (λz=>hp (h.trans z))]
  .rw[if_neg h,if_neg h]
theorem xJ (k j:List Int)(d:af):∀kvs:fW,eG (kvs.map λp=>if p.1=k then (p.1,d) else p) j=(eG kvs j).map λx=>if j=k then d else x
 | []=>rfl
 | p::kvs=>by
  rw[ak,ik,ik,xJ k j d kvs];by_cases h:p.1=k
  .rw[if_pos h]
   by_cases h2:p.1=j
   .rw[if_pos h2,if_pos h2,bS,if_pos (h2.symm.trans h)]
   .rw[if_neg h2,if_neg h2]
  .rw[if_neg h]
   by_cases h2:p.1=j
   .rw[if_pos h2,if_pos h2,bS,if_neg (λz=>h (h2.trans z))]
   .rw[if_neg h2,if_neg h2]
theorem rD (k:List Int):∀kvs:fW,(kvs.any λp=>decide (p.1=k))=(eG kvs k).isSome
 | []=>rfl
 | p::kvs=>by
  rw[ce,ik,rD k kvs];by_cases h:p.1=k
  .rw[if_pos h,decide_eq_true h];rfl
  .rw[if_neg h,decide_eq_false h];rfl
theorem lN (kvs:fW)(k j:List Int)(d:af):eG (gT kvs k d) j=if j=k then some d else eG kvs j:=by
 unfold gT;split
 .rename_i h
  rw[rD] at h;rw[xJ];by_cases hj:j=k
  .subst hj
   obtain⟨x,hx⟩:=bO.mp h;rw[hx,if_pos rfl,bS,if_pos rfl]
  .rw[if_neg hj]
   cases eG kvs j with
   | none=>rfl
   | some x=>rw[bS,if_neg hj]
 .rename_i h
  exact tQ k j d kvs (Bool.eq_false_iff.mpr h)
noncomputable def iP (kvs:fW):List (List Int):=kvs.map (·.1)
theorem xK (kvs:fW)(k:List Int)(d:af):iP (gT kvs k d)=if k∈iP kvs then iP kvs else iP kvs++[k]:=by
 have ha:((kvs.any λp=>decide (p.1=k))=true)↔k∈iP kvs:=by
  rw[cx,iP,aQ];constructor
  .rintro⟨p,hp,h⟩;exact⟨p,hp,of_decide_eq_true h⟩
  .rintro⟨p,hp,h⟩;exact⟨p,hp,decide_eq_true h⟩
 unfold gT;by_cases h:(kvs.any λp=>decide (p.1=k))=true
 .rw[if_pos h,if_pos (ha.mp h),iP,iP,bA]
  refine ca λp _=>?_;show (if p.1=k then (p.1,d) else p).1=p.1;split<;>rfl
 .rw[if_neg h,if_neg (λz=>h (ha.mpr z)),iP,iP,aO]
  rfl
noncomputable def nV (ts:List eu)(k:Int):List Int:=[(ts.getD k.toNat (0,0,0)).1,(ts.getD k.toNat (0,0,0)).2.1]
noncomputable def dQ (ts:List eu)(ks:List Int):List Int:=(ks.map (nV ts)).flatten
noncomputable abbrev gX (ts:List eu)(ks:List Int):Prop:=∀k∈ks,0<=k/\k<(ts.length:Int)
theorem kx (ts:List eu)(k:Int)(ks:List Int):dQ ts (k::ks)=nV ts k++dQ ts ks:=rfl
theorem gY (ts:List eu)(a b:List Int):dQ ts (a++b)=dQ ts a++dQ ts b:=by
 unfold dQ;rw[aO,List.flatten_append]
theorem jd {ts:List eu}{a b:List Int}(h:a.Perm b):(dQ ts a).Perm (dQ ts b):=(h.map _).flatten
theorem rE:∀{l r:List Int},l.Nodup->r.Nodup->(∀k∈r,k∈l)->l.Perm (r++l.filter (λk=>!decide (k∈r))):=λ{l r} hl hr h=>by
 refine (bQ hl ?_).mpr λk=>?_
 .refine b9.mpr ⟨hr,hl.filter _,λa ha b hb e=>?_⟩
  subst e;have:=(aT.mp hb).2;simp[ha] at this
 .rw[aK,aT]
  by_cases hk:k∈r
  .simp[hk,h k hk]
  .simp[hk]
theorem oQ {ts:List eu}{l r:List Int}(hl:l.Nodup)(hr:r.Nodup)(h:∀k∈r,k∈l)(v:Int):(dQ ts l).count v=(dQ ts r).count v+(dQ ts (l.filter λk=>!decide (k∈r))).count v:=by
 rw[(jd (rE hl hr h)).count_eq,gY,bV]
noncomputable def sI (ts:List eu)(k:Int):Int:=(ts.getD k.toNat (0,0,0)).2.2
noncomputable def eL (ts:List eu)(ks:List Int):Int:=(ks.map (sI ts)).sum
theorem E5 {a b:List Int}(h:a.Perm b):a.sum=b.sum:=by
 induction h with
 | nil=>rfl
 | cons x _ ih=>rw[List.sum_cons,List.sum_cons,ih]
 | swap x y l=>simp only[List.sum_cons];omega
 | trans _ _ h1 h2=>exact h1.trans h2
theorem l0 {ts:List eu}{a b:List Int}(h:a.Perm b):eL ts a=eL ts b:=E5 (h.map _)
theorem jv (ts:List eu)(a b:List Int):eL ts (a++b)=eL ts a+eL ts b:=by
 unfold eL;rw[aO,List.sum_append]
theorem rF (ts:List eu)(p:Int->Bool)(a:List Int):eL ts a=eL ts (a.filter p)+eL ts (a.filter λk=>!p k):=by
 induction a with
 | nil=>rfl
 | cons k a ih =>
  have e:∀l,eL ts (k::l)=sI ts k+eL ts l:=λl=>rfl
  cases hp:p k with
  | true=>rw[List.filter_cons_of_pos hp,List.filter_cons_of_neg (by simp[hp]),e,e,ih];omega
  | false=>rw[List.filter_cons_of_neg (by simp[hp]),List.filter_cons_of_pos (by simp[hp]),e,e,ih];omega
theorem nW {l:List Int}(h:l.Nodup)(k:Int):l.count k=if k∈l then 1 else 0:=List.Nodup.count h
theorem fN {row:List Int}{v:Int}:v∈d7 row↔row.count v % 2=1:=by
 unfold d7;rw[kj,aT];constructor
 .intro z
  exact of_decide_eq_true z.2
 .intro z
  exact⟨cj.mp (!1),decide_eq_true z⟩
theorem iR (row:List Int):(d7 row).Pairwise (· < ·):=lW _
theorem lO {l:List Int}(h:l.Pairwise (· < ·)):l.Nodup:=h.imp λh z=>by omega
theorem iS (row:List Int):(d7 row).Nodup:=lO (iR row)
theorem tR {a b:List Int}(ha:a.Nodup)(hb:b.Nodup){k:Int}:k∈d7 (a++b)↔¬ (k∈a↔k∈b):=by
 rw[fN,bV,nW ha,nW hb];by_cases h1:k∈a<;>by_cases h2:k∈b<;>simp[h1,h2]
theorem nj {a s:List Int}(ha:a.Nodup)(hs:s.Nodup):(d7 (a++s)).Perm ((a.filter λk=>!decide (k∈s))++(s.filter λk=>!decide (k∈a))):=by
 refine (bQ (iS _) (b9.mpr ⟨ha.filter _,hs.filter _,λx hx y hy e=>?_⟩)).mpr λk=>?_
 .subst e
  have h1:=(aT.mp hx).1;have h2:=(aT.mp hy).2;simp[h1] at h2
 .rw[tR ha hs,aK,aT,aT]
  by_cases h1:k∈a<;>by_cases h2:k∈s<;>simp[h1,h2]
theorem Ca {a s:List Int}(ha:a.Nodup)(hs:s.Nodup):(a.filter λk=>decide (k∈s)).Perm (s.filter λk=>decide (k∈a)):=by
 refine (bQ (ha.filter _) (hs.filter _)).mpr λk=>?_;rw[aT,aT];simp[and_comm]
noncomputable abbrev Hs:=List (Option Int)
noncomputable def kN (hs:Hs)(v:Int):Option Int:=hs.getD v.toNat none
noncomputable def jZ (hs:Hs)(one other p:Int):Hs:=match kN hs one with
 | none=>hs
 | some c=>match kN hs other with
  | none=>hs.set other.toNat (some (c+p))
  | some d=>if c+p<d then hs.set other.toNat (some (c+p)) else hs
noncomputable def ky (hs:Hs)(t:eu):Hs:=jZ (jZ hs t.1 t.2.1 t.2.2) t.2.1 t.1 t.2.2
noncomputable def pj (ts:List eu)(hs:Hs):Hs:=ts.foldl ky hs
noncomputable def iM (ts:List eu):Nat->Hs->Hs
 | 0,hs=>hs
 | j+1,hs=>iM ts j (pj ts hs)
noncomputable def pL (many:Nat)(place:Int):Hs:=(List.replicate many none).set place.toNat (some 0)
noncomputable def fA (many:Nat)(ts:List eu)(place:Int):Hs:=iM ts many (pL many place)
theorem gm (hs:Hs)(one other p:Int):(jZ hs one other p).length=hs.length:=by
 unfold jZ;split
 .rfl
 .split
  .simp
  .split<;>simp
theorem kz (hs:Hs)(t:eu):(ky hs t).length=hs.length:=by unfold ky;rw[gm,gm]
theorem l3 (ts:List eu):∀hs:Hs,(pj ts hs).length=hs.length:=by
 unfold pj
 induction ts with
 | nil=>intro hs;rfl
 | cons t ts ih=>intro hs;rw[cZ,ih,kz]
theorem nq (ts:List eu):∀(j:Nat) (hs:Hs),(iM ts j hs).length=hs.length
 | 0,_=>rfl
 | j+1,hs=>by rw[iM,nq ts j,l3]
theorem jw {hs:Hs}{u v:Int}{x:Option Int}(u0:0<=u)(v0:0<=v)(hv:v<(hs.length:Int)):kN (hs.set v.toNat x) u=if u=v then x else kN hs u:=by
 unfold kN;rw[az,List.getElem?_set];by_cases e:u=v
 .subst e
  rw[if_pos rfl,if_pos (!1),if_pos rfl];rfl
 .rw[if_neg (!1),if_neg e,az]
noncomputable def Cv (m:Int)(hs n9:Hs):Prop:=∀v c,0<=v->v<m->kN n9 v=some c->∃c',kN hs v=some c'/\c'<=c
theorem Cv.refl (m:Int)(hs:Hs):Cv m hs hs:=λv c _ _ h=>⟨c,h,bz _⟩
theorem Cv.trans {m:Int}{a b c:Hs}(h1:Cv m a b)(h2:Cv m b c):Cv m a c:=λv x v0 v1 h=>by
 obtain⟨y,hy,AK⟩:=h2 v x v0 v1 h;obtain⟨z,hz,WW⟩:=h1 v y v0 v1 hy;exact⟨z,hz,!1⟩
section
variable {m:Int}{hs:Hs}(hl:(hs.length:Int)=m)
include hl
theorem l4 {one other p:Int}(o0:0<=other)(o1:other<m):Cv m (jZ hs one other p) hs:=by
 intro v c v0 v1 h;unfold jZ;split
 .exact⟨c,h,bz _⟩
 .split
  .rename_i hn
   rw[jw v0 o0 (!1)];by_cases e:v=other
   .subst e;rw[hn] at h;cases h
   .rw[if_neg e];exact⟨c,h,bz _⟩
  .rename_i d hd
   split
   .rw[jw v0 o0 (!1)]
    by_cases e:v=other
    .subst e
     rw[hd] at h;cases h;rw[if_pos rfl];exact⟨_,rfl,!1⟩
    .rw[if_neg e];exact⟨c,h,bz _⟩
   .exact⟨c,h,bz _⟩
theorem tS {one other p c:Int}(o0:0<=other)(o1:other<m)(h:kN hs one=some c):∃c',kN (jZ hs one other p) other=some c'/\c'<=c+p:=by
 unfold jZ;rw[h];dsimp only;split
 .rw[jw o0 o0 (!1),if_pos rfl]
  exact⟨_,rfl,bz _⟩
 .rename_i d hd
  split
  .rw[jw o0 o0 (!1),if_pos rfl]
   exact⟨_,rfl,bz _⟩
  .exact⟨d,hd,!1⟩
end
noncomputable abbrev iN (m:Int)(ts:List eu):Prop:=∀t∈ts,0<=t.1/\t.1<m/\0<=t.2.1/\t.2.1<m
theorem rG {m:Int}{hs:Hs}(hl:(hs.length:Int)=m){t:eu}(ht:0<=t.1/\t.1<m/\0<=t.2.1/\t.2.1<m):Cv m (ky hs t) hs:=by
 unfold ky;exact (l4 (by rw[gm];exact hl) ht.1 ht.2.1).trans (l4 hl ht.2.2.1 ht.2.2.2)
theorem oR {m:Int}:∀{ts:List eu} {hs:Hs},(hs.length:Int)=m->iN m ts->Cv m (pj ts hs) hs
 | [],hs,_,_=>Cv.refl m hs
 | t::ts,hs,hl,he=>by
  have h1:=rG hl (he t (ar ..));have h2:=oR (ts:=ts) (hs:=ky hs t) (by rw[kz];exact hl) λu hu=>he u (ai _ hu);exact h2.trans h1
theorem tU {m:Int}:∀{ts:List eu} {hs:Hs},(hs.length:Int)=m->iN m ts->∀t∈ts,∀u v c,(u=t.1/\v=t.2.1\/u=t.2.1/\v=t.1)->kN hs u=some c->∃c',kN (pj ts hs) v=some c'/\c'<=c+t.2.2
 | [],_,_,_,t,ht,_,_,_,_,_=>by cases ht
 | s::ts,hs,hl,he,t,ht,u,v,c,L5,hc=>by
  have n9:=he s (ar ..);have vZ:((ky hs s).length:Int)=m:=by rw[kz];exact hl
  have Sr:iN m ts:=λu hu=>he u (ai _ hu);have hb:=oR (ts:=ts) vZ Sr;rcases av.mp ht with rfl | ht
  .have FI:((jZ hs t.1 t.2.1 t.2.2).length:Int)=m:=by rw[gm];exact hl
   obtain⟨c1,h1,h2⟩:∃c1,kN (ky hs t) v=some c1/\c1<=c+t.2.2:=by
    rcases L5 with⟨rfl,rfl⟩ | ⟨rfl,rfl⟩
    .obtain⟨c1,h1,h2⟩:=tS hl (one:=t.1) (other:=t.2.1) (p:=t.2.2) n9.2.2.1 n9.2.2.2 hc
     obtain⟨c2,h3,h4⟩:=l4 FI (one:=t.2.1) (other:=t.1) (p:=t.2.2) n9.1 n9.2.1 _ _ n9.2.2.1 n9.2.2.2 h1;exact⟨c2,h3,!1⟩
    .obtain⟨c1,h1,h2⟩:=l4 hl (one:=t.1) (other:=t.2.1) (p:=t.2.2) n9.2.2.1 n9.2.2.2 _ _ n9.2.2.1 n9.2.2.2 hc
     obtain⟨c2,h3,h4⟩:=tS FI (one:=t.2.1) (other:=t.1) (p:=t.2.2) n9.1 n9.2.1 h1;exact⟨c2,h3,!1⟩
   have hv:0<=v/\v<m:=by rcases L5 with⟨_,rfl⟩ | ⟨_,rfl⟩<;>omega
   obtain⟨c3,h5,h6⟩:=hb v c1 hv.1 hv.2 h1;exact⟨c3,h5,!1⟩
  .have hu:0<=u/\u<m:=by have:=Sr t ht;rcases L5 with⟨rfl,_⟩ | ⟨rfl,_⟩<;>omega
   obtain⟨c1,h1,h2⟩:=rG hl n9 u c hu.1 hu.2 hc;obtain⟨c2,h3,h4⟩:=tU (ts:=ts) vZ Sr t ht u v c1 L5 h1;exact⟨c2,h3,!1⟩
inductive Wk (ts:List eu) (s:Int):Int->List Int->Int->Prop
 | nil:Wk ts s s [] 0
 | step {u:Int} {vs:List Int} {c:Int} (w:Wk ts s u vs c) (t:eu) (ht:t∈ts) (v:Int) (h:u=t.1/\v=t.2.1\/u=t.2.1/\v=t.1):Wk ts s v (u::vs) (c+t.2.2)
noncomputable abbrev Plain (ts:List eu):Prop:=∀t∈ts,0<=t.2.2
theorem Wk.ahead {ts:List eu}{s:Int}(hp:Plain ts):∀{u:Int} {vs:List Int} {c:Int},Wk ts s u vs c->∀x∈u::vs,∃Cb c2,Wk ts s x Cb c2/\(x::Cb) <:+ (u::vs)/\c2<=c
 | _,_,_,.nil,x,hx=>by
  rw[aq.mp hx];exact⟨[],0,.nil,List.suffix_refl _,bz _⟩
 | _,_,_,.step (u:=u) (vs:=vs) (c:=c) w t ht v h,x,hx=>by
  rcases av.mp hx with rfl | hx
  .exact⟨_,_,.step w t ht x h,List.suffix_refl _,bz _⟩
  .obtain⟨Cb,c2,w2,hs,hc⟩:=Wk.ahead hp w x hx
   have:=hp t ht;exact⟨Cb,c2,w2,hs.trans (List.suffix_cons v _),!1⟩
theorem Wk.short {ts:List eu}{s:Int}(hp:Plain ts):∀{u:Int} {vs:List Int} {c:Int},Wk ts s u vs c->∃Cb c2,Wk ts s u Cb c2/\(u::Cb).Nodup/\c2<=c
 | _,_,_,.nil=>⟨[],0,.nil,!4,bz _⟩
 | _,_,_,.step (u:=u) (vs:=vs) (c:=c) w t ht v h=>by
  obtain⟨Cb,c2,w2,hn,hc⟩:=Wk.short hp w;have h0:=hp t ht;by_cases hv:v∈u::Cb
  .obtain⟨VH,c3,w3,hs,WX⟩:=Wk.ahead hp w2 v hv
   exact⟨VH,c3,w3,hn.sublist hs.sublist,!1⟩
  .exact⟨u::Cb,c2+t.2.2,.step w2 t ht v h,aZ.mpr ⟨hv,hn⟩,!1⟩
theorem Wk.inR {m:Int}{ts:List eu}{s:Int}(he:iN m ts)(s0:0<=s)(s1:s<m):∀{u:Int} {vs:List Int} {c:Int},Wk ts s u vs c->∀x∈u::vs,0<=x/\x<m
 | _,_,_,.nil,x,hx=>by rw[aq.mp hx];exact⟨s0,s1⟩
 | _,_,_,.step w t ht v h,x,hx=>by
  rcases av.mp hx with rfl | hx
  .have:=he t ht
   rcases h with⟨_,rfl⟩ | ⟨_,rfl⟩<;>omega
  .exact Wk.inR he s0 s1 w x hx
noncomputable def Jl (m:Int)(ts:List eu)(s:Int)(hs:Hs):Prop:=∀v c,0<=v->v<m->kN hs v=some c->∃vs,Wk ts s v vs c
theorem tV {m:Int}{ts:List eu}{s:Int}{hs:Hs}(hl:(hs.length:Int)=m)(h:Jl m ts s hs){t:eu}(ht:t∈ts){one other:Int}(e:one=t.1/\other=t.2.1\/one=t.2.1/\other=t.1)(o0:0<=other)(o1:other<m)(u0:0<=one)(u1:one<m):Jl m ts s (jZ hs one other t.2.2):=by
 intro v c v0 v1 hc;unfold jZ at hc;split at hc
 .exact h v c v0 v1 hc
 .rename_i d hd
  obtain⟨vs,w⟩:=h one d u0 u1 hd;have hw:Wk ts s other (one::vs) (d+t.2.2):=.step w t ht other e;split at hc
  .rw[jw v0 o0 (!1)] at hc
   by_cases ev:v=other
   .rw[if_pos ev] at hc
    cases hc;rw[ev];exact⟨_,hw⟩
   .rw[if_neg ev] at hc;exact h v c v0 v1 hc
  .split at hc
   .rw[jw v0 o0 (!1)] at hc
    by_cases ev:v=other
    .rw[if_pos ev] at hc
     cases hc;rw[ev];exact⟨_,hw⟩
    .rw[if_neg ev] at hc;exact h v c v0 v1 hc
   .exact h v c v0 v1 hc
theorem tW {m:Int}{Ss:List eu}{s:Int}:∀{ts:List eu} {hs:Hs},(hs.length:Int)=m->iN m ts->(∀t∈ts,t∈Ss)->Jl m Ss s hs->Jl m Ss s (pj ts hs)
 | [],_,_,_,_,h=>h
 | t::ts,hs,hl,he,hi,h=>by
  have ht:=he t (ar ..);have hm:=hi t (ar ..);have h1:=tV hl h hm (.inl ⟨rfl,rfl⟩) ht.2.2.1 ht.2.2.2 ht.1 ht.2.1;have h2:=tV (by rw[gm];exact hl) h1 hm (.inr ⟨rfl,rfl⟩) ht.1 ht.2.1 ht.2.2.1 ht.2.2.2;exact tW (ts:=ts) (hs:=ky hs t) (by rw[kz];exact hl) (λu hu=>he u (ai _ hu)) (λu hu=>hi u (ai _ hu)) h2
theorem rH {m:Int}{ts:List eu}{s:Int}(he:iN m ts):∀(j:Nat) {hs:Hs},(hs.length:Int)=m->Jl m ts s hs->Jl m ts s (iM ts j hs)
 | 0,_,_,h=>h
 | j+1,hs,hl,h=>rH he j (by rw[l3];exact hl) (tW hl he (λ_ h=>h) h)
theorem rJ {m:Int}{ts:List eu}(he:iN m ts):∀(j:Nat) {hs:Hs},(hs.length:Int)=m->Cv m (iM ts j hs) hs
 | 0,hs,_=>Cv.refl m hs
 | j+1,hs,hl=>(rJ he j (by rw[l3];exact hl)).trans (oR hl he)
theorem pk (ts:List eu):∀(j:Nat) (hs:Hs),iM ts (j+1) hs=pj ts (iM ts j hs)
 | 0,_=>rfl
 | j+1,hs=>by rw[iM,pk ts j,iM]
theorem rK {m:Int}{ts:List eu}{s:Int}(he:iN m ts){hs:Hs}(hl:(hs.length:Int)=m)(s0:0<=s)(s1:s<m)(h0:kN hs s=some 0):∀{u:Int} {vs:List Int} {c:Int},Wk ts s u vs c->∀j,vs.length<=j->∃c',kN (iM ts j hs) u=some c'/\c'<=c
 | _,_,_,.nil,j,_=>rJ he j hl s 0 s0 s1 h0
 | _,_,_,.step w t ht v h,0,hj=>by simp at hj
 | _,_,_,.step w t ht v h,j+1,hj=>by
  rw[ao] at hj;obtain⟨c1,h1,h2⟩:=rK he hl s0 s1 h0 w j (!1);rw[pk];obtain⟨c2,h3,h4⟩:=tU (by rw[nq];exact hl) he t ht _ v c1 h h1;exact⟨c2,h3,!1⟩
theorem L6 {many:Nat}{s:Int}(s0:0<=s)(s1:s<many):kN (pL many s) s=some 0:=by
 unfold pL;rw[jw s0 s0 (by simpa using s1),if_pos rfl]
theorem HL {many:Nat}{ts:List eu}{s:Int}(s0:0<=s)(s1:s<many):Jl many ts s (pL many s):=λv c v0 v1 h=>by
 unfold pL at h;rw[jw v0 s0 (by simpa using s1)] at h;by_cases e:v=s
 .rw[if_pos e] at h
  cases h;rw[e];exact⟨[],.nil⟩
 .rw[if_neg e] at h
  unfold kN at h;rw[az,bX] at h;split at h<;>cases h
structure nX (many:Nat) (ts:List eu) (s:Int) (hs:Hs):Prop where
 len:hs.length=many
 VI:kN hs s=some 0
 fit:∀t∈ts,∀u v c,(u=t.1/\v=t.2.1\/u=t.2.1/\v=t.1)->kN hs u=some c->∃c',kN hs v=some c'/\c'<=c+t.2.2
 way:∀(v c:Int),0<=v->v<(many:Int)->kN hs v=some c->∃vs,Wk ts s v vs c/\(v::vs).Nodup
theorem zE {many:Nat}{ts:List eu}{s:Int}(he:iN many ts)(hp:Plain ts)(s0:0<=s)(s1:s<many):nX many ts s (fA many ts s):=by
 have hl:((pL many s).length:Int)=many:=by unfold pL;simp
 have hw:∀{u:Int} {vs:List Int} {c:Int},Wk ts s u vs c->∃c',kN (fA many ts s) u=some c'/\c'<=c:=λw=>by
  obtain⟨Cb,c2,w2,hn,hc⟩:=w.short hp;have hr:=w2.inR he s0 s1;have hlen:=gf hn (ns:=fc 0 many) λx hx=>gg.mpr (by have:=hr x hx;omega);rw[ao,fy] at hlen;obtain⟨c',h1,h2⟩:=rK he hl s0 s1 (L6 s0 s1) w2 many (!1);exact⟨c',h1,!1⟩
 have L7:Jl many ts s (fA many ts s):=rH he many hl (HL s0 s1)
 have Su:∀{u:Int} {vs:List Int} {c:Int},Wk ts s u vs c->0<=c:=λw=>by
  induction w with
  | nil=>exact bz _
  | step w t ht v h ih=>have:=hp t ht;omega
 refine⟨?_,?_,λt ht u v c L5 hc=>?_,λv c v0 v1 hc=>?_⟩
 .unfold fA
  rw[nq];unfold pL;simp
 .obtain⟨c,h1,h2⟩:=hw (.nil (ts:=ts) (s:=s))
  obtain⟨vs,w⟩:=L7 s c s0 s1 h1;have:=Su w;rw[h1];congr 1;omega
 .have hu:0<=u/\u<many:=by have:=he t ht;rcases L5 with⟨rfl,_⟩ | ⟨rfl,_⟩<;>omega
  obtain⟨vs,w⟩:=L7 u c hu.1 hu.2 hc;exact hw (.step w t ht v L5)
 .obtain⟨vs,w⟩:=L7 v c v0 v1 hc
  obtain⟨Cb,c2,w2,hn,Cn⟩:=w.short hp;obtain⟨c',h1,h2⟩:=hw w2;rw[hc] at h1;cases h1;have e:c2=c:=by omega
  exact⟨Cb,e ▸ w2,hn⟩
noncomputable abbrev L8 (many:Int)(ts:List eu):Prop:=∀t∈ts,0<=t.1/\t.1<many/\0<=t.2.1/\t.2.1<many
noncomputable def Cc (ts:List eu)(k:Int):eu:=ts.getD k.toNat (0,0,0)
theorem Wk.set {ts:List eu}{s:Int}:∀{u:Int} {vs:List Int} {c:Int},Wk ts s u vs c->(u::vs).Nodup ->
  ∃ks:List Int,gX ts ks/\ks.Nodup/\(∀x:Int,(dQ ts ks).count x % 2=([s].count x + [u].count x) % 2)/\(ks.map λk=>(Cc ts k).2.2).sum=c/\∀k∈ks,(Cc ts k).1∈u::vs/\(Cc ts k).2.1∈u::vs
 | _,_,_,.nil,_=>⟨[],(λk hk=>by cases hk),cQ,λx=>by rw[show dQ ts []=[] from rfl,List.count_nil];omega,rfl,λk hk=>by cases hk⟩
 | _,_,_,.step (u:=u) (vs:=vs) (c:=c) w t ht v h,hn=>by
  obtain⟨n1,n2⟩:=aZ.mp hn;obtain⟨ks,h1,h2,h3,h4,h5⟩:=Wk.set w n2;obtain⟨i,hi,e⟩:=cL ht;have ek:Cc ts (i:Int)=t:=by unfold Cc;rw[bU,az,aX hi,<- e];rfl
  have hv:v=t.1\/v=t.2.1:=by rcases h with⟨_,e⟩ | ⟨_,e⟩<;>simp[e]
  have C0:(i:Int) ∉ ks:=λz=>by
   have:=h5 _ z;rw[ek] at this;rcases hv with e | e
   .exact n1 (e ▸ this.1)
   .exact n1 (e ▸ this.2)
  have Qj:nV ts (i:Int)=[t.1,t.2.1]:=by
   have:=ek;unfold Cc at this;unfold nV;rw[this]
  refine⟨(i:Int)::ks,λk hk=>?_,aZ.mpr ⟨C0,h2⟩,λx=>?_,?_,λk hk=>?_⟩
  .rcases av.mp hk with rfl | hk
   .omega
   .exact h1 k hk
  .rw[kx,Qj,bV]
   have:=h3 x
   have e2:[t.1,t.2.1].count x=[u].count x + [v].count x:=by
    rcases h with⟨rfl,rfl⟩ | ⟨rfl,rfl⟩
    .rw[List.count_cons,cg,cg];omega
    .rw[List.count_cons,cg,cg]
   rw[e2];omega
  .rw[ak,List.sum_cons,h4,ek]
   omega
  .rcases av.mp hk with rfl | hk
   .rw[ek]
    rcases h with⟨e1,e2⟩ | ⟨e1,e2⟩
    .rw[<- e1,<- e2];simp
    .rw[<- e1,<- e2];simp
   .have:=h5 k hk
    exact⟨ai _ this.1,ai _ this.2⟩
theorem nX.set {many:Nat}{ts:List eu}{s:Int}{hs:Hs}(h:nX many ts s hs){v c:Int}(v0:0<=v)(v1:v<(many:Int))(hc:kN hs v=some c) :
  ∃ks:List Int,gX ts ks/\ks.Pairwise (· < ·)/\d7 (dQ ts ks)=d7 ([s]++[v])/\eL ts ks=c:=by
 obtain⟨vs,w,hn⟩:=h.way v c v0 v1 hc;obtain⟨ks,h1,h2,h3,h4,_⟩:=w.set hn;have hp:=sortI_perm ks;refine⟨sortI ks,λk hk=>h1 k (hp.mem_iff.mp hk),ji (fx _) (hp.nodup_iff.mpr h2),?_,?_⟩
 .refine qK (lW _) (lW _) λx=>?_
  have WY:=(jd (ts:=ts) hp).count_eq x;have WZ:=h3 x;rw[d7,d7,kj,kj,aT,aT,bV];constructor
  .rintro⟨_,hx⟩
   have hx:=of_decide_eq_true hx;have L9:([s].count x + [v].count x) % 2=1:=by omega
   refine⟨?_,decide_eq_true L9⟩;have:0<([s]++[v]).count x:=by rw[bV];omega
   exact cj.mp this
  .rintro⟨_,hx⟩
   have hx:=of_decide_eq_true hx;have L9:(dQ ts (sortI ks)).count x % 2=1:=by omega
   exact⟨cj.mp (!1),decide_eq_true L9⟩
 .rw[l0 hp]
  exact h4
noncomputable def je (x:Option Int):af:=match x with | none=>.none | some c=>.int c
theorem qa {hs:Hs}{v:Int}(v0:0<=v)(v1:v<(hs.length:Int)):oX (hs.map je) v=some (je (kN hs v)):=by
 rw[mS v0 (by rw[au];exact v1),aE];have hl:v.toNat<hs.length:=by omega
 unfold kN;rw[az,aX hl];rfl
theorem E6 {len:Nat}{v:Int}(v0:0<=v)(v1:v<(len:Int)):Co len v=some v.toNat:=by
 unfold Co;rw[if_pos v0,if_pos (!1)]
section
variable {n:Int}{X:XQ}{Q:af->Int->Prop}
noncomputable def Cd (hs:Hs):af:=.tuple (hs.map je)
end
noncomputable abbrev Pd (ts:List eu):Prop:=∀t∈ts,t.2.2.natAbs<=99
theorem HM (row:List Int):(jQ row).length<=row.length:=gf (jn row) λk hk=>iT.mp hk
theorem E7 {α:Type}(f:α->af)(d:α)(xs:List α):iY (xs.map f)=(fc 0 xs.length).map λk=>.tuple [.int k,f (xs.getD k.toNat d)]:=by
 refine List.ext_getElem? λi=>?_;unfold iY fc;rw[aE,List.getElem?_zipIdx,aE,aE,aE];by_cases hi:i<xs.length
 .rw[aX hi,aX (by simpa using hi)]
  simp[az,hi]
 .rw[bC (!1),bC (by simp;omega)]
  rfl
noncomputable def fV (ts:List eu)(k:Int):eu:=ts.getD k.toNat (0,0,0)
theorem zF (ns:List Int):iO (dD ns)=true:=by
 have:∀ns:List Int,iZ (ns.map .int)=true:=by
  intro ns
  induction ns with
  | nil=>rfl
  | cons a ns ih=>simpa [iZ,iO] using ih
 exact this _
theorem rL {ts:List eu}{k:Int}{t:eu}(h:ts[k.toNat]? = some t):nV ts k=[t.1,t.2.1]:=by
 unfold nV;rw[az,h];rfl
theorem Ki (t:eu):Mz (e8 t) none (some 2)=some (.tuple [.int t.1,.int t.2.1]):=by
 simp only[e8,Mz,AB _ 2 (!2)];rfl
section
variable {n:Int}{X:XQ}{Q:af->Int->Prop}
theorem zG {row:List Int}(h1:(jQ row).length<=60)(h2:row.length<=100000):h8 [.tuple (row.map .int)] n Q X=Q (dD (d7 row)) n:=by
 simp only[h8,hV,dv,h1,h2,true_and,dD,and_self]
theorem lP {a b:List Int}(h:a.length+b.length<=60):gG [dD a,dD b] n Q X=Q (dD (d7 (a++b))) n:=by
 have e:gZ (.tuple (a.map .int)) (.tuple (b.map .int))=some (.tuple ((a++b).map .int)):=by rw[D8 (by rw[au,au];omega),aO]
 have hl:(a++b).length<=60:=by rw[aH];exact h
 simp! [gG,mZ];rw[dD,dD];simp! [e,zG (bu (HM (a++b)) hl) (!1)]
end
theorem HN {ts:List eu}{a b:List Int}(ha:gX ts a)(hb:gX ts b):gX ts (d7 (a++b)):=λk hk=>by
 have:k∈a++b:=cj.mp (by have:=fN.mp hk;omega);exact (aK.mp this).elim (ha k) (hb k)
theorem E8 {a b:List Int}(ha:a.Pairwise (· < ·))(hb:b.Pairwise (·<=·))(h:b.Perm a):b=a:=ki h hb (ha.imp λh=>by omega)
inductive vJ (ts:List eu) (s:Int):Int->List Int->List Int->Int->Prop
 | nil:vJ ts s s [] [s] 0
 | step {u:Int} {es ps:List Int} {c:Int} (w:vJ ts s u es ps c) (k:Int) (t:eu) (v:Int) (k0:0<=k) (ht:ts[k.toNat]? = some t) (h:u=t.1/\v=t.2.1\/u=t.2.1/\v=t.1) (hv:v ∉ ps):vJ ts s v (k::es) (v::ps) (c+t.2.2)
section
variable {ts:List eu}{s v:Int}{es ps:List Int}{c:Int}
theorem vJ.last (h:vJ ts s v es ps c):v∈ps:=by cases h<;>simp
theorem vJ.wk (h:vJ ts s v es ps c):∃vs,Wk ts s v vs c:=by
 induction h with
 | nil=>exact⟨[],.nil⟩
 | step w k t v k0 ht h hv ih =>
  obtain⟨vs,ih⟩:=ih;exact⟨_,ih.step t (cp ht) v h⟩
theorem vJ.ends (h:vJ ts s v es ps c):∀k∈es,0<=k/\∃t,ts[k.toNat]? = some t/\t.1∈ps/\t.2.1∈ps:=by
 induction h with
 | nil=>intro k hk;cases hk
 | @step u es ps c w k t v k0 ht h hv ih =>
  intro j hj;rcases av.mp hj with rfl | hj
  .refine⟨k0,t,ht,?_⟩
   have:=w.last;rcases h with⟨rfl,rfl⟩ | ⟨rfl,rfl⟩
   .exact⟨ai _ this,ar ..⟩
   .exact⟨ar ..,ai _ this⟩
  .obtain⟨h0,t',h1,h2,h3⟩:=ih j hj
   exact⟨h0,t',h1,ai _ h2,ai _ h3⟩
theorem vJ.num (h:vJ ts s v es ps c):gX ts es:=λk hk=>by
 obtain⟨h0,t,ht,_⟩:=h.ends k hk;have:=(aD.mp ht).1;exact⟨h0,!1⟩
theorem vJ.Pe (h:vJ ts s v es ps c):es.Nodup:=by
 induction h with
 | nil=>exact cQ
 | @step u es ps c w k t v k0 ht h hv ih =>
  refine aZ.mpr ⟨λz=>?_,ih⟩;obtain⟨_,t',T9,h1,h2⟩:=w.ends k z;rw[ht] at T9;cases T9;rcases h with⟨_,rfl⟩ | ⟨_,rfl⟩
  .exact hv h2
  .exact hv h1
theorem Wk.low (hp:Plain ts){u:Int}{vs:List Int}(h:Wk ts s u vs c):0<=c:=by
 induction h with
 | nil=>exact bz 0
 | step w t ht v h ih=>have:=hp t ht;omega
theorem Wk.Jm {K:List Int}(hp:Plain ts)(hs:s∈K){u:Int}{vs:List Int}(h:Wk ts s u vs c)(hu:u ∉ K):∃x y t Oa c0,x∈K/\y ∉ K/\t∈ts/\(x=t.1/\y=t.2.1\/x=t.2.1/\y=t.1)/\Wk ts s x Oa c0/\c0+t.2.2<=c:=by
 induction h with
 | nil=>exact absurd hs hu
 | @step u vs c w t ht v h ih =>
  by_cases hk:u∈K
  .exact⟨u,v,t,vs,c,hk,hu,ht,h,w,bz _⟩
  .obtain⟨x,y,t',Oa,c0,h1,h2,h3,h4,h5,h6⟩:=ih hk
   have:=hp t ht;exact⟨x,y,t',Oa,c0,h1,h2,h3,h4,h5,!1⟩
theorem nX.low {many:Nat}{hs:Hs}(hg:nX many ts s hs){u:Int}{vs:List Int}(h:Wk ts s u vs c):∃c',kN hs u=some c'/\c'<=c:=by
 induction h with
 | nil=>exact⟨0,hg.VI,bz _⟩
 | step w t ht v h ih =>
  obtain⟨c1,h1,h2⟩:=ih;obtain⟨c2,h3,h4⟩:=hg.fit t ht _ v c1 h h1;exact⟨c2,h3,!1⟩
end
structure tX (ts:List eu) (s:Int) (K:List Int) (kvs:fW):Prop where
 keys:iP kvs=K.map λv=>[v]
 nd:K.Nodup
 st:s∈K
 val:∀v∈K,∃es ps c,vJ ts s v es ps c/\(∀x∈ps,x∈K)/\eG kvs [v]=some (.tuple [.int c,dD (sortI es)])/\∀vs c',Wk ts s v vs c'->c<=c'
theorem rM {kvs:fW}{k:List Int}:(eG kvs k).isSome=true↔k∈iP kvs:=by
 rw[<- rD,cx,iP,aQ];constructor
 .rintro⟨p,hp,h⟩;exact⟨p,hp,of_decide_eq_true h⟩
 .rintro⟨p,hp,h⟩;exact⟨p,hp,decide_eq_true h⟩
section
variable {ts:List eu}{s:Int}{K:List Int}{kvs:fW}
theorem tX.has (h:tX ts s K kvs)(v:Int):(eG kvs [v]).isSome=decide (v∈K):=by
 rw[cY,rM,h.keys,decide_eq_true_eq,aQ];constructor
 .rintro⟨x,hx,e⟩
  have:x=v:=by simpa using e
  rwa [<- this]
 .intro hv;exact⟨v,hv,rfl⟩
theorem tX.none (h:tX ts s K kvs){v:Int}(hv:v ∉ K):eG kvs [v]=none:=by
 have:=h.has v;rw[decide_eq_false hv] at this;exact Option.not_isSome_iff_eq_none.mp (by simp[this])
theorem tX.len (h:tX ts s K kvs):kvs.length=K.length:=by
 have:=congrArg List.length h.keys;rw[iP,au,au] at this;exact this
theorem tX.one (hp:Plain ts)(s:Int):tX ts s [s] [([s],.tuple [.int 0,.tuple []])]:=by
 refine⟨rfl,!4,!4,λv hv=>?_⟩;rw[aq.mp hv];refine⟨[],[s],0,.nil,!4,?_,λvs c' w=>w.low hp⟩;rw[ik,if_pos rfl];rfl
theorem tX.add (h:tX ts s K kvs){v d:Int}{es ps:List Int}(hp:vJ ts s v es ps d)(hv:v ∉ K)(OU:∀x∈ps,x=v\/x∈K)(hl:∀vs c',Wk ts s v vs c'->d<=c'):tX ts s (K++[v]) (gT kvs [v] (.tuple [.int d,dD (sortI es)])):=by
 have hk:[v] ∉ iP kvs:=λz=>by
  have:=rM.mpr z;rw[h.has,decide_eq_true_eq] at this;exact hv this
 refine⟨?_,b9.mpr ⟨h.nd,!4,λa ha b hb=>by rw[aq.mp hb];exact λz=>hv (z ▸ ha)⟩,bx _ h.st,λx hx=>?_⟩
 .rw[xK,if_neg hk,h.keys,aO]
  rfl
 .rcases aK.mp hx with hx | hx
  .obtain⟨sN,VJ,c,h1,h2,h3,h4⟩:=h.val x hx
   refine⟨sN,VJ,c,h1,λy hy=>bx _ (h2 y hy),?_,h4⟩;rw[lN,if_neg (λz=>by injection z with z;exact hv (z ▸ hx))];exact h3
  .rw[aq.mp hx]
   refine⟨es,ps,d,hp,λy hy=>?_,by rw[lN,if_pos rfl],hl⟩;rcases OU y hy with rfl | hy
   .simp
   .exact bx _ hy
theorem tX.Ma (h:tX ts s K kvs)(hp:Plain ts)(hc:∀t∈ts,(t.1∈K↔t.2.1∈K)){many:Nat}{hs:Hs}(hg:nX many ts s hs){v:Int}(v0:0<=v)(v1:v<(many:Int)) :
  match kN hs v with | .none=>eG kvs [v]=.none | .some c=>∃es ps,vJ ts s v es ps c/\eG kvs [v]=some (.tuple [.int c,dD (sortI es)]):=by
 by_cases hv:v∈K
 .obtain⟨es,ps,c,h1,_,h3,h4⟩:=h.val v hv
  obtain⟨vs,w⟩:=h1.wk;obtain⟨c',e,h5⟩:=hg.low w;obtain⟨Qk,w',_⟩:=hg.way v c' v0 v1 e;have:=h4 _ _ w';have ec:c'=c:=by omega
  rw[e];exact⟨es,ps,ec ▸ h1,ec ▸ h3⟩
 .cases e:kN hs v with
  | none=>exact h.none hv
  | some c =>
   exfalso;obtain⟨vs,w,_⟩:=hg.way v c v0 v1 e;obtain⟨x,y,t,_,_,h1,h2,h3,h4,_⟩:=w.Jm hp h.st hv;rcases h4 with⟨rfl,rfl⟩ | ⟨rfl,rfl⟩
   .exact h2 ((hc t h3).mp h1)
   .exact h2 ((hc t h3).mpr h1)
end
noncomputable abbrev zH:=Int × Int × List Int
noncomputable def gI (e:zH):af:=.tuple [.int e.1,.int e.2.1,dD (sortI e.2.2)]
theorem rN (g:Bool):∀a b:List Int,(gL g (a.map .int) (b.map .int)).isSome=true
 | [],[]=>by simp[gL]
 | [],_::_=>by simp[gL]
 | _::_,[]=>by simp[gL]
 | x::a,y::b=>by
  rw[ak,ak,gL];split
  .exact rN g a b
  .rfl
theorem A2 (x b:zH):∃r,gk false (gI x) (gI b)=some r/\(r=true->x.1<=b.1)/\(r=false->b.1<=x.1):=by
 have e0:∀i j:Int,af.eqv (.int i) (.int j)=decide (i=j):=λi j=>by simp only[af.eqv];rfl
 rw[gI,gI,gk,gL,e0];by_cases h:x.1=b.1
 .rw[if_pos (decide_eq_true h)]
  have hs:(gL false [.int x.2.1,dD (sortI x.2.2)] [.int b.2.1,dD (sortI b.2.2)]).isSome=true:=by
   rw[gL];split
   .rw[gL]
    split
    .rfl
    .exact rN false _ _
   .rfl
  obtain⟨r,hr⟩:=bO.mp hs;exact⟨r,hr,λ_=>by omega,λ_=>by omega⟩
 .rw[if_neg (by simpa using h),gk]
  exact⟨_,rfl,λz=>by have:=of_decide_eq_true z;omega,λz=>by have:=of_decide_eq_false z;omega⟩
theorem rO:∀(l:List zH) (a:zH),∃e∈a::l,iB false (gI a) (l.map gI)=gI e/\∀x∈a::l,e.1<=x.1
 | [],a=>⟨a,!4,rfl,λx hx=>by rw[aq.mp hx];omega⟩
 | b::l,a=>by
  obtain⟨r,hr,h1,h2⟩:=A2 b a;rw[ak,iB,hr,cw]
  cases r with
  | true =>
   rw[if_pos rfl];obtain⟨e,he,h3,h4⟩:=rO l b;refine⟨e,ai _ he,h3,λx hx=>?_⟩;rcases av.mp hx with rfl | hx
   .have:=h4 b (ar ..)
    have:=h1 rfl;omega
   .exact h4 x hx
  | false =>
   rw[if_neg (!2)];obtain⟨e,he,h3,h4⟩:=rO l a;refine⟨e,?_,h3,λx hx=>?_⟩
   .rcases av.mp he with rfl | he
    .simp
    .exact ai _ (ai _ he)
   .rcases av.mp hx with rfl | hx
    .exact h4 x (ar ..)
    .rcases av.mp hx with rfl | hx
     .have:=h4 a (ar ..)
      have:=h2 rfl;omega
     .exact h4 x (ai _ hx)
theorem xM:∀ns:List Int,af.canLayAll0 (ns.map .int)=true
 | []=>rfl
 | a::ns=>by simpa [af.canLayAll0,af.canLay0] using xM ns
theorem xN:∀ns:List Int,af.depthAll (ns.map .int)=0
 | []=>rfl
 | a::ns=>by simp[af.depthAll,af.depth,xN ns]
theorem E9 (l:List zH):va false (l.map gI):=λx hx=>by
 obtain⟨e,_,rfl⟩:=aQ.mp hx;refine⟨⟨?_,?_⟩,λy hy=>?_⟩
 .simp only[gI,dD,af.canLay0,af.canLayAll0,xM,Bool.and_self]
 .simp only[gI,dD,af.depth,af.depthAll,xN]
  omega
 .obtain⟨f,_,rfl⟩:=aQ.mp hy
  obtain⟨r,hr,_⟩:=A2 e f;rw[hr];rfl
structure tY (many:Int) (ts:List eu) (s:Int) (K:List Int) (e:zH):Prop where
 ex:∃ps,vJ ts s e.2.1 e.2.2 ps e.1/\∀x∈ps,x=e.2.1\/x∈K
 nk:e.2.1 ∉ K
 v0:0<=e.2.1
 v1:e.2.1<many
theorem Ce {many:Int}{ts:List eu}{s:Int}{K:List Int}{kvs:fW}(h:tX ts s K kvs)(hp:Plain ts){l:List zH}(mJ:∀t∈ts,∀x y,(x=t.1/\y=t.2.1\/x=t.2.1/\y=t.1)->x∈K->y ∉ K->∀(c:Int) (es:List Int),eG kvs [x]=some (.tuple [.int c,dD es])->∃e∈l,e.1=c+t.2.2)
  {e:zH} (hk:e.2.1 ∉ K) (hm:∀x∈l,e.1<=x.1) {vs:List Int} {c':Int} (w:Wk ts s e.2.1 vs c'):e.1<=c':=by
 obtain⟨x,y,t,Oa,c0,h1,h2,h3,h4,h5,h6⟩:=w.Jm hp h.st hk;obtain⟨es,ps,c,g1,_,g3,g4⟩:=h.val x h1;obtain⟨f,hf,ef⟩:=mJ t h3 x y h4 h1 h2 c (sortI es) g3;have:=hm f hf;have:=g4 _ _ h5;omega
theorem zI {es:List Int}{k:Int}(hn:(k::es).Nodup):d7 (sortI es++[k])=sortI (k::es):=by
 obtain⟨h1,h2⟩:=aZ.mp hn;have hp:=sortI_perm es;have PL:(sortI es++[k]).Nodup:=b9.mpr ⟨hp.nodup_iff.mpr h2,!4,λa ha b hb=>by rw[aq.mp hb];exact λz=>h1 (hp.mem_iff.mp (z ▸ ha))⟩;refine qK (iR _) (ji (fx _) ((sortI_perm _).nodup_iff.mpr hn)) λx=>?_;have hm:x∈sortI es++[k]↔x∈k::es:=by rw[aK,hp.mem_iff,aq,av];exact Or.comm
 rw[fN,(sortI_perm (k::es)).mem_iff,nW PL x];by_cases hx:x∈sortI es++[k]
 .rw[if_pos hx]
  exact⟨λ_=>hm.mp hx,λ_=>rfl⟩
 .rw[if_neg hx]
  exact⟨λz=>by omega,λz=>absurd (hm.mpr z) hx⟩
theorem rP {ts:List eu}{k:Int}(h:0<=k/\k<(ts.length:Int)):fV ts k∈ts:=by
 obtain⟨t,h1,h2,_⟩:=vt (ts:=ts) h.1 h.2;unfold fV;rw[az,h1];exact h2
theorem vv (i:Int):km false (.int i)=some [i]:=rfl
theorem vw {env:eF}{n:Int}{Q:af->Int->Prop}{uk ud:UX}{v:Int}{kvs:fW}(h1:∀n Q,uk env n Q=Q (.int v) n)(h2:∀n Q,ud env n Q=Q (eM false kvs) n):xu uk ud env n Q=Q (.bool (eG kvs [v]).isSome) n:=by
 rw[xu,h1,h2,oG,dv];simp only[vv,dv]
theorem A3 {env:eF}{n:Int}{Q:af->Int->Prop}{uk ud:UX}{v:Int}{kvs:fW}{d:af}(h1:∀n Q,uk env n Q=Q (.int v) n)(h2:∀n Q,ud env n Q=Q (eM false kvs) n)(h3:eG kvs [v]=some d):mF ud uk env n Q=Q d n:=by
 rw[mF,h2,oG,dv];simp only[h1,vv,dv,h3]
section
variable {n:Int}{X:XQ}{Q:af->Int->Prop}
theorem oS {many s:Int}{ts:List eu}{K:List Int}{kvs:fW}(w:L8 many ts)(lS:Plain ts)(Mb:ts.length<=16)(hT:tX ts s K kvs)
  (h1:(∀t∈ts,(t.1∈K↔t.2.1∈K))->Q .none n)
  (h2:∀e:zH,tY many ts s K e->(∀vs c',Wk ts s e.2.1 vs c'->e.1<=c')->Q (gI e) n):fm [eV many ts,eM false kvs] n Q X:=by
 have e0:eV many ts=.tuple [.int many,.tuple (ts.map e8)]:=rfl;have OE:iY (ts.map e8)=(fc 0 ts.length).map λk=>.tuple [.int k,e8 (fV ts k)]:=E7 e8 (0,0,0) ts;unfold fm iI;simp only[mQ,iH,envOf,ak,bw,ao,bn,Nat.reduceSub,Nat.reduceAdd,aN,bg,be,aW];with_reducible generalize Cf:fu _=tr
 with_reducible generalize hb:fD _ _ _=b
 rw[true_and,dC,mO,dA];simp only[ay,aw];rw[dC,iQ,Oy,dO,dr];simp only[aa,ae];rw[uC,e0,fC,kF,dv];simp only[mN,dv];rw[OE,<- e0]
 refine jR (λpre post env n'=>n'=n/\pre++post=((fc 0 ts.length).map λk=>af.tuple [.int k,e8 (fV ts k)])/\∃(l:List zH) (x3 x4 x5:Option Ent),env=[some (.s (eV many ts)),some (.s (eM false kvs)),some (.o (l.map gI)),x3,x4,x5]/\(∀e∈l,tY many ts s K e)/\l.length<=pre.length /\
  ∀i:Int,0<=i->i<pre.length->∀x y,(x=(fV ts i).1/\y=(fV ts i).2.1\/x=(fV ts i).2.1/\y=(fV ts i).1)->x∈K->y ∉ K->∀(c:Int) (es:List Int),eG kvs [x]=some (.tuple [.int c,dD es])->∃e∈l,e.1=c+(fV ts i).2.2) _ [] _ _ ?_ ⟨rfl,rfl,[],none,none,none,rfl,!4,!4,λi h0 h1=>by simp at h1;omega⟩ ?_
 .rintro pre d post env n' E' hE ⟨rfl,hp,l,x3,x4,x5,rfl,hl,hlen,mJ⟩ B3
  have Jn:pre.length<ts.length:=by
   have:=congrArg List.length hp;rw[aH,ao,au,fy] at this;omega
  have hd:d=.tuple [.int (pre.length:Nat),e8 (fV ts (pre.length:Nat))]:=by
   have h1:=congrArg (λl=>l[pre.length]?) hp;simp only[bG (am _),Nat.sub_self,aa,aE] at h1;unfold fc at h1;rw[aE,c7 Jn] at h1;simpa using h1
  subst hd;obtain⟨k,hk⟩:∃k:Int,k=(pre.length:Nat):=⟨_,rfl⟩;have hm:=rP (ts:=ts) (k:=k) (!1)
  have MG:ts[k.toNat]? = some (fV ts k):=by
   unfold fV;rw[az,aX (!1)];rfl
  rw[<- hk];have hw:=w _ hm;generalize ht:fV ts k=t at hm MG hw;simp only[yO,wL,gj,ay,aw];rw[<- hb];have Sv:∀n Q,dO fh (dr 4) (uC (af.int 0)) [some (.s (eV many ts)),some (.s (eM false kvs)),some (.o (l.map gI)),some (.s (.int k)),some (.s (e8 t)),x5] n Q=Q (.int t.1) n:=λn Q=>by simp! [e8,gS]
  have RW:∀n Q,dO fh (dr 4) (uC (af.int 1)) [some (.s (eV many ts)),some (.s (eM false kvs)),some (.o (l.map gI)),some (.s (.int k)),some (.s (e8 t)),x5] n Q=Q (.int t.2.1) n:=λn Q=>by simp! [e8,kF]
  have Sw:∀n Q,dr 1 [some (.s (eV many ts)),some (.s (eM false kvs)),some (.o (l.map gI)),some (.s (.int k)),some (.s (e8 t)),x5] n Q=Q (eM false kvs) n:=λn Q=>by simp only[dr,aa,ae]
  rw[fD,d6,dO,vw Sv Sw,vw RW Sw,hT.has,hT.has,wZ,dv,d3]
  have Gy:∀(l':List zH) (x5:Option Ent),(∀e∈l',tY many ts s K e)->l'.length<=pre.length+1->(∀e∈l,e∈l')->(∀x y,(x=t.1/\y=t.2.1\/x=t.2.1/\y=t.1)->x∈K->y ∉ K->∀(c:Int) (es:List Int),eG kvs [x]=some (.tuple [.int c,dD es])->∃e∈l',e.1=c+t.2.2) ->
    E'.nx [some (.s (eV many ts)),some (.s (eM false kvs)),some (.o (l'.map gI)),some (.s (.int k)),some (.s (e8 t)),x5] n':=λl' x5 g1 g2 g3 g4=>by
   refine B3 _ _ ⟨rfl,by rw[aF];exact hp,l',_,_,_,rfl,g1,by simpa using g2,λi i0 i1=>?_⟩;rw[aH,bB] at i1;by_cases hi:i<(pre.length:Int)
   .intro x y AK hx hy c es hv
    obtain⟨e,he,e1⟩:=mJ i i0 hi x y AK hx hy c es hv;exact⟨e,g3 e he,e1⟩
   .have:i=k:=by omega
    rw[this,ht];exact g4
  by_cases hx:decide (t.1∈K)=decide (t.2.1∈K)
  .have hf:(!(decide (t.1∈K) == decide (t.2.1∈K)))=false:=by simp[hx]
   rw[hf,if_neg (!2),eU];have Pf:=decide_eq_decide.mp hx;refine Gy l _ hl (!1) (λe he=>he) λx y AK Pg Sx=>?_;exfalso;rcases AK with⟨rfl,rfl⟩ | ⟨rfl,rfl⟩
   .exact Sx (Pf.mp Pg)
   .exact Sx (Pf.mpr Pg)
  .have hf:(!(decide (t.1∈K) == decide (t.2.1∈K)))=true:=by simp[hx]
   rw[hf,if_pos rfl,dC,eB,DC,d6,vw Sv Sw,hT.has,d3]
   obtain⟨near,A4,VL,Ua,Ph,iW⟩:∃near A4:Int,(if decide (t.1∈K)=true then t.1 else t.2.1)=near/\near∈K/\A4 ∉ K/\(near=t.1/\A4=t.2.1\/near=t.2.1/\A4=t.1):=by
    by_cases h1:t.1∈K
    .have h2:t.2.1 ∉ K:=λz=>hx (by rw[decide_eq_true h1,decide_eq_true z])
     exact⟨t.1,t.2.1,by rw[decide_eq_true h1];rfl,h1,h2,.inl ⟨rfl,rfl⟩⟩
    .have h2:t.2.1∈K:=Classical.byContradiction λz=>hx (by rw[decide_eq_false h1,decide_eq_false z])
     exact⟨t.2.1,t.1,by rw[decide_eq_false h1];rfl,h2,h1,.inr ⟨rfl,rfl⟩⟩
   have Ql:∀(K':af->Int->Prop),(if decide (t.1∈K)=true then dO fh (dr 4) (uC (af.int 0)) [some (.s (eV many ts)),some (.s (eM false kvs)),some (.o (l.map gI)),some (.s (.int k)),some (.s (e8 t)),x5] n' K' else dO fh (dr 4) (uC (af.int 1)) [some (.s (eV many ts)),some (.s (eM false kvs)),some (.o (l.map gI)),some (.s (.int k)),some (.s (e8 t)),x5] n' K')=K' (.int near) n':=λK'=>by
    rw[Sv,RW,<- VL];split<;>rfl
   rw[Ql];simp only[ay,aw];obtain⟨es,ps,c,g1,g2,g3,g4⟩:=hT.val near Ua;have VM:A4 ∉ ps:=λz=>Ph (g2 A4 z);have Pj:0<=A4/\A4<many:=by rcases iW with⟨_,rfl⟩ | ⟨_,rfl⟩<;>omega
   have Fz:vJ ts s A4 (k::es) (A4::ps) (c+t.2.2):=g1.step k t A4 (!1) MG iW VM
   have VN:lZ t near=A4:=by
    unfold lZ;rcases iW with⟨rfl,rfl⟩ | ⟨rfl,rfl⟩
    .rw[if_pos rfl]
    .rw[if_neg (λz:t.1=t.2.1=>Ph (by rw[z];exact Ua))]
   have VO:es.length<=16:=by
    have:=gf g1.Pe (ns:=fc 0 ts.length) λv hv=>gg.mpr (by have:=g1.num v hv;omega);rw[fy] at this;omega
   have Qm:(sortI es).length=es.length:=(sortI_perm es).length_eq;have pE:∀n Q,mF (dr 1) (dr 5) [some (.s (eV many ts)),some (.s (eM false kvs)),some (.o (l.map gI)),some (.s (.int k)),some (.s (e8 t)),some (.s (.int near))] n Q=Q (.tuple [.int c,dD (sortI es)]) n:=λn Q=>A3 (λn Q=>by simp only[dr,aa,ae]) (λn Q=>by simp only[dr,aa,ae]) g3;have VP:fh (e8 t) (.int 2)=some (.int t.2.2):=by rw[e8,fC,D4]
   rw[jl];simp only[aa,ae];rw[du,eW,du,dO,dO,pE,uC,fC,gS,dv,dO,dr];simp only[aa,ae];rw[uC,VP,dv,ph,dv,du,dP,du,dI];simp only[aa,ae];rw[du,dI];simp only[aa,ae];rw[dA,vq,VN,du,dP,du,dO,pE,uC,fC,kF,dv,du,eW,du,dI];simp only[aa,ae];rw[dA,dA,show af.tuple [.int k]=dD [k] from rfl,lP (by rw[Qm];simp;omega),zI Fz.Pe,dA,dA];rw[i6 (by rw[au];omega),dv]
   have:=Gy (l++[(c+t.2.2,A4,k::es)]) (some (.s (.int near))) (λe he=>by
    rcases aK.mp he with he | he
    .exact hl e he
    .rw[aq.mp he]
     exact⟨⟨A4::ps,Fz,λx hx=>by rcases av.mp hx with hx | hx;exact .inl hx;exact .inr (g2 x hx)⟩,Ph,Pj.1,Pj.2⟩) (by simp;omega) (λe he=>bx _ he) (λx y AK Pg Sx c' sN hv=>by
    have VQ:x=near:=by
     rcases iW with⟨rfl,rfl⟩ | ⟨rfl,rfl⟩
     .rcases AK with⟨rfl,rfl⟩ | ⟨rfl,rfl⟩
      .rfl
      .exact absurd Pg Ph
     .rcases AK with⟨rfl,rfl⟩ | ⟨rfl,rfl⟩
      .exact absurd Pg Ph
      .rfl
    rw[VQ,g3] at hv;injection hv with hv;injection hv with hv;injection hv with hv _;injection hv with hv;exact⟨_,aY _ (aq.mpr rfl),by rw[<- hv]⟩)
   rw[aO] at this;exact this
 .rintro pre env n' ⟨rfl,hp,l,x3,x4,x5,rfl,hl,hlen,mJ⟩
  rw[bR] at hp;have Jn:pre.length=ts.length:=by rw[hp,au,fy]
  have Jo:∀t∈ts,∀x y,(x=t.1/\y=t.2.1\/x=t.2.1/\y=t.1)->x∈K->y ∉ K->∀(c:Int) (es:List Int),eG kvs [x]=some (.tuple [.int c,dD es])->∃e∈l,e.1=c+t.2.2:=λt ht=>by
   obtain⟨i,hi,rfl⟩:=cL ht
   have e:fV ts (i:Nat)=ts[i]:=by
    unfold fV;rw[bU,az,aX hi];rfl
   have:=mJ (i:Nat) (!1) (!1);rwa [e] at this
  show tr _ _ n';rw[<- Cf,fu,EI,dr];simp only[aa,ae]
  cases l with
  | nil =>
   refine h1 λt ht=>?_
   have key:∀x y,(x=t.1/\y=t.2.1\/x=t.2.1/\y=t.1)->x∈K->y∈K:=λx y AK hx=>Classical.byContradiction λhy=>by
    obtain⟨es,ps,c,_,_,g3,_⟩:=hT.val x hx;obtain⟨e,he,_⟩:=Jo t ht x y AK hx hy c _ g3;cases he
   exact⟨key _ _ (.inl ⟨rfl,rfl⟩),key _ _ (.inr ⟨rfl,rfl⟩)⟩
  | cons a l =>
   obtain⟨e,he,h3,h4⟩:=rO l a;refine⟨E9 (a::l),?_⟩;rw[h3];exact h2 e (hl e he) λvs c' wk=>Ce (many:=many) hT lS Jo (hl e he).nk h4 wk
theorem vx {many s:Int}{ts:List eu}(w:L8 many ts)(lS:Plain ts)(Mb:ts.length<=16)(m1:many<=60)(s0:0<=s)(s1:s<many)
  (h:∀(K:List Int) (kvs:fW),tX ts s K kvs->(∀t∈ts,(t.1∈K↔t.2.1∈K))->Q (eM false kvs) n):jr [eV many ts,.int s] n Q X:=by
 have hsz:aA=16777216:=by decide
 unfold jr lu;simp only[mQ,iH,envOf,ak,bw,ao,bn,Nat.reduceSub,Nat.reduceAdd,aN,bg,be,aW];with_reducible generalize Cf:jP 2=tr
 with_reducible generalize VR:dC (o8 2 _ _) _=wb
 rw[true_and,dC,zk,dI];simp only[aa,ae];rw[eW,du,uC,du,eW,dA,dA];simp only[vv,dv];intro a ha;simp only[ay,aw];rw[dC,eB,qJ,du,dr];simp only[aa,ae];rw[du,dr];simp only[aa,ae];rw[dA]
 have VS:∀e:zH,iO (gI e)=true:=λe=>by
  have:=zF (sortI e.2.2);simp only[gI,iO,iZ,this,Bool.and_self]
 have hW:∀(K:List Int) (kvs:fW) (x3:Option Ent) (E:jj) (P:af->Int->Prop),tX ts s K kvs->((∀t∈ts,(t.1∈K↔t.2.1∈K))->P .none n)->(∀e:zH,tY many ts s K e->(∀vs c',Wk ts s e.2.1 vs c'->e.1<=c')->P (gI e) n)->fm [eV many ts,eM false kvs] n (λd n'=>iO d=true/\P d n') Cr:=λK kvs x3 E P hT g1 g2 =>
  oS w lS Mb hT (λhc=>⟨rfl,g1 hc⟩) λe he hl=>⟨VS e,g2 e he hl⟩
 have Ql:∀d n',n'=n->(d=.none/\(∀t∈ts,(t.1∈[s]↔t.2.1∈[s]))\/∃e:zH,d=gI e/\tY many ts s [s] e/\∀vs c',Wk ts s e.2.1 vs c'->e.1<=c')->dC (oq (d6 (dO me (dr 3) (uC af.none))) wb) tr { nx:=λx n'=>Q af.none n',rt:=Q } [some (.s (eV many ts)),some (.s (.int s)),some (.d a false [([s],.tuple [.int 0,.tuple []])]),some (.s d)] n':=λd n' en hd=>by
  subst en;rw[dC];unfold oq;refine⟨λm env Sy=>Sy=n'/\∃(K:List Int) (kvs:fW) (d:af),env=[some (.s (eV many ts)),some (.s (.int s)),some (.d a false kvs),some (.s d)]/\tX ts s K kvs/\(∀v∈K,0<=v/\v<many)/\m+K.length=60/\(d=.none/\(∀t∈ts,(t.1∈K↔t.2.1∈K))\/∃e:zH,d=gI e/\tY many ts s K e/\∀vs c',Wk ts s e.2.1 vs c'->e.1<=c'),⟨59,rfl,[s],_,d,rfl,tX.one lS s,λv hv=>by rw[aq.mp hv];exact⟨s0,s1⟩,rfl,hd⟩,?_⟩;rintro m env Sy ⟨rfl,K,kvs,d,rfl,hT,hK,hm,hd⟩;rw[d6,dO,dr];simp only[aa,ae];rcases hd with⟨rfl,FF⟩ | ⟨e,rfl,he,hl⟩
  .have e1:me .none .none=some (.bool false):=rfl
   rw[uC,e1,dv,d3,if_neg (!2)];show tr _ _ Sy;rw[<- Cf,jP];simp only[aa,ae];exact h K kvs hT FF
  .have e1:me (gI e) .none=some (.bool true):=rfl
   obtain⟨ps,hp,OU⟩:=he.ex;have Qn:=hT.add hp he.nk OU hl
   have SA:∀v∈K++[e.2.1],0<=v/\v<many:=λv hv=>by
    rcases aK.mp hv with hv | hv
    .exact hK v hv
    .rw[aq.mp hv];exact⟨he.v0,he.v1⟩
   have hlen:(K++[e.2.1]).length<=60:=by
    have:=gf Qn.nd (ns:=fc 0 many.toNat) λv hv=>gg.mpr (by have:=SA v hv;omega);rw[fy] at this;omega
   rw[aH,bB] at hlen;have i0:fh (gI e) (.int 0)=some (.int e.1):=by rw[gI,fC,gS]
   have i1:fh (gI e) (.int 1)=some (.int e.2.1):=by rw[gI,fC,kF]
   have i2:fh (gI e) (.int 2)=some (dD (sortI e.2.2)):=by rw[gI,fC,D4]
   rw[uC,e1,dv,d3,if_pos rfl,<- VR,dC,o8,eW,du,dO,dr];simp only[aa,ae];rw[uC,i0,dv,du,dO,dr];simp only[aa,ae];rw[uC,i2,dv,dA];simp only[dO,dr,uC,aa,ae,i1,dv,vv];refine⟨⟨by rw[hT.len];omega,λj t' kv hj z=>?_⟩,?_⟩
   .match j,hj,z with
    | 0,_,z=>simp at z
    | 1,_,z=>simp at z
    | 2,hj,_=>exact hj rfl
    | 3,_,z=>simp at z
    | j+4,_,z=>simp at z
   simp only[ay,aw];rw[eB,qJ,du,dr];simp only[aa,ae];rw[du,dr];simp only[aa,ae];rw[dA];refine hW (K++[e.2.1]) _ none { nx:=λ_ _=>True,rt:=Q } _ Qn (λFF=>?_) λe' BM BE=>?_
   .exact⟨m - 1,!1,rfl,K++[e.2.1],_,_,rfl,Qn,SA,by simp;omega,.inl ⟨rfl,FF⟩⟩
   .exact⟨m - 1,!1,rfl,K++[e.2.1],_,_,rfl,Qn,SA,by simp;omega,.inr ⟨e',rfl,BM,BE⟩⟩
 refine hW [s] _ none { nx:=λ_ _=>True,rt:=Q } _ (tX.one lS s) (λFF=>?_) λe he hl=>?_
 .exact Ql _ _ rfl (.inl ⟨rfl,FF⟩)
 .exact Ql _ _ rfl (.inr ⟨e,rfl,he,hl⟩)
end
structure Fb (many:Int) (t:eu):Prop where
 a0:0<=t.1
 ab:t.1<t.2.1
 bm:t.2.1<many
 pl:t.2.2.natAbs<=99
structure lQ (many:Int) (ts:List eu):Prop where
 m0:1<=many
 m1:many<=9
 ok:∀t∈ts,Fb many t
section
variable {n:Int}{Q:af->Int->Prop}{X:XQ}
theorem vy {b:Bool}(hn:n+1<=iA)(h:∀p:Int,p.natAbs<=99->(b=true->0<=p)->Q (.int p) (n+1)):js [.bool b] n Q X:=by
 simp! [js,lx,wD];refine iu (!2) (!2) (!1) λr h0 h1=>?_;obtain⟨x,hx,hm⟩:=D6 (xs:=[af.int 0,.int 1,.int 2,.int 3,.int 5,.int 7,.int (-1),.int (-2),.int (-3),.int 99,.int (-99),.int 1]) h0 (by simpa using h1);simp! [w4,hx]
 obtain⟨p,rfl,hp⟩:∃p:Int,x=.int p/\p.natAbs<=99:=by
  simp only[av,cv,or_false] at hm;rcases hm with rfl | rfl | rfl | rfl | rfl | rfl | rfl | rfl | rfl | rfl | rfl | rfl<;>exact⟨_,rfl,!2⟩
 cases b with
 | true =>
  simp! [Lh];exact h _ (!1) λ_=>by omega
 | false =>
  simp! [dC];exact h p hp (!4)
theorem zJ {m k:Int}{pl:Bool}(hm:1<=m)(W0:m<=9)(hk:0<=k)(VT:k<=16)(hn:n+200<=iA)(h:∀(many:Int) (ts:List eu) (n':Int),lQ many ts->many<=m->(ts.length:Int)<=k->(pl=true->∀t∈ts,0<=t.2.2)->n<=n'->n'<=n+200->Q (eV many ts) n'):lY [.int m,.int k,.bool pl] n Q X:=by
 have A5:iA=1099511627776:=by decide
 unfold lY oI;simp only[mQ,iH,envOf,ak,bw,ao,bn,Nat.reduceSub,Nat.reduceAdd,aN,bg,be,aW];generalize SD:dC (eB 7 _) _=bd;generalize VU:fu _=te;simp! [dC];refine iu (!1) (!1) (!1) λr r0 r1=>?_;simp! [ph];refine iu (!1) (!1) (!1) λc c0 c1=>?_;simp! [FC,intD,D7];generalize Ub:1+r=many;have k0:1<=many:=by omega
 have k1:many<=m:=by omega
 have hj:0<=(if decide (1<many)=true then c else 0)/\(if decide (1<many)=true then c else 0)<=k:=by split<;>omega
 have Q1:0<(if decide (1<many)=true then c else 0)->1<many:=by
  split
  .rename_i hh;intro _;exact of_decide_eq_true hh
  .intro z;omega
 generalize (if decide (1<many)=true then c else 0)=j at hj Q1 ⊢;refine⟨!1,!1,jR (λpre post env n'=>∃ts x6 x7 x8,env=[none,some (.s (.int m)),some (.s (.int k)),some (.s (.bool pl)),some (.s (.int many)),some (.o (ts.map e8)),x6,x7,x8]/\(∀t∈ts,Fb many t/\(pl=true->0<=t.2.2))/\ts.length<=2 * pre.length/\n+2<=n'/\n'<=n+2+4 * pre.length/\pre.length+post.length=j.toNat) _ [] _ _ ?_ ⟨[],none,none,none,rfl,!4,!4,!1,by simp;omega,by simp[nJ]⟩ ?_⟩
 .rintro pre d post env n' E' hE ⟨ts,x6,x7,x8,rfl,Mb,hl,Uc,Ud,hp⟩ B3
  rw[ao] at hp;have W2:1<many:=Q1 (!1);subst SD;generalize VW:fD _ _ _=tif;simp! [dC];refine iu (!1) (!1) (!1) λa a0 a1=>?_;simp! [A1,ph];refine iu (!1) (!1) (!1) λb b0 b1=>?_;simp! [A1,ph,Ha (show 0<many by omega)];have q0:0<=(a+1+b) % many:=cN _ (!1);have q1:(a+1+b) % many<many:=cC _ (!1)
  have q2:(a+1+b) % many≠a:=λz=>by
   have e:=Int.emod_add_mul_ediv (a+1+b) many;rw[z] at e;have h1:many * ((a+1+b) / many)=1+b:=by omega
   rcases Int.lt_or_le ((a+1+b) / many) 1 with h2 | h2
   .have:many * ((a+1+b) / many)<=many * 0:=Int.mul_le_mul_of_nonneg_left (!1) (!1)
    omega
   .have:many * 1<=many * ((a+1+b) / many):=Int.mul_le_mul_of_nonneg_left h2 (!1)
    omega
  generalize (a+1+b) % many=b' at q0 q1 q2;simp! [wI,wJ];refine vy (!1) λp ME lS=>?_;rw[i6 (by rw[au];omega)]
  obtain⟨x,hx,Ue⟩:∃x:eu,af.tuple [.int (if b' < a then b' else a),.int (if a<b' then b' else a),.int p]=e8 x/\(Fb many x/\(pl=true->0<=x.2.2)):=by
   refine⟨(if b' < a then b' else a,if a<b' then b' else a,p),rfl,⟨?_,?_,?_,ME⟩,lS⟩
   .show 0<=(if b' < a then b' else a);split<;>omega
   .show (if b' < a then b' else a)<(if a<b' then b' else a);split<;>split<;>omega
   .show (if a<b' then b' else a)<many;split<;>omega
  simp! [dC];rw[hx]
  have Mc:∀t∈ts++[x],Fb many t/\(pl=true->0<=t.2.2):=λt ht=>by
   rcases aK.mp ht with ht | ht
   .exact Mb t ht
   .rw[aq.mp ht];exact Ue
  subst VW;simp! [dC];refine iu (!1) (!1) (!1) λz z0 z1=>?_;simp! [lX];by_cases hz:z=0
  .simp! [hz,decide_true]
   simp! [mx,yL];split
   .simp! [wD,D5]
    rw[i6 (by rw[aH,au];simp;omega)];simp! [dC];refine B3 _ _ ⟨ts++[x]++[x],_,_,_,(by rw[aO,aO];rfl),λt ht=>?_,by simp;omega,!1,by simp;omega,by simp;omega⟩;rcases aK.mp ht with ht | ht
    .exact Mc t ht
    .rw[aq.mp ht];exact Ue
   .exact B3 _ _ ⟨ts++[x],_,_,_,(by rw[aO];rfl),Mc,by simp;omega,!1,by simp;omega,by simp;omega⟩
  .simp! [hz,decide_false]
   exact B3 _ _ ⟨ts++[x],_,_,_,(by rw[aO];rfl),Mc,by simp;omega,!1,by simp;omega,by simp;omega⟩
 .rintro pre env n' ⟨ts,x6,x7,x8,rfl,Mb,hl,Uc,Ud,hp⟩
  subst VU;simp! [Mz,AB _ k hk,gE,<- List.map_take];exact h many (ts.take k.toNat) n' ⟨k0,!1,λt ht=>(Mb t (List.mem_of_mem_take ht)).1⟩ k1 (by rw[bW];omega) (λz t ht=>(Mb t (List.mem_of_mem_take ht)).2 z) (!1) (by simp at hp;omega)
end
theorem Md {many:Int}{ts:List eu}(w:lQ many ts):Pd ts:=λt ht=>(w.ok t ht).pl
theorem Cg (x:Str):yW (.str x) (.str x)=some (.bool false):=by simp[yW]
theorem Ci (x:Str):D' (.str x) (.str x)=some (.bool true):=by simp[D']
theorem Me {many:Int}{ts:List eu}(w:lQ many ts)(hl:ts.length<=16):Sz 10000 11 700 3 (eV many ts):=by
 have m0:=w.m0;have m1:=w.m1
 have h1:∀d∈ts.map e8,Sz 10000 11 33 1 d:=λd hd=>by
  obtain⟨t,ht,rfl⟩:=aQ.mp hd;have:=w.ok t ht;have a0:=this.a0;have ab:=this.ab;have bm:=this.bm;have pl:=this.pl;exact (Sz.tup (kP.cons (Sz.small (by omega:t.1.natAbs<1024) (!2)) (kP.cons (Sz.small (by omega:t.2.1.natAbs<1024) (!2)) (kP.cons (Sz.small (by omega:t.2.2.natAbs<1024) (!2)) kP.nil)))).mono (am _) (am _) (!2) (!2)
 have h2:=kP.all h1;rw[au] at h2;exact (Sz.tup (kP.cons (Sz.small (by omega:many.natAbs<1024) (!2)) (kP.cons (Sz.tup h2) kP.nil))).mono (am _) (am _) (!1) (!2)
theorem l5 {uc:UT}{Q:List af->Int->Prop}(hc:∀(d:af) (n:Int) (Q:Bool->Int->Prop),n+1<=iA->(∀b,Q b (n+1))->uc [some (.s d),none] n Q):∀(xs acc:List Int) (x:Option Ent) (n:Int),n+xs.length<=iA->(∀sub:List Int,sub.Sublist xs->Q ((acc++sub).map .int) (n+xs.length))->fY (gj 0) uc (dI 0) Q (xs.map .int) (acc.map .int) [x,none] n
 | [],acc,x,n,hn,h=>by
  have:=h [] (List.Sublist.refl _);rw[bR] at this;simpa [fY] using this
 | k::xs,acc,x,n,hn,h=>by
  rw[ao] at hn;simp only[ak,fY,gj,aw];refine hc _ _ _ (!1) λb=>?_;have e1:n+1+(xs.length:Int)=n+((xs.length+1:Nat):Int):=by omega
  cases b with
  | true =>
   simp only[if_true,dI,aa];have e2:acc.map af.int++[.int k]=(acc++[k]).map .int:=by rw[aO];rfl
   rw[e2];refine l5 hc xs (acc++[k]) _ (n+1) (!1) λsub hs=>?_;have:=h (k::sub) (hs.cons_cons k);rw[aF,e1];exact this
  | false =>
   simp only[bK,if_false];refine l5 hc xs acc _ (n+1) (!1) λsub hs=>?_;have:=h sub (hs.cons k);rw[e1];exact this
theorem qb (m:Nat):(fc 0 m).Pairwise (· < ·):=by
 unfold fc;exact List.pairwise_map.mpr (List.pairwise_lt_range.imp λh=>by omega)
noncomputable def pM:Nat->List (List Int)
 | 0=>[[]]
 | k+1=>pM k++(pM k).map (·++[(k:Int)])
theorem rQ:∀k,(pM k).length=2 ^ k
 | 0=>rfl
 | k+1=>by
  rw[pM,aH,au,rQ k,Nat.pow_succ];omega
theorem l6 (k:Nat):fc 0 (k+1)=fc 0 k++[(k:Int)]:=by
 unfold fc;rw[List.range_succ,aO];simp
theorem nY:∀{k:Nat} {s:List Int},s∈pM k↔s.Sublist (fc 0 k)
 | 0,s=>by
  show s∈[[]]↔s.Sublist [];simp
 | k+1,s=>by
  rw[pM,l6,aK,nY (k:=k),List.sublist_append_iff];constructor
  .rintro (h | h)
   .exact⟨s,[],!4,h,!4⟩
   .obtain⟨r,hr,rfl⟩:=aQ.mp h
    exact⟨r,[(k:Int)],rfl,nY.mp hr,List.Sublist.refl _⟩
  .rintro⟨a,b,rfl,ha,hb⟩
   rcases List.sublist_cons_iff.mp hb with hb | ⟨r,rfl,hr⟩
   .have:=List.sublist_nil.mp hb
    subst this;left;simpa using ha
   .have:=List.sublist_nil.mp hr
    subst this;right;exact aQ.mpr ⟨a,nY.mpr ha,rfl⟩
theorem Fc (row:List Int)(v:Int):(d7 row).count v % 2=row.count v % 2:=by
 rw[nW (iS row)];by_cases h:v∈d7 row
 .rw[if_pos h,fN.mp h]
 .rw[if_neg h]
  have:¬ row.count v % 2=1:=λz=>h (fN.mpr z);omega
theorem Fd {a b:List Int}(h:∀v,a.count v % 2=b.count v % 2):d7 a=d7 b :=
 E8 (iR b) ((iR a).imp λh=>by omega) ((bQ (iS a) (iS b)).mpr λv=>by rw[fN,fN,h v])
theorem oT (row e:List Int):d7 (d7 row++e)=d7 (row++e):=Fd λv=>by
 rw[bV,bV,Nat.add_mod,Fc,<- Nat.add_mod]
theorem Fe {many:Int}{ts:List eu}(w:lQ many ts){k:Int}(h:0<=k/\k<(ts.length:Int)):Fb many (ts.getD k.toNat (0,0,0)):=by
 obtain⟨t,h1,h2,_⟩:=vt h.1 h.2;rw[az,h1];exact w.ok t h2
theorem A6 {many:Int}{ts:List eu}(w:lQ many ts):∀{s:List Int},gX ts s->∀v∈dQ ts s,0<=v/\v<many
 | [],_,v,hv=>by simp[dQ] at hv
 | k::s,h,v,hv=>by
  rw[kx] at hv;have ht:=Fe w (h k (ar ..));have a0:=ht.a0;have ab:=ht.ab;have bm:=ht.bm;rcases aK.mp hv with hv | hv
  .unfold nV at hv
   rcases av.mp hv with rfl | hv
   .omega
   .rw[aq.mp hv];omega
  .exact A6 w (λi hi=>h i (ai _ hi)) v hv
theorem vz {many:Int}{ts:List eu}(w:lQ many ts){s:List Int}(h:gX ts s):∀v∈d7 (dQ ts s),0<=v/\v<many:=λv hv =>
 A6 w h v (cj.mp (by have:=fN.mp hv;omega))
theorem Ff {many:Int}{ts:List eu}(w:lQ many ts){s:List Int}(h:gX ts s):(d7 (dQ ts s)).length<=9:=by
 have:=gf (iS (dQ ts s)) (ns:=fc 0 many.toNat) λv hv=>gg.mpr (by have:=vz w h v hv;omega);rw[fy] at this;have:=w.m1;omega
theorem Mf {ts:List eu}{k:Int}{t:eu}(h:ts[k.toNat]? = some t):sI ts k=t.2.2:=by
 unfold sI;rw[az,h];rfl
theorem Fg {ts:List eu}{pre post:List af}{d:af}(h:pre++d::post=((ts.map e8).zipIdx).map (λp=>af.tuple [.int (p.2:Nat),p.1])):∃t,ts[pre.length]? = some t/\d=.tuple [.int (pre.length:Int),e8 t]:=by
 have e:(pre++d::post)[pre.length]? = some d:=by simp
 rw[h,aE,List.getElem?_zipIdx,aE] at e
 cases ht:ts[pre.length]? with
 | none=>rw[ht] at e;cases e
 | some t =>
  rw[ht] at e;simp at e;exact⟨t,rfl,e.symm⟩
section
variable {n:Int}{X:XQ}{Q:af->Int->Prop}
theorem pN {a b:List Int}(h:a.length+b.length<=60)(ha:a.Nodup)(hb:b.Nodup):ff [dD a,dD b] n Q X=Q (dD (d7 (a++b))) n:=by
 have e1:dD a=.tuple (a.map .int):=rfl;have e2:dD b=.tuple (b.map .int):=rfl;simp! [ff,i9,e1,e2]
 rw[ox (λk=>.int k) (λk=>!decide (k∈b)) _ _ _ _ (λk _ n Q=>by simp! [dC]) (λk _ n Q=>by simp! [qM]),
  ox (λk=>.int k) (λk=>!decide (k∈a)) _ _ _ _ (λk _ n Q=>by simp! [dC]) (λk _ n Q=>by simp! [qM])]
 have l1:=cb (λk=>!decide (k∈b)) a;have l2:=cb (λk=>!decide (k∈a)) b
 have e3:gZ (.list ([]++(a.filter λk=>!decide (k∈b)).map λk=>af.int k)) (.list ([]++(b.filter λk=>!decide (k∈a)).map λk=>af.int k))=some (.list (((a.filter λk=>!decide (k∈b))++(b.filter λk=>!decide (k∈a))).map .int)):=by
  rw[aW,aW,Lw (by rw[au,au];omega),aO]
 have hl:((a.filter λk=>!decide (k∈b))++(b.filter λk=>!decide (k∈a))).length<64:=by rw[aH];omega
 have es:sortI ((a.filter λk=>!decide (k∈b))++(b.filter λk=>!decide (k∈a)))=d7 (a++b):=E8 (iR _) (fx _) ((sortI_perm _).trans (nj ha hb).symm);generalize []++(a.filter λk=>!decide (k∈b)).map (λk=>af.int k)=l at e3 ⊢;generalize []++(b.filter λk=>!decide (k∈a)).map (λk=>af.int k)=l' at e3 ⊢;simp! [e3,hV,hl,es,gE,dD]
theorem xO {many:Int}{ts:List eu}(w:lQ many ts){s:List Int}(h:gX ts s){k:Int}{t:eu}(hk:0<=k/\k<(ts.length:Int))(ht:ts[k.toNat]? = some t):ff [dD (d7 (dQ ts s)),.tuple [.int t.1,.int t.2.1]] n Q X=Q (dD (d7 (dQ ts (s++[k])))) n:=by
 have Ug:=Fe w hk;rw[az,ht] at Ug;have ab:t.1<t.2.1:=Ug.ab;have e:af.tuple [.int t.1,.int t.2.1]=dD (nV ts k):=by rw[rL ht];rfl
 have:=Ff w h;rw[e,pN (by rw[rL ht];simp;omega) (iS _) (by rw[rL ht];simp;omega),oT,gY,kx];simp[dQ]
theorem xP {many:Int}{ts:List eu}(w:lQ many ts){s:List Int}(h:gX ts s)(hq:Q (dD (d7 (dQ ts s))) n):kn [eV many ts,dD s] n Q X:=by
 have e0:eV many ts=.tuple [.int many,.tuple (ts.map e8)]:=rfl;have es:dD s=.tuple (s.map .int):=rfl;unfold kn m5;simp only[mQ,iH,envOf,ak,bw,ao,bn,Nat.reduceSub,Nat.reduceAdd,aN,bg,be,aW];rw[es];simp! [dC];refine jR (λpre post env n'=>∃(a b:List Int) (x3:Option Ent),env=[some (.s (eV many ts)),some (.s (.tuple (s.map .int))),some (.s (dD (d7 (dQ ts a)))),x3]/\a++b=s/\post=b.map .int/\n'=n) _ [] _ _ ?_ ⟨[],s,none,rfl,rfl,rfl,rfl⟩ ?_
 .rintro pre d post env n' E' hE ⟨a,b,x3,rfl,mR,qX,rfl⟩ B3
  cases b with
  | nil=>cases qX
  | cons k b =>
   rw[ak] at qX;injection qX with h1 h2;subst h1;have hk:k∈s:=by rw[<- mR];simp
   obtain⟨t,ht,_,MG⟩:=vt (h k hk).1 (h k hk).2;rw[e0];simp! [kF,MG,Ki];rw[xO w (λi hi=>h i (by rw[<- mR];exact bx _ hi)) (h k hk) ht];exact B3 _ _ ⟨a++[k],b,_,rfl,by rw[<- mR];simp,h2,rfl⟩
 .rintro pre env n' ⟨a,b,x3,rfl,mR,qX,rfl⟩
  have hb:b=[]:=by cases b with | nil=>rfl | cons _ _=>cases qX
  subst hb;rw[bR] at mR;subst mR;simp! [dC];exact hq
theorem rR {many:Int}{ts:List eu}(hl:ts.length<=16)(hn:n+16<=iA)(h:∀s:List Int,s.Sublist (fc 0 ts.length)->Q (dD s) (n+ts.length)):iy [eV many ts] n Q X:=by
 have e0:eV many ts=.tuple [.int many,.tuple (ts.map e8)]:=rfl;have A5:iA=1099511627776:=by decide
 unfold iy jB;simp only[mQ,iH,envOf,ak,bw,ao,bn,Nat.reduceSub,Nat.reduceAdd,aN,bg,be,aW];rw[e0];simp! [kF,mx,au];refine⟨⟨!1,!1⟩,?_⟩;rw[bU,kl];refine l5 (λd n Q hn hq=>?_) _ [] _ _ (by rw[fy];omega) λs hs=>?_
 .simp! [dC]
  refine iu (!2) (!2) (!1) λr r0 r1=>?_;simp! [lX];exact hq _
 rw[aW,fy];simp! [gE];exact h s hs
end
structure gx (ts:List eu) (told s:List Int):Prop where
 num:gX ts s
 nd:s.Nodup
 odd:∀v,(dQ ts s).count v % 2=1↔v∈told
noncomputable def iD (ts:List eu)(told:List Int)(c:Int):Prop:=(∃s,gx ts told s/\eL ts s=c)/\∀s,gx ts told s->c<=eL ts s
theorem iD.one {ts:List eu}{told:List Int}{c d:Int}(h:iD ts told c)(k:iD ts told d):c=d:=by
 obtain⟨⟨s,hs,rfl⟩,h2⟩:=h;obtain⟨⟨t,ht,rfl⟩,k2⟩:=k;exact Int.le_antisymm (h2 t ht) (k2 s hs)
theorem jf {ts:List eu}(hp:Plain ts):∀{s:List Int},gX ts s->0<=eL ts s
 | [],_=>bz _
 | k::s,h=>by
  have h1:=jf hp (s:=s) λj hj=>h j (ai _ hj);have h2:=hp _ (rP (h k (ar ..)));have e:eL ts (k::s)=sI ts k+eL ts s:=rfl;have h3:0<=sI ts k:=h2;omega
theorem xQ {ts:List eu}{told:List Int}(hp:Plain ts)(h:∃s,gx ts told s):∃c,iD ts told c:=by
 have key:∀(m:Nat) (s:List Int),gx ts told s->(eL ts s).toNat<=m->∃c,iD ts told c:=by
  intro m
  induction m with
  | zero =>
   intro s hs hm;have h0:=jf hp hs.num;exact⟨eL ts s,⟨s,hs,rfl⟩,λt ht=>by have:=jf hp ht.num;omega⟩
  | succ m ih =>
   intro s hs hm;by_cases hz:∃t,gx ts told t/\eL ts t<eL ts s
   .obtain⟨t,ht,gn⟩:=hz
    have h0:=jf hp ht.num;exact ih t ht (!1)
   .exact⟨eL ts s,⟨s,hs,rfl⟩,λt ht=>Int.not_lt.mp λz=>hz ⟨t,ht,z⟩⟩
 obtain⟨s,hs⟩:=h;exact key _ s hs (am _)
theorem nZ {l:List Int}(hl:l.Nodup){a b:Int}(mR:a≠b){v:Int}:v∈d7 (l++[a,b])↔¬ (v∈l↔(v=a\/v=b)):=by
 rw[tR hl (by simp[mR])];simp
theorem gx.turns {ts:List eu}{A B C s t:List Int}(h:gx ts A s)(k:gx ts B t)(hC:∀v,v∈C↔¬ (v∈A↔v∈B)):gx ts C (d7 (s++t)):=by
 refine⟨HN h.num k.num,iS _,λv=>?_⟩;have hp:=jd (ts:=ts) (nj h.nd k.nd);have e1:=oQ (ts:=ts) (r:=s.filter λj=>decide (j∈t)) h.nd (h.nd.filter _) (λj hj=>(aT.mp hj).1) v;have e2:=oQ (ts:=ts) (r:=t.filter λj=>decide (j∈s)) k.nd (k.nd.filter _) (λj hj=>(aT.mp hj).1) v;have e3:=(jd (ts:=ts) (Ca h.nd k.nd)).count_eq v;have e4:=hp.count_eq v;rw[gY,bV] at e4;have f1:(s.filter λj=>!decide (j∈s.filter λj=>decide (j∈t)))=s.filter λj=>!decide (j∈t):=List.filter_congr λj hj=>by simp[hj]
 have f2:(t.filter λj=>!decide (j∈t.filter λj=>decide (j∈s)))=t.filter λj=>!decide (j∈s):=List.filter_congr λj hj=>by simp[hj]
 rw[f1] at e1;rw[f2] at e2;have o1:=h.odd v;have o2:=k.odd v;rw[hC v,<- o1,<- o2];omega
theorem zK {ts:List eu}(hp:Plain ts){s t:List Int}(hs:gX ts s)(ht:gX ts t)(ns:s.Nodup)(nt:t.Nodup):eL ts (d7 (s++t))<=eL ts s+eL ts t:=by
 rw[l0 (nj ns nt),jv];have e1:=rF ts (λk=>decide (k∈t)) s;have e2:=rF ts (λk=>decide (k∈s)) t;have l1:=jf hp (s:=s.filter λk=>decide (k∈t)) λj hj=>hs j (aT.mp hj).1;have l2:=jf hp (s:=t.filter λk=>decide (k∈s)) λj hj=>ht j (aT.mp hj).1;omega
noncomputable def vK (b:Bool):Nat:=if b=true then 1 else 0
theorem Fh {ts:List eu}(rest:List Int){a:Int}:∀(m:Nat) (s:List Int) (x:Int) (vs:List Int) (c:Int),s.length<=m->gX ts s->s.Nodup->Wk ts a x vs c->(∀v,(dQ ts s).count v % 2=(vK (decide (v∈rest))+vK (decide (v=x))) % 2) ->
  ∃b∈rest,∃Qk c' s',Wk ts a b Qk c'/\gX ts s'/\s'.Nodup/\(∀v,(dQ ts s').count v % 2=(vK (decide (v∈rest))+vK (decide (v=b))) % 2)/\c' + eL ts s'<=c+eL ts s:=by
 intro m
 induction m with
 | zero =>
  intro s x vs c hl hn hd hw ho;have e:s=[]:=cW (!1);subst e;by_cases hx:x∈rest
  .exact⟨x,hx,vs,c,[],hw,hn,hd,ho,bz _⟩
  .have:=ho x
   simp[dQ,vK,hx] at this
 | succ m ih =>
  intro s x vs c hl hn hd hw ho;by_cases hx:x∈rest
  .exact⟨x,hx,vs,c,s,hw,hn,hd,ho,bz _⟩
  .have h1:(dQ ts s).count x % 2=1:=by rw[ho x];simp[vK,hx]
   have SE:x∈dQ ts s:=cj.mp (!1);obtain⟨l,FI,vZ⟩:=List.mem_flatten.mp SE;obtain⟨k,hk,rfl⟩:=aQ.mp FI;have Qh:=hn k hk;have VX:=rP (ts:=ts) Qh;have Qj:nV ts k=[(fV ts k).1,(fV ts k).2.1]:=rfl;rw[Qj] at vZ
   obtain⟨y,hy⟩:∃y,x=(fV ts k).1/\y=(fV ts k).2.1\/x=(fV ts k).2.1/\y=(fV ts k).1:=by
    simp only[av,cv,or_false] at vZ;rcases vZ with e | e
    .exact⟨_,.inl ⟨e,rfl⟩⟩
    .exact⟨_,.inr ⟨e,rfl⟩⟩
   have OD:=Wk.step hw (fV ts k) VX y hy;have EX:=oQ (ts:=ts) (r:=[k]) hd (!4) (by simpa using hk);have hp:=rE hd (by simp:([k]:List Int).Nodup) (by simpa using hk)
   have hlen:(s.filter λj=>!decide (j∈[k])).length<=m:=by
    have:=hp.length_eq;rw[aH,bB] at this;omega
   have Pk:eL ts s=sI ts k+eL ts (s.filter λj=>!decide (j∈[k])):=by
    rw[l0 hp,jv];simp[eL]
   have SF:∀v,(dQ ts [k]).count v=vK (decide (v=x))+vK (decide (v=y)):=λv=>by
    have e:dQ ts [k]=[(fV ts k).1,(fV ts k).2.1]:=by rw[kx,Qj];rfl
    have c1:∀z:Int,[z].count v=vK (decide (v=z)):=λz=>by
     rw[cg];unfold vK;by_cases h:v=z
     .subst h;simp
     .have h2:¬ z=v:=λq=>h q.symm
      simp[h,h2]
    have c2:∀z w:Int,[z,w].count v=vK (decide (v=z))+vK (decide (v=w)):=λz w=>by
     rw[show ([z,w]:List Int)=[z]++[w] from rfl,bV,c1,c1]
    rw[e,c2];rcases hy with⟨rfl,rfl⟩ | ⟨rfl,rfl⟩<;>omega
   obtain⟨b,hb,Qk,c',s',w',n',d',o',W3⟩:=ih (s.filter λj=>!decide (j∈[k])) y _ _ hlen (λj hj=>hn j (aT.mp hj).1) (hd.filter _) OD λv=>by
    have h2:=EX v;have h3:=SF v;have h4:=ho v;omega
   refine⟨b,hb,Qk,c',s',w',n',d',o',?_⟩;have e:(fV ts k).2.2=sI ts k:=rfl;rw[Pk];omega
theorem rS {many:Nat}{ts:List eu}{a:Int}{rest s:List Int}{hs:Hs}(hg:nX many ts a hs)(hn:(a::rest).Nodup)(h:gx ts (a::rest) s) :
  ∃b∈rest,∃d s',kN hs b=some d/\gx ts (d7 ((a::rest)++[a,b])) s'/\d+eL ts s'<=eL ts s:=by
 obtain⟨na,nr⟩:=aZ.mp hn
 obtain⟨b,hb,vs,c,s',w,n',d',o',le⟩:=Fh (ts:=ts) rest _ s a [] 0 (am _) h.num h.nd .nil λv=>by
  have:=h.odd v;rw[av] at this;by_cases z:v=a
  .subst z
   rw[this.mpr (.inl rfl)];simp[vK,na]
  .by_cases zr:v∈rest
   .rw[this.mpr (.inr zr)]
    simp[vK,z,zr]
   .have h0:¬ (dQ ts s).count v % 2=1:=λq=>by rcases this.mp q with q | q;exact z q;exact zr q
    simp[vK,z,zr];omega
 have mR:a≠b:=λz=>na (z ▸ hb);obtain⟨d,hd,my⟩:=hg.low w;refine⟨b,hb,d,s',hd,⟨n',d',λv=>?_⟩,!1⟩;rw[nZ hn mR,o' v];by_cases z:v=a
 .subst z
  simp[vK,na,mR]
 .by_cases zb:v=b
  .subst zb
   simp[vK,hb]
  .by_cases zr:v∈rest<;>simp[vK,z,zb,zr]
theorem Cj {many:Nat}{ts:List eu}{a b d:Int}{rest s':List Int}{hs:Hs}(hp:Plain ts)(hg:nX many ts a hs)(hn:(a::rest).Nodup)(hb:b∈rest)(b0:0<=b)(b1:b<(many:Int))(hd:kN hs b=some d)(h:gx ts (d7 ((a::rest)++[a,b])) s') :
  ∃s,gx ts (a::rest) s/\eL ts s<=d+eL ts s':=by
 obtain⟨na,nr⟩:=aZ.mp hn;have mR:a≠b:=λz=>na (z ▸ hb);obtain⟨ks,k1,k2,k3,k4⟩:=hg.set b0 b1 hd
 have hk:gx ts [a,b] ks:=⟨k1,lO k2,λv=>by
  have:=congrArg (λl=>v∈l) k3;simp only[eq_iff_iff] at this;rw[<- fN,this,fN,bV,cg,cg];by_cases z1:v=a
  .subst z1;simp[mR.symm]
  .by_cases z2:v=b
   .subst z2;simp[Ne.symm z1]
   .simp[z1,z2,Ne.symm z1,Ne.symm z2]⟩
 refine⟨d7 (ks++s'),hk.turns h λv=>?_,by rw[<- k4];exact zK hp k1 h.num (lO k2) h.nd⟩;rw[nZ hn mR];by_cases z1:v=a
 .subst z1;simp
 .by_cases z2:v=b
  .subst z2;simp[hb]
  .simp[z1,z2]
noncomputable def zL (ts:List eu)(told:List Int)(d:af):Prop:=(∃c,d=.int c/\iD ts told c)\/(d=.none/\¬ ∃s,gx ts told s)
structure Rg (many:Int) (told:List Int):Prop where
 lt:told.Pairwise (· < ·)
 rg:∀v∈told,0<=v/\v<many
theorem Mg {m:Nat}(h:m<=9):2 ^ m<100000:=cz (Nat.pow_le_pow_right (n:=2) (!2) h) (!2)
noncomputable def Mi (many:Int)(hm:many<=9)(ts:List eu):jV:=⟨zL ts,pM many.toNat,[],by rw[rQ];exact Mg (!1)⟩
theorem Rg.sub {many:Int}{told:List Int}(h:Rg many told):told∈pM many.toNat:=by
 rw[nY]
 have e:told=(fc 0 many.toNat).filter λk=>decide (k∈told):=qK h.lt ((qb _).sublist c8) λk=>by
  rw[aT,gg];exact⟨λhk=>⟨by have:=h.rg k hk;omega,decide_eq_true hk⟩,λhk=>of_decide_eq_true hk.2⟩
 rw[e];exact c8
theorem Rg.len {many:Int}{told:List Int}(h:Rg many told)(hm:many<=9):told.length<=9:=by
 have:=gf (lO h.lt) (ns:=fc 0 many.toNat) λk hk=>gg.mpr (by have:=h.rg k hk;omega);rw[fy] at this;omega
theorem Rg.less {many a b:Int}{rest:List Int}(h:Rg many (a::rest))(hb:b∈rest):Rg many (d7 ((a::rest)++[a,b]))/\(d7 ((a::rest)++[a,b])).length+2=(a::rest).length:=by
 have hn:=lO h.lt;obtain⟨na,nr⟩:=aZ.mp hn;have mR:a≠b:=λz=>na (z ▸ hb)
 have key:∀v,v∈d7 ((a::rest)++[a,b])↔v∈rest.erase b:=λv=>by
  rw[nZ hn mR,List.Nodup.mem_erase_iff nr];by_cases z1:v=a
  .subst z1;simp[na]
  .by_cases z2:v=b
   .subst z2;simp[hb]
   .simp[z1,z2]
 have hp:(d7 ((a::rest)++[a,b])).Perm (rest.erase b):=(bQ (iS _) (nr.erase b)).mpr key;refine⟨⟨iR _,λv hv=>h.rg v (ai _ (List.mem_of_mem_erase ((key v).mp hv)))⟩,?_⟩;rw[hp.length_eq,dg hb,ao];have:=dn hb;omega
noncomputable def Mj (many:Int)(ts:List eu)(u v:Int):Option Int:=kN (fA many.toNat ts u) v
noncomputable def vA (many:Int)(ts:List eu):af:=.list ((fc 0 many.toNat).map λu=>Cd (fA many.toNat ts u))
noncomputable def f9 (o:Int × Int):af:=.tuple [.int o.1,.int o.2]
structure Off (many:Int) (ts:List eu) (a:Int) (rest some:List Int) (O:List (Int × Int)):Prop where
 snd:∀o∈O,o.2∈some/\∃d r,Mj many ts a o.2=Option.some d/\iD ts (d7 ((a::rest)++[a,o.2])) r/\o.1=d+r
 cmp:∀b∈some,∀d r,Mj many ts a b=Option.some d->iD ts (d7 ((a::rest)++[a,b])) r->(d+r,b)∈O
structure oU (many:Int) (ts:List eu):Prop where
 m1:many<=9
 w:L8 many ts
 hp:Plain ts
 pr:Pd ts
 len:ts.length<=16
theorem oU.MH {many:Int}{ts:List eu}(w:oU many ts){a:Int}(a0:0<=a)(a1:a<many):nX many.toNat ts a (fA many.toNat ts a) :=
 zE (λt ht=>by have:=w.w t ht;omega) w.hp a0 (!1)
section
variable {many a:Int}{ts:List eu}{rest:List Int}{O:List (Int × Int)}
theorem Off.none (w:oU many ts)(hr:Rg many (a::rest))(h:Off many ts a rest rest O)(h0:O=[]):¬ ∃s,gx ts (a::rest) s:=λ⟨s,hs⟩=>by
 have ha:=hr.rg a (ar ..);obtain⟨b,hb,d,s',hd,hj,_⟩:=rS (w.MH ha.1 ha.2) (lO hr.lt) hs;obtain⟨r,hl⟩:=xQ w.hp ⟨s',hj⟩;have:=h.cmp b hb d r hd hl;rw[h0] at this;cases this
theorem Off.least (w:oU many ts)(hr:Rg many (a::rest))(h:Off many ts a rest rest O){o:Int × Int}(ho:o∈O)(hm:∀q∈O,o.1<=q.1):iD ts (a::rest) o.1:=by
 have ha:=hr.rg a (ar ..)
 have low:∀s,gx ts (a::rest) s->o.1<=eL ts s:=λs hs=>by
  obtain⟨b,hb,d,s',hd,hj,my⟩:=rS (w.MH ha.1 ha.2) (lO hr.lt) hs;obtain⟨r,hl⟩:=xQ w.hp ⟨s',hj⟩;have h1:=hm _ (h.cmp b hb d r hd hl);have h2:=hl.2 s' hj;simp only at h1;omega
 obtain⟨hb,d,r,hd,⟨⟨s',hj,rfl⟩,hl⟩,e⟩:=h.snd o ho;have Jp:=hr.rg _ (ai _ hb);obtain⟨s,hs,hc⟩:=Cj w.hp (w.MH ha.1 ha.2) (lO hr.lt) hb Jp.1 (!1) hd hj;have:=low s hs;exact⟨⟨s,hs,!1⟩,low⟩
end
theorem HP (x:Option Int):me (je x) .none=some (.bool x.isSome):=by cases x<;>rfl
theorem Ck {ts:List eu}{told:List Int}{d:af}(h:zL ts told d):(∃c,d=.int c/\iD ts told c/\me d .none=some (.bool true))\/(d=.none/\(¬ ∃s,gx ts told s)/\me d .none=some (.bool false)):=by
 rcases h with⟨c,rfl,h⟩ | ⟨rfl,h⟩
 .exact .inl ⟨c,rfl,h,rfl⟩
 .exact .inr ⟨rfl,h,rfl⟩
theorem Fi {many:Int}{ts:List eu}{a:Int}(a0:0<=a)(a1:a<many):fh (vA many ts) (.int a)=some (Cd (fA many.toNat ts a)):=by
 unfold vA;rw[w4,mS a0 (by rw[au,fy];omega),aE]
 have:(fc 0 many.toNat)[a.toNat]? = some a:=by
  unfold fc;rw[aE,c7 (!1)];simp;omega
 rw[this];rfl
theorem Fj {many:Int}{ts:List eu}(w:oU many ts){a b:Int}(a0:0<=a)(a1:a<many)(b0:0<=b)(b1:b<many):fh (Cd (fA many.toNat ts a)) (.int b)=some (je (Mj many ts a b)):=by
 unfold Cd;rw[fC];exact qa b0 (by have:=(w.MH a0 a1).len;omega)
noncomputable def zM (many:Int)(ts:List eu)(Y:jV)(Rc:jV->UF)(len:Nat):Prop:=∀told,Rg many told->told.length<=len->∀(n:Int) (Q:af->Int->Prop),(∀d,zL ts told d->Q d n)->Rc Y [vA many ts,dD told] n Q Cr
section
variable {n:Int}{X:XQ}{Q:af->Int->Prop}{many a:Int}{ts:List eu}{rest:List Int}{Y:jV}{Rc:jV->UF}
noncomputable def Fl (Y:jV)(Rc:jV->UF):US:=(dC (eB 6 (dP (Rc Y) (du (dI 0) (du (dP gG (du (dI 1) (du (eW (du (dI 3) (du (dI 5) dA))) dA))) dA))))
 (fD (BI (d6 (dO me (dO fh (dO fh (dr 0) (dr 3)) (dr 5)) (uC .none))) (d6 (dO me (dr 6) (uC .none)))) (jl 4 ir (du (eW (du (dO gZ (dO fh (dO fh (dr 0) (dr 3)) (dr 5)) (dr 6)) (du (dI 5) dA))) dA)) eU))
theorem tZ (w:oU many ts)(hr:Rg many (a::rest))(hR:rest≠[]->zM many ts Y Rc (rest.length - 1)){E:jj}:∀(post pre:List Int) (O:List (Int × Int)) (x5 x6:Option Ent),pre++post=rest->Off many ts a rest pre O->O.length<=pre.length->(∀O x5 x6,Off many ts a rest rest O->O.length<=rest.length->E.nx [some (.s (vA many ts)),some (.s (dD (a::rest))),none,some (.s (.int a)),some (.o (O.map f9)),x5,x6] n) ->
  g7 (gj 5) (Fl Y Rc) E (post.map .int) [some (.s (vA many ts)),some (.s (dD (a::rest))),none,some (.s (.int a)),some (.o (O.map f9)),x5,x6] n
 | [],pre,O,x5,x6,hp,hO,hl,h=>by
  rw[bR] at hp;subst hp;exact h O x5 x6 hO hl
 | b::post,pre,O,x5,x6,hp,hO,hl,h=>by
  have hb:b∈rest:=by rw[<- hp];simp
  have ha:=hr.rg a (ar ..);have Jp:=hr.rg b (ai _ hb)
  have lS:pre.length<=9:=by
   have h1:=hr.len w.m1;have h2:=congrArg List.length hp;rw[aH,ao] at h2;rw[ao] at h1;omega
  have h9:=hr.len w.m1;obtain⟨rT,hlen⟩:=hr.less hb;rw[ak,g7,gj];simp only[ay,aw];unfold Fl;with_reducible generalize ht:fD _ _ _=t
  rw[dC,eB,dP,du,dI];simp only[aa,ae];rw[du,dP,du,dI];simp only[aa,ae];rw[du,eW,du,dI];simp only[aa,ae];rw[du,dI];simp only[aa,ae];rw[dA,dA,show af.tuple [.int a,.int b]=dD [a,b] from rfl,lP (by rw[ao] at h9 ⊢;simp;omega),dA];refine hR (List.ne_nil_of_mem hb) _ rT (by rw[ao] at hlen;omega) _ _ λd hd=>?_;simp only[ay,aw];subst ht
  have go:∀O':List (Int × Int),Off many ts a rest (pre++[b]) O'->O'.length<=pre.length+1->g7 (gj 5) (Fl Y Rc) E (post.map .int) [some (.s (vA many ts)),some (.s (dD (a::rest))),none,some (.s (.int a)),some (.o (O'.map f9)),some (.s (.int b)),some (.s d)] n:=λO' VY BE =>
   tZ w hr hR post (pre++[b]) O' _ _ (by rw[aF];exact hp) VY (by rw[aH,bB];exact BE) h
  rw[fD,BI,d6,dO,dO,dO,dr];simp only[aa,ae];rw[dr];simp only[aa,ae];rw[Fi ha.1 ha.2,dv,dr];simp only[aa,ae];rw[Fj w ha.1 ha.2 Jp.1 Jp.2,dv,uC,HP,dv,d3]
  have skip:(∀c r,Mj many ts a b=some c->¬ iD ts (d7 ((a::rest)++[a,b])) r)->Off many ts a rest (pre++[b]) O:=λoV=>⟨λo ho=>by obtain⟨h1,h2⟩:=hO.snd o ho;exact⟨bx _ h1,h2⟩,λq hq c r hc hl=>by
   rcases aK.mp hq with hq | hq
   .exact hO.cmp q hq c r hc hl
   .have e:=aq.mp hq
    subst e;exact absurd hl (oV c r hc)⟩
  cases hh:Mj many ts a b with
  | none =>
   rw[show (none:Option Int).isSome=false from rfl,if_neg (!2),if_neg (!2),eU];exact go O (skip λc r hc=>by rw[hh] at hc;cases hc) (!1)
  | some c =>
   rw[show (some c).isSome=true from rfl,if_pos rfl,d6,dO,dr];simp only[aa,ae];rw[uC];rcases Ck hd with⟨r,rfl,BE,e⟩ | ⟨rfl,oV,e⟩
   .rw[e,dv,d3,if_pos rfl,jl]
    simp only[aa,ae];rw[du,eW,du,dO,dO,dO,dr];simp only[aa,ae];rw[dr];simp only[aa,ae];rw[Fi ha.1 ha.2,dv,dr];simp only[aa,ae];rw[Fj w ha.1 ha.2 Jp.1 Jp.2,dv,hh,dr];simp only[aa,ae];rw[show je (some c)=.int c from rfl,ph,dv,du,dI];simp only[aa,ae];rw[dA,dA,i6 (by rw[au];omega),dv];simp only[ay,aw];have e2:O.map f9++[af.tuple [.int (c+r),.int b]]=(O++[(c+r,b)]).map f9:=by rw[aO];rfl
    rw[e2];refine go _ ⟨λo ho=>?_,λq hq c' r' hc Uh=>?_⟩ (by rw[aH,bB];omega)
    .rcases aK.mp ho with ho | ho
     .obtain⟨h1,h2⟩:=hO.snd o ho
      exact⟨bx _ h1,h2⟩
     .rw[aq.mp ho]
      exact⟨!4,c,r,hh,BE,rfl⟩
    .rcases aK.mp hq with hq | hq
     .exact bx _ (hO.cmp q hq c' r' hc Uh)
     .have e:=aq.mp hq
      subst e;rw[hh] at hc;cases hc;rw[Uh.one BE];simp
   .rw[e,dv,d3,if_neg (!2),eU]
    exact go O (skip λc r hc hl=>oV ⟨hl.1.choose,hl.1.choose_spec.1⟩) (!1)
theorem rV (w:oU many ts)(hr:Rg many (a::rest))(hR:rest≠[]->zM many ts Y Rc (rest.length - 1))(h:∀O,Off many ts a rest rest O->O.length<=rest.length->Q (.list (O.map f9)) n):fH Rc Y [vA many ts,dD (a::rest)] n Q X:=by
 have h9:=hr.len w.m1;unfold fH ET;refine⟨rfl,?_⟩;unfold ic;simp only[mQ,iH,envOf,ak,bw,ao,bn,Nat.reduceSub,Nat.reduceAdd,aN,bg,be,aW];with_reducible generalize hl:jP 4=l
 with_reducible generalize hb:dC (eB 6 _) _=b
 rw[dC,eB,dO,dr];simp only[aa,ae];rw[uC,show fh (dD (a::rest)) (.int 0)=some (.int a) by unfold dD;rw[fC,ak,gS],dv];simp only[ay,aw];rw[dC,mO,dA];simp only[ay,aw];rw[dC,iQ,Cq]
 have Qm:∀(e:eF) n Q,e[1]? = some (some (.s (dD (a::rest))))->Cp (dr 1) (DM (uC (.int 1))) DL e n Q=Q (.tuple (rest.map .int)) n:=λe n Q he=>by
  simp only[Cp,dr,he,DL,DM,uC,dD,Mz,BP _ 1 (!2),dv];rfl
 rw[Qm _ _ _ rfl];simp only[mN,dv];subst hb;refine tZ w hr hR rest [] [] _ _ rfl ⟨!4,!4⟩ (am _) λO x5 x6 hO hlen=>?_;show l _ _ _;subst hl;rw[jP];simp only[aa,ae];exact h O hO hlen
end
theorem A7 (x b:Int × Int):∃r,gk false (f9 x) (f9 b)=some r/\(r=true->x.1<=b.1)/\(r=false->b.1<=x.1):=by
 have e0:∀i j:Int,af.eqv (.int i) (.int j)=decide (i=j):=λi j=>by simp only[af.eqv];rfl
 rw[f9,f9,gk,gL,e0];by_cases h:x.1=b.1
 .rw[if_pos (decide_eq_true h)]
  obtain⟨r,hr⟩:=bO.mp (rN false [x.2] [b.2]);exact⟨r,hr,λ_=>by omega,λ_=>by omega⟩
 .rw[if_neg (by simpa using h),gk]
  exact⟨_,rfl,λz=>by have:=of_decide_eq_true z;omega,λz=>by have:=of_decide_eq_false z;omega⟩
theorem rW:∀(l:List (Int × Int)) (a:Int × Int),∃e∈a::l,iB false (f9 a) (l.map f9)=f9 e/\∀x∈a::l,e.1<=x.1
 | [],a=>⟨a,!4,rfl,λx hx=>by rw[aq.mp hx];omega⟩
 | b::l,a=>by
  obtain⟨r,hr,h1,h2⟩:=A7 b a;rw[ak,iB,hr,cw]
  cases r with
  | true =>
   rw[if_pos rfl];obtain⟨e,he,h3,h4⟩:=rW l b;refine⟨e,ai _ he,h3,λx hx=>?_⟩;rcases av.mp hx with rfl | hx
   .have:=h4 b (ar ..)
    have:=h1 rfl;omega
   .exact h4 x hx
  | false =>
   rw[if_neg (!2)];obtain⟨e,he,h3,h4⟩:=rW l a;refine⟨e,?_,h3,λx hx=>?_⟩
   .rcases av.mp he with rfl | he
    .simp
    .exact ai _ (ai _ he)
   .rcases av.mp hx with rfl | hx
    .exact h4 x (ar ..)
    .rcases av.mp hx with rfl | hx
     .have:=h4 a (ar ..)
      have:=h2 rfl;omega
     .exact h4 x (ai _ hx)
theorem A8 {O:List (Int × Int)}(h:O≠[]):∃e∈O,xh [.list (O.map f9)]=some (f9 e)/\∀x∈O,e.1<=x.1:=by
 cases O with
 | nil=>exact absurd rfl h
 | cons a l =>
  have hc:va false ((a::l).map f9):=λx hx=>by
   obtain⟨e,_,rfl⟩:=aQ.mp hx;refine⟨⟨rfl,by simp[f9,af.depth,af.depthAll]⟩,λy hy=>?_⟩;obtain⟨f,_,rfl⟩:=aQ.mp hy;obtain⟨r,hr,_⟩:=A7 e f;rw[hr];rfl
  obtain⟨e,h1,h2,h3⟩:=rW l a;refine⟨e,h1,?_,h3⟩;rw[ak] at hc ⊢;rw[show xh=qR false from rfl];unfold qR;simp only[];rw[if_pos hc,h2]
theorem A9 (f:Int->af){i:Nat}{ue:UX}{Q:List af->Int->Prop}{n:Int}:∀(ns:List Int) (acc:List af) (env:eF),(∀k∈ns,∀Q:af->Int->Prop,Q (f k) n->ue (env.set i (some (.s (.int k)))) n Q)->Q (acc++ns.map f) n->fY (gj i) DU ue Q (ns.map .int) acc env n
 | [],acc,env,_,h=>by simpa [fY] using h
 | k::ns,acc,env,he,h=>by
  rw[ak,fY,gj,DU,if_pos rfl];refine he k (ar ..) _ (A9 f ns _ _ (λj hj Q hq=>by rw[dq];exact he j (ai _ hj) Q hq) ?_);rw[aF];exact h
theorem zM.mono {many:Int}{ts:List eu}{Y:jV}{Rc:jV->UF}{l m:Nat}(h:zM many ts Y Rc m)(hl:l<=m):zM many ts Y Rc l:=λtold hr hm=>h told hr (!1)
section
variable {n:Int}{X:XQ}{Q:af->Int->Prop}{many a:Int}{ts:List eu}{rest:List Int}
theorem rX (w:oU many ts):∀d,zM many ts (Mi many w.m1 ts) (fI (d+1)) (2 * d+1):=λd told hr hl n Q h=>by
 rw[fI];unfold iK ET;refine⟨rfl,?_⟩;unfold iJ EU;simp only[mQ,iH,envOf,ak,bw,ao,bn,Nat.reduceSub,Nat.reduceAdd,aN,bg,be,aW];refine⟨told,rfl,hr.sub,λd hd=>h d hd,λiW=>?_⟩
 cases told with
 | nil=>exact absurd rfl iW
 | cons a rest =>
  rw[eB,dP,du,dI];simp only[aa,ae];rw[du,dI];simp only[aa,ae];rw[dA];rw[ao] at hl;refine rV w hr (λhn=>?_) λO hO VZ=>?_
  .cases d with
   | zero=>exact absurd (cW (!1)) hn
   | succ d=>exact (rX w d).mono (!1)
  .simp only[ay,aw]
   refine⟨rfl,?_⟩;rw[DC,d6,dO,oa,du,dr];simp only[aa,ae];rw[dA];simp only[mx,au,dv];rw[uC,show FC (.int (O.length:Int)) (.int 0)=some (.bool (decide ((O.length:Int) > 0))) from rfl,dv,d3];by_cases h0:O=[]
   .subst h0
    rw[if_neg (!2),uC];exact⟨rfl,.inr ⟨rfl,hO.none w hr rfl⟩,h _ (.inr ⟨rfl,hO.none w hr rfl⟩)⟩
   .obtain⟨e,he,hm,my⟩:=A8 h0
    rw[if_pos (by have:=List.length_pos_iff.mpr h0;exact decide_eq_true (!1)),dO,oa,du,dr];simp only[aa,ae];rw[dA,hm,dv,uC,f9,fC,gS,dv];have hL:=hO.least w hr he my;exact⟨rfl,.inl ⟨_,rfl,hL⟩,h _ (.inl ⟨_,rfl,hL⟩)⟩
theorem xR {place:Int}(wp:oU many ts)(p0:0<=place)(p1:place<many)(h:Q (Cd (fA many.toNat ts place)) n):gU [eV many ts,.int place] n Q X:=by
 have e0:eV many ts=.tuple [.int many,.tuple (ts.map e8)]:=rfl;have m1:=wp.m1;have lS:=wp.hp;have hg:=wp.MH p0 p1;generalize fA many.toNat ts place=hs at hg h;have hl:=hg.len;unfold gU i8;simp only[mQ,iH,envOf,ak,bw,ao,bn,Nat.reduceSub,Nat.reduceAdd,aN,bg,be,aW];with_reducible generalize Cf:fu _=tr
 rw[true_and,dC,eB,dP,du,dI];simp only[aa,ae];rw[du,dI];simp only[aa,ae];rw[dA];refine vx wp.w lS wp.len (!1) p0 p1 λK kvs hT hc=>?_;simp only[ay,aw];rw[<- Cf,fu,oa,du,uL,mz,Ll,dO,dr];simp only[aa,ae];rw[uC,e0,fC,gS,dv,<- e0];refine⟨⟨!1,!1⟩,?_⟩;simp only[qH,ak,bw,Option.join_some,aa,ae]
 rw[kl,ox (λv=>je (kN hs v)) (λ_=>true) _ _ _ _ (λv hv n Q=>by
  have hv:=gg.mp hv;have hH:=hT.Ma lS hc hg (v:=v) hv.1 (!1);have k1:∀n Q,dr 0 [some (.s (.int v)),some (.s (eM false kvs))] n Q=Q (.int v) n:=λn Q=>by simp only[dr,aa]
  have k2:∀n Q,dr 1 [some (.s (.int v)),some (.s (eM false kvs))] n Q=Q (eM false kvs) n:=λn Q=>by simp only[dr,aa,ae]
  rw[aw,DC,d6,vw k1 k2,d3]
  cases hv:kN hs v with
  | none =>
   rw[hv] at hH;have hH:eG kvs [v]=none:=hH;rw[hH];rfl
  | some c =>
   rw[hv] at hH;obtain⟨es,ps,_,e⟩:=hH;rw[e,Option.isSome_some,if_pos rfl,dO,A3 k1 k2 e,uC,fC,gS,dv];rfl) (λv _ n Q=>by simp! [dC]),aW]
 have e1:((fc 0 many.toNat).filter λ_=>true).map (λv=>je (kN hs v))=hs.map je:=by
  rw[List.filter_eq_self.mpr (!4)];refine List.ext_getElem? λi=>?_;unfold fc;rw[aE,aE,aE];by_cases hi:i<many.toNat
  .rw[c7 hi,aX (!1)]
   simp only[bS,kN];rw[show (0+(i:Int)).toNat=i by omega,az,aX (!1)];rfl
  .rw[bC (by simp;omega),bC (!1)]
   rfl
 rw[dA,e1];simp only[gE,dv];exact h
theorem rY (wp:oU many ts)(m0:1<=many)(h:Q (vA many ts) n):iw [eV many ts] n Q X:=by
 have e0:eV many ts=.tuple [.int many,.tuple (ts.map e8)]:=rfl;have m1:=wp.m1;unfold iw jz;simp only[mQ,iH,envOf,ak,bw,ao,bn,Nat.reduceSub,Nat.reduceAdd,aN,bg,be,aW];rw[true_and,fu,uL,mz,Ll,dO,dr];simp only[aa,ae];rw[uC,e0,fC,gS,dv,<- e0];refine⟨⟨!1,!1⟩,?_⟩;simp only[qH,ak,bw,Option.join_some,aa,ae];rw[kl];refine A9 (λu=>Cd (fA many.toNat ts u)) _ [] _ (λk hk Q hq=>?_) h;have hk:=gg.mp hk;simp only[aw];rw[dP,du,dI];simp only[aa,ae];rw[du,dI];simp only[aa,ae];rw[dA];exact xR wp hk.1 (!1) hq
inductive HQ (many:Int) (ts:List eu):List Int->List (Int × Int)->Int->Prop
 | nil:HQ many ts [] [] 0
 | cons {a b d c:Int} {rest:List Int} {ps:List (Int × Int)} (hb:b∈rest) (hd:Mj many ts a b=some d) (h:HQ many ts (d7 ((a::rest)++[a,b])) ps c):HQ many ts (a::rest) ((a,b)::ps) (d+c)
theorem t5 (hp:Plain ts):iD ts [] 0:=⟨⟨[],⟨λk hk=>(nomatch hk),cQ,λv=>by simp[dQ]⟩,rfl⟩,λs hs=>jf hp hs.num⟩
theorem lR {told:List Int}(w:oU many ts)(m0:1<=many)(hr:Rg many told)(h1:(¬ ∃s,gx ts told s)->Q .none n)(h2:∀ps c,HQ many ts told ps c->iD ts told c->Q (.tuple (ps.map f9)) n):ix [eV many ts,dD told] n Q X:=by
 have h9:=hr.len w.m1;unfold ix jA;simp only[mQ,iH,envOf,ak,bw,ao,bn,Nat.reduceSub,Nat.reduceAdd,aN,bg,be,aW];with_reducible generalize V0:vp _ _ _ _=lk
 rw[true_and,dC,eB,dP,du,dI];simp only[aa,ae];rw[dA];refine rY w m0 ?_;simp only[ay,aw];subst V0;unfold vp;refine⟨!4,?_⟩;rw[eW,dA,uC,show km true (.tuple [])=some [] from rfl,dv];refine⟨Mi many w.m1 ts,.inl ⟨0,rfl,t5 w.hp⟩,rfl,(Rg.sub (many:=many) (told:=[]) ⟨!4,!4⟩),rfl,?_⟩;simp only[ak,bw,HI,ay,aw];generalize hY:Mi many w.m1 ts=Y;have hP:zM many ts Y gy 9:=by rw[<- hY];exact rX w 4
 with_reducible generalize ht:dC (mO 4 dA) _=t
 rw[dC,fD,d6,dO,dP,du,dI];simp only[aa,ae];rw[du,dI];simp only[aa,ae];rw[dA];refine hP told hr h9 _ _ λd hd=>?_;rw[uC];rcases hd with⟨c,rfl,hc⟩ | ⟨rfl,oV⟩
 .rw[show uP (.int c) .none=some (.bool false) from rfl,dv,d3,if_neg (!2),eU]
  show t _ _ _;subst ht;with_reducible generalize Cf:fu _=tr
  rw[dC,mO,dA];simp only[ay,aw];rw[dC,eB,dI];simp only[aa,ae,ay,aw];rw[dC];unfold oq
  refine⟨λm env n'=>n'=n/\∃(left:List Int) (ps:List (Int × Int)) (e:Int) (x6:Option Ent),env=[some (.s (eV many ts)),some (.s (dD told)),some (.s (vA many ts)),none,some (.o (ps.map f9)),some (.s (dD left)),x6]/\Rg many left/\left.length=m/\left.length+ps.length<=9/\(∃c,iD ts left c)/\(∀qs c,HQ many ts left qs c->HQ many ts told (ps++qs) (e+c))/\∀c,iD ts left c->iD ts told (e+c),
   ⟨told.length,rfl,told,[],0,_,rfl,hr,rfl,h9,⟨c,hc⟩,λqs c hq=>by rw[Int.zero_add];exact hq,λc hq=>by rw[Int.zero_add];exact hq⟩,?_⟩
  rintro m env n' ⟨rfl,left,ps,e,x6,rfl,MF,hm,V1,⟨c',CA⟩,hA,hB⟩;rw[d6,dO,dr];simp only[aa,ae];rw[eW,dA]
  cases left with
  | nil =>
   rw[show wG (dD []) (.tuple [])=some (.bool false) from w6 (ns:=[]),dv,d3,if_neg (!2)];show tr _ _ _;rw[<- Cf,fu,oa,du,dr];simp only[aa,ae];rw[dA];simp only[gE,dv];have:=h2 _ _ (hA [] 0 .nil) (hB 0 (t5 w.hp));rw[bR] at this;exact this
  | cons a rest =>
   have iW:wG (dD (a::rest)) (.tuple [])=some (.bool true):=w6 (ns:=a::rest);rw[iW,dv,d3,if_pos rfl];have FI:=MF.len w.m1;rw[ao] at FI hm V1;with_reducible generalize V2:dC (jl 4 _ _) _=ta
   rw[dC,eB,eW,du,dO,dr];simp only[aa,ae];rw[uC,show fh (dD (a::rest)) (.int 0)=some (.int a) by unfold dD;rw[fC,ak,gS],dv,du,dO,oa,du,dP,du,dI];simp only[aa,ae];rw[du,dI];simp only[aa,ae];rw[dA];unfold ig;refine rV w MF (λ_=>hP.mono (!1)) λO hO VZ=>?_;have V3:O≠[]:=λz=>hO.none w MF z ⟨CA.1.choose,CA.1.choose_spec.1⟩;obtain⟨o,ho,SG,my⟩:=A8 V3;have hL:=hO.least w MF ho my;obtain⟨hb,d,r,hd,Ui,eo⟩:=hO.snd o ho;obtain⟨rT,hlen⟩:=MF.less hb;rw[dA,SG,dv,uC,f9,fC,kF,dv,dA];simp only[ay,aw];subst V2;rw[dC,jl];simp only[aa,ae];rw[du,dI];simp only[aa,ae];rw[dA,i6 (by rw[au];omega),dv];simp only[ay,aw];rw[eB,dP,du,dI];simp only[aa,ae];rw[du,dI];simp only[aa,ae];rw[dA,show af.tuple [.int a,.int o.2]=dD [a,o.2] from rfl,lP (by simp;omega)];simp only[ay,aw];rw[ao] at hlen;refine⟨(d7 ((a::rest)++[a,o.2])).length,!1,trivial,_,ps++[(a,o.2)],e+d,_,by rw[aO];rfl,rT,rfl,by rw[aH,bB];omega,⟨r,Ui⟩,λqs c hq=>?_,λc hq=>?_⟩
   .have:=hA ((a,o.2)::qs) (d+c) (.cons hb hd hq)
    rw[aF,Int.add_assoc];exact this
   .rw[hq.one Ui,Int.add_assoc,<- eo]
    exact hB _ hL
 .rw[show uP .none .none=some (.bool true) from rfl,dv,d3,if_pos rfl,fu,uC]
  exact h1 oV
end
theorem Pl:((pM 9).map tH).Nodup:=by decide +kernel
theorem Fm {α β:Type}{f:α->β}:∀{l:List α},(l.map f).Nodup->∀{a b:α},a∈l->b∈l->f a=f b->a=b
 | c::l,h,a,b,ha,hb,e=>by
  rw[ak] at h;obtain⟨h1,h2⟩:=aZ.mp h;rcases av.mp ha with e1 | kh<;>rcases av.mp hb with e2 | IQ
  .rw[e1,e2]
  .exact absurd (aQ.mpr ⟨b,IQ,by rw[<- e,e1]⟩) h1
  .exact absurd (aQ.mpr ⟨a,kh,by rw[e,e2]⟩) h1
  .exact Fm h2 kh IQ e
theorem HR {kvs:fW}(hn:(kvs.map (·.1)).Nodup)(hs:∀p∈kvs,p.1∈pM 9):(kvs.map λp=>tH p.1).Nodup:=by
 induction kvs with
 | nil=>exact cQ
 | cons p t ih =>
  rw[ak] at hn ⊢;obtain⟨h1,h2⟩:=aZ.mp hn;refine aZ.mpr ⟨λz=>?_,ih h2 λq hq=>hs q (ai _ hq)⟩;obtain⟨q,hq,e⟩:=aQ.mp z;have:=Fm Pl (hs q (ai _ hq)) (hs p (ar ..)) e;exact h1 (aQ.mpr ⟨q,hq,this⟩)
inductive sJ (ts:List eu) (k:Nat):List Int->af->Prop
 | mk (s:List Int) (h:s.Sublist (fc 0 k)):sJ ts k (d7 (dQ ts s)) (.tuple [.int (eL ts s),dD s])
structure xT (ts:List eu) (k:Nat) (kvs:fW):Prop where
 nd:(kvs.map (·.1)).Nodup
 row:∀p∈kvs,sJ ts k p.1 p.2
inductive sL (kvs:fW) (T:List Int) (c:Int):Prop
 | mk (c':Int) (x:af) (h:eG kvs T=some (.tuple [.int c',x])) (hc:c'<=c)
structure n6 (ts:List eu) (k:Nat) (kvs:fW):Prop where
 snd:xT ts k kvs
 low:∀s:List Int,s.Sublist (fc 0 k)->sL kvs (d7 (dQ ts s)) (eL ts s)
structure sM (ts:List eu) (k:Nat) (kvs:fW) (pre:List (List Int)) (mv:fW):Prop where
 snd:xT ts (k+1) mv
 old:∀T c,sL kvs T c->sL mv T c
 new:∀s:List Int,s.Sublist (fc 0 k)->d7 (dQ ts s)∈pre->sL mv (d7 (dQ ts (s++[(k:Int)]))) (eL ts s+sI ts k)
theorem n8 {ts:List eu}{k:Nat}(hk:k<=ts.length){s:List Int}(h:s.Sublist (fc 0 k)):gX ts s:=λi hi=>by
 have:=gg.mp (h.subset hi);omega
theorem Fn {many:Int}{ts:List eu}(w:lQ many ts){k:Nat}(hk:k<=ts.length){T:List Int}{v:af}(h:sJ ts k T v):T∈pM 9:=by
 obtain⟨s,h⟩:=h;have m1:=w.m1;exact Rg.sub (many:=9) ⟨iR _,λv hv=>by have:=vz w (n8 hk h) v hv;omega⟩
theorem xT.len {many:Int}{ts:List eu}{kvs:fW}(w:lQ many ts){k:Nat}(hk:k<=ts.length)(h:xT ts k kvs):kvs.length<=512:=by
 have:=ES h.nd (m:=pM 9) λT hT=>by
  obtain⟨p,hp,rfl⟩:=aQ.mp hT;exact Fn w hk (h.row p hp)
 rw[au,rQ] at this;exact this
theorem xT.hash {many:Int}{ts:List eu}{kvs:fW}(w:lQ many ts){k:Nat}(hk:k<=ts.length)(h:xT ts k kvs):(kvs.map λp=>tH p.1).Nodup:=HR h.nd λp hp=>Fn w hk (h.row p hp)
theorem xT.val {ts:List eu}{kvs:fW}{k:Nat}(h:xT ts k kvs){T:List Int}{v:af}(e:eG kvs T=some v):sJ ts k T v:=h.row _ (qZ e)
theorem sJ.more {ts:List eu}{k:Nat}{T:List Int}{v:af}(h:sJ ts k T v):sJ ts (k+1) T v:=by
 obtain⟨s,h⟩:=h;exact .mk s (by rw[l6];exact h.trans (List.sublist_append_left _ _))
theorem n6.nil (ts:List eu):n6 ts 0 [([],.tuple [.int 0,.tuple []])]:=by
 have e0:d7 (dQ ts [])=[]:=List.eq_nil_iff_forall_not_mem.mpr λv hv=>by have:=fN.mp hv;simp[dQ] at this
 refine⟨⟨!4,λp hp=>?_⟩,λs hs=>?_⟩
 .rw[aq.mp hp]
  have:=sJ.mk (ts:=ts) (k:=0) [] (List.nil_sublist _);rw[e0] at this;exact this
 .have:s=[]:=List.sublist_nil.mp hs
  subst this;rw[e0];exact .mk 0 (.tuple []) rfl (bz _)
theorem n6.mid {ts:List eu}{k:Nat}{kvs:fW}(h:n6 ts k kvs):sM ts k kvs [] kvs:=⟨⟨h.snd.nd,λp hp=>(h.snd.row p hp).more⟩,λ_ _ h=>h,λ_ _ z=>by cases z⟩
theorem sM.done {ts:List eu}{k:Nat}{kvs mv:fW}(h:n6 ts k kvs)(hm:sM ts k kvs (kvs.map (·.1)) mv):n6 ts (k+1) mv:=by
 refine⟨hm.snd,λs hs=>?_⟩;rw[l6] at hs;obtain⟨s1,s2,rfl,h1,h2⟩:=List.sublist_append_iff.mp hs;have key:=h.low s1 h1
 cases s2 with
 | nil=>rw[bR];exact hm.old _ _ key
 | cons x l =>
  have hl:l=[]:=by have:=h2.length_le;simp at this;exact this
  subst hl;have hx:x=(k:Int):=by simpa using h2.subset (aq.mpr rfl)
  subst hx;obtain⟨c',y,e,_⟩:=key;have:=hm.new s1 h1 (aQ.mpr ⟨_,qZ e,rfl⟩);rw[jv,show eL ts [(k:Int)]=sI ts k by simp[eL]];exact this
theorem sL.put {mv:fW}{T T':List Int}{c c2:Int}{x:af}(h:sL mv T c)(gn:T=T'->c2<=c):sL (gT mv T' (.tuple [.int c2,x])) T c:=by
 by_cases e:T=T'
 .exact .mk c2 x (by rw[lN,if_pos e]) (gn e)
 .obtain⟨c',y,h1,h2⟩:=h
  exact .mk c' y (by rw[lN,if_neg e];exact h1) h2
theorem HS {kvs:fW}{k:List Int}{d:af}{P:List Int->af->Prop}(h:∀p∈kvs,P p.1 p.2)(hk:P k d):∀p∈gT kvs k d,P p.1 p.2:=λp hp=>by
 unfold gT at hp;split at hp
 .obtain⟨q,hq,rfl⟩:=aQ.mp hp
  split
  .rename_i e;rw[e];exact hk
  .exact h q hq
 .rcases aK.mp hp with hp | hp
  .exact h p hp
  .rw[aq.mp hp];exact hk
theorem Mk {kvs:fW}{k:List Int}{d:af}(h:(kvs.map (·.1)).Nodup):((gT kvs k d).map (·.1)).Nodup:=by
 have e:=xK kvs k d;unfold iP at e;rw[e];split
 .exact h
 .rename_i hk
  refine b9.mpr ⟨h,!4,λa ha b hb z=>?_⟩;rw[aq.mp hb] at z;exact hk (z ▸ ha)
theorem sM.step {ts:List eu}{k:Nat}{kvs mv:fW}{pre:List (List Int)}(h:n6 ts k kvs)(hm:sM ts k kvs pre mv){s:List Int}(hs:s.Sublist (fc 0 k))(hv:eG kvs (d7 (dQ ts s))=some (.tuple [.int (eL ts s),dD s])) :
  (∀c x,eG mv (d7 (dQ ts (s++[(k:Int)])))=some (.tuple [.int c,x])->¬ eL ts s+sI ts k<c->sM ts k kvs (pre++[d7 (dQ ts s)]) mv) /\
  ((∀c x,eG mv (d7 (dQ ts (s++[(k:Int)])))=some (.tuple [.int c,x])->eL ts s+sI ts k<c)->sM ts k kvs (pre++[d7 (dQ ts s)]) (gT mv (d7 (dQ ts (s++[(k:Int)]))) (.tuple [.int (eL ts s+sI ts k),dD (s++[(k:Int)])]))):=by
 have same:∀s':List Int,d7 (dQ ts s')=d7 (dQ ts s)->d7 (dQ ts (s'++[(k:Int)]))=d7 (dQ ts (s++[(k:Int)])):=λs' e=>by rw[gY,gY,<- oT,e,oT]
 have low:∀s':List Int,s'.Sublist (fc 0 k)->d7 (dQ ts s')=d7 (dQ ts s)->eL ts s<=eL ts s':=λs' n9 e=>by
  obtain⟨c',x,h1,h2⟩:=h.low s' n9;rw[e,hv] at h1;injection h1 with h1;injection h1 with h1;injection h1 with h1 h3;injection h1 with h1;omega
 constructor
 .intro c x e hc
  refine⟨hm.snd,hm.old,λs' n9 hp=>?_⟩;rcases aK.mp hp with hp | hp
  .exact hm.new s' n9 hp
  .have e2:=aq.mp hp
   rw[same s' e2];exact .mk c x e (by have:=low s' n9 e2;omega)
 .intro gn
  have EW:∀T c,sL mv T c->sL (gT mv (d7 (dQ ts (s++[(k:Int)]))) (.tuple [.int (eL ts s+sI ts k),dD (s++[(k:Int)])])) T c:=λT c hL=>hL.put λz=>by
   obtain⟨c',x,h1,h2⟩:=hL;rw[z] at h1;have:=gn c' x h1;omega
  have hc:eL ts (s++[(k:Int)])=eL ts s+sI ts k:=by rw[jv,show eL ts [(k:Int)]=sI ts k by simp[eL]]
  refine⟨⟨Mk hm.snd.nd,HS hm.snd.row ?_⟩,λT c hL=>EW T c (hm.old T c hL),λs' n9 hp=>?_⟩
  .rw[<- hc]
   exact .mk _ (by rw[l6];exact hs.append (List.Sublist.refl _))
  .rcases aK.mp hp with hp | hp
   .exact EW _ _ (hm.new s' n9 hp)
   .have e2:=aq.mp hp
    rw[same s' e2];exact .mk _ _ (by rw[lN,if_pos rfl]) (by have:=low s' n9 e2;omega)
theorem n6.least {ts:List eu}{kvs:fW}(h:n6 ts ts.length kvs){told:List Int}(ht:told.Pairwise (· < ·)):(eG kvs told=none/\¬ ∃s,gx ts told s)\/∃c x,eG kvs told=some (.tuple [.int c,x])/\iD ts told c:=by
 have key:∀s,gx ts told s->sL kvs told (eL ts s):=λs hs=>by
  have hp:(sortI s).Perm s:=sortI_perm s
  have KC:(sortI s).Sublist (fc 0 ts.length):=by
   have gn:(sortI s).Pairwise (· < ·):=ji (fx s) (hp.nodup_iff.mpr hs.nd)
   have e:sortI s=(fc 0 ts.length).filter λk=>decide (k∈s):=qK gn ((qb _).sublist c8) λk=>by
    rw[aT,gg,hp.mem_iff];exact⟨λhk=>⟨by have:=hs.num k hk;omega,decide_eq_true hk⟩,λhk=>of_decide_eq_true hk.2⟩
   rw[e];exact c8
  have e:d7 (dQ ts (sortI s))=told:=qK (iR _) ht λv=>by
   rw[fN,(jd hp).count_eq];exact hs.odd v
  have:=h.low _ KC;rw[e,l0 hp] at this;exact this
 cases hv:eG kvs told with
 | none=>exact .inl ⟨rfl,λ⟨s,hs⟩=>by obtain⟨c,x,e,_⟩:=key s hs;rw[hv] at e;cases e⟩
 | some v =>
  have hr:=h.snd.val hv;obtain⟨s,hs⟩:=hr;refine .inr ⟨_,_,rfl,⟨s,⟨n8 (am _) hs,lO ((qb _).sublist hs),λv=>fN.symm⟩,rfl⟩,λs' n9=>?_⟩;obtain⟨c',x,e,my⟩:=key s' n9;rw[hv] at e;injection e with e;injection e with e;injection e with e e2;injection e with e;omega
theorem Cm (k:List Int):km true (dD k)=some k:=by simp only[km,dD,hV]
section
variable {n:Int}{X:XQ}{Q:af->Int->Prop}{many:Int}{ts:List eu}
theorem sJ.ex {k:Nat}{T:List Int}{v:af}(h:sJ ts k T v):∃c x,v=.tuple [.int c,x]:=by cases h;exact⟨_,_,rfl⟩
noncomputable def Fo:US:=(dC (eB 6 (dP ff (du (dI 5) (du (Cp (dr 3) DL (DM (uC (.int 2)))) dA))))
 (dC (eB 7 (eW (du (dO gZ (dO fh (o9 1 (dr 5)) (uC (.int 0))) (dO fh (dr 3) (uC (.int 2)))) (du (dO gZ (dO fh (o9 1 (dr 5)) (uC (.int 1))) (eW (du (dI 2) dA))) dA))))
 (fD (wB (d6 (AV 4 (dr 6))) (d6 (dO yL (dO fh (dr 7) (uC (.int 0))) (dO fh (xr 4 (dr 6)) (uC (.int 0)))))) (o8 4 (dr 6) (dI 7)) eU)))
theorem xU (w:lQ many ts)(hl:ts.length<=16){k:Nat}{t:eu}(ht:ts[k]? = some t){kvs:fW}(hT:n6 ts k kvs){a b:Addr}{o:Obj}{xs:List V}{E:jj}:∀(post pre:List (List Int)) (mv:fW) (x5 x6 x7:Option Ent),pre++post=kvs.map (·.1)->sM ts k kvs pre mv ->
  (∀(mv:fW) (x5 x6 x7:Option Ent),sM ts k kvs (kvs.map (·.1)) mv->(∀e,x5=some e\/x6=some e\/x7=some e->∃d,e=.s d)->E.nx [some (.s (eV many ts)),some (.f a o kvs xs),some (.s (.int k)),some (.s (e8 t)),some (.d b true mv),x5,x6,x7] n)->(∀e,x5=some e\/x6=some e\/x7=some e->∃d,e=.s d) ->
  mY 1 (.f a o kvs xs) (gj 5) Fo E (post.map dD) [some (.s (eV many ts)),some (.f a o kvs xs),some (.s (.int k)),some (.s (e8 t)),some (.d b true mv),x5,x6,x7] n
 | [],pre,mv,x5,x6,x7,hp,hm,h,hx=>by
  rw[bR] at hp;subst hp;exact⟨rfl,h mv x5 x6 x7 hm hx⟩
 | T::post,pre,mv,x5,x6,x7,hp,hm,h,hx=>by
  have hk:k<ts.length:=(aD.mp ht).1;have Uj:T∈kvs.map (·.1):=by rw[<- hp];simp
  obtain⟨p,TR,rfl⟩:=aQ.mp Uj;obtain⟨v,hv⟩:=bO.mp (rM.mpr Uj);have xo:=hT.snd.val hv;generalize p.1=T at *;obtain⟨s,hs⟩:=xo;have SH:gX ts s:=n8 (k:=k) (!1) hs;have Qm:s.length<=16:=by have:=hs.length_le;rw[fy] at this;omega
  have ek:sI ts k=t.2.2:=Mf ht;obtain⟨s1,s2⟩:=hm.step hT hs hv;have hlen:=hm.snd.len w (!1);have i2:fh (e8 t) (.int 2)=some (.int t.2.2):=by rw[e8,fC,D4]
  refine⟨rfl,?_⟩;rw[gj];simp only[ay,aw];unfold Fo;with_reducible generalize SI:dC (eB 7 _) _=tl
  rw[dC,eB,dP,du,dI];simp only[aa,ae];rw[du];have SJ:∀(e:eF) n Q,e[3]? = some (some (.s (e8 t)))->Cp (dr 3) DL (DM (uC (.int 2))) e n Q=Q (.tuple [.int t.1,.int t.2.1]) n:=λe n Q he=>by simp only[Cp,dr,he,DL,DM,uC,Ki,dv]
  rw[SJ _ _ _ rfl,dA,xO w SH (k:=(k:Int)) (!1) ht];simp only[ay,aw];subst SI;with_reducible generalize SI:fD _ _ _=tl
  have Uk:∀(e:eF) n Q,e[1]? = some (some (.f a o kvs xs))->e[5]? = some (some (.s (dD (d7 (dQ ts s)))))->o9 1 (dr 5) e n Q=Q (.tuple [.int (eL ts s),dD s]) n:=λe n Q h1 h5=>by simp only[o9,h1,dr,h5,Cm,dv,hv]
  rw[dC,eB,eW,du,dO,dO,Uk _ _ _ rfl rfl,uC,fC,gS,dv,dO,dr];simp only[aa,ae];rw[uC,i2,dv,ph,dv,du,dO,dO,Uk _ _ _ rfl rfl,uC,fC,kF,dv,eW,du,dI];simp only[aa,ae]
  have ea:gZ (dD s) (.tuple [.int (k:Int)])=some (dD (s++[(k:Int)])):=by
   unfold dD;rw[D8 (by rw[au];simp;omega),aO];rfl
  rw[dA,ea,dv,dA];simp only[ay,aw];rw[<- ek];subst SI;generalize d7 (dQ ts (s++[(k:Int)]))=T' at *
  have go:∀Qo:fW,sM ts k kvs (pre++[d7 (dQ ts s)]) Qo->mY 1 (.f a o kvs xs) (gj 5) Fo E (post.map dD) [some (.s (eV many ts)),some (.f a o kvs xs),some (.s (.int k)),some (.s (e8 t)),some (.d b true Qo),some (.s (dD (d7 (dQ ts s)))),some (.s (dD T')),some (.s (.tuple [.int (eL ts s+sI ts k),dD (s++[(k:Int)])]))] n:=λQo Mt =>
   xU w hl ht hT post (pre++[d7 (dQ ts s)]) Qo _ _ _ (by rw[aF];exact hp) Mt h λe he=>by
    rcases he with he | he | he<;>exact⟨_,(Option.some.inj he).symm⟩
  have put:(∀c x,eG mv T'=some (.tuple [.int c,x])->eL ts s+sI ts k<c)->o8 4 (dr 6) (dI 7) { nx:=mY 1 (.f a o kvs xs) (gj 5) Fo E (post.map dD),rt:=E.rt } [some (.s (eV many ts)),some (.f a o kvs xs),some (.s (.int k)),some (.s (e8 t)),some (.d b true mv),some (.s (dD (d7 (dQ ts s)))),some (.s (dD T')),some (.s (.tuple [.int (eL ts s+sI ts k),dD (s++[(k:Int)])]))] n:=λgn=>by
   rw[o8,dI];simp only[aa,ae];rw[dr];simp only[aa,ae];rw[Cm,dv];refine⟨⟨by rw[show aA=16777216 by decide];omega,λj t' kv hj z=>?_⟩,?_⟩
   .match j,hj,z with
    | 0,_,z=>simp at z
    | 1,_,z=>simp at z
    | 2,_,z=>simp at z
    | 3,_,z=>simp at z
    | 4,hj,_=>exact hj rfl
    | 5,_,z=>simp at z
    | 6,_,z=>simp at z
    | 7,_,z=>simp at z
    | j+8,_,z=>simp at z
   .simp only[ay,aw]
    exact go _ (s2 gn)
  rw[fD,wB,d6,AV,dr];simp only[aa,ae];rw[Cm,dv,d3]
  cases tm:eG mv T' with
  | none =>
   rw[show (!(none:Option af).isSome)=true from rfl,if_pos rfl,if_pos trivial];exact put λc x e=>by rw[tm] at e;cases e
  | some v' =>
   have Mx:=hm.snd.val tm;obtain⟨c',x',rfl⟩:=Mx.ex;rw[show (!(some (af.tuple [af.int c',x'])).isSome)=false from rfl,if_neg (!2),d6,dO,dO,dr];simp only[aa,ae];rw[uC,fC,gS,dv,dO,xr];simp only[aa,ae];rw[dr];simp only[aa,ae];rw[Cm,dv,tm,dv,uC,fC,gS,dv,yL,dv,d3];by_cases gn:eL ts s+sI ts k<c'
   .rw[if_pos (decide_eq_true gn)]
    exact put λc x e=>by
     rw[tm] at e;injection e with e;injection e with e;injection e with e e2;injection e with e;omega
   .rw[if_neg (by simpa using gn),eU]
    exact go mv (s1 _ _ tm gn)
noncomputable def Pm:US:=(dC (oH 4 1) (dC (xy 1 (gj 5) Fo) (qY 1 4)))
theorem vB (w:lQ many ts)(hl:ts.length<=16)(h:∀kvs,n6 ts ts.length kvs->Q (eM true kvs) n):jt [eV many ts] n Q X:=by
 have e0:eV many ts=.tuple [.int many,.tuple (ts.map e8)]:=rfl;unfold jt ly;simp only[mQ,iH,envOf,ak,bw,ao,bn,Nat.reduceSub,Nat.reduceAdd,aN,bg,be,aW];with_reducible generalize Cf:jP 1=tr
 with_reducible generalize hb:dC (oH 4 1) _=lb
 rw[true_and,dC,zq,eW,dA,eW,du,uC,du,eW,dA,dA,show km true (.tuple [])=some [] from rfl,dv];intro a ha;simp only[ay,aw];rw[dC,iQ,Oy,dO,dr];simp only[aa,ae];rw[uC,e0,fC,kF,dv,<- e0];simp only[mN,dv];unfold iY;have Qa:lb=Pm:=hb.symm;subst Qa;refine jR (λpre post env n'=>n'=n/\pre++post=((ts.map e8).zipIdx).map (λp=>af.tuple [.int (p.2:Nat),p.1])/\∃(a:Addr) (kvs:fW) (x2 x3 x5 x6 x7:Option Ent),env=[some (.s (eV many ts)),some (.d a true kvs),x2,x3,none,x5,x6,x7]/\n6 ts pre.length kvs/\∀e,x2=some e\/x3=some e\/x5=some e\/x6=some e\/x7=some e->∃d,e=.s d) _ [] _ _ ?_ ⟨rfl,rfl,a,_,none,none,none,none,none,rfl,n6.nil ts,λe he=>by simp at he⟩ ?_
 .rintro pre d post env n' E' hE ⟨rfl,Qq,a,kvs,x2,x3,x5,x6,x7,rfl,hT,hx⟩ B3
  obtain⟨t,ht,rfl⟩:=Fg Qq;have hk:pre.length<ts.length:=(aD.mp ht).1;simp only[yO,wL,gj,ay,aw];unfold Pm;rw[dC,oH];simp only[aa,ae];refine⟨hT.snd.hash w (!1),λb hb=>?_⟩;simp only[ay,aw];rw[dC,xy];simp only[aa,ae];have Mu:∀e,x5=some e\/x6=some e\/x7=some e->∃d,e=.s d:=λe he=>hx e (.inr (.inr he))
  have SK:∀(x:Option Ent) (a:Addr) (t':Bool) (kv:fW),(∀e,x=some e->∃d,e=.s d)->some x≠some (some (.d a t' kv)):=λx a t' kv V4 z=>by
   obtain⟨d,e⟩:=V4 _ (Option.some.inj z);cases e
  refine⟨λj t' kv hj z=>?_,λo xs=>?_⟩
  .match j,hj,z with
   | 0,_,z=>simp at z
   | 1,hj,_=>exact hj rfl
   | 2,_,z=>simp at z
   | 3,_,z=>simp at z
   | 4,_,z =>
    simp only[aa,ae,Option.some.injEq,Ent.d.injEq] at z;exact hb 1 true kvs (by rw[z.1];rfl)
   | 5,_,z=>exact SK x5 a t' kv (λe he=>Mu e (.inl he)) z
   | 6,_,z=>exact SK x6 a t' kv (λe he=>Mu e (.inr (.inl he))) z
   | 7,_,z=>exact SK x7 a t' kv (λe he=>Mu e (.inr (.inr he))) z
   | j+8,_,z=>simp at z
  .simp only[ay,aw]
   have V5:mG kvs=(kvs.map (·.1)).map dD:=by rw[bA];rfl
   rw[V5];refine xU w hl ht hT _ [] kvs x5 x6 x7 rfl hT.mid (λmv y5 y6 y7 hm hy=>?_) Mu;dsimp only;rw[qY];simp only[aa,ae,ay,aw];refine B3 _ _ ⟨rfl,by rw[aF];exact Qq,b,mv,_,_,y5,y6,y7,rfl,by rw[aH,bB];exact hm.done hT,λe he=>?_⟩;rcases he with he | he | he
   .exact⟨_,(Option.some.inj he).symm⟩
   .exact⟨_,(Option.some.inj he).symm⟩
   .exact hy e he
 .rintro pre env n' ⟨rfl,Qq,a,kvs,x2,x3,x5,x6,x7,rfl,hT,hx⟩
  have hl:=congrArg List.length Qq;rw[bR,au,List.length_zipIdx,au] at hl;rw[hl] at hT;show tr _ _ _;rw[<- Cf,jP];simp only[aa,ae];exact h kvs hT
end
noncomputable def Ml:US:=(fD (d6 (dO me (dO fh (dr 2) (dr 7)) (uC .none))) (dC (eB 9 (dO gZ (dO fh (dr 2) (dr 7)) (dr 6)))
 (fD (wB (d6 (dO uP (dO fh (dr 2) (dr 8)) (uC .none))) (d6 (dO yL (dr 9) (dO fh (dr 2) (dr 8))))) (o3 2 (dI 8) (dI 9)) eU)) eU)
section
variable {n:Int}{X:XQ}{Q:af->Int->Prop}
theorem Ba {E:jj}{hs:Hs}{one other p:Int}{x0 x1 x3 x4 x5 x9:Option Ent}(u0:0<=one)(u1:one<(hs.length:Int))(o0:0<=other)(o1:other<(hs.length:Int))
  (h:∀x9,E.nx [x0,x1,some (.o ((jZ hs one other p).map je)),x3,x4,x5,some (.s (.int p)),some (.s (.int one)),some (.s (.int other)),x9] n) :
  Ml E [x0,x1,some (.o (hs.map je)),x3,x4,x5,some (.s (.int p)),some (.s (.int one)),some (.s (.int other)),x9] n:=by
 have ha:=qa u0 u1;have hb:=qa o0 o1;have Ul:=E6 o0 o1;unfold Ml;unfold jZ at h;simp only[fD,d6,dO,dr,uC,aa,ae,w4,ha,dv]
 cases h1:kN hs one with
 | none =>
  rw[h1] at h;simp only[je,ip,dv,d3,me,dh,bK,if_false,eU];exact h _
 | some c =>
  rw[h1] at h;simp only[je,uP,ip,dv,d3,me,Bool.not_false,if_true,dC,eB,dO,dr,uC,w4,ha,h1,ph,ay,aw,fD,wB,d6,aa,ae,hb]
  cases h2:kN hs other with
  | none =>
   rw[h2] at h;simp only[je,uP,ip,dv,d3,if_true,o3,dI,aa,ae,au,Ul,ay,aw];have:=h (some (.s (.int (c+p))));rw[List.map_set] at this;exact this
  | some d =>
   rw[h2] at h;simp only[je,uP,ip,dv,d3,bK,if_false,yL];dsimp only at h;by_cases gn:c+p<d
   .simp only[gn,decide_true,if_true,o3,dI,aa,ae,au,Ul,dv,ay,aw] at h ⊢
    have:=h (some (.s (.int (c+p))));rw[List.map_set] at this;exact this
   .simp only[gn,decide_false,bK,if_false,eU] at h ⊢
    exact h _
noncomputable def HU:US:=(iQ (Cq (uL (du (eW (du (dI 4) (du (dI 5) dA))) (du (eW (du (dI 5) (du (dI 4) dA))) dA)))) (yO [(gj 7),(gj 8)]) Ml)
theorem xV {m:Int}{E:jj}{x0 x1 x3:Option Ent}:∀(us:List eu) (hs:Hs) (x4 x5 x6 x7 x8 x9:Option Ent),(hs.length:Int)=m->iN m us ->
  (∀x4 x5 x6 x7 x8 x9,E.nx [x0,x1,some (.o ((pj us hs).map je)),x3,x4,x5,x6,x7,x8,x9] n) ->
  g7 (yO [(gj 4),(gj 5),(gj 6)]) HU E (us.map e8) [x0,x1,some (.o (hs.map je)),x3,x4,x5,x6,x7,x8,x9] n
 | [],hs,x4,x5,x6,x7,x8,x9,_,_,h=>h _ _ _ _ _ _
 | t::us,hs,x4,x5,x6,x7,x8,x9,hl,he,h=>by
  have ht:=he t (ar ..);have ih:=λhs (hl:(hs.length:Int)=m) x4 x5 x6 x7 x8 x9=>xV (E:=E) (x0:=x0) (x1:=x1) (x3:=x3) us hs x4 x5 x6 x7 x8 x9 hl λu hu=>he u (ai _ hu);rw[ak,g7,e8];simp only[yO,wL,gj,ay,aw];unfold HU;simp only[iQ,Cq,uL,eW,du,dI,dA,aa,ae,mN,dv,g7,yO,wL,gj,ay,aw];refine Ba ht.1 (!1) ht.2.2.1 (!1) λx9=>?_;refine Ba ht.2.2.1 (by rw[gm];omega) ht.1 (by rw[gm];omega) λx9=>?_;exact ih _ (by rw[gm,gm];exact hl) _ _ _ _ _ _ h
theorem t6 {m many:Int}{ts:List eu}{E:jj}{x1:Option Ent}(he:iN m ts):∀(its:List af) (hs:Hs) (x3 x4 x5 x6 x7 x8 x9:Option Ent),(hs.length:Int)=m ->
  (∀x3 x4 x5 x6 x7 x8 x9,E.nx [some (.s (eV many ts)),x1,some (.o ((iM ts its.length hs).map je)),x3,x4,x5,x6,x7,x8,x9] n) ->
  g7 (gj 3) (iQ (Cq (dO fh (dr 0) (uC (.int 1)))) (yO [(gj 4),(gj 5),(gj 6)]) HU) E its [some (.s (eV many ts)),x1,some (.o (hs.map je)),x3,x4,x5,x6,x7,x8,x9] n
 | [],hs,x3,x4,x5,x6,x7,x8,x9,_,h=>h _ _ _ _ _ _ _
 | d::its,hs,x3,x4,x5,x6,x7,x8,x9,hl,h=>by
  have e0:eV many ts=.tuple [.int many,.tuple (ts.map e8)]:=rfl;rw[g7,gj];simp only[ay,aw];rw[iQ,Cq,dO,dr];simp only[aa,ae];rw[uC,e0,fC,kF,dv,<- e0];simp only[mN,dv];refine xV ts hs _ _ _ _ _ _ hl he λx4 x5 x6 x7 x8 x9=>?_;exact t6 he its _ _ _ _ _ _ _ _ (by rw[l3];exact hl) h
theorem zN {many place:Int}{ts:List eu}(m0:1<=many)(m1:many<=60)(he:iN many ts)(p0:0<=place)(p1:place<many)(h:Q (.list ((fA many.toNat ts place).map je)) n):jW [eV many ts,.int place] n Q X:=by
 have e0:eV many ts=.tuple [.int many,.tuple (ts.map e8)]:=rfl;have hsz:aA=16777216:=by decide
 unfold jW oJ;simp only[mQ,iH,envOf,ak,bw,ao,bn,Nat.reduceSub,Nat.reduceAdd,aN,bg,be,aW];with_reducible generalize Cf:jP 2=tr
 have SM:((List.replicate many.toNat [af.none]).flatten).set place.toNat (.int 0)=(pL many.toNat place).map je:=by
  unfold pL;rw[List.map_set,List.map_replicate];congr 1;simp[je]
 have hlen:(pL many.toNat place).length=many.toNat:=by unfold pL;simp
 rw[true_and,dC,mO,Lu];simp only[uL,du,uC,dA,dO,dr,aa,ae];rw[e0,fC,gS,dv,<- e0];refine⟨⟨!1,!1,by simp;omega⟩,?_⟩;simp only[ay,aw];rw[dC,o3];simp only[uC,dI,aa,ae];rw[E6 p0 (by simp;omega),dv,SM];simp only[ay,aw];rw[dC];show iQ (MB (dO fh (dr 0) (uC (.int 0)))) (gj 3) (iQ (Cq (dO fh (dr 0) (uC (.int 1)))) (yO [(gj 4),(gj 5),(gj 6)]) HU) _ _ _;rw[iQ,MB,dO,dr];simp only[aa,ae];rw[uC,e0,fC,gS,dv,<- e0];refine⟨!1,!1,?_⟩;refine t6 (m:=many) he _ _ _ _ _ _ _ _ _ (by rw[hlen];omega) λx3 x4 x5 x6 x7 x8 x9=>?_;rw[kl,au,fy,<- Cf];simp! [dC];exact h
end
theorem Rg.perm {many a b:Int}{rest:List Int}(h:Rg many (a::rest))(hb:b∈rest):([a,b]++d7 ((a::rest)++[a,b])).Perm (a::rest):=by
 have hn:=lO h.lt;obtain⟨na,nr⟩:=aZ.mp hn;have mR:a≠b:=λz=>na (z ▸ hb);refine (bQ (b9.mpr ⟨by simp[mR],iS _,λx hx y hy z=>?_⟩) hn).mpr λv=>?_
 .subst z
  have:=(nZ hn mR).mp hy;simp only[av,cv,or_false] at hx;rcases hx with rfl | rfl
  .simp at this
  .simp[hb] at this
 .rw[aK,nZ hn mR]
  by_cases z1:v=a
  .subst z1;simp
  .by_cases z2:v=b
   .subst z2;simp[hb]
   .simp[z1,z2]
theorem Rg.HV {many a b:Int}{rest:List Int}(h:Rg many (a::rest))(hb:b∈rest):∀v∈d7 ((a::rest)++[a,b]),v∈rest:=λv hv=>by
 have hn:=lO h.lt;obtain⟨na,nr⟩:=aZ.mp hn;have hp:=(h.perm hb);have Sm:=hp.nodup_iff.mpr hn;have h1:=hp.mem_iff.mp (aY _ hv);rcases av.mp h1 with rfl | h1
 .exact absurd rfl ((b9.mp Sm).2.2 v (!4) v hv)
 .exact h1
theorem HQ.Mm {many:Int}{ts:List eu}:∀{left:List Int} {ps:List (Int × Int)} {c:Int},HQ many ts left ps c->Rg many left->(∀p∈ps,p.1∈left/\p.2∈left)/\FG (ps.map λp=>[p.1,p.2])/\2 * ps.length=left.length:=λ{left ps c} h=>by
 induction h with
 | nil=>exact λ_=>⟨!4,!4,rfl⟩
 | @cons a b d c rest ps hb hd h ih =>
  intro hr;obtain⟨rT,hlen⟩:=hr.less hb;obtain⟨i1,i2,i3⟩:=ih rT;have O8:=hr.HV hb;have gn:=bP.mp hr.lt;refine⟨λp hp=>?_,?_,by simp only[ao] at hlen ⊢;omega⟩
  .rcases av.mp hp with rfl | hp
   .exact⟨ar ..,ai _ hb⟩
   .exact⟨ai _ (O8 _ (i1 p hp).1),ai _ (O8 _ (i1 p hp).2)⟩
  .rw[ak]
   refine bP.mpr ⟨λr Mx=>?_,i2⟩;obtain⟨p,hp,rfl⟩:=aQ.mp Mx;have:=gn.1 _ (O8 _ (i1 p hp).1);rw[jg,if_neg (!1)];exact decide_eq_false (!1)
theorem HW {many:Int}{ts:List eu}(w:lQ many ts)(hp:Plain ts)(hl:ts.length<=16):oU many ts:=⟨w.m1,λt ht=>by
 have:=w.ok t ht;have a0:=this.a0;have ab:=this.ab;have bm:=this.bm;exact⟨!1,!1,!1,!1⟩,hp,Md w,hl⟩
theorem Bb {many:Int}{told:List Int}(hm:many<=9)(h:Rg many told):Sz 10000 11 176 1 (dD told):=by
 have:=h.len hm;exact (Sz.tup (kP.ints (!2) λi hi=>by have:=h.rg i hi;omega)).mono (am _) (am _) (!1) (!2)
section
variable {n:Int}{X:XQ}{Q:af->Int->Prop}{many:Int}{ts:List eu}
noncomputable def Pn:US:=(dC (fD (wB (su (d6 (DY "tuple" (dr 7)))) (wB (d6 (dO wG (oa mx (du (dr 7) dA)) (uC (.int 2)))) (su (d6 (dO yL (dO fh (dr 7) (uC (.int 0))) (dO fh (dr 7) (uC (.int 1)))))))) (fu (uC (.bool false))) eU)
 (dC (eB 8 (dO fh (dP jW (du (dI 0) (du (dO fh (dr 7) (uC (.int 0))) dA))) (dO fh (dr 7) (uC (.int 1)))))
 (dC (fD (d6 (dO uP (dr 8) (uC .none))) (fu (uC (.bool false))) eU)
 (dC (eB 6 (dO gZ (dr 6) (dr 8)))
 (jl 5 jm (du (uL (wV (dr 7))) dA))))))
theorem Fp (w:oU many ts)(m0:1<=many){x1 x2 x3 x4:Option Ent}{E:jj}:∀{left:List Int} {ps:List (Int × Int)} {c:Int},HQ many ts left ps c->Rg many left->∀(pl:List Int) (wh:Int) (x7 x8:Option Ent),pl.length+left.length<=9 ->
  (∀(MI:List Int) x7 x8,MI.Perm (pl++left)->E.nx [some (.s (eV many ts)),x1,x2,x3,x4,some (.o (MI.map .int)),some (.s (.int (wh+c))),x7,x8] n) ->
  g7 (gj 7) Pn E (ps.map f9) [some (.s (eV many ts)),x1,x2,x3,x4,some (.o (pl.map .int)),some (.s (.int wh)),x7,x8] n:=λ{left ps c} h=>by
 induction h with
 | nil =>
  intro _ pl wh x7 x8 _ h;have:=h pl x7 x8 (by rw[bR]);rw[Int.add_zero] at this;exact this
 | @cons a b d c rest ps hb hd hp ih =>
  intro hr pl wh x7 x8 hl h;have hm:=w.m1;have ha:=hr.rg a (ar ..);have Jp:=hr.rg b (ai _ hb);have mR:a<b:=(bP.mp hr.lt).1 b hb;obtain⟨rT,hlen⟩:=hr.less hb;have Po:=hr.perm hb
  have MG:fh (.list ((fA many.toNat ts a).map je)) (.int b)=some (.int d):=by
   rw[w4,qa Jp.1 (by have:=(w.MH ha.1 ha.2).len;omega)];unfold Mj at hd;rw[hd];rfl
  rw[ak,g7,gj];simp only[ay,aw];unfold Pn;with_reducible generalize Pp:dC (eB 8 _) _=t1
  have i0:G7 "tuple" (f9 (a,b))=true:=rfl;have i1:fh (f9 (a,b)) (.int 0)=some (.int a):=by rw[f9,fC,gS]
  have i2:fh (f9 (a,b)) (.int 1)=some (.int b):=by rw[f9,fC,kF]
  have i3:mx [f9 (a,b)]=some (.int 2):=rfl;simp! [i0,i1,i2,i3,G9,yL,mR,decide_true,dh];subst Pp;with_reducible generalize Jq:dC (fD (d6 (dO uP _ _)) _ _) _=t2
  rw[dC,eB,dO,dP,du,dI];simp only[aa,ae];rw[du,dO,dr];simp only[aa,ae];rw[uC,i1,dv,dA];refine zN m0 (!1) w.w ha.1 ha.2 ?_;rw[dO,dr];simp only[aa,ae];rw[uC,i2,dv,MG,dv];simp only[ay,aw];subst Jq;have V6:uP (.int d) .none=some (.bool false):=rfl
  have SN:jm (pl.map .int) [.list [.int a,.int b]]=some ((pl++[a,b]).map .int):=by
   have hsz:aA=16777216:=by decide
   simp only[jm];rw[if_pos (by rw[au,hsz];simp;omega),aO];rfl
  simp! [V6,ph,f9,SN];refine ih rT (pl++[a,b]) (wh+d) _ _ (by simp only[aH,ao,bn] at hl hlen ⊢;omega) λMI y7 y8 ME=>?_;have:=h MI y7 y8 (ME.trans (by rw[aF];exact Po.append_left _));rw[Int.add_assoc];exact this
theorem vC {told:List Int}{kvs:fW}(w:lQ many ts)(lS:Plain ts)(hl:ts.length<=16)(hr:Rg many told)(hT:n6 ts ts.length kvs)(h:Q (.bool true) n):iC [eV many ts,dD told,eM true kvs] n Q X:=by
 have wp:=HW w lS hl;have m0:=w.m0;have h9:=hr.len w.m1;have PZ:Good (dD told):=(Bb w.m1 hr).good (!3) (!2) (!2) (!2);have hg:Good (.tuple [eV many ts,dD told]):=(Sz.tup (kP.cons (Me w hl) (kP.cons (Bb w.m1 hr) kP.nil))).good (!3) (!2) (!2) (!2);generalize hs:(af.tuple [eV many ts,dD told]).shown=shown;unfold iC lA;simp only[mQ,iH,envOf,ak,bw,ao,bn,Nat.reduceSub,Nat.reduceAdd,aN,bg,be,aW];with_reducible generalize Pp:dC (eB 4 _) _=t1
 rw[true_and,dC,eB,mB,eW,du,dI];simp only[aa,ae];rw[du,dI];simp only[aa,ae];rw[dA];refine⟨hg,?_⟩;simp only[ay,aw];rw[hs];subst Pp;with_reducible generalize Jq:dC (fD (wB (d6 (dO yW _ _)) _) _ _) _=t2
 rw[dC,eB,dP,du,dI];simp only[aa,ae];rw[du,dI];simp only[aa,ae];rw[dA];have xn:∀(e:eF) n Q,e[1]? = some (some (.s (dD told)))->e[2]? = some (some (.s (eM true kvs)))->xv (dr 1) (dr 2) e n Q=Q (.bool (!(eG kvs told).isSome)) n:=λe n Q h1 h2=>by simp only[xv,dr,h1,h2,oG,Cm,dv]
 have xg:∀(e:eF) n Q (d:af),e[1]? = some (some (.s (dD told)))->e[2]? = some (some (.s (eM true kvs)))->eG kvs told=some d->mF (dr 2) (dr 1) e n Q=Q d n:=λe n Q d h1 h2 hv=>by simp only[mF,dr,h1,h2,oG,Cm,hv,dv]
 have first:∀(d:af) (t:US) (E:jj),ip d=!(eG kvs told).isSome->t E [some (.s (eV many ts)),some (.s (dD told)),some (.s (eM true kvs)),some (.s (.str shown)),some (.s d),none,none,none,none] n ->
   dC (fD (wB (d6 (dO yW (mB (eW (du (dI 0) (du (dI 1) dA)))) (dr 3))) (d6 (dO wG (dO uP (dr 4) (uC .none)) (xv (dr 1) (dr 2))))) (fu (uC (.bool false))) eU) t E [some (.s (eV many ts)),some (.s (dD told)),some (.s (eM true kvs)),some (.s (.str shown)),some (.s d),none,none,none,none] n:=λd t E hd ht=>by
  rw[dC,fD,wB,d6,dO,mB,eW,du,dI];simp only[aa,ae];rw[du,dI];simp only[aa,ae];rw[dA];refine⟨hg,?_⟩;rw[hs,dr];simp only[aa,ae];rw[Cg,dv,d3,if_neg (!2),d6,dO,dO,dr];simp only[aa,ae];rw[uC,show uP d .none=some (.bool (ip d)) from rfl,dv,xn _ _ _ rfl rfl,wZ,dv,d3,hd,if_neg (!4),eU];exact ht
 rcases hT.least hr.lt with⟨hv,oV⟩ | ⟨c,x,hv,hL⟩
 .refine lR wp m0 hr (λ_=>?_) λps c' _ BE=>absurd ⟨BE.1.choose,BE.1.choose_spec.1⟩ oV
  simp only[ay,aw];subst Jq;refine first _ _ _ (by rw[hv];rfl) ?_
  have e1:uP .none .none=some (.bool true):=rfl;rw[dC,fD,d6,dO,dr];simp only[aa,ae];rw[uC,e1,dv,d3,if_pos rfl,fu,uC];exact h
 .refine lR wp m0 hr (λoV=>absurd ⟨hL.1.choose,hL.1.choose_spec.1⟩ oV) λps c' hP V7=>?_
  have ec:=V7.one hL;subst ec;simp only[ay,aw];subst Jq;refine first _ _ _ (by rw[hv];rfl) ?_
  obtain⟨Um,my,hlen⟩:=hP.Mm hr;have e1:uP (.tuple (ps.map f9)) .none=some (.bool false):=rfl;have e2:G7 "tuple" (.tuple (ps.map f9))=true:=rfl;have xo:ps.map f9=(ps.map λp=>[p.1,p.2]).map kL:=by rw[bA];rfl
  have V8:tE (ps.map λp=>[p.1,p.2])=ps.map λp=>[p.1,p.2]:=(tF (List.Perm.refl _) my).symm
  have iW:wG (.list (ps.map f9)) (.list (ps.map f9))=some (.bool false):=by
   have hz:Sz 10000 11 200 2 (.list (ps.map f9)):=by
    have hx:∀d∈ps.map f9,Sz 10000 11 22 1 d:=λd hd=>by
     obtain⟨p,hp,rfl⟩:=aQ.mp hd;have h1:=hr.rg _ (Um p hp).1;have h2:=hr.rg _ (Um p hp).2;have m1:=w.m1;exact (Sz.tup (kP.cons (Sz.small (by omega:p.1.natAbs<1024) (!2)) (kP.cons (Sz.small (by omega:p.2.natAbs<1024) (!2)) kP.nil))).mono (am _) (am _) (!2) (!2)
    have:=kP.all hx;rw[au] at this;exact (Sz.lst this).mono (am _) (am _) (!1) (!2)
   rw[u7 hz.lay hz.lay (bu hz.dp (!2)),PySem.SeqAt.eqv_refl _ hz.lay];rfl
  with_reducible generalize SO:dC (mO 5 dA) _=t3
  rw[dC,fD,d6,dO,dr];simp only[aa,ae];rw[uC,e1,dv,d3,if_neg (!2),eU];dsimp only;rw[dC,fD,wB,su,d6,DY,dr];simp only[aa,ae];rw[e2,d3,dh,if_neg (!2),d6,dO,uL,wV,dr];simp only[aa,ae,mN,dv];rw[uL,zi,dr];simp only[aa,ae];rw[xo,yY,dv];refine⟨by rw[au];omega,?_⟩;rw[V8,<- xo,iW,dv,d3,if_neg (!2),eU];show t3 _ _ _;subst SO;with_reducible generalize Cf:fu (Ao _ _)=tr
  rw[dC,mO,dA];simp only[ay,aw];rw[dC,eB,uC];simp only[ay,aw];rw[dC,iQ,DQ];simp only[aa,ae,mN,dv];refine Fp wp m0 hP hr [] 0 _ _ (by simpa using h9) λMI x7 x8 hp=>?_;rw[aW] at hp;show tr _ _ _;rw[<- Cf,fu,Ao,dO,mB,oa,du,uL,AD,dr];simp only[aa,ae,mN,dv,hV];refine⟨by rw[hp.length_eq];omega,?_⟩;have es:sortI MI=told:=ki ((sortI_perm _).trans hp) (fx _) (hr.lt.imp λh=>by omega);rw[es,dA];simp only[gE,dv];refine⟨PZ,?_⟩;rw[mB,dI];simp only[aa,ae];refine⟨PZ,?_⟩;rw[show (af.tuple (told.map .int))=dD told from rfl,Ci,dv,d3,if_pos rfl,dO,dr];simp only[aa,ae];rw[dO,xg _ _ _ _ rfl rfl hv,uC,fC,gS,dv,lX,dv,Int.zero_add,decide_eq_true rfl];exact h
end
theorem SQ (i j:Nat)(x y:af)(env:eF)(Q:eF->Prop):yO [gj i,gj j] (.tuple [x,y]) env Q=Q ((env.set i (some (.s x))).set j (some (.s y))):=rfl
theorem zO {many:Int}{s:List Int}(h:s.Sublist (fc 0 many.toNat)):Rg many s:=⟨(qb _).sublist h,λv hv=>by have:=gg.mp (h.subset hv);omega⟩
section
variable {n:Int}{X:XQ}{Q:af->Int->Prop}{many:Int}{ts:List eu}
theorem kH (m0:1<=many)(m1:many<=9)(hn:n+16<=iA)(h:∀(s:List Int) (n':Int),Rg many s->n<=n'->n'<=n+16->Q (dD s) n'):fJ [eV many ts] n Q X:=by
 have e0:eV many ts=.tuple [.int many,.tuple (ts.map e8)]:=rfl;have A5:iA=1099511627776:=by decide
 unfold fJ ja;simp only[mQ,iH,envOf,ak,bw,ao,bn,Nat.reduceSub,Nat.reduceAdd,aN,bg,be,aW];rw[e0];simp! [gS];refine⟨⟨!1,!1⟩,?_⟩;rw[kl];refine l5 (λd n Q hn hq=>?_) _ [] _ _ (by rw[fy];omega) λs hs=>?_
 .simp! [dC]
  refine iu (!2) (!2) (!1) λr r0 r1=>?_;simp! [lX];exact hq _
 rw[aW,fy];simp! [gE];exact h s _ (zO hs) (!1) (!1)
theorem xW (w:lQ many ts)(hl:ts.length<=16)(hn:n+17<=iA)(h:∀(s:List Int) (n':Int),Rg many s->n<=n'->n'<=n+17->Q (dD s) n'):ko [eV many ts] n Q X:=by
 have A5:iA=1099511627776:=by decide
 unfold ko m6;simp only[mQ,iH,envOf,ak,bw,ao,bn,Nat.reduceSub,Nat.reduceAdd,aN,bg,be,aW];with_reducible generalize ht:fu (dP fJ _)=t
 simp! [dC];refine iu (!2) (!2) (!1) λr r0 r1=>?_;simp! [FC];split
 .try simp! [dC]
  refine rR hl (!1) λs hs=>?_;refine xP w (n8 (am _) hs) ?_;exact h _ _ ⟨iR _,vz w (n8 (am _) hs)⟩ (!1) (!1)
 .subst ht
  simp! [dC];exact kH w.m0 w.m1 (!1) λs n' hs h1 h2=>h s n' hs (!1) (!1)
theorem vD {k:Int}(hn:n+1<=iA)(h:∀a b:Int,1<=a->a<=9->0<=b->b<=16->Q (.tuple [.int a,.int b]) (n+1)):ju [.int k] n Q X:=by
 unfold ju lz;simp only[mQ,iH,envOf,ak,bw,ao,bn,Nat.reduceSub,Nat.reduceAdd,aN,bg,be,aW];with_reducible generalize Jq:fu (DC _ _ _)=t2
 with_reducible generalize ht:dC (fD _ _ _) t2=t
 simp! [dC];refine iu (!2) (!2) (!1) λr r0 r1=>?_;subst ht
 have key:∀E:jj,E.rt=Q->t2 E [none,some (.s (.int k)),some (.s (.int r))] (n+1):=λE hE=>by
  subst Jq;simp! [yL];split
  .try simp! [dC]
   rw[hE];exact h 3 16 (!2) (!2) (!2) (!2)
  .try simp! [dC]
   rw[hE];exact h 6 9 (!2) (!2) (!2) (!2)
 simp! [lX];split
 .split
  .try simp! [dC]
   exact h 9 16 (!2) (!2) (!2) (!2)
  .exact key _ rfl
 .exact key _ rfl
end
theorem Fq:xA { nx:=λ_ _=>False,rt:=λd _=>d=.bool true } (List.replicate 9 none) 0:=by
 have A5:iA=1099511627776:=by decide
 unfold xA;simp only[mQ,iH,envOf,ak,bw,ao,bn,Nat.reduceSub,Nat.reduceAdd,aN,bg,be,aW];with_reducible generalize SD:dC (G4 _ _) _=bd
 simp! [dC];refine⟨!2,!2,?_⟩;refine jR (λpre post env n'=>∃x2 x3 x4 x5 x6 x7 x8,env=[none,none,x2,x3,x4,x5,x6,x7,x8]/\0<=n'/\n'<=500 * pre.length/\pre.length+post.length=3/\∀d∈post,∃k,d=.int k) _ [] _ _ ?_ ⟨_,_,_,_,_,_,_,rfl,!2,!4,by rfl,λd hd=>?_⟩ ?_
 .rintro pre d post env n E' hE ⟨x2,x3,x4,x5,x6,x7,x8,rfl,V9,V',hp,Qf⟩ B3
  obtain⟨k,rfl⟩:=Qf d (ar ..);rw[ao] at hp;subst SD;with_reducible generalize SO:iQ (Cq (Cp _ _ _)) _ _=t3
  with_reducible generalize Jq:dC (eB 7 _) t3=t2
  with_reducible generalize Pp:dC (eB 6 _) t2=t1
  with_reducible generalize Wa:dC (eB 5 _) t1=t0
  rw[gj];simp only[ay,aw];rw[dC,G4,dP,du,dI];simp only[aa,ae];rw[dA];refine vD (!1) λa b a1 a9 b0 Wb=>?_;rw[SQ];simp only[ay,aw];subst Wa;rw[dC,eB,dP,du,dI];simp only[aa,ae];rw[du,dI];simp only[aa,ae];rw[du,uC,dA];refine zJ a1 a9 b0 Wb (!1) λmany ts n1 w W4 hl lS PL Uc=>?_;have Mn:ts.length<=16:=by omega
  have ym:Plain ts:=lS rfl;have m0:=w.m0;have m1:=w.m1;subst Pp;simp! [dC];refine vB w Mn λkvs hT=>?_;subst Jq;simp! [dC];refine xW w Mn (!1) λs1 n2 Qd Ud W5=>?_;have e0:eV many ts=.tuple [.int many,.tuple (ts.map e8)]:=rfl;have i0:fh (eV many ts) (.int 0)=some (.int many):=by rw[e0,fC,gS]
  simp! [i0];refine⟨⟨!1,!1⟩,?_⟩;rw[kl];refine kH m0 m1 (!1) λs2 n3 mq W6 W7=>?_;subst SO
  have mJ:∀s∈[s1,fc 0 many.toNat,s2,[]],Rg many s:=λs hs=>by
   simp only[av,cv,or_false] at hs;rcases hs with rfl | rfl | rfl | rfl
   .exact Qd
   .exact zO (List.Sublist.refl _)
   .exact mq
   .exact zO (List.nil_sublist _)
  have Wc:∀v:Int,Mz (.list [dD s1,.tuple ((fc 0 many.toNat).map .int),dD s2,.tuple []]) none (some v)=some (.list (oo ([s1,fc 0 many.toNat,s2,[]].map dD) none (some v))):=λv=>rfl
  have SR:∀(v:Int),∀s∈oo ([s1,fc 0 many.toNat,s2,[]].map dD) none (some v),∃t,Rg many t/\s=dD t:=λv s hs=>by
   have:s∈[s1,fc 0 many.toNat,s2,[]].map dD:=List.mem_of_mem_drop (List.mem_of_mem_take hs);obtain⟨t,ht,rfl⟩:=aQ.mp this;exact⟨t,mJ t ht,rfl⟩
  have fin:∀(v:Int) (E:jj),E.rt=E'.rt->(∀env n',(∃x8,env=[none,none,some (.s (.int k)),some (.s (.int a)),some (.s (.int b)),some (.s (eV many ts)),some (.s (eM true kvs)),some (.s (.list [dD s1,.tuple ((fc 0 many.toNat).map .int),dD s2,.tuple []])),x8]/\n'=n3)->E.nx env n') ->
    g7 (gj 8) (fD (su (d6 (dP iC (du (dI 5) (du (dI 8) (du (dI 6) dA)))))) (fu (uC (.bool false))) eU) E (oo ([s1,fc 0 many.toNat,s2,[]].map dD) none (some v)) [none,none,some (.s (.int k)),some (.s (.int a)),some (.s (.int b)),some (.s (eV many ts)),some (.s (eM true kvs)),some (.s (.list [dD s1,.tuple ((fc 0 many.toNat).map .int),dD s2,.tuple []])),x8] n3:=λv E W8 Wd=>by
   generalize hc:oo ([s1,fc 0 many.toNat,s2,[]].map dD) none (some v)=cs;have Fu:=SR v;rw[hc] at Fu;clear hc;generalize x8=y8
   induction cs generalizing y8 with
   | nil=>exact Wd _ _ ⟨_,rfl,rfl⟩
   | cons d ds ih =>
    obtain⟨t,ht,rfl⟩:=Fu d (ar ..);rw[g7,gj];simp only[ay,aw];rw[fD,su,d6,dP,du,dI];simp only[aa,ae];rw[du,dI];simp only[aa,ae];rw[du,dI];simp only[aa,ae];rw[dA];refine vC w ym Mn ht hT ?_;rw[d3,dh,if_neg (!2),eU];exact ih (λs hs=>Fu s (ai _ hs)) _
  simp! [i0,FC,intD,nL,A1]
  obtain⟨v,hv⟩:∃v,uO (.int 2) (.int (if decide (6<many)=true then 1 else 0))=some (.int v):=by
   split
   .exact⟨_,nL (!2)⟩
   .exact⟨_,nL (!2)⟩
  rw[hv,dv,A1,dv];dsimp only;rw[Wc,dv];dsimp only;rw[dv];refine fin (4 - v) _ rfl λenv n' ⟨x8,e,en⟩=>B3 _ _ ⟨_,_,_,_,_,_,_,e,!1,?_,?_,λd hd=>Qf d (ai _ hd)⟩
  .rw[aH,bB]
   omega
  .rw[aH,bB]
   omega
 .rw[kl] at hd
  obtain⟨k,_,rfl⟩:=aQ.mp hd;exact⟨k,rfl⟩
 .rintro pre env n' ⟨x2,x3,x4,x5,x6,x7,x8,rfl,V9,V',hp,_⟩
  simp! [dC]
theorem all_mk {l:W.OpenLaw}{w:World}{K:W.Frag}{h:Heap}{mg:Str->Option ah}{fa:Addr}{SS:Addr}{SU Pq:Option Addr}{SV:Array (Option ah)}{SW Pr Pt Pu Mp Pw:ah}(X:K.In h)(G:h.Ns bq mg)(wU:mg "law" = some (.ref fa))
  (a29:W.nsIn K bq "law" = some (some (.ref SS)))
  (l29:K.lookup SS=some ⟨SW,SU,.func (W.fnOf "law" "law" (jh (top 29)) (fE (top 29)) (dB (top 29)) .none Pr Pt Pu Pq Mp Pw),SV⟩)
  (c29:W.codeIn K Mp "law" = true)
  (k29:W.keepIn K (.ref SS)=true)
  (AF0:Ei K top [("odd_ones",1),("by_turns",3),("other_end",5),("ways_from",7),("cheapest_step",8),("heights_from",9),("all_heights",11),("pairing_price",12),("partner_offers",13),("least_pairs",14),("_law_feed",16),("_law_take",17),("_law_price",18),("_law_web",19),("_law_by_turns",20),("_law_odds",21),("_law_any_set",22),("_law_any_side",23),("_law_told",24),("_law_least",25),("_law_sizes",26),("_law_far",27),("_law_right",28)])
  (z_abs:W.nsIn K bq "abs" = some none)
  (z_dict:W.nsIn K bq "dict" = some none)
  (z_enumerate:W.nsIn K bq "enumerate" = some none)
  (z_int:W.nsIn K bq "int" = some none)
  (z_isinstance:W.nsIn K bq "isinstance" = some none)
  (z_len:W.nsIn K bq "len" = some none)
  (z_list:W.nsIn K bq "list" = some none)
  (z_max:W.nsIn K bq "max" = some none)
  (z_min:W.nsIn K bq "min" = some none)
  (z_range:W.nsIn K bq "range" = some none)
  (z_repr:W.nsIn K bq "repr" = some none)
  (z_sorted:W.nsIn K bq "sorted" = some none)
  (z_tuple:W.nsIn K bq "tuple" = some none) :
  ∃fd:bT,(∀(s:ax) (v:ah),BindsTo s fd ⟨[v],[]⟩ [("_law_script",v)])/\∀base:Heap,K.In base->base.Ns bq mg->kI l.prog w K mg base ux 20 fa fd ["_law_script"] (wX K):=by
 have e:=wU.symm.trans (W.mg_of X G a29);cases e;have We:=C3 (st:=top 29) l29 c29 k29;obtain⟨a1,a3,a5,a7,a8,a9,Wf,Wg,Uo,Wh,Wi,Wj,Wl,Wm,Wn,Wo,Wq,Wr,Ws,Wt,Wu,Wv,Ww,_⟩:=AF0;refine⟨W.fnOf "law" "law" (jh (top 29)) (fE (top 29)) (dB (top 29)) .none Pr Pt Pu Pq Mp Pw,λs v=>.of_eq rfl,λbase _ _=>?_⟩;let cl:Str->Addr:=λ_=>0;have B:nS mg:=⟨W.mg_none_of X G z_abs,W.mg_none_of X G z_dict,W.mg_none_of X G z_enumerate,W.mg_none_of X G z_int,W.mg_none_of X G z_isinstance,W.mg_none_of X G z_len,W.mg_none_of X G z_list,W.mg_none_of X G z_max,W.mg_none_of X G z_min,W.mg_none_of X G z_range,W.mg_none_of X G z_repr,W.mg_none_of X G z_sorted,W.mg_none_of X G z_tuple⟩;obtain⟨_,_,Wx,Wy⟩:=(Wi.m X G).ex;have nh:d4 l.prog w K mg base 1 "_law_feed" ["_law_script"] (pW sE K):=L3 Wx Wy B;obtain⟨_,_,Wz,WA⟩:=(Wj.m X G).ex;have dR:gH l.prog w K mg base sE:=(L4 Wz WA B).draw.up (!2);have jG:jE l.prog w K mg base sE:=sH (Wq.m X G) B dR;have fM:gW l.prog w K mg base sE:=rC (Wr.m X G) B dR;have fL:gV l.prog w K mg base cl:=rB (Wn.m X G) B;have oO:oM l.prog w K mg base cl:=B9 (Wv.m X G) B;have lL:lE l.prog w K mg base cl:=xG (Wt.m X G) B fL;have ng:m7 l.prog w K mg base cl:=zC (Wo.m X G) B fL;have lJ:lD l.prog w K mg base sE:=xF (Wl.m X G) B dR;obtain⟨_,_,F1,m1⟩:=(a1.m X G).ex;have nc:q9 l.prog w K mg base cl:=zA F1 m1 B;have d5:fS l.prog w K mg base cl:=zB (a3.m X G) B nc;have eK:gA l.prog w K mg base  := pK (Wg.m X G) (Uo.m X G) B d5;have fK:ij l.prog w K mg base  := oN (Uo.m X G) B d5 eK;have lH:lB l.prog w K mg base cl:=xD (a5.m X G) B;have gB:iL l.prog w K mg base cl:=pI (a8.m X G) B d5 lH;have lI:lC l.prog w K mg base cl:=xE (a7.m X G) B gB;have jc:jb l.prog w K mg base cl:=rA (a9.m X G) B lI;have jF:jC l.prog w K mg base cl:=sF (Wf.m X G) B jc;have jH:jD l.prog w K mg base cl:=sG (Wh.m X G) B d5 fK eK jF;have lK:lG l.prog w K mg base cl:=xI (Ww.m X G) B oO jH;have lM:lF l.prog w K mg base sE:=xH (Wu.m X G) B dR;have ni:m8 l.prog w K mg base sE:=zD (Ws.m X G) B fM dR ng jG;have oP:oK l.prog w K mg base sE:=B8 (Wm.m X G) B dR lJ;exact Pc We B nh lK fM ni lL oP lM Fq
theorem walk {l:W.OpenLaw}{q:aV}{loose:List Str}{XP:(Str->Option ah)->Heap->Prop}{YP:World->Heap->Prop}{d:DefRec}{K:Params->W.Frag}(hn:l.most=some 63)(Ny:d.params.defaults=[])
  (hY:∀(w:World) (h:Heap),YP w h->(K w.params).In h)
  (F:∀(w:World) (mg:Str->Option ah) (fa:Addr) (h:Heap),(K w.params).In h->h.Ns bq mg->mg d.name=some (.ref fa) ->
   ∃fd:bT,(∀(s:ax) (u:ah),BindsTo s fd ⟨[u],[]⟩ [("_law_script",u)])/\∀base:Heap,(K w.params).In base->base.Ns bq mg->kI l.prog w (K w.params) mg base ux 20 fa fd ["_law_script"] (wX (K w.params))) :
  W.WalkO q loose XP YP l.row.toRowW d [] (λf vs=>PySem.call f vs) :=
 L2.Gu (n:=63) (k:=20) (x := "_law_script") (CX:=λ_=>ux) (sp:=λw=>wX (K w.params)) hn (!2) Ny ⟨rfl,!2,!2,rfl⟩ hY F (λ_ _ a ns hl _ hS=>⟨a,ns,rfl,hS,hl,λ_=>rfl⟩) λ_ _ _ _ _ z=>z
end Odj
theorem PySem.W.Fast.tw8600963216685611953:True:=⟨⟩
theorem PySem.W.Fast.tw16722917157961427212:True:=⟨⟩
theorem PySem.W.Fast.tw8377770681788186332:True:=⟨⟩
theorem PySem.W.Fast.tw4165163621251919110:True:=⟨⟩
theorem PySem.W.Fast.tw10230783195289432592:True:=⟨⟩
theorem PySem.W.Fast.tw17766813399469152004:True:=⟨⟩
theorem PySem.W.Fast.tw9144913084409926470:True:=⟨⟩
theorem PySem.W.Fast.tw9422985311792113900:True:=⟨⟩
theorem PySem.W.Fast.tw13458201677668539286:True:=⟨⟩
theorem PySem.W.Fast.tw14300401621424051609:True:=⟨⟩
theorem PySem.W.Fast.tw5684152790080632751:True:=⟨⟩
theorem PySem.W.Fast.tw16072722933256876888:True:=⟨⟩
theorem PySem.W.Fast.tw14381237077527939109:True:=⟨⟩
theorem PySem.W.Fast.tw4511288300879697761:True:=⟨⟩
theorem PySem.W.Fast.tw14251305295615472727:True:=⟨⟩
theorem PySem.W.Fast.tw16913539447641519288:True:=⟨⟩
theorem PySem.W.Fast.tw17908002675162415605:True:=⟨⟩
theorem PySem.W.Fast.tw7165201960855335274:True:=⟨⟩
theorem PySem.W.Fast.tw11459248198532761350:True:=⟨⟩
theorem PySem.W.Fast.tw3919623416535607598:True:=⟨⟩
theorem PySem.W.Fast.tw9855159150878829889:True:=⟨⟩
theorem PySem.W.Fast.tw8343336349591760207:True:=⟨⟩
theorem PySem.W.Fast.tw12637284654829844677:True:=⟨⟩
theorem PySem.W.Fast.tw4497191160433142558:True:=⟨⟩
theorem PySem.W.Fast.tw11925822436256776040:True:=⟨⟩
theorem PySem.W.Fast.tw15073144154352171262:True:=⟨⟩
theorem PySem.W.Fast.tw3450314560097782232:True:=⟨⟩
theorem PySem.W.Fast.tw7324465808102039382:True:=⟨⟩
theorem PySem.W.Fast.tw11569139742705980193:True:=⟨⟩
theorem PySem.W.Fast.tw13478214090845940603:True:=⟨⟩
theorem PySem.W.Fast.tw104313051742851179:True:=⟨⟩
theorem PySem.W.Fast.tw706389888942947629:True:=⟨⟩
theorem PySem.W.Fast.tw8630862967616421276:True:=⟨⟩
theorem PySem.W.Fast.tw220722871566679283:True:=⟨⟩
theorem PySem.W.Fast.tw14630447794479615037:True:=⟨⟩
theorem PySem.W.Fast.tw10037236003372223774:True:=⟨⟩
theorem PySem.W.Fast.tw16130987479528799413:True:=⟨⟩
theorem PySem.W.Fast.tw2789785603109102477:True:=⟨⟩
theorem PySem.W.Fast.tw13696944676467343305:True:=⟨⟩
theorem PySem.W.Fast.tw17404888701285421035:True:=⟨⟩
theorem PySem.W.Fast.tw11520757442667480097:True:=⟨⟩
theorem PySem.W.Fast.tw2732568744979626857:True:=⟨⟩
theorem PySem.W.Fast.tw13515075267879209408:True:=⟨⟩
theorem PySem.W.Fast.tw8107938304516456849:True:=⟨⟩
theorem PySem.W.Fast.tw18058868573076552244:True:=⟨⟩
theorem PySem.W.Fast.tw8397084892017409138:True:=⟨⟩
theorem PySem.W.Fast.tw15736124378738702072:True:=⟨⟩
theorem PySem.W.Fast.tw17240059228432742444:True:=⟨⟩
theorem PySem.W.Fast.tw2452696242384831296:True:=⟨⟩
theorem PySem.W.Fast.tw2712462506568041967:True:=⟨⟩
theorem PySem.W.Fast.tw2642996768661344639:True:=⟨⟩
theorem PySem.W.Fast.tw17491622759003104948:True:=⟨⟩
theorem PySem.W.Fast.tw8043900432211439298:True:=⟨⟩
theorem PySem.W.Fast.tw15298756149908209294:True:=⟨⟩
theorem PySem.W.Fast.tw9666389761373348609:True:=⟨⟩
theorem PySem.W.Fast.tw237523990318445580:True:=⟨⟩
theorem PySem.W.Fast.tw387504920051938457:True:=⟨⟩
theorem PySem.W.Fast.tw17369057544793302723:True:=⟨⟩
theorem PySem.W.Fast.tw1260579892454482768:True:=⟨⟩
theorem PySem.W.Fast.tw418346927602308264:True:=⟨⟩
theorem PySem.W.Fast.tw658206466172156833:True:=⟨⟩
theorem PySem.W.Fast.tw14106398915545773647:True:=⟨⟩
theorem PySem.W.Fast.tw9588849291693684081:True:=⟨⟩
theorem PySem.W.Fast.tw18005835311724310917:True:=⟨⟩
theorem PySem.W.Fast.tw6433578283439911680:True:=⟨⟩
theorem PySem.W.Fast.tw6256794466285854096:True:=⟨⟩
theorem PySem.W.Fast.tw3127602919125174720:True:=⟨⟩
theorem PySem.W.Fast.tw751825552092034325:True:=⟨⟩
theorem PySem.W.Fast.tw2566927779855292649:True:=⟨⟩
theorem PySem.W.Fast.tw8795309154427290016:True:=⟨⟩
open PySem PySem.W PyProof.Rows
set_option maxRecDepth 100000 in
set_option maxHeartbeats 0 in
theorem PySem.Challenge.cw_oddjoins_k27_least_pairs_told_holds : PySem.Challenge.rw_oddjoins_k27_least_pairs_told.Holds := by
 w_on; o_law; k_head; (case hw=>w_witness2)
 k_fill
 refine Odj.walk (l:=PySem.Challenge.rw_oddjoins_k27_least_pairs_told) rfl rfl (fun w h Y=>W.kIn_of Y) ?F
 case F =>
  intro w mg fa h KX G Nz
  refine' Odj.all_mk KX G Nz ?a29 ?l29 ?c29 ?k29 ?AF0 ?z_abs ?z_dict ?z_enumerate ?z_int ?z_isinstance ?z_len ?z_list ?z_max ?z_min ?z_range ?z_repr ?z_sorted ?z_tuple
  (case a29=>k_is); (case l29=>k_is); (case c29=>k_is); (case k29=>k_is)
  (case AF0=>repeat' first | exact L2.Ej | (refine L2.LD ?_ ?_) | (apply L2.LC.of <;> k_is)); (case z_abs=>k_is); (case z_dict=>k_is); (case z_enumerate=>k_is)
  (case z_int=>k_is); (case z_isinstance=>k_is); (case z_len=>k_is); (case z_list=>k_is)
  (case z_max=>k_is); (case z_min=>k_is); (case z_range=>k_is); (case z_repr=>k_is)
  (case z_sorted=>k_is); (case z_tuple=>k_is)
