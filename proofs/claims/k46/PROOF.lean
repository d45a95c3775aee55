import PyProof.Rows.All
import Wide.All
import OpenK.AllK
import Wide.FinOn
import Lean
import PyProof.EqAt
import PyProof.EqKinds
import PyProof.TupleCall
import KE.KTryMore
import KE.KRevIter
import PyProof.CollectIter
import PyProof.P3Eq
import PyProof.MinMaxWalk
import PyProof.StrCalls2
import PyProof.FactsAll.set_2
import KE.KSortTup
import PyProof.Rows.CallKwBuiltin
import KE.KDictOf
import PyProof.Rows.TupDisplay
import PyProof.ZipIter
import KE.KItemsList
import PyProof.P3Statements
import PySem.Challenge.RW_oddjoins_k46_whole_slack_of_a_tie
set_option compiler.extract_closed false
set_option Elab.async false
set_option linter.all false
set_option maxRecDepth 100000
set_option maxHeartbeats 8000000
open List renaming getElem?_cons_zero→aa, getElem?_cons_succ→ac, mem_cons_of_mem→ag, map_cons→ai, length_cons→ak, mem_cons_self→ao, mem_singleton→ap, set_cons_zero→aq, length_map→ar, getD_eq_getElem?_getD→au, set_cons_succ→av, mem_cons→ax, nil_append→ay, getElem?_map→az, size_toArray→aD, replicate_succ→aE, getElem?_eq_some_iff→aG, map_nil→aI, mem_filter→aJ, replicate_zero→aK, length_nil→aL, getElem?_eq_getElem→aM, cons_append→aN, length_append→aQ, mem_map→aU, getElem?_set_ne→aV, map_append→aW, mem_append→aX, length_set→aZ, perm_ext_iff_of_nodup→bb, map_map→bc, mem_append_right→be, getElem?_eq_none→bi, nodup_cons→bj, count_append→bp, mem_append_left→br, append_assoc→bu, not_mem_nil→bw, length_singleton→bA, any_cons→bF, mem_of_getElem?→bG, getElem?_append_left→bH, drop_eq_getElem_cons→bI, pairwise_cons→bJ, find?_cons→bK, map_congr_left→bL, length_filter_le→bN, getElem?_append_right→bP, count_pos_iff→bR, count_singleton→bS, lookup_cons→bT, getElem_mem→bU, drop_of_length_le→bV, append_nil→bY, length_take→b8, getElem?_replicate→b9, filter_cons_of_pos→cb, take_of_length_le→cc, nodup_nil→cg, eq_nil_of_length_eq_zero→ci, nodup_append→cj, foldl_cons→ck, getElem?_toArray→cr, filterMap_cons→cu, filter_sublist→cv, any_eq_true→cx, filter_cons_of_neg→cy, eq_nil_iff_forall_not_mem→cz, count_cons→cB, sum_cons→cC, flatten_cons→cD, pairwise_append→cE, filter_cons→cJ, getElem?_range→cK, filter_append→cL, getElem?_set_self→cN, take_add_one→cO, mapM_cons→cP, count_nil→cR, length_replicate→cS, count_cons_of_ne→cT, getElem_of_mem→cZ, take_succ_cons→c5, mem_range→c6, mem_filterMap→c7, getElem?_zip_eq_some→dc, pairwise_iff_getElem→de, mem_or_eq_of_mem_set→df, pairwise_map→dg, length_erase_of_mem→dh, length_drop→di, all_eq_true→dj, take_length→dk, foldl→dm, length_pos_of_mem→dn, set_set→dq, range_succ_eq_map→dr, of_mem_zip→du
open PySem renaming PyData→ae, wpAny_bind→af, Value→ah, wpAny_pure→am, Shared→aA, sizeLine→aC, wpAny→aH, NameKind→aT, wpAny_newObj_type→aY, Program→bf, mainGlobals→bh, FuncData→bE, wpAny_mono→cf
open PySem.Heap renaming get?_push_of_some→aj, get?_push_size→aB, lt_size→aF, get?_update_other→aO, get?_update_self→ba, size_push→bx
open Nat renaming le_refl→aw, lt_of_lt_of_le→aP, ne_of_lt→aR, le_trans→bq, ne_of_gt→bv, lt_irrefl→bC, lt_succ_of_lt→bO, zero_le→bZ, lt_of_succ_lt_succ→ce, lt_succ_self→cq, lt_or_ge→cs, lt_of_le_of_lt→cA, pow_lt_pow_right→cF, lt_trans→cG, succ_ne_self→cH, le_add_right→cI, le_of_lt→cM, add_zero→cQ, le_succ→cV, pow_le_pow_right→cW, not_lt_zero→dv
open Int renaming toNat_natCast→a9, le_refl→bM, emod_lt_of_pos→c9, emod_nonneg→dw
open Bool renaming false_ne_true→bg, and_eq_true→bn, false_eq_true→bQ, eq_iff_iff→cY
open Option renaming map_some→bo, join_some→bW, isSome_iff_exists→bX, map_eq_some_iff→cm, getD_some→cw, bind_some→cU, isSome_some→c8
open Array renaming getElem?_toList→bB, length_toList→bD, getElem_toList→ca, getElem?_eq_none→cp
set_option hygiene false
local macro_rules |`(tactic|rw[$n:num])=>match n.getNat with
|2=>`(tactic|simp only[aa,ac])
|3=>`(tactic|simp only[av,aq])
|10=>`(tactic|intro pins s σ H Q I h)
|12=>`(tactic|obtain⟨u,rfl,ru⟩:=vals1 r)
|22=>`(tactic|intro pins s σ H D I h)
|25=>`(tactic|(rw[2];rw[dz,dD];rw[2]))
|31=>`(tactic|(intro _;rfl))
|999=>`(tactic|(intro _ _ _ _ _ _ us hl;first | (obtain⟨_,rfl⟩:=Jp hl;rfl) | (obtain⟨_,_,rfl⟩:=GF hl;rfl) | (obtain⟨_,_,_,rfl⟩:=Jq hl;rfl) | (obtain⟨_,_,_,_,rfl⟩:=Qk hl;rfl) | (obtain⟨_,_,_,_,_,rfl⟩:=Ql hl;rfl) | (obtain⟨_,_,_,_,_,_,rfl⟩:=TU hl;rfl) | (cases us<;>first | rfl | cases hl)))
|_=>Lean.Macro.throwUnsupported
local macro_rules |`(!$n:num)=>match n.getNat with
|1=>`(by omega)
|2=>`(by decide)
|3=>`(by decide +kernel)
|4=>`(by simp)
|10=>`((KE.loose dH))
|11=>`((model X.prog X.w))
|12=>`((model prog w))
|13=>`((uC (.int 1)))
|14=>`((.ref s.heap.objs.size))
|15=>`((fT X sc N cl C s₂ H₂ fp))
|16=>`((uC (.int 0)))
|17=>`(("__debug__" : Str))
|18=>`((ts.getD k.toNat (0,0,0)))
|19=>`((Addr × Obj))
|20=>`((.s (eM many ts)))
|21=>`((ns.map V.int))
|22=>`(("__classdict__" : Str))
|24=>`((eM many ts))
|26=>`((kvs.map (·.2)))
|27=>`((.refl _ _))
|28=>`((dY many ts))
|30=>`((by decide:0∈[0]))
|31=>`((gn ts.length out))
|32=>`((uC (.int 2)))
|34=>`((I.hok.fresh (aw _)))
|35=>`((.Name x p))
|36=>`((hb cl C s₂ H₂ fp))
|37=>`((.bool true))
|39=>`((Heap.SameBut.update ..))
|_=>Lean.Macro.throwUnsupported
noncomputable section
namespace L2
open PySem PySem.Spec PyProof.Rows
noncomputable abbrev Key:=Sum Int Str
noncomputable def uU:Key->ah->Bool
 | .inl k,v=>ah.isInt k v
 | .inr x,v=>ah.isStrOf x v
noncomputable def Vp (w:World):Key->Int
 | .inl k=>hashInt k
 | .inr x=>hashStr w x
theorem fZ:∀{k:Key} {v:ah},uU k v=true->(∃i t,k=Sum.inl i/\v=ah.int i t)\/(∃x t,k=Sum.inr x/\v=ah.str x t)
 | .inl i,v,h=>by
  obtain⟨t,e⟩:=ah.isInt_shape (k:=i) (v:=v) h;exact .inl ⟨i,t,rfl,e⟩
 | .inr x,v,h=>by
  obtain⟨t,e⟩:=ah.isStrOf_shape (x:=x) (v:=v) h;exact .inr ⟨x,t,rfl,e⟩
theorem FG (i:Int)(t:Tok):uU (.inl i) (.int i t)=true:=by simp[uU,ah.isInt]
theorem FH (x:Str)(t:Tok):uU (.inr x) (.str x t)=true:=by simp[uU,ah.isStrOf]
theorem Ot (a b:Int):decide ((Sum.inl a:Key)=Sum.inl b)=(a == b):=by
 by_cases e:a=b
 .subst e;simp
 .have h:¬ (Sum.inl a:Key)=Sum.inl b:=λq=>e (Sum.inl.inj q)
  rw[decide_eq_false h];exact (beq_eq_false_iff_ne.mpr e).symm
theorem Ou (a b:Str):decide ((Sum.inr a:Key)=Sum.inr b)=decide (a=b):=by
 by_cases e:a=b
 .subst e;simp
 .have h:¬ (Sum.inr a:Key)=Sum.inr b:=λq=>e (Sum.inr.inj q)
  rw[decide_eq_false h,decide_eq_false e]
theorem Ov (a:Int)(b:Str):decide ((Sum.inl a:Key)=Sum.inr b)=false:=decide_eq_false (λq=>nomatch q)
theorem Ow (a:Str)(b:Int):decide ((Sum.inr a:Key)=Sum.inl b)=false:=decide_eq_false (λq=>nomatch q)
noncomputable def fL (prog:bf)(w:World):PySem.KeyKind prog w Key where
 is:=uU
 hash:=Vp w
 inj:=λv a b ha hb=>by
  rcases fZ ha with⟨i,t,rfl,rfl⟩ | ⟨x,t,rfl,rfl⟩
  .rcases fZ hb with⟨j,u,rfl,e⟩ | ⟨y,u,rfl,e⟩
   .injection e with e1 _;rw[e1]
   .exact nomatch e
  .rcases fZ hb with⟨j,u,rfl,e⟩ | ⟨y,u,rfl,e⟩
   .exact nomatch e
   .injection e with e1 _;rw[e1]
 byValue:=λk v h=>by
  rcases fZ h with⟨i,t,rfl,rfl⟩ | ⟨x,t,rfl,rfl⟩<;>rfl
 pyHash:=λhv h=>by
  rcases fZ hv with⟨i,t,rfl,rfl⟩ | ⟨x,t,rfl,rfl⟩
  .exact wpAny_pyHash_int h
  .exact wpAny_pyHash_str h
 eqBool:=λhu hv h=>by
  rcases fZ hu with⟨i,t,rfl,rfl⟩ | ⟨x,t,rfl,rfl⟩
  .rcases fZ hv with⟨j,u,rfl,rfl⟩ | ⟨y,u,rfl,rfl⟩
   .rw[Ot] at h;exact wpAny_eqBool_int h
   .rw[Ov] at h;exact SeqAt.EqAt.int_str i t y u _ _ _ _ h
  .rcases fZ hv with⟨j,u,rfl,rfl⟩ | ⟨y,u,rfl,rfl⟩
   .rw[Ow] at h;exact SeqAt.EqAt.str_int x t j u _ _ _ _ h
   .rw[Ou] at h;exact wpAny_eqBool_str h
 «strs»:=λk x t v h=>by
  rcases fZ h with⟨i,u,rfl,e⟩ | ⟨y,u,rfl,e⟩
  .exact nomatch e
  .injection e with e1 _
   subst e1;cases v<;>rfl
theorem AD (prog:bf)(w:World)(i:Int)(t:Tok):(fL prog w).is (.inl i) (.int i t)=true:=FG i t
theorem AE (prog:bf)(w:World)(x:Str)(t:Tok):(fL prog w).is (.inr x) (.str x t)=true:=FH x t
inductive V where
 | jm | bl (b:Bool) | int (i:Int) | str (x:Str) | K3 (b:Array UInt8) | Vq (b:UInt64) | ref (a:Addr) | ty (n:String)
 deriving DecidableEq
noncomputable def RelV:V->ah->Prop
 | .jm,u=>u=ah.none
 | .bl b,u=>u=ah.bool b
 | .int i,u=>∃t,u=ah.int i t
 | .str x,u=>∃t,u=ah.str x t
 | .K3 b,u=>∃t,u=ah.bytes b t
 | .Vq b,u=>∃t,u=ah.float b t
 | .ref a,u=>u=ah.ref a
 | .ty n,u=>u=ah.type n
noncomputable abbrev eS:List V->List ah->Prop:=Paired RelV
theorem eS.length (r:eS xs us):xs.length=us.length:=Paired.length r
theorem eS.get:∀{xs:List V} {us:List ah} {i:Nat} {x:V},eS xs us->xs[i]? = some x->∃u,us[i]? = some u/\RelV x u
 | _,_,_,_,.nil,e=>by simp at e
 | _,_,0,_,.cons r _,e=>by simp at e;subst e;exact⟨_,rfl,r⟩
 | _,_,i+1,x,.cons _ t,e=>by
  obtain⟨u,h1,h2⟩:=eS.get (i:=i) (x:=x) t (by simpa using e);exact⟨u,by simpa using h1,h2⟩
theorem eS.set (r:RelV x u):∀{xs:List V} {us:List ah} (i:Nat),eS xs us->eS (xs.set i x) (us.set i u)
 | _,_,_,.nil=>.nil
 | _,_,0,.cons _ t=>.cons r t
 | _,_,i+1,.cons q t=>.cons q (eS.set r i t)
theorem eS.append:∀{xs ys:List V} {us ws:List ah},eS xs us->eS ys ws->eS (xs++ys) (us++ws)
 | _,_,_,_,.nil,s=>s
 | _,_,_,_,.cons r t,s=>.cons r (eS.append t s)
theorem eS.take:∀{xs:List V} {us:List ah} (n:Nat),eS xs us->eS (xs.take n) (us.take n)
 | _,_,0,_=>.nil
 | _,_,_+1,.nil=>.nil
 | _,_,n+1,.cons r t=>.cons r (eS.take n t)
theorem eS.drop:∀{xs:List V} {us:List ah} (n:Nat),eS xs us->eS (xs.drop n) (us.drop n)
 | _,_,0,r=>r
 | _,_,_+1,.nil=>.nil
 | _,_,n+1,.cons _ t=>eS.drop n t
noncomputable def so:Option V->Option ah->Prop
 | some v,some u=>RelV v u
 | none,none=>True
 | _,_=>False
noncomputable def KV {κ:Type}:List (κ × V)->List (κ × ah)->Prop:=Paired λ(p:κ × V) (q:κ × ah)=>p.1=q.1/\RelV p.2 q.2
noncomputable def kV:Key->V
 | .inl i=>.int i
 | .inr x=>.str x
inductive HO where
 | lst (xs:List V)
 | tup (xs:List V)
 | dK (kvs:List (Key × V)) | dT (kvs:List (List Key × V))
 | set (S:Int->Bool) (n:Nat)
 | ins (C dx:Addr) (fs:List (Str × V))
 | own (x:Addr)
 | xd (fs:List (Str × V))
 | met (f x:Addr)
 | M7 (lo hi:Int)
 | xJ (o:Obj) (u:HO)
 | Ox (ps:Array ah)
 | ext (φ:Heap->Prop)
noncomputable abbrev Hp:=Addr->Option HO
noncomputable def fz (H:Hp)(a:Addr)(o:HO):Hp:=λb=>if b=a then some o else H b
theorem dQ:fz H a o a=some o:=by unfold fz;rw[if_pos rfl]
theorem d6 (h:b≠a):fz H a o b=H b:=by unfold fz;rw[if_neg h]
theorem Ry {H:Hp}{a b:Addr}{o u:HO}(h:H a=some o)(h':H b=some u)(d:o≠u):a≠b:=by
 intro e;subst e;rw[h] at h';exact d (Option.some.inj h')
theorem gj {H:Hp}{a b:Addr}{o:HO}(h:H a=some o)(h':H b=none):a≠b:=by
 intro e;subst e;rw[h] at h';cases h'
section
variable (P:bf)(w:World)
noncomputable def wX (h:Heap)(a:Addr)(items:Array ah):Prop:=∃o,h.get? a=some o/\o.cls=.type "tuple" /\ ∃n,o.data=.seq items n/\o.dict=none
omit P w in
theorem wX.tup (p:wX h a items):IsTup h a items:=let ⟨o,e,c,n,d,_⟩:=p;⟨o,e,c,n,d⟩
omit P w in
theorem wX.new (h:Heap)(items:Array ah):wX (h.push { cls:=.type "tuple",data:=.seq items }) h.objs.size items:=⟨_,aB _ rfl,rfl,_,rfl,rfl⟩
noncomputable def gT (H:Hp)(h:Heap)(a:Addr):HO->Prop
 | .lst xs=>xs.length<=aC/\∃(its:List ah) (n:Nat),eS xs its/\h.get? a=some { cls:=.type "list",data:=.seq its.toArray n }
 | .tup xs=>xs.length<=aC/\∃its:List ah,eS xs its/\wX h a its.toArray
 | .dK kvs=>kvs.length<=aC/\(a == sysModules)=false/\∃vs,KV kvs vs/\h.DictOf (fL P w) a vs
 | .dT kvs=>kvs.length<=aC/\(a == sysModules)=false/\∃xs:List (List Key × Addr × ah),
   Paired (λ(p:List Key × V) (q:List Key × Addr × ah)=>p.1=q.1/\H q.2.1=some (.tup (p.1.map kV))/\RelV p.2 q.2.2) kvs xs /\
   ∃o es ep,h.get? a=some o/\o.ExactDict/\o.data=.dict es ep/\es.toList=xs.map (entryOfKey (tupleKind (fL P w)))/\(xs.map (·.1)).Nodup
 | .set S n=>h.SetOf (intKind P w) a S n
 | .ins C dx fs=>H dx=some (.own a)/\fs.length<=1000/\dx≠a/\h.get? a=some (W.instObj C dx) /\
   ∃mA,h.Ns1 dx mA/\(∀f,so (fs.lookup f) (mA f))/\PySem.Within mA (fs.map (·.1))
 | .own _=>∃o,h.get? a=some o
 | .xd fs=>∃mA,h.Ns1 a mA/\∀f,so (fs.lookup f) (mA f)
 | .M7 lo hi=>∃t u v,h.get? a=some { cls:=.type "range",data:=.fields #[.int lo t,.int hi u,.int 1 v] }
 | .xJ o u=>h.get? a=some o/\gT H h a u
 | .Ox ps=>h.get? a=some { cls:=.none,data:=.fields ps }
 | .met f x=>h.get? a=some (W.methodObj (.ref f) (.ref x))
 | .ext φ=>φ h/\(∃o,h.get? a=some o)/\∀h1 h2:Heap,φ h1->(∀o,h1.get? a=some o->h2.get? a=some o)->φ h2
noncomputable def oq (H:Hp)(h:Heap):Prop:=∀a o,H a=some o->gT P w H h a o
end
section
variable {P:bf}{w:World}{H H':Hp}{h h':Heap}{a:Addr}{o:HO}
theorem gT.lt (x:gT P w H h a o):a<h.objs.size:=by
 cases o with
 | lst xs=>obtain⟨_,_,_,_,e⟩:=x;exact aF e
 | tup xs=>obtain⟨_,_,_,p⟩:=x;exact p.tup.lt
 | dK kvs=>obtain⟨_,_,_,_,o,_,_,e,_⟩:=x;exact aF e
 | dT kvs=>obtain⟨_,_,_,_,o,_,_,e,_⟩:=x;exact aF e
 | set S n=>obtain⟨o,_,_,_,e,_⟩:=x;exact aF e
 | ins C dx fs=>obtain⟨_,_,_,e,_⟩:=x;exact aF e
 | own y=>obtain⟨_,e⟩:=x;exact aF e
 | xd fs=>obtain⟨_,⟨_,_,_,e,_⟩,_⟩:=x;exact aF e
 | M7 lo hi=>obtain⟨_,_,_,e⟩:=x;exact aF e
 | xJ ob u=>obtain⟨e,_⟩:=x;exact aF e
 | Ox ps=>exact aF (show h.get? a=some _ from x)
 | met f y=>exact aF (show h.get? a=some _ from x)
 | ext φ=>obtain⟨_,⟨_,e⟩,_⟩:=x;exact aF e
theorem Paired.Oy {α β:Type}{F G:α->β->Prop}:∀{l₁:List α} {l₂:List β},Paired F l₁ l₂->(∀a b,F a b->G a b)->Paired G l₁ l₂
 | _,_,.nil,_=>.nil
 | _,_,.cons r t,f=>.cons (f _ _ r) (Paired.Oy t f)
theorem gT.CN (x:gT P w H h a o)(k:∀b u,(b=a\/H b=some (.own a))->h.get? b=some u->h'.get? b=some u)
  (ho:∀b,H b=some (.own a)->H' b=some (.own a)) (ht:∀b xs,H b=some (.tup xs)->H' b=some (.tup xs)):gT P w H' h' a o:=by
 induction o with
 | lst xs=>obtain⟨z,its,n,r,e⟩:=x;exact⟨z,its,n,r,k _ _ (.inl rfl) e⟩
 | tup xs=>obtain⟨z,its,r,ob,e,c⟩:=x;exact⟨z,its,r,ob,k _ _ (.inl rfl) e,c⟩
 | dK kvs=>obtain⟨z,y,vs,r,ob,es,ep,e,c⟩:=x;exact⟨z,y,vs,r,ob,es,ep,k _ _ (.inl rfl) e,c⟩
 | dT kvs =>
  obtain⟨z,y,xs,r,ob,es,ep,e,c⟩:=x;exact⟨z,y,xs,Paired.Oy r λp q z=>⟨z.1,ht _ _ z.2.1,z.2.2⟩,ob,es,ep,k _ _ (.inl rfl) e,c⟩
 | set S n=>obtain⟨ob,es,ep,t,e,c⟩:=x;exact⟨ob,es,ep,t,k _ _ (.inl rfl) e,c⟩
 | ins C dx fs =>
  obtain⟨d,z,ne,e,mA,⟨od,es,ep,e2,c⟩,r⟩:=x;exact⟨ho _ d,z,ne,k _ _ (.inl rfl) e,mA,⟨od,es,ep,k _ _ (.inr d) e2,c⟩,r⟩
 | own y=>obtain⟨ob,e⟩:=x;exact⟨ob,k _ _ (.inl rfl) e⟩
 | xd fs=>obtain⟨mA,⟨od,es,ep,e,c⟩,r⟩:=x;exact⟨mA,⟨od,es,ep,k _ _ (.inl rfl) e,c⟩,r⟩
 | M7 lo hi=>obtain⟨t,u,v,e⟩:=x;exact⟨t,u,v,k _ _ (.inl rfl) e⟩
 | xJ ob u ih=>obtain⟨e,q⟩:=x;exact⟨k _ _ (.inl rfl) e,ih q⟩
 | Ox ps =>
  have e:h.get? a=some { cls:=.none,data:=.fields ps }:=x;show h'.get? a=some { cls:=.none,data:=.fields ps };exact k a _ (.inl rfl) e
 | met f y =>
  have e:h.get? a=some (W.methodObj (.ref f) (.ref y)):=x;show h'.get? a=some (W.methodObj (.ref f) (.ref y));exact k a _ (.inl rfl) e
 | ext φ=>obtain⟨p,⟨o,e⟩,st⟩:=x;exact⟨st _ _ p λo q=>k _ _ (.inl rfl) q,⟨o,k _ _ (.inl rfl) e⟩,st⟩
theorem oq.lt (x:oq P w H h)(e:H a=some o):a<h.objs.size:=(x a o e).lt
theorem oq.fresh (x:oq P w H h)(e:h.objs.size<=a):H a=none:=by
 cases q:H a with
 | none=>rfl
 | some u=>exact absurd (aP (x.lt q) e) (bC _)
theorem oq.kept (x:oq P w H h)(k:∀b u,h.get? b=some u->h'.get? b=some u):oq P w H h':=λa o e =>
 (x a o e).CN (λb u _ q=>k b u q) (λ_ q=>q) λ_ _ q=>q
theorem oq.laid (x:oq P w H h)(k:∀b u,h.get? b=some u->h'.get? b=some u)(hp:h.objs.size<=a)(new:gT P w (fz H a o) h' a o):oq P w (fz H a o) h':=λb u e=>by
 have hn:=x.fresh hp;by_cases hb:b=a
 .subst hb;rw[dQ] at e;cases e;exact new
 .rw[d6 hb] at e
  exact (x b u e).CN (λc v _ q=>k c v q) (λc q=>by rw[d6 (gj q hn)];exact q) λc xs q=>by rw[d6 (gj q hn)];exact q
end
noncomputable def Rd (H:Hp)(a:Addr)(u:HO):Prop:=H a=some u\/∃o,H a=some (.xJ o u)
theorem Rd.ok (r:Rd H a u)(x:oq P w H h):gT P w H h a u:=by
 rcases r with r | ⟨o,r⟩
 .exact x a u r
 .obtain⟨_,q⟩:=x a _ r
  exact q
noncomputable def RA:Option HO->Prop
 | some (.lst _)=>True
 | some (.dK _)=>True
 | some (.dT _)=>True
 | some (.set _ _)=>True
 | some (.ins _ _ _)=>True
 | some (.ext _)=>True
 | _=>False
section
theorem oq.write (ok:oq P w H h)(mu:RA (H x))(he:e=x\/H e=some (.own x))(k:∀b u,b≠e->h.get? b=some u->h'.get? b=some u)(Rb:∃u,h'.get? e=some u)
  (new:gT P w (fz H x o') h' x o'):oq P w (fz H x o') h':=λb u q=>by
 have RB:∀c y,H c=some (.own y)->c≠x:=λc y r z=>by subst z;rw[r] at mu;exact mu
 have Vr:∀c xs,H c=some (.tup xs)->c≠x:=λc xs r z=>by subst z;rw[r] at mu;exact mu
 by_cases hb:b=x
 .subst hb;rw[dQ] at q;cases q;exact new
 .rw[d6 hb] at q
  by_cases Oz:b=e
  .have q':H b=some (.own x):=by
    rcases he with z | z
    .exact absurd (Oz.trans z) hb
    .rw[Oz];exact z
   rw[q] at q';cases q';obtain⟨v,hv⟩:=Rb;exact⟨v,by rw[Oz];exact hv⟩
  .refine (ok b u q).CN (λc v hc r=>k c v ?_ r) (λc r=>by rw[d6 (RB c b r)];exact r) λc xs r=>by rw[d6 (Vr c xs r)];exact r
   rcases hc with rfl | hc
   .exact Oz
   .rintro rfl
    rcases he with z | z
    .exact RB c b hc z
    .rw[hc] at z;cases z;exact hb rfl
end
structure Un (fs ex:List Addr) (H H':Hp) (h h':Heap):Prop where
 keep:∀b o,h.get? b=some o->H b=none->b ∉ fs->b ∉ ex->h'.get? b=some o
 slot:∀b o,h.get? b=some o->H b=none->b∈fs->b ∉ ex->∃sl,h'.get? b=some { o with slots:=sl }
 free:∀b o,h.get? b=some o->H b=none->b ∉ ex->H' b=none
 there:∀b o,h.get? b=some o->b ∉ ex->∃o',h'.get? b=some o'
 AF:∀b xs,H b=some (.tup xs)->H' b=some (.tup xs)
 zg:∀b o u,H b=some (.xJ o u)->H' b=some (.xJ o u)
 AG:∀b ps,H b=some (.Ox ps)->∃more,H' b=some (.Ox (ps++more))
section
variable {fs fs' ex ex':List Addr}{H H1 H2:Hp}{h h1 h2 h':Heap}{a x e:Addr}{o:HO}
theorem Un.any (u:Un fs ex H H1 h h1)(q:h.get? b=some ob)(n:H b=none)(hx:b ∉ ex):∃sl,h1.get? b=some { ob with slots:=sl }:=by
 by_cases hb:b∈fs
 .exact u.slot b ob q n hb hx
 .exact⟨ob.slots,u.keep b ob q n hb hx⟩
theorem Un.kept (k:∀b u,h.get? b=some u->h'.get? b=some u):Un fs ex H H h h' :=
 ⟨λb ob q _ _ _=>k b ob q,λb ob q _ _ _=>⟨ob.slots,k b ob q⟩,λ_ _ _ n _=>n,λb ob q _=>⟨ob,k b ob q⟩,λ_ _ q=>q,λ_ _ _ q=>q,λ_ ps q=>⟨#[],by rw[q];simp⟩⟩
theorem Un.refl:Un fs ex H H h h:=Un.kept λ_ _ q=>q
theorem Un.laid (k:∀b u,h.get? b=some u->h'.get? b=some u)(hp:h.objs.size<=a)(hn:H a=none):Un fs ex H (fz H a o) h h' where
 keep:=λb u q _ _ _=>k b u q
 slot:=λb u q _ _ _=>⟨u.slots,k b u q⟩
 free:=λb u q n _=>by rw[d6 (aR (aP (aF q) hp))];exact n
 there:=λb u q _=>⟨u,k b u q⟩
 AF:=λb xs q=>by rw[d6 (gj q hn)];exact q
 zg:=λb u xs q=>by rw[d6 (gj q hn)];exact q
 AG:=λb ps q=>⟨#[],by rw[d6 (gj q hn),q];simp⟩
theorem Un.write (mu:RA (H x))(he:e=x\/H e=some (.own x))(k:∀b u,b≠e->h.get? b=some u->h'.get? b=some u)(Rb:∃u,h'.get? e=some u):Un fs ex H (fz H x o) h h':=by
 have hx:∀b,H b=none->b≠x:=λb n z=>by subst z;rw[n] at mu;exact mu
 have hb:∀b,H b=none->b≠e:=λb n z=>by
  subst z;rcases he with r | r
  .exact hx b n r
  .rw[n] at r;cases r
 have hm:∀b u,H b=some u->¬ RA (some u)->b≠x:=λb u q nm z=>by subst z;rw[q] at mu;exact nm mu
 refine⟨λb u q n _ _=>k b u (hb b n) q,λb u q n _ _=>⟨u.slots,k b u (hb b n) q⟩,λb u q n _=>by rw[d6 (hx b n)];exact n,λb u q _=>?_,
  λb xs q=>by rw[d6 (hm b _ q λz=>z)];exact q,λb u xs q=>by rw[d6 (hm b _ q λz=>z)];exact q,λb ps q=>⟨#[],by rw[d6 (hm b _ q λz=>z),q];simp⟩⟩
 by_cases Oz:b=e
 .subst Oz;exact Rb
 .exact⟨u,k b u Oz q⟩
end
noncomputable def UP (h:Heap)(H:Hp):List Addr:=(List.range h.objs.size).filter λa=>(H a).isSome
noncomputable def zh (h:Heap)(H:Hp):Heap:=W.hideAll h (UP h H)
theorem FI (h:Heap)(H:Hp):(zh h H).objs.size=h.objs.size:=W.hideAll_size _ _
theorem Ht (e:h.get? b=some o)(n:H b=none):(zh h H).get? b=some o :=
 W.hideAll_get _ e λhm=>by
  have q:(H b).isSome=true:=(aJ.mp hm).2;rw[n] at q;simp at q
theorem K4 (e:(zh h H).get? b=some o):h.get? b=some o/\H b=none:=by
 have e':h.get? b=some o:=W.of_hideAll (UP h H) e;refine⟨e',?_⟩
 cases q:H b with
 | none=>rfl
 | some x =>
  have hm:b∈UP h H:=aJ.mpr ⟨c6.mpr (aF e'),by simp[q]⟩;have z:(zh h H).get? b=none:=W.hideAll_none (UP h H) hm;rw[z] at e;cases e
noncomputable def K5 (g h:Heap)(L:Addr):List (!19):=(List.range h.objs.size).filterMap λa=>if a=L\/(g.get? a).isSome=true then none else (h.get? a).map λo=>(a,o)
noncomputable def rest (g h:Heap)(L d:Addr):List (!19):=(K5 g h L).filter λp=>decide (p.1≠d)
structure Mod (K:W.Frag) (mg:Str->Option ah) (base:Heap):Prop where
 Vs:K.In base
 glob:base.Ns bh mg
 blt:∃mb,base.Ns builtinsNs mb/\∀x:Str,x ≠ "__name__" -> mb x=bootBuiltins x
 nolimit:base.NoLimit
structure Cx where
 prog:bf
 w:World
 K:W.Frag
 mg:Str->Option ah
 base:Heap
 A:Around
 N:List Str
 s₀:aA
 H₀:Hp
 env:Env
 outer:List Env
 stack:List Env
 ex:List Addr
 fn:Str->Bool
 calm:Bool
 pn:List (!19)
 xe:ah->aA->Prop
noncomputable def CO (l:List Env):List Addr:=l.filterMap (·.frame)
noncomputable abbrev Cx.fs (X:Cx):List Addr:=CO X.outer
noncomputable def Az (sc:Scope)(x:Str):Prop:=sc.names.lookup x=some .local\/sc.names.lookup x=some .cell\/sc.names.lookup x=some .free
noncomputable def Loc (sc:Scope)(x:Str):Prop:=sc.names.lookup x=some .local\/sc.names.lookup x=some .cell
noncomputable def Look (env:Env)(h:Heap)(m:Str->Option ah)(x:Str)(u:ah):Prop :=
 (env.kindOf x=some .local/\m x=some u)\/((env.kindOf x=some .cell\/env.kindOf x=some .free)/\∃c,env.cells.lookup x=some c/\h.IsCell c (some u))
structure Cx.Ok (X:Cx):Prop where
 mod:Mod X.K X.mg X.base
 kind:X.env.scope.kind=.function
 glob:X.env.globals=bh
 blt:X.env.builtins=builtinsNs
 above:X.s₀.heap.objs.size<=X.env.locals
 inj:∀x y c,X.env.cells.lookup x=some c->X.env.cells.lookup y=some c->x=y
 has:∀x,(X.env.kindOf x=some .cell\/X.env.kindOf x=some .free)->∃c,X.env.cells.lookup x=some c
 RC:∀x c,X.fn x=true->X.env.cells.lookup x=some c->X.s₀.heap.objs.size<=c
 hd:X.calm=true->X.A.handled=none
 frames:X.A.frames=some X.stack
 UQ:X.stack=X.outer\/(X.stack=X.env::X.outer/\X.env.frame=some X.env.locals)
 XS:∀b∈X.ex,b≠X.env.locals/\∀x c,X.env.cells.lookup x=some c->c≠b
 bs:∀b o,X.base.get? b=some o->X.s₀.heap.get? b=some o/\X.H₀ b=none
 OA:X.base.objs.size<=X.s₀.heap.objs.size
 Hu:∀b o,X.base.get? b=some o->b ∉ X.ex
 K6:∀b∈X.ex,b ∉ X.fs
 uV:X.s₀.heap.FunFrames X.base X.outer
 Rf:∀b∈X.fs,X.H₀ b=none
structure Inv (X:Cx) (pins:List (Addr × Obj)) (σ:List (Option V)) (H:Hp) (s:aA):Prop where
 ok:X.Ok
 os:s.os=X.s₀.os
 bare:AllBare s.gens
 base:Un X.fs X.ex X.H₀ H X.s₀.heap s.heap
 loc:∃m,s.heap.Ns X.env.locals m/\∀(i:Nat) (x:Str) (v:V),X.N[i]? = some x->σ[i]? = some (some v)->Az X.env.scope x->∃u,RelV v u/\Look X.env s.heap m x u
 cell:∀x c,X.env.cells.lookup x=some c->∃v,s.heap.IsCell c v
 free:H X.env.locals=none
 freeC:∀x c,X.env.cells.lookup x=some c->H c=none
 pin:∀p∈X.pn++pins,s.heap.get? p.1=some p.2/\H p.1=none/\p.1≠X.env.locals/\p.1 ∉ X.fs/\∀v,p.2.data≠.cell v
 hok:oq X.prog X.w H s.heap
 len:σ.length=X.N.length
section
variable {X:Cx}{pins:List (Addr × Obj)}{σ:List (Option V)}{H H':Hp}{s:aA}{h':Heap}
theorem Cx.Ok.Vt (ok:X.Ok){b:Addr}{o:Obj}(e:X.base.get? b=some o):b ∉ X.fs:=λhb=>by
 have:=(ok.uV.mem hb).1;rw[e] at this;cases this
theorem Inv.bs (I:Inv X pins σ H s):∀b o,X.base.get? b=some o->s.heap.get? b=some o/\H b=none:=λb o e =>
 ⟨I.base.keep b o (I.ok.bs b o e).1 (I.ok.bs b o e).2 (I.ok.Vt e) (I.ok.Hu b o e),I.base.free b o (I.ok.bs b o e).1 (I.ok.bs b o e).2 (I.ok.Hu b o e)⟩
theorem Inv.bk (I:Inv X pins σ H s):∀b o,X.base.get? b=some o->s.heap.get? b=some o:=λb o e=>(I.bs b o e).1
theorem Inv.mod (I:Inv X pins σ H s):Mod X.K X.mg X.base:=I.ok.mod
theorem Inv.Rh (I:Inv X pins σ H s):X.K.In s.heap:=I.ok.mod.Vs.keeps I.bk
theorem Inv.lt (I:Inv X pins σ H s):X.env.locals<s.heap.objs.size:=let ⟨_,hn,_⟩:=I.loc;hn.lt
theorem Inv.sz (I:Inv X pins σ H s):X.s₀.heap.objs.size<=s.heap.objs.size:=bq I.ok.above (cM I.lt)
theorem Inv.RD (I:Inv X pins σ H s)(h:s.heap.objs.size<=a):a ∉ X.fs:=λhb=>by
 obtain⟨_,o,ho,_⟩:=I.ok.uV.mem hb;exact absurd (aP (aF ho) (bq I.sz h)) (bC _)
theorem Inv.OB (I:Inv X pins σ H s):∀x c,X.env.cells.lookup x=some c->c≠X.env.locals:=λx c e z=>by
 obtain⟨v,o,ho,hd⟩:=I.cell x c e;obtain⟨m,⟨o',es,ep,OC,Vu,_⟩,_⟩:=I.loc;rw[z,OC] at ho;cases ho;rw[Vu] at hd;cases hd
theorem Inv.uV (I:Inv X pins σ H s):s.heap.FunFrames X.base X.outer:=by
 have all:∀(l:List Env),(∀b∈CO l,b∈X.fs)->X.s₀.heap.FunFrames X.base l->s.heap.FunFrames X.base l:=by
  intro l
  induction l with
  | nil=>intro _ _;trivial
  | cons env r ih =>
   intro hs hl;obtain⟨hk,⟨L,o,hf,hn,ho,hd⟩,hr⟩:=hl;have hL:L∈X.fs:=hs L (by unfold CO;rw[cu,hf];exact ao);obtain⟨sl,e⟩:=I.base.slot L o ho (I.ok.Rf L hL) hL λz=>I.ok.K6 L z hL;exact⟨hk,⟨L,_,hf,hn,e,hd⟩,ih (λb hb=>hs b (by unfold CO;rw[cu,hf];exact ag _ hb)) hr⟩
 exact all X.outer (λ_ hb=>hb) I.ok.uV
theorem Inv.stack (I:Inv X pins σ H s):s.heap.FunFrames X.base X.stack:=by
 rcases I.ok.UQ with e | ⟨e,hf⟩
 .rw[e];exact I.uV
 .rw[e]
  obtain⟨m,hn,_⟩:=I.loc;refine .cons (by rw[I.ok.kind];decide) hf hn ?_ I.uV;exact Heap.get?_none_of_le (bq I.ok.OA I.ok.above)
theorem Inv.uW (I:Inv X pins σ H s):∀b∈CO X.stack,b∈X.env.locals::X.fs:=λb hb=>by
 rcases I.ok.UQ with e | ⟨e,hf⟩
 .rw[e] at hb;exact ag _ hb
 .rw[e] at hb
  unfold CO at hb;rw[cu,hf] at hb;exact hb
theorem Inv.Eg (I:Inv X pins σ H s):∀b∈CO X.stack,H b=none:=λb hb=>by
 rcases ax.mp (I.uW b hb) with e | hb
 .rw[e];exact I.free
 .obtain⟨_,o,ho,_⟩:=I.ok.uV.mem hb
  exact I.base.free b o ho (I.ok.Rf b hb) λz=>I.ok.K6 b z hb
theorem Inv.step {g':Array GenState}{t':Nat}{d':Drawn}{ch:List Addr}(I:Inv X pins σ H s)
  (KD:∀b∈ch,(b∈X.ex\/X.s₀.heap.objs.size<=b)/\b≠X.env.locals/\(∀x c,X.env.cells.lookup x=some c->c≠b)/\∀p∈X.pn++pins,p.1≠b)
  (keep:∀b o,b≠X.env.locals->b ∉ X.fs->b ∉ ch->s.heap.get? b=some o->H b=none->h'.get? b=some o)
  (slot:∀b o,b≠X.env.locals->b∈X.fs->b ∉ ch->s.heap.get? b=some o->H b=none->∃sl,h'.get? b=some { o with slots:=sl }) (free:∀b o,b ∉ ch->s.heap.get? b=some o->H b=none->H' b=none)
  (there:∀b o,b ∉ ch->s.heap.get? b=some o->∃o',h'.get? b=some o')
  (AF:∀b xs,H b=some (.tup xs)->H' b=some (.tup xs)) (zg:∀b o u,H b=some (.xJ o u)->H' b=some (.xJ o u)) (AG:∀b ps,H b=some (.Ox ps)->∃more,H' b=some (.Ox (ps++more)))
  (ns:∀m,s.heap.Ns X.env.locals m->h'.Ns X.env.locals m) (hok:oq X.prog X.w H' h') (hg:AllBare g') :
  Inv X pins σ H' { s with heap:=h',gens:=g',drawn:=d',toks:=t' }:=by
 have XT:∀b o,X.s₀.heap.get? b=some o->b≠X.env.locals:=λb o e=>aR (aP (aF e) I.ok.above)
 have UR:∀b o,X.s₀.heap.get? b=some o->b ∉ X.ex->b ∉ ch:=λb o e hx hb=>by
  rcases (KD b hb).1 with z | z
  .exact hx z
  .exact absurd (aP (aF e) z) (bC _)
 have M8:∀x c,X.env.cells.lookup x=some c->∀v,s.heap.IsCell c v->h'.IsCell c v:=λx c e v ⟨o,ho,hd⟩=>by
  have RE:c ∉ ch:=λz=>(KD c z).2.2.1 x c e rfl;by_cases hc:c∈X.fs
  .obtain⟨sl,q⟩:=slot c o (I.OB x c e) hc RE ho (I.freeC x c e)
   exact⟨_,q,hd⟩
  .exact⟨o,keep c o (I.OB x c e) hc RE ho (I.freeC x c e),hd⟩
 refine⟨I.ok,I.os,hg,⟨λb o e n hb hx=>?_,λb o e n hb hx=>?_,λb o e n hx=>?_,λb o e hx=>?_,λb xs e=>AF b xs (I.base.AF b xs e),λb o xs e=>zg b o xs (I.base.zg b o xs e),λb ps e=>?_⟩,?_,λx c e=>?_,?_,λx c e=>?_,λp hp=>?_,hok,I.len⟩
 .exact keep b o (XT b o e) hb (UR b o e hx) (I.base.keep b o e n hb hx) (I.base.free b o e n hx)
 .obtain⟨sl,e1⟩:=I.base.slot b o e n hb hx
  obtain⟨Zm,e2⟩:=slot b _ (XT b o e) hb (UR b o e hx) e1 (I.base.free b o e n hx);exact⟨Zm,e2⟩
 .obtain⟨o',e1⟩:=I.base.there b o e hx
  exact free b o' (UR b o e hx) e1 (I.base.free b o e n hx)
 .obtain⟨o',e1⟩:=I.base.there b o e hx
  exact there b o' (UR b o e hx) e1
 .obtain⟨m1,e1⟩:=I.base.AG b ps e
  obtain⟨m2,e2⟩:=AG b _ e1;exact⟨m1++m2,by rw[e2,Array.append_assoc]⟩
 .obtain⟨m,hn,hl⟩:=I.loc
  refine⟨m,ns m hn,λi x v e1 e2 e3=>?_⟩;obtain⟨u,r,l⟩:=hl i x v e1 e2 e3;refine⟨u,r,?_⟩;rcases l with l | ⟨k,c,e,z⟩
  .exact .inl l
  .exact .inr ⟨k,c,e,M8 x c e _ z⟩
 .obtain⟨v,z⟩:=I.cell x c e
  exact⟨v,M8 x c e v z⟩
 .obtain⟨m,⟨o,_,_,ho,_⟩,_⟩:=I.loc
  exact free _ o (λz=>(KD _ z).2.1 rfl) ho I.free
 .obtain⟨v,o,ho,hd⟩:=I.cell x c e
  exact free c o (λz=>(KD c z).2.2.1 x c e rfl) ho (I.freeC x c e)
 .obtain⟨e,n,ne,nf,d⟩:=I.pin p hp
  have RE:p.1 ∉ ch:=λz=>(KD p.1 z).2.2.2 p hp rfl;exact⟨keep p.1 p.2 ne nf RE e n,free p.1 p.2 RE e n,ne,nf,d⟩
theorem Inv.un {t':Nat}(I:Inv X pins σ H s)(u:Un X.fs [] H H' s.heap h')(hok:oq X.prog X.w H' h'):Inv X pins σ H' { s with heap:=h',toks:=t' }:=by
 obtain⟨m,⟨o,es,ep,ho,r⟩,_⟩:=id I.loc;obtain⟨sl,hL⟩:=u.any ho I.free (!4)
 exact I.step (g':=s.gens) (d':=s.drawn) (ch:=[]) (λ_ z=>nomatch z) (λb o _ hb _ e n=>u.keep b o e n hb (!4)) (λb o _ hb _ e n=>u.slot b o e n hb (!4)) (λb o _ e n=>u.free b o e n (!4)) (λb o _ e=>u.there b o e (!4)) u.AF u.zg u.AG (λm' hm=>by
  obtain⟨o',j7,Ri,OC,r'⟩:=hm;rw[ho] at OC;cases OC;exact⟨_,j7,Ri,hL,r'⟩) hok I.bare
theorem Inv.call {g':Array GenState}{t':Nat}{d':Drawn}{ch:List Addr}(I:Inv X pins σ H s)(u:Un (CO X.stack) ch H H' s.heap h')(hok:oq X.prog X.w H' h')(hg:AllBare g')
  (KD:∀b∈ch,(b∈X.ex\/X.s₀.heap.objs.size<=b)/\b≠X.env.locals/\(∀x c,X.env.cells.lookup x=some c->c≠b)/\∀p∈X.pn++pins,p.1≠b) :
  Inv X pins σ H' { s with heap:=h',gens:=g',drawn:=d',toks:=t' }:=by
 obtain⟨m,⟨o,es,ep,ho,r⟩,_⟩:=id I.loc;obtain⟨sl,hL⟩:=u.any ho I.free λz=>(KD _ z).2.1 rfl
 exact I.step (ch:=ch) KD (λb o hL hb hc e n=>u.keep b o e n (λz=>(ax.mp (I.uW b z)).elim hL hb) hc) (λb o _ _ hc e n=>u.any e n hc) (λb o hc e n=>u.free b o e n hc) (λb o hc e=>u.there b o e hc) u.AF u.zg u.AG (λm' hm=>by
  obtain⟨o',j7,Ri,OC,r'⟩:=hm;rw[ho] at OC;cases OC;exact⟨_,j7,Ri,hL,r'⟩) hok hg
theorem Inv.turned {t':Nat}{it:Addr}(I:Inv X pins σ H s)(k:∀b o,b≠it->s.heap.get? b=some o->h'.get? b=some o)(hn:H it=none)(hL:it≠X.env.locals)
  (h1:it∈X.ex\/X.s₀.heap.objs.size<=it) (h2:∀x c,X.env.cells.lookup x=some c->c≠it) (h3:∀p∈X.pn++pins,p.1≠it):Inv X pins σ H { s with heap:=h',toks:=t' }:=by
 have Hv:∀b u,H b=some u->b≠it:=λb u e z=>by rw[z,hn] at e;cases e
 refine I.step (g':=s.gens) (d':=s.drawn) (ch:=[it]) (λb hb=>?_) (λb o _ _ hc e _=>k b o (λz=>hc (by simp[z])) e) (λb o _ _ hc e _=>⟨o.slots,k b o (λz=>hc (by simp[z])) e⟩) (λ_ _ _ _ n=>n)
  (λb o hc e=>⟨o,k b o (λz=>hc (by simp[z])) e⟩) (λ_ _ e=>e) (λ_ _ _ e=>e) (λb ps e=>⟨#[],by rw[e];simp⟩) (λm hm=>?_) (λb u e=>?_) I.bare
 .have e:b=it:=by simpa using hb
  subst e;exact⟨h1,hL,h2,h3⟩
 .obtain⟨o,es,ep,ho,r⟩:=hm
  exact⟨o,es,ep,k _ o (Ne.symm hL) ho,r⟩
 .refine (I.hok b u e).CN (λc v hc q=>k c v ?_ q) (λ_ q=>q) λ_ _ q=>q
  rcases hc with z | z
  .rw[z];exact Hv b u e
  .exact Hv c _ z
theorem Inv.tok (I:Inv X pins σ H s)(t:Nat):Inv X pins σ H { s with toks:=t }:=I.un (h':=s.heap) (t':=t) Un.refl I.hok
theorem Inv.kept {t':Nat}(I:Inv X pins σ H s)(k:∀b u,s.heap.get? b=some u->h'.get? b=some u):Inv X pins σ H { s with heap:=h',toks:=t' }:=I.un (Un.kept k) (I.hok.kept k)
theorem Inv.laid {a:Addr}{o:HO}{t':Nat}(I:Inv X pins σ H s)(k:∀b u,s.heap.get? b=some u->h'.get? b=some u)(hp:s.heap.objs.size<=a)(new:gT X.prog X.w (fz H a o) h' a o) :
  Inv X pins σ (fz H a o) { s with heap:=h',toks:=t' }:=I.un (Un.laid k hp (I.hok.fresh hp)) (I.hok.laid k hp new)
theorem Inv.write {x e:Addr}{o:HO}{t':Nat}(I:Inv X pins σ H s)(mu:RA (H x))(he:e=x\/H e=some (.own x))(k:∀b u,b≠e->s.heap.get? b=some u->h'.get? b=some u)(Rb:∃u,h'.get? e=some u)
  (new:gT X.prog X.w (fz H x o) h' x o):Inv X pins σ (fz H x o) { s with heap:=h',toks:=t' }:=I.un (Un.write mu he k Rb) (I.hok.write mu he k Rb new)
theorem Inv.uy (I:Inv X pins σ H s)(h:∀p∈RF,s.heap.get? p.1=some p.2/\H p.1=none/\p.1≠X.env.locals/\p.1 ∉ X.fs/\∀v,p.2.data≠.cell v):Inv X RF σ H s :=
 ⟨I.ok,I.os,I.bare,I.base,I.loc,I.cell,I.free,I.freeC,λp hp=>(aX.mp hp).elim (λz=>I.pin p (br _ z)) (h p),I.hok,I.len⟩
theorem AH {N:List Str}(hN:N.Nodup){i j:Nat}{x:Str}(a:N[i]? = some x)(b:N[j]? = some x):i=j:=by
 obtain⟨h1,e1⟩:=aG.mp a;obtain⟨h2,e2⟩:=aG.mp b;exact (List.getElem_inj hN).mp (e1.trans e2.symm)
theorem xK {M:Model}{A:Around}{E:ah->aA->Prop}{i:Nat}{x:Str}{v:V}{u:ah}{Q:Unit->aA->Prop}(I:Inv X pins σ H s)(hN:X.N.Nodup)(hi:X.N[i]? = some x)(hx:Loc X.env.scope x)(r:RelV v u)
  (h:∀s',Inv X pins (σ.set i (some v)) H s'->(∃a,Heap.SameBut a s.heap s'.heap/\(a=X.env.locals\/X.env.cells.lookup x=some a))->Q () s') (hf:X.fn x=true\/X.env.scope.names.lookup x=some .local:=by (first | exact .inl rfl | exact .inr rfl | assumption)):aH M A (storeName X.env x u) Q E s:=by
 obtain⟨m,hn,hl⟩:=id I.loc;have Vv:(X.env.scope.kind == .class || (X.env.scope.kind == .module && X.env.locals != X.env.globals))=false:=by rw[I.ok.kind];rfl
 have RG:i<σ.length:=by rw[I.len];exact (aG.mp hi).1
 have OB:=I.OB
 have Eh:∀{a:Addr} {h':Heap},(∃o,s.heap.get? a=some o/\H a=none)->Heap.SameBut a s.heap h'->oq X.prog X.w H h':=λ{a h'} ha hs b ob e=>by
  obtain⟨_,_,M9⟩:=ha;refine (I.hok b ob e).CN (λc w' hc q=>(hs.2 c ?_).trans q) (λ_ q=>q) λ_ _ q=>q;rintro rfl;rcases hc with rfl | hc
  .rw[M9] at e;cases e
  .rw[M9] at hc;cases hc
 rcases hx with hk | hk
 .refine wpAny_storeName_local hk hn (λh' Zn hs=>?_) Vv
  obtain⟨oL,_,_,RH,_⟩:=id hn;refine h _ ⟨I.ok,I.os,I.bare,⟨λb o e n hb hx=>?_,λb o e n hb hx=>?_,I.base.free,λb o e hx=>?_,I.base.AF,I.base.zg,I.base.AG⟩,⟨_,Zn,λj y v' e1 e2 e3=>?_⟩,λy c e=>?_,I.free,I.freeC,λp hp=>?_,Eh ⟨oL,RH,I.free⟩ hs,by simpa using I.len⟩ ⟨_,hs,.inl rfl⟩
  .exact (hs.2 b (aR (aP (aF e) I.ok.above))).trans (I.base.keep b o e n hb hx)
  .obtain⟨sl,e1⟩:=I.base.slot b o e n hb hx
   exact⟨sl,(hs.2 b (aR (aP (aF e) I.ok.above))).trans e1⟩
  .obtain⟨o',e1⟩:=I.base.there b o e hx
   exact⟨o',(hs.2 b (aR (aP (aF e) I.ok.above))).trans e1⟩
  .by_cases hj:j=i
   .subst hj
    rw[hi] at e1;cases e1;rw[cN RG] at e2;cases e2;exact⟨u,r,.inl ⟨hk,!4⟩⟩
   .rw[aV (Ne.symm hj)] at e2
    obtain⟨u',r',q⟩:=hl j y v' e1 e2 e3;refine⟨u',r',?_⟩;rcases q with⟨k,e⟩ | ⟨k,c,e,z⟩
    .refine .inl ⟨k,?_⟩
     have:y≠x:=λe=>hj (AH hN e1 (e ▸ hi));simp[this,e]
    .exact .inr ⟨k,c,e,z.sameBut hs (OB y c e)⟩
  .obtain⟨w',z⟩:=I.cell y c e
   exact⟨w',z.sameBut hs (OB y c e)⟩
  .obtain⟨e,n,ne,nf,d⟩:=I.pin p hp
   exact⟨(hs.2 p.1 ne).trans e,n,ne,nf,d⟩
 .have Vw:X.fn x=true:=by
   rcases hf with z | z
   .exact z
   .rw[z] at hk;cases hk
  obtain⟨c,hc⟩:=I.ok.has x (.inl hk);obtain⟨w',z⟩:=I.cell x c hc;refine wpAny_storeName_cell I.ok.kind hk hc z (λh' xM hs=>?_);obtain⟨oc,XU,Vx⟩:=id z;refine h { s with heap:=h' } ⟨I.ok,I.os,I.bare,⟨λb o e n hb hx=>?_,λb o e n hb hx=>?_,I.base.free,λb o e hx=>?_,I.base.AF,I.base.zg,I.base.AG⟩,⟨m,hn.sameBut hs (Ne.symm (OB x c hc)),λj y v' e1 e2 e3=>?_⟩,λy c' e=>?_,I.free,I.freeC,λp hp=>?_,Eh ⟨oc,XU,I.freeC x c hc⟩ hs,by simpa using I.len⟩ ⟨c,hs,.inr hc⟩
  .exact (hs.2 b (aR (aP (aF e) (I.ok.RC x c Vw hc)))).trans (I.base.keep b o e n hb hx)
  .obtain⟨sl,e1⟩:=I.base.slot b o e n hb hx
   exact⟨sl,(hs.2 b (aR (aP (aF e) (I.ok.RC x c Vw hc)))).trans e1⟩
  .obtain⟨o',e1⟩:=I.base.there b o e hx
   exact⟨o',(hs.2 b (aR (aP (aF e) (I.ok.RC x c Vw hc)))).trans e1⟩
  .by_cases hj:j=i
   .subst hj
    rw[hi] at e1;cases e1;rw[cN RG] at e2;cases e2;exact⟨u,r,.inr ⟨.inl hk,c,hc,xM⟩⟩
   .rw[aV (Ne.symm hj)] at e2
    obtain⟨u',r',q⟩:=hl j y v' e1 e2 e3;refine⟨u',r',?_⟩;rcases q with q | ⟨k,c',e,z'⟩
    .exact .inl q
    .refine .inr ⟨k,c',e,z'.sameBut hs ?_⟩
     rintro rfl;exact hj (AH hN e1 (I.ok.inj _ _ _ e hc ▸ hi))
  .by_cases RI:c'=c
   .subst RI;exact⟨_,xM⟩
   .obtain⟨w2,z2⟩:=I.cell y c' e
    exact⟨w2,z2.sameBut hs RI⟩
  .obtain⟨e,n,ne,nf,d⟩:=I.pin p hp
   refine⟨(hs.2 p.1 ?_).trans e,n,ne,nf,d⟩;intro q;rw[q,XU] at e;have q':oc=p.2:=Option.some.inj e;exact d w' (by rw[<- q'];exact Vx)
theorem AI (I:Inv X pins σ H s)(hN:X.N.Nodup)(hi:X.N[i]? = some x)(hx:Loc X.env.scope x)(r:RelV v u)
  (h:∀s',Inv X pins (σ.set i (some v)) H s'->Q () s') (hf:X.fn x=true\/X.env.scope.names.lookup x=some .local:=by (first | exact .inl rfl | exact .inr rfl | assumption)):aH M A (storeName X.env x u) Q E s :=
 xK I hN hi hx r (λs' I' _=>h s' I') hf
theorem Inv.RJ {s':aA}{ch:List Addr}(I:Inv X pins σ H s)(ho:s'.os=s.os)(u:Un (CO X.stack) ch H H' s.heap s'.heap)(hok:oq X.prog X.w H' s'.heap)(hg:AllBare s'.gens)
  (KD:∀b∈ch,(b∈X.ex\/X.s₀.heap.objs.size<=b)/\b≠X.env.locals/\(∀x c,X.env.cells.lookup x=some c->c≠b)/\∀p∈X.pn++pins,p.1≠b):Inv X pins σ H' s':=by
 obtain⟨h',g',d',t',o'⟩:=s';have e:o'=s.os:=ho;subst e;exact I.call (g':=g') (t':=t') (d':=d') u hok hg KD
end
noncomputable abbrev XK:=ah->Option Addr->Hp->Prop
noncomputable abbrev St:=List (Option V)
noncomputable abbrev VK:=V->Hp->Prop
noncomputable abbrev TE:=St->Hp->VK->Prop
noncomputable abbrev TT:=St->Hp->(Bool->Hp->Prop)->Prop
noncomputable abbrev TA:=St->Hp->(List V->Hp->Prop)->Prop
structure Ends where
 nx:St->Hp->Prop
 rt:VK
 bk:St->Hp->Prop:=λ_ _=>False
 ct:St->Hp->Prop:=λ_ _=>False
noncomputable abbrev TS:=Ends->St->Hp->Prop
noncomputable def EP (X:Cx)(pins:List (!19))(σ:St)(Q:VK)(u:ah)(s':aA):Prop:=∃v H',Inv X pins σ H' s'/\RelV v u/\Q v H'
noncomputable def TP (X:Cx)(pins:List (!19))(σ:St)(Q:Bool->Hp->Prop)(b:Bool)(s':aA):Prop:=∃H',Inv X pins σ H' s'/\Q b H'
noncomputable def AP (X:Cx)(pins:List (!19))(σ:St)(Q:List V->Hp->Prop)(us:List ah)(s':aA):Prop:=∃vs H',Inv X pins σ H' s'/\eS vs us/\Q vs H'
noncomputable def SP (X:Cx)(pins:List (!19))(D:Ends)(f:Flow)(s':aA):Prop :=
 match f with
 | .next=>∃σ' H',Inv X pins σ' H' s'/\D.nx σ' H'
 | .brk=>∃σ' H',Inv X pins σ' H' s'/\D.bk σ' H'
 | .cont=>∃σ' H',Inv X pins σ' H' s'/\D.ct σ' H'
 | .ret u=>∃v σ' H',Inv X pins σ' H' s'/\RelV v u/\D.rt v H'
noncomputable def PE (X:Cx)(e:Expr)(t:TE):Prop :=
 ∀(pins:List (!19)) (s:aA) (σ:St) (H:Hp) (Q:VK),Inv X pins σ H s->t σ H Q->aH (!11) X.A (eval e X.env) (EP X pins σ Q) X.xe s
noncomputable def PT (X:Cx)(e:Expr)(t:TT):Prop :=
 ∀(pins:List (!19)) (s:aA) (σ:St) (H:Hp) (Q:Bool->Hp->Prop),Inv X pins σ H s->t σ H Q->aH (!11) X.A (isTrue e X.env (eval e X.env)) (TP X pins σ Q) X.xe s
noncomputable def PW (X:Cx)(e:Expr)(t:TT):Prop :=
 ∀(pN:Sem ah) (pins:List (!19)) (s:aA) (σ:St) (H:Hp) (Q:Bool->Hp->Prop),Inv X pins σ H s->t σ H Q->aH (!11) X.A (isTrue e X.env pN) (TP X pins σ Q) X.xe s
theorem PW.pt (h:PW X e t):PT X e t:=h _
noncomputable def PA (X:Cx)(es:List Expr)(t:TA):Prop :=
 ∀(pos:Pos) (pins:List (!19)) (s:aA) (σ:St) (H:Hp) (Q:List V->Hp->Prop),Inv X pins σ H s->t σ H Q->aH (!11) X.A (spliced (backTo pos (starEach es X.env))) (AP X pins σ Q) X.xe s
noncomputable def PS (X:Cx)(st:Stmt)(t:TS):Prop :=
 ∀(pins:List (!19)) (s:aA) (σ:St) (H:Hp) (D:Ends),Inv X pins σ H s->t D σ H->aH (!11) X.A (exec st X.env) (SP X pins D) X.xe s
noncomputable def CJ (X:Cx)(st:List Stmt)(t:TS):Prop :=
 ∀(pins:List (!19)) (s:aA) (σ:St) (H:Hp) (D:Ends),Inv X pins σ H s->t D σ H->aH (!11) X.A (execs st X.env) (SP X pins D) X.xe s
theorem gr {α:Type}{t:Sem α}{Q Q':α->aA->Prop}{M:Model}{A:Around}{E:ah->aA->Prop}{s:aA}(h:aH M A t Q E s)(hQ:∀a s,Q a s->Q' a s):aH M A t Q' E s:=cf h hQ λ_ _ x=>x
section
variable {X:Cx}
noncomputable def K7 (i:Nat):TE:=λσ H Q=>∃v,σ[i]? = some (some v)/\Q v H
noncomputable def tC (v:V):TE:=λ_ H Q=>Q v H
theorem Hw (hN:X.N[i]? = some x)(hv:Az X.env.scope x)(hd:(x == (!17))=false:=by decide)(mY:(x == (!22))=false:=by decide):PE X (.Name x pos) (K7 i):=by
 rw[10];obtain⟨v,e,h⟩:=h;obtain⟨m,hn,hl⟩:=I.loc;obtain⟨u,r,l⟩:=hl i x v hN e hv;have fin:EP X pins σ Q u s:=⟨v,H,I,r,h⟩;rcases l with⟨hk,hm⟩ | ⟨hk,c,hc,M'⟩
 .exact wpAny_Name (wpAny_loadName_local I.ok.kind hk hn hm fin) hd
 .rcases hk with hk | hk
  .exact wpAny_Name (wpAny_loadName_cell I.ok.kind hk hc M' fin) hd
  .exact wpAny_Name (wpAny_loadName_free I.ok.kind hk hc M' fin mY) hd
theorem OD {i j pos}:PE X (.Constant (.int i) j pos) (tC (.int i)):=λ_ _ _ H _ I h=>wpAny_Constant_int ⟨.int i,H,I.tok _,⟨_,rfl⟩,h⟩
theorem RK {b j pos}:PE X (.Constant (.bool b) j pos) (tC (.bl b)):=λ_ _ _ H _ I h=>Constant_bool ⟨.bl b,H,I,rfl,h⟩
theorem Hx {j pos}:PE X (.Constant .none j pos) (tC .jm):=λ_ _ _ H _ I h=>Constant_none ⟨.jm,H,I,rfl,h⟩
theorem OE {x j pos}:PE X (.Constant (.str x) j pos) (tC (.str x)):=λ_ _ _ H _ I h=>Calls.Constant_str ⟨.str x,H,I.tok _,⟨_,rfl⟩,h⟩
noncomputable def Gl (X:Cx)(x:Str):Prop:=X.env.kindOf x=some .globalImplicit
theorem Ei (I:Inv X pins σ H s)(hg:Gl X x)(hm:X.mg x=some u)(h:Q u s)
  (hd:(x == (!17))=false:=by decide):aH (!11) X.A (eval (.Name x pos) X.env) Q E s :=
 Calls.Name_function_global I.ok.kind hg (Calls.loadGlobal_global (by rw[I.ok.glob];exact I.mod.glob.keeps I.bk) hm h) hd
theorem sr (I:Inv X pins σ H s)(hg:Gl X x)(hm:X.mg x=none)(hv:bootBuiltins x=some u)(h:Q u s)
  (hn:x ≠ "__name__" := by decide) (hd:(x == (!17))=false:=by decide):aH (!11) X.A (eval (.Name x pos) X.env) Q E s:=by
 obtain⟨mb,h1,h2⟩:=I.mod.blt;exact Calls.Name_function_global I.ok.kind hg (Calls.loadGlobal_builtin (by rw[I.ok.glob];exact I.mod.glob.keeps I.bk) hm (by rw[I.ok.blt];exact h1.keeps I.bk) ((h2 x hn).trans hv) h) hd
theorem K8 {x:Str}{v:V}{u:ah}{pos:Pos}(hg:Gl X x)(hm:X.mg x=some u)(r:RelV v u)(hd:(x == (!17))=false:=by decide):PE X (.Name x pos) (tC v) :=
 λ_ _ _ H _ I h=>Ei I hg hm ⟨v,H,I,r,h⟩ hd
variable {a b:Expr}{ta tb:TE}{pos:Pos}
noncomputable def PC (X:Cx)(op:CmpOp)(a b:Expr)(t:TE):Prop :=
 ∀(pins:List (!19)) (s:aA) (σ:St) (H:Hp) (Q:VK),Inv X pins σ H s->t σ H Q ->
  aH (!11) X.A (eval a X.env) (λv s₁=>aH (!11) X.A (eval b X.env) (λu s₂=>aH (!11) X.A (compareOp op v u) (EP X pins σ Q) X.xe s₂) X.xe s₁) X.xe s
noncomputable def tB (t:TE):TT:=λσ H Q=>t σ H λx H1=>∃c,x=.bl c/\Q c H1
theorem OG (h:PC X op a b t)(h1:behindInMarks op b=false:=by first | exact Hy _ (!2) (!2) | rfl):PE X (.Compare a [op] [b] pos) t:=λpins s σ H Q I hw=>wpAny_Compare1 (h pins s σ H Q I hw) h1
theorem Hz (h:PC X op a b t)(h1:behindInMarks op b=false:=by first | exact Hy _ (!2) (!2) | rfl):PT X (.Compare a [op] [b] pos) (tB t):=by
 intro pins s σ H Q I hw;refine wpAny_isTrue_Compare1 (gr (h pins s σ H _ I hw) λv s1 h1=>gr h1 λu s2 h2=>gr h2 λc s3 ⟨x,H1,I1,r1,q1⟩=>?_) h1;obtain⟨d,rfl,q⟩:=q1;cases r1;exact wpAny_truthy_bool ⟨H1,I1,q⟩
theorem OH {e:Expr}{t:TE}(h:PE X e t)(he:∀pN,isTrue e X.env pN=(do let v <- pN;standAt e.pos;holding [v] (truthy v)):=by rw[31]):PT X e (tB t):=by
 intro pins s σ H Q I hw;refine isTrue_plain (gr (h pins s σ H _ I hw) λv s1 ⟨x,H1,I1,r1,q1⟩=>?_) (he _);obtain⟨d,rfl,q⟩:=q1;cases r1;exact wpAny_truthy_bool ⟨H1,I1,q⟩
variable {tA K9:TT}{rest:List Expr}
noncomputable def RL (t u:TT):TT:=λσ H Q=>t σ H λc H1=>if c=true then u σ H1 Q else Q false H1
noncomputable def XW (t u:TT):TT:=λσ H Q=>t σ H λc H1=>if c=true then Q true H1 else u σ H1 Q
noncomputable def RN (t:TT):TT:=λσ H Q=>t σ H λc H1=>Q (!c) H1
theorem pw_and1 (ha:PT X a tA):PW X (.BoolOp .And [a] pos) tA:=by
 intro wh pins s σ H Q I h;refine isTrue_and (gr (ha pins s σ H Q I h) λc s1 e=>?_)
 cases c with
 | true=>exact isTrue_and_nil e
 | false=>exact e
theorem pw_or1 (ha:PT X a tA):PW X (.BoolOp .Or [a] pos) tA:=by
 intro wh pins s σ H Q I h;refine isTrue_or (gr (ha pins s σ H Q I h) λc s1 e=>?_)
 cases c with
 | false=>exact isTrue_or_nil e
 | true=>exact e
theorem pw_and (ha:PT X a tA)(hb:PW X (.BoolOp .And (b::rest) pos) K9):PW X (.BoolOp .And (a::b::rest) pos) (RL tA K9):=by
 intro wh pins s σ H Q I h;refine isTrue_and (gr (ha pins s σ H _ I h) λc s1 ⟨H1,I1,q1⟩=>?_)
 cases c with
 | true=>exact hb wh pins s1 σ H1 Q I1 q1
 | false=>exact⟨H1,I1,q1⟩
theorem pw_or (ha:PT X a tA)(hb:PW X (.BoolOp .Or (b::rest) pos) K9):PW X (.BoolOp .Or (a::b::rest) pos) (XW tA K9):=by
 intro wh pins s σ H Q I h;refine isTrue_or (gr (ha pins s σ H _ I h) λc s1 ⟨H1,I1,q1⟩=>?_)
 cases c with
 | true=>exact⟨H1,I1,q1⟩
 | false=>exact hb wh pins s1 σ H1 Q I1 q1
theorem OI (ha:PT X a tA):PT X (.UnaryOp .Not a pos) (RN tA):=by
 rw[10];exact isTrue_not (ha pins s σ H (λc H1=>Q (!c) H1) I h)
noncomputable def Na (ta:TE):TE:=λσ H Q=>ta σ H λx H1=>∃c,x=.bl c/\Q (.bl (!c)) H1
theorem OJ (ha:PE X a ta):PE X (.UnaryOp .Not a pos) (Na ta):=by
 rw[10];refine UnaryOp_ (gr (ha pins s σ H _ I h) λv s1 ⟨x,H1,I1,r1,q1⟩=>?_);obtain⟨c,rfl,q1⟩:=q1;cases r1;exact not_of (wpAny_truthy_bool ⟨.bl (!c),H1,I1,rfl,q1⟩)
noncomputable def XX (t:TT)(ta tb:TE):TE:=λσ H Q=>t σ H λc H1=>if c=true then ta σ H1 Q else tb σ H1 Q
theorem HA (hc:PT X c tA)(ha:PE X a ta)(hb:PE X b tb):PE X (.IfExp c a b pos) (XX tA ta tb):=by
 rw[10];refine wpAny_IfExp (gr (hc pins s σ H _ I h) λd s1 ⟨H1,I1,q1⟩=>?_)
 cases d with
 | true=>exact ha pins s1 σ H1 Q I1 q1
 | false=>exact hb pins s1 σ H1 Q I1 q1
end
noncomputable def gx (K:W.Frag)(H:Hp)(a:Addr)(xs:List V):Prop :=
 Rd H a (.lst xs) \/
  ∃(o:Obj) (its:Array ah) (n:Nat),K.lookup a=some o/\o.cls=.type "list" /\ o.dict=none/\o.data=.seq its n/\its.size<=aC/\eS xs its.toList
noncomputable def jt (K:W.Frag)(H:Hp)(a:Addr)(xs:List V):Prop :=
 Rd H a (.tup xs) \/
  ∃(o:Obj) (its:Array ah) (n:Nat),K.lookup a=some o/\o.cls=.type "tuple" /\ o.data=.seq its n/\its.size<=aC/\eS xs its.toList
noncomputable def Vy:ah->Option V
 | .none=>some .jm
 | .bool b=>some (.bl b)
 | .int i _=>some (.int i)
 | .str x _=>some (.str x)
 | .bytes b _=>some (.K3 b)
 | .float b _=>some (.Vq b)
 | .ref a=>some (.ref a)
 | .type n=>some (.ty n)
 | _=>none
theorem RelV.abs (r:RelV x u):Vy u=some x:=by
 cases x with
 | jm=>cases r;rfl
 | bl _=>cases r;rfl
 | int _=>obtain⟨t,rfl⟩:=r;rfl
 | str _=>obtain⟨t,rfl⟩:=r;rfl
 | K3 _=>obtain⟨t,rfl⟩:=r;rfl
 | Vq _=>obtain⟨t,rfl⟩:=r;rfl
 | ref _=>cases r;rfl
 | ty _=>cases r;rfl
theorem RelV.inj (r:RelV x u)(q:RelV y u):x=y:=Option.some.inj (r.abs.symm.trans q.abs)
theorem eS.inj:∀{xs ys:List V} {us:List ah},eS xs us->eS ys us->xs=ys
 | _,_,_,.nil,.nil=>rfl
 | _,_,_,.cons r t,.cons r' t'=>by rw[r.inj r',eS.inj t t']
section
theorem gx.of {K:W.Frag}(h:H a=some (.lst xs)):gx K H a xs:=.inl (.inl h)
theorem jt.of {K:W.Frag}(h:H a=some (.tup xs)):jt K H a xs:=.inl (.inl h)
theorem Inv.list (I:Inv X pins σ H s)(h:gx X.K H a xs):∃its:List ah,eS xs its/\PlainL s.heap a its.toArray/\xs.length<=aC:=by
 rcases h with h | ⟨o,its,n,hk,hc,hd,hs,hz,r⟩
 .obtain⟨z,its,n,r,e⟩:=h.ok I.hok
  exact⟨its,r,⟨_,n,e,rfl,rfl,rfl⟩,z⟩
 .refine⟨its.toList,r,⟨o,n,I.Rh a o hk,hc,hd,by simpa using hs⟩,?_⟩
  have e:=r.length;simp only[bD] at e;omega
theorem Inv.tuple (I:Inv X pins σ H s)(h:jt X.K H a xs):∃its:List ah,eS xs its/\IsTup s.heap a its.toArray/\xs.length<=aC:=by
 rcases h with h | ⟨o,its,n,hk,hc,hs,hz,r⟩
 .obtain⟨z,its,r,p⟩:=h.ok I.hok
  exact⟨its,r,p.tup,z⟩
 .refine⟨its.toList,r,⟨o,I.Rh a o hk,hc,n,by simpa using hs⟩,?_⟩
  have e:=r.length;simp only[bD] at e;omega
theorem Inv.qS (I:Inv X pins σ H s)(h:gx X.K H a xs)(h':gx X.K H a ys):xs=ys:=by
 obtain⟨its,r,⟨o,n,e,_,_,d⟩,_⟩:=I.list h;obtain⟨its',r',⟨o',n',e',_,_,d'⟩,_⟩:=I.list h';rw[e] at e';cases e';rw[d] at d';injection d' with d1 _;have:its=its':=by simpa using congrArg Array.toList d1
 subst this;exact r.inj r'
theorem Inv.xN (I:Inv X pins σ H s)(h:jt X.K H a xs)(h':jt X.K H a ys):xs=ys:=by
 obtain⟨its,r,⟨o,e,_,n,d⟩,_⟩:=I.tuple h;obtain⟨its',r',⟨o',e',_,n',d'⟩,_⟩:=I.tuple h';rw[e] at e';cases e';rw[d] at d';injection d' with d1 _;have:its=its':=by simpa using congrArg Array.toList d1
 subst this;exact r.inj r'
end
noncomputable abbrev Cx.wY (X:Cx)(E:ah->aA->Prop):Cx:={ X with xe:=E }
noncomputable abbrev Cx.FJ (X:Cx):Cx:=X.wY λ_ _=>False
theorem Cx.Ok.wY {X:Cx}(ok:X.Ok)(E:ah->aA->Prop):(X.wY E).Ok :=
 ⟨ok.mod,ok.kind,ok.glob,ok.blt,ok.above,ok.inj,ok.has,ok.RC,ok.hd,ok.frames,ok.UQ,ok.XS,ok.bs,ok.OA,ok.Hu,ok.K6,ok.uV,ok.Rf⟩
theorem Cx.Ok.ou {X:Cx}{E:ah->aA->Prop}(ok:(X.wY E).Ok):X.Ok :=
 ⟨ok.mod,ok.kind,ok.glob,ok.blt,ok.above,ok.inj,ok.has,ok.RC,ok.hd,ok.frames,ok.UQ,ok.XS,ok.bs,ok.OA,ok.Hu,ok.K6,ok.uV,ok.Rf⟩
section
variable {X:Cx}{pins:List (Addr × Obj)}{σ:St}{H:Hp}{s:aA}{E:ah->aA->Prop}
theorem Inv.wY (I:Inv X pins σ H s)(E:ah->aA->Prop):Inv (X.wY E) pins σ H s:=⟨I.ok.wY E,I.os,I.bare,I.base,I.loc,I.cell,I.free,I.freeC,I.pin,I.hok,I.len⟩
theorem Inv.ou (I:Inv (X.wY E) pins σ H s):Inv X pins σ H s:=⟨I.ok.ou,I.os,I.bare,I.base,I.loc,I.cell,I.free,I.freeC,I.pin,I.hok,I.len⟩
theorem SP.ou (h:SP (X.wY E) pins D f s'):SP X pins D f s':=by
 cases f with
 | next=>obtain⟨σ',H',I,q⟩:=h;exact⟨σ',H',I.ou,q⟩
 | brk=>obtain⟨σ',H',I,q⟩:=h;exact⟨σ',H',I.ou,q⟩
 | cont=>obtain⟨σ',H',I,q⟩:=h;exact⟨σ',H',I.ou,q⟩
 | ret u=>obtain⟨v,σ',H',I,r,q⟩:=h;exact⟨v,σ',H',I.ou,r,q⟩
theorem CJ.FJ {st:List Stmt}{t:TS}(h:CJ X.FJ st t):CJ X st t:=λpins s σ H D I hw =>
 cf (h pins s σ H D (I.wY _) hw) (λ_ _ q=>q.ou) λ_ _ z=>False.elim z
end
section
variable {X:Cx}{st:Stmt}{rest:List Stmt}{t u:TS}{e:Expr}{te:TE}{pos:Pos}
noncomputable def Nb:TS:=λD σ H=>D.nx σ H
noncomputable def RO (t u:TS):TS:=λD σ H=>t { D with nx:=u D } σ H
theorem La:CJ X [] Nb:=λ_ _ σ H _ I h=>wpAny_execs_nil ⟨σ,H,I,h⟩
theorem HB (h1:PS X st t)(h2:CJ X rest u):CJ X (st::rest) (RO t u):=by
 rw[22];refine wpAny_execs_cons (gr (h1 pins s σ H { D with nx:=u D } I h) λf s1 q=>?_)
 cases f with
 | next =>
  obtain⟨σ',H',I',q⟩:=q;exact h2 pins s1 σ' H' D I' q
 | ret v=>exact q
 | brk=>exact q
 | cont=>exact q
theorem Lb (h1:PS X st t):CJ X [st] t:=by
 rw[22];refine wpAny_execs_cons (gr (h1 pins s σ H D I h) λf s1 q=>?_)
 cases f with
 | next=>exact wpAny_execs_nil q
 | ret v=>exact q
 | brk=>exact q
 | cont=>exact q
theorem Inv.quiet {pins:List (!19)}{σ:St}{H:Hp}{s:aA}(I:Inv X pins σ H s):interactive X.env=false:=by simp[interactive,I.ok.kind]
noncomputable def Nc (te:TE):TS:=λD σ H=>te σ H λ_ H1=>D.nx σ H1
theorem Lc (he:PE X e te)(hs:swapsWith e none pos.line X.env=pure false:=by rfl):PS X (.Expr e pos) (Nc te):=by
 rw[22];exact wpAny_Expr_any (gr (he pins s σ H _ I h) λv s1 ⟨x,H1,I1,r1,q1⟩=>⟨σ,H1,I1,q1⟩) I.quiet hs
noncomputable def RP (te:TE):TS:=λD σ H=>te σ H D.rt
theorem OK (he:PE X e te):PS X (.Return (some e) pos) (RP te):=by
 rw[22];exact wpAny_Return_some (gr (he pins s σ H _ I h) λv s1 ⟨x,H1,I1,r1,q1⟩=>⟨x,σ,H1,I1,r1,q1⟩)
noncomputable def RQ (c:TT)(t u:TS):TS:=λD σ H=>c σ H λb H1=>if b=true then t D σ H1 else u D σ H1
theorem RR (hc:PT X c tc)(ha:CJ X a t)(hb:CJ X b u):PS X (.If c a b pos) (RQ tc t u):=by
 rw[22];refine wpAny_If (gr (hc pins s σ H _ I h) λd s1 ⟨H1,I1,q1⟩=>?_)
 cases d with
 | true=>exact ha pins s1 σ H1 D I1 q1
 | false=>exact hb pins s1 σ H1 D I1 q1
end
noncomputable abbrev TG:=V->St->Hp->(St->Hp->Prop)->Prop
noncomputable abbrev OL:=List V->St->Hp->(St->Hp->Prop)->Prop
noncomputable def PG (X:Cx)(target:Expr)(t:TG):Prop :=
 ∀(pins:List (!19)) (s:aA) (σ:St) (H:Hp) (v:V) (u:ah) (Q:St->Hp->Prop),Inv X pins σ H s->RelV v u->t v σ H Q ->
  aH (!11) X.A (assign target X.env u) (λ_ s'=>∃σ' H',Inv X pins σ' H' s'/\Q σ' H') X.xe s
noncomputable def RS (X:Cx)(ts:List Expr)(t:OL):Prop :=
 ∀(pins:List (!19)) (s:aA) (σ:St) (H:Hp) (vs:List V) (us:List ah) (Q:St->Hp->Prop),Inv X pins σ H s->eS vs us->t vs σ H Q ->
  aH (!11) X.A (assignInOrder ((assignEach ts X.env).map (·.2)) us) (λ_ s'=>∃σ' H',Inv X pins σ' H' s'/\Q σ' H') X.xe s
noncomputable abbrev RT:=V->V->V->Hp->(Hp->Prop)->Prop
noncomputable def OM (X:Cx)(t:RT):Prop :=
 ∀(pins:List (!19)) (s:aA) (σ:St) (H:Hp) (o i v:V) (ov iv u:ah) (Q:Hp->Prop),Inv X pins σ H s->RelV o ov->RelV i iv->RelV v u->t o i v H Q ->
  aH (!11) X.A (setItem ov iv u) (λ_ s'=>∃H',Inv X pins σ H' s'/\Q H') X.xe s
section
variable {X:Cx}{pos:Pos}
noncomputable def AJ (i:Nat):TG:=λv σ H Q=>Q (σ.set i (some v)) H
theorem Ld (hN:X.N.Nodup)(hi:X.N[i]? = some x)(hx:Loc X.env.scope x)(hf:X.fn x=true\/X.env.scope.names.lookup x=some .local:=by (first | exact .inl rfl | exact .inr rfl | assumption)):PG X (.Name x pos) (AJ i):=by
 intro pins s σ H v u Q I r h;exact wpAny_assign_Name (AI I hN hi hx r (λs' I'=>⟨_,H,I',h⟩) hf)
noncomputable def RU:OL:=λvs σ H Q=>vs=[]/\Q σ H
noncomputable def Nd (t:TG)(u:OL):OL:=λvs σ H Q=>∃v r,vs=v::r/\t v σ H λσ' H'=>u r σ' H' Q
theorem Le:RS X [] RU:=by
 intro pins s σ H vs us Q I r h;obtain⟨e,h⟩:=h;subst e;cases r;exact assignInOrder_nil ⟨σ,H,I,h⟩
theorem HC (h1:PG X e t)(h2:RS X es u)
  (hs:(assignEach (e::es) X.env).map (·.2)=assign e X.env::(assignEach es X.env).map (·.2):=by rfl):RS X (e::es) (Nd t u):=by
 intro pins s σ H vs us Q I r h;obtain⟨v,vr,e1,h⟩:=h;subst e1
 cases r with
 | cons r rr =>
  rw[hs];refine assignInOrder_cons (gr (h1 pins s σ H _ _ _ I r h) λ_ s1 ⟨σ1,H1,I1,q1⟩=>?_);exact h2 pins s1 σ1 H1 _ _ Q I1 rr q1
noncomputable def RV (K:W.Frag)(n:Nat)(t:OL):TG:=λv σ H Q=>∃a xs,v=.ref a/\jt K H a xs/\xs.length=n/\t xs σ H Q
theorem ON (hc:X.calm=true)(h:RS X es t)
  (hn:(assignEach es X.env).length=n:=by rfl) (AK:(assignEach es X.env).findIdx? (·.1)=none:=by rfl):PG X (.Tuple es k pos) (RV X.K n t):=by
 intro pins s σ H v u Q I r hw;obtain⟨a,xs,e1,hq,hl,hw⟩:=hw;subst e1;cases r;obtain⟨its,rv,ht,hz⟩:=I.tuple hq;refine assign_Tuple_tuple (I.ok.hd hc) ht (by simp[hn,<- hl,rv.length]) AK λh' hx=>?_;have I1:Inv X pins σ H { s with heap:=h' }:=I.kept (t':=s.toks) λb o e=>hx b o (aR (aF e)) e;exact h pins _ σ H xs _ Q I1 (by simpa using rv) hw
noncomputable def RW (to ti:TE)(t:RT):TG:=λv σ H Q=>to σ H λo H1=>ti σ H1 λi H2=>t o i v H2 λH3=>Q σ H3
theorem OO (ho:PE X o to)(hi:PE X i ti)(hs:OM X t)
  (ha:∀v,assign (.Subscript o i pos) X.env v=(do
   let ov <- holding [v] (eval o X.env);let iv <- holding [v,ov] (eval i X.env)
   standAt pos
   holding [v,ov,iv] (setItem ov iv v)
   release [v,ov,iv] []):=by rw[31]):PG X (.Subscript o i pos) (RW to ti t):=by
 intro pins s σ H v u Q I r h;rw[ha];refine af (wpAny_holding (gr (ho pins s σ H _ I h) λov s1 ⟨x,H1,I1,r1,q1⟩=>?_));refine af (wpAny_holding (gr (hi pins s1 σ H1 _ I1 q1) λiv s2 ⟨y,H2,I2,r2,q2⟩=>?_));refine af (wpAny_standAt (af (wpAny_holding (gr (hs pins s2 σ H2 x y v ov iv u _ I2 r1 r2 r q2) λ_ s3 ⟨H3,I3,q3⟩=>?_))));exact wpAny_release ⟨σ,H3,I3,q3⟩
noncomputable def HD (te:TE)(g:TG):TS:=λD σ H=>te σ H λx H1=>g x σ H1 D.nx
theorem OP (he:PE X e te)(hg:PG X tg g)(hs:swapsWithSole [tg] e pos.line X.env=pure false:=by rfl)(hw:swappedStores [tg] e X.env=pure none:=by rfl)
  (h1:(assignEach [tg] X.env).map (·.2)=[assign tg X.env]:=by rfl):PS X (.Assign [tg] e pos) (HD te g):=by
 rw[22];refine wpAny_Assign_stores (gr (he pins s σ H _ I h) λv s1 ⟨x,H1,I1,r1,q1⟩=>?_) hs hw;rw[h1];exact gr (hg pins s1 σ H1 x v _ I1 r1 q1) λ_ s2 q=>q
theorem OQ {i:Nat}{x:Str}{e:Expr}{te:TE}{iQ:Pos}(hN:X.N.Nodup)(hi:X.N[i]? = some x)(hx:Loc X.env.scope x)(he:PE X e te)(hs:swapsWith e (some (.Name x iQ)) pos.line X.env=pure false:=by rfl)(hf:X.fn x=true\/X.env.scope.names.lookup x=some .local:=by (first | exact .inl rfl | exact .inr rfl | assumption)) :
  PS X (.Assign [.Name x iQ] e pos) (HD te (AJ i)):=by
 rw[22];refine wpAny_Assign_Name (gr (he pins s σ H _ I h) λv s1 ⟨y,H1,I1,r1,q1⟩=>?_) hs;exact AI I1 hN hi hx r1 (λs2 I2=>⟨_,H1,I2,q1⟩) hf
end
section
noncomputable def HE (c:TT)(tb:TS):TS:=λD σ H=>∃W:Nat->St->Hp->Prop,(∃m,W m σ H)/\∀m σ H,W m σ H ->
 c σ H λb H1=>if b=true then ∃N:St->Hp->Prop,(∀σ' H',N σ' H'->∃m',m' < m/\W m' σ' H')/\tb { D with nx:=N,ct:=N,bk:=D.nx } σ H1 else D.nx σ H1
theorem HF (hp:PassesOwn (!11) X.A X.env X.xe)(hc:PT X c tc)(hb:CJ X body tb):PS X (.While c body [] pos) (HE tc tb):=by
 rw[22];obtain⟨W,⟨m0,w0⟩,turn⟩:=h;refine wpAny_While (codeAny_whileLoop (λn s'=>∃σ' H',Inv X pins σ' H' s'/\W n σ' H') ?_ m0 ⟨σ,H,I,w0⟩);rintro n s1 ⟨σ1,H1,I1,w1⟩;refine wpAny_passesOwn hp (gr (hc pins s1 σ1 H1 _ I1 (turn n σ1 H1 w1)) λb s2 ⟨H2,I2,q2⟩=>?_)
 cases b with
 | true =>
  obtain⟨N,hN,q2⟩:=q2;rw[if_pos rfl];refine wpAny_passesOwn hp (gr (hb pins s2 σ1 H2 _ I2 q2) λf s3 q3=>?_)
  cases f with
  | next =>
   obtain⟨σ3,H3,I3,n3⟩:=q3;obtain⟨m',hm,w3⟩:=hN σ3 H3 n3;exact⟨m',hm,σ3,H3,I3,w3⟩
  | cont =>
   obtain⟨σ3,H3,I3,n3⟩:=q3;obtain⟨m',hm,w3⟩:=hN σ3 H3 n3;exact⟨m',hm,σ3,H3,I3,w3⟩
  | brk=>exact q3
  | ret v=>exact q3
 | false =>
  rw[if_neg bg];exact wpAny_execs_nil ⟨σ1,H2,I2,q2⟩
end
structure It where
 go:Nat->Hp->Prop
 KH:Nat->Hp->V->Hp->Prop
 stop:Nat->Hp->Prop
noncomputable def su (X:Cx)(pins:List (!19))(H:Hp)(b:Addr):Prop :=
 H b=none/\b≠X.env.locals/\b ∉ X.fs/\(b∈X.ex\/X.s₀.heap.objs.size<=b)/\(∀x c,X.env.cells.lookup x=some c->c≠b)/\∀p∈X.pn++pins,p.1≠b
theorem Inv.qT (I:Inv X pins σ H s)(hb:s.heap.objs.size<=b)(hn:H' b=none):su X pins H' b:=by
 refine⟨hn,bv (aP I.lt hb),I.RD hb,.inr (bq I.sz hb),λx c e z=>?_,λp hp z=>?_⟩
 .obtain⟨v,q⟩:=I.cell x c e
  exact absurd (aP q.lt (by rw[z];exact hb)) (bC _)
 .exact absurd (aP (aF (I.pin p hp).1) (by rw[z];exact hb)) (bC _)
structure AL (P:bf) (w:World) (K:W.Frag) (tg:Expr) (J:It) (fp:List Addr) (it:Addr) (tn:Nat->Heap->Prop):Prop where
 mem:it∈fp
 obj:∀i h,tn i h->∀b∈fp,∃o,h.get? b=some o/\∀v,o.data≠.cell v
 keep:∀i h h',tn i h->(∀b∈fp,∀o,h.get? b=some o->h'.get? b=some o)->tn i h'
 item:∀(X:Cx),X.prog=P->X.w=w->X.K=K->X.calm=true->∀(i:Nat) (pins:List (!19)) (s:aA) (σ:St) (H:Hp) (E:ah->aA->Prop),Inv X pins σ H s->(∀b∈fp,su X pins H b)->tn i s.heap->J.go i H ->
  aH (model P w) X.A (pyNext (.ref it)) (λr s1=>∃u,r=some u /\
   aH (model P w) X.A (letOwnedTupleGo tg (.ref it) u) (λ_ s2=>∃x H',Inv X pins σ H' s2/\RelV x u/\J.KH i H x H'/\tn (i+1) s2.heap/\∀b∈fp,H' b=none) E s1) E s
 done:∀(X:Cx),X.prog=P->X.w=w->X.K=K->X.calm=true->∀(i:Nat) (pins:List (!19)) (s:aA) (σ:St) (H:Hp) (E:ah->aA->Prop),Inv X pins σ H s->(∀b∈fp,su X pins H b)->tn i s.heap->J.stop i H ->
  aH (model P w) X.A (pyNext (.ref it)) (λr s1=>r=none/\Inv X pins σ H s1) E s
 self:∀(A:Around) (i:Nat) (s:aA) (Q:ah->aA->Prop) (E:ah->aA->Prop),tn i s.heap->Q (.ref it) s->aH (model P w) A (pyIter (.ref it)) Q E s
noncomputable abbrev TI:=St->Hp->(It->Hp->Prop)->Prop
noncomputable def XY (X:Cx)(pins:List (!19))(σ:St)(tg:Expr)(R:It->Hp->Prop)(Vz:ah)(s2:aA):Prop :=
 ∃(it:Addr) (fp:List Addr) (tn:Nat->Heap->Prop) (J:It) (H':Hp),Vz=.ref it/\Inv X pins σ H' s2/\AL X.prog X.w X.K tg J fp it tn/\tn 0 s2.heap/\(∀b∈fp,su X pins H' b)/\R J H'
noncomputable def PI (X:Cx)(tg iter:Expr)(wi:TI):Prop :=
 ∀(pins:List (!19)) (s:aA) (σ:St) (H:Hp) (R:It->Hp->Prop),Inv X pins σ H s->wi σ H R ->
  aH (!11) X.A (eval iter X.env) (λv s1=>aH (!11) X.A (pyIter v) (XY X pins σ tg R) X.xe s1) X.xe s
theorem Ej {M:Model}{A:Around}{E:ah->aA->Prop}{s:aA}{tg:Expr}{it:Addr}{u:ah}{o:Obj}{n:String}{vs:Array ah}{Q:Unit->aA->Prop}(ho:s.heap.get? it=some o)(hc:o.cls=.type n)(hd:o.data=.fields vs)
  (hn:["enumerate", "zip", "dict_itemiterator", "dict_reverseitemiterator", "odict_iterator", "itertools.zip_longest", "itertools.pairwise"].contains n=false) (hQ:Q () s):aH M A (letOwnedTupleGo tg (.ref it) u) Q E s:=by
 unfold letOwnedTupleGo
 cases tg<;>first
  | exact am hQ
  | (cases u<;>first
    | exact am hQ
    | (refine af (wpAny_load ho ?_);rw[hc,hd];show aH M A (if (["enumerate", "zip", "dict_itemiterator", "dict_reverseitemiterator", "odict_iterator", "itertools.zip_longest", "itertools.pairwise"].contains n && vs[0]? == some (rawInt _))=true then _ else _) Q E s;rw[if_neg (by intro h;rw[hn,Bool.false_and] at h;cases h)];exact am hQ))
noncomputable def Lf (K:W.Frag)(a:Addr):It :=
 ⟨λi H=>∃xs x,gx K H a xs/\xs[i]? = some x,λi H x H'=>H'=H/\∀xs,gx K H a xs->xs[i]? = some x,λi H=>∃xs,gx K H a xs/\xs.length<=i⟩
noncomputable def Lg (K:W.Frag)(a:Addr):It :=
 ⟨λi H=>∃xs x,jt K H a xs/\xs[i]? = some x,λi H x H'=>H'=H/\∀xs,jt K H a xs->xs[i]? = some x,λi H=>∃xs,jt K H a xs/\xs.length<=i⟩
noncomputable def UU (lo:Int)(n:Nat):It:=⟨λi _=>i<n,λi H x H'=>H'=H/\x=.int (lo+i),λi _=>n<=i⟩
theorem xO {P:bf}{w:World}{K:W.Frag}{tg:Expr}(a it:Addr):AL P w K tg (Lf K a) [it] it (λi h=>h.IsListIter it a i) where
 mem:=by simp
 obj:=λi h st b hb=>by
  have e:b=it:=by simpa using hb
  subst e;obtain⟨o,e,c,d⟩:=st;exact⟨o,e,λv z=>by rw[d] at z;cases z⟩
 keep:=λi h h' st k=>st.at λo e=>k it (!4) o e
 item:=by
  (intro X hP hw hK hc i pins s σ H E I hf st hg);subst hP hw hK;obtain⟨xs,x,hq,hx⟩:=hg;obtain⟨its,rv,p,hz⟩:=I.list hq;obtain⟨u,hu,ru⟩:=rv.get hx;(obtain⟨f0,f1,f2,f3,f4,f5⟩:=hf it (!4));refine wpAny_pyNext_list_item st p.isList (x:=u) (by simpa using hu) λh' AM sb=>?_;(have I1:Inv X pins σ H { s with heap:=h' }:=I.turned (t':=s.toks) (λb o hb e=>(sb.2 b hb).trans e) f0 f1 f3 f4 f5);obtain⟨o,e,c,d⟩:=id AM;exact⟨u,rfl,Ej (s:={ s with heap:=h' }) e c d (!2) ⟨x,H,I1,ru,⟨rfl,λys hy=>by rw[I.qS hy hq];exact hx⟩,AM,λb hb=>(hf b hb).1⟩⟩
 done:=by
  (intro X hP hw hK hc i pins s σ H E I hf st hg);subst hP hw hK;obtain⟨xs,hq,hx⟩:=hg;obtain⟨its,rv,p,hz⟩:=I.list hq;(obtain⟨f0,f1,f2,f3,f4,f5⟩:=hf it (!4));have hl:=rv.length;exact wpAny_pyNext_list_end (I.ok.hd hc) st p.isList (by simp;omega) λh' eb=>⟨rfl,I.turned (t':=s.toks) (λb o hb e=>eb b o hb e) f0 f1 f3 f4 f5⟩
 self:=λ_ _ _ _ _ st h=>wpAny_pyIter_listiter st h
theorem uX {P:bf}{w:World}{K:W.Frag}{tg:Expr}(a it:Addr):AL P w K tg (Lg K a) [it] it (λi h=>h.IsTupleIter it a i) where
 mem:=by simp
 obj:=λi h st b hb=>by
  have e:b=it:=by simpa using hb
  subst e;obtain⟨o,e,c,d⟩:=st;exact⟨o,e,λv z=>by rw[d] at z;cases z⟩
 keep:=λi h h' st k=>st.at λo e=>k it (!4) o e
 item:=by
  (intro X hP hw hK hc i pins s σ H E I hf st hg);subst hP hw hK;obtain⟨xs,x,hq,hx⟩:=hg;obtain⟨its,rv,p,hz⟩:=I.tuple hq;obtain⟨u,hu,ru⟩:=rv.get hx;(obtain⟨f0,f1,f2,f3,f4,f5⟩:=hf it (!4));refine wpAny_pyNext_tuple_item st (show s.heap.IsTuple a its.toArray from p) (x:=u) (by simpa using hu) λh' AM sb=>?_;(have I1:Inv X pins σ H { s with heap:=h' }:=I.turned (t':=s.toks) (λb o hb e=>(sb.2 b hb).trans e) f0 f1 f3 f4 f5);obtain⟨o,e,c,d⟩:=id AM;exact⟨u,rfl,Ej (s:={ s with heap:=h' }) e c d (!2) ⟨x,H,I1,ru,⟨rfl,λys hy=>by rw[I.xN hy hq];exact hx⟩,AM,λb hb=>(hf b hb).1⟩⟩
 done:=by
  (intro X hP hw hK hc i pins s σ H E I hf st hg);subst hP hw hK;obtain⟨xs,hq,hx⟩:=hg;obtain⟨its,rv,p,hz⟩:=I.tuple hq;(obtain⟨f0,f1,f2,f3,f4,f5⟩:=hf it (!4));have hl:=rv.length;exact wpAny_pyNext_tuple_end (I.ok.hd hc) st (show s.heap.IsTuple a its.toArray from p) (by simp;omega) λh' eb=>⟨rfl,I.turned (t':=s.toks) (λb o hb e=>eb b o hb e) f0 f1 f3 f4 f5⟩
 self:=λ_ _ _ _ _ st h=>wpAny_pyIter_tupleiter st h
theorem CP {P:bf}{w:World}{K:PySem.W.Frag}{tg:Expr}(it:Addr)(lo:Int)(n:Nat):AL P w K tg (UU lo n) [it] it (λi h=>IsRangeIter h it (lo+(i:Nat) * 1) ((n:Int) - (i:Nat)) 1) where
 mem:=by simp
 obj:=λi h st b hb=>by
  have e:b=it:=by simpa using hb
  subst e
  exact⟨_,st,λv z=>by
   have z':Data.fields _=Data.cell v:=z;cases z'⟩
 keep:=λi h h' st k=>k it (!4) _ st
 item:=by
  (intro X hP hw hK hc i pins s σ H E I hf st hg);subst hP hw hK;(obtain⟨f0,f1,f2,f3,f4,f5⟩:=hf it (!4));have W:=Walks.range (prog:=X.prog) (w:=X.w) (I.ok.hd hc) it lo 1 n;refine W.item i s _ _ hg st λv h' tk hv AM kk=>?_;obtain⟨t,rfl⟩:=hv;have I1:Inv X pins σ H { s with heap:=h',toks:=tk }:=I.turned (λb o hb e=>kk b o (by simpa using hb) e) f0 f1 f3 f4 f5;refine⟨_,rfl,Ej (s:={ s with heap:=h',toks:=tk }) (n := "range_iterator") AM rfl rfl (!2) ⟨.int (lo+i),H,I1,⟨t,?_⟩,⟨rfl,rfl⟩,AM,λb hb=>(hf b hb).1⟩⟩;rw[Int.mul_one]
 done:=by
  (intro X hP hw hK hc i pins s σ H E I hf st hg);subst hP hw hK;(obtain⟨f0,f1,f2,f3,f4,f5⟩:=hf it (!4));exact wpAny_pyNext_range_end (I.ok.hd hc) st (by have:n<=i:=hg;omega) λh' eb=>⟨rfl,I.turned (t':=s.toks) (λb o hb e=>eb b o hb e) f0 f1 f3 f4 f5⟩
 self:=λ_ _ _ _ _ st h=>wpAny_pyIter_rangeiter st h
section
variable {X:Cx}{tg:Expr}
noncomputable def HG (K:W.Frag)(tl:TE):TI:=λσ H R=>tl σ H λx H1=>∃a,x=.ref a/\(∃xs,gx K H1 a xs)/\R (Lf K a) H1
noncomputable def OR (K:W.Frag)(tl:TE):TI:=λσ H R=>tl σ H λx H1=>∃a,x=.ref a/\(∃xs,jt K H1 a xs)/\R (Lg K a) H1
theorem Lh {l:Expr}{tl:TE}(hl:PE X l tl):PI X tg l (HG X.K tl):=by
 intro pins s σ H R I h;refine gr (hl pins s σ H _ I h) λv s1 ⟨x,H1,I1,r1,q1⟩=>?_;obtain⟨a,e,⟨xs,hq⟩,q⟩:=q1;subst e;cases r1;obtain⟨its,rv,p,hz⟩:=I1.list hq;refine wpAny_pyIter_list p.isList ?_;refine⟨s1.heap.objs.size,[s1.heap.objs.size],_,_,H1,rfl,I1.kept (t':=s1.toks) λb o e=>aj _ e,xO a _,⟨_,aB _ rfl,rfl,rfl⟩,λb hb=>?_,q⟩;have e:b=s1.heap.objs.size:=by simpa using hb
 subst e;exact I1.qT (aw _) (I1.hok.fresh (aw _))
theorem OS {l:Expr}{tl:TE}(hl:PE X l tl):PI X tg l (OR X.K tl):=by
 intro pins s σ H R I h;refine gr (hl pins s σ H _ I h) λv s1 ⟨x,H1,I1,r1,q1⟩=>?_;obtain⟨a,e,⟨xs,hq⟩,q⟩:=q1;subst e;cases r1;obtain⟨its,rv,p,hz⟩:=I1.tuple hq;refine wpAny_pyIter_tuple (show s1.heap.IsTuple a its.toArray from p) ?_;refine⟨s1.heap.objs.size,[s1.heap.objs.size],_,_,H1,rfl,I1.kept (t':=s1.toks) λb o e=>aj _ e,uX a _,⟨_,aB _ rfl,rfl,rfl⟩,λb hb=>?_,q⟩;have e:b=s1.heap.objs.size:=by simpa using hb
 subst e;exact I1.qT (aw _) (I1.hok.fresh (aw _))
theorem HH {pins:List (!19)}{σ:St}{H:Hp}{s:aA}{R:It->Hp->Prop}{E:ah->aA->Prop}{lo hi:Int}{t u v:Tok}{tk:Nat}(I:Inv X pins σ H s)(h1:-(2 ^ 62)<=lo)(h2:lo<2 ^ 62)(h3:-(2 ^ 62)<=hi)(h4:hi<2 ^ 62)
  (q:R (UU lo (hi - lo).toNat) H):aH (!11) X.A (pyIter (!14)) (XY X pins σ tg R) E { s with heap:=s.heap.push { cls:=.type "range",data:=.fields #[.int lo t,.int hi u,.int 1 v] },toks:=tk }:=by
 refine wpAny_pyIter_range (IsRange.new ..) (small_one h1 h2 h3 h4) ?_;have I1:Inv X pins σ H { s with heap:=s.heap.push { cls:=.type "range",data:=.fields #[.int lo t,.int hi u,.int 1 v] },toks:=tk }:=I.kept λb o e=>aj _ e
 refine⟨(s.heap.push { cls:=.type "range",data:=.fields #[.int lo t,.int hi u,.int 1 v] }).objs.size,[(s.heap.push { cls:=.type "range",data:=.fields #[.int lo t,.int hi u,.int 1 v] }).objs.size],_,_,H,rfl,
  I1.kept (t':=tk) λb o e=>aj _ e,CP _ lo (hi - lo).toNat,?_,λb hb=>?_,q⟩
 .have e1:lo+((0:Nat):Int) * 1=lo:=by simp
  have e2:(((hi - lo).toNat:Nat):Int) - ((0:Nat):Int)=Builtin.Range.rangeSize lo hi 1:=by rw[rangeSize_one];split<;>omega
  show IsRangeIter _ _ (lo+((0:Nat):Int) * 1) ((((hi - lo).toNat:Nat):Int) - ((0:Nat):Int)) 1;rw[e1,e2];exact aB _ rfl
 .have e:b=(s.heap.push { cls:=.type "range",data:=.fields #[.int lo t,.int hi u,.int 1 v] }).objs.size:=by simpa using hb
  subst e;exact I1.qT (aw _) (I1.hok.fresh (aw _))
noncomputable def Nf (ta:TA):TI:=λσ H R=>ta σ H λvs H1=>∃j:Int,vs=[.int j]/\-(2 ^ 62)<=j/\j<2 ^ 62/\R (UU 0 j.toNat) H1
theorem FK (hg:Gl X "range")(hm:X.mg "range" = none)(ha:PA X [a] ta)(hs:starEach [a] X.env=[(false,eval a X.env)]:=by rfl):PI X tg (.Call (.Name "range" p) [a] [] pos) (Nf ta):=by
 intro pins s σ H R I h;refine Call_ (sr I hg hm boot_range (PyProof.Rows.callWith_type1 (gr (ha pos pins s σ H _ I h) λus s1 ⟨vs,H1,I1,r1,q1⟩=>?_) hs rfl));obtain⟨j,e,q1,q2,q⟩:=q1;subst e
 cases r1 with
 | cons r rr =>
  cases rr;obtain⟨t,rfl⟩:=r;exact call_range_1 (HH I1 (!1) (!1) q1 q2 (by simpa using q))
noncomputable def RX (wi:TI)(g:TG)(tb:TS):TS:=λD σ H=>wi σ H λJ H1=>∃W:Nat->Nat->St->Hp->Prop,(∃m,W 0 m σ H1)/\∀i m σ H,W i m σ H ->
 (J.stop i H/\D.nx σ H)\/(J.go i H/\∃N:St->Hp->Prop,(∀σ' H',N σ' H'->∃m',m' < m/\W (i+1) m' σ' H')/\∀x H',J.KH i H x H'->g x σ H' λσ2 H2=>tb { D with nx:=N,ct:=N,bk:=D.nx } σ2 H2)
noncomputable def uY (fp:List Addr)(h:Heap):List (!19):=fp.filterMap λb=>(h.get? b).map λo=>(b,o)
theorem mZ (hb:b∈fp)(e:h.get? b=some o):(b,o)∈uY fp h:=c7.mpr ⟨b,hb,by rw[e];rfl⟩
theorem FN (hp:p∈uY fp h):p.1∈fp/\h.get? p.1=some p.2:=by
 obtain⟨b,hb,e⟩:=c7.mp hp
 cases q:h.get? b with
 | none=>rw[q] at e;cases e
 | some o =>
  rw[q] at e;have e':(b,o)=p:=Option.some.inj e;subst e';exact⟨hb,q⟩
theorem Inv.pinned (I:Inv X pins σ H s)(hf:∀b∈fp,su X pins H b)(ho:∀b∈fp,∃o,s.heap.get? b=some o/\∀v,o.data≠.cell v):Inv X (pins++uY fp s.heap) σ H s :=
 I.uy λp hp=>(aX.mp hp).elim (λz=>I.pin p (be _ z)) λz=>by
  obtain⟨hb,e⟩:=FN z;obtain⟨f0,f1,f2,_⟩:=hf p.1 hb;obtain⟨o,e',d⟩:=ho p.1 hb;rw[e] at e';cases e';exact⟨e,f0,f1,f2,d⟩
theorem Inv.ox (I:Inv X (pins++pl) σ H s):Inv X pins σ H s:=I.uy λp hp=>I.pin p (be _ (br _ hp))
theorem OT (hp:PassesOwn (!11) X.A X.env X.xe)(hc:X.calm=true)(hi:PI X tg iter wi)(hg:PG X tg g)(hb:CJ X body tb)
  (hs:∀x,foldedSetIterable iter X.env x=pure x:=by rw[31]):PS X (.For tg iter body [] pos) (RX wi g tb):=by
 rw[22];refine wpAny_For (gr (hi pins s σ H _ I h) λv s1 h1=>gr h1 λVz s2 h2=>?_) hs;obtain⟨it,fp,tn,J,H2,e,I2,T,RY,f2,W,⟨m0,w0⟩,turn⟩:=h2;subst e;have OU:∀{H':Hp},(∀b∈fp,H' b=none)->∀b∈fp,su X pins H' b:=λhn b hb=>⟨hn b hb,(f2 b hb).2⟩;refine codeAny_forLoop_any (λn s'=>∃i σ' H',Inv X pins σ' H' s'/\tn i s'.heap/\(∀b∈fp,H' b=none)/\W i n σ' H') ?_ m0 ⟨0,σ,H2,I2,RY,λb hb=>(f2 b hb).1,w0⟩;rintro n s3 ⟨i,σ3,H3,I3,HI,RZ,w3⟩;rcases turn i n σ3 H3 w3 with⟨stop,qn⟩ | ⟨go,N,hN,step⟩
 .refine wpAny_passesOwn hp (gr (T.done X rfl rfl rfl hc i pins s3 σ3 H3 X.xe I3 (OU RZ) HI stop) λr s4 ⟨hr,I4⟩=>?_)
  subst hr;exact wpAny_execs_nil ⟨σ3,H3,I4,qn⟩
 .refine wpAny_passesOwn hp (gr (T.item X rfl rfl rfl hc i pins s3 σ3 H3 X.xe I3 (OU RZ) HI go) λr s4 ⟨u,hr,h4⟩=>?_)
  subst hr;refine wpAny_passesOwn hp (gr h4 λ_ s5 ⟨x,H5,I5,r5,y5,OV,VA⟩=>?_);have Zo:=I5.pinned (OU VA) (T.obj _ _ OV);refine wpAny_passesOwn hp (gr (hg _ s5 σ3 H5 x u _ Zo r5 (step x H5 y5)) λ_ s6 ⟨σ6,H6,I6,q6⟩=>?_);refine wpAny_passesOwn hp (gr (hb _ s6 σ6 H6 _ I6 q6) λf s7 q7=>?_)
  have again:∀{σ7:St} {H7:Hp},Inv X (pins++uY fp s5.heap) σ7 H7 s7->N σ7 H7->∃m,m<n/\∃i σ' H',Inv X pins σ' H' s7/\tn i s7.heap/\(∀b∈fp,H' b=none)/\W i m σ' H':=λ{σ7 H7} I7 n7=>by
   obtain⟨m',hm,w7⟩:=hN σ7 H7 n7;refine⟨m',hm,i+1,σ7,H7,I7.ox,T.keep _ _ _ OV λb hb o e=>(I7.pin (b,o) (be _ (be _ (mZ hb e)))).1,λb hb=>?_,w7⟩;obtain⟨o,e,d⟩:=T.obj _ _ OV b hb;exact (I7.pin (b,o) (be _ (be _ (mZ hb e)))).2.1
  cases f with
  | next=>obtain⟨σ7,H7,I7,n7⟩:=q7;exact again I7 n7
  | cont=>obtain⟨σ7,H7,I7,n7⟩:=q7;exact again I7 n7
  | brk=>obtain⟨σ7,H7,I7,q7⟩:=q7;exact⟨σ7,H7,I7.ox,q7⟩
  | ret v=>obtain⟨x7,σ7,H7,I7,r7,q7⟩:=q7;exact⟨x7,σ7,H7,I7.ox,r7,q7⟩
end
theorem HJ {K:PySem.W.Frag}{a:Addr}{xs:List V}{g:TG}{tb:TS}{D:Ends}{σ:St}{H:Hp}(Pv:Nat->St->Hp->Prop)(h0:Pv 0 σ H)(hl:∀i σ H,i<=xs.length->Pv i σ H->gx K H a xs)
  (hs:∀i x σ H,xs[i]? = some x->Pv i σ H->g x σ H λσ2 H2=>tb { D with nx:=Pv (i+1),ct:=Pv (i+1),bk:=D.nx } σ2 H2) (hd:∀σ H,Pv xs.length σ H->D.nx σ H) :
  ∃W:Nat->Nat->St->Hp->Prop,(∃m,W 0 m σ H)/\∀i m σ H,W i m σ H ->
   ((Lf K a).stop i H/\D.nx σ H)\/((Lf K a).go i H/\∃N:St->Hp->Prop,(∀σ' H',N σ' H'->∃m',m' < m/\W (i+1) m' σ' H')/\∀x H',(Lf K a).KH i H x H'->g x σ H' λσ2 H2=>tb { D with nx:=N,ct:=N,bk:=D.nx } σ2 H2):=by
 refine⟨λi m σ H=>m=xs.length - i/\i<=xs.length/\Pv i σ H,⟨xs.length,!4,bZ _,h0⟩,?_⟩;rintro i m σ H ⟨rfl,hi,p⟩;have q:=hl i σ H hi p;by_cases lB:i<xs.length
 .refine .inr ⟨⟨xs,xs[i],q,by simp[lB]⟩,Pv (i+1),λσ' H' p'=>⟨xs.length - (i+1),!1,rfl,lB,p'⟩,λx H' y=>?_⟩
  obtain⟨e,y⟩:=y;subst e;exact hs i x σ _ (y xs q) p
 .have e:i=xs.length:=by omega
  subst e;exact .inl ⟨⟨xs,q,aw _⟩,hd σ H p⟩
theorem Li {K:PySem.W.Frag}{a:Addr}{xs:List V}{g:TG}{tb:TS}{D:Ends}{σ:St}{H:Hp}(Pv:Nat->St->Hp->Prop)(h0:Pv 0 σ H)(hl:∀i σ H,i<=xs.length->Pv i σ H->jt K H a xs)
  (hs:∀i x σ H,xs[i]? = some x->Pv i σ H->g x σ H λσ2 H2=>tb { D with nx:=Pv (i+1),ct:=Pv (i+1),bk:=D.nx } σ2 H2) (hd:∀σ H,Pv xs.length σ H->D.nx σ H) :
  ∃W:Nat->Nat->St->Hp->Prop,(∃m,W 0 m σ H)/\∀i m σ H,W i m σ H ->
   ((Lg K a).stop i H/\D.nx σ H)\/((Lg K a).go i H/\∃N:St->Hp->Prop,(∀σ' H',N σ' H'->∃m',m' < m/\W (i+1) m' σ' H')/\∀x H',(Lg K a).KH i H x H'->g x σ H' λσ2 H2=>tb { D with nx:=N,ct:=N,bk:=D.nx } σ2 H2):=by
 refine⟨λi m σ H=>m=xs.length - i/\i<=xs.length/\Pv i σ H,⟨xs.length,!4,bZ _,h0⟩,?_⟩;rintro i m σ H ⟨rfl,hi,p⟩;have q:=hl i σ H hi p;by_cases lB:i<xs.length
 .refine .inr ⟨⟨xs,xs[i],q,by simp[lB]⟩,Pv (i+1),λσ' H' p'=>⟨xs.length - (i+1),!1,rfl,lB,p'⟩,λx H' y=>?_⟩
  obtain⟨e,y⟩:=y;subst e;exact hs i x σ _ (y xs q) p
 .have e:i=xs.length:=by omega
  subst e;exact .inl ⟨⟨xs,q,aw _⟩,hd σ H p⟩
noncomputable abbrev R2:=V->V->Hp->VK->Prop
noncomputable def lY (X:Cx)(f:ah->ah->Sem ah)(r:R2):Prop :=
 ∀(pins:List (!19)) (s:aA) (σ:St) (H:Hp) (x y:V) (v u:ah) (Q:VK),Inv X pins σ H s->RelV x v->RelV y u->r x y H Q ->
  aH (!11) X.A (f v u) (EP X pins σ Q) X.xe s
noncomputable def UW (X:Cx)(f:ah->Sem ah)(r:V->Hp->VK->Prop):Prop :=
 ∀(pins:List (!19)) (s:aA) (σ:St) (H:Hp) (x:V) (v:ah) (Q:VK),Inv X pins σ H s->RelV x v->r x H Q ->
  aH (!11) X.A (f v) (EP X pins σ Q) X.xe s
noncomputable def gL (X:Cx)(f:ah)(r:List V->Hp->VK->Prop):Prop :=
 ∀(pins:List (!19)) (s:aA) (σ:St) (H:Hp) (xs:List V) (us:List ah) (Q:VK),Inv X pins σ H s->eS xs us->r xs H Q ->
  aH (!11) X.A (call f us) (EP X pins σ Q) X.xe s
noncomputable def Lj (r:R2)(ta tb:TE):TE:=λσ H Q=>ta σ H λx H1=>tb σ H1 λy H2=>r x y H2 Q
noncomputable def XZ (r:V->Hp->VK->Prop)(ta:TE):TE:=λσ H Q=>ta σ H λx H1=>r x H1 Q
noncomputable def rI (C:Int->Int->Prop)(g:Int->Int->V):R2:=λx y H Q=>∃i j,x=.int i/\y=.int j/\C i j/\Q (g i j) H
noncomputable def KP (g:Int->Int->V):R2:=λx y H Q=>∃i j,x=.int i/\y=.int j/\Q (g i j) H
noncomputable def rU (g:Int->V):V->Hp->VK->Prop:=λx H Q=>∃i,x=.int i/\Q (g i) H
section
variable {X:Cx}{a b c:Expr}{ta tb tc:TE}{pos:Pos}
theorem OW (ha:PE X a ta)(hb:PE X b tb){pins:List (!19)}{s:aA}{σ:St}{H:Hp}{R:V->V->Hp->Prop}(I:Inv X pins σ H s)
  (h:ta σ H λx H1=>tb σ H1 λy H2=>R x y H2) {Q:ah->aA->Prop} {f:ah->ah->Sem ah}
  (hf:∀v u s2 x y H2,Inv X pins σ H2 s2->RelV x v->RelV y u->R x y H2->aH (!11) X.A (f v u) Q X.xe s2) :
  aH (!11) X.A (eval a X.env) (λv s₁=>aH (!11) X.A (eval b X.env) (λu s₂=>aH (!11) X.A (f v u) Q X.xe s₂) X.xe s₁) X.xe s:=by
 refine gr (ha pins s σ H _ I h) λv s1 ⟨x,H1,I1,r1,q1⟩=>?_;refine gr (hb pins s1 σ H1 _ I1 q1) λu s2 ⟨y,H2,I2,r2,q2⟩=>?_;exact hf v u s2 x y H2 I2 r1 r2 q2
theorem R0 {op:Operator}{r:R2}(ho:lY X (binaryOp op) r)(ha:PE X a ta)(hb:PE X b tb):PE X (.BinOp a op b pos) (Lj r ta tb):=by
 rw[10];exact wpAny_BinOp (OW ha hb I h λv u s2 x y H2 I2 rx ry q=>ho pins s2 σ H2 x y v u Q I2 rx ry q)
theorem R1 (ho:UW X (unaryOp op) r)(ha:PE X a ta):PE X (.UnaryOp op a pos) (XZ r ta):=by
 rw[10];exact UnaryOp_ (gr (ha pins s σ H _ I h) λv s1 ⟨x,H1,I1,r1,q1⟩=>ho pins s1 σ H1 x v Q I1 r1 q1)
theorem R3 {f:ah->ah->Sem ah}{C:Int->Int->Prop}{g:Int->Int->Int}
  (rule:∀(i j:Int) (t u:Tok) (s:aA) (Q:ah->aA->Prop) (E:ah->aA->Prop),C i j->Q (.int (g i j) s.toks) { s with toks:=s.toks+1 }->aH (!11) X.A (f (.int i t) (.int j u)) Q E s) :
  lY X f (rI C λi j=>.int (g i j)):=by
 (intro pins s σ H x y v u Q I rx ry h);obtain⟨i,j,rfl,rfl,hc,q⟩:=h;obtain⟨t,rfl⟩:=rx;obtain⟨t',rfl⟩:=ry;exact rule i j t t' s _ _ hc ⟨.int (g i j),H,I.tok _,⟨_,rfl⟩,q⟩
theorem OX {f:ah->ah->Sem ah}{g:Int->Int->Int}
  (rule:∀(i j:Int) (t u:Tok) (s:aA) (Q:ah->aA->Prop) (E:ah->aA->Prop),Q (.int (g i j) s.toks) { s with toks:=s.toks+1 }->aH (!11) X.A (f (.int i t) (.int j u)) Q E s) :
  lY X f (KP λi j=>.int (g i j)):=by
 (intro pins s σ H x y v u Q I rx ry h);obtain⟨i,j,rfl,rfl,q⟩:=h;obtain⟨t,rfl⟩:=rx;obtain⟨t',rfl⟩:=ry;exact rule i j t t' s _ _ ⟨.int (g i j),H,I.tok _,⟨_,rfl⟩,q⟩
theorem Lk {f:ah->ah->Sem ah}{g:Int->Int->Bool}
  (rule:∀(i j:Int) (t u:Tok) (s:aA) (Q:ah->aA->Prop) (E:ah->aA->Prop),Q (.bool (g i j)) s->aH (!11) X.A (f (.int i t) (.int j u)) Q E s) :
  lY X f (KP λi j=>.bl (g i j)):=by
 (intro pins s σ H x y v u Q I rx ry h);obtain⟨i,j,rfl,rfl,q⟩:=h;obtain⟨t,rfl⟩:=rx;obtain⟨t',rfl⟩:=ry;exact rule i j t t' s _ _ ⟨.bl (g i j),H,I,rfl,q⟩
noncomputable def OY (i j:Int):Prop:=0<j/\j<1073741824
noncomputable def FO (i j:Int):Prop:=0<=j/\j<=1000000/\i.natAbs<2 ^ 64
noncomputable def AO (i j:Int):Prop:=(-(2 ^ 64)<i/\i<2 ^ 64)\/(-(2 ^ 64)<j/\j<2 ^ 64)
theorem AO.ok (h:AO i j):IntMulOk i j:=by
 rcases h with⟨h1,h2⟩ | ⟨h1,h2⟩
 .exact .of_left (intBits_le_64 h1 h2)
 .exact .of_right (intBits_le_64 h1 h2)
theorem sv:lY X (binaryOp .Add) (KP λi j=>.int (i+j)):=OX λ_ _ _ _ _ _ _ q=>add_int q
theorem OZ:lY X (binaryOp .Sub) (KP λi j=>.int (i - j)):=OX λ_ _ _ _ _ _ _ q=>sub_int q
theorem pS:lY X (binaryOp .Mult) (rI AO λi j=>.int (i * j)):=R3 λ_ _ _ _ _ _ _ hc q=>mul_int q hc.ok
theorem zi:lY X (binaryOp .FloorDiv) (rI OY λi j=>.int (i / j)):=R3 λi j _ _ _ _ _ hc q=>by
 have h1:(0:Int)<j:=hc.1;have h2:j<1073741824:=hc.2;exact floordiv_int (!1) (by rw[Int.fdiv_eq_ediv_of_nonneg i (!1)];exact q) (.inl (PyProof.noPylong_small (!1)))
theorem oy:lY X (binaryOp .Mod) (rI (λ_ j=>0<j) λi j=>.int (i % j)):=R3 λi j _ _ _ _ _ hc q=>by
 have h1:(0:Int)<j:=hc;exact mod_int' (!1) (by rw[Int.fmod_eq_emod_of_nonneg i (!1)];exact q)
theorem O0:lY X (binaryOp .Pow) (rI FO λi j=>.int (i ^ j.toNat)):=R3 λ_ _ _ _ _ _ _ hc q=>pow_int_small hc.1 hc.2.1 hc.2.2 q
theorem O1:lY X (binaryOp .LShift) (rI FO λi j=>.int (i * 2 ^ j.toNat)):=R3 λ_ _ _ _ _ _ _ hc q=>lshift_int_small hc.1 hc.2.1 hc.2.2 q
theorem O2:lY X (binaryOp .BitXor) (KP λi j=>.int (Builtin.bitXor i j)):=OX λ_ _ _ _ _ _ _ q=>xor_int q
theorem Zp {f:ah->Sem ah}{g:Int->Int}
  (rule:∀(i:Int) (t:Tok) (s:aA) (Q:ah->aA->Prop) (E:ah->aA->Prop),Q (.int (g i) s.toks) { s with toks:=s.toks+1 }->aH (!11) X.A (f (.int i t)) Q E s) :
  UW X f (rU λi=>.int (g i)):=by
 intro pins s σ H x v Q I rx h;obtain⟨i,rfl,q⟩:=h;obtain⟨t,rfl⟩:=rx;exact rule i t s _ _ ⟨.int (g i),H,I.tok _,⟨_,rfl⟩,q⟩
theorem O3:UW X (unaryOp .USub) (rU λi=>.int (-i)):=Zp λ_ _ _ _ _ q=>neg_int q
end
noncomputable def VB:V->V->Bool
 | .jm,.jm=>true | .jm,.int _=>true | .int _,.jm=>true | .jm,.bl _=>true | .bl _,.jm=>true | .jm,.str _=>true | .str _,.jm=>true
 | .int _,.int _=>true | .bl _,.bl _=>true | .str _,.str _=>true | .K3 _,.K3 _=>true
 | .int _,.str _=>true | .str _,.int _=>true | .bl _,.str _=>true | .str _,.bl _=>true
 | _,_=>false
noncomputable def Zq:R2:=λx y H Q=>VB x y=true/\Q (.bl (!decide (x=y))) H
theorem Ll:decide (V.int i=V.int j)=(i == j):=by
 rw[cY];simp
theorem O4:decide (V.bl i=V.bl j)=(i == j):=by
 rw[cY];simp
theorem Lm:decide (V.str i=V.str j)=(i == j):=by
 rw[cY];simp
theorem Ln:decide (V.K3 i=V.K3 j)=(i.toList == j.toList):=by
 rw[cY];cases i;cases j;simp
section
variable {X:Cx}{a b c:Expr}{ta tb tc:TE}{pos:Pos}
theorem iq (I:Inv X pins σ H s)(q:Q (.bl k) H)(e:k=k'):EP X pins σ Q (.bool k') s:=by
 subst e;exact⟨.bl k,H,I,rfl,q⟩
theorem R4:lY X (compareOp .NotEq) Zq:=by
 (intro pins s σ H x y v u Q I rx ry h);obtain⟨hs,q⟩:=h
 cases x with
 | jm =>
  cases rx
  cases y with
  | jm=>cases ry;exact PySem.EqNone.ne_none_none (iq I q (!4))
  | bl j=>cases ry;exact PySem.EqNone.ne_none_bool (iq I q (!4))
  | int j=>obtain⟨t',rfl⟩:=ry;exact PySem.EqNone.ne_none_int (iq I q (!4))
  | str j=>obtain⟨t',rfl⟩:=ry;exact PySem.EqNone.ne_none_str (iq I q (!4))
  | _=>exact absurd (show false=true from hs) bg
 | bl i =>
  cases rx
  cases y with
  | jm=>cases ry;exact PySem.EqNone.ne_bool_none (iq I q (!4))
  | bl j=>cases ry;exact ne_bool (iq I q (congrArg not O4))
  | str j=>obtain⟨t',rfl⟩:=ry;exact PySem.EqMixed.ne_bool_str (iq I q (!4))
  | _=>exact absurd (show false=true from hs) bg
 | int i =>
  obtain⟨t,rfl⟩:=rx
  cases y with
  | jm=>cases ry;exact PySem.EqNone.ne_int_none (iq I q (!4))
  | int j=>obtain⟨t',rfl⟩:=ry;exact ne_int (iq I q (congrArg not Ll))
  | str j=>obtain⟨t',rfl⟩:=ry;exact PySem.EqMixed.ne_int_str (iq I q (!4))
  | _=>exact absurd (show false=true from hs) bg
 | str i =>
  obtain⟨t,rfl⟩:=rx
  cases y with
  | jm=>cases ry;exact PySem.EqNone.ne_str_none (iq I q (!4))
  | bl j=>cases ry;exact PySem.EqMixed.ne_str_bool (iq I q (!4))
  | int j=>obtain⟨t',rfl⟩:=ry;exact PySem.EqMixed.ne_str_int (iq I q (!4))
  | str j=>obtain⟨t',rfl⟩:=ry;exact ne_str (iq I q (congrArg not Lm))
  | _=>exact absurd (show false=true from hs) bg
 | K3 i =>
  obtain⟨t,rfl⟩:=rx
  cases y with
  | K3 j=>obtain⟨t',rfl⟩:=ry;exact W.ne_bytes (iq I q (congrArg not Ln))
  | _=>exact absurd (show false=true from hs) bg
 | _=>cases y<;>exact absurd (show false=true from hs) bg
theorem Ng:lY X (compareOp .Lt) (KP λi j=>.bl (decide (i<j))):=Lk λ_ _ _ _ _ _ _ q=>lt_int q
theorem R5:lY X (compareOp .LtE) (KP λi j=>.bl (decide (i<=j))):=Lk λ_ _ _ _ _ _ _ q=>le_int q
theorem Nh:lY X (compareOp .Gt) (KP λi j=>.bl (decide (j<i))):=Lk λ_ _ _ _ _ _ _ q=>gt_int q
theorem R6:lY X (compareOp .GtE) (KP λi j=>.bl (decide (j<=i))):=Lk λ_ _ _ _ _ _ _ q=>ge_int q
theorem O5:lY X (compareOp .Is) (λx y H Q=>y=.jm/\Q (.bl (decide (x=.jm))) H):=by
 (intro pins s σ H x y v u Q I rx ry h);obtain⟨rfl,q⟩:=h;cases ry;refine is_none_gen (iq I q ?_)
 cases x<;>first
  | (cases rx;rfl)
  | (obtain⟨t,rfl⟩:=rx;rfl)
theorem Lo:lY X (compareOp .IsNot) (λx y H Q=>y=.jm/\Q (.bl (!decide (x=.jm))) H):=by
 (intro pins s σ H x y v u Q I rx ry h);obtain⟨rfl,q⟩:=h;cases ry;refine isnot_none_gen (iq I q ?_)
 cases x<;>first
  | (cases rx;rfl)
  | (obtain⟨t,rfl⟩:=rx;rfl)
theorem lY.or {f:ah->ah->Sem ah}{r r':R2}(h:lY X f r)(h':lY X f r'):lY X f (λx y H Q=>r x y H Q\/r' x y H Q):=by
 intro pins s σ H x y v u Q I rx ry q;rcases q with q | q
 .exact h pins s σ H x y v u Q I rx ry q
 .exact h' pins s σ H x y v u Q I rx ry q
theorem m6 (b:Expr)(h:op≠.In:=by decide)(h2:op≠.NotIn:=by decide):behindInMarks op b=false:=by
 have e1:(op == CmpOp.In)=false:=by cases op<;>first | rfl | exact absurd rfl h
 have e2:(op == CmpOp.NotIn)=false:=by cases op<;>first | rfl | exact absurd rfl h2
 cases b<;>simp[behindInMarks,e1,e2]
theorem Lp {op:CmpOp}{r:R2}(ho:lY X (compareOp op) r)(ha:PE X a ta)(hb:PE X b tb)(hm:behindInMarks op b=false):PE X (.Compare a [op] [b] pos) (Lj r ta tb):=by
 rw[10];exact wpAny_Compare1 (OW ha hb I h λv u s2 x y H2 I2 rx ry q=>ho pins s2 σ H2 x y v u Q I2 rx ry q) hm
noncomputable def Ni (t:TE):TT:=λσ H Q=>t σ H λx H'=>∃k,x=.bl k/\Q k H'
theorem Lq (ho:lY X (compareOp op) r)(ha:PE X a ta)(hb:PE X b tb)(hm:behindInMarks op b=false):PT X (.Compare a [op] [b] pos) (Ni (Lj r ta tb)):=by
 rw[10]
 refine wpAny_isTrue_Compare1 (gr (ha pins s σ H _ I h) λv s1 ⟨x,H1,I1,r1,q1⟩=>gr (hb pins s1 σ H1 _ I1 q1) λu s2 ⟨y,H2,I2,r2,q2⟩ =>
  gr (ho pins s2 σ H2 x y v u _ I2 r1 r2 q2) λc s3 ⟨z,H3,I3,r3,k,e,q3⟩=>?_) hm
 subst e;cases r3;exact wpAny_truthy_bool ⟨H3,I3,q3⟩
theorem zj:(aC:Nat)<2 ^ 63:=by rw[sizeLine_eq];decide
theorem CQ:lY X (binaryOp .Add) (λx y H Q=>∃i j,x=.str i/\y=.str j/\i.length+j.length<=aC/\Q (.str (i++j)) H):=by
 (intro pins s σ H x y v u Q I rx ry h);obtain⟨i,j,rfl,rfl,hz,q⟩:=h;obtain⟨t,rfl⟩:=rx;obtain⟨t',rfl⟩:=ry;exact add_str (λt' tk=>⟨.str (i++j),H,I.tok _,⟨_,rfl⟩,q⟩) hz
theorem vals1 (r:eS [x] us):∃u,us=[u]/\RelV x u:=by
 cases r with
 | cons r1 r2=>cases r2;exact⟨_,rfl,r1⟩
theorem vals2 (r:eS [x,y] us):∃u w',us=[u,w']/\RelV x u/\RelV y w':=by
 cases r with
 | cons r1 r2 =>
  cases r2 with
  | cons r3 r4=>cases r4;exact⟨_,_,rfl,r1,r3⟩
theorem HK:gL X (.builtin "abs") (λxs H Q=>∃i,xs=[.int i]/\Q (.int (if i<0 then -i else i)) H):=by
 (intro pins s σ H xs us Q I r h);obtain⟨i,rfl,q⟩:=h;obtain⟨u,rfl,t,rfl⟩:=vals1 r;exact call_abs_int λu tk=>⟨.int (if i<0 then -i else i),H,I.tok _,⟨_,rfl⟩,q⟩
theorem FP (hc:X.calm=true):gL X (.builtin "max") (λxs H Q=>∃i j,xs=[.int i,.int j]/\Q (.int (if j > i then j else i)) H):=by
 (intro pins s σ H xs us Q I r h);obtain⟨i,j,rfl,q⟩:=h;obtain⟨u,w',rfl,⟨t,rfl⟩,⟨t',rfl⟩⟩:=vals2 r;refine max_two_ints (I.ok.hd hc) λh' tk k=>⟨_,H,I.kept k,?_,q⟩;by_cases hj:j > i
 .rw[if_pos hj,if_pos hj];exact⟨_,rfl⟩
 .rw[if_neg hj,if_neg hj];exact⟨_,rfl⟩
theorem FQ (hc:X.calm=true):gL X (.builtin "min") (λxs H Q=>∃i j,xs=[.int i,.int j]/\Q (.int (if j<i then j else i)) H):=by
 (intro pins s σ H xs us Q I r h);obtain⟨i,j,rfl,q⟩:=h;obtain⟨u,w',rfl,⟨t,rfl⟩,⟨t',rfl⟩⟩:=vals2 r;refine min_two_ints (I.ok.hd hc) λh' tk k=>⟨_,H,I.kept k,?_,q⟩;by_cases hj:j<i
 .rw[if_pos hj,if_pos hj];exact⟨_,rfl⟩
 .rw[if_neg hj,if_neg hj];exact⟨_,rfl⟩
theorem FR:gL X (.type "int") (λxs H Q=>(∃i,xs=[.int i]/\Q (.int i) H)\/∃k,xs=[.bl k]/\Q (.int (if k then 1 else 0)) H):=by
 (intro pins s σ H xs us Q I r h);rcases h with⟨i,rfl,q⟩ | ⟨k,rfl,q⟩
 .obtain⟨u,rfl,t,rfl⟩:=vals1 r
  exact call_int_int ⟨.int i,H,I,⟨_,rfl⟩,q⟩
 .obtain⟨u,rfl,r1⟩:=vals1 r
  cases r1;exact call_int_bool ⟨.int (if k then 1 else 0),H,I.tok _,⟨_,rfl⟩,q⟩
end
theorem so.some_of (r:so (some v) o):∃u,o=some u/\RelV v u:=by
 cases o with
 | none=>exact (show False from r).elim
 | some u=>exact⟨u,rfl,r⟩
structure ik (k:Nat) (A:Around):Prop where
 hd:A.handled=none
 dp:A.depth+3 * k+5<recursionLimit
 un:A.units+16 * k+200<cLine
 gd:A.guards=some []
theorem ik.mono (r:ik k A)(h:j<=k):ik j A:=⟨r.hd,by have:=r.dp;omega,by have:=r.un;omega,r.gd⟩
theorem ik.deeper (r:ik (k+1) A)(env:Env):ik k (A.deeper env) :=
 ⟨r.hd,by have:=r.dp;show A.depth+1+3 * k+5<_;omega,by have:=r.un;show A.units+3+16 * k+200<_;omega,r.gd⟩
theorem ik.depth (r:ik k A):A.depth<recursionLimit:=by have:=r.dp;omega
theorem ik.units (r:ik k A):A.units+64<cLine:=by have:=r.un;omega
noncomputable def O6:TA:=λ_ H Q=>Q [] H
noncomputable def HL (ta:TE)(tr:TA):TA:=λσ H Q=>ta σ H λx H1=>tr σ H1 λxs H2=>Q (x::xs) H2
section
variable {X:Cx}{e:Expr}{es:List Expr}{te:TE}{t:TA}{pos:Pos}
theorem O7:PA X [] O6:=λ_ _ _ _ H Q I h=>Calls.spliced_nil ⟨[],H,I,.nil,h⟩
theorem Lr (ha:PE X e te)(hr:PA X es t)(hs:starEach (e::es) X.env=(false,eval e X.env)::starEach es X.env:=by rfl):PA X (e::es) (HL te t):=by
 intro pos pins s σ H Q I h;rw[hs];show aH _ _ (spliced ((false,eval e X.env)::backTo pos (starEach es X.env))) _ _ s;refine Calls.spliced_cons (gr (ha pins s σ H _ I h) λu s1 ⟨x,H1,I1,r1,q1⟩=>?_);exact gr (hr pos pins s1 σ H1 _ I1 q1) λus s2 ⟨xs,H2,I2,r2,q2⟩=>⟨x::xs,H2,I2,.cons r1 r2,q2⟩
noncomputable def R7 (t:TA):TE:=λσ H Q=>t σ H λxs H1=>xs.length<=aC/\∀p,H1 p=none->Q (.ref p) (fz H1 p (.tup xs))
noncomputable def R8 (t:TA):TE:=λσ H Q=>t σ H λxs H1=>xs.length<=aC/\∀p,H1 p=none->Q (.ref p) (fz H1 p (.lst xs))
theorem O8 {x1}(h:PA X es t):PE X (.Tuple es x1 pos) (R7 t):=by
 intro pins s σ H Q I hq;refine wpAny_Tuple_spliced (gr (h pos pins s σ H _ I hq) λus s1 ⟨xs,H1,I1,r,z,q⟩=>⟨by rw[<- r.length];exact z,?_⟩);have hf:H1 s1.heap.objs.size=none:=I1.hok.fresh (aw _);refine⟨.ref s1.heap.objs.size,fz H1 s1.heap.objs.size (.tup xs),I1.laid (t':=s1.toks) (λb u e=>aj _ e) (aw _) ?_,rfl,q _ hf⟩;exact⟨z,us,r,⟨_,aB _ rfl,rfl,_,rfl,rfl⟩⟩
theorem O9 (h:PA X es t):PE X (.List es pos) (R8 t):=by
 intro pins s σ H Q I hq;refine wpAny_List_spliced (gr (h pos pins s σ H _ I hq) λus s1 ⟨xs,H1,I1,r,z,q⟩=>⟨by rw[<- r.length];exact z,?_⟩);have hf:H1 s1.heap.objs.size=none:=I1.hok.fresh (aw _);refine⟨.ref s1.heap.objs.size,fz H1 s1.heap.objs.size (.lst xs),I1.laid (t':=s1.toks) (λb u e=>aj _ e) (aw _) ?_,rfl,q _ hf⟩;exact⟨z,us,0,r,aB _ rfl⟩
end
noncomputable abbrev Sp:=List V->Hp->VK->XK->Prop
noncomputable abbrev HM:=List Env->Hp->aA->XK->ah->aA->Prop
structure Ls (P:bf) (w:World) (K:W.Frag) (mg:Str->Option ah) (base:Heap) (A:Around) (outer:List Env) (s:aA) (H:Hp):Prop where
 frames:A.frames=some outer
 mod:Mod K mg base
 bs:∀b o,base.get? b=some o->s.heap.get? b=some o/\H b=none
 OA:base.objs.size<=s.heap.objs.size
 uV:s.heap.FunFrames base outer
 Rf:∀b∈CO outer,H b=none
 hok:oq P w H s.heap
 bare:AllBare s.gens
noncomputable def CE (outer:List Env)(P:bf)(w:World)(H:Hp)(s:aA)(Q:VK)(u:ah)(s':aA):Prop :=
 ∃v H',s'.os=s.os/\AllBare s'.gens/\Un (CO outer) [] H H' s.heap s'.heap/\oq P w H' s'.heap/\RelV v u/\Q v H'
noncomputable def CR (CX:HM)(outer:List Env)(P:bf)(w:World)(H:Hp)(s:aA)(Q:VK)(E:XK)(r:Result)(s':aA):Prop :=
 match r with
 | .ok (.ret u)=>CE outer P w H s Q u s'
 | .ok _=>False
 | .error e=>CX outer H s E e s'
structure og (P:bf) (w:World) (K:W.Frag) (mg:Str->Option ah) (base:Heap) (CX:HM) (k:Nat) (f:Addr) (fd:bE) (ps:List Str) (sp:Sp):Prop where
 len:∀vs H Q E,sp vs H Q E->vs.length=ps.length
 run:∀(A:Around) (outer:List Env) (s:aA) (H:Hp) (args:Args) (us:List ah) (vs:List V) (Q:VK) (E:XK),ik k A->Ls P w K mg base A outer s H->BindsTo s fd args (ps.zip us)->eS vs us->sp vs H Q E ->
  codeAny (model P w) A (.call (.ref f) args) (CR CX outer P w H s Q E) s
theorem og.mono {P:bf}{w:World}{K:W.Frag}{mg:Str->Option ah}{base:Heap}{CX:HM}{j k:Nat}{f:Addr}{fd:bE}{ps:List Str}{sp:Sp}(F:og P w K mg base CX j f fd ps sp)(h:j<=k) :
  og P w K mg base CX k f fd ps sp:=⟨F.len,λA outer s H args us vs Q E hr=>F.run A outer s H args us vs Q E (hr.mono h)⟩
theorem og.imp {P:bf}{w:World}{K:W.Frag}{mg:Str->Option ah}{base:Heap}{CX:HM}{k:Nat}{f:Addr}{fd:bE}{ps:List Str}{sp R9:Sp}(F:og P w K mg base CX k f fd ps sp)
  (h:∀vs H Q E,R9 vs H Q E->sp vs H Q E):og P w K mg base CX k f fd ps R9 :=
 ⟨λvs H Q E q=>F.len vs H Q E (h _ _ _ _ q),λA outer s H args us vs Q E hr he hb hv hs=>F.run A outer s H args us vs Q E hr he hb hv (h _ _ _ _ hs)⟩
section
theorem Inv.VC (I:Inv X pins σ H s):Ls X.prog X.w X.K X.mg X.base X.A X.stack s H :=
 ⟨I.ok.frames,I.ok.mod,I.bs,bq I.ok.OA I.sz,I.stack,I.Eg,I.hok,I.bare⟩
theorem Inv.after {Q:VK}{u:ah}(I:Inv X pins σ H s)(h:CE X.stack X.prog X.w H s Q u s'):EP X pins σ Q u s':=by
 obtain⟨v,H',os,bare,un,hok,r,q⟩:=h;obtain⟨hh,g,d,t,VD⟩:=s';obtain rfl:VD=s.os:=os;exact⟨v,H',I.call (h':=hh) (g':=g) (d':=d) (t':=t) (ch:=[]) un hok bare (λb z=>absurd z (!4)),r,q⟩
end
noncomputable def HN (sp:Sp)(Pa:List V)(E:XK)(t:TA):TE:=λσ H Q=>t σ H λvs H1=>sp (vs++Pa) H1 Q E
noncomputable def Binds (K:W.Frag)(fd:bE)(ps:List Str)(ds:List ah):Prop :=
 ∀(s:aA) (us:List ah),K.In s.heap->(us++ds).length=ps.length->BindsTo s fd ⟨us,[]⟩ (ps.zip (us++ds))
theorem Binds.all {K:W.Frag}{fd:bE}{ps:List Str}(h:∀us:List ah,us.length=ps.length->bindArgs fd ⟨us,[]⟩=pure (ps.zip us)):Binds K fd ps []:=λs us _ hl=>by
 rw[bY] at hl ⊢;exact .of_eq (h us hl)
noncomputable def CS (CX:HM)(X:Cx)(E:XK):Prop:=∀(pins:List (!19)) (σ:St) (H:Hp) (s:aA) (e:ah) (s':aA),Inv X pins σ H s->CX X.stack H s E e s'->X.xe e s'
section
theorem Pb {pins:List (!19)}{σ:St}{H:Hp}{s:aA}{Q:VK}{us:List ah}{vs:List V}(F:og X.prog X.w X.K X.mg X.base CX k f fd ps sp)(hr:ik k X.A)(hb:Binds X.K fd ps ds)(hd:eS Pa ds)(hx:CS CX X E)
  (I:Inv X pins σ H s) (r:eS vs us) (h:sp (vs++Pa) H Q E):aH (!11) X.A (call (.ref f) us) (EP X pins σ Q) X.xe s:=by
 have r2:eS (vs++Pa) (us++ds):=r.append hd;have hl:(us++ds).length=ps.length:=by rw[<- r2.length];exact F.len _ _ _ _ h
 refine wpAny_call (codeAny_mono (F.run X.A X.stack s H ⟨us,[]⟩ (us++ds) (vs++Pa) Q E hr I.VC (hb s us I.Rh hl) r2 h) λr s' hq=>?_)
 cases r with
 | error e=>exact hx pins σ H s e s' I hq
 | ok fl =>
  cases fl with
  | ret u=>exact I.after hq
  | next=>exact False.elim hq
  | brk=>exact False.elim hq
  | cont=>exact False.elim hq
theorem Lu (F:og X.prog X.w X.K X.mg X.base CX k f fd ps sp)(hr:ik k X.A)(hg:Gl X x)(hm:X.mg x=some (.ref f))(hk:W.keepIn X.K (.ref f)=true)(hb:Binds X.K fd ps ds)(hd:eS Pa ds)(hx:CS CX X E)
  (ha:PA X (e::es) t) (tP:(x == (!17))=false:=by decide) (he:starEach (e::es) X.env=(false,eval e X.env)::starEach es X.env:=by rfl) (oo:(backTo pos (starEach es X.env)).any (·.1)=false:=by rfl) :
  PE X (.Call (!35) (e::es) [] pos) (HN sp Pa E t):=by
 rw[10];refine wpAny_Call_Name_kw (Ei I hg hm ?_ tP);refine W.callWith_K (h₀:=X.base) I.ok.mod.Vs hk (gr (ha pos pins s σ H _ I h) λus s1 ⟨vs,H1,I1,r,q⟩=>⟨I1.Rh,?_⟩) he oo;exact Pb F hr hb hd hx I1 r q
end
structure gp (N P:List Str) (sc:Scope):Prop where
 kind:sc.kind=.function
 co:sc.isCoroutine=false
 gen:sc.isGenerator=false
 nd:N.Nodup
 pre:N.take P.length=P
 par:∀x∈P,sc.names.lookup x=some .local\/sc.names.lookup x=some .cell
 Pc:∀y∈sc.names,y.2≠.free
theorem xP {kindOf:Str->Option aT}{x:Str}:∀{binds:List (Str × ah)} {m:Str->Option ah},(∀v,(x,v) ∉ binds)->bindL kindOf binds m x=m x
 | [],_,_=>rfl
 | (n,v)::r,m,h=>by
  unfold bindL;rw[xP λw hw=>h w (ag _ hw)];split
  .have:x≠n:=by rintro rfl;exact h v ao
   simp[this]
  .rfl
theorem xQ {kindOf:Str->Option aT}{x:Str}:∀{binds:List (Str × ah)} {m:Str->Option ah},(∀v,(x,v) ∉ binds)->bindC kindOf binds m x=m x
 | [],_,_=>rfl
 | (n,v)::r,m,h=>by
  unfold bindC;rw[xQ λw hw=>h w (ag _ hw)];split
  .rfl
  .have:x≠n:=by rintro rfl;exact h v ao
   simp[this]
theorem xR {kindOf:Str->Option aT}{x:Str}{v:ah}:∀{P:List Str} {vs:List ah} {i:Nat} {m:Str->Option ah},P.Nodup->P[i]? = some x->vs[i]? = some v->kindOf x=some .local ->
  bindL kindOf (P.zip vs) m x=some v
 | [],_,_,_,_,h,_,_=>by simp at h
 | _::_,[],_,_,_,_,h,_=>by simp at h
 | p::P,w::vs,0,m,nd,h1,h2,hk=>by
  simp at h1 h2;subst h1;subst h2;show bindL kindOf ((p,w)::P.zip vs) m p=_;unfold bindL;rw[xP λv hv=>(bj.mp nd).1 (du hv).1,if_pos hk];simp
 | p::P,w::vs,i+1,m,nd,h1,h2,hk=>by
  show bindL kindOf ((p,w)::P.zip vs) m x=_;unfold bindL;exact xR (i:=i) (bj.mp nd).2 (by simpa using h1) (by simpa using h2) hk
theorem xT {kindOf:Str->Option aT}{x:Str}{v:ah}:∀{P:List Str} {vs:List ah} {i:Nat} {m:Str->Option ah},P.Nodup->P[i]? = some x->vs[i]? = some v->kindOf x≠some .local ->
  bindC kindOf (P.zip vs) m x=some v
 | [],_,_,_,_,h,_,_=>by simp at h
 | _::_,[],_,_,_,_,h,_=>by simp at h
 | p::P,w::vs,0,m,nd,h1,h2,hk=>by
  simp at h1 h2;subst h1;subst h2;show bindC kindOf ((p,w)::P.zip vs) m p=_;unfold bindC;rw[xQ λv hv=>(bj.mp nd).1 (du hv).1,if_neg hk];simp
 | p::P,w::vs,i+1,m,nd,h1,h2,hk=>by
  show bindC kindOf ((p,w)::P.zip vs) m x=_;unfold bindC;exact xT (i:=i) (bj.mp nd).2 (by simpa using h1) (by simpa using h2) hk
noncomputable def start (N:List Str)(vs:List V):St:=vs.map some++List.replicate (N.length - vs.length) none
noncomputable def pT (CX:HM)(P:bf)(w:World)(K:W.Frag)(mg:Str->Option ah)(base:Heap)(N:List Str)(gu:Str)(scope:Scope)(f:Addr)(cd:ah)(A:Around)(outer:List Env)(s:aA)(H:Hp)(E:XK):Cx where
 prog:=P
 w:=w
 K:=K
 mg:=mg
 base:=base
 A:=A.deeper (envOfC gu scope s.heap.objs.size f cd)
 N:=N
 s₀:=s
 H₀:=H
 env:=envOfC gu scope s.heap.objs.size f cd
 outer:=outer
 stack:=envOfC gu scope s.heap.objs.size f cd::outer
 ex:=[]
 calm:=true
 fn:=λ_=>true
 pn:=[]
 xe:=λe s'=>aH (model P w) (A.deeper (envOfC gu scope s.heap.objs.size f cd)) (leaving (envOfC gu scope s.heap.objs.size f cd) e) (λ_ Rj=>CX outer H s E e Rj) (λe' Rj=>CX outer H s E e' Rj) s'
theorem AQ {sc:Scope}{n:Nat}{x:Str}(h:sc.names.lookup x=some .cell):∃c,(cellsFrom n sc.names []).lookup x=some c:=by
 have q:=W.cellsFrom_some sc.names n [] (.inl h);exact bX.mp q
theorem FT {CX:HM}{P:bf}{w:World}{K:W.Frag}{mg:Str->Option ah}{base:Heap}{N ps:List Str}{gu:Str}{scope:Scope}{f:Addr}{cd:ah}{A:Around}{outer:List Env}{s s1:aA}{H:Hp}{E:XK}{us:List ah}{vs:List V}
  (S:gp N ps scope) (hd:A.handled=none) (e0:Ls P w K mg base A outer s H) (hl:vs.length=ps.length) (r:eS vs us)
  (x:InCallC s s.heap.objs.size (bindL (envOfC gu scope s.heap.objs.size f cd).kindOf (ps.zip us) λ_=>none) (cellsFrom (s.heap.objs.size+1) scope.names []) (bindC (envOfC gu scope s.heap.objs.size f cd).kindOf (ps.zip us) λ_=>none) s1) :
  Inv (pT CX P w K mg base N gu scope f cd A outer s H E) [] (start N vs) H s1:=by
 have oo:ps.length<=N.length:=by have:=congrArg List.length S.pre;rw[b8] at this;omega
 obtain⟨h1,tk,rfl,hk⟩:=x.done;have R':∀b:Addr,b ∉ (pT CX P w K mg base N gu scope f cd A outer s H E).ex:=λb z=>absurd (show b∈([]:List Addr) from z) (!4)
 refine⟨⟨e0.mod,S.kind,rfl,rfl,aw _,λy z c h1 h2=>?_,λy hy=>?_,λy c _ h=>?_,λ_=>hd,Around.frames_deeper e0.frames,.inr ⟨rfl,rfl⟩,λb z=>absurd z (R' b),e0.bs,e0.OA,λb _ _=>R' b,λb z=>absurd z (R' b),e0.uV,e0.Rf⟩,
  rfl,e0.bare,Un.kept hk,⟨_,x.toInCall.ns,λi y v h1 h2 h3=>?_⟩,λy c h=>⟨_,x.cell y c h⟩,e0.hok.fresh (aw _),λy c h=>?_,λp hp=>absurd (show p∈([]:List (!19)) from hp) (!4),e0.hok.kept hk,?_⟩
 .exact name_of_addr x.apart (PySem.mem_of_lookup h1) (PySem.mem_of_lookup h2)
 .have hy:scope.names.lookup y=some .cell\/scope.names.lookup y=some .free:=hy
  rcases hy with hy | hy
  .exact AQ hy
  .exact absurd rfl (S.Pc _ (PySem.mem_of_lookup hy))
 .exact cM (x.above y c (PySem.mem_of_lookup h))
 .have hi:i<vs.length:=by
   unfold start at h2;by_cases hi:i<vs.length
   .exact hi
   .rw[bP (by simpa using hi)] at h2
    rw[b9] at h2;split at h2<;>cases h2
  have ha:vs[i]? = some v:=by
   unfold start at h2;rw[bH (by simpa using hi),az] at h2
   cases e:vs[i]? with
   | none=>rw[e] at h2;cases h2
   | some a=>rw[e] at h2;cases h2;rfl
  obtain⟨u,hu,rv⟩:=r.get ha
  have hp:ps[i]? = some y:=by
   rw[<- S.pre,List.getElem?_take_of_lt (!1)];exact h1
  have X0:ps.Nodup:=by rw[<- S.pre];exact S.nd.sublist (List.take_sublist _ _)
  refine⟨u,rv,?_⟩;rcases S.par y (bG hp) with k | k
  .exact .inl ⟨k,xR X0 hp hu k⟩
  .obtain⟨c,e⟩:=AQ (n:=s.heap.objs.size+1) k
   refine .inr ⟨.inl k,c,e,?_⟩;have q:=x.cell y c e;rw[xT X0 hp hu (by show scope.names.lookup y≠_;rw[k];decide)] at q;exact q
 .exact e0.hok.fresh (cM (x.above y c (PySem.mem_of_lookup h)))
 .unfold start
  show _=N.length;rw[aQ,ar,cS];omega
theorem Sa {CX:HM}{P:bf}{w:World}{K:W.Frag}{mg:Str->Option ah}{base:Heap}{k:Nat}{f:Addr}{name gu:Str}{params:Arguments}{body:List Stmt}{scope:Scope}{dV kV wV pm fH ct oc:ah}{an od:Option Addr}
  {Hd:Array (Option ah)} {N ps:List Str} {sp:Sp} (lk:K.lookup f=some ⟨oc,od,.func (W.fnOf name gu params body scope dV kV wV pm an fH ct),Hd⟩) (mY:W.codeIn K fH gu=true) (S:gp N ps scope)
  (len:∀vs H Q E,sp vs H Q E->vs.length=ps.length)
  (AR:∀(A:Around) (outer:List Env) (s:aA) (H:Hp) (vs:List V) (Q:VK) (E:XK),ik k (A.deeper (envOfC gu scope s.heap.objs.size f fH))->sp vs H Q E ->
   ∃t,CJ (pT CX P w K mg base N gu scope f fH A outer s H E) body t/\t { nx:=λ_ H'=>Q .jm H',rt:=Q } (start N vs) H) :
  og P w K mg base CX (k+1) f (W.fnOf name gu params body scope dV kV wV pm an fH ct) ps sp:=by
 refine⟨len,λA outer s H args us vs Q E hr e0 hb r Nj=>?_⟩;have hl:=len _ _ _ _ Nj;have KX:K.In s.heap:=e0.mod.Vs.keeps λb o e=>(e0.bs b o e).1;have Zr:s.heap.NoLimit:=e0.mod.nolimit.keeps λb o e=>(e0.bs b o e).1
 have Sb:∀y∈ps.zip us,scope.names.lookup y.1=some .local\/(scope.names.lookup y.1=some .cell/\((cellsFrom (s.heap.objs.size+1) scope.names []).lookup y.1).isSome=true):=λ⟨n,v⟩ hy=>by
  rcases S.par n (du hy).1 with q | q
  .exact .inl q
  .exact .inr ⟨q,W.cellsFrom_some _ _ _ (.inl q)⟩
 refine codeAny_call_function hr.depth (KX _ _ lk) rfl S.co S.gen rfl (W.codeRec_of KX mY) (hb _ _ _ _ ?_);refine wpAny_newFunctionEnv_cells S.kind Sb λenv he s1 x=>?_;subst he;refine⟨Zr.keeps x.toInCall.keep,codeAny_func ?_⟩;obtain⟨t,ht,hq⟩:=AR A outer s H vs Q E (hr.deeper _) Nj;have I:Inv (pT CX P w K mg base N gu scope f fH A outer s H E) [] (start N vs) H s1:=FT S hr.hd e0 hl r x;refine cf (ht [] s1 (start N vs) H _ I hq) (λfl s' hs=>?_) λe s' hs=>hs
 have fin:∀{σ':St} {H':Hp} {v:V} {u:ah},Inv (pT CX P w K mg base N gu scope f fH A outer s H E) [] σ' H' s'->RelV v u->Q v H'->CE outer P w H s Q u s' :=
  λ{σ' H' v u} J rv q=>⟨v,H',J.os,J.bare,J.base,J.hok,rv,q⟩
 cases fl with
 | ret u =>
  obtain⟨v,σ',H',J,rv,q⟩:=hs;exact fin J rv q
 | next =>
  obtain⟨σ',H',J,q⟩:=hs;exact fin (v:=V.jm) (u:=ah.none) J rfl q
 | brk =>
  obtain⟨_,_,_,q⟩:=hs;exact False.elim q
 | cont =>
  obtain⟨_,_,_,q⟩:=hs;exact False.elim q
section
variable {X:Cx}{x:Str}{p pos:Pos}{e:Expr}{es:List Expr}{t:TA}{id T:String}{r:List V->Hp->VK->Prop}
noncomputable def Sd (r:List V->Hp->VK->Prop)(t:TA):TE:=λσ H Q=>t σ H λvs H1=>r vs H1 Q
theorem HP (hc:gL X (.builtin id) r)(hg:Gl X x)(hm:X.mg x=none)(hv:bootBuiltins x=some (.builtin id))(ha:PA X (e::es) t)(hn:x ≠ "__name__" := by decide)(tP:(x == (!17))=false:=by decide)
  (he:starEach (e::es) X.env=(false,eval e X.env)::starEach es X.env:=by rfl) (oo:(backTo pos (starEach es X.env)).any (·.1)=false:=by rfl):PE X (.Call (!35) (e::es) [] pos) (Sd r t):=by
 rw[10];refine wpAny_Call_Name_kw (sr I hg hm hv ?_ hn tP);exact PyProof.Rows.callWith_builtin1 (gr (ha pos pins s σ H _ I h) λus s1 ⟨vs,H1,I1,r1,q1⟩=>hc pins s1 σ H1 vs us Q I1 r1 q1) he oo
theorem FU (hc:gL X (.type T) r)(hg:Gl X x)(hm:X.mg x=none)(hv:bootBuiltins x=some (.type T))(ha:PA X (e::es) t)(hn:x ≠ "__name__" := by decide)(tP:(x == (!17))=false:=by decide)
  (he:starEach (e::es) X.env=(false,eval e X.env)::starEach es X.env:=by rfl) (oo:(backTo pos (starEach es X.env)).any (·.1)=false:=by rfl):PE X (.Call (!35) (e::es) [] pos) (Sd r t):=by
 rw[10];refine wpAny_Call_Name_kw (sr I hg hm hv ?_ hn tP);exact PyProof.Rows.callWith_type1 (gr (ha pos pins s σ H _ I h) λus s1 ⟨vs,H1,I1,r1,q1⟩=>hc pins s1 σ H1 vs us Q I1 r1 q1) he oo
end
end L2
namespace HT
open PySem PyProof.Rows
section
theorem Lv {t b:Addr}{vs ws:List ah}{Q:ah->aA->Prop}(ht:IsTup s.heap t vs.toArray)(hb:IsTup s.heap b ws.toArray)(hv:vs≠[])
  (h1:ws=[]->Q (.ref t) s) (h2:ws≠[]->Q (!14) { s with heap:=s.heap.push { cls:=.type "tuple",data:=.seq (vs++ws).toArray } })
  (hsz:vs.length+ws.length<=aC):aH (!12) A (binaryOp .Add (.ref t) (.ref b)) Q E s:=by
 obtain⟨⟨cls,dd,data,sl⟩,ho,hc,n,hd⟩:=id ht;obtain⟨⟨VE,UY,data2,Rk⟩,FV,He,n2,AS⟩:=id hb;simp only at hc hd He AS;subst hc hd He AS;have e:vs.toArray++ws.toArray=(vs++ws).toArray:=by simp
 by_cases hw:ws=[]
 .exact concat_meets ⟨_,ho,rfl⟩ ⟨_,FV,rfl⟩ noFill_tuple_add seq_tuple_add PySem.F.slot_tuple_add PySem.F.entry_tuple_add (PySem.F.args_tuple_add_2 _ _)
   (tuple_addW1 t b vs.toArray ws.toArray n n2 dd UY sl Rk (by simpa using hv) (by simp[hw])) ⟨ho,FV,h1 hw⟩
 .refine concat_meets ⟨_,ho,rfl⟩ ⟨_,FV,rfl⟩ noFill_tuple_add seq_tuple_add PySem.F.slot_tuple_add PySem.F.entry_tuple_add (PySem.F.args_tuple_add_2 _ _)
   (tuple_addW2 t b vs.toArray ws.toArray n n2 dd UY sl Rk (by simpa using hv) (by simpa using hw) (by rw[aD,aD];exact hsz)) ⟨ho,FV,?_⟩
  rw[e];exact h2 hw
noncomputable def iy (n d:Nat):Option Int->Nat
 | none=>d
 | some v=>if v<0 then (v+(n:Int)).toNat else min v.toNat n
theorem AU (n d:Nat):iy n d none=d:=rfl
theorem Ek (n d k:Nat):iy n d (some (k:Int))=min k n:=by
 show (if (k:Int)<0 then ((k:Int)+(n:Int)).toNat else min (k:Int).toNat n)=min k n;rw[if_neg (!1),a9]
theorem Pd (n d:Nat)(hd:d<=n)(o:Option Int):iy n d o<=n:=by
 cases o with
 | none=>exact hd
 | some v =>
  show (if v<0 then (v+(n:Int)).toNat else min v.toNat n)<=n;by_cases hv:v<0
  .rw[if_pos hv];omega
  .rw[if_neg hv];exact Nat.min_le_right _ _
theorem El (v:Int)(n d:Nat):(if v<0 then max (v+(n:Int)) 0 else min v (n:Int))=((iy n d (some v):Nat):Int):=by
 show (if v<0 then max (v+(n:Int)) 0 else min v (n:Int))=(((if v<0 then (v+(n:Int)).toNat else min v.toNat n):Nat):Int);by_cases hv:v<0
 .simp only[if_pos hv];omega
 .simp only[if_neg hv];omega
theorem CT (lo hi:Option Int)(n:Nat):Builtin.Slice.sliceAdjust lo hi 1 (n:Int)=(((iy n 0 lo:Nat):Int),((iy n n hi:Nat):Int)):=by
 have h1:¬ ((1:Int)<0):=by omega
 unfold Builtin.Slice.sliceAdjust;simp only[h1,if_false];refine Prod.ext ?_ ?_
 .cases lo with
  | none=>rfl
  | some v=>exact El v n 0
 .cases hi with
  | none=>rfl
  | some v=>exact El v n n
theorem CU (i j:Nat):Builtin.Slice.slicePlaces (i:Int) (j:Int) 1=j - i:=by
 unfold Builtin.Slice.slicePlaces;have h1:(1:Int) > 0:=by omega
 simp only[h1,if_true,Int.ediv_one];split<;>omega
theorem uZ (p:IsPart v o)(h:Q o s):aH (!12) A (Builtin.Slice.slicePartIndex v) Q E s:=by
 cases p with
 | none=>exact slicePart_none h
 | int i t=>exact slicePart_int h
theorem mx {sl:Addr}{vl vu:ah}{lo hi:Option Int}{n:Nat}{Q:Int × Int × Nat->aA->Prop}(hs:s.heap.IsSliceOf sl vl vu .none)(pl:IsPart vl lo)(pu:IsPart vu hi)
  (h:Q (((iy n 0 lo:Nat):Int),1,iy n n hi - iy n 0 lo) s):aH (!12) A (Builtin.Slice.sliceApplied (.ref sl) (pure (n:Int))) Q E s:=by
 obtain⟨os,Pe,Se,Sf⟩:=id hs;unfold Builtin.Slice.sliceApplied Builtin.Slice.sliceFields;refine af (af (wpAny_field Pe Sf (x:=vl) rfl (af (wpAny_field Pe Sf (x:=vu) rfl (af (wpAny_field Pe Sf (x:=.none) rfl (am ?_)))))));refine af (slicePart_none ?_);show aH _ _ (if ((1:Int) == 0)=true then _ else _) _ _ s;rw[if_neg (!2)];refine af (uZ pl (af (uZ pu (af (am ?_)))));show aH _ _ (match Builtin.Slice.sliceAdjust lo hi 1 (n:Int) with | (lo,hi)=>pure (lo,(1:Int),Builtin.Slice.slicePlaces lo hi 1)) _ _ s;rw[CT lo hi n];show aH _ _ (pure (((iy n 0 lo:Nat):Int),(1:Int),Builtin.Slice.slicePlaces ((iy n 0 lo:Nat):Int) ((iy n n hi:Nat):Int) 1)) _ _ s;rw[CU];exact am h
theorem HQ (xs:Array ah)(i k:Nat):((List.range k).filterMap λ(m:Nat)=>xs[((i:Int)+(m:Int) * 1).toNat]?).toArray=((xs.toList.drop i).take k).toArray:=by
 have e:(λ(m:Nat)=>xs[((i:Int)+(m:Int) * 1).toNat]?)=λm=>xs[i+m]? := by
  funext m;have:((i:Int)+(m:Int) * 1).toNat=i+m:=by omega
  rw[this]
 rw[e];have:=pick_run xs i k;rw[List.filterMap_map] at this;have e2:((λx=>xs[x]?) ∘ λx=>i+x)=λm=>xs[i+m]? := rfl;rw[e2] at this;rw[this]
theorem qU {t sl:Addr}{items:Array ah}{vl vu:ah}{lo hi:Option Int}{Q:ah->aA->Prop}(ht:IsTup s.heap t items)(hs:s.heap.IsSliceOf sl vl vu .none)(pl:IsPart vl lo)(pu:IsPart vu hi)
  (hw:¬ (iy items.size 0 lo=0/\iy items.size items.size hi=items.size))
  (h:Q (!14) { s with heap:=s.heap.push { cls:=.type "tuple",data:=.seq ((items.toList.drop (iy items.size 0 lo)).take (((iy items.size items.size hi - iy items.size 0 lo)))).toArray } })
  (hsz:items.size<=aC):aH (!12) A (getItem (.ref t) (.ref sl)) Q E s:=by
 have Em:sizeOk (.seq ((items.toList.drop (iy items.size 0 lo)).take (((iy items.size items.size hi - iy items.size 0 lo)))).toArray):=by
  show ((items.toList.drop (iy items.size 0 lo)).take (((iy items.size items.size hi - iy items.size 0 lo)))).toArray.size<=aC;rw[aD,b8,di,bD];omega
 have hj:iy items.size items.size hi<=items.size:=Pd _ _ (aw _) hi;obtain⟨os,Pe,Se,Sf⟩:=id hs;have VF:s.TypeIs (.ref sl) "slice" := ⟨os,Pe,Se⟩;unfold getItem;try with_reducible refine wpAny_holding ?_
 first | refine af (am ?_) | skip
 refine af (wpAny_sequenceKey ht.typeIs (!2) ?_)
 refine af (wpAny_callSpecial?_slot (name:=Str.ofString "__getitem__") ht.typeIs PyProof.Rows.slot_tuple_getitem
  (wpAny_call_entry PyProof.Rows.slot_tuple_getitem ht.typeIs entry_tuple_getitem ?_ (args_tuple_getitem _ _)))
 show aH _ _ (Builtin.Tuple.tupleItemsOf (.ref t) >>= _) _ _ s;refine af (tupleItemsOf_ ht ?_);refine af (wpAny_typeOf VF ?_);rw[if_pos (!2)];refine af (mx hs pl pu ?_)
 have kz:¬ ((((iy items.size 0 lo:Nat):Int) == 0 && (1:Int) == 1 && (((iy items.size items.size hi - iy items.size 0 lo))) == items.size)=true):=by
  intro q;rw[bn,bn] at q;have q1:((iy items.size 0 lo:Nat):Int)=0:=eq_of_beq q.1.1;have q2:iy items.size items.size hi - iy items.size 0 lo=items.size:=eq_of_beq q.2;exact hw ⟨!1,!1⟩
 show aH _ _ (if (((iy items.size 0 lo:Nat):Int) == 0 && (1:Int) == 1 && (((iy items.size items.size hi - iy items.size 0 lo))) == items.size)=true then _ else _) _ _ s;rw[if_neg kz,HQ]
 first
  | exact af (m:=Builtin.Tuple.tupleExact _) (aY (am ⟨_,rfl,am h⟩) Em)
  | exact af (m:=Builtin.Tuple.tupleExact _) (aY (af (am (am ⟨_,rfl,am h⟩))) Em)
  | exact af (af (m:=Builtin.Tuple.tupleExact _) (aY (am (am ⟨_,rfl,am h⟩)) Em))
  | exact af (af (m:=Builtin.Tuple.tupleExact _) (aY (am ⟨_,rfl,am h⟩) Em))
end
end HT
namespace L2
open PySem PySem.Spec PyProof.Rows
noncomputable abbrev TO:=St->Hp->(Option Int->Hp->Prop)->Prop
noncomputable def PO (X:Cx)(e:Option Expr)(t:TO):Prop :=
 ∀(pins:List (!19)) (s:aA) (σ:St) (H:Hp) (Q:Option Int->Hp->Prop),Inv X pins σ H s->t σ H Q ->
  aH (!11) X.A (evalPart e X.env) (λu s'=>∃o H',Inv X pins σ H' s'/\IsPart u o/\Q o H') X.xe s
noncomputable def En:TO:=λ_ H Q=>Q none H
noncomputable def Nk (t:TE):TO:=λσ H Q=>t σ H λx H1=>∃i,x=.int i/\Q (some i) H1
section
variable {X:Cx}{e:Expr}{te:TE}{lo hi:Option Expr}{tl th:TO}{pos p2:Pos}
theorem Lw:PO X none En:=by
 rw[10];rw[evalPart_none];exact am ⟨none,H,I,.none,h⟩
theorem Lx (h:PE X e te):PO X (some e) (Nk te):=by
 intro pins s σ H Q I hw;rw[evalPart_some];refine gr (h pins s σ H _ I hw) λu s1 ⟨x,H1,I1,r1,q1⟩=>?_;obtain⟨i,rfl,q⟩:=q1;obtain⟨t,rfl⟩:=r1;exact⟨some i,H1,I1,.int i t,q⟩
noncomputable def KQ (X:Cx)(r:V->Option Int->Option Int->Hp->VK->Prop):Prop :=
 ∀(pins:List (!19)) (s:aA) (σ:St) (H:Hp) (x:V) (v vl vu:ah) (lo hi:Option Int) (sl:Addr) (Q:VK),Inv X pins σ H s->RelV x v->s.heap.IsSliceOf sl vl vu .none->IsPart vl lo->IsPart vu hi->r x lo hi H Q ->
  ∃T id,typeLookup (.type T) "__getitem__" = pure (some (.builtin id))/\s.TypeIs v T/\aH (!11) X.A (getItem v (.ref sl)) (EP X pins σ Q) X.xe s
theorem KQ.or (h:KQ X r)(h':KQ X r'):KQ X (λx lo hi H Q=>r x lo hi H Q\/r' x lo hi H Q):=by
 intro pins s σ H x v vl vu lo hi sl Q I rx hs pl pu q;rcases q with q | q
 .exact h pins s σ H x v vl vu lo hi sl Q I rx hs pl pu q
 .exact h' pins s σ H x v vl vu lo hi sl Q I rx hs pl pu q
noncomputable def X1 (r:V->Option Int->Option Int->Hp->VK->Prop)(te:TE)(tl th:TO):TE:=λσ H Q=>te σ H λx H1=>tl σ H1 λl H2=>th σ H2 λu H3=>r x l u H3 Q
theorem HR {r:V->Option Int->Option Int->Hp->VK->Prop}(hr:KQ X r)(he:PE X e te)(hl:PO X lo tl)(hu:PO X hi th):PE X (.Subscript e (.Slice lo hi none p2) pos) (X1 r te tl th):=by
 rw[10];refine Subscript_ (gr (he pins s σ H _ I h) λv s1 ⟨x,H1,I1,r1,q1⟩=>?_);refine wpAny_Slice (gr (hl pins s1 σ H1 _ I1 q1) λvl s2 ⟨l,H2,I2,pl,q2⟩=>gr (hu pins s2 σ H2 _ I2 q2) λvu s3 ⟨u,H3,I3,pu,q3⟩=>?_);rw[evalPart_none];refine am ?_;have I4:Inv X pins σ H3 { s3 with heap:=s3.heap.push { cls:=.type "slice",data:=.fields #[vl,vu,.none] } }:=I3.kept (t':=s3.toks) λb ob q=>aj _ q;obtain⟨T,id,hT,ht,hg⟩:=hr pins { s3 with heap:=s3.heap.push { cls:=.type "slice",data:=.fields #[vl,vu,.none] } } σ H3 x v vl vu l u s3.heap.objs.size Q I4 r1 (Heap.IsSliceOf.new ..) pl pu q3;show aH (!11) X.A (subscriptTail e (.Slice lo hi none p2) v (.ref s3.heap.objs.size)) (EP X pins σ Q) X.xe { s3 with heap:=s3.heap.push { cls:=.type "slice",data:=.fields #[vl,vu,.none] } };exact tail_any (ops:=[.ref s3.heap.objs.size,v]) ht hT hg (by with_unfolding_all rfl)
noncomputable def m7 (xs:List V)(lo hi:Option Int):List V:=(xs.drop (HT.iy xs.length 0 lo)).take (HT.iy xs.length xs.length hi - HT.iy xs.length 0 lo)
theorem tD (xs:List V)(lo hi:Option Int):(m7 xs lo hi).length<=xs.length:=by
 unfold m7;rw[b8,di];omega
noncomputable def VG (K:W.Frag):V->Option Int->Option Int->Hp->VK->Prop:=λx lo hi H Q=>∃a xs,x=.ref a/\jt K H a xs /\
 ¬ (HT.iy xs.length 0 lo=0/\HT.iy xs.length xs.length hi=xs.length)/\∀p,H p=none->Q (.ref p) (fz H p (.tup (m7 xs lo hi)))
theorem Pf:KQ X (VG X.K):=by
 intro pins s σ H x v vl vu lo hi sl Q I rx hs pl pu h;obtain⟨a,xs,rfl,hx,hw,q⟩:=h;cases rx;obtain⟨its,r,ht,hz⟩:=I.tuple hx;have hlen:its.toArray.size=xs.length:=by rw[aD];exact r.length.symm
 refine⟨"tuple",_,PyProof.Rows.slot_tuple_getitem.lookup,ht.typeIs,?_⟩;refine HT.qU ht hs pl pu (by rw[hlen];exact hw) ?_ (by rw[hlen];exact hz);rw[hlen];refine⟨.ref s.heap.objs.size,_,I.laid (t':=s.toks) (o:=.tup (m7 xs lo hi)) (λb ob q=>aj _ q) (aw _) ?_,rfl,q _ (!34)⟩;exact⟨bq (tD xs lo hi) hz,_,(r.drop (HT.iy xs.length 0 lo)).take (HT.iy xs.length xs.length hi - HT.iy xs.length 0 lo),wX.new _ _⟩
noncomputable def Sg (K:W.Frag):R2:=λx y H Q=>∃a b xs ys,x=.ref a/\y=.ref b/\jt K H a xs/\jt K H b ys/\xs≠[]/\xs.length+ys.length<=aC /\
 (ys=[]->Q (.ref a) H)/\(ys≠[]->∀p,H p=none->Q (.ref p) (fz H p (.tup (xs++ys))))
theorem eS.qV (r:eS xs us):us=[]↔xs=[]:=by
 cases r with
 | nil=>simp
 | cons _ _=>simp
theorem Ly:lY X (binaryOp .Add) (Sg X.K):=by
 (intro pins s σ H x y v u Q I rx ry h);obtain⟨a,b,xs,ys,rfl,rfl,ha,hb,hx,hz,q1,q2⟩:=h;cases rx;cases ry;obtain⟨its,r1,p1,_⟩:=I.tuple ha;obtain⟨pI,r2,p2,_⟩:=I.tuple hb;refine HT.Lv p1 p2 (λz=>hx (r1.qV.mp z)) (λz=>⟨.ref a,H,I,rfl,q1 (r2.qV.mp z)⟩) (λz=>?_) (by rw[<- r1.length,<- r2.length];exact hz);refine⟨.ref s.heap.objs.size,_,I.laid (t':=s.toks) (o:=.tup (xs++ys)) (λb ob q=>aj _ q) (aw _) ?_,rfl,q2 (λw=>z (r2.qV.mpr w)) _ (!34)⟩;exact⟨by rw[aQ];exact hz,_,r1.append r2,wX.new _ _⟩
end
noncomputable def CV (n:Nat)(i:Int):Option Nat:=if 0<=i then (if i<n then some i.toNat else none) else if -(n:Int)<=i then some (i+n).toNat else none
noncomputable def sx {α:Type}(xs:List α)(i:Int):Option α:=(CV xs.length i).bind λj=>xs[j]?
theorem Eo (h:CV n i=some j):seqIndex? i n=some j/\j<n/\-(n:Int)<=i/\i<n:=by
 unfold CV at h;by_cases h0:0<=i
 .rw[if_pos h0] at h
  by_cases h1:i<n
  .rw[if_pos h1] at h
   have e:i.toNat=j:=Option.some.inj h;exact⟨by rw[seqIndex_of h0 h1,e],!1,!1,h1⟩
  .rw[if_neg h1] at h;cases h
 .rw[if_neg h0] at h
  by_cases h1:-(n:Int)<=i
  .rw[if_pos h1] at h
   have e:(i+n).toNat=j:=Option.some.inj h;exact⟨by rw[seqIndex_neg (!1) h1,e],!1,h1,!1⟩
  .rw[if_neg h1] at h;cases h
theorem Ep {α:Type}{xs:List α}{i:Int}{v:α}(h:sx xs i=some v):∃j,seqIndex? i xs.length=some j/\xs[j]? = some v/\j<xs.length/\-(xs.length:Int)<=i/\i<xs.length:=by
 unfold sx at h
 cases e:CV xs.length i with
 | none=>rw[e] at h;cases h
 | some j =>
  rw[e] at h;obtain⟨h1,h2,h3,h4⟩:=Eo e;exact⟨j,h1,h,h2,h3,h4⟩
noncomputable def zk (b:Expr):Prop:=∀o i,subscripted b false o i=operate [o,i] (getItem o i)
noncomputable def KR (X:Cx)(r:R2):Prop :=
 ∀(value slice:Expr) (pins:List (!19)) (s:aA) (σ:St) (H:Hp) (x y:V) (v u:ah) (Q:VK),Inv X pins σ H s->RelV x v->RelV y u->r x y H Q ->
  subscripted slice false v u=operate [v,u] (getItem v u)->aH (!11) X.A (subscriptTail value slice v u) (EP X pins σ Q) X.xe s
noncomputable def Hf (X:Cx)(id:String)(r:V->List V->Hp->VK->Prop):Prop :=
 ∀(pins:List (!19)) (s:aA) (σ:St) (H:Hp) (x:V) (xs:List V) (v:ah) (us:List ah) (Q:VK),Inv X pins σ H s->RelV x v->eS xs us->r x xs H Q ->
  aH (!11) X.A (call (.builtin id) (v::us)) (EP X pins σ Q) X.xe s
section
variable {X:Cx}{a b:Expr}{ta tb:TE}{pos:Pos}
theorem KR.or (h:KR X r)(h':KR X r'):KR X (λx y H Q=>r x y H Q\/r' x y H Q):=by
 intro value slice pins s σ H x y v u Q I rx ry q hs;rcases q with q | q
 .exact h value slice pins s σ H x y v u Q I rx ry q hs
 .exact h' value slice pins s σ H x y v u Q I rx ry q hs
theorem Hf.or {id:String}{r r':V->List V->Hp->VK->Prop}(h:Hf X id r)(h':Hf X id r'):Hf X id (λx xs H Q=>r x xs H Q\/r' x xs H Q):=by
 intro pins s σ H x xs v us Q I rx rs q;rcases q with q | q
 .exact h pins s σ H x xs v us Q I rx rs q
 .exact h' pins s σ H x xs v us Q I rx rs q
theorem Sh {r:R2}(hr:KR X r)(ha:PE X a ta)(hb:PE X b tb)(hs:zk b):PE X (.Subscript a b pos) (Lj r ta tb):=by
 rw[10];exact Subscript_ (OW ha hb I h λv u s2 x y H2 I2 rx ry q=>hr a b pins s2 σ H2 x y v u Q I2 rx ry q (hs _ _))
noncomputable def Si (K:W.Frag):R2:=λx y H Q=>∃p xs i v,x=.ref p/\y=.int i/\gx K H p xs/\sx xs i=some v/\Q v H
noncomputable def Sj (K:W.Frag):R2:=λx y H Q=>∃p xs i v,x=.ref p/\y=.int i/\jt K H p xs/\sx xs i=some v/\Q v H
theorem Lz:KR X (Si X.K):=by
 intro value slice pins s σ H x y v u Q I rx ry h hs;obtain⟨p,xs,i,z,rfl,rfl,hq,he,q⟩:=h;cases rx;obtain⟨t,rfl⟩:=ry;obtain⟨its,r,pl,hz⟩:=I.list hq;obtain⟨j,h1,h2,h3,h4,h5⟩:=Ep he;obtain⟨w,ew,oh⟩:=r.get h2;have hl:=r.length;have hn:=zj;have fin:EP X pins σ Q w s:=⟨z,H,I,oh,q⟩;by_cases h0:0<=i
 .have hj:i.toNat=j:=by
   rw[seqIndex_of h0 h5] at h1;exact Option.some.inj h1
  exact item_listR pl.isList h0 (!1) (by rw[hj];simpa using ew) fin hs
 .have hj:(i+(its.toArray.size:Int)).toNat=j:=by
   rw[seqIndex_neg (!1) h4] at h1;rw[aD,<- hl];exact Option.some.inj h1
  exact subscriptTail_builtinR (x:=w) pl.isList.typeIs slot_list_getitem.lookup
   (wpAny_getItem_list_neg (Q:=λr s'=>r=w/\EP X pins σ Q r s') pl.isList (!1) (by rw[aD]<;>omega) (!1) (by rw[hj];simpa using ew) ⟨rfl,fin⟩) hs
theorem Pg:KR X (Sj X.K):=by
 intro value slice pins s σ H x y v u Q I rx ry h hs;obtain⟨p,xs,i,z,rfl,rfl,hq,he,q⟩:=h;cases rx;obtain⟨t,rfl⟩:=ry;obtain⟨its,r,pl,hz⟩:=I.tuple hq;obtain⟨j,h1,h2,h3,h4,h5⟩:=Ep he;obtain⟨w,ew,oh⟩:=r.get h2;have hl:=r.length;have hn:=zj;have fin:EP X pins σ Q w s:=⟨z,H,I,oh,q⟩
 exact subscriptTail_builtinR (x:=w) pl.typeIs slot_tuple_getitem.lookup
  (getItem_tuple (j:=j) (Q:=λr s'=>r=w/\EP X pins σ Q r s') pl (!1) (!1) (by rw[aD,<- hl];exact h1) (by simpa using ew) ⟨rfl,fin⟩) hs
theorem CW (its:List ah)(n j:Nat)(u:ah):Obj.mapSeq (·.setIfInBounds j u) { cls:=.type "list",data:=.seq its.toArray n }={ cls:=.type "list",data:=.seq (its.set j u).toArray n }:=by
 simp[Obj.mapSeq]
theorem Inv.lst (I:Inv X pins σ H s)(h:H p=some (.lst xs)) :
  ∃(its:List ah) (n:Nat),eS xs its/\s.heap.get? p=some { cls:=.type "list",data:=.seq its.toArray n }/\xs.length<=aC:=by
 obtain⟨z,its,n,r,e⟩:=I.hok p _ h;exact⟨its,n,r,e,z⟩
theorem Inv.Ph {pins:List (!19)}{σ:St}{H:Hp}{s:aA}{p:Addr}{xs ys:List V}{its its':List ah}{n n':Nat}{f:Obj->Obj}(I:Inv X pins σ H s)(h:H p=some (.lst xs))
  (ho:s.heap.get? p=some { cls:=.type "list",data:=.seq its.toArray n }) (hf:f { cls:=.type "list",data:=.seq its.toArray n }={ cls:=.type "list",data:=.seq its'.toArray n' }) (r:eS ys its') (hz:ys.length<=aC) (t:Nat) :
  Inv X pins σ (fz H p (.lst ys)) { s with heap:=s.heap.update p f,toks:=t }:=by
 have e:(s.heap.update p f).get? p=some { cls:=.type "list",data:=.seq its'.toArray n' }:=by
  rw[ba f ho (by rw[hf]<;>rfl),hf]
 refine I.write (x:=p) (e:=p) (by rw[h];trivial) (.inl rfl) (λb u hb q=>(aO _ _ (Ne.symm hb)).trans q) ⟨_,e⟩ ?_;exact⟨hz,its',n',r,e⟩
noncomputable def Sk:V->V->V->Hp->(Hp->Prop)->Prop:=λo i v H Q=>∃p xs k j,o=.ref p/\i=.int k/\H p=some (.lst xs)/\CV xs.length k=some j/\Q (fz H p (.lst (xs.set j v)))
theorem qW:OM X Sk:=by
 intro pins s σ H o i v ov iv u Q I ro ri rv h;obtain⟨p,xs,k,j,rfl,rfl,hp,hj,q⟩:=h;cases ro;obtain⟨t,rfl⟩:=ri;obtain⟨its,n,r,ho,hz⟩:=I.lst hp;obtain⟨h1,h2,h3,h4⟩:=Eo hj;have hl:=r.length;have hn:=zj
 have I':Inv X pins σ (fz H p (.lst (xs.set j v))) { s with heap:=s.heap.update p (Obj.mapSeq (·.setIfInBounds j u)) } :=
  I.Ph hp ho (CW its n j u) (r.set rv j) (by rw[aZ];exact hz) s.toks
 by_cases h0:0<=k
 .have hk:k.toNat=j:=by
   rw[seqIndex_of h0 h4] at h1;exact Option.some.inj h1
  exact W.ki_setAt ho h0 (!1) (by rw[aD,<- hl];exact h4) (by rw[hk];exact⟨_,I',q⟩)
 .have hk:(k+(its.toArray.size:Int)).toNat=j:=by
   rw[seqIndex_neg (!1) h3] at h1;rw[aD,<- hl];exact Option.some.inj h1
  exact W.ki_setBack ho (!1) (by rw[aD,<- hl];exact h3) (!1) (by rw[hk];exact⟨_,I',q⟩)
theorem zm (lo hi:Option Int)(n:Nat):(sliceBounds lo hi none n).1=((HT.iy n 0 lo:Nat):Int)/\(sliceBounds lo hi none n).2.1=((HT.iy n n hi:Nat):Int)/\(sliceBounds lo hi none n).2.2=1:=by
 refine⟨?_,?_,rfl⟩
 .cases lo with
  | none=>simp[sliceBounds,HT.iy]
  | some i =>
   simp only[sliceBounds,HT.iy,Option.getD_none,show (1:Int) > 0 by decide,if_true];by_cases h:i<0
   .simp only[h,if_true]<;>omega
   .simp only[h,if_false]<;>omega
 .cases hi with
  | none=>simp[sliceBounds,HT.iy]
  | some i =>
   simp only[sliceBounds,HT.iy,Option.getD_none,show (1:Int) > 0 by decide,if_true];by_cases h:i<0
   .simp only[h,if_true]<;>omega
   .simp only[h,if_false]<;>omega
theorem wZ (its:List ah)(lo hi:Option Int):slicePick its.toArray lo hi none=((its.drop (HT.iy its.length 0 lo)).take (HT.iy its.length its.length hi - HT.iy its.length 0 lo)).toArray:=by
 obtain⟨h1,h2,h3⟩:=zm lo hi its.toArray.size;unfold slicePick;rw[h1,h2,h3];simp only[sliceRange_one,pick_run,aD]<;>rfl
noncomputable def Sl (K:W.Frag):V->Option Int->Option Int->Hp->VK->Prop:=λx lo hi H Q=>∃a xs,x=.ref a/\gx K H a xs/\∀p,H p=none->Q (.ref p) (fz H p (.lst (m7 xs lo hi)))
theorem LA:KQ X (Sl X.K):=by
 intro pins s σ H x v vl vu lo hi sl Q I rx hs pl pu h;obtain⟨a,xs,rfl,hx,q⟩:=h;cases rx;obtain⟨its,r,ht,hz⟩:=I.list hx;have hlen:=r.length;refine⟨"list",_,slot_list_getitem.lookup,ht.isList.typeIs,?_⟩;refine wpAny_getItem_list_slice ht.isList hs pl pu .none (!4) ?_ (by rw[aD]<;>omega);rw[wZ,<- hlen];refine⟨.ref s.heap.objs.size,_,I.laid (t':=s.toks) (o:=.lst (m7 xs lo hi)) (λb ob q=>aj _ q) (aw _) ?_,rfl,q _ (!34)⟩;exact⟨bq (tD xs lo hi) hz,_,0,(r.drop (HT.iy xs.length 0 lo)).take (HT.iy xs.length xs.length hi - HT.iy xs.length 0 lo),aB _ rfl⟩
theorem zo:gL X (.builtin "len") (λxs H Q=>∃p ys,xs=[.ref p]/\(gx X.K H p ys\/jt X.K H p ys)/\Q (.int ys.length) H):=by
 (intro pins s σ H xs us Q I r h);obtain⟨p,ys,rfl,hq,q⟩:=h;obtain⟨u,rfl,rx⟩:=vals1 r;cases rx;have hn:=zj;rcases hq with hq | hq
 .obtain⟨its,r',pl,hz⟩:=I.list hq
  have hlen:=r'.length;exact Calls.call_len_list pl.isList (by simp only[aD]<;>omega) ⟨.int ys.length,H,I.tok _,⟨s.toks+1,by rw[aD,hlen]⟩,q⟩
 .obtain⟨its,r',pl,hz⟩:=I.tuple hq
  have hlen:=r'.length;exact len_tuple pl (by simp only[aD]<;>omega) ⟨.int ys.length,H,I.tok _,⟨s.toks+1,by rw[aD,hlen]⟩,q⟩
theorem zp:gL X (.type "list") (λxs H Q=>∃p ys,xs=[.ref p]/\(gx X.K H p ys\/jt X.K H p ys)/\∀l,H l=none->Q (.ref l) (fz H l (.lst ys))):=by
 (intro pins s σ H xs us Q I r h);obtain⟨p,ys,rfl,hq,q⟩:=h;obtain⟨u,rfl,rx⟩:=vals1 r;cases rx
 have fin:∀(its:List ah),eS ys its->ys.length<=aC->∀(h':Heap) (c':Nat),(∀b o',s.heap.get? b=some o'->h'.get? b=some o') ->
   h'.get? s.heap.objs.size=some { cls:=.type "list",dict:=none,data:=.seq its.toArray c',slots:=#[] }->EP X pins σ Q (!14) { s with heap:=h' }:=λits r' hz h' c' kp e =>
  ⟨.ref s.heap.objs.size,_,I.laid (t':=s.toks) kp (aw _) (show gT X.prog X.w _ h' _ (.lst ys) from ⟨hz,its,c',r',e⟩),rfl,q _ (!34)⟩
 rcases hq with hq | hq
 .obtain⟨its,r',pl,hz⟩:=I.list hq
  have hlen:=r'.length;obtain⟨o,ho,hc,n,hd⟩:=pl.isList;exact call_list_seq p (.inl rfl) ho hc hd (λh' c' kp e=>fin its r' hz h' c' kp e) (by simp only[aD]<;>omega)
 .obtain⟨its,r',pl,hz⟩:=I.tuple hq
  have hlen:=r'.length;obtain⟨o,ho,hc,n,hd⟩:=pl;exact call_list_seq p (.inr rfl) ho hc hd (λh' c' kp e=>fin its r' hz h' c' kp e) (by simp only[aD]<;>omega)
theorem w4:gL X (.type "tuple") (λxs H Q=>∃p ys,xs=[.ref p]/\((gx X.K H p ys/\∀l,H l=none->Q (.ref l) (fz H l (.tup ys)))\/(jt X.K H p ys/\Q (.ref p) H))):=by
 (intro pins s σ H xs us Q I r h);obtain⟨p,ys,rfl,h⟩:=h;obtain⟨u,rfl,rx⟩:=vals1 r;cases rx;rcases h with⟨hq,q⟩ | ⟨hq,q⟩
 .obtain⟨its,r',pl,hz⟩:=I.list hq
  have hlen:=r'.length;refine call_tuple_list pl.isList (λh' kp=>?_) (by simp only[aD]<;>omega);have I1:Inv X pins σ H { s with heap:=h' }:=I.kept (t':=s.toks) kp
  have I2:Inv X pins σ (fz H h'.objs.size (.tup ys)) { s with heap:=h'.push { cls:=.type "tuple",data:=.seq its.toArray } } :=
   I1.laid (t':=s.toks) (λb o e=>aj _ e) (aw _) (show gT X.prog X.w _ _ _ (.tup ys) from ⟨hz,its,r',wX.new _ _⟩)
  exact⟨.ref h'.objs.size,_,I2,rfl,q _ (I1.hok.fresh (aw _))⟩
 .obtain⟨its,r',pl,hz⟩:=I.tuple hq
  exact call_tuple_same pl ⟨.ref p,H,I,rfl,q⟩
noncomputable def VH (K:W.Frag)(T:String)(x:V)(H:Hp):Prop:=match x with
 | .str _=>T = "str"
 | .int _=>T = "int"
 | .ref p=>(T = "list" /\ ∃xs,gx K H p xs)\/(T = "tuple" /\ ∃o,K.lookup p=some o/\o.cls=.type "tuple" /\ o.dict=none) \/
   (T = "dict" /\ ((∃kvs,H p=some (.dK kvs))\/∃kvs,H p=some (.dT kvs)))\/(T = "set" /\ ∃S n,H p=some (.set S n))
 | _=>False
theorem HS (I:Inv X pins σ H s)(r:RelV x v)(ty:VH X.K T x H) :
  s.TypeIs v T/\∀a,v=.ref a->∃ob,s.heap.get? a=some ob/\ob.dict=none:=by
 cases x with
 | str z =>
  obtain⟨t,rfl⟩:=r;cases (show T = "str" from ty);exact⟨typeIs_str s z t,λ_ e=>nomatch e⟩
 | int i =>
  obtain⟨t,rfl⟩:=r;cases (show T = "int" from ty);exact⟨typeIs_int s i t,λ_ e=>nomatch e⟩
 | ref p =>
  cases r;rcases ty with⟨rfl,xs,hq⟩ | ⟨rfl,o,hk,hc,hd⟩ | ⟨rfl,hk⟩ | ⟨rfl,S,n,hk⟩
  .obtain⟨its,_,pl,_⟩:=I.list hq
   refine⟨pl.isList.typeIs,λa e=>?_⟩;cases e;obtain⟨o,n,e,c,hd,_⟩:=pl;exact⟨o,e,hd⟩
  .refine⟨⟨o,I.Rh p o hk,hc⟩,λa e=>?_⟩
   cases e;exact⟨o,I.Rh _ o hk,hd⟩
  .have z:∃o,s.heap.get? p=some o/\o.ExactDict:=by
    rcases hk with⟨kvs,hk⟩ | ⟨kvs,hk⟩
    .obtain⟨_,_,_,_,o,_,_,e,ex,_⟩:=I.hok p _ hk
     exact⟨o,e,ex⟩
    .obtain⟨_,_,_,_,o,_,_,e,ex,_⟩:=I.hok p _ hk
     exact⟨o,e,ex⟩
   obtain⟨o,e,ex⟩:=z;refine⟨⟨o,e,ex.1⟩,λa e2=>?_⟩;cases e2;exact⟨o,e,ex.2.1⟩
  .obtain⟨o,_,_,_,e,ex,_⟩:=I.hok p _ hk
   refine⟨⟨o,e,ex.1⟩,λa e2=>?_⟩;cases e2;exact⟨o,e,ex.2.1⟩
 | _=>exact False.elim ty
noncomputable def Sm (K:W.Frag)(T:String)(r:V->List V->Hp->VK->Prop)(to:TE):TE:=λσ H Q=>to σ H λx H1=>VH K T x H1/\r x [] H1 Q
noncomputable def VI (K:W.Frag)(T:String)(r:V->List V->Hp->VK->Prop)(to:TE)(t:TA):TE:=λσ H Q=>to σ H λx H1=>VH K T x H1/\t σ H1 λxs H2=>r x xs H2 Q
variable {o e:Expr}{es:List Expr}{to:TE}{t:TA}{name:Str}{i6 hV:Pos}{T id:String}{r:V->List V->Hp->VK->Prop}
theorem Pj (pa:PlainAttrs T)(slot:Slot T name id)(HU:typeOf (.builtin id)=pure (.type "method_descriptor"))(hm:Hf X id r)(ho:PE X o to)
  (my:attributeBase o name X.env (eval o X.env)=eval o X.env:=by rfl) (mz:(i6.endLine == hV.line)=true:=by rfl):PE X (.Call (.Attribute o name i6) [] [] hV) (Sm X.K T r to):=by
 rw[10];refine wpAny_Call_method0_late my mz (gr (ho pins s σ H _ I h) λv s1 ⟨x,H1,I1,r1,ty,q1⟩=>?_);obtain⟨h1,h2⟩:=HS I1 r1 ty;exact⟨T,id,pa,slot,HU,h1,h2,Calls.callWith_builtin rfl (PySem.evalArgs_none (hm pins s1 σ H1 x [] v [] Q I1 r1 .nil q1))⟩
theorem Sn (pa:PlainAttrs T)(slot:Slot T name id)(HU:typeOf (.builtin id)=pure (.type "method_descriptor"))(hm:Hf X id r)(ho:PE X o to)(ha:PA X (e::es) t)
  (my:attributeBase o name X.env (eval o X.env)=eval o X.env:=by rfl)
  (VJ:((backTo hV (starEach (e::es) X.env)).all (λx=>!x.1) && (backToKw hV (keywordEach [] X.env)).all (λx=>x.1.isSome)
   && decide ((e::es).length+([]:List Keyword).length+(if ([]:List Keyword).isEmpty then 0 else 1)<30))=true:=by rfl)
  (mz:(i6.endLine == hV.line)=true:=by rfl) (hs:starEach (e::es) X.env=(false,eval e X.env)::starEach es X.env:=by rfl) (Pk:(backTo hV (starEach es X.env)).any (·.1)=false:=by rfl) :
  PE X (.Call (.Attribute o name i6) (e::es) [] hV) (VI X.K T r to t):=by
 rw[10];refine wpAny_Call_method_late my VJ mz rfl (gr (ho pins s σ H _ I h) λv s1 ⟨x,H1,I1,r1,ty,q1⟩=>?_);obtain⟨h1,h2⟩:=HS I1 r1 ty;refine⟨T,id,pa,slot,HU,h1,h2,?_⟩;have hA:=ha hV pins s1 σ H1 _ I1 q1;rw[hs] at hA ⊢;refine Calls.callWith_builtin (by show (false || (backTo hV (starEach es X.env)).any (·.1))=false;rw[Pk]<;>rfl) (Calls.evalArgs_plain ?_);exact gr hA λus s2 ⟨vs,H2,I2,r2,q2⟩=>hm pins s2 σ H2 x vs v us Q I2 r1 r2 q2
end
noncomputable def VL (X:Cx)(id:String)(r:V->List V->Hp->VK->Prop):Prop :=
 ∀(pins:List (!19)) (s:aA) (σ:St) (H:Hp) (x:V) (xs:List V) (v:ah) (us:List ah) (Q:VK),Inv X pins σ H s->RelV x v->eS xs us->r x xs H Q ->
  aH (!11) X.A (call (.builtin id) (v::us)) (EP X pins σ Q) X.xe s
theorem eS.one (h:eS [x] us):∃u,us=[u]/\RelV x u:=by
 cases h with
 | cons r t =>
  cases t;exact⟨_,rfl,r⟩
theorem eS.zero:∀{us:List ah},eS [] us->us=[]
 | _,.nil=>rfl
theorem eS.rep (h:eS xs us):∀k:Nat,eS (List.replicate k xs).flatten (List.replicate k us).flatten
 | 0=>.nil
 | k+1=>by
  rw[aE,aE,cD,cD];exact eS.append h (eS.rep h k)
theorem foldl_rep (its:List ah):∀(k:Nat) (acc:List ah),
  dm (λx1 x2=>x1++x2) acc.toArray (List.replicate k its.toArray)=(acc++(List.replicate k its).flatten).toArray
 | 0,acc=>by simp
 | k+1,acc=>by
  have e:acc.toArray++its.toArray=(acc++its).toArray:=by simp
  have e2:(acc++its)++(List.replicate k its).flatten=acc++(List.replicate (k+1) its).flatten:=by
   rw[aE,cD,bu]
  rw[<- e2,<- foldl_rep its k (acc++its),<- e,aE,ck]
section
theorem Inv.Pl {its its':List ah}{n:Nat}{f:Array ah->Array ah}{t':Nat}(I:Inv X pins σ H s)(hH:H l=some (.lst xs))
  (e:s.heap.get? l=some { cls:=.type "list",data:=.seq its.toArray n }) (hf:f its.toArray=its'.toArray) (hv:eS ys its') (hz:ys.length<=aC) :
  Inv X pins σ (fz H l (.lst ys)) { s with heap:=s.heap.update l (Obj.mapSeq f),toks:=t' }:=by
 have q:=PySem.IsL.update e f;rw[hf] at q;refine I.write (x:=l) (e:=l) (by rw[hH];exact trivial) (.inl rfl) (λb' u hb hu=>(aO s.heap (Obj.mapSeq f) (Ne.symm hb)).trans hu) ⟨_,q⟩ ?_;exact⟨hz,its',_,hv,q⟩
theorem Inv.So (I:Inv X pins σ H s)(hv:eS ys its)(hz:ys.length<=aC) :
  Inv X pins σ (fz H s.heap.objs.size (.lst ys)) { s with heap:=s.heap.push { cls:=.type "list",data:=.seq its.toArray },toks:=t' } :=
 I.laid (λ_ _ q=>aj _ q) (aw _) ⟨hz,its,0,hv,aB _ rfl⟩
theorem Inv.fresh (I:Inv X pins σ H s):H s.heap.objs.size=none:=I.hok.fresh (aw _)
theorem Inv.CY (I:Inv X pins σ H s)(hH:H l=some (.lst xs)):xs.length<=aC/\∃(its:List ah) (n:Nat),eS xs its/\xs.length=its.length/\s.heap.get? l=some { cls:=.type "list",data:=.seq its.toArray n }:=by
 obtain⟨z,its,n,r,e⟩:=I.hok l _ hH;exact⟨z,its,n,r,r.length,e⟩
theorem u3 (h:n<=aC):Builtin.List.listTooLong n=false:=by
 unfold Builtin.List.listTooLong;exact decide_eq_false (!1)
end
section
variable {X:Cx}
noncomputable def LB:V->List V->Hp->VK->Prop:=λx vs H Q=>∃l xs y,x=.ref l/\vs=[y]/\H l=some (.lst xs)/\xs.length<aC/\Q .jm (fz H l (.lst (xs++[y])))
theorem FW:VL X "list.append" LB:=by
 intro pins s σ H x vs v us Q I rx rv h;obtain⟨l,xs,y,rfl,rfl,hH,hz,q⟩:=h;cases rx;obtain⟨u,rfl,ru⟩:=rv.one;obtain⟨z,its,n,r,hl,e⟩:=I.CY hH;refine call_meets F.slot_list_append ⟨_,e,rfl⟩ F.entry_list_append (F.args_list_append_2 _ _) (PySem.list_append l its.toArray n u (by rw[aD];omega)) ⟨e,?_⟩;refine⟨.jm,_,I.Pl (its':=its++[u]) hH e (!4) (r.append (.cons ru .nil)) ?_,rfl,q⟩;rw[aQ,bA];omega
noncomputable def LC:V->List V->Hp->VK->Prop:=λx vs H Q=>∃l b xs zs,x=.ref l/\vs=[.ref b]/\H l=some (.lst xs)/\H b=some (.lst zs)/\xs.length+zs.length<=aC/\Q .jm (fz H l (.lst (xs++zs)))
theorem FX:VL X "list.extend" LC:=by
 intro pins s σ H x vs v us Q I rx rv h;obtain⟨l,b,xs,zs,rfl,rfl,hH,hB,hz,q⟩:=h;cases rx;obtain⟨u,rfl,ru⟩:=rv.one;cases ru;obtain⟨z,its,n,r,hl,e⟩:=I.CY hH;obtain⟨z2,pI,n2,r2,zq,e2⟩:=I.CY hB;have hsz:its.toArray.size+pI.toArray.size<=aC:=by rw[aD,aD];omega
 have AV:¬ (!its.toArray.isEmpty && Builtin.List.listTooLong (its.toArray.size+pI.toArray.size))=true:=by
  rw[u3 hsz,Bool.and_false];exact bg
 refine call_meets F.slot_list_extend ⟨_,e,rfl⟩ F.entry_list_extend (F.args_list_extend_2 _ _)
  (AutoSeq1.list_extend_list_list_0 l its.toArray n b pI.toArray n2 AV (by rw[aD];omega) (!1)) ⟨e,e2,?_⟩
 refine⟨.jm,_,I.Pl (its':=its++pI) hH e (!4) (r.append r2) ?_,rfl,q⟩;rw[aQ];omega
noncomputable def VM:R2:=λx y H Q=>∃l b xs zs,x=.ref l/\y=.ref b/\H l=some (.lst xs)/\H b=some (.lst zs)/\xs.length+zs.length<=aC/\∀p,H p=none->Q (.ref p) (fz H p (.lst (xs++zs)))
theorem Pm:lY X (binaryOp .Add) VM:=by
 (intro pins s σ H x y v u Q I rx ry h);obtain⟨l,b,xs,zs,rfl,rfl,hH,hB,hz,q⟩:=h;cases rx;cases ry;obtain⟨z,its,n,r,hl,e⟩:=I.CY hH;obtain⟨z2,pI,n2,r2,zq,e2⟩:=I.CY hB;refine PySem.P.add_list e e2 ?_ (by rw[aD,aD];omega);have ea:its.toArray++pI.toArray=(its++pI).toArray:=by simp
 rw[ea];exact⟨.ref _,_,I.So (t':=s.toks) (r.append r2) (by rw[aQ];omega),rfl,q _ I.fresh⟩
noncomputable def VN:R2:=λx y H Q=>∃l k xs,x=.ref l/\y=.int k/\H l=some (.lst xs)/\-(2 ^ 63)<=k/\k<2 ^ 63/\xs.length * k.toNat<=aC /\
 ∀p,H p=none->Q (.ref p) (fz H p (.lst (List.replicate k.toNat xs).flatten))
theorem Er {α:Type}(xs:List α)(k:Nat):(List.replicate k xs).flatten.length=k * xs.length:=by
 induction k with
 | zero=>simp
 | succ k ih=>rw[aE,cD,aQ,ih,Nat.succ_mul,Nat.add_comm]
theorem HV:lY X (binaryOp .Mult) VN:=by
 (intro pins s σ H x y v u Q I rx ry h);obtain⟨l,k,xs,rfl,rfl,hH,h1,h2,hz,q⟩:=h;cases rx;obtain⟨t,rfl⟩:=ry;obtain⟨z,its,n,r,hl,e⟩:=I.CY hH;have hlen:its.toArray.size * k.toNat<=aC:=by rw[aD,<- hl];exact hz
 have VO:¬ its.toArray.size * k.toNat > (2 ^ 63 - 1) / 8:=by
  have:(aC:Nat)<=(2 ^ 63 - 1) / 8:=by decide
  omega
 have VP:¬ (!Builtin.List.listFitsIndex k)=true:=by
  rw[fitsIndex_both h1 h2];exact bg
 have AV:¬ Builtin.List.listTooLong (its.toArray.size * k.toNat)=true:=by
  rw[u3 hlen];exact bg
 have HW:dm (λx1 x2=>x1++x2) #[] (List.replicate (if its.toArray.isEmpty=true then 0 else k.toNat) its.toArray)=(List.replicate k.toNat its).flatten.toArray:=by
  have f0:∀m:Nat,dm (λx1 x2=>x1++x2) #[] (List.replicate m its.toArray)=(List.replicate m its).flatten.toArray:=λm=>by
   have:=foldl_rep its m [];rw[ay] at this;exact this
  rw[f0]
  cases its with
  | nil=>simp
  | cons a r'=>rw[if_neg (!4)]
 refine wpAny_binaryOp_repeat_ref (T := "list") (U := "int") (!2) ⟨_,e,rfl⟩ (λs'=>typeIs_int s' k t) noFill_list_mul F.fills_int_mul F.slot_int_rmul repeat_list F.slot_int_index.lookup
  (call_meets F.slot_int_rmul (typeIs_int s k t) F.entry_int_rmul (F.args_int_rmul_2 _ _) (int___rmul___int_list k t l its.toArray n)
   ⟨e,rfl,⟨_,e,rfl⟩,call_meets F.slot_list_mul ⟨_,e,rfl⟩ F.entry_list_mul (F.args_list_mul_2 _ _) (AutoListH.list___mul___list_int_3 l its.toArray n k t VP VO AV) ⟨e,?_⟩⟩)
 rw[HW];exact⟨.ref _,_,I.So (t':=s.toks) (r.rep k.toNat) (by rw[Er,Nat.mul_comm];exact hz),rfl,q _ I.fresh⟩
end
end L2
namespace Att
open PySem PySem.W PySem.Calls PyProof.Rows
theorem tQ:∀(ns:List Int) (vs:List ah),WellAll P h vs (ns.map WData.int)->IntsAre vs ns:=by
 intro ns
 induction ns with
 | nil =>
  intro vs w;rw[aI] at w;cases w;exact .nil
 | cons n ns ih =>
  intro vs w;rw[ai] at w
  cases w with
  | cons a b =>
   cases a;exact .cons _ _ (ih _ b)
theorem FY {l:OpenLaw}{n:Nat}(hn:l.most=some n){P:Params}{h:Heap}{args:List WData}{Pn:List ah}
  (LD:l.row.toRowW.claim.pre args=true) (VQ:WellAll P h Pn args) :
  ∃a vs ns,Pn=[ah.ref a]/\args=[WData.list (ns.map WData.int)]/\h.get? a=some { cls:=.type "list",data:=.seq vs.toArray }/\IntsAre vs ns/\ns.length<=n:=by
 have Zs:WShape.hasAll [] args [.list .int]=true:=(pre_splitW LD).1;have hc:l.pre.holds [] { args:=args }=true:=(pre_splitW LD).2;obtain⟨d,r,rfl,h1,h2⟩:=hasAllW_cons Zs;obtain rfl:=hasAllW_nil h2;obtain⟨xs,rfl,h3⟩:=hasW_list h1;obtain⟨ns,rfl⟩:=items_int h3
 have hlen:ns.length<=n:=by
  unfold OpenLaw.pre at hc
  have h4:(WTm.not (.lt (.lit (.int (n:Int))) (.len (.arg 0)))).holds [] { args:=[.list (ns.map .int)] }=true:=by
   have h4:=(holds_andW hc).1;rw[hn] at h4;exact h4
  have h5:=condW_of h4 (w_not (w_lt w_lit (w_len_list (w_arg rfl))));rw[ar] at h5;refine Nat.le_of_not_lt λq=>?_;have q':(n:Int)<((ns.length:Nat):Int):=by omega
  first
   | (rw[decide_eq_true q'] at h5;exact absurd h5 (!2))
   | (simp at h5;omega)
 cases VQ with
 | cons w1 w2 =>
  cases w2
  cases w1 with
  | list ho u4=>exact⟨_,_,ns,rfl,rfl,ho,tQ ns _ u4,hlen⟩
theorem FZ (l:OpenLaw)(args:List WData):l.row.toRowW.claim.post args (!37) args=true :=
 postW_of (r:=l.row.toRowW) (X:=(true == true))
  (show WShape.has [] (!37) .bool=true by first | rfl | decide | simp[WShape.has,WShape.arms,WShape.armsAll])
  (show (WTm.eq .res (.lit (!37))).value [] { args:=args,res:=some (!37),after:=args }=some (.bool (true == true)) from w_eq_bool (w_res rfl) w_lit) rfl
theorem AW {l:OpenLaw}{n:Nat}{q:bf}{loose:List Str}{XP:(Str->Option ah)->Heap->Prop}{YP:World->Heap->Prop}{d:DefRec}
  (hn:l.most=some n) (Sq:d.params.defaults=[])
  (call:∀(w:World) (s₀ s₁:aA) (mg mb:Str->Option ah) (fa:Addr) (o:Obj) (pm cd wV:ah) (a:Addr) (vs:List ah) (ns:List Int),
   Ground q loose [] XP w s₀ mg mb s₁.heap->YP w s₁.heap ->
   s₁.heap.get? fa=some o->o.data=.func (docDef d.name d.params d.body d.scope pm cd wV)->s₁.heap.CodeRec cd d.name->mg d.name=some (.ref fa) ->
   s₁.heap.get? a=some { cls:=.type "list",data:=.seq vs.toArray }->IntsAre vs ns->ns.length<=n->s₁.gens=#[] ->
   codeAny (model l.prog w) callerA (.call (.ref fa) ⟨[.ref a],[]⟩) (λr s'=>r=.ok (.ret (!37))/\OldK s₁.heap s'.heap/\s'.os=s₁.os/\AllBare s'.gens) s₁) :
  WalkO q loose XP YP l.row.toRowW d [] (λf vs=>PySem.call f vs):=by
 intro w s₀ s₁ mg mb G Y fa o pm cd wV dV kV ho hd mY hD Sr hg args Pn as LD Zt hrd VQ hlo;obtain rfl:dV=.none:=Dflts.none hD Sq;obtain rfl:kV=.none:=Dflts.noKw hD;obtain⟨a,vs,ns,rfl,rfl,Po,HX,hlen⟩:=FY hn LD VQ;refine enter_call (codeAny_mono (call w s₀ s₁ mg mb fa o pm cd wV a vs ns G Y ho (fd_plain hd) mY Sr Po HX hlen hg) λr s' hq=>?_);obtain⟨rfl,h2,h3,h4⟩:=hq;exact⟨.inl ⟨.bool true,.bool true,[],rfl,λ_=>rfl,.bool true,FZ l _,λ_=>⟨List.Pairwise.nil,λ_ hm=>(nomatch hm)⟩⟩,h2,h3,h4⟩
end Att
namespace L2
open PySem PySem.Spec PyProof.Rows
theorem xU:∀{vs:List ah} {ns:List Int},IntsAre vs ns->eS (!21) vs
 | _,_,.nil=>.nil
 | _,_,.cons n t h=>.cons ⟨t,rfl⟩ (xU h)
noncomputable def Pp (H:Hp):Prop:=∀b,H b=none\/∃o xs,H b=some (.xJ o (.lst xs))
theorem HY {P:bf}{w:World}{K:W.Frag}{mg mb:Str->Option ah}{CX:HM}{k:Nat}{fa a:Addr}{fd:bE}{x:Str}{sp:Sp}{s₁:aA}{vs:List ah}{ns:List Int}
  (KX:K.In s₁.heap) (X2:s₁.heap.Ns bh mg) (hb:s₁.heap.Ns builtinsNs mb) (Zu:∀x:Str,x ≠ "__name__" -> mb x=bootBuiltins x) (VR:s₁.heap.NoLimit) (hg:s₁.gens=#[])
  (ha:s₁.heap.get? a=some { cls:=.type "list",data:=.seq vs.toArray }) (hi:IntsAre vs ns) (hl:ns.length<=aC) (hr:ik k callerA)
  (F:∀base:Heap,K.In base->base.Ns bh mg->og P w K mg base CX k fa fd [x] sp) (Ss:∀(s:aA) (u:ah),BindsTo s fd ⟨[u],[]⟩ [(x,u)])
  (Nj:∀H:Hp,Pp H->gx K H a (!21)->sp [.ref a] H (λv _=>v=.bl true) λ_ _ _=>False)
  (VS:∀H e s',CX [] H s₁ (λ_ _ _=>False) e s'->False) :
  codeAny (model P w) callerA (.call (.ref fa) ⟨[.ref a],[]⟩) (λr s'=>r=.ok (.ret (!37))/\OldK s₁.heap s'.heap/\s'.os=s₁.os/\AllBare s'.gens) s₁:=by
 have rv:=xU hi;have VT:=hi.length
 have Su:∀H:Hp,Pp H->gx K H a (!21)->oq P w H s₁.heap->(∀b,H b≠none->b=a)->(H a≠none->K.lookup a=none) ->
   codeAny (model P w) callerA (.call (.ref fa) ⟨[.ref a],[]⟩) (λr s'=>r=.ok (.ret (!37))/\OldK s₁.heap s'.heap/\s'.os=s₁.os/\AllBare s'.gens) s₁:=by
  intro H hO hS hok hA hK;have Es:∀{b:Addr} {o:Obj},s₁.heap.get? b=some o->H b=none->(zh s₁.heap H).get? b=some o:=λe n=>Ht e n
  have R':∀{b:Addr} {o:Obj} {es:Array DictEntry} {ep:Nat},s₁.heap.get? b=some o->o.data=.dict es ep->H b=none:=λ{b o es ep} e d=>by
   cases q:H b with
   | none=>rfl
   | some u =>
    have e':b=a:=hA b (by rw[q];simp);subst e';rw[ha] at e;cases e;have d':Data.seq vs.toArray _=Data.dict es ep:=d;cases d'
  have UZ:∀{b:Addr} {m:Str->Option ah},s₁.heap.Ns b m->(zh s₁.heap H).Ns b m:=λ{b m} ⟨o,es,ep,e,d,r⟩=>⟨o,es,ep,Es e (R' e d),d,r⟩
  have X3:K.In (zh s₁.heap H):=λb o e=>Es (KX b o e) (by
   cases q:H b with
   | none=>rfl
   | some u =>
    have e':b=a:=hA b (by rw[q];simp);subst e';rw[hK (by rw[q];simp)] at e;cases e)
  have hM:Mod K mg (zh s₁.heap H):=⟨X3,UZ X2,⟨mb,UZ hb,Zu⟩,let ⟨mc,h1,h2⟩:=VR;⟨mc,UZ h1,h2⟩⟩;have e0:Ls P w K mg (zh s₁.heap H) callerA [] s₁ H:=⟨rfl,hM,λb o e=>K4 e,Nat.le_of_eq (FI _ _),trivial,λb hb=>absurd (show b∈([]:List Addr) from hb) (!4),hok,.of_eq hg⟩;refine codeAny_mono ((F _ X3 (UZ X2)).run callerA [] s₁ H ⟨[.ref a],[]⟩ [.ref a] [.ref a] _ _ hr e0 (Ss s₁ (.ref a)) (.cons rfl .nil) (Nj H hO hS)) λr s' h=>?_
  cases r with
  | error e=>exact (VS H e s' h).elim
  | ok fl =>
   cases fl with
   | next=>exact False.elim h
   | brk=>exact False.elim h
   | cont=>exact False.elim h
   | ret u =>
    obtain⟨v,H',os,bare,un,VU,r',q⟩:=h;have q':v=.bl true:=q;subst q';obtain rfl:u=ah.bool true:=r';refine⟨rfl,OldK.of_keep λb o e=>?_,os,bare⟩
    cases q:H b with
    | none=>exact un.keep b o e q (by intro z;exact absurd (show b∈([]:List Addr) from z) (!4)) (!4)
    | some u =>
     rcases hO b with z | ⟨ob,xs,z⟩
     .rw[q] at z;cases z
     .have z2:=un.zg b ob _ z
      obtain⟨e1,_⟩:=hok b _ z;obtain⟨e2,_⟩:=VU b _ z2;rw[e] at e1;cases e1;exact e2
 cases hk:K.lookup a with
 | some o =>
  have e:=KX a o hk;rw[ha] at e;cases e;refine Su (λ_=>none) (λ_=>.inl rfl) (.inr ⟨_,vs.toArray,_,hk,rfl,rfl,rfl,by rw[aD,VT];exact hl,by simpa using rv⟩) (λb u z=>by have z':(none:Option HO)=some u:=z;cases z') (λb z=>absurd rfl z) λz=>absurd rfl z
 | none =>
  refine Su (λb=>if b=a then some (.xJ { cls:=.type "list",data:=.seq vs.toArray } (.lst (!21))) else none) (λb=>?_) (.inl (.inr ⟨{ cls:=.type "list",data:=.seq vs.toArray },if_pos rfl⟩)) (λb u z=>?_) (λb z=>?_) λ_=>hk
  .by_cases hb:b=a
   .exact .inr ⟨_,_,if_pos hb⟩
   .exact .inl (if_neg hb)
  .by_cases hb:b=a
   .have z':=(if_pos hb).symm.trans z
    cases z';subst hb;exact⟨ha,by rw[ar];exact hl,vs,_,rv,ha⟩
   .have z':=(if_neg hb).symm.trans z
    cases z'
  .by_cases hb:b=a
   .exact hb
   .exact absurd (if_neg hb) z
noncomputable abbrev KOf {K:W.Frag}{h:Heap}(_:K.In h):W.Frag:=K
theorem LF {l:W.OpenLaw}{n k:Nat}{q:bf}{loose:List Str}{XP:(Str->Option ah)->Heap->Prop}{YP:World->Heap->Prop}{d:DefRec}{K:Params->W.Frag}{CX:World->HM}{sp:World->Sp}{x:Str}
  (hn:l.most=some n) (Pq:n<=aC) (Sq:d.params.defaults=[]) (hr:ik k callerA)
  (hY:∀(w:World) (h:Heap),YP w h->(K w.params).In h)
  (F:∀(w:World) (mg:Str->Option ah) (fa:Addr) (h:Heap),(K w.params).In h->h.Ns bh mg->mg d.name=some (.ref fa) ->
   ∃fd:bE,(∀(s:aA) (u:ah),BindsTo s fd ⟨[u],[]⟩ [(x,u)]) /\
    ∀base:Heap,(K w.params).In base->base.Ns bh mg->og l.prog w (K w.params) mg base (CX w) k fa fd [x] (sp w))
  (Nj:∀(w:World) (H:Hp) (a:Addr) (ns:List Int),ns.length<=n->Pp H->gx (K w.params) H a (!21)->sp w [.ref a] H (λv _=>v=.bl true) λ_ _ _=>False)
  (VS:∀(w:World) (H:Hp) (s:aA) (e:ah) (s':aA),CX w [] H s (λ_ _ _=>False) e s'->False) :
  W.WalkO q loose XP YP l.row.toRowW d [] (λf vs=>PySem.call f vs):=by
 refine Att.AW hn Sq λw s₀ s₁ mg mb fa o pm cd wV a vs ns G Y ho hd mY Sr Po HX hlen hg=>?_;have KX:=hY w _ Y;obtain⟨fd,hb,hF⟩:=F w mg fa _ KX G.T.g Sr;exact HY KX G.T.g G.T.b G.T.builtins G.T.nolimit hg Po HX (bq hlen Pq) hr hF hb (λH hO hS=>Nj w H a ns hlen hO hS) λH e s'=>VS w H s₁ e s'
noncomputable def lF (s:Stmt):Arguments:=match s with
 | .FunctionDef _ a _ _ _ _ _ _ _ _=>a
 | _=>{ posonlyargs:=[],args:=[],vararg:=none,kwonlyargs:=[],kw_defaults:=[],kwarg:=none,defaults:=[] }
noncomputable def gK (s:Stmt):List Stmt:=match s with
 | .FunctionDef _ _ b _ _ _ _ _ _ _=>b
 | _=>[]
noncomputable def dM (s:Stmt):Scope:=match s with
 | .FunctionDef _ _ _ _ _ _ sc _ _ _=>sc
 | _=>{ kind:=.function,names:=[],isGenerator:=false,isCoroutine:=false }
noncomputable abbrev zt:HM:=λ_ _ _ _ _ _=>False
noncomputable abbrev E0:XK:=λ_ _ _=>False
theorem Sv:CS zt X E0:=λ_ _ _ _ _ _ _ h=>h.elim
structure AX (K:W.Frag) (x gu:Str) (st:Stmt) (f:Addr) (fd:bE):Prop where
 ex:∃(oc:ah) (od:Option Addr) (kV wV pm:ah) (an:Option Addr) (fH ct:ah) (Hd:Array (Option ah)),
  fd=W.fnOf x gu (lF st) (gK st) (dM st) .none kV wV pm an fH ct/\K.lookup f=some ⟨oc,od,.func fd,Hd⟩/\W.codeIn K fH gu=true
 kp:W.keepIn K (.ref f)=true
section
variable {P:bf}{w:World}{K:W.Frag}{mg:Str->Option ah}{base:Heap}
theorem AX.ok {x gu:Str}{st:Stmt}{f:Addr}{fd:bE}{N ps:List Str}{k:Nat}{sp:Sp}(F:AX K x gu st f fd)(S:gp N ps (dM st))(len:∀vs H Q E,sp vs H Q E->vs.length=ps.length)
  (AR:∀(fH:ah) (A:Around) (outer:List Env) (s:aA) (H:Hp) (vs:List V) (Q:VK) (E:XK),ik k (A.deeper (envOfC gu (dM st) s.heap.objs.size f fH))->sp vs H Q E ->
   ∃t,CJ (pT zt P w K mg base N gu (dM st) f fH A outer s H E).FJ (gK st) t/\t { nx:=λ_ H'=>Q .jm H',rt:=Q } (start N vs) H):og P w K mg base zt (k+1) f fd ps sp:=by
 obtain⟨oc,od,kV,wV,pm,an,fH,ct,Hd,rfl,lk,mY⟩:=F.ex;refine Sa lk mY S len λA outer s H vs Q E hr Nj=>?_;obtain⟨t,h,q⟩:=AR fH A outer s H vs Q E hr Nj;exact⟨t,h.FJ,q⟩
theorem AX.binds {x gu:Str}{st:Stmt}{f:Addr}{fd:bE}{ps:List Str}(F:AX K x gu st f fd)
  (h:∀(kV wV pm:ah) (an:Option Addr) (fH ct:ah) (us:List ah),us.length=ps.length->bindArgs (W.fnOf x gu (lF st) (gK st) (dM st) .none kV wV pm an fH ct) ⟨us,[]⟩=pure (ps.zip us)):Binds K fd ps []:=by
 obtain⟨oc,od,kV,wV,pm,an,fH,ct,Hd,rfl,lk,mY⟩:=F.ex;exact .all (h kV wV pm an fH ct)
theorem HZ {x gu:Str}{st:Stmt}{f:Addr}{oc:ah}{od an:Option Addr}{Hd:Array (Option ah)}{kV wV pm fH ct:ah}(l:K.lookup f=some ⟨oc,od,.func (W.fnOf x gu (lF st) (gK st) (dM st) .none kV wV pm an fH ct),Hd⟩)
  (c:W.codeIn K fH gu=true) (k:W.keepIn K (.ref f)=true):AX K x gu st f (W.fnOf x gu (lF st) (gK st) (dM st) .none kV wV pm an fH ct):=⟨⟨oc,od,kV,wV,pm,an,fH,ct,Hd,rfl,l,c⟩,k⟩
end
theorem Sw (hr:ik k A):A.units+1<cLine:=cA (Nat.add_le_add_left (by decide:1<=64) _) hr.units
section
theorem pv (i:Nat)(hN:X.N[i]? = some x:=by rfl)(hv:Az X.env.scope x:=by (first | exact Or.inl rfl | exact Or.inr (Or.inl rfl) | exact Or.inr (Or.inr rfl)))(hd:(x == (!17))=false:=by decide)
  (mY:(x == (!22))=false:=by decide):PE X (.Name x pos) (K7 i):=Hw hN hv hd mY
end
theorem LG {A B:Prop}(h:B):if false=true then A else B:=by
 rw[if_neg bg];exact h
theorem Pr {A B:Prop}(h:A):if true=true then A else B:=by
 rw[if_pos rfl];exact h
theorem Pt {c A B:Prop}[Decidable c](h1:c->A)(h2:¬ c->B):if c then A else B:=by
 by_cases h:c
 .rw[if_pos h]
  exact h1 h
 .rw[if_neg h]
  exact h2 h
structure eD (P:bf) (w:World) (K:W.Frag) (mg:Str->Option ah) (base:Heap) (k:Nat) (x:Str) (ps:List Str) (sp:Sp):Prop where
 ex:∃(f:Addr) (fd:bE),og P w K mg base zt k f fd ps sp/\mg x=some (.ref f)/\W.keepIn K (.ref f)=true/\Binds K fd ps []
noncomputable def u5 (sp:Sp)(t:TA):TE:=λσ H Q=>t σ H λvs H1=>sp vs H1 Q E0
theorem F0 (sp:Sp)(t:TA):HN sp [] E0 t=u5 sp t:=by
 funext σ H Q;unfold HN u5;congr;funext vs H1;rw[bY]
section
theorem H9 (D:eD X.prog X.w X.K X.mg X.base k x ps sp)(hr:ik k X.A)(ha:PA X (e::es) t)(hg:Gl X x:=by rfl)
  (tP:(x == (!17))=false:=by decide) (he:starEach (e::es) X.env=(false,eval e X.env)::starEach es X.env:=by rfl) (oo:(backTo pos (starEach es X.env)).any (·.1)=false:=by rfl) :
  PE X (.Call (!35) (e::es) [] pos) (u5 sp t):=by
 obtain⟨f,fd,F,hm,hk,hb⟩:=D.ex;rw[<- F0];exact Lu F hr hg hm hk hb .nil Sv ha tP he oo
end
noncomputable def pJ (cells:List (Str × Addr)):List (Str × aT)->List (Str × Addr)->List (Str × Addr)
 | [],acc=>acc
 | (n,k)::r,acc=>pJ cells r (if (k == aT.free)=true then (n,(cells.lookup n).getD 0)::acc else acc)
theorem xV (cells:List (Str × Addr))(n:Str)(k:aT)(r:List (Str × aT))(acc:List (Str × Addr)):pJ cells ((n,k)::r) acc=pJ cells r (if (k == aT.free)=true then (n,(cells.lookup n).getD 0)::acc else acc):=rfl
theorem AY:∀{l:List (Str × aT)} {acc:List (Str × Addr)},(x,c)∈pJ cells l acc->(x,c)∈acc\/((x,aT.free)∈l/\c=(cells.lookup x).getD 0)
 | [],acc,h=>.inl h
 | (n,k)::r,acc,h=>by
  unfold pJ at h;rcases AY h with h | ⟨h1,h2⟩
  .by_cases hk:(k == aT.free)=true
   .rw[if_pos hk] at h
    rcases ax.mp h with h | h
    .cases h
     have:k=aT.free:=by simpa using hk
     subst this;exact .inr ⟨ao,rfl⟩
    .exact .inl h
   .rw[if_neg hk] at h
    exact .inl h
  .exact .inr ⟨ag _ h1,h2⟩
theorem AZ:∀{l:List (Str × aT)} {acc:List (Str × Addr)},q∈acc->q∈pJ cells l acc
 | [],_,h=>h
 | (n,k)::r,acc,h=>by
  unfold pJ;refine AZ ?_;split
  .exact ag _ h
  .exact h
theorem Et:∀{l:List (Str × aT)} {acc:List (Str × Addr)},(x,aT.free)∈l->(x,(cells.lookup x).getD 0)∈pJ cells l acc
 | [],_,h=>by cases h
 | (n,k)::r,acc,h=>by
  unfold pJ;rcases ax.mp h with h | h
  .cases h
   refine AZ ?_;simp
  .exact Et h
theorem pU {β:Type}{x:Str}{b:β}:∀{l:List (Str × β)},(x,b)∈l->∃c,l.lookup x=some c
 | [],h=>by cases h
 | (n,k)::r,h=>by
  rw[bT]
  cases e:x == n with
  | true=>exact⟨k,rfl⟩
  | false =>
   rcases ax.mp h with h | h
   .cases h
    simp at e
   .exact pU h
theorem oz:∀(l:List (Str × aT)) (acc:List (Str × Addr)),(∀x∈l,x.2=aT.free->∃c,env.cells.lookup x.1=some c) ->
  (forIn l acc λx r=>if (x.2 == aT.free)=true then (do let c <- cellOf env x.1;pure (ForInStep.yield ((x.1,c)::r))) else pure (ForInStep.yield r):Sem (List (Str × Addr)))=pure (pJ env.cells l acc)
 | [],acc,_=>rfl
 | (n,k)::r,acc,h=>by
  rw[List.forIn_cons];by_cases hk:(k == aT.free)=true
  .obtain⟨c,hc⟩:=h (n,k) ao (by simpa using hk)
   have e:cellOf env n=pure c:=by unfold cellOf;rw[hc]
   show (if (k == aT.free)=true then _ else _) >>= _=_;rw[if_pos hk,e];show (forIn r ((n,c)::acc) _:Sem _)=_;rw[oz r _ λx hx=>h x (ag _ hx)];rw[xV,if_pos hk,show env.cells.lookup n=some c from hc];rfl
  .show (if (k == aT.free)=true then _ else _) >>= _=_
   rw[if_neg hk];show (forIn r acc _:Sem _)=_;rw[oz r _ λx hx=>h x (ag _ hx)];rw[xV,if_neg hk]
theorem w5 (h:∀x∈scope.names,x.2=aT.free->∃c,env.cells.lookup x.1=some c):closureFor scope env=pure (pJ env.cells scope.names []):=by
 have e:=oz scope.names [] h;unfold closureFor
 first
  | exact (congrArg (λm=>m >>= λr=>pure r) e).trans rfl
  | (simp only[bind_pure];exact e)
  | (rw[<- e];rfl)
noncomputable def fT (X:Cx)(sc:Scope)(N:List Str)(cl:List (Str × Addr))(C:Addr)(s₂:aA)(H₂:Hp)(fp:List Addr):Cx where
 prog:=X.prog
 w:=X.w
 K:=X.K
 mg:=X.mg
 base:=X.base
 A:=X.A
 N:=N
 s₀:=s₂
 H₀:=H₂
 env:=compEnvC sc cl C X.env
 outer:=X.stack
 stack:=X.stack
 ex:=fp
 fn:=λx=>sc.names.lookup x == some aT.cell
 calm:=true
 pn:=[]
 xe:=λ_ _=>False
noncomputable def iR (NX:List Str)(Pu sc:Scope)(N:List Str)(mp:List (Option Nat)):Bool :=
 sc.names.all (λp=>p.2 != aT.cell || sc.names.lookup p.1 == some aT.cell) && sc.names.all (λp=>p.2 != aT.local || sc.names.lookup p.1 == some aT.local) &&
 sc.names.all (λp=>p.2 != aT.free || (Pu.names.lookup p.1 == some aT.cell || Pu.names.lookup p.1 == some aT.free)) && sc.names.all (λp=>p.2 != aT.free || sc.names.lookup p.1 == some aT.free) &&
 mp.length == N.length && (N.zip mp).all (λq=>match q.2 with | none=>true | some i=>NX[i]? == some q.1 && sc.names.lookup q.1 == some aT.free)
noncomputable def oA (mp:List (Option Nat))(σ:St):St:=mp.map λo=>match o with | none=>none | some i=>(σ[i]?).join
structure u6 (NX:List Str) (Pu sc:Scope) (N:List Str) (mp:List (Option Nat)):Prop where
 cell:∀x∈sc.names,x.2=aT.cell->sc.names.lookup x.1=some aT.cell
 loc:∀x∈sc.names,x.2=aT.local->sc.names.lookup x.1=some aT.local
 free:∀x∈sc.names,x.2=aT.free->Pu.names.lookup x.1=some aT.cell\/Pu.names.lookup x.1=some aT.free
 fr:∀x∈sc.names,x.2=aT.free->sc.names.lookup x.1=some aT.free
 len:mp.length=N.length
 map:∀(j:Nat) (x:Str) (i:Nat),N[j]? = some x->mp[j]? = some (some i)->NX[i]? = some x/\sc.names.lookup x=some aT.free
theorem xW (h:iR NX Pu sc N mp=true):u6 NX Pu sc N mp:=by
 unfold iR at h;simp only[bn,dj] at h;obtain⟨⟨⟨⟨⟨h1,h2⟩,h3⟩,h6⟩,h4⟩,h5⟩:=h;have hl:mp.length=N.length:=by simpa using h4
 refine⟨λx hx e=>?_,λx hx e=>?_,λx hx e=>?_,λx hx e=>?_,hl,λj x i e1 e2=>?_⟩
 .have:=h1 x hx
  rw[e] at this;simpa using this
 .have:=h2 x hx
  rw[e] at this;simpa using this
 .have:=h3 x hx
  rw[e] at this;simpa using this
 .have:=h6 x hx
  rw[e] at this;simpa using this
 .have VW:j<N.length:=(aG.mp e1).1
  have X4:j<mp.length:=(aG.mp e2).1
  have hm:(x,some i)∈N.zip mp:=by
   refine bG (i:=j) ?_;rw[dc];exact⟨e1,e2⟩
  have:=h5 _ hm;simpa using this
theorem oB (h:(relabel sc env).names.lookup x=some k):∃k',(x,k')∈sc.names/\(k=k'\/(k'=aT.free/\k=aT.cell)):=by
 have hm:=PySem.mem_of_lookup h;obtain⟨⟨n,k'⟩,Pw,e⟩:=aU.mp hm;refine⟨k',?_⟩;dsimp only at e;split at e
 .rename_i hc
  cases e;rw[bn,bn] at hc;have:k'=aT.free:=by simpa using hc.1.1
  exact⟨Pw,.inr ⟨this,rfl⟩⟩
 .cases e
  exact⟨Pw,.inl rfl⟩
theorem qX (h:sc.names.lookup x=some aT.free):(relabel sc env).names.lookup x=some aT.cell\/(relabel sc env).names.lookup x=some aT.free:=by
 show (sc.names.map _).lookup x=_\/(sc.names.map _).lookup x=_;generalize sc.names=l at h
 induction l with
 | nil=>cases h
 | cons p r ih =>
  obtain⟨n,k⟩:=p;rw[ai];dsimp only;by_cases hc:(k == aT.free && env.scope.kind == .function && env.kindOf n == some .cell)=true
  .rw[if_pos hc,bT]
   cases e:x == n with
   | true=>exact .inl rfl
   | false =>
    rw[bT,e] at h;exact ih h
  .rw[if_neg hc,bT]
   cases e:x == n with
   | true =>
    rw[bT,e] at h;exact .inr h
   | false =>
    rw[bT,e] at h;exact ih h
theorem zu:∀{l:List (Str × aT)} {n:Nat} {acc:List (Str × Addr)},q∈acc->q∈cellsFrom n l acc
 | [],_,_,h=>h
 | (m,k)::r,n,acc,h=>by
  unfold cellsFrom;split
  .exact zu (ag _ h)
  .exact zu h
theorem Ia:∀{l:List (Str × aT)} {n:Nat} {acc:List (Str × Addr)},(x,aT.cell)∈l->∃c,(x,c)∈cellsFrom n l acc
 | (m,k)::r,n,acc,h=>by
  unfold cellsFrom;rcases ax.mp h with h | h
  .cases h
   exact⟨n,zu (n:=n+1) (l:=r) (acc:=(x,n)::acc) ao⟩
  .split
   .exact Ia h
   .exact Ia h
theorem CZ:∀{l:List (Str × aT)} {h:Heap} {n:Nat} {acc:List (Str × Addr)},h.objs.size=n->q∈cellsFrom n l acc->q∈acc\/(n<=q.2/\(q.1,aT.cell)∈l/\(pushCells h l).IsCell q.2 none)
 | [],_,_,_,_,h=>.inl h
 | (m,k)::r,hp,n,acc,hn,h=>by
  unfold cellsFrom at h;unfold pushCells;by_cases hk:(k == aT.cell)=true
  .rw[if_pos hk] at h ⊢
   have e:k=aT.cell:=by simpa using hk
   subst e;rcases CZ (h:=hp.push { cls:=.type "cell",data:=.cell none }) (by rw[bx,hn]) h with h | ⟨h1,h2,h3⟩
   .rcases ax.mp h with h | h
    .subst h
     subst hn;exact .inr ⟨aw _,ao,⟨_,pushCells_keeps _ _ _ _ (aB _ rfl),rfl⟩⟩
    .exact .inl h
   .exact .inr ⟨!1,ag _ h2,h3⟩
  .rw[if_neg hk] at h ⊢
   rcases CZ hn h with h | ⟨h1,h2,h3⟩
   .exact .inl h
   .exact .inr ⟨h1,ag _ h2,h3⟩
theorem C0:∀{l:List (Str × aT)} {n:Nat} {acc:List (Str × Addr)},(∀q∈acc,q.2<n)->(∀x y c,(x,c)∈acc->(y,c)∈acc->x=y)->∀x y c,(x,c)∈cellsFrom n l acc->(y,c)∈cellsFrom n l acc->x=y
 | [],_,_,_,h=>h
 | (m,k)::r,n,acc,hn,h=>by
  unfold cellsFrom;split
  .refine C0 (λq hq=>?_) λx y c hx hy=>?_
   .rcases ax.mp hq with e | e
    .subst e;exact cq _
    .exact bO (hn q e)
   .rcases ax.mp hx with e | e<;>rcases ax.mp hy with e' | e'
    .cases e;cases e';rfl
    .cases e;exact absurd (hn _ e') (bC _)
    .cases e';exact absurd (hn _ e) (bC _)
    .exact h x y c e e'
  .exact C0 hn h
theorem C1
  (hQ:(pushCells (s.heap.push { cls:=.type "dict",data:=.dict #[] }) scope.names).Ns s.heap.objs.size (λ_=>none) ->
   Q (newEnv scope s.heap.objs.size globals (cellsFrom (s.heap.objs.size+1) scope.names closure) gu none .none (some env) 0) { s with heap:=pushCells (s.heap.push { cls:=.type "dict",data:=.dict #[] }) scope.names }) :
  aH M A (newFunctionEnv scope globals closure [] gu none .none (some env)) Q E s:=by
 simp only[newFunctionEnv,c8,if_true];refine af (wpAny_alloc ?_);refine af (wpAny_layCells _ (λname kind cells=>by cases Zv:kind == aT.cell<;>simp[Zv]) _ _ _ _ ?_);rw[show ({ s with heap:=s.heap.push { cls:=.type "dict",data:=.dict #[] } }:aA).heap.objs.size=s.heap.objs.size+1 from bx ..];rw[List.forIn_nil];exact af (am (am (hQ ((Heap.Ns.new s.heap (.type "dict")).keeps (pushCells_keeps _ _)))))
structure Sx (X:Cx) (sc:Scope) (C:Addr) (h:Heap) (cl:List (Str × Addr)):Prop where
 has:∀x,(x,aT.cell)∈sc.names\/(x,aT.free)∈sc.names->∃c,cl.lookup x=some c
 sub:∀x c,cl.lookup x=some c->(X.env.cells.lookup x=some c/\(x,aT.free)∈sc.names)\/(C<c/\(x,aT.cell)∈sc.names/\h.IsCell c none)
 inj:∀x y c,cl.lookup x=some c->cl.lookup y=some c->x=y
section
variable {X:Cx}{sc:Scope}{N:List Str}{mp:List (Option Nat)}{pins:List (Addr × Obj)}{σ:St}{H:Hp}{s:aA}{fp:List Addr}{C:Addr}{h₁:Heap}{cl:List (Str × Addr)}
theorem A0 (O:u6 X.N X.env.scope sc N mp)(ok:X.Ok):∀x∈sc.names,x.2=aT.free->∃c,X.env.cells.lookup x.1=some c:=λx hx e=>ok.has x.1 (O.free x hx e)
theorem LH (O:u6 X.N X.env.scope sc N mp)(I:Inv X pins σ H s){hp:Heap}(hs:s.heap.objs.size<=hp.objs.size)(e:hp.objs.size=C+1):Sx X sc C (pushCells hp sc.names) (cellsFrom (C+1) sc.names (pJ X.env.cells sc.names [])):=by
 have ok:=I.ok
 have old:∀q∈pJ X.env.cells sc.names [],X.env.cells.lookup q.1=some q.2/\(q.1,aT.free)∈sc.names:=λq hq=>by
  rcases AY (x:=q.1) (c:=q.2) hq with h | ⟨h1,h2⟩
  .cases h
  .obtain⟨c',hc⟩:=A0 O ok _ h1 rfl
   have xM:X.env.cells.lookup q.1=some c':=hc;rw[xM] at h2;rw[xM,h2];exact⟨rfl,h1⟩
 have lt:∀q∈pJ X.env.cells sc.names [],q.2<C+1:=λq hq=>by
  obtain⟨v,o,ho,_⟩:=I.cell _ _ (old q hq).1;exact e ▸ aP (aF ho) hs
 refine⟨λx hx=>?_,λx c h=>?_,λx y c h1 h2=>C0 lt (λx y c h1 h2=>ok.inj x y c (old _ h1).1 (old _ h2).1) x y c (PySem.mem_of_lookup h1) (PySem.mem_of_lookup h2)⟩
 .rcases hx with h | h
  .obtain⟨c,hc⟩:=Ia (n:=C+1) (acc:=pJ X.env.cells sc.names []) h
   exact pU hc
  .exact pU (zu (Et h))
 .rcases CZ (h:=hp) e (PySem.mem_of_lookup h) with h | ⟨h1,h2,h3⟩
  .exact .inl (old _ h)
  .exact .inr ⟨h1,h2,h3⟩
theorem Ib (hc:X.calm=true)(O:u6 X.N X.env.scope sc N mp)(hk:sc.kind=.function)(I:Inv X pins σ H s)(hC:s.heap.objs.size<=C)(kp:∀b o,s.heap.get? b=some o->h₁.get? b=some o){m:Str->Option ah}
  (hn:h₁.Ns C m) (Nl:∀b∈fp,su X pins H b) (Px:∀b∈fp,b<s.heap.objs.size) {t':Nat} (L:Sx X sc C h₁ cl) :
  Inv (fT X sc N cl C s H fp) [] (oA mp σ) H { s with heap:=h₁,toks:=t' }:=by
 have ok:=I.ok
 have VX:∀b∈fp,b ∉ CO X.stack:=λb hb z=>by
  rcases ax.mp (I.uW b z) with e | e
  .exact (Nl b hb).2.1 e
  .exact (Nl b hb).2.2.1 e
 refine⟨⟨ok.mod,hk,ok.glob,ok.blt,hC,?_,?_,?_,λ_=>ok.hd hc,ok.frames,.inl rfl,?_,I.bs,bq ok.OA I.sz,?_,VX,I.stack,I.Eg⟩,rfl,I.bare,Un.kept kp,?_,?_,I.hok.fresh hC,?_,?_,I.hok.kept kp,?_⟩
 .exact L.inj
 .intro x hx
  have VY:(relabel sc X.env).names.lookup x=some .cell\/(relabel sc X.env).names.lookup x=some .free:=hx;refine L.has x ?_;rcases VY with h | h
  .obtain⟨k',hm,e⟩:=oB h
   rcases e with e | ⟨e,_⟩
   .subst e
    exact .inl hm
   .subst e
    exact .inr hm
  .obtain⟨k',hm,e⟩:=oB h
   rcases e with e | ⟨_,e⟩
   .subst e
    exact .inr hm
   .cases e
 .intro x c hf hc
  have Zw:sc.names.lookup x=some aT.cell:=by simpa [fT] using hf
  rcases L.sub x c hc with h | h
  .have:=O.fr _ h.2 rfl
   rw[Zw] at this;cases this
  .exact bq hC (cM h.1)
 .intro b hb
  refine⟨aR (aP (Px b hb) hC),λx c h=>?_⟩;rcases L.sub x c h with h | h
  .exact (Nl b hb).2.2.2.2.1 x c h.1
  .exact λz=>bC _ (cG (aP (Px b hb) hC) (z ▸ h.1))
 .intro b o e hb
  rcases (Nl b hb).2.2.2.1 with z | z
  .exact ok.Hu b o e z
  .exact absurd (aP (aF (ok.bs b o e).1) z) (bC _)
 .refine⟨m,hn,λj x v e1 e2 e3=>?_⟩
  have X5:N[j]? = some x:=e1
  have hj:j<mp.length:=by
   rw[O.len];exact (aG.mp X5).1
  obtain⟨i,hi,hv⟩:∃i,mp[j]? = some (some i)/\σ[i]? = some (some v):=by
   unfold oA at e2;rw[az] at e2
   cases e:mp[j]? with
   | none=>rw[e] at e2;cases e2
   | some o =>
    rw[e] at e2
    cases o with
    | none=>cases e2
    | some i =>
     refine⟨i,rfl,?_⟩;have Rl:(σ[i]?).join=some v:=Option.some.inj e2
     cases q:σ[i]? with
     | none=>rw[q] at Rl;cases Rl
     | some z =>
      rw[q] at Rl;have:z=some v:=Rl;rw[this]
  obtain⟨hx,hf⟩:=O.map j x i X5 hi;have VZ:=PySem.mem_of_lookup hf;obtain⟨mX,hnX,hl⟩:=I.loc
  have Zx:Az X.env.scope x:=by
   rcases O.free _ VZ rfl with z | z
   .exact .inr (.inl z)
   .exact .inr (.inr z)
  obtain⟨u,r,q⟩:=hl i x v hx hv Zx;refine⟨u,r,?_⟩;rcases q with⟨z,_⟩ | ⟨_,c,ec,Sy⟩
  .exfalso
   have z':X.env.scope.names.lookup x=some .local:=z;rcases O.free _ VZ rfl with y | y
   .rw[show X.env.scope.names.lookup x=some .cell from y] at z';cases z'
   .rw[show X.env.scope.names.lookup x=some .free from y] at z';cases z'
  .obtain⟨c',xM⟩:=L.has x (.inr VZ)
   have RI:X.env.cells.lookup x=some c':=by
    rcases L.sub x c' xM with h | h
    .exact h.1
    .have:=O.cell _ h.2.1 rfl
     rw[hf] at this;cases this
   rw[ec] at RI;cases RI;refine .inr ⟨qX hf,c,xM,?_⟩;obtain⟨o,ho,hd⟩:=Sy;exact⟨o,kp _ _ ho,hd⟩
 .intro x c h
  rcases L.sub x c h with h | h
  .obtain⟨v,o,ho,hd⟩:=I.cell x c h.1
   exact⟨v,o,kp _ _ ho,hd⟩
  .exact⟨none,h.2.2⟩
 .intro x c h
  rcases L.sub x c h with h | h
  .exact I.freeC x c h.1
  .exact I.hok.fresh (bq hC (cM h.1))
 .intro p hp
  cases hp
 .show (oA mp σ).length=N.length
  unfold oA;rw[ar,O.len]
theorem Inv.A1 {a:Addr}{o:HO}{ob:Obj}(I:Inv X pins σ H s)(ho:s.heap.get? a=some ob)(hn:H a=none)(hL:a≠X.env.locals)(h1:a∈X.ex\/X.s₀.heap.objs.size<=a)(h2:∀x c,X.env.cells.lookup x=some c->c≠a)
  (h3:∀p∈X.pn++pins,p.1≠a) (new:gT X.prog X.w (fz H a o) s.heap a o):Inv X pins σ (fz H a o) s:=by
 have Hv:∀b u,H b=some u->b≠a:=λb u e z=>by rw[z,hn] at e;cases e
 have:=I.step (g':=s.gens) (d':=s.drawn) (t':=s.toks) (h':=s.heap) (H':=fz H a o) (ch:=[a]) (λb hb=>?_) (λb o _ _ _ e _=>e) (λb o _ _ _ e _=>⟨o.slots,e⟩) (λb o hc _ n=>?_)
  (λb o _ e=>⟨o,e⟩) (λb xs e=>?_) (λb u xs e=>?_) (λb ps e=>⟨#[],?_⟩) (λm hm=>hm) (λb u e=>?_) I.bare
 .exact this
 .have e:b=a:=by simpa using hb
  subst e;exact⟨h1,hL,h2,h3⟩
 .rw[d6 (λz=>hc (by simp[z]))];exact n
 .rw[d6 (Hv _ _ e)];exact e
 .rw[d6 (Hv _ _ e)];exact e
 .rw[d6 (Hv _ _ e),e];simp
 .by_cases hb:b=a
  .subst hb;rw[dQ] at e;cases e;exact new
  .rw[d6 hb] at e
   exact (I.hok b u e).CN (λc v _ q=>q) (λc q=>by rw[d6 (Hv _ _ q)];exact q) λc xs q=>by rw[d6 (Hv _ _ q)];exact q
end
theorem zv (I:Nat->aA->Prop)
  (turn:∀n s,I n s->aH (!12) A (pyNext it) (λr s₁=>match r with
   | none=>R (.ok .next) s₁
   | some v=>aH (!12) A (letOwnedTupleGo target it v) (λ_ s'=>aH (!12) A (assign target env v) (λ_ s₂ =>
     aH (!12) A (forIn qY true λc r=>if r=true then do let ok <- isTrue c env (eval c env);pure (ForInStep.yield ok) else pure (ForInStep.yield r)) (λok s₃ =>
      if ok=true then aH (!12) A (eval sk env) (λx s₄ =>
       aH (!12) A (call (.builtin "list.append") [acc,x]) (λ_ s₅=>∃m,m<n/\I m s₅) (λ_ _=>False) s₄) (λ_ _=>False) s₃
      else ∃m,m<n/\I m s₃) (λ_ _=>False) s₂) (λ_ _=>False) s') (λ_ _=>False) s₁) (λ_ _=>False) s)
  (n:Nat) (h:I n s) :
  codeAny (!12) A (.compLoop (.ListComp sk [⟨target,iter,qY,0⟩] scope pos) 0 it acc env) R s:=by
 refine codeAny_loop rfl I (λn s hI=>?_) n h;show aH _ A ((compTurn (.ListComp sk [⟨target,iter,qY,0⟩] scope pos) 0 it acc env).onRaise (λx=>do noteFrame x env;theTreesLotGoes x)) _ _ s;refine wpAny_noted ?_;rw[compTurn_list];refine af (wpAny_standAt (af (cf (turn n s hI) (λr s₁ h₁=>?_) λ_ _ h'=>h'.elim)))
 cases r with
 | none=>exact am h₁
 | some v =>
  refine af (cf h₁ (λ_ s' h'=>af (cf h' (λ_ s₂ h₂=>af (cf h₂ (λok s₃ h₃=>?_) λ_ _ h'=>h'.elim)) λ_ _ h'=>h'.elim)) λ_ _ h'=>h'.elim)
  cases ok with
  | false=>exact am ⟨rfl,h₃⟩
  | true =>
   exact af (af (cf h₃ (λx s₄ h₄=>af (cf h₄ (λ_ s₅ h₅=>am (am ⟨rfl,h₅⟩)) λ_ _ h'=>h'.elim)) λ_ _ h'=>h'.elim))
noncomputable def Rm (X:Cx)(qY:List Expr)(t:TT):Prop :=
 ∀(pins:List (!19)) (s:aA) (σ:St) (H:Hp) (Q:Bool->Hp->Prop),Inv X pins σ H s->t σ H Q ->
  aH (!11) X.A (forIn qY true λc r=>if r=true then do let ok <- isTrue c X.env (eval c X.env);pure (ForInStep.yield ok) else pure (ForInStep.yield r)) (TP X pins σ Q) X.xe s
noncomputable def Nm:TT:=λ_ H Q=>Q true H
theorem LI:Rm X [] Nm:=λ_ _ _ H _ I h=>wpAny_tests_nil ⟨H,I,h⟩
theorem LJ (h:PT X c t):Rm X [c] t:=λpins s σ H Q I hw=>wpAny_tests_one (h pins s σ H Q I hw)
noncomputable abbrev TC:=St->Hp->(List V->Hp->Prop)->Prop
noncomputable def xX (wi:TI)(mp:List (Option Nat))(g:TG)(tc:TT)(te:TE):TC:=λσ H R=>wi σ H λJ H1=>∃W:Nat->Nat->List V->St->Hp->Prop,(∃m,W 0 m [] (oA mp σ) H1)/\∀i m ys σ' H',W i m ys σ' H' ->
 (J.stop i H'/\ys.length<=aC/\R ys H') \/
 (J.go i H'/\ys.length<aC/\∀x Rn,J.KH i H' x Rn->g x σ' Rn λσ2 H2=>tc σ2 H2 λb H3 =>
  if b=true then te σ2 H3 λy H4=>∃m',m' < m/\W (i+1) m' (ys++[y]) σ2 H4 else ∃m',m' < m/\W (i+1) m' ys σ2 H3)
section
theorem xY {use:Option (ah->Sem Unit)}{Q:ah->aA->Prop}(hc:X.calm=true)(hi:PI X tg iter wi)(hk:sc.kind=.function)(O:u6 X.N X.env.scope sc N mp)
  (hb:∀(cl:List (Str × Addr)) (C:Addr) (s₂:aA) (H₂:Hp) (fp:List Addr),PG (!15) tg g/\Rm (!15) qY tc/\PE (!15) sk te)
  {pins:List (!19)} {s:aA} {σ:St} {H:Hp} {R:List V->Hp->Prop} (I:Inv X pins σ H s) (h:xX wi mp g tc te σ H R)
  (hs:∀x,foldedSetIterable iter X.env x=pure x)
  (LK:∀(D C:Addr) (ys:List V) (H':Hp) (s':aA) (m:Str->Option ah),Inv X pins σ (fz H' D (.lst ys)) s'->s'.heap.Ns C m->su X pins (fz H' D (.lst ys)) C->H' D=none->R ys H' ->
   compPost (!11) X.A X.xe use Q (.ref D) C (.ok .next) s') :
  aH (!11) X.A (comprehension (.ListComp sk [⟨tg,iter,qY,0⟩] sc pos) sc X.env iQ (newList []) false (eval iter X.env) use) Q X.xe s:=by
 have ok:=I.ok;refine wpAny_comprehension_free (g:=⟨tg,iter,qY,0⟩) (gs:=[]) rfl hs (w5 (A0 O ok)) hk O.loc (gr (hi pins s σ H _ I h) λv s1 h1=>gr h1 λVz s2 h2=>?_);obtain⟨it,fp,tn,J,H2,e,I2,T,RY,f2,W,⟨m0,w0⟩,turn⟩:=h2;subst e;refine aY (C1 λzx=>?_);dsimp only at zx ⊢;generalize hP:s2.heap.push { cls:=.type "list",dict:=none,data:=.seq ([]:List ah).toArray }=P2 at zx ⊢;have X6:P2.objs.size=s2.heap.objs.size+1:=by rw[<- hP,bx]
 have V0:s2.heap.objs.size≠P2.objs.size:=by rw[X6];exact aR (cq _)
 have Ic:s2.heap.objs.size<=P2.objs.size:=by rw[X6];exact cV _
 have L:=LH (C:=P2.objs.size) O I2 (hp:=P2.push { cls:=.type "dict",data:=.dict #[] }) (by rw[bx];omega) (bx ..);generalize Nn:pushCells (P2.push { cls:=.type "dict",data:=.dict #[] }) sc.names=h₁ at zx L ⊢;generalize cellsFrom (P2.objs.size+1) sc.names (pJ X.env.cells sc.names [])=cl at L ⊢
 have old:∀b o,s2.heap.get? b=some o->h₁.get? b=some o:=λb o e =>
  Nn ▸ pushCells_keeps _ _ b o (aj _ (hP ▸ aj _ e))
 have zy:h₁.get? s2.heap.objs.size=some { cls:=.type "list",dict:=none,data:=.seq ([]:List ah).toArray } :=
  Nn ▸ pushCells_keeps _ _ _ _ (aj _ (hP ▸ aB _ rfl))
 have Px:∀b∈fp,b<s2.heap.objs.size:=λb hb=>by
  obtain⟨o,e,_⟩:=T.obj _ _ RY b hb;exact aF e
 have X7:s2.heap.objs.size ∉ fp:=λz=>bC _ (Px _ z)
 have I3:Inv (fT X sc N cl P2.objs.size s2 H2 fp) [] (oA mp σ) H2 { s2 with heap:=h₁ } :=
  Ib hc O hk I2 Ic old zx f2 Px L
 obtain⟨hg,ht,he⟩:=hb cl P2.objs.size s2 H2 fp;generalize hX:fT X sc N cl P2.objs.size s2 H2 fp=Y at I3 hg ht he;have yP:Y.prog=X.prog:=by rw[<- hX];rfl
 have yw:Y.w=X.w:=by rw[<- hX];rfl
 have yK:Y.K=X.K:=by rw[<- hX];rfl
 have yA:Y.A=X.A:=by rw[<- hX];rfl
 have yc:Y.calm=true:=by rw[<- hX];rfl
 have yx:Y.xe=λ_ _=>False:=by rw[<- hX];rfl
 have yl:Y.env.locals=P2.objs.size:=by rw[<- hX];rfl
 have X8:Y.ex=fp:=by rw[<- hX];rfl
 have V1:Y.s₀=s2:=by rw[<- hX];rfl
 have Zy:Y.H₀=H2:=by rw[<- hX];rfl
 have X9:Y.pn=[]:=by rw[<- hX];rfl
 have V2:Y.fs=CO X.stack:=by rw[<- hX];rfl
 have SA:Y.env=compEnvC sc cl P2.objs.size X.env:=by rw[<- hX];rfl
 have X':∀x c,Y.env.cells.lookup x=some c->X.env.cells.lookup x=some c\/P2.objs.size<c:=λx c e=>by
  rw[SA] at e;rcases L.sub x c e with h | h
  .exact .inl h.1
  .exact .inr h.1
 have Zz:∀x c,Y.env.cells.lookup x=some c->c≠s2.heap.objs.size:=λx c e z=>by
  rcases X' x c e with h | h
  .obtain⟨v,o,ho,_⟩:=I2.cell x c h
   exact absurd (aF ho) (by rw[z];exact bC _)
  .exact absurd (cA Ic h) (by rw[z];exact bC _)
 have VX:∀b∈fp,b ∉ CO X.stack:=λb hb z=>by
  rcases ax.mp (I2.uW b z) with e | e
  .exact (f2 b hb).2.1 e
  .exact (f2 b hb).2.2.1 e
 have ZA:s2.heap.objs.size ∉ CO X.stack:=λz=>by
  rcases ax.mp (I2.uW _ z) with e | e
  .exact absurd I2.lt (by rw[<- e];exact bC _)
  .exact I2.RD (aw _) e
 have Nl:∀{H':Hp} {o:Obj},(∀b∈fp,H' b=none)->∀b∈fp,su Y [(s2.heap.objs.size,o)] H' b:=λ{H' o} hn b hb=>by
  refine⟨hn b hb,?_,?_,?_,?_,?_⟩
  .rw[yl];exact aR (aP (Px b hb) Ic)
  .rw[V2];exact VX b hb
  .rw[X8];exact .inl hb
  .intro x c e
   rcases X' x c e with h | h
   .exact (f2 b hb).2.2.2.2.1 x c h
   .exact λz=>bC _ (cG (aP (Px b hb) Ic) (z ▸ h))
  .intro p hp
   rw[X9] at hp;have:p=(s2.heap.objs.size,o):=by simpa using hp
   subst this;exact λz=>X7 (by have z':s2.heap.objs.size=b:=z;rw[z'];exact hb)
 have SD:∀{σ':St} {H':Hp} {s':aA} {o:Obj},Inv Y [] σ' H' s'->s'.heap.get? s2.heap.objs.size=some o->(∀v,o.data≠.cell v)->H' s2.heap.objs.size=none->Inv Y [(s2.heap.objs.size,o)] σ' H' s' :=
  λ{σ' H' s' o} J e d hn=>J.uy λp hp=>by
   have:p=(s2.heap.objs.size,o):=by simpa using hp
   subst this;exact⟨e,hn,by rw[yl];exact V0,by rw[V2];exact ZA,d⟩
 have loop:∀s₃:aA,s₃={ s2 with heap:=h₁ } ->
   codeAny (!11) X.A (.compLoop (.ListComp sk [⟨tg,iter,qY,0⟩] sc pos) 0 (.ref it) (.ref s2.heap.objs.size) Y.env)
    (compPost (!11) X.A X.xe use Q (.ref s2.heap.objs.size) P2.objs.size) s₃:=by
  rintro s₃ rfl
  refine zv (λn s'=>∃i ys its c σ' H',Inv Y [(s2.heap.objs.size,({ cls:=.type "list",data:=.seq its.toArray c }:Obj))] σ' H' s'/\eS ys its/\tn i s'.heap/\(∀b∈fp,H' b=none)/\ys.length<=aC/\W i n ys σ' H') ?_ m0
   ⟨0,[],[],0,oA mp σ,H2,SD I3 zy (λv z=>by cases z) (I2.hok.fresh (aw _)),.nil,T.keep _ _ _ RY (λb _ o e=>old b o e),λb hb=>(f2 b hb).1,bZ _,w0⟩
  rintro n s3 ⟨i,ys,its,c,σ3,H3,J3,rv,HI,RZ,hz,w3⟩;have ZC:=J3.pin _ (be _ (ap.mpr rfl));rcases turn i n ys σ3 H3 w3 with⟨stop,hl,qn⟩ | ⟨go,hl,step⟩
  .have:=T.done Y yP yw yK yc i _ s3 σ3 H3 (λ_ _=>False) J3 (Nl RZ) HI stop
   rw[yA] at this;refine gr this λr s4 ⟨hr,J4⟩=>?_;subst hr;obtain⟨pe,pn,_,_,_⟩:=J4.pin _ (be _ (ap.mpr rfl));dsimp only at pe pn;have un:=J4.base;rw[V2,X8,V1,Zy] at un;have ZD:s4.os=s2.os:=by have:=J4.os;rw[V1] at this;exact this
   have SE:=J4.hok;rw[yP,yw] at SE;have IX:Inv X pins σ H3 s4:=I2.RJ ZD un SE J4.bare λb hb=>⟨(f2 b hb).2.2.2.1,(f2 b hb).2.1,(f2 b hb).2.2.2.2.1,(f2 b hb).2.2.2.2.2⟩;obtain⟨mC,Ya,_⟩:=J4.loc;rw[yl] at Ya;have dX:su X pins H3 s2.heap.objs.size:=I2.qT (aw _) pn;have IT:Inv X pins σ (fz H3 s2.heap.objs.size (.lst ys)) s4:=IX.A1 (o:=.lst ys) pe pn dX.2.1 dX.2.2.2.1 dX.2.2.2.2.1 dX.2.2.2.2.2 ⟨hl,its,c,rv,pe⟩;have cn:H3 P2.objs.size=none:=by have:=J4.free;rw[yl] at this;exact this
   have cX:su X pins (fz H3 s2.heap.objs.size (.lst ys)) P2.objs.size:=I2.qT Ic (by rw[d6 V0.symm];exact cn);exact LK _ _ ys H3 s4 mC IT Ya cX pn qn
  .have:=T.item Y yP yw yK yc i _ s3 σ3 H3 (λ_ _=>False) J3 (Nl RZ) HI go
   rw[yA] at this;refine gr this λr s4 ⟨u,hr,h4⟩=>?_;subst hr;refine gr h4 λ_ s5 ⟨x,H5,J5,r5,y5,OV,VA⟩=>?_;have ZE:=J5.pinned (Nl VA) (T.obj _ _ OV);have ga:=hg _ s5 σ3 H5 x u _ ZE r5 (step x H5 y5);rw[yP,yw,yA,yx] at ga;refine gr ga λ_ s6 ⟨σ6,H6,J6,q6⟩=>?_;have gt:=ht _ s6 σ6 H6 _ J6 q6;rw[yP,yw,yA,yx] at gt;refine gr gt λb s7 ⟨H7,J7,q7⟩=>?_
   have Np:∀{σ':St} {H':Hp} {s':aA},Inv Y ([(s2.heap.objs.size,({ cls:=.type "list",data:=.seq its.toArray c }:Obj))]++uY fp s5.heap) σ' H' s'->tn (i+1) s'.heap/\(∀b∈fp,H' b=none):=λ{σ' H' s'} J=>by
    refine⟨T.keep _ _ _ OV λb hb o e=>(J.pin (b,o) (be _ (be _ (mZ hb e)))).1,λb hb=>?_⟩;obtain⟨o,e,d⟩:=T.obj _ _ OV b hb;exact (J.pin (b,o) (be _ (be _ (mZ hb e)))).2.1
   cases b with
   | false =>
    have V3:∃m',m' < n/\W (i+1) m' ys σ6 H7:=by simpa using q7
    obtain⟨m',hm,w7⟩:=V3;obtain⟨t7,f7⟩:=Np J7;rw[if_neg bg];exact⟨m',hm,i+1,ys,its,c,σ6,H7,J7.ox,rv,t7,f7,hz,w7⟩
   | true =>
    rw[if_pos rfl];have V3:te σ6 H7 λy H4=>∃m',m' < n/\W (i+1) m' (ys++[y]) σ6 H4:=by simpa using q7
    have ge:=he _ s7 σ6 H7 _ J7 V3;rw[yP,yw,yA,yx] at ge;refine gr ge λu8 s8 ⟨y,H8,J8,r8,m',hm,w8⟩=>?_;obtain⟨t8,f8⟩:=Np J8;have Yb:=J8.ox;obtain⟨pe,pn,_,_,_⟩:=Yb.pin _ (be _ (ap.mpr rfl));dsimp only at pe pn;have hlen:=rv.length;refine call_meets F.slot_list_append ⟨_,pe,rfl⟩ F.entry_list_append (F.args_list_append_2 _ _) (PySem.list_append s2.heap.objs.size its.toArray c u8 (by rw[aD];omega)) ⟨pe,?_⟩;have qe:=PySem.IsL.update pe (λa=>a.push u8)
    have ZF:(s8.heap.update s2.heap.objs.size (Obj.mapSeq λa=>a.push u8)).get? s2.heap.objs.size=some { cls:=.type "list",data:=.seq (its++[u8]).toArray (c+1) }:=by
     simpa using qe
    have J9:Inv Y [] σ6 H8 { s8 with heap:=s8.heap.update s2.heap.objs.size (Obj.mapSeq λa=>a.push u8),toks:=s8.toks }:=by
     have J0:Inv Y [] σ6 H8 s8:=Yb.uy λp hp=>by cases hp
     refine J0.turned (it:=s2.heap.objs.size) (λb o hb e=>(aO s8.heap _ (Ne.symm hb)).trans e) pn (by rw[yl];exact V0) (.inr (by rw[V1];exact aw _)) Zz (λp hp=>?_);rw[X9] at hp;cases hp
    refine⟨m',hm,i+1,ys++[y],its++[u8],c+1,σ6,H8,SD J9 ZF (λv z=>by cases z) pn,rv.append (.cons r8 .nil),?_,f8,by rw[aQ,bA];omega,w8⟩;exact T.keep _ _ _ t8 λb hb o e=>(aO s8.heap _ (λ(z:s2.heap.objs.size=b)=>X7 (by rw[z];exact hb))).trans e
 have SF:compEnvC sc cl P2.objs.size X.env=Y.env:=SA.symm;show codeAny _ _ (.compStart _ 0 (.ref it) (.ref s2.heap.objs.size) (compEnvC sc cl P2.objs.size X.env)) _ _;rw[SF];exact codeAny_compStart_list (loop _ rfl) (T.self _ 0 _ _ _ (T.keep _ _ _ RY λb _ o e=>old b o e) (loop _ rfl))
noncomputable def Ie (t:TC):TE:=λσ H Q=>t σ H λys H'=>∀D,H' D=none->Q (.ref D) (fz H' D (.lst ys))
theorem LL (hc:X.calm=true)(hi:PI X tg iter wi)(hk:sc.kind=.function)(hm:iR X.N X.env.scope sc N mp=true)
  (hb:∀(cl:List (Str × Addr)) (C:Addr) (s₂:aA) (H₂:Hp) (fp:List Addr),PG (!15) tg g/\Rm (!15) qY tc/\PE (!15) sk te)
  (hs:∀x,foldedSetIterable iter X.env x=pure x:=by rw[31]):PE X (.ListComp sk [⟨tg,iter,qY,0⟩] sc pos) (Ie (xX wi mp g tc te)):=by
 rw[10];rw[eval_ListComp];refine xY (use:=none) hc hi hk (xW hm) hb I h hs λD C ys H' s' m I' hn f hD q=>?_;refine⟨m,hn,λh' pV=>?_⟩;obtain⟨f0,f1,_,f3,f4,f5⟩:=f;exact⟨.ref D,_,I'.turned (t':=s'.toks) (it:=C) (λb o hb e=>(pV.2 b hb).trans e) f0 f1 f3 f4 f5,rfl,q D hD⟩
noncomputable def Ig (i:Nat)(t:TC):TS:=λD σ H=>t σ H λys H'=>∀l,H' l=none->D.nx (σ.set i (some (.ref l))) (fz H' l (.lst ys))
theorem LM (hN:X.N.Nodup)(LN:X.N[i]? = some x)(hx:X.env.scope.names.lookup x=some .local)(hc:X.calm=true)(hi:PI X tg iter wi)(hk:sc.kind=.function)(hm:iR X.N X.env.scope sc N mp=true)
  (hb:∀(cl:List (Str × Addr)) (C:Addr) (s₂:aA) (H₂:Hp) (fp:List Addr),PG (!15) tg g/\Rm (!15) qY tc/\PE (!15) sk te)
  (SG:swapsWith (.ListComp sk [⟨tg,iter,qY,0⟩] sc pos) (some (.Name x py)) spos.line X.env=pure true:=by rfl)
  (hs:∀x,foldedSetIterable iter X.env x=pure x:=by rw[31]):PS X (.Assign [.Name x py] (.ListComp sk [⟨tg,iter,qY,0⟩] sc pos) spos) (Ig i (xX wi mp g tc te)):=by
 rw[22];rw[exec_Assign_Name_used _ _ _ _ SG];refine af (wpAny_standAt (af ?_));show aH _ X.A (do let _ <- comprehension (.ListComp sk [⟨tg,iter,qY,0⟩] sc pos) sc X.env _ (newList []) false (eval iter X.env) (some (assign (.Name x py) X.env))) _ _ s;refine af (gr (xY (use:=some (assign (.Name x py) X.env)) (Q:=λ_ s'=>SP X pins D .next s') hc hi hk (xW hm) hb I h hs λl C ys H' s' m I' hn f hD q=>?_) λ_ s' hq=>am (am hq));obtain⟨f0,f1,f2,f3,f4,f5⟩:=f;show aH _ _ (assign (.Name x py) X.env (.ref l)) _ _ s';refine wpAny_assign_Name (xK (v:=.ref l) I' hN LN (.inl hx) rfl (λRj ZG ⟨a,sb,ea⟩=>?_) (.inr hx))
 have ZH:C≠a:=by
  rcases ea with e | e
  .rw[e];exact f1
  .exact λz=>f4 x a e z.symm
 refine⟨m,hn.sameBut sb ZH,λh' pV=>?_⟩;exact⟨_,_,ZG.turned (t':=Rj.toks) (it:=C) (λb o hb e=>(pV.2 b hb).trans e) f0 f1 f3 f4 f5,q l hD⟩
end
noncomputable def KU:List (List Int × ae)->List V->List (Key × V)
 | p::kvs,x::xs=>(.inl (p.1.headD 0),x)::KU kvs xs
 | _,_=>[]
noncomputable def A2:List (List Int × ae)->List V->List (List Key × V)
 | p::kvs,x::xs=>(p.1.map .inl,x)::A2 kvs xs
 | _,_=>[]
noncomputable def pW (t:Bool)(kvs:List (List Int × ae))(xs:List V):HO:=match t with | true=>.dT (A2 kvs xs) | false=>.dK (KU kvs xs)
theorem qZ (h:some (HO.lst ys)=some (pW t kvs xs)):False:=by cases t<;>cases h
theorem Eu (h:some (HO.tup ys)=some (pW t kvs xs)):False:=by cases t<;>cases h
noncomputable def pO (t:Bool)(kvs:List (List Int × ae)):List (ae × ae):=(.bool t,.none)::kvs.map λp=>(.tuple (p.1.map .int),p.2)
noncomputable def f6 (t:Bool)(kvs:List (List Int × ae)):ae:=.dict (pO t kvs)
mutual
def eU (S:List Addr)(H:Hp):ae->V->Prop
 | .none,v=>v=.jm
 | .bool b,v=>v=.bl b
 | .int i,v=>v=.int i
 | .str x,v=>v=.str x
 | .tuple ds,v=>∃a xs,v=.ref a/\H a=some (.tup xs)/\dP S H ds xs
 | .list ds,v=>∃a xs,v=.ref a/\H a=some (.lst xs)/\a ∉ S/\dP S H ds xs
 | .dict l,v=>∃a t kvs xs,v=.ref a/\l=pO t kvs/\H a=some (pW t kvs xs)/\a ∉ S/\(t=false->∀p∈kvs,p.1.length=1)/\gS S H l (.jm::xs)
def dP (S:List Addr)(H:Hp):List ae->List V->Prop
 | [],xs=>xs=[]
 | d::ds,xs=>∃x r,xs=x::r/\eU S H d x/\dP S H ds r
def gS (S:List Addr)(H:Hp):List (ae × ae)->List V->Prop
 | [],xs=>xs=[]
 | p::l,xs=>∃x r,xs=x::r/\C2 S H p x/\gS S H l r
def C2 (S:List Addr)(H:Hp):ae × ae->V->Prop
 | (_,d),x=>eU S H d x
end
structure Ext (S:List Addr) (H H':Hp):Prop where
 keep:∀b o,b ∉ S->H b=some o->H' b=some o
 tup:∀b xs,H b=some (.tup xs)->H' b=some (.tup xs)
theorem Ext.refl (S:List Addr)(H:Hp):Ext S H H:=⟨λ_ _ _ e=>e,λ_ _ e=>e⟩
theorem Ext.trans (a:Ext S H H1)(b:Ext S H1 H2):Ext S H H2:=⟨λc o hc e=>b.keep c o hc (a.keep c o hc e),λc xs e=>b.tup c xs (a.tup c xs e)⟩
theorem Ext.mono (a:Ext S H H')(h:∀b∈S,b∈S'):Ext S' H H':=⟨λb o hb e=>a.keep b o (λz=>hb (h b z)) e,a.tup⟩
theorem Ext.new (h:H p=none):Ext S H (fz H p o):=⟨λb u _ e=>by rw[d6 (gj e h)];exact e,λb xs e=>by rw[d6 (gj e h)];exact e⟩
theorem Ext.set (hp:p∈S)(h:H p=some (.lst xs)):Ext S H (fz H p o) :=
 ⟨λb u hb e=>by rw[d6 (λ(z:b=p)=>hb (by rw[z];exact hp))];exact e,λb ys e=>by rw[d6 (λz=>by rw[z,h] at e;cases e)];exact e⟩
theorem Ext.V4 {S:List Addr}{H0 H:Hp}{p:Addr}{o:HO}{xs:List V}(a:Ext S H0 H)(h0:H0 p=none)(h:H p=some (.lst xs)):Ext S H0 (fz H p o) :=
 ⟨λb u hb e=>by rw[d6 (λz=>by rw[z,h0] at e;cases e)];exact a.keep b u hb e,λb ys e=>by rw[d6 (λz=>by rw[z,h0] at e;cases e)];exact a.tup b ys e⟩
theorem Ext.fresh (a:Ext S H0 H)(hp:p ∉ S)(h:H p=none):H0 p=none:=by
 cases e:H0 p with
 | none=>rfl
 | some o=>rw[a.keep p o hp e] at h;cases h
mutual
theorem eU.ext {S:List Addr}{H H':Hp}(x:Ext S H H'):∀{d:ae} {v:V},eU S H d v->eU S H' d v
 | .none,_,h=>h
 | .bool _,_,h=>h
 | .int _,_,h=>h
 | .str _,_,h=>h
 | .tuple ds,_,h=>by
  unfold eU at h ⊢;obtain⟨a,xs,e,ha,hr⟩:=h;exact⟨a,xs,e,x.tup a xs ha,dP.ext x hr⟩
 | .list ds,_,h=>by
  unfold eU at h ⊢;obtain⟨a,xs,e,ha,hs,hr⟩:=h;exact⟨a,xs,e,x.keep a _ hs ha,hs,dP.ext x hr⟩
 | .dict l,_,h=>by
  unfold eU at h ⊢;obtain⟨a,t,kvs,xs,e,el,ha,hs,hk,hr⟩:=h;exact⟨a,t,kvs,xs,e,el,x.keep a _ hs ha,hs,hk,gS.ext x hr⟩
theorem dP.ext {S:List Addr}{H H':Hp}(x:Ext S H H'):∀{ds:List ae} {vs:List V},dP S H ds vs->dP S H' ds vs
 | [],_,h=>h
 | d::ds,_,h=>by
  unfold dP at h ⊢;obtain⟨y,r,e,h1,h2⟩:=h;exact⟨y,r,e,eU.ext x h1,dP.ext x h2⟩
theorem gS.ext {S:List Addr}{H H':Hp}(x:Ext S H H'):∀{l:List (ae × ae)} {vs:List V},gS S H l vs->gS S H' l vs
 | [],_,h=>h
 | (_,d)::l,_,h=>by
  unfold gS C2 at h ⊢;obtain⟨y,r,e,h1,h2⟩:=h;exact⟨y,r,e,eU.ext x h1,gS.ext x h2⟩
end
mutual
theorem eU.less {S S':List Addr}{H:Hp}(x:∀b∈S',b∈S):∀{d:ae} {v:V},eU S H d v->eU S' H d v
 | .none,_,h=>h
 | .bool _,_,h=>h
 | .int _,_,h=>h
 | .str _,_,h=>h
 | .tuple ds,_,h=>by
  unfold eU at h ⊢;obtain⟨a,xs,e,ha,hr⟩:=h;exact⟨a,xs,e,ha,dP.less x hr⟩
 | .list ds,_,h=>by
  unfold eU at h ⊢;obtain⟨a,xs,e,ha,hs,hr⟩:=h;exact⟨a,xs,e,ha,λz=>hs (x a z),dP.less x hr⟩
 | .dict l,_,h=>by
  unfold eU at h ⊢;obtain⟨a,t,kvs,xs,e,el,ha,hs,hk,hr⟩:=h;exact⟨a,t,kvs,xs,e,el,ha,λz=>hs (x a z),hk,gS.less x hr⟩
theorem dP.less {S S':List Addr}{H:Hp}(x:∀b∈S',b∈S):∀{ds:List ae} {vs:List V},dP S H ds vs->dP S' H ds vs
 | [],_,h=>h
 | d::ds,_,h=>by
  unfold dP at h ⊢;obtain⟨y,r,e,h1,h2⟩:=h;exact⟨y,r,e,eU.less x h1,dP.less x h2⟩
theorem gS.less {S S':List Addr}{H:Hp}(x:∀b∈S',b∈S):∀{l:List (ae × ae)} {vs:List V},gS S H l vs->gS S' H l vs
 | [],_,h=>h
 | (_,d)::l,_,h=>by
  unfold gS C2 at h ⊢;obtain⟨y,r,e,h1,h2⟩:=h;exact⟨y,r,e,eU.less x h1,gS.less x h2⟩
end
section
theorem dP.nil:dP S H [] []:=by unfold dP;rfl
theorem dP.cons (h:eU S H d x)(t:dP S H ds xs):dP S H (d::ds) (x::xs):=by unfold dP;exact⟨x,xs,rfl,h,t⟩
theorem dP.of_cons (h:dP S H (d::ds) xs):∃x r,xs=x::r/\eU S H d x/\dP S H ds r:=by unfold dP at h;exact h
theorem dP.fI (h:dP S H [] xs):xs=[]:=by unfold dP at h;exact h
theorem dP.length:∀{ds:List ae} {xs:List V},dP S H ds xs->xs.length=ds.length
 | [],_,h=>by rw[h.fI];rfl
 | _::_,_,h=>by
  obtain⟨x,r,e,_,h2⟩:=h.of_cons;subst e;simp[h2.length]
theorem dP.get:∀{ds:List ae} {xs:List V} {i:Nat} {x:V},dP S H ds xs->xs[i]? = some x->∃d,ds[i]? = some d/\eU S H d x
 | [],_,i,x,h,e=>by rw[h.fI] at e;cases e
 | d::ds,_,0,x,h,e=>by
  obtain⟨y,r,e1,h1,h2⟩:=h.of_cons;subst e1;cases e;exact⟨d,rfl,h1⟩
 | d::ds,_,i+1,x,h,e=>by
  obtain⟨y,r,e1,h1,h2⟩:=h.of_cons;subst e1;obtain⟨d',q,h3⟩:=dP.get (i:=i) h2 (by simpa using e);exact⟨d',by simpa using q,h3⟩
theorem dP.at:∀{ds:List ae} {xs:List V} {i:Nat} {d:ae},dP S H ds xs->ds[i]? = some d->∃x,xs[i]? = some x/\eU S H d x
 | [],_,i,d,h,e=>by cases e
 | d::ds,_,0,d',h,e=>by
  obtain⟨y,r,e1,h1,h2⟩:=h.of_cons;subst e1;cases e;exact⟨y,rfl,h1⟩
 | d::ds,_,i+1,d',h,e=>by
  obtain⟨y,r,e1,h1,h2⟩:=h.of_cons;subst e1;obtain⟨x,q,h3⟩:=dP.at (i:=i) h2 (by simpa using e);exact⟨x,by simpa using q,h3⟩
theorem dP.append:∀{ds es:List ae} {xs ys:List V},dP S H ds xs->dP S H es ys->dP S H (ds++es) (xs++ys)
 | [],_,_,_,h,k=>by rw[h.fI];exact k
 | d::ds,_,_,_,h,k=>by
  obtain⟨y,r,e1,h1,h2⟩:=h.of_cons;subst e1;exact .cons h1 (dP.append h2 k)
theorem dP.take:∀{ds:List ae} {xs:List V} (n:Nat),dP S H ds xs->dP S H (ds.take n) (xs.take n)
 | _,_,0,_=>.nil
 | [],_,n+1,h=>by rw[h.fI];exact .nil
 | d::ds,_,n+1,h=>by
  obtain⟨y,r,e1,h1,h2⟩:=h.of_cons;subst e1;exact .cons h1 (dP.take n h2)
theorem dP.drop:∀{ds:List ae} {xs:List V} (n:Nat),dP S H ds xs->dP S H (ds.drop n) (xs.drop n)
 | _,_,0,h=>h
 | [],_,n+1,h=>by rw[h.fI];exact .nil
 | d::ds,_,n+1,h=>by
  obtain⟨y,r,e1,h1,h2⟩:=h.of_cons;subst e1;exact dP.drop n h2
theorem dP.ints:∀(ns:List Int),dP S H (ns.map ae.int) (!21)
 | []=>.nil
 | n::ns=>.cons (by unfold eU;rfl) (dP.ints ns)
theorem eU.tup (h:H a=some (.tup xs))(r:dP S H ds xs):eU S H (.tuple ds) (.ref a):=by unfold eU;exact⟨a,xs,rfl,h,r⟩
theorem eU.lst (h:H a=some (.lst xs))(hs:a ∉ S)(r:dP S H ds xs):eU S H (.list ds) (.ref a):=by unfold eU;exact⟨a,xs,rfl,h,hs,r⟩
theorem eU.int (i:Int):eU S H (.int i) (.int i):=by unfold eU;rfl
theorem eU.bl (b:Bool):eU S H (.bool b) (.bl b):=by unfold eU;rfl
theorem eU.jm:eU S H .none .jm:=by unfold eU;rfl
theorem eU.str (x:Str):eU S H (.str x) (.str x):=by unfold eU;rfl
theorem eU.fX (h:eU S H (.tuple ds) v):∃a xs,v=.ref a/\H a=some (.tup xs)/\dP S H ds xs:=by unfold eU at h;exact h
theorem eU.fA (h:eU S H (.list ds) v):∃a xs,v=.ref a/\H a=some (.lst xs)/\a ∉ S/\dP S H ds xs:=by unfold eU at h;exact h
theorem gS.F3:∀{l:List (ae × ae)} {xs:List V},gS S H l xs↔dP S H (l.map (·.2)) xs
 | [],xs=>by unfold gS;simp[dP]
 | (_,d)::l,xs=>by
  unfold gS C2;rw[ai,dP];exact⟨λ⟨x,r,e,h1,h2⟩=>⟨x,r,e,h1,gS.F3.mp h2⟩,λ⟨x,r,e,h1,h2⟩=>⟨x,r,e,h1,gS.F3.mpr h2⟩⟩
theorem jy (t:Bool)(kvs:List (List Int × ae)):(pO t kvs).map (·.2)=.none::kvs.map (·.2):=by unfold pO;rw[ai,bc];rfl
theorem eU.Ro (h:H a=some (pW t kvs xs))(hs:a ∉ S)(hk:t=false->∀p∈kvs,p.1.length=1)(r:dP S H (!26) xs):eU S H (f6 t kvs) (.ref a):=by
 unfold f6 eU;exact⟨a,t,kvs,xs,rfl,rfl,h,hs,hk,gS.F3.mpr (by rw[jy];exact .cons .jm r)⟩
theorem eU.sy (h:eU S H (.dict l) v):∃a t kvs xs,v=.ref a/\l=pO t kvs/\H a=some (pW t kvs xs)/\a ∉ S/\(t=false->∀p∈kvs,p.1.length=1)/\dP S H (!26) xs:=by
 unfold eU at h;obtain⟨a,t,kvs,xs,e,rfl,ha,hs,hk,hr⟩:=h;have:=gS.F3.mp hr;rw[jy] at this;obtain⟨x,r,e2,_,h2⟩:=this.of_cons;injection e2 with _ e3;subst e3;exact⟨a,t,kvs,xs,e,rfl,ha,hs,hk,h2⟩
theorem eU.fg (h:eU S H (.int i) v):v=.int i:=by unfold eU at h;exact h
theorem eU.oC (h:eU S H (.bool b) v):v=.bl b:=by unfold eU at h;exact h
theorem eU.m9 (h:eU S H (.str x) v):v=.str x:=by unfold eU at h;exact h
theorem eU.oD (h:eU S H .none v):v=.jm:=by unfold eU at h;exact h
end
mutual
theorem eU.reads {P:bf}{w:World}{S:List Addr}{H:Hp}{h:Heap}(ok:oq P w H h):∀{d:ae} {v:V} {u:ah},d.canLay0=true->eU S H d v->RelV v u->∃as,Reads h u d as
 | .none,v,u,_,r,q=>by cases r.oD;cases (show u=ah.none from q);exact⟨_,.none⟩
 | .bool b,v,u,_,r,q=>by cases r.oC;cases (show u=ah.bool b from q);exact⟨_,.bool b⟩
 | .int i,v,u,_,r,q=>by cases r.fg;obtain⟨t,e⟩:=(show ∃t,u=ah.int i t from q);cases e;exact⟨_,.int i t⟩
 | .str x,v,u,_,r,q=>by cases r.m9;obtain⟨t,e⟩:=(show ∃t,u=ah.str x t from q);cases e;exact⟨_,.str x t⟩
 | .tuple ds,v,u,c0,r,q=>by
  obtain⟨a,xs,rfl,ha,hr⟩:=r.fX;cases (show u=ah.ref a from q);obtain⟨_,its,rv,o,e,c,n,d,_⟩:=ok a _ ha;obtain⟨as,ra⟩:=dP.reads ok (by simpa [ae.canLay0] using c0) hr rv;exact⟨_,.tuple e c d (by simpa using ra)⟩
 | .list ds,v,u,c0,r,q=>by
  obtain⟨a,xs,rfl,ha,_,hr⟩:=r.fA;cases (show u=ah.ref a from q);obtain⟨_,its,n,rv,e⟩:=ok a _ ha;obtain⟨as,ra⟩:=dP.reads ok (by simpa [ae.canLay0] using c0) hr rv;exact⟨_,.list e rfl rfl (by simpa using ra)⟩
 | .dict _,v,u,c0,r,q=>by simp[ae.canLay0] at c0
theorem dP.reads {P:bf}{w:World}{S:List Addr}{H:Hp}{h:Heap}(ok:oq P w H h):∀{ds:List ae} {xs:List V} {us:List ah},ae.canLayAll0 ds=true->dP S H ds xs->eS xs us->∃as,ReadsAll h us ds as
 | [],xs,us,_,r,q=>by
  cases r.fI;cases q;exact⟨_,.nil⟩
 | d::ds,xs,us,c0,r,q=>by
  simp only[ae.canLayAll0,bn] at c0;obtain⟨x,t,rfl,h1,h2⟩:=r.of_cons
  cases q with
  | cons q1 q2 =>
   obtain⟨as,a1⟩:=eU.reads ok c0.1 h1 q1;obtain⟨bs,b1⟩:=dP.reads ok c0.2 h2 q2;exact⟨_,.cons a1 b1⟩
end
structure Good (d:ae):Prop where
 lay:d.canLay0=true
 Ih:d.showable=true
 short:d.leavesShort 60=true
 deep:d.depth<=60
 SH:d.weight<=200000
theorem Good.nodict (g:Good d):d.hasDict=false:=ae.hasDict_of_canLay d g.lay
theorem Good.fits (g:Good d):d.shown.length<=aC:=by
 have h:=ae.shown_le 60 (!2) d g.short;have h2:=g.SH;rw[sizeLine_eq];omega
section
theorem C3 (hr:ik k X.A):gL X (.builtin "repr") (λxs H Q=>∃S d v,xs=[v]/\eU S H d v/\Good d/\Q (.str d.shown) H):=by
 (intro pins s σ H xs us Q I r h);obtain⟨S,d,v,rfl,rp,g,q⟩:=h;rw[12];have F4:=hr.units;have fin:∀(h':Heap) (t:Tok) (tk:Nat),(∀b o,s.heap.get? b=some o->h'.get? b=some o)->EP X pins σ Q (.str d.shown t) { s with heap:=h',toks:=tk }:=λh' t tk kp=>⟨.str d.shown,H,I.kept kp,⟨t,rfl⟩,q⟩;have LO:∀(t:Tok) (tk:Nat),EP X pins σ Q (.str d.shown t) { s with toks:=tk }:=λt tk=>fin s.heap t tk λ_ _ e=>e
 cases d with
 | none=>cases rp.oD;cases (show u=ah.none from ru);exact P.repr_of_none (LO _ _)
 | bool b=>cases rp.oC;cases (show u=ah.bool b from ru);exact P.repr_of_bool (LO _ _)
 | int i=>cases rp.fg;obtain⟨t,e⟩:=(show ∃t,u=ah.int i t from ru);cases e;exact P.repr_of_int (by simpa [ae.showable] using g.Ih) (LO _ _)
 | str x=>cases rp.m9;obtain⟨t,e⟩:=(show ∃t,u=ah.str x t from ru);cases e;exact P.repr_of_str (LO _ _) g.fits
 | tuple ds =>
  obtain⟨as,ra⟩:=eU.reads I.hok g.lay rp ru;obtain⟨a,xs,rfl,_⟩:=rp.fX;cases (show u=ah.ref a from ru);exact repr_of_reads' ra g.Ih (ae.noDict_hsm g.nodict) hr.gd (by have:=g.deep;omega) (λ_ _ e=>e) (λh' t tk kp=>fin h' t tk kp) g.fits
 | list ds =>
  obtain⟨as,ra⟩:=eU.reads I.hok g.lay rp ru;obtain⟨a,xs,rfl,_⟩:=rp.fA;cases (show u=ah.ref a from ru);exact repr_of_reads' ra g.Ih (ae.noDict_hsm g.nodict) hr.gd (by have:=g.deep;omega) (λ_ _ e=>e) (λh' t tk kp=>fin h' t tk kp) g.fits
 | dict _=>have z:=g.lay;simp[ae.canLay0] at z
noncomputable def V5 (neg:Bool):R2:=λx y H Q=>∃S dx dy,eU S H dx x/\eU S H dy y/\dx.canLay0=true/\dy.canLay0=true/\dx.depth<=60/\Q (.bl (if neg then !PyData.eqv dx dy else ae.eqv dx dy)) H
theorem Py (hr:ik k X.A):lY X (compareOp .NotEq) (V5 true):=by
 (intro pins s σ H x y v u Q I rx ry h);obtain⟨S,dx,dy,h1,h2,c1,c2,d1,q⟩:=h;obtain⟨as,ra⟩:=eU.reads I.hok c1 h1 rx;obtain⟨bs,rb⟩:=eU.reads I.hok c2 h2 ry;have F4:=hr.units;exact SeqAt.compareNe_reads ra rb c1 c2 (!1) ⟨.bl _,H,I,rfl,q⟩
end
end L2
namespace PySem
open Sem (wp)
open AutoSeq1 (wpAny_loadPart')
end PySem
namespace L2
open PySem PySem.Spec PyProof.Rows
noncomputable def zz (lo hi:Int):List V:=(List.range (hi - lo).toNat).map λ(k:Nat)=>V.int (lo+k)
section
variable {X:Cx}
theorem Ii:gL X (.type "range") (λxs H Q=>∃j:Int,xs=[.int j]/\∀p,H p=none->Q (.ref p) (fz H p (.M7 0 j))):=by
 (intro pins s σ H xs us Q I r h);obtain⟨j,rfl,q⟩:=h;rw[12];obtain⟨t,rfl⟩:=ru;refine call_range_1 ?_;refine⟨.ref s.heap.objs.size,_,I.laid (o:=.M7 0 j) (λb o e=>aj _ e) (aw _) ⟨_,_,_,aB _ rfl⟩,rfl,q _ (!34)⟩
theorem F5 {lo hi:Int}{acc:Array ah}(h:ItemsOf (λi v=>∃t,v=ah.int (lo+i * 1) t) acc (hi - lo).toNat):eS (zz lo hi) acc.toList:=by
 obtain⟨hs,LP⟩:=h;unfold zz
 have:∀(l:List ah) (k:Nat),(∀j v,l[j]? = some v->∃t,v=ah.int (lo+((k+j:Nat):Int)) t)->eS ((List.range' k l.length).map λ(k:Nat)=>V.int (lo+k)) l:=by
  intro l
  induction l with
  | nil=>intro k _;exact .nil
  | cons v l ih =>
   intro k hv;rw[ak,List.range'_succ,ai];refine .cons (hv 0 v rfl) (ih (k+1) λj w hw=>?_);obtain⟨t,e⟩:=hv (j+1) w (by simpa using hw);exact⟨t,by rw[e];congr 2;omega⟩
 have q:=this acc.toList 0 λj v hv=>by
  obtain⟨t,e⟩:=LP j v (by simpa using hv);exact⟨t,by rw[e,Int.mul_one,Nat.zero_add]⟩
 rw[List.range_eq_range',<- hs];simpa using q
theorem Ij (lo hi:Int):Builtin.Range.rangeSize lo hi 1=((hi - lo).toNat:Int):=by rw[rangeSize_one];split<;>omega
theorem w6 (hc:X.calm=true):gL X (.type "list") (λxs H Q=>∃p lo hi,xs=[.ref p]/\H p=some (.M7 lo hi)/\(-(2 ^ 62)<=lo/\lo<2 ^ 62/\-(2 ^ 62)<=hi/\hi<2 ^ 62)/\(hi - lo).toNat<=2 ^ 24/\∀l,H l=none->Q (.ref l) (fz H l (.lst (zz lo hi)))):=by
 (intro pins s σ H xs us Q I r h);obtain⟨p,lo,hi,rfl,hp,⟨h1,h2,h3,h4⟩,hl,q⟩:=h;rw[12];cases ru;obtain⟨t,u,v,e⟩:=I.hok p _ hp;refine call_list_range (I.ok.hd hc) e (small_one h1 h2 h3 h4) (Ij lo hi) hl λh' tk w9 c' kp e' LP=>?_;have hv:=F5 LP;have hlen:=hv.length
 have hr:(zz lo hi).length<=aC:=by
  unfold zz;rw[ar,List.length_range,sizeLine_eq];omega
 refine⟨.ref s.heap.objs.size,_,I.laid kp (aw _) (show gT X.prog X.w _ h' _ (.lst (zz lo hi)) from ⟨hr,w9.toList,c',hv,by simpa using e'⟩),rfl,q _ (!34)⟩
end
section
noncomputable def SI (t u:TS):TS:=λD σ H=>∃M:St->Hp->Prop,t { D with nx:=M } σ H/\∀σ' H',M σ' H'->u D σ' H'
theorem LQ {st:Stmt}{rest:List Stmt}{t u:TS}(h1:PS X st t)(h2:CJ X rest u):CJ X (st::rest) (SI t u):=by
 rw[22];obtain⟨M,q,k⟩:=h;refine wpAny_execs_cons (gr (h1 pins s σ H { D with nx:=M } I q) λf s1 e=>?_)
 cases f with
 | next=>obtain⟨σ1,H1,I1,m1⟩:=e;exact h2 pins s1 σ1 H1 D I1 (k σ1 H1 m1)
 | brk=>exact e
 | cont=>exact e
 | ret u=>exact e
theorem Pz {α:Type}{xs:List α}{i:Int}(h0:0<=i)(h1:i<xs.length):∃v,sx xs i=some v/\xs[i.toNat]? = some v:=by
 have lB:i.toNat<xs.length:=by omega
 refine⟨xs[i.toNat],?_,by simp[lB]⟩;unfold sx CV;rw[if_pos h0,if_pos h1];simp[lB]
end
noncomputable def fk:Expr->Bool
 | .Starred ..=>false
 | _=>true
theorem f9 (h:fk e=true):starEach (e::es) env=(false,eval e env)::starEach es env:=by
 cases e<;>first | rfl | cases h
theorem kI:∀{es:List Expr},es.all fk=true->(backTo pos (starEach es env)).any (·.1)=false
 | [],_=>rfl
 | e::es,h=>by
  rw[List.all_cons,bn] at h;rw[f9 h.1];show (backTo pos ((false,eval e env)::starEach es env)).any (·.1)=false;have ih:=kI (pos:=pos) (env:=env) h.2;show (false || (backTo pos (starEach es env)).any (·.1))=false;rw[ih];rfl
theorem u7:∀{es:List Expr},es.all fk=true->(backTo pos (starEach es env)).all (λx=>!x.1)=true
 | [],_=>rfl
 | e::es,h=>by
  rw[List.all_cons,bn] at h;rw[f9 h.1];have ih:=u7 (pos:=pos) (env:=env) h.2;show (true && (backTo pos (starEach es env)).all (λx=>!x.1))=true;rw[ih];rfl
theorem nZ (h:(e::es).all fk=true):fk e=true/\es.all fk=true:=by
 rw[List.all_cons,bn] at h;exact h
structure QE (X:Cx) (e:Expr) (t:TE):Prop where run:PE X e t
structure QT (X:Cx) (e:Expr) (t:TT):Prop where run:PT X e t
structure QW (X:Cx) (e:Expr) (t:TT):Prop where run:PW X e t
structure QA (X:Cx) (es:List Expr) (t:TA):Prop where
 run:PA X es t
 ns:es.all fk=true
structure QS (X:Cx) (st:Stmt) (t:TS):Prop where run:PS X st t
structure A3 (X:Cx) (st:List Stmt) (t:TS):Prop where run:CJ X st t
structure QG (X:Cx) (e:Expr) (t:TG):Prop where run:PG X e t
structure Nq (X:Cx) (es:List Expr) (t:OL):Prop where run:RS X es t
structure QI (X:Cx) (tg iter:Expr) (t:TI):Prop where run:PI X tg iter t
structure QO (X:Cx) (e:Option Expr) (t:TO):Prop where run:PO X e t
structure QK (X:Cx) (qY:List Expr) (t:TT):Prop where run:Rm X qY t
section
variable {X:Cx}{a b c e o i' tg iter sk:Expr}{es:List Expr}{ta tb tc te to ti:TE}{tA K9:TT}{t:TA}{pos p i6 hV p2:Pos}{k:Nat}{x name:Str}{ps:List Str}{sp:Sp}{id T:String}{rest:List Expr}
theorem qv (i:Nat)(hN:X.N[i]? = some x:=by rfl)(hv:Az X.env.scope x:=by (first | exact Or.inl rfl | exact Or.inr (Or.inl rfl) | exact Or.inr (Or.inr rfl)))(hd:(x == (!17))=false:=by decide)
  (mY:(x == (!22))=false:=by decide):QE X (.Name x pos) (K7 i):=⟨Hw hN hv hd mY⟩
theorem fB {i j pos}:QE X (.Constant (.int i) j pos) (tC (.int i)):=⟨OD⟩
theorem Ik {b j pos}:QE X (.Constant (.bool b) j pos) (tC (.bl b)):=⟨RK⟩
theorem PB {j pos}:QE X (.Constant .none j pos) (tC .jm):=⟨Hx⟩
theorem PD {x j pos}:QE X (.Constant (.str x) j pos) (tC (.str x)):=⟨OE⟩
theorem ic (ho:lY X (binaryOp op) r)(ha:QE X a ta)(hb:QE X b tb):QE X (.BinOp a op b pos) (Lj r ta tb):=⟨R0 ho ha.run hb.run⟩
theorem SJ (ho:UW X (unaryOp op) r)(ha:QE X a ta):QE X (.UnaryOp op a pos) (XZ r ta):=⟨R1 ho ha.run⟩
theorem LR (ho:lY X (compareOp op) r)(ha:QE X a ta)(hb:QE X b tb)(hm:behindInMarks op b=false):QE X (.Compare a [op] [b] pos) (Lj r ta tb):=⟨Lp ho ha.run hb.run hm⟩
theorem q9 (ho:lY X (compareOp op) r)(ha:QE X a ta)(hb:QE X b tb)(hm:behindInMarks op b=false):QT X (.Compare a [op] [b] pos) (Ni (Lj r ta tb)):=⟨Lq ho ha.run hb.run hm⟩
theorem C4 (h:QE X e te)(he:∀pN,isTrue e X.env pN=(do let v <- pN;standAt e.pos;holding [v] (truthy v)):=by rw[31]):QT X e (tB te):=⟨OH h.run he⟩
theorem Ew (ha:QT X a tA):QW X (.BoolOp .And [a] pos) tA:=⟨pw_and1 ha.run⟩
theorem PF (ha:QT X a tA):QW X (.BoolOp .Or [a] pos) tA:=⟨pw_or1 ha.run⟩
theorem Il (ha:QT X a tA)(hb:QW X (.BoolOp .And (b::rest) pos) K9):QW X (.BoolOp .And (a::b::rest) pos) (RL tA K9):=⟨pw_and ha.run hb.run⟩
theorem SK (ha:QT X a tA)(hb:QW X (.BoolOp .Or (b::rest) pos) K9):QW X (.BoolOp .Or (a::b::rest) pos) (XW tA K9):=⟨pw_or ha.run hb.run⟩
theorem QW.pt (h:QW X e tA):QT X e tA:=⟨h.run.pt⟩
theorem PH (ha:QT X a tA):QT X (.UnaryOp .Not a pos) (RN tA):=⟨OI ha.run⟩
theorem Im (ha:QE X a ta):QE X (.UnaryOp .Not a pos) (Na ta):=⟨OJ ha.run⟩
theorem A4 (hc:QT X c tA)(ha:QE X a ta)(hb:QE X b tb):QE X (.IfExp c a b pos) (XX tA ta tb):=⟨HA hc.run ha.run hb.run⟩
theorem fN:QA X [] O6:=⟨O7,rfl⟩
theorem iS (ha:QE X e te)(hr:QA X es t)(hs:fk e=true:=by rfl):QA X (e::es) (HL te t):=⟨Lr ha.run hr.run (f9 hs),by rw[List.all_cons,hs,hr.ns];rfl⟩
theorem C5 (h:QA X es t):QE X (.List es pos) (R8 t):=⟨O9 h.run⟩
theorem PJ {x1}(h:QA X es t):QE X (.Tuple es x1 pos) (R7 t):=⟨O8 h.run⟩
theorem pP (hr:KR X r)(ha:QE X a ta)(hb:QE X b tb)(hs:zk b):QE X (.Subscript a b pos) (Lj r ta tb):=⟨Sh hr ha.run hb.run hs⟩
theorem Ey:QO X none En:=⟨Lw⟩
theorem Ez (h:QE X e te):QO X (some e) (Nk te):=⟨Lx h.run⟩
theorem A5 {r:V->Option Int->Option Int->Hp->VK->Prop}{lo hi:Option Expr}{tl th:TO}(hr:KQ X r)(he:QE X e te)(hl:QO X lo tl)(hu:QO X hi th):QE X (.Subscript e (.Slice lo hi none p2) pos) (X1 r te tl th):=⟨HR hr he.run hl.run hu.run⟩
theorem oE (D:eD X.prog X.w X.K X.mg X.base k x ps sp)(hr:ik k X.A)(ha:QA X (e::es) t)(hg:Gl X x:=by rfl)(tP:(x == (!17))=false:=by decide) :
  QE X (.Call (!35) (e::es) [] pos) (u5 sp t):=⟨H9 D hr ha.run hg tP (f9 (nZ ha.ns).1) (kI (nZ ha.ns).2)⟩
theorem kM {r:List V->Hp->VK->Prop}(hc:gL X (.builtin id) r)(hg:Gl X x)(hm:X.mg x=none)(hv:bootBuiltins x=some (.builtin id))(ha:QA X (e::es) t)(hn:x ≠ "__name__" := by decide)(tP:(x == (!17))=false:=by decide) :
  QE X (.Call (!35) (e::es) [] pos) (Sd r t):=⟨HP hc hg hm hv ha.run hn tP (f9 (nZ ha.ns).1) (kI (nZ ha.ns).2)⟩
theorem iz (hc:gL X (.type T) r)(hg:Gl X x)(hm:X.mg x=none)(hv:bootBuiltins x=some (.type T))(ha:QA X (e::es) t)(hn:x ≠ "__name__" := by decide)(tP:(x == (!17))=false:=by decide) :
  QE X (.Call (!35) (e::es) [] pos) (Sd r t):=⟨FU hc hg hm hv ha.run hn tP (f9 (nZ ha.ns).1) (kI (nZ ha.ns).2)⟩
theorem SM {r:V->List V->Hp->VK->Prop}(pa:PlainAttrs T)(slot:Slot T name id)(HU:typeOf (.builtin id)=pure (.type "method_descriptor"))(hm:Hf X id r)(ho:QE X o to)(ha:QA X (e::es) t)
  (my:attributeBase o name X.env (eval o X.env)=eval o X.env:=by rfl) (hl:decide ((e::es).length+0+0<30)=true:=by rfl)
  (mz:(i6.endLine == hV.line)=true:=by rfl):QE X (.Call (.Attribute o name i6) (e::es) [] hV) (VI X.K T r to t):=by
 refine⟨Sn pa slot HU hm ho.run ha.run my ?_ mz (f9 (nZ ha.ns).1) (kI (nZ ha.ns).2)⟩;rw[u7 ha.ns];exact hl
theorem rf (hN:X.N.Nodup)(hi:X.N[i]? = some x)(hx:Loc X.env.scope x)(hf:X.fn x=true\/X.env.scope.names.lookup x=some .local:=by (first | exact .inl rfl | exact .inr rfl | assumption)):QG X (.Name x pos) (AJ i):=⟨Ld hN hi hx hf⟩
theorem LS:Nq X [] RU:=⟨Le⟩
theorem Io (h1:QG X e tt)(h2:Nq X es u)(hs:(assignEach (e::es) X.env).map (·.2)=assign e X.env::(assignEach es X.env).map (·.2):=by rfl):Nq X (e::es) (Nd tt u):=⟨HC h1.run h2.run hs⟩
theorem PK (hc:X.calm=true)(h:Nq X es tt)(hn:(assignEach es X.env).length=n:=by rfl)(AK:(assignEach es X.env).findIdx? (·.1)=none:=by rfl):QG X (.Tuple es k pos) (RV X.K n tt):=⟨ON hc h.run hn AK⟩
theorem zC (ho:QE X o to)(hi:QE X i' ti)(hs:OM X tt)
  (ha:∀v,assign (.Subscript o i' pos) X.env v=(do
   let ov <- holding [v] (eval o X.env);let iv <- holding [v,ov] (eval i' X.env)
   standAt pos
   holding [v,ov,iv] (setItem ov iv v)
   release [v,ov,iv] []):=by rw[31]):QG X (.Subscript o i' pos) (RW to ti tt):=⟨OO ho.run hi.run hs ha⟩
theorem LU (hl:QE X a ta):QI X tg a (HG X.K ta):=⟨Lh hl.run⟩
theorem PL (hl:QE X a ta):QI X tg a (OR X.K ta):=⟨OS hl.run⟩
theorem xZ (hg:Gl X "range")(hm:X.mg "range" = none)(ha:QA X [a] t):QI X tg (.Call (.Name "range" p) [a] [] pos) (Nf t):=⟨FK hg hm ha.run (f9 (nZ ha.ns).1)⟩
theorem PM:QK X [] Nm:=⟨LI⟩
theorem C6 (h:QT X c tA):QK X [c] tA:=⟨LJ h.run⟩
variable {st:Stmt}{LV body SN:List Stmt}{ts us:TS}{qY:List Expr}{sc:Scope}{N:List Str}{mp:List (Option Nat)}{wi:TI}{g:TG}
theorem uz:A3 X [] Nb:=⟨La⟩
theorem fO (h1:QS X st ts)(h2:A3 X LV us):A3 X (st::LV) (RO ts us):=⟨HB h1.run h2.run⟩
theorem EA (h1:QS X st ts)(h2:A3 X LV us):A3 X (st::LV) (SI ts us):=⟨LQ h1.run h2.run⟩
theorem i7 (h1:QS X st ts):A3 X [st] ts:=⟨Lb h1.run⟩
theorem LW (he:QE X e te)(hs:swapsWith e none pos.line X.env=pure false:=by rfl):QS X (.Expr e pos) (Nc te):=⟨Lc he.run hs⟩
theorem nc (he:QE X e te):QS X (.Return (some e) pos) (RP te):=⟨OK he.run⟩
theorem EB (hc:QT X c tA)(ha:A3 X body ts)(hb:A3 X SN us):QS X (.If c body SN pos) (RQ tA ts us):=⟨RR hc.run ha.run hb.run⟩
theorem j8 (hN:X.N.Nodup)(hi:X.N[i]? = some x)(hx:Loc X.env.scope x)(he:QE X e te)(hs:swapsWith e (some (.Name x iQ)) pos.line X.env=pure false:=by rfl)
  (hf:X.fn x=true\/X.env.scope.names.lookup x=some .local:=by (first | exact .inl rfl | exact .inr rfl | assumption)):QS X (.Assign [.Name x iQ] e pos) (HD te (AJ i)):=⟨OQ hN hi hx he.run hs hf⟩
theorem u9 (he:QE X e te)(hg:QG X tg g)(hs:swapsWithSole [tg] e pos.line X.env=pure false:=by rfl)(hw:swappedStores [tg] e X.env=pure none:=by rfl)
  (h1:(assignEach [tg] X.env).map (·.2)=[assign tg X.env]:=by rfl):QS X (.Assign [tg] e pos) (HD te g):=⟨OP he.run hg.run hs hw h1⟩
theorem C7 (hp:PassesOwn (!11) X.A X.env X.xe)(hc:X.calm=true)(hi:QI X tg iter wi)(hg:QG X tg g)(hb:A3 X body ts)(hs:∀x,foldedSetIterable iter X.env x=pure x:=by rw[31]) :
  QS X (.For tg iter body [] pos) (RX wi g ts):=⟨OT hp hc hi.run hg.run hb.run hs⟩
theorem Ip (hp:PassesOwn (!11) X.A X.env X.xe)(hc:QT X c tA)(hb:A3 X body ts):QS X (.While c body [] pos) (HE tA ts):=⟨HF hp hc.run hb.run⟩
theorem zD (hc:X.calm=true)(hi:QI X tg iter wi)(hk:sc.kind=.function)(hm:iR X.N X.env.scope sc N mp=true)
  (hb:∀(cl:List (Str × Addr)) (C:Addr) (s₂:aA) (H₂:Hp) (fp:List Addr),QG (!15) tg g/\QK (!15) qY tA/\QE (!15) sk te)
  (hs:∀x,foldedSetIterable iter X.env x=pure x:=by rw[31]):QE X (.ListComp sk [⟨tg,iter,qY,0⟩] sc pos) (Ie (xX wi mp g tA te)) :=
 ⟨LL hc hi.run hk hm (λcl C s₂ H₂ fp=>⟨(!36).1.run,(!36).2.1.run,(!36).2.2.run⟩) hs⟩
theorem LX (hN:X.N.Nodup)(LN:X.N[i]? = some x)(hx:X.env.scope.names.lookup x=some .local)(hc:X.calm=true)(hi:QI X tg iter wi)(hk:sc.kind=.function)(hm:iR X.N X.env.scope sc N mp=true)
  (hb:∀(cl:List (Str × Addr)) (C:Addr) (s₂:aA) (H₂:Hp) (fp:List Addr),QG (!15) tg g/\QK (!15) qY tA/\QE (!15) sk te)
  (SG:swapsWith (.ListComp sk [⟨tg,iter,qY,0⟩] sc pos) (some (.Name x py)) spos.line X.env=pure true:=by rfl)
  (hs:∀x,foldedSetIterable iter X.env x=pure x:=by rw[31]):QS X (.Assign [.Name x py] (.ListComp sk [⟨tg,iter,qY,0⟩] sc pos) spos) (Ig i (xX wi mp g tA te)) :=
 ⟨LM hN LN hx hc hi.run hk hm (λcl C s₂ H₂ fp=>⟨(!36).1.run,(!36).2.1.run,(!36).2.2.run⟩) SG hs⟩
end
theorem AX.PN {P:bf}{w:World}{K:W.Frag}{mg:Str->Option ah}{base:Heap}{x gu:Str}{st:Stmt}{f:Addr}{fd:bE}{N ps:List Str}{k:Nat}{sp:Sp}(F:AX K x gu st f fd)(S:gp N ps (dM st))(len:∀vs H Q E,sp vs H Q E->vs.length=ps.length)
  (AR:∀(fH:ah) (A:Around) (outer:List Env) (s:aA) (H:Hp) (vs:List V) (Q:VK) (E:XK),ik k (A.deeper (envOfC gu (dM st) s.heap.objs.size f fH))->sp vs H Q E ->
   ∃t,A3 (pT zt P w K mg base N gu (dM st) f fH A outer s H E).FJ (gK st) t/\t { nx:=λ_ H'=>Q .jm H',rt:=Q } (start N vs) H):og P w K mg base zt (k+1) f fd ps sp :=
 F.ok S len λfH A outer s H vs Q E hr h=>let ⟨t,q,r⟩:=AR fH A outer s H vs Q E hr h;⟨t,q.run,r⟩
section
variable {X:Cx}(K:W.Frag)
theorem ZI (h:X.K=K:=by rfl):KR X (Sj K):=by subst h;exact Pg
theorem KY (h:X.K=K:=by rfl):KR X (Si K):=by subst h;exact Lz
theorem Yc (h:X.K=K:=by rfl):KQ X (Sl K):=by subst h;exact LA
theorem PQ (h:X.K=K:=by rfl):gL X (.builtin "len") (λxs H Q=>∃p ys,xs=[.ref p]/\(gx K H p ys\/jt K H p ys)/\Q (.int ys.length) H):=by subst h;exact zo
theorem Nr (h:X.K=K:=by rfl):gL X (.type "list") (λxs H Q=>∃p ys,xs=[.ref p]/\(gx K H p ys\/jt K H p ys)/\∀l,H l=none->Q (.ref l) (fz H l (.lst ys))):=by subst h;exact zp
theorem C8 (h:X.K=K:=by rfl):gL X (.type "tuple") (λxs H Q=>∃p ys,xs=[.ref p]/\((gx K H p ys/\∀l,H l=none->Q (.ref l) (fz H l (.tup ys)))\/(jt K H p ys/\Q (.ref p) H))):=by subst h;exact w4
variable {a o e tg:Expr}{es:List Expr}{ta to:TE}{t:TA}{i6 hV:Pos}{name:Str}{id T:String}
theorem Iq (hl:QE X a ta)(h:X.K=K:=by rfl):QI X tg a (HG K ta):=by subst h;exact LU hl
theorem LY (hl:QE X a ta)(h:X.K=K:=by rfl):QI X tg a (OR K ta):=by subst h;exact PL hl
theorem PR {r:V->List V->Hp->VK->Prop}(pa:PlainAttrs T)(slot:Slot T name id)(HU:typeOf (.builtin id)=pure (.type "method_descriptor"))(hm:Hf X id r)(ho:QE X o to)(ha:QA X (e::es) t)(h:X.K=K:=by rfl)
  (my:attributeBase o name X.env (eval o X.env)=eval o X.env:=by rfl) (hl:decide ((e::es).length+0+0<30)=true:=by rfl)
  (mz:(i6.endLine == hV.line)=true:=by rfl):QE X (.Call (.Attribute o name i6) (e::es) [] hV) (VI K T r to t):=by subst h;exact SM pa slot HU hm ho ha my hl mz
end
end L2
namespace HT
open PySem PyProof.Rows
section
theorem pK {t sl:Addr}{items:Array ah}{vl vu:ah}{lo hi:Option Int}{Q:ah->aA->Prop}(ht:IsTup s.heap t items)(hs:s.heap.IsSliceOf sl vl vu .none)(pl:IsPart vl lo)(pu:IsPart vu hi)
  (hw:iy items.size 0 lo=0/\iy items.size items.size hi=items.size) (h:Q (.ref t) s):aH (!12) A (getItem (.ref t) (.ref sl)) Q E s:=by
 obtain⟨os,Pe,Se,Sf⟩:=id hs;have VF:s.TypeIs (.ref sl) "slice" := ⟨os,Pe,Se⟩;unfold getItem;try with_reducible refine wpAny_holding ?_
 first | refine af (am ?_) | skip
 refine af (wpAny_sequenceKey ht.typeIs (!2) ?_)
 refine af (wpAny_callSpecial?_slot (name:=Str.ofString "__getitem__") ht.typeIs PyProof.Rows.slot_tuple_getitem
  (wpAny_call_entry PyProof.Rows.slot_tuple_getitem ht.typeIs entry_tuple_getitem ?_ (args_tuple_getitem _ _)))
 show aH _ _ (Builtin.Tuple.tupleItemsOf (.ref t) >>= _) _ _ s;refine af (tupleItemsOf_ ht ?_);refine af (wpAny_typeOf VF ?_);rw[if_pos (!2)];refine af (mx hs pl pu ?_)
 have V6:((((iy items.size 0 lo:Nat):Int) == 0 && (1:Int) == 1 && (((iy items.size items.size hi - iy items.size 0 lo))) == items.size)=true):=by
  rw[hw.1,hw.2];simp
 show aH _ _ (if (((iy items.size 0 lo:Nat):Int) == 0 && (1:Int) == 1 && (((iy items.size items.size hi - iy items.size 0 lo))) == items.size)=true then _ else _) _ _ s;rw[if_pos V6];refine af ?_;unfold Builtin.Tuple.tupleIsExact;refine af (wpAny_typeOf ht.typeIs (am ?_));show aH _ _ (if (ah.type "tuple" == ah.type "tuple")=true then _ else _) _ _ s;rw[if_pos (!2)];exact af (wpAny_rule (am ⟨_,rfl,am h⟩))
end
end HT
namespace L2
open PySem PySem.Spec PyProof.Rows
noncomputable def SO (K:W.Frag):V->Option Int->Option Int->Hp->VK->Prop:=λx lo hi H Q=>∃a xs,x=.ref a/\jt K H a xs/\(m7 xs lo hi=xs->Q (.ref a) H)/\∀p,H p=none->Q (.ref p) (fz H p (.tup (m7 xs lo hi)))
section
variable (K:W.Frag)
theorem ZJ (h:X.K=K:=by rfl):KQ X (SO K):=by
 subst h;intro pins s σ H x v vl vu lo hi sl Q I rx hs pl pu h;obtain⟨a,xs,rfl,hx,hw,q⟩:=h;by_cases hc:HT.iy xs.length 0 lo=0/\HT.iy xs.length xs.length hi=xs.length
 .cases rx
  obtain⟨its,r,ht,hz⟩:=I.tuple hx;have hlen:its.toArray.size=xs.length:=by rw[aD];exact r.length.symm
  refine⟨"tuple",_,PyProof.Rows.slot_tuple_getitem.lookup,ht.typeIs,?_⟩;refine HT.pK ht hs pl pu (by rw[hlen];exact hc) ⟨.ref a,H,I,rfl,hw ?_⟩;unfold m7;rw[hc.1,hc.2];simp
 .exact Pf pins s σ H (.ref a) v vl vu lo hi sl Q I rx hs pl pu ⟨a,xs,rfl,hx,hc,q⟩
end
noncomputable def SQ (K:W.Frag):R2:=λx y H Q=>∃a b xs ys,x=.ref a/\y=.ref b/\jt K H a xs/\jt K H b ys/\xs.length+ys.length<=aC/\(xs=[]->Q (.ref b) H)/\(ys=[]->Q (.ref a) H)/\∀p,H p=none->Q (.ref p) (fz H p (.tup (xs++ys)))
theorem V7 (K:W.Frag)(h:X.K=K:=by rfl):lY X (binaryOp .Add) (SQ K):=by
 subst h;(intro pins s σ H x y v u Q I rx ry h);obtain⟨a,b,xs,ys,rfl,rfl,ha,hb,hz,q0,q1,q2⟩:=h;by_cases hx:xs=[]
 .cases rx
  cases ry;obtain⟨its,r1,p1,_⟩:=I.tuple ha;obtain⟨pI,r2,p2,_⟩:=I.tuple hb;have hi:its=[]:=r1.qV.mpr hx;obtain⟨⟨cls,dd,data,sl⟩,ho,hc,n,hd⟩:=id p1;obtain⟨⟨VE,UY,data2,Rk⟩,FV,He,n2,AS⟩:=id p2;simp only at hc hd He AS;subst hc hd He AS
  exact concat_meets ⟨_,ho,rfl⟩ ⟨_,FV,rfl⟩ noFill_tuple_add seq_tuple_add PySem.F.slot_tuple_add PySem.F.entry_tuple_add (PySem.F.args_tuple_add_2 _ _)
   (tuple_addW0 a b its.toArray pI.toArray n n2 dd UY sl Rk (by simp[hi])) ⟨ho,FV,⟨.ref b,H,I,rfl,q0 hx⟩⟩
 .exact Ly pins s σ H _ _ v u Q I rx ry ⟨a,b,xs,ys,rfl,rfl,ha,hb,hx,hz,q1,λ_=>q2⟩
end L2
namespace PySem
open Sem (wp)
theorem mB:fillsNumberSlot (.type "tuple") "mul" = pure false :=
 fillsNumberSlot_seq (id := "tuple.__mul__") (r:=some (.builtin "tuple.__rmul__")) F.slot_tuple_mul.lookup (!3) F.slot_tuple_rmul.lookup (!3)
theorem rh:seqRepeat? (.type "tuple")=pure (some (.builtin "tuple.__mul__")):=by
 unfold seqRepeat?;rw[seqSlot_of (T := "tuple") (name := "__mul__") (id := "tuple.__mul__") F.slot_tuple_mul.lookup (!3),seqSlot_of (T := "tuple") (name := "__rmul__") (id := "tuple.__rmul__") F.slot_tuple_rmul.lookup (!3)];rfl
theorem oF (a:Int)(t:Tok)(l:Addr)(items:Array ah)(n:Nat)(dd:Option Addr)(sl:Array (Option ah)) :
  Meets (Builtin.«int.__rmul__» ⟨[.int a t,.ref l],[]⟩) (λ_ R s=>s.heap.get? l=some { cls:=.type "tuple",dict:=dd,data:=.seq items n,slots:=sl }/\R (.ok (.ret ah.notImplemented)) s) :=
 .of_wp λprog w A R s h=>by obtain⟨hp,g,d,tk,os⟩:=s;obtain⟨hl,h⟩:=h;wp_walk;exact⟨_,rfl,h⟩
theorem xa (l:Addr)(items:Array ah)(n:Nat)(dd:Option Addr)(sl:Array (Option ah))(k:Int)(t:Tok)(gX:items.isEmpty=false)(h2:2<=k)(hk:k<2 ^ 40)(hz:items.size * k.toNat<=16000000) :
  Meets (Builtin.«tuple.__mul__» ⟨[.ref l,.int k t],[]⟩) (λ_ R s=>s.heap.get? l=some { cls:=.type "tuple",dict:=dd,data:=.seq items n,slots:=sl }/\R (.ok (.ret (ah.ref s.heap.objs.size))) { s with heap:=s.heap.push { cls:=ah.type "tuple",data:=Data.seq (dm (λx1 x2=>x1++x2) #[] (List.replicate k.toNat items)) },toks:=s.toks }) :=
 .of_wp λprog w A R s h=>by
  obtain⟨hp,g,d,tk,os⟩:=s;obtain⟨hl,h⟩:=h;have f1:=AutoSeq1.idx_int;have c0:¬ (decide (k < -(2 ^ 63)) || decide (k ≥ 2 ^ 63))=true:=by simp;omega
  have c1:¬ (items.isEmpty || k == 1)=true:=by rw[gX];simp;omega
  have c2:¬ (decide (k<=0) || items.isEmpty)=true:=by rw[gX];simp;omega
  wp_walk
  have Nt:k=((k.toNat:Nat):Int):=by omega
  have hm:(items.size:Int) * k=((items.size * k.toNat:Nat):Int):=by rw[Int.natCast_mul,<- Nt]
  have c3:¬ (items.size:Int) * k > (2 ^ 63 - 1) / 8:=by rw[hm];omega
  have c4:¬ Builtin.Tuple.tupleTooMany ((items.size:Int) * k)=true:=by
   rw[hm];unfold Builtin.Tuple.tupleTooMany;rw[decide_eq_true_eq,show aC=16777216 by decide];omega
  have ya:PyProof.Rows.IsTup hp l items:=⟨_,hl,rfl,n,rfl⟩
  have hsz:(dm (λx1 x2=>x1++x2) #[] (List.replicate k.toNat items)).size<=aC:=by
   have e:=AutoListH.size_joined items k.toNat #[];have e0:(#[]:Array ah).size=0:=rfl;rw[e0,Nat.zero_add,Nat.mul_comm] at e;rw[e];exact bq hz (!2)
  rw[if_neg c0];show aH _ _ (Builtin.Tuple.tupleItemsOf (.ref l) >>= _) _ _ _;refine af (PyProof.Rows.tupleItemsOf_ ya ?_);dsimp only;rw[if_neg c1,if_neg c2,if_neg c3,if_neg c4]
  first
   | exact af (m:=Builtin.Tuple.tupleExact _) (aY (am ⟨_,rfl,h⟩) hsz)
   | exact af (m:=Builtin.Tuple.tupleExact _) (aY (af (am (am ⟨_,rfl,h⟩))) hsz)
   | exact af (af (m:=Builtin.Tuple.tupleExact _) (aY (am (am ⟨_,rfl,h⟩)) hsz))
   | exact af (af (m:=Builtin.Tuple.tupleExact _) (aY (am ⟨_,rfl,h⟩) hsz))
end PySem
namespace L2
open PySem PySem.Spec PyProof.Rows
section
theorem QE.weaken (h:QE X e t)(w:∀σ H Q,t' σ H Q->t σ H Q):QE X e t':=⟨λpins s σ H Q I q=>h.run pins s σ H Q I (w σ H Q q)⟩
theorem QA.weaken (h:QA X es t)(w:∀σ H Q,t' σ H Q->t σ H Q):QA X es t':=⟨λpos pins s σ H Q I q=>h.run pos pins s σ H Q I (w σ H Q q),h.ns⟩
end
section
variable {X:Cx}{us ui:List Nat}{a b e:Expr}{es:List Expr}{pos:Pos}
noncomputable def Nu (K:W.Frag):R2:=λx y H Q=>∃a k xs,x=.ref a/\y=.int k/\jt K H a xs/\xs≠[]/\2<=k/\k<2 ^ 40/\xs.length * k.toNat<=16000000/\∀p,H p=none->Q (.ref p) (fz H p (.tup (List.replicate k.toNat xs).flatten))
theorem LZ (K:W.Frag)(h:X.K=K:=by rfl):lY X (binaryOp .Mult) (Nu K):=by
 subst h;(intro pins s σ H x y v u Q I rx ry h);obtain⟨a,k,xs,rfl,rfl,hx,gX,h2,hk,hz,q⟩:=h;cases rx;obtain⟨t,rfl⟩:=ry;obtain⟨its,r,ht,hl⟩:=I.tuple hx;obtain⟨⟨cls,dd,data,sl⟩,ho,hc,n,hd⟩:=id ht;simp only at hc hd;subst hc hd
 have V8:its.toArray.isEmpty=false:=by
  cases its with
  | nil=>exact absurd (r.qV.mp rfl) gX
  | cons _ _=>rfl
 have hsz:its.toArray.size * k.toNat<=16000000:=by rw[aD,<- r.length];exact hz
 refine wpAny_binaryOp_repeat_ref (T := "tuple") (U := "int") (!2) ⟨_,ho,rfl⟩ (λs'=>typeIs_int s' k t) mB F.fills_int_mul F.slot_int_rmul rh F.slot_int_index.lookup
  (call_meets F.slot_int_rmul (typeIs_int s k t) F.entry_int_rmul (F.args_int_rmul_2 _ _) (oF k t a its.toArray n dd sl)
   ⟨ho,rfl,⟨_,ho,rfl⟩,call_meets F.slot_tuple_mul ⟨_,ho,rfl⟩ F.entry_tuple_mul (F.args_tuple_mul_2 _ _) (xa a its.toArray n dd sl k t V8 h2 hk hsz) ⟨ho,?_⟩⟩)
 have HW:dm (λx1 x2=>x1++x2) #[] (List.replicate k.toNat its.toArray)=(List.replicate k.toNat its).flatten.toArray:=by
  have:=foldl_rep its k.toNat [];rw[ay] at this;exact this
 rw[HW]
 have hlen:(List.replicate k.toNat xs).flatten.length<=aC:=by
  rw[Er,Nat.mul_comm,show aC=16777216 by decide];omega
 exact⟨.ref _,_,I.laid (t':=s.toks) (o:=.tup (List.replicate k.toNat xs).flatten) (λb o e=>aj _ e) (aw _) ⟨hlen,_,r.rep k.toNat,wX.new _ _⟩,rfl,q _ (!34)⟩
theorem Ir {x:Str}{i:Int}(hg:Gl X x)(hm:∃t,X.mg x=some (.int i t))(hd:(x == (!17))=false:=by decide):QE X (.Name x pos) (tC (.int i)):=by
 obtain⟨t,e⟩:=hm;exact⟨K8 hg e ⟨t,rfl⟩ hd⟩
theorem eS.at' {xs:List V}{us:List ah}{i:Nat}{u:ah}(r:eS xs us)(h:us[i]? = some u):∃x,xs[i]? = some x/\RelV x u:=by
 have hi:i<us.length:=(aG.mp h).1;have LP:i<xs.length:=by rw[r.length];exact hi
 have e:xs[i]? = some xs[i]:=by simp[LP]
 obtain⟨w,hw,oh⟩:=r.get e;rw[h] at hw;cases hw;exact⟨_,e,oh⟩
end
section
variable {κ:Type}[DecidableEq κ]
noncomputable def i8 (kvs:List (κ × V))(k:κ):Option V:=(kvs.find? λkv=>decide (kv.1=k)).map (·.2)
noncomputable def kN (kvs:List (κ × V))(k:κ)(v:V):List (κ × V) :=
 if (kvs.any λkv=>decide (kv.1=k))=true then kvs.map (λkv=>if kv.1=k then (kv.1,v) else kv) else kvs++[(k,v)]
theorem gM {p:κ × V}{r:List (κ × V)}{k:κ}(e:p.1=k):i8 (p::r) k=some p.2:=by simp[i8,bK,e]
theorem gN {p:κ × V}{r:List (κ × V)}{k:κ}(e:¬ p.1=k):i8 (p::r) k=i8 r k:=by simp[i8,bK,e]
theorem rj (k:κ):∀kvs:List (κ × V),(kvs.any λkv=>decide (kv.1=k))=(i8 kvs k).isSome
 | []=>rfl
 | p::r=>by
  rw[bF];by_cases e:p.1=k
  .simp only[gM e,decide_eq_true e,Bool.true_or,c8]
  .rw[gN e,decide_eq_false e,Bool.false_or];exact rj k r
theorem A6 (k j:κ)(y:V):∀kvs:List (κ × V),i8 (kvs.map λkv=>if kv.1=k then (kv.1,y) else kv) j=(i8 kvs j).map λx=>if j=k then y else x
 | []=>rfl
 | p::r=>by
  have ih:=A6 k j y r;rw[ai];by_cases h:p.1=k
  .rw[if_pos h]
   by_cases e:p.1=j
   .rw[gM (p:=(p.1,y)) e,gM e,bo,if_pos (e.symm.trans h)]
   .rw[gN (p:=(p.1,y)) e,gN e,ih]
  .rw[if_neg h]
   by_cases e:p.1=j
   .rw[gM (p:=p) e,gM e,bo,if_neg (λz=>h (e.trans z))]
   .rw[gN (p:=p) e,gN e,ih]
theorem yb (k j:κ)(y:V):∀kvs:List (κ × V),i8 kvs k=none->i8 (kvs++[(k,y)]) j=if j=k then some y else i8 kvs j
 | [],_=>by
  by_cases e:k=j
  .rw[if_pos e.symm];exact gM (p:=(k,y)) e
  .rw[if_neg (λz=>e z.symm)];exact gN (p:=(k,y)) e
 | p::r,hn=>by
  rw[aN];have hk:¬ p.1=k:=λz=>by rw[gM z] at hn;cases hn
  rw[gN hk] at hn;have ih:=yb k j y r hn;by_cases e:p.1=j
  .rw[gM e,gM e,if_neg (λz=>hk (e.trans z))]
  .rw[gN e,gN e,ih]
theorem Iu (kvs:List (κ × V))(k j:κ)(y:V):i8 (kN kvs k y) j=if j=k then some y else i8 kvs j:=by
 unfold kN;by_cases a:(kvs.any λkv=>decide (kv.1=k))=true
 .rw[if_pos a,A6]
  rw[rj] at a;by_cases e:j=k
  .obtain⟨x,hx⟩:=bX.mp a
   rw[if_pos e,e,hx,bo,if_pos rfl]
  .rw[if_neg e]
   cases i8 kvs j with
   | none=>rfl
   | some x=>rw[bo,if_neg e]
 .rw[if_neg a]
  refine yb k j y kvs ?_;rw[rj] at a
  cases q:i8 kvs k with
  | none=>rfl
  | some x=>rw[q] at a;exact (a rfl).elim
theorem oG (kvs:List (κ × V))(k:κ)(v:V):(kN kvs k v).length<=kvs.length+1:=by
 unfold kN;split
 .rw[ar];omega
 .rw[aQ,ak,aL];omega
theorem so.mD (r:so o u):o.isSome=u.isSome:=by
 cases o with
 | none=>cases u with
  | none=>rfl
  | some _=>exact (show False from r).elim
 | some _=>cases u with
  | none=>exact (show False from r).elim
  | some _=>rfl
theorem so.getD (r:so o u)(rd:RelV d d'):RelV (o.getD d) (u.getD d'):=by
 cases o with
 | none=>cases u with
  | none=>exact rd
  | some _=>exact (show False from r).elim
 | some _=>cases u with
  | none=>exact (show False from r).elim
  | some _=>exact r
theorem KV.val {kvs:List (κ × V)}{vs:List (κ × ah)}(r:KV kvs vs)(k:κ):so (i8 kvs k) (valueAt vs k):=by
 unfold KV at r
 induction r with
 | nil=>exact True.intro
 | @cons p q ps qs h t ih =>
  obtain⟨h1,h2⟩:=h;by_cases e:p.1=k
  .have e':q.1=k:=h1.symm.trans e
   have b:valueAt (q::qs) k=some q.2:=by simp[valueAt,bK,e']
   rw[gM e,b];exact h2
  .have e':¬ q.1=k:=λz=>e (h1.trans z)
   have b:valueAt (q::qs) k=valueAt qs k:=by simp[valueAt,bK,e']
   rw[gN e,b];exact ih
theorem KV.any (r:KV kvs vs)(k:κ):(kvs.any λkv=>decide (kv.1=k))=vs.any λkv=>decide (kv.1=k):=by
 unfold KV at r
 induction r with
 | nil=>rfl
 | cons h t ih=>rw[bF,bF,ih,h.1]
theorem KV.PU (r:KV kvs vs)(k:κ)(ry:RelV y u) :
  KV (kvs.map λkv=>if kv.1=k then (kv.1,y) else kv) (vs.map λkv=>if kv.1=k then (kv.1,u) else kv):=by
 unfold KV at r ⊢
 induction r with
 | nil=>exact .nil
 | @cons p q ps qs h t ih =>
  rw[ai,ai];refine .cons ?_ ih;obtain⟨h1,h2⟩:=h;by_cases e:p.1=k
  .rw[if_pos e,if_pos (h1.symm.trans e)];exact⟨h1,ry⟩
  .rw[if_neg e,if_neg (λz=>e (h1.trans z))];exact⟨h1,h2⟩
theorem KV.put (r:KV kvs vs)(k:κ)(ry:RelV y u):KV (kN kvs k y) (stored vs k u):=by
 unfold kN stored;rw[r.any k];by_cases e:(vs.any λkv=>decide (kv.1=k))=true
 .rw[if_pos e,if_pos e];exact r.PU k ry
 .rw[if_neg e,if_neg e];exact Paired.snoc r ⟨rfl,ry⟩
theorem KV.keys {kvs:List (κ × V)}{vs:List (κ × ah)}(r:KV kvs vs):kvs.map (·.1)=vs.map (·.1):=by
 unfold KV at r
 induction r with
 | nil=>rfl
 | cons h t ih=>rw[ai,ai,ih,h.1]
theorem KV.length (r:KV kvs vs):kvs.length=vs.length:=Paired.length r
end
theorem vc (r:RelV (kV k) u):(fL P w).is k u=true:=by
 cases k with
 | inl i=>obtain⟨t,e⟩:=(show ∃t,u=ah.int i t from r);subst e;exact AD P w i t
 | inr x=>obtain⟨t,e⟩:=(show ∃t,u=ah.str x t from r);subst e;exact AE P w x t
theorem yd:∀{ks:List Key} {us:List ah},eS (ks.map kV) us->ItemsAre (fL P w) ks us
 | [],_,r=>by rw[aI] at r;cases r;exact .nil
 | k::ks,_,r=>by
  rw[ai] at r
  cases r with
  | cons h t=>exact .cons (vc h) (yd t)
noncomputable abbrev KT (H:Hp):List (List Key × V)->List (List Key × Addr × ah)->Prop:=Paired λp q=>p.1=q.1/\H q.2.1=some (.tup (p.1.map kV))/\RelV p.2 q.2.2
theorem KT.val {H:Hp}{kvs:List (List Key × V)}{xs:List (List Key × Addr × ah)}(r:KT H kvs xs)(k:List Key):so (i8 kvs k) ((atKey xs k).map (·.2)):=by
 induction r with
 | nil=>exact True.intro
 | @cons p q ps qs h t ih =>
  obtain⟨h1,_,h2⟩:=h;by_cases e:p.1=k
  .have e':q.1=k:=h1.symm.trans e
   have b:atKey (q::qs) k=some q.2:=by simp[atKey,bK,e']
   rw[gM e,b];exact h2
  .have e':¬ q.1=k:=λz=>e (h1.trans z)
   have b:atKey (q::qs) k=atKey qs k:=by simp[atKey,bK,e']
   rw[gN e,b];exact ih
theorem KT.PU (r:KT H kvs xs)(k:List Key)(ry:RelV y u) :
  KT H (kvs.map λkv=>if kv.1=k then (kv.1,y) else kv) (xs.map (putAt k u)):=by
 induction r with
 | nil=>exact .nil
 | @cons p q ps qs h t ih =>
  rw[ai,ai];refine .cons ?_ ih;obtain⟨h1,h2,h3⟩:=h;unfold putAt;by_cases e:p.1=k
  .rw[if_pos e,if_pos (h1.symm.trans e)];exact⟨h1,h2,ry⟩
  .rw[if_neg e,if_neg (λz=>e (h1.trans z))];exact⟨h1,h2,h3⟩
theorem KT.put (r:KT H kvs xs)(k:List Key)(hb:H b=some (.tup (k.map kV)))(ry:RelV y u) :
  KT H (kN kvs k y) (storedH xs k b u):=by
 have e:(kvs.any λkv=>decide (kv.1=k))=(atKey xs k).isSome:=by
  rw[rj,(r.val k).mD,Option.isSome_map]
 unfold kN storedH;rw[e];by_cases q:(atKey xs k).isSome=true
 .rw[if_pos q,if_pos q];exact r.PU k ry
 .rw[if_neg q,if_neg q];exact Paired.snoc r ⟨rfl,hb,ry⟩
theorem KT.keeps (r:KT H kvs xs)(ht:∀b ys,H b=some (.tup ys)->H' b=some (.tup ys)):KT H' kvs xs :=
 Paired.Oy r λ_ _ z=>⟨z.1,ht _ _ z.2.1,z.2.2⟩
section
theorem Nv (ok:oq P w H h)(e:Rd H a u):gT P w H h a u:=e.ok ok
theorem vd (ok:oq P w H h)(e:Rd H a (.dK kvs)):kvs.length<=aC/\(a == sysModules)=false/\∃vs,KV kvs vs/\h.DictOf (fL P w) a vs :=
 show gT P w H h a (.dK kvs) from Nv ok e
theorem Nw (ok:oq P w H h)(e:H a=some (.dK kvs)):kvs.length<=aC/\(a == sysModules)=false/\∃vs,KV kvs vs/\h.DictOf (fL P w) a vs:=vd ok (.inl e)
theorem pX {ks:List Key}(ok:oq P w H h)(e:H a=some (.tup (ks.map kV))):(tupleKind (fL P w)).is h ks a:=by
 obtain⟨_,its,r,o,h1,h2,n,h3,_⟩:=(show gT P w H h a (.tup (ks.map kV)) from ok a _ e);exact⟨o,its.toArray,n,h1,h2,h3,by simpa using yd r⟩
theorem vf (ok:oq P w H h)(e:Rd H a (.dT kvs)):kvs.length<=aC/\(a == sysModules)=false /\
  ∃xs,KT H kvs xs/\h.DictOfH (tupleKind (fL P w)) a xs:=by
 obtain⟨z,y,xs,r,o,es,ep,h1,h2,h3,h4,h5⟩:=(show gT P w H h a (.dT kvs) from Nv ok e);refine⟨z,y,xs,r,o,es,ep,h1,h2,h3,h4,λx hx=>?_,h5⟩
 have all:∀{l:List (List Key × V)} {m:List (List Key × Addr × ah)},KT H l m->∀x∈m,(tupleKind (fL P w)).is h x.1 x.2.1:=by
  intro l m q
  induction q with
  | nil=>intro x hx;exact nomatch hx
  | @cons p q ps qs hq t ih =>
   intro x hx;rcases ax.mp hx with e | hx
   .subst e
    exact pX ok (by rw[<- hq.1];exact hq.2.1)
   .exact ih x hx
 exact all r x hx
theorem Nx (ok:oq P w H h)(e:H a=some (.dT kvs)):kvs.length<=aC/\(a == sysModules)=false /\
  ∃xs,KT H kvs xs/\h.DictOfH (tupleKind (fL P w)) a xs:=vf ok (.inl e)
end
noncomputable def j9 (H:Hp)(a:Addr)(y:V)(r:Option V):Prop :=
 (∃kvs k,Rd H a (.dK kvs)/\y=kV k/\r=i8 kvs k)\/∃kvs k b,Rd H a (.dT kvs)/\y=.ref b/\H b=some (.tup (k.map kV))/\r=i8 kvs k
noncomputable def tR (H:Hp)(a:Addr)(y v:V)(H':Hp):Prop :=
 (∃kvs k,H a=some (.dK kvs)/\y=kV k/\kvs.length<aC/\H'=fz H a (.dK (kN kvs k v))) \/
 ∃kvs k b,H a=some (.dT kvs)/\y=.ref b/\H b=some (.tup (k.map kV))/\kvs.length<aC/\H'=fz H a (.dT (kN kvs k v))
theorem j9.k {H:Hp}{a:Addr}{kvs:List (Key × V)}{k:Key}(e:H a=some (.dK kvs)):j9 H a (kV k) (i8 kvs k):=.inl ⟨kvs,k,.inl e,rfl,rfl⟩
theorem j9.t {H:Hp}{a b:Addr}{kvs:List (List Key × V)}{k:List Key}(e:H a=some (.dT kvs))(eb:H b=some (.tup (k.map kV))):j9 H a (.ref b) (i8 kvs k):=.inr ⟨kvs,k,b,.inl e,rfl,eb,rfl⟩
theorem tR.k {H:Hp}{a:Addr}{kvs:List (Key × V)}{k:Key}{v:V}(e:H a=some (.dK kvs))(hl:kvs.length<aC):tR H a (kV k) v (fz H a (.dK (kN kvs k v))):=.inl ⟨kvs,k,e,rfl,hl,rfl⟩
theorem tR.t {H:Hp}{a b:Addr}{kvs:List (List Key × V)}{k:List Key}{v:V}(e:H a=some (.dT kvs))(eb:H b=some (.tup (k.map kV)))(hl:kvs.length<aC) :
  tR H a (.ref b) v (fz H a (.dT (kN kvs k v))):=.inr ⟨kvs,k,b,e,rfl,eb,hl,rfl⟩
section
theorem Inv.big (I:Inv X pins σ H s):sysModules<s.heap.objs.size:=by
 have h:bh<s.heap.objs.size:=(I.mod.glob.keeps I.bk).lt;exact cG (!2) h
theorem F6 {Q:ah->aA->Prop}(hu:A.units+1<cLine)(I:Inv X pins σ H s)(g:j9 H a y (some v))(ry:RelV y u)(h:∀w' s',Inv X pins σ H s'->RelV v w'->Q w' s') :
  aH (!11) A (getItem (.ref a) u) Q E s:=by
 rcases g with⟨kvs,k,e,ey,l⟩ | ⟨kvs,k,b,e,ey,eb,l⟩
 .subst ey
  obtain⟨z,hd,vs,pL,dd⟩:=vd I.hok e;obtain⟨w',hw,oh⟩:=so.some_of (v:=v) (o:=valueAt vs k) (by rw[l];exact pL.val k);exact wpAny_getItem_of (vc ry) dd.mapOf hw (h w' _ (I.tok _) oh)
 .subst ey
  cases (show u=ah.ref b from ry);obtain⟨z,hd,xs,pL,dd⟩:=vf I.hok e;obtain⟨w',hw,oh⟩:=so.some_of (v:=v) (o:=(atKey xs k).map (·.2)) (by rw[l];exact pL.val k);obtain⟨p,hp,SR⟩:=cm.mp hw;refine wpAny_getItem_heap (tupleKind_room_in1 hu) (pX I.hok eb) dd hp ?_;rw[SR];exact h w' _ (I.tok _) oh
theorem V9 {Q:ah->aA->Prop}(hu:A.units+1<cLine)(I:Inv X pins σ H s)(g:j9 H a y o)(ry:RelV y u)(h:∀s',Inv X pins σ H s'->Q (.bool o.isSome) s') :
  aH (!11) A (compareOp .In u (.ref a)) Q E s:=by
 rcases g with⟨kvs,k,e,ey,l⟩ | ⟨kvs,k,b,e,ey,eb,l⟩
 .subst ey
  obtain⟨z,hd,vs,pL,dd⟩:=vd I.hok e;refine wpAny_in_of (vc ry) hd dd.mapOf ?_;rw[<- (pL.val k).mD,<- l];exact h _ (I.tok _)
 .subst ey
  cases (show u=ah.ref b from ry);obtain⟨z,hd,xs,pL,dd⟩:=vf I.hok e;refine wpAny_in_heap (tupleKind_room_in1 hu) (pX I.hok eb) hd dd ?_;have q:=(pL.val k).mD;rw[Option.isSome_map] at q;rw[<- q,<- l];exact h _ (I.tok _)
theorem L0 (hu:A.units+1<cLine)(I:Inv X pins σ H s)(g:j9 H a y o)(ry:RelV y u)(h:∀s',Inv X pins σ H s'->Q (.bool (!o.isSome)) s') :
  aH (!11) A (compareOp .NotIn u (.ref a)) Q E s:=by
 rcases g with⟨kvs,k,e,ey,l⟩ | ⟨kvs,k,b,e,ey,eb,l⟩
 .subst ey
  obtain⟨z,hd,vs,pL,dd⟩:=vd I.hok e;refine wpAny_notIn_of (vc ry) hd dd.mapOf ?_;rw[<- (pL.val k).mD,<- l];exact h _ (I.tok _)
 .subst ey
  cases (show u=ah.ref b from ry);obtain⟨z,hd,xs,pL,dd⟩:=vf I.hok e;refine wpAny_notIn_heap (tupleKind_room_in1 hu) (pX I.hok eb) hd dd ?_;have q:=(pL.val k).mD;rw[Option.isSome_map] at q;rw[<- q,<- l];exact h _ (I.tok _)
theorem uB {h':Heap}{t':Nat}{ob:HO}(I:Inv X pins σ H s)(mu:RA (H a))(hs:Heap.SameBut a s.heap h')(he:∃q,h'.get? a=some q)(new:gT X.prog X.w (fz H a ob) h' a ob) :
  Inv X pins σ (fz H a ob) { s with heap:=h',toks:=t' } :=
 I.write (x:=a) (e:=a) mu (.inl rfl) (λb q hb z=>(hs.2 b hb).trans z) he new
theorem Iv (z:kvs.length<=aC)(hd:(a == sysModules)=false)(pL:KV kvs vs)(dd:h'.DictOf (fL P w) a vs) :
  gT P w H' h' a (.dK kvs):=⟨z,hd,vs,pL,dd⟩
theorem F7 {H':Hp}{Q:Unit->aA->Prop}(hu:A.units+1<cLine)(I:Inv X pins σ H s)(g:tR H a y v H')(ry:RelV y u)(rv:RelV v r)(h:∀s',Inv X pins σ H' s'->Q () s') :
  aH (!11) A (setItem (.ref a) u r) Q E s:=by
 rcases g with⟨kvs,k,e,ey,l,eH⟩ | ⟨kvs,k,b,e,ey,eb,l,eH⟩
 .subst ey eH
  obtain⟨z,hd,vs,pL,dd⟩:=Nw I.hok e;have hz:vs.length<=aC:=by rw[<- pL.length];exact z
  have hl:(kN kvs k v).length<=aC:=by have:=oG kvs k v;omega
  refine wpAny_setItem_pairs (hsz:=hz) (vc ry) dd λh' L1 hs=>h _ ?_;have he:∃q,h'.get? a=some q:=let ⟨q,_,_,hq,_⟩:=L1;⟨q,hq⟩;exact uB I (by rw[e];exact True.intro) hs he (Iv hl hd (pL.put k rv) L1)
 .subst ey eH
  cases (show u=ah.ref b from ry);obtain⟨z,hd,xs,pL,dd⟩:=Nx I.hok e;have hz:xs.length<=aC:=by rw[<- Paired.length pL];exact z
  have hl:(kN kvs k v).length<=aC:=by have:=oG kvs k v;omega
  refine wpAny_setItem_heap (hsz:=hz) (tupleKind_room_in1 hu) (pX I.hok eb) dd λh' L1 hs=>h _ ?_;obtain⟨q,es,ep,hq,h2,h3,h4,_,h5⟩:=L1;refine uB I (by rw[e];exact True.intro) hs ⟨q,hq⟩ ⟨hl,hd,_,(pL.put k eb rv).keeps λc ys ec=>?_,q,es,ep,hq,h2,h3,h4,h5⟩;rw[d6 (Ry ec e (λz=>nomatch z))];exact ec
end
noncomputable def L3 (i:Expr):Prop:=∀ov iv,subscripted i false ov iv=operate [ov,iv] (getItem ov iv)
theorem L4 {prog:bf}{w:World}{A:Around}{E:ah->aA->Prop}{s:aA}{env:Env}{value slice:Expr}{pos:Pos}{T id:String}{Q:ah->aA->Prop}
  (hl:typeLookup (.type T) "__getitem__" = pure (some (.builtin id))) (hs:L3 slice)
  (h:aH (!12) A (eval value env) (λo s₁=>aH (!12) A (eval slice env) (λi s₂=>s₂.TypeIs o T/\aH (!12) A (getItem o i) Q E s₂) E s₁) E s) :
  aH (!12) A (eval (.Subscript value slice pos) env) Q E s:=by
 refine Subscript_ (cf h (λo s₁ h₁=>cf h₁ (λi s₂ h₂=>?_) λ_ _ x=>x) λ_ _ x=>x);obtain⟨hT,h₂⟩:=h₂;unfold subscriptTail;refine af ?_;rw[getitemInPython_of_ne hT.not_modules];refine af (wpAny_specialOf hT hl ?_)
 have fin:aH (!12) A (subscripted slice false o i) (λr s₃=>aH (!12) A (letTemporaryGo value o r >>= λ_=>pure r) Q E s₃) E s₂:=by
  rw[hs o i];exact wpAny_operating (cf h₂ (λr s₃ h₃=>af (wpAny_letTemporaryGo (am h₃))) λ_ _ x=>x)
 first
  | exact am (af fin)
  | exact af (am (af fin))
  | exact af fin
theorem A7 (I:Inv X pins σ H s)(g:j9 H a y o):s.TypeIs (.ref a) "dict" := by
 rcases g with⟨kvs,k,e,_,_⟩ | ⟨kvs,k,b,e,_,_,_⟩
 .obtain⟨_,_,vs,_,dd⟩:=vd I.hok e
  exact dd.typeIs
 .obtain⟨_,_,xs,_,dd⟩:=vf I.hok e
  exact dd.typeIs
noncomputable def Ny (td ty:TE):TE:=λσ H Q=>td σ H λx H1=>ty σ H1 λy H2=>∃a v,x=.ref a/\j9 H2 a y (some v)/\Q v H2
noncomputable def V' (ty td:TE):TE:=λσ H Q=>ty σ H λy H1=>td σ H1 λx H2=>∃a o,x=.ref a/\j9 H2 a y o/\Q (.bl o.isSome) H2
noncomputable def L5 (ty td:TE):TE:=λσ H Q=>ty σ H λy H1=>td σ H1 λx H2=>∃a o,x=.ref a/\j9 H2 a y o/\Q (.bl (!o.isSome)) H2
noncomputable def Nz (td ty tv:TE):TS:=λD σ H=>tv σ H λv H1=>td σ H1 λx H2=>ty σ H2 λy H3=>∃a H4,x=.ref a/\tR H3 a y v H4/\D.nx σ H4
section
theorem L6 (hu:X.A.units+1<cLine)(ho:PE X o td)(hi:PE X i ty)(hs:L3 i):PE X (.Subscript o i pos) (Ny td ty):=by
 rw[10];refine L4 PySem.F.slot_dict_getitem.lookup hs (gr (ho pins s σ H _ I h) λu s1 ⟨x,H1,I1,rx,q1⟩=>gr (hi pins s1 σ H1 _ I1 q1) λiv s2 ⟨y,H2,I2,ry,a,v,ex,g,q2⟩=>?_);subst ex;obtain rfl:u=ah.ref a:=rx;exact⟨A7 I2 g,F6 hu I2 g ry λw' s3 I3 oh=>⟨v,H2,I3,oh,q2⟩⟩
theorem Iw (hu:X.A.units+1<cLine)(hi:PE X i ty)(ho:PE X o td):PC X .In i o (V' ty td):=by
 rw[10];refine gr (hi pins s σ H _ I h) λiv s1 ⟨y,H1,I1,ry,q1⟩=>gr (ho pins s1 σ H1 _ I1 q1) λu s2 ⟨x,H2,I2,rx,a,ov,ex,g,q2⟩=>?_;subst ex;obtain rfl:u=ah.ref a:=rx;exact V9 hu I2 g ry λs3 I3=>⟨.bl ov.isSome,H2,I3,rfl,q2⟩
theorem F8 (hu:X.A.units+1<cLine)(hi:PE X i ty)(ho:PE X o td):PC X .NotIn i o (L5 ty td):=by
 rw[10];refine gr (hi pins s σ H _ I h) λiv s1 ⟨y,H1,I1,ry,q1⟩=>gr (ho pins s1 σ H1 _ I1 q1) λu s2 ⟨x,H2,I2,rx,a,ov,ex,g,q2⟩=>?_;subst ex;obtain rfl:u=ah.ref a:=rx;exact L0 hu I2 g ry λs3 I3=>⟨.bl (!ov.isSome),H2,I3,rfl,q2⟩
theorem L7 (hu:X.A.units+1<cLine)(ho:PE X o td)(hi:PE X i ty)(hv:PE X value tv)(hs:swapsWith value (some (.Subscript o i iQ)) pos.line X.env=pure false) :
  PS X (.Assign [.Subscript o i iQ] value pos) (Nz td ty tv):=by
 rw[22];refine wpAny_Assign_Subscript (gr (hv pins s σ H _ I h) λr s1 ⟨v,H1,I1,rv,q1⟩=>gr (ho pins s1 σ H1 _ I1 q1) λu s2 ⟨x,H2,I2,rx,q2⟩=>gr (hi pins s2 σ H2 _ I2 q2) λiv s3 ⟨y,H3,I3,ry,a,H4,ex,g,q3⟩=>?_) hs;subst ex;obtain rfl:u=ah.ref a:=rx;exact F7 hu I3 g ry rv λs4 I4=>⟨σ,H4,I4,q3⟩
end
theorem A8 (h:Heap)(hb:sysModules<h.objs.size):gT P w H (h.push { cls:=.type "dict",data:=.dict #[] }) h.objs.size (.dK []) :=
 ⟨bZ _,beq_eq_false_iff_ne.mpr (Ne.symm (aR hb)),[],.nil,Heap.DictOf.new h⟩
theorem A9 (h:Heap)(hb:sysModules<h.objs.size):gT P w H (h.push { cls:=.type "dict",data:=.dict #[] }) h.objs.size (.dT []) :=
 ⟨bZ _,beq_eq_false_iff_ne.mpr (Ne.symm (aR hb)),[],.nil,_,#[],0,aB _ rfl,⟨rfl,rfl,rfl⟩,rfl,rfl,cg⟩
noncomputable def Iy:TE:=λ_ H Q=>∀p,H p=none->Q (.ref p) (fz H p (.dK []))
noncomputable def Iz:TE:=λ_ H Q=>∀p,H p=none->Q (.ref p) (fz H p (.dT []))
section
theorem IA:PE X (.Dict [] [] pos) Iy:=λpins s σ H Q I h =>
 wpAny_Dict_empty ⟨.ref s.heap.objs.size,_,I.laid (a:=s.heap.objs.size) (o:=.dK []) (t':=s.toks) (λ_ _ q=>aj _ q) (aw _) (A8 s.heap I.big),rfl,h _ (!34)⟩
theorem IB:PE X (.Dict [] [] pos) Iz:=λpins s σ H Q I h =>
 wpAny_Dict_empty ⟨.ref s.heap.objs.size,_,I.laid (a:=s.heap.objs.size) (o:=.dT []) (t':=s.toks) (λ_ _ q=>aj _ q) (aw _) (A9 s.heap I.big),rfl,h _ (!34)⟩
end
noncomputable def C9:List (TE × TE)->St->Hp->(List (V × V)->Hp->Prop)->Prop
 | [],_,H,Q=>Q [] H
 | (tk,tv)::r,σ,H,Q=>tk σ H λx H1=>tv σ H1 λy H2=>C9 r σ H2 λps H3=>Q ((x,y)::ps) H3
noncomputable abbrev VV:List (V × V)->List (ah × ah)->Prop:=Paired λp q=>RelV p.1 q.1/\RelV p.2 q.2
noncomputable def U0 (X:Cx)(pos:Pos)(keys:List (Option Expr))(values:List Expr)(PV:List (TE × TE)):Prop :=
 ∀(pins:List (!19)) (s:aA) (σ:St) (H:Hp) (Q:List (V × V)->Hp->Prop),Inv X pins σ H s->C9 PV σ H Q ->
  aH (!11) X.A (evalPairs (pairTrees keys values X.env pos)) (λvs s'=>∃ps H',Inv X pins σ H' s'/\VV ps vs/\Q ps H') X.xe s
theorem L8:U0 X pos [] [] []:=λpins s σ H Q I h=>pairTrees_nil_walk ⟨[],H,I,.nil,h⟩
theorem IC (hk:PE X k tk)(hv:PE X v tv)(hr:U0 X pos ks vs PV) :
  U0 X pos (some k::ks) (v::vs) ((tk,tv)::PV):=λpins s σ H Q I h =>
 pairTrees_cons_walk (gr (hk pins s σ H _ I h) λu s1 ⟨x,H1,I1,rx,q1⟩=>gr (hv pins s1 σ H1 _ I1 q1) λw2 s2 ⟨y,H2,I2,ry,q2⟩ =>
  gr (hr pins s2 σ H2 _ I2 q2) λws s3 ⟨ps,H3,I3,pL,q3⟩=>⟨(x,y)::ps,H3,I3,.cons ⟨rx,ry⟩ pL,q3⟩)
noncomputable def vg (kvs more:List (Key × V)):List (Key × V):=more.foldl (λacc kv=>kN acc kv.1 kv.2) kvs
theorem KV.merge:∀{more:List (Key × V)} {rs:List (Key × ah)} {kvs:List (Key × V)} {vs:List (Key × ah)},KV more rs->KV kvs vs->KV (vg kvs more) (merged vs rs):=by
 intro more rs kvs vs r;unfold KV at r
 induction r generalizing kvs vs with
 | nil=>intro q;exact q
 | @cons p q ps qs h t ih =>
  intro r0
  have e:KV (kN kvs p.1 p.2) (stored vs q.1 q.2):=by
   have:=r0.put p.1 h.2;rw[<- h.1];exact this
  exact ih e
theorem pQ:∀(more kvs:List (Key × V)),(vg kvs more).length<=kvs.length+more.length
 | [],kvs=>by show kvs.length<=kvs.length+0;omega
 | p::r,kvs=>by
  have h1:=pQ r (kN kvs p.1 p.2);have h2:=oG kvs p.1 p.2;show (vg (kN kvs p.1 p.2) r).length<=_;rw[ak];omega
theorem vh:∀{kvs:List (Key × V)} {ws:List (ah × ah)},VV (kvs.map λkv=>(kV kv.1,kv.2)) ws->∃rs,Carries (fL P w) ws rs/\KV kvs rs
 | [],_,r=>by rw[aI] at r;cases r;exact⟨[],True.intro,.nil⟩
 | p::kvs,_,r=>by
  rw[ai] at r
  cases r with
  | @cons a b as bs h t =>
   obtain⟨rs,c,q⟩:=vh (P:=P) (w:=w) t;obtain⟨b1,b2⟩:=b;exact⟨(p.1,b2)::rs,⟨vc h.1,rfl,c⟩,.cons ⟨rfl,h.2⟩ q⟩
noncomputable def SS (PV:List (TE × TE)):TE:=λσ H Q=>∀p,H p=none->C9 PV σ (fz H p (.dK [])) λps H2=>H2 p=some (.dK [])/\∃kvs:List (Key × V),ps=kvs.map (λkv=>(kV kv.1,kv.2))/\kvs.length<=15/\Q (.ref p) (fz H2 p (.dK (vg [] kvs)))
theorem L9 (h:U0 X pos keys values PV)(u4:keys.all (·.isSome)=true)(hl:keys.length=values.length)(h0:keys≠[])
  (ZK:keys.length<=15):PE X (.Dict keys values pos) (SS PV):=by
 intro pins s σ H Q I q;have hn:=I.hok.fresh (aw s.heap.objs.size);have I1:=I.laid (a:=s.heap.objs.size) (o:=.dK []) (h':=s.heap.push { cls:=.type "dict",data:=.dict #[] }) (t':=s.toks) (λ_ _ q=>aj _ q) (aw _) (A8 s.heap I.big);refine wpAny_Dict_walk (knd:=fL X.prog X.w) u4 hl h0 ZK (gr (h pins _ σ _ _ I1 (q _ hn)) λws s2 ⟨ps,H2,I2,pL,e,kvs,ep,lk,q2⟩=>?_);subst ep;obtain⟨rs,c,rk⟩:=vh (P:=X.prog) (w:=X.w) pL;obtain⟨z,hd,SU,r0,dd⟩:=Nw I2.hok e;cases r0;refine⟨rs,c,dd,λh' L1 hs=>⟨.ref s.heap.objs.size,_,?_,rfl,q2⟩⟩
 have hz:(vg [] kvs).length<=aC:=by
  have h1:=pQ kvs [];rw[aL] at h1;rw[sizeLine_eq];omega
 have he:∃q,h'.get? s.heap.objs.size=some q:=let ⟨q,_,_,hq,_⟩:=L1;⟨q,hq⟩;exact uB I2 (by rw[e];exact True.intro) hs he (Iv hz hd (rk.merge .nil) L1)
structure M2 (X:Cx) (o:Expr) (m:Str) (i6:Pos) (e f:Expr) (hV:Pos):Prop where
 base:attributeBase o m X.env (eval o X.env)=eval o X.env
 Wa:((backTo hV (starEach [e,f] X.env)).all (λx=>!x.1) && (backToKw hV (keywordEach [] X.env)).all (λx=>x.1.isSome)
  && decide (([e,f]:List Expr).length+([]:List Keyword).length+(if ([]:List Keyword).isEmpty then 0 else 1)<30))=true
 line:(i6.endLine == hV.line)=true
 trees:backTo hV (starEach [e,f] X.env)=[(false,eval e X.env),(false,eval f X.env)]
noncomputable def Wb (H:Hp)(a:Addr):Prop:=(∃kvs,Rd H a (.dK kvs))\/∃kvs,Rd H a (.dT kvs)
theorem PX (I:Inv X pins σ H s)(d:Wb H a) :
  s.TypeIs (.ref a) "dict" /\ (∀b,ah.ref a=.ref b->∃ob,s.heap.get? b=some ob/\ob.dict=none)/\(a == sysModules)=false:=by
 rcases d with⟨kvs,e⟩ | ⟨kvs,e⟩
 .obtain⟨_,hd,vs,_,dd⟩:=vd I.hok e
  refine⟨dd.typeIs,λb q=>?_,hd⟩;cases q;obtain⟨ob,_,_,h1,h2,_⟩:=dd;exact⟨ob,h1,h2.2.1⟩
 .obtain⟨_,hd,xs,_,dd⟩:=vf I.hok e
  refine⟨dd.typeIs,λb q=>?_,hd⟩;cases q;obtain⟨ob,_,_,h1,h2,_⟩:=dd;exact⟨ob,h1,h2.2.1⟩
section
theorem PY {Q:ah->aA->Prop}(hu:A.units+1<cLine)(I:Inv X pins σ H s)(g:j9 H a y o)(ry:RelV y u)(rd:RelV d r)(h:∀w' s',Inv X pins σ H s'->RelV (o.getD d) w'->Q w' s') :
  aH (!11) A (call (.builtin "dict.get") [.ref a,u,r]) Q E s:=by
 rcases g with⟨kvs,k,e,ey,l⟩ | ⟨kvs,k,b,e,ey,eb,l⟩
 .subst ey
  obtain⟨z,hd,vs,pL,dd⟩:=vd I.hok e;refine call_meetsIn PySem.F.slot_dict_get dd.typeIs PySem.F.entry_dict_get (PySem.F.args_dict_get_3 _ _ _) (meets_dict_get_default (fL X.prog X.w) a (vc ry) hd r) ⟨_,dd.mapOf,h _ _ (I.tok _) ?_⟩;rw[l];exact (pL.val k).getD rd
 .subst ey
  cases (show u=ah.ref b from ry);obtain⟨z,hd,xs,pL,dd⟩:=vf I.hok e;refine call_meetsIn PySem.F.slot_dict_get dd.typeIs PySem.F.entry_dict_get (PySem.F.args_dict_get_3 _ _ _) (meetsH_dict_get_default (tupleKind (fL X.prog X.w)) a b hd r) ⟨tupleKind_room_in1 hu,k,xs,pX I.hok eb,dd,h _ _ (I.tok _) ?_⟩;rw[l];exact (pL.val k).getD rd
end
noncomputable def ID (td ty tx:TE):TE:=λσ H Q=>td σ H λx H1=>∃a,x=.ref a/\Wb H1 a/\ty σ H1 λy H2=>tx σ H2 λz H3=>∃o,j9 H3 a y o/\Q (o.getD z) H3
section
theorem IE (hu:X.A.units+1<cLine)(ho:PE X o td)(he:PE X e ty)(hf:PE X f tx)(m:M2 X o "get" i6 e f hV):PE X (.Call (.Attribute o "get" i6) [e,f] [] hV) (ID td ty tx):=by
 rw[10];refine wpAny_Call_method m.base m.Wa m.line PySem.F.plainAttrs_dict PySem.F.slot_dict_get PySem.F.type_dict_get (gr (ho pins s σ H _ I h) λu s1 ⟨x,H1,I1,rx,a,ex,d,q1⟩=>?_);subst ex;obtain rfl:u=ah.ref a:=rx;obtain⟨t1,t2,_⟩:=PX I1 d;refine⟨t1,t2,?_⟩;rw[m.trees]
 refine Calls.callWith_builtin rfl (Calls.evalArgs_plain (Calls.spliced_cons (gr (he pins s1 σ H1 _ I1 q1) λiv s2 ⟨y,H2,I2,ry,q2⟩ =>
  Calls.spliced_cons (gr (hf pins s2 σ H2 _ I2 q2) λfv s3 ⟨z,H3,I3,rz,ov,g,q3⟩=>Calls.spliced_nil ?_))))
 exact PY hu I3 g ry rz λw' s4 I4 oh=>⟨_,H3,I4,oh,q3⟩
end
end L2
namespace PySem
open Sem (wp)
open AutoSeq1 (wpAny_loadPart')
theorem tS (l b:Addr)(xs ys:Array ah)(n n2:Nat)(dd:Option Addr)(sl:Array (Option ah))(h0:¬ (!xs.isEmpty && Builtin.List.listTooLong (xs.size+ys.size))=true)(h1:xs.size<=aC)(h2:(xs++ys).size<=aC+1) :
  Meets (Builtin.«list.extend» ⟨[.ref l,.ref b],[]⟩) (λ_ R s=>s.heap.get? l=some { cls:=.type "list",dict:=none,data:=.seq xs n,slots:=#[] }/\s.heap.get? b=some { cls:=.type "tuple",dict:=dd,data:=.seq ys n2,slots:=sl } /\
   R (.ok (.ret ah.none)) { s with heap:=s.heap.update l (Obj.mapSeq λx=>x++ys),toks:=s.toks }) :=
 .of_wp λprog w A R s h=>by
  obtain⟨hp,g,d,tk,os⟩:=s;obtain⟨hl,hb,h⟩:=h;have f1:=AutoSeq1.idx_int
  wp_walk using (wpAny_updateSeq hl rfl (hz:=h1) (_hz':=h2)),wpAny_loadPart' hl,wpAny_loadPart' hb
  exact⟨_,rfl,h⟩
end PySem
namespace L2
open PySem PySem.Spec PyProof.Rows
section
variable {X:Cx}{o i e f value:Expr}{td ty tv tx to ti te:TE}{pos iQ i6 hV:Pos}
theorem Ba:QE X (.Dict [] [] pos) Iy:=⟨IA⟩
theorem uD (hu:X.A.units+1<cLine)(ho:QE X o td)(hi:QE X i ty)(hs:L3 i):QE X (.Subscript o i pos) (Ny td ty):=⟨L6 hu ho.run hi.run hs⟩
theorem vi (hu:X.A.units+1<cLine)(ho:QE X o td)(he:QE X e ty)(hf:QE X f tx)(m:M2 X o "get" i6 e f hV):QE X (.Call (.Attribute o "get" i6) [e,f] [] hV) (ID td ty tx):=⟨IE hu ho.run he.run hf.run m⟩
theorem uE (hu:X.A.units+1<cLine)(ho:QE X o td)(hi:QE X i ty)(hv:QE X value tv)(hs:swapsWith value (some (.Subscript o i iQ)) pos.line X.env=pure false:=by rfl):QS X (.Assign [.Subscript o i iQ] value pos) (Nz td ty tv):=⟨L7 hu ho.run hi.run hv.run hs⟩
noncomputable def IF (K:W.Frag):V->List V->Hp->VK->Prop:=λx vs H Q=>∃l b xs zs,x=.ref l/\vs=[.ref b]/\H l=some (.lst xs)/\jt K H b zs/\xs.length+zs.length<=aC/\Q .jm (fz H l (.lst (xs++zs)))
theorem C' (K:W.Frag)(h:X.K=K:=by rfl):VL X "list.extend" (IF K):=by
 subst h;intro pins s σ H x vs v us Q I rx rv h;obtain⟨l,b,xs,zs,rfl,rfl,hH,hB,hz,q⟩:=h;cases rx;obtain⟨u,rfl,ru⟩:=rv.one;cases ru;obtain⟨z,its,n,r,hl,e⟩:=I.CY hH;obtain⟨pI,r2,ht,zq⟩:=I.tuple hB;obtain⟨⟨cls,dd,data,sl⟩,ho,hc,n2,hd⟩:=id ht;simp only at hc hd;subst hc hd;have e1:=r2.length;have hsz:its.toArray.size+pI.toArray.size<=aC:=by rw[aD,aD];omega
 have AV:¬ (!its.toArray.isEmpty && Builtin.List.listTooLong (its.toArray.size+pI.toArray.size))=true:=λz=>by
  rw[u3 hsz,Bool.and_false] at z;cases z
 have sm:(its.toArray++pI.toArray).size<=aC+1:=by rw[Array.size_append];omega
 refine call_meets F.slot_list_extend ⟨_,e,rfl⟩ F.entry_list_extend (F.args_list_extend_2 _ _) (tS l b its.toArray pI.toArray n n2 dd sl AV (!1) sm) ⟨e,ho,?_⟩;exact⟨.jm,_,I.Pl (its':=its++pI) hH e (!4) (r.append r2) (by rw[aQ];exact hz),rfl,q⟩
theorem IntsAre.uF:∀{ns:List Int} {us:List ah},eS (!21) us->IntsAre us ns
 | [],us,h=>by cases h;exact .nil
 | n::ns,us,h=>by
  cases h with
  | cons r t =>
   obtain⟨tk,rfl⟩:=r;exact .cons n tk (IntsAre.uF t)
theorem eS.zE:∀{ns:List Int} {us:List ah},IntsAre us ns->eS (!21) us
 | _,_,.nil=>.nil
 | _,_,.cons n t r=>.cons ⟨t,rfl⟩ (eS.zE r)
theorem jR (ns:List Int):∀j,j<=ns.length->preSum (λa=>ns.getD a 0) j=(ns.take j).sum
 | 0,_=>by simp[preSum]
 | j+1,h=>by
  rw[preSum,jR ns j (!1),cO,List.sum_append];have:ns[j]? = some ns[j]:=by simp
  rw[au,this];simp
theorem rm (K:W.Frag)(hk:X.K=K:=by rfl):gL X (.builtin "sorted") (λxs H Q=>∃(p:Addr) (ns:List Int),xs=[.ref p]/\gx K H p (!21)/\ns.length<64/\∀(l:Addr) (ms:List Int),ms.Perm ns->ms.Pairwise (·<=·)->H l=none->Q (.ref l) (fz H l (.lst (ms.map V.int)))):=by
 subst hk;(intro pins s σ H xs us Q I r h);obtain⟨p,ns,rfl,hp,U1,q⟩:=h;rw[12];cases ru;obtain⟨its,rv,ht,hz⟩:=I.list hp;have hl:=rv.length;rw[ar] at hl;refine sorted_ints ht.isList (IntsAre.uF rv) (!1) λout ms h1 h2 h3=>?_;have hm:=h2.length_eq;have hv:eS (ms.map V.int) out.toList:=eS.zE h1;have hsz:(ms.map V.int).length<=aC:=by rw[ar,show aC=16777216 by decide];omega
 have kp:∀b o,s.heap.get? b=some o->(sortedAll s.heap its out).get? b=some o:=λb o e=>sortedAll_old e;have nw:=sortedAll_at s.heap its out;obtain⟨n,nw⟩:=nw;refine⟨.ref (s.heap.objs.size+1),_,I.laid (t':=s.toks) (o:=.lst (ms.map V.int)) kp (cV _) ⟨hsz,out.toList,n,hv,by simpa using nw⟩,rfl,q _ ms h2 h3 (I.hok.fresh (cV _))⟩
end
noncomputable def SV (o:Obj)(a:Addr)(kvs:List (Key × V)):It :=
 ⟨λi H=>H a=some (.xJ o (.dK kvs))/\i<kvs.length,λi H x H'=>H'=H/\∃k v,kvs[i]? = some (k,v)/\x=kV k,λi H=>H a=some (.xJ o (.dK kvs))/\kvs.length<=i⟩
theorem Ma (h:(fL P w).is k u=true):RelV (kV k) u:=by
 rcases fZ (show uU k u=true from h) with⟨i,t,rfl,rfl⟩ | ⟨x,t,rfl,rfl⟩
 .exact⟨t,rfl⟩
 .exact⟨t,rfl⟩
theorem IG (I:Inv X pins σ H s)(h:H a=some (.xJ o (.dK kvs)))(hd:o.data=.dict es ep) :
  (a == sysModules)=false/\∃vs,KV kvs vs/\s.heap.DictAt (fL X.prog X.w) a vs ep:=by
 obtain⟨e,z,y,vs,r,ob,j7,Ri,e',c,d,k,p,n⟩:=I.hok a _ h;rw[e] at e';cases e';rw[hd] at d;cases d;exact⟨y,vs,r,o,es,e,c,hd,k,p,n⟩
theorem SW {kvs:List (Key × V)}{vs:List (Key × ah)}(r:KV kvs vs){i:Nat}{k:Key}{v:V}(h:kvs[i]? = some (k,v)):∃u,vs[i]? = some (k,u):=by
 have hk:=r.keys;have hl:=r.length;have hi:i<kvs.length:=(aG.mp h).1;have LP:i<vs.length:=by omega
 have e1:(kvs.map (·.1))[i]? = some k:=by rw[az,h];rfl
 have e2:vs[i]? = some vs[i]:=by simp[LP]
 rw[hk,az,e2] at e1;have e3:vs[i].1=k:=Option.some.inj e1;refine⟨vs[i].2,?_⟩;rw[e2,<- e3]
theorem F9 {P:bf}{w:World}{K:W.Frag}{tg:Expr}(a it:Addr){o:Obj}{kvs:List (Key × V)}{es:Array DictEntry}{ep:Nat}(hd:o.data=.dict es ep):AL P w K tg (SV o a kvs) [it] it (λi h=>h.IsKeyIter it a i kvs.length ep) where
 mem:=by simp
 obj:=λi h st b hb=>by
  have e:b=it:=by simpa using hb
  subst e;obtain⟨o,e,c,d⟩:=st;exact⟨o,e,λv z=>by rw[d] at z;cases z⟩
 keep:=λi h h' st k=>st.at λo e=>k it (!4) o e
 item:=by
  (intro X hP hw hK hc i pins s σ H E I hf st hg);subst hP hw hK;obtain⟨hg,hi⟩:=hg;obtain⟨_,vs,r,da⟩:=IG I hg hd;have hx:kvs[i]? = some kvs[i]:=by simp[hi]
  obtain⟨u,hu⟩:=SW r (k:=kvs[i].1) (v:=kvs[i].2) hx;(obtain⟨f0,f1,f2,f3,f4,f5⟩:=hf it (!4));have hl:=r.length;rw[hl] at st;refine wpAny_pyNext_dict_item st da hu λkey h' Mb AM sb=>?_;(have I1:Inv X pins σ H { s with heap:=h' }:=I.turned (t':=s.toks) (λb o hb e=>(sb.2 b hb).trans e) f0 f1 f3 f4 f5);obtain⟨o',e,c,d⟩:=id AM;exact⟨key,rfl,Ej (s:={ s with heap:=h' }) e c d (!2) ⟨kV kvs[i].1,H,I1,Ma Mb,⟨rfl,_,_,hx,rfl⟩,by rw[hl];exact AM,λb hb=>(hf b hb).1⟩⟩
 done:=by
  (intro X hP hw hK hc i pins s σ H E I hf st hg);subst hP hw hK;obtain⟨hg,hi⟩:=hg;obtain⟨_,vs,r,da⟩:=IG I hg hd;(obtain⟨f0,f1,f2,f3,f4,f5⟩:=hf it (!4));have hl:=r.length;rw[hl] at st;exact wpAny_pyNext_dict_end (I.ok.hd hc) st da (by simp;omega) λh' eb=>⟨rfl,I.turned (t':=s.toks) (λb o hb e=>eb b o hb e) f0 f1 f3 f4 f5⟩
 self:=λ_ _ _ _ _ st h=>wpAny_pyIter_keyiter st h
section
variable {X:Cx}{tg:Expr}
theorem Inv.freeze {pins:List (!19)}{s:aA}{σ:St}{H:Hp}{a:Addr}{kvs:List (Key × V)}(I:Inv X pins σ H s)(h:H a=some (.dK kvs)) :
  ∃o es ep,o.data=.dict es ep/\Inv X pins σ (fz H a (.xJ o (.dK kvs))) s/\(a == sysModules)=false/\∃vs,KV kvs vs/\s.heap.DictAt (fL X.prog X.w) a vs ep:=by
 obtain⟨z,y,vs,r,o,es,ep,e,c,d,k,p,n⟩:=I.hok a _ h;refine⟨o,es,ep,d,?_,y,vs,r,o,es,e,c,d,k,p,n⟩;have:=I.write (x:=a) (e:=a) (h':=s.heap) (t':=s.toks) (o:=.xJ o (.dK kvs)) (by rw[h];exact trivial) (.inl rfl) (λb u _ q=>q) ⟨o,e⟩ ⟨e,z,y,vs,r,o,es,ep,e,c,d,k,p,n⟩;exact this
noncomputable def SX (tl:TE):TI:=λσ H R=>tl σ H λx H1=>∃a kvs,x=.ref a/\H1 a=some (.dK kvs)/\∀o,R (SV o a kvs) (fz H1 a (.xJ o (.dK kvs)))
theorem EC {l:Expr}{tl:TE}(hl:QE X l tl):QI X tg l (SX tl):=by
 refine⟨λpins s σ H R I h=>?_⟩;refine gr (hl.run pins s σ H _ I h) λv s1 ⟨x,H1,I1,r1,q1⟩=>?_;obtain⟨a,kvs,e,ha,q⟩:=q1;subst e;cases r1;obtain⟨o,es,ep,hd,I2,hy,vs,pL,da⟩:=I1.freeze ha;refine wpAny_pyIter_dict hy da ?_;have hlen:=pL.length;refine⟨s1.heap.objs.size,[s1.heap.objs.size],_,_,_,rfl,I2.kept (t':=s1.toks) λb o e=>aj _ e,F9 a _ hd,⟨_,aB _ rfl,rfl,by rw[hlen];rfl⟩,λb hb=>?_,q o⟩;have e:b=s1.heap.objs.size:=by simpa using hb
 subst e;exact I2.qT (aw _) (I2.hok.fresh (aw _))
theorem ye {mp:List (Option Nat)}{g:TG}{tc:TT}{te:TE}{σ:St}{H:Hp}{R:List V->Hp->Prop}{o:Obj}{a:Addr}{kvs:List (Key × V)}(Pv:Nat->List V->St->Hp->Prop)(h0:Pv 0 [] (oA mp σ) H)
  (hl:∀i ys σ' H',Pv i ys σ' H'->H' a=some (.xJ o (.dK kvs)))
  (hs:∀i k v ys σ' H',kvs[i]? = some (k,v)->Pv i ys σ' H'->ys.length<aC/\g (kV k) σ' H' λσ2 H2=>tc σ2 H2 λb H3=>if b=true then te σ2 H3 λy H4=>Pv (i+1) (ys++[y]) σ2 H4 else Pv (i+1) ys σ2 H3)
  (hd:∀ys σ' H',Pv kvs.length ys σ' H'->ys.length<=aC/\R ys H') :
  ∃W:Nat->Nat->List V->St->Hp->Prop,(∃m,W 0 m [] (oA mp σ) H)/\∀i m ys σ' H',W i m ys σ' H' ->
   ((SV o a kvs).stop i H'/\ys.length<=aC/\R ys H') \/
   ((SV o a kvs).go i H'/\ys.length<aC/\∀x Rn,(SV o a kvs).KH i H' x Rn->g x σ' Rn λσ2 H2=>tc σ2 H2 λb H3 =>
    if b=true then te σ2 H3 λy H4=>∃m',m' < m/\W (i+1) m' (ys++[y]) σ2 H4 else ∃m',m' < m/\W (i+1) m' ys σ2 H3):=by
 refine⟨λi m ys σ H=>m=kvs.length - i/\i<=kvs.length/\Pv i ys σ H,⟨kvs.length,!4,bZ _,h0⟩,?_⟩;rintro i m ys σ' H' ⟨rfl,hi,p⟩;have q0:=hl i ys σ' H' p;by_cases lB:i<kvs.length
 .have e:∀ys σ H,(∃m',m' < kvs.length - i/\m'=kvs.length - (i+1)/\i+1<=kvs.length/\Pv (i+1) ys σ H)=Pv (i+1) ys σ H:=λys σ H=>propext ⟨λ⟨_,_,_,_,z⟩=>z,λz=>⟨_,!1,rfl,lB,z⟩⟩
  have hx:kvs[i]? = some kvs[i]:=by simp[lB]
  refine .inr ⟨⟨q0,lB⟩,(hs i kvs[i].1 kvs[i].2 ys σ' H' hx p).1,λx Rn y=>?_⟩;obtain⟨e1,k,v,hk,ex⟩:=y;subst e1 ex;simp only[e];exact (hs i k v ys σ' _ hk p).2
 .have e:i=kvs.length:=by omega
  subst e;obtain⟨hl',q⟩:=hd ys σ' H' p;exact .inl ⟨⟨q0,aw _⟩,hl',q⟩
end
end L2
namespace PySem
open Sem (wp)
end PySem
namespace L2
open PySem PySem.Spec PyProof.Rows
end L2
namespace PySem
open Sem (wp)
open AutoSeq1 (wpAny_loadPart')
section
theorem Dc {it t:Addr}{i:Nat}{xs:Array ah}{x:ah}{Q:ah->aA->Prop}(hi:s.heap.IsTupleIter it t i)(ht:s.heap.IsTuple t xs)(hx:xs[i]? = some x)
  (q:∀h',h'.IsTupleIter it t (i+1)->Heap.SameBut it s.heap h'->Q x { s with heap:=h' }):aH (!12) A (Builtin.SmallTypes.nextOf (.ref it)) Q E s:=by
 obtain⟨ob,e1,c1,d1⟩:=id hi;obtain⟨ot,e2,_,n2,d2⟩:=ht;have nn:¬ ((ah.ref t == ah.none)=true):=bg;unfold Builtin.SmallTypes.nextOf;refine af (wpAny_callSpecial?_slot (name:=Str.ofString "__next__") hi.typeIs F.slot_tuple_iterator_next (wpAny_call_entry F.slot_tuple_iterator_next hi.typeIs F.entry_tuple_iterator_next ?_ (F.args_tuple_iterator_next_1 _)));(show aH _ _ (field (.ref it) 0 >>= _) _ _ _;refine af (wpAny_field e1 d1 (x:=.ref t) rfl ?_);show aH _ _ (if (ah.ref t == ah.none)=true then _ else _) _ _ _;rw[if_neg nn];show aH _ _ (field (.ref it) 1 >>= _) _ _ _;refine af (wpAny_field e1 d1 (x:=.int i 0) rfl (af (wpAny_seqItems e2 d2 ?_)));simp only[a9,hx]);refine af (wpAny_setField e1 d1 (!4) (am ⟨x,rfl,am (q _ ?_ (!39))⟩));refine⟨_,ba _ e1 (Obj.isFreed_of_fields (Obj.data_mapFields d1 _)),(Obj.cls_mapFields ..).trans c1,?_⟩;rw[Obj.data_mapFields d1];simp[rawInt]
theorem F' (hh:A.handled=none)(hi:s.heap.IsTupleIter it t i)(ht:s.heap.IsTuple t xs)(hx:xs[i]? = none)
  (q:∀h' e,Heap.ExtBut it s.heap h'->(∃o,h'.get? e=some o/\o.cls=.type "StopIteration")->E (.ref e) { s with heap:=h' }):aH (!12) A (Builtin.SmallTypes.nextOf (.ref it)) Q E s:=by
 obtain⟨ob,e1,c1,d1⟩:=id hi;obtain⟨ot,e2,_,n2,d2⟩:=ht;have nn:¬ ((ah.ref t == ah.none)=true):=bg;unfold Builtin.SmallTypes.nextOf;refine af (wpAny_callSpecial?_slot (name:=Str.ofString "__next__") hi.typeIs F.slot_tuple_iterator_next (wpAny_call_entry F.slot_tuple_iterator_next hi.typeIs F.entry_tuple_iterator_next ?_ (F.args_tuple_iterator_next_1 _)));(show aH _ _ (field (.ref it) 0 >>= _) _ _ _;refine af (wpAny_field e1 d1 (x:=.ref t) rfl ?_);show aH _ _ (if (ah.ref t == ah.none)=true then _ else _) _ _ _;rw[if_neg nn];show aH _ _ (field (.ref it) 1 >>= _) _ _ _;refine af (wpAny_field e1 d1 (x:=.int i 0) rfl (af (wpAny_seqItems e2 d2 ?_)));simp only[a9,hx]);refine af (wpAny_rule (af (wpAny_setField e1 d1 (!4) (af ?_))));simp only[newExc,newTuple];refine af (aY (af (m:=firstArgMember _ _) (wpAny_of_eq (a:=ah.none) (by first | rfl | (simp only[firstArgMember];rfl)) (aY ?_ (by size_fits)))) (by size_fits));simp only[raiseNew];refine af (wpAny_handled ?_);first | rw[show A.in1.handled=none from hh] | rw[hh]
 exact af (am (wpAny_throw (q _ _ (((!39).extBut.push _).push _) ⟨_,aB _ rfl,rfl⟩)))
theorem Dd {e it t:Addr}{i:Nat}{xs:Array ah}{x old:ah}{Q:ah->aA->Prop}(he:IsEnum s.heap e it i old)(hi:s.heap.IsTupleIter it t i)(ht:s.heap.IsTuple t xs)(hx:xs[i]? = some x)(gX:e≠it)
  (q:∀h',IsEnumOut h' e it ((i:Int)+1) x s.heap.objs.size->h'.IsTupleIter it t (i+1)->h'.get? s.heap.objs.size=some { cls:=.type "tuple",data:=.seq #[.int i s.toks,x] } ->
   (∀b o,b≠e->b≠it->s.heap.get? b=some o->h'.get? b=some o)->Q (!14) { s with heap:=h',toks:=s.toks+1 }) :
  aH (!12) A (Builtin.«enumerate.__next__» ⟨[.ref e],[]⟩) (λfin s'=>∃v,fin=.done (.ret v)/\Q v s') E s:=by
 obtain⟨hp,g,d,tk,os⟩:=s;show aH _ _ (field (.ref e) 2 >>= _) _ _ _;refine af (wpAny_field he rfl (x:=.ref it) rfl (af (Dc hi ht hx λk1 i1 (b1:Heap.SameBut it hp k1)=>?_)));have e1:IsEnum k1 e it i old:=(b1.2 e gX).trans he;refine af (wpAny_field e1 rfl (x:=rawInt i) rfl (af (wpAny_field e1 rfl (x:=.none) rfl ?_)));show aH _ _ (mkInt i >>= _) _ _ ⟨k1,g,d,tk,os⟩;refine af (wpAny_mkInt (af (wpAny_setField_rec (x:=rawInt ((i:Int)+1)) e1 (!4) λk2 e2 b2=>?_)));replace b2:Heap.SameBut e k1 k2:=b2;replace e2:IsEnum k2 e it ((i:Int)+1) old:=e2;refine af (wpAny_setField_rec (x:=.none) e2 (!4) λk3 e3 b3=>?_);replace b3:Heap.SameBut e k2 k3:=b3;replace e3:IsEnum k3 e it ((i:Int)+1) old:=e3;show aH _ _ (newTuple [.int i tk,x] >>= _) _ _ ⟨k3,g,d,tk+1,os⟩;refine af (wpAny_newTuple ?_);have sz:k3.objs.size=hp.objs.size:=by rw[b3.1,b2.1,b1.1]
 have el:hp.objs.size≠e:=bv (aF he);have e4:IsEnum (k3.push { cls:=.type "tuple",data:=.seq #[.int i tk,x] }) e it ((i:Int)+1) old:=aj _ e3;have t4:(k3.push { cls:=.type "tuple",data:=.seq #[.int i tk,x] }).get? hp.objs.size=some { cls:=.type "tuple",data:=.seq #[.int i tk,x] }:=by rw[<- sz];exact aB _ rfl
 have SY:∀b o,b≠e->b≠it->hp.get? b=some o->(k3.push { cls:=.type "tuple",data:=.seq #[.int i tk,x] }).get? b=some o:=λb o h1 h2 h3=>aj _ (b3.extBut b o h1 (b2.extBut b o h1 (b1.extBut b o h2 h3)))
 have i4:(k3.push { cls:=.type "tuple",data:=.seq #[.int i tk,x] }).IsTupleIter it t (i+1):=by
  obtain⟨o,ho,r⟩:=i1;exact⟨o,aj _ (b3.extBut it o (Ne.symm gX) (b2.extBut it o (Ne.symm gX) ho)),r⟩
 rw[sz];generalize k3.push { cls:=.type "tuple",data:=.seq #[.int i tk,x] }=k4 at e4 t4 SY i4 ⊢;show aH _ _ (Builtin.SmallTypes.ownedTupleIsFree (.ref e) >>= _) _ _ ⟨k4,g,d,tk+1,os⟩;refine af ?_;unfold Builtin.SmallTypes.ownedTupleIsFree;refine af (wpAny_field e4 rfl (x:=.none) rfl (am ?_));simp only[if_true];refine af (wpAny_rule (af (wpAny_field e4 rfl (x:=old) rfl (af (wpAny_setField_rec (x:=x) e4 (!4) λk5 e5 b5=>?_)))));replace b5:Heap.SameBut e k4 k5:=b5;replace e5:IsEnum k5 e it ((i:Int)+1) x:=e5;show aH _ _ (Builtin.SmallTypes.ownedTupleHandOut (.ref e) (.ref hp.objs.size) >>= _) _ _ ⟨k5,g,d,tk+1,os⟩;refine af ?_;unfold Builtin.SmallTypes.ownedTupleHandOut;refine af (wpAny_setField_rec (x:=rawInt (hp.objs.size:Nat)) e5 (!4) λk6 e6 b6=>?_);replace b6:Heap.SameBut e k5 k6:=b6;replace e6:IsEnumOut k6 e it ((i:Int)+1) x hp.objs.size:=e6;refine wpAny_setField_rec e6 (!4) λk7 e7 b7=>?_;replace b7:Heap.SameBut e k6 k7:=b7;have PZ:∀b o,b≠e->k4.get? b=some o->k7.get? b=some o:=λb o h1 h2=>b7.extBut b o h1 (b6.extBut b o h1 (b5.extBut b o h1 h2));refine af (wpAny_letGo (am ⟨_,rfl,q k7 e7 ?_ (PZ _ _ el t4) λb o h1 h2 h3=>PZ b o h1 (SY b o h1 h2 h3)⟩));obtain⟨o,ho,r⟩:=i4;exact⟨o,PZ it o (Ne.symm gX) ho,r⟩
theorem zF {e it t:Addr}{i:Nat}{xs:Array ah}{x old:ah}{Q:Option ah->aA->Prop}(he:IsEnum s.heap e it i old)(hi:s.heap.IsTupleIter it t i)(ht:s.heap.IsTuple t xs)(hx:xs[i]? = some x)(gX:e≠it)
  (q:∀h',IsEnumOut h' e it ((i:Int)+1) x s.heap.objs.size->h'.IsTupleIter it t (i+1)->h'.get? s.heap.objs.size=some { cls:=.type "tuple",data:=.seq #[.int i s.toks,x] } ->
   (∀b o,b≠e->b≠it->s.heap.get? b=some o->h'.get? b=some o)->Q (some (!14)) { s with heap:=h',toks:=s.toks+1 }) :
  aH (!12) A (pyNext (.ref e)) Q E s:=by
 have ty:s.TypeIs (.ref e) "enumerate" := ⟨_,he,rfl⟩;unfold pyNext;refine af (wpAny_attempt (wpAny_callSpecial?_slot (name:=Str.ofString "__next__") ty F.slot_enumerate_next (wpAny_call_entry F.slot_enumerate_next ty F.entry_enumerate_next ?_ (F.args_enumerate_next_1 _))));exact Dd he hi ht hx gX λh' a b c k=>am (q h' a b c k)
theorem sA {e it t:Addr}{i:Nat}{xs:Array ah}{old:ah}{Q:Option ah->aA->Prop}(hh:A.handled=none)(he:IsEnum s.heap e it i old)(hi:s.heap.IsTupleIter it t i)(ht:s.heap.IsTuple t xs)(hx:xs[i]? = none)
  (q:∀h',Heap.ExtBut it s.heap h'->Q none { s with heap:=h' }):aH (!12) A (pyNext (.ref e)) Q E s:=by
 have ty:s.TypeIs (.ref e) "enumerate" := ⟨_,he,rfl⟩;unfold pyNext;refine af (wpAny_attempt (wpAny_callSpecial?_slot (name:=Str.ofString "__next__") ty F.slot_enumerate_next (wpAny_call_entry F.slot_enumerate_next ty F.entry_enumerate_next ?_ (F.args_enumerate_next_1 _))));show aH _ _ (field (.ref e) 2 >>= _) _ _ _;refine af (wpAny_field he rfl (x:=.ref it) rfl (af (F' hh hi ht hx λh' x ex ⟨o,ho,hc⟩=>?_)));exact af (wpAny_isInstance (T := "StopIteration") (b:=true) ⟨o,ho,hc⟩ isSubtype_stop (am (q _ ex)))
theorem Ga (l:Addr)(items:Array ah)(n:Nat)(Ro:Option Addr)(sl:Array (Option ah)) :
  Meets (Builtin.«enumerate.__new__» ⟨[.type "enumerate",.ref l],[]⟩) (λ_ R s=>s.heap.get? l=some { cls:=.type "tuple",dict:=Ro,data:=.seq items n,slots:=sl } /\
   R (.ok (.ret (.ref (s.heap.push { cls:=.type "tuple_iterator",data:=.fields #[.ref l,.int 0 0] }).objs.size)))
    { s with heap:=(s.heap.push { cls:=.type "tuple_iterator",data:=.fields #[.ref l,.int 0 0] }).push { cls:=.type "enumerate",data:=.fields #[.none,.bool false,.ref s.heap.objs.size,rawInt 0,.none,.none] } }) :=
 .of_wp λprog w A R s h=>by
  obtain⟨hp,g,d,tk,os⟩:=s;obtain⟨hl,h⟩:=h;have IH:=sub_enumerate;have Rp:Heap.IsTuple (aA.heap ⟨hp,g,d,tk,os⟩) l items:=⟨_,hl,rfl,n,rfl⟩
  wp_walk using wpAny_loadPart' hl
  refine wpAny_stack_any λ_=>am ?_;split
  .rename_i c _ _ _ _ _
   cases (c == ah.type "enumerate")<;>(wp_walk using wpAny_loadPart' hl,wpAny_pyIter_tuple Rp;exact⟨_,rfl,h⟩)
  .wp_walk using wpAny_loadPart' hl,wpAny_pyIter_tuple Rp
   exact⟨_,rfl,h⟩
theorem De (ht:s.heap.IsTuple l items)
  (q:∀h',IsEnum h' (s.heap.objs.size+1) s.heap.objs.size 0 .none->h'.IsTupleIter s.heap.objs.size l 0->h'.objs.size=s.heap.objs.size+2->(∀b o,s.heap.get? b=some o->h'.get? b=some o)->Q (.ref (s.heap.objs.size+1)) { s with heap:=h' }) :
  aH (!12) A (call (.type "enumerate") [.ref l]) Q E s:=by
 obtain⟨⟨c,Ro,dt,sl⟩,hl,hc,n,hd⟩:=ht;replace hc:c=.type "tuple" := hc;replace hd:dt=.seq items n:=hd;subst hc hd;refine callType_new F.called_enumerate (!2) (F.typeCall_enumerate_1 _) (F.newCall_enumerate_1 _) (λobj=>F.args_object_init_2 obj _) F.entry_enumerate_new (Ga l items n Ro sl) ⟨hl,?_⟩;have z1:(s.heap.push { cls:=.type "tuple_iterator",data:=.fields #[.ref l,.int 0 0] }).objs.size=s.heap.objs.size+1:=bx ..;have g1:=aB (s.heap.push { cls:=.type "tuple_iterator",data:=.fields #[.ref l,.int 0 0] }) (o:={ cls:=.type "enumerate",data:=.fields #[.none,.bool false,.ref s.heap.objs.size,rawInt 0,.none,.none] }) rfl;rw[z1] at g1;show _/\_;rw[z1];exact⟨⟨_,g1,rfl⟩,q _ g1 ⟨_,aj _ (aB _ rfl),rfl,rfl⟩ (by rw[bx,z1]) λb o x=>aj _ (aj _ x)⟩
end
end PySem
namespace L2
open PySem PySem.Spec PyProof.Rows
noncomputable def S3 (K:W.Frag)(a:Addr):It :=
 ⟨λi H=>∃xs x,jt K H a xs/\xs[i]? = some x,λi H x H'=>∃T xi,x=.ref T/\H T=none/\H'=fz H T (.tup [.int (i:Nat),xi])/\∀xs,jt K H a xs->xs[i]? = some xi,λi H=>∃xs,jt K H a xs/\xs.length<=i⟩
theorem Df {P:bf}{w:World}{K:W.Frag}{sC:List Expr}{k:Nat}{pos:Pos}(a e it:Addr)(gX:e≠it):AL P w K (.Tuple sC k pos) (S3 K a) [e,it] e (λi h=>(∃old,IsEnum h e it (i:Nat) old)/\h.IsTupleIter it a i) where
 mem:=by simp
 obj:=λi h st b hb=>by
  obtain⟨⟨old,he⟩,o,ho,hc,hd⟩:=st;(rcases ax.mp hb with z | z)
  .subst z
   exact⟨_,he,λv z=>by cases z⟩
  .have z':b=it:=by simpa using z
   subst z';exact⟨o,ho,λv z=>by rw[hd] at z;cases z⟩
 keep:=λi h h' st kp=>by
  obtain⟨⟨old,he⟩,hi⟩:=st;exact⟨⟨old,kp e (!4) _ he⟩,hi.at λo q=>kp it (!4) o q⟩
 item:=by
  (intro X hP hw hK hc i pins s σ H E I hf st hg);subst hP hw hK;obtain⟨⟨old,he⟩,hi⟩:=st;obtain⟨xs,x,hq,hx⟩:=hg;obtain⟨its,rv,p,hz⟩:=I.tuple hq;obtain⟨u,hu,ru⟩:=rv.get hx;refine zF he hi (show s.heap.IsTuple a its.toArray from p) (x:=u) (by simpa using hu) gX λh1 eo i1 t1 kp=>⟨_,rfl,wpAny_letOwnedTupleGo_enum eo λh2 en sb=>?_⟩;have sk:e<s.heap.objs.size:=aF he;have Wc:it<s.heap.objs.size:=by obtain⟨_,q,_⟩:=hi;exact aF q
  have P0:∀b o,b≠e->b≠it->s.heap.get? b=some o->h2.get? b=some o:=λb o n1 n2 q=>(sb.2 b n1).trans (kp b o n1 n2 q);have i2:h2.IsTupleIter it a (i+1):=i1.at λo q=>(sb.2 it (Ne.symm gX)).trans q;have t2:h2.get? s.heap.objs.size=some { cls:=.type "tuple",data:=.seq #[.int i s.toks,u] }:=(sb.2 _ (bv sk)).trans t1;(obtain⟨f0,f1,f2,f3,f4,f5⟩:=hf it (!4));obtain⟨g0,g1,g2,g3,g4,g5⟩:=hf e (!4);obtain⟨oi,Wd,ZL,We⟩:=id i2;obtain⟨o0,Wf,_⟩:=id hi;have m1:(s.heap.update it λ_=>oi).get? it=some oi:=ba (λ_=>oi) Wf (Obj.isFreed_of_fields We);have I1:Inv X pins σ H { s with heap:=s.heap.update it λ_=>oi,toks:=s.toks+1 }:=I.turned (λb o hb q=>(aO _ _ (Ne.symm hb)).trans q) f0 f1 f3 f4 f5
  have Wg:∀b o,b≠e->(s.heap.update it λ_=>oi).get? b=some o->h2.get? b=some o:=λb o hb q=>by
   by_cases NA:b=it
   .subst NA
    rw[m1] at q;cases q;exact Wd
   .exact P0 b o hb NA ((aO _ _ (Ne.symm NA)).symm.trans q)
  have I2:Inv X pins σ H { s with heap:=h2,toks:=s.toks+1 }:=Inv.turned (s:={ s with heap:=s.heap.update it λ_=>oi,toks:=s.toks+1 }) (h':=h2) (t':=s.toks+1) I1 Wg g0 g1 g3 g4 g5;obtain⟨p0,p1,p2,p3,p4,p5⟩:=I.qT (aw s.heap.objs.size) (!34)
  have I3:Inv X pins σ (fz H s.heap.objs.size (.tup [.int (i:Nat),x])) { s with heap:=h2,toks:=s.toks+1 } :=
   I2.A1 (o:=.tup [.int (i:Nat),x]) t2 p0 p1 p3 p4 p5 ⟨by show 2<=aC;decide,[.int i s.toks,u],.cons ⟨_,rfl⟩ (.cons ru .nil),⟨_,t2,rfl,_,rfl,rfl⟩⟩
  refine⟨.ref s.heap.objs.size,_,I3,rfl,⟨_,x,rfl,p0,rfl,λys hy=>by rw[I.xN hy hq];exact hx⟩,⟨⟨u,by simpa using en⟩,i2⟩,λb hb=>?_⟩
  have Wh:b≠s.heap.objs.size:=by
   (rcases ax.mp hb with z | z)
   .rw[z];exact aR sk
   .have z':b=it:=by simpa using z
    rw[z'];exact aR Wc
  rw[d6 Wh];exact (hf b hb).1
 done:=by
  (intro X hP hw hK hc i pins s σ H E I hf st hg);subst hP hw hK;obtain⟨⟨old,he⟩,hi⟩:=st;obtain⟨xs,hq,hx⟩:=hg;obtain⟨its,rv,p,hz⟩:=I.tuple hq;(obtain⟨f0,f1,f2,f3,f4,f5⟩:=hf it (!4));have hl:=rv.length;exact sA (I.ok.hd hc) he hi (show s.heap.IsTuple a its.toArray from p) (by simp;omega) λh' eb=>⟨rfl,I.turned (t':=s.toks) (λb o hb q=>eb b o hb q) f0 f1 f3 f4 f5⟩
 self:=λ_ _ _ _ _ st h=>by
  obtain⟨⟨old,he⟩,_⟩:=st;exact wpAny_pyIter_enum he h
end L2
namespace PySem
namespace SetTable
theorem vj (xs:Array Nat)(j:Nat):∀(f lo hi:Nat),hi - lo<=f->lo<=hi->hi<=xs.size->xs.toList.Pairwise (· < ·)->(∀(k:Nat) (v:Nat),k<lo->xs[k]? = some v->v<j) ->
  (∀(k:Nat) (v:Nat),hi<=k->xs[k]? = some v->j<=v)->below.go xs j f lo hi<=xs.size/\(∀(k:Nat) (v:Nat),k<below.go xs j f lo hi->xs[k]? = some v->v<j)/\(∀(k:Nat) (v:Nat),below.go xs j f lo hi<=k->xs[k]? = some v->j<=v)
 | 0,lo,hi,hf,h1,h2,_,hl,hh=>by
  unfold below.go;have e:lo=hi:=by omega
  subst e;exact⟨h2,hl,hh⟩
 | f+1,lo,hi,hf,h1,h2,hs,hl,hh=>by
  unfold below.go;by_cases c:lo<hi
  .rw[if_pos c]
   dsimp only;have hm:(lo+hi) / 2<xs.size:=by omega
   have eg:xs.getD ((lo+hi) / 2) j=xs[(lo+hi) / 2]:=by simp[Array.getD,hm]
   rw[eg]
   have hr:∀(a b:Nat) (va vb:Nat),a<b->xs[a]? = some va->xs[b]? = some vb->va<vb:=by
    intro a b va vb pM ea eb
    have la:a<xs.toList.length:=by
     rcases cs a xs.toList.length with q | q
     .exact q
     .rw[bD] at q;rw[cp q] at ea;cases ea
    have lb:b<xs.toList.length:=by
     rcases cs b xs.toList.length with q | q
     .exact q
     .rw[bD] at q;rw[cp q] at eb;cases eb
    have:=de.mp hs a b la lb pM;rw[<- bB,aM la] at ea;rw[<- bB,aM lb] at eb;cases ea;cases eb;exact this
   have em:xs[(lo+hi) / 2]? = some xs[(lo+hi) / 2]:=by simp[hm]
   by_cases d:xs[(lo+hi) / 2] < j
   .rw[if_pos d]
    refine vj xs j f _ hi (!1) (!1) h2 hs (λk v hk e=>?_) hh;by_cases q:k=(lo+hi) / 2
    .subst q;rw[em] at e;cases e;exact d
    .exact cG (hr k _ v _ (!1) e em) d
   .rw[if_neg d]
    refine vj xs j f lo _ (!1) (!1) (!1) hs hl λk v hk e=>?_;by_cases q:k=(lo+hi) / 2
    .subst q;rw[em] at e;cases e;omega
    .have:=hr _ k _ v (!1) em e
     omega
  .rw[if_neg c]
   have e:lo=hi:=by omega
   subst e;exact⟨h2,hl,hh⟩
theorem pY (j:Nat)(hs:xs.toList.Pairwise (· < ·)):below xs j<=xs.size/\(∀(k:Nat) (v:Nat),k<below xs j->xs[k]? = some v->v<j)/\(∀(k:Nat) (v:Nat),below xs j<=k->xs[k]? = some v->j<=v) :=
 vj xs j xs.size 0 xs.size (!1) (!1) (aw _) hs (λk v h=>absurd h (!1)) (λk v h e=>by rw[cp h] at e;cases e)
theorem Dg (hs:xs.toList.Pairwise (· < ·)):below xs 0=0:=by
 obtain⟨a,b,c⟩:=pY 0 hs;rcases Nat.eq_zero_or_pos (below xs 0) with h | h
 .exact h
 .have:0<xs.size:=by omega
  exact absurd (b 0 xs[0] h (by simp[this])) (!1)
theorem Dh (hs:xs.toList.Pairwise (· < ·))(e:xs[i]? = some j):below xs (j+1)=i+1:=by
 obtain⟨a,b,c⟩:=pY (j+1) hs
 have hi:i<xs.size:=by
  rcases cs i xs.size with q | q
  .exact q
  .rw[cp q] at e;cases e
 have h1:i<below xs (j+1):=by
  rcases cs i (below xs (j+1)) with q | q
  .exact q
  .exact absurd (c i j q e) (!1)
 rcases cs (i+1) (below xs (j+1)) with q | q
 .exfalso
  have l2:i+1<xs.size:=by omega
  have e2:xs[i+1]? = some xs[i+1]:=by simp[l2]
  have:=b (i+1) _ q e2;have la:i<xs.toList.length:=by simpa using hi
  have lb:i+1<xs.toList.length:=by simpa using l2
  have hr:=de.mp hs i (i+1) la lb (!1);rw[<- bB,aM la] at e;cases e;have:xs.toList[i+1]=xs[i+1]:=by simp
  omega
 .omega
theorem xb (hs:xs.toList.Pairwise (· < ·))(hn:xs[below xs j]? ≠ some j):(insertAt xs (below xs j) j).toList.Pairwise (· < ·):=by
 obtain⟨a,b,c⟩:=pY j hs;rw[toList_insertAt]
 have ht:∀v∈xs.toList.take (below xs j),v<j:=by
  intro v hv;obtain⟨k,hk,e⟩:=cZ hv;rw[b8] at hk;rw[List.getElem_take] at e;exact b k v (!1) (by rw[<- bB,aM (!1)];rw[e])
 have hd:∀v∈xs.toList.drop (below xs j),j<v:=by
  intro v hv;obtain⟨k,hk,e⟩:=cZ hv;rw[di] at hk;rw[List.getElem_drop] at e;have e':xs[below xs j+k]? = some v:=by rw[<- bB,aM (!1)];rw[e]
  have h1:=c (below xs j+k) v (!1) e';rcases Nat.lt_or_eq_of_le h1 with q | q
  .exact q
  .subst q
   exfalso;rcases Nat.eq_zero_or_pos k with z | z
   .subst z;exact hn e'
   .have l0:below xs j<xs.toList.length:=by omega
    have:=de.mp hs (below xs j) (below xs j+k) l0 (!1) (!1);rw[e] at this;have h2:=c (below xs j) _ (aw _) (by rw[<- bB,aM l0]);omega
 rw[cE];refine⟨hs.sublist (List.take_sublist _ _),bJ.mpr ⟨hd,hs.sublist (List.drop_sublist _ _)⟩,λx hx y hy=>?_⟩;rcases ax.mp hy with rfl | hy
 .exact ht x hx
 .exact cG (ht x hx) (hd y hy)
theorem pZ (t:SetTable)(f:Nat->Int)(h:Int):∀(n:Nat) (p:Probe) (j:Nat) (d:Option Nat),(∀k,p.dummy=some k->t.place[below t.place k]? ≠ some k) ->
  probe.go t f h n p=some (.empty j d)->t.place[below t.place (d.getD j)]? ≠ some (d.getD j)
 | 0,p,j,d,_,e=>by unfold probe.go at e;cases e
 | n+1,p,j,d,hp,e=>by
  unfold probe.go at e;have Yd:∀p:Probe,(t.advance p).dummy=p.dummy:=λp=>by unfold advance;split<;>rfl
  have nl:∀k,(∀i,t.slot k≠.live i)->t.place[below t.place k]? ≠ some k:=λk q z=>q (below t.place k) (by unfold slot;dsimp only;rw[z];simp)
  cases hs:t.slot p.j with
  | empty =>
   rw[hs] at e;cases e
   cases hd:p.dummy with
   | none=>exact nl p.j λi z=>by rw[hs] at z;cases z
   | some k=>exact hp k hd
  | dummy =>
   rw[hs] at e;refine pZ t f h n _ j d (λk hk=>?_) e;rw[Yd] at hk;cases hk;exact nl _ λi z=>by rw[hs] at z;cases z
  | live i =>
   rw[hs] at e;dsimp only at e;split at e
   .cases e
   .exact pZ t f h n _ j d (λk hk=>hp k (by rw[Yd] at hk;exact hk)) e
noncomputable def Good (b:Bool)(t:SetTable):Prop:=t.led=b/\(t.plain=true->t.place.toList.Pairwise (· < ·))
theorem Good.ED (g:Good b t)(n:Nat):Good b (t.standIn n):=⟨g.1,λz=>by cases z⟩
theorem Good.or (g:Good b t)(n:Nat):Good b (t.orStandIn n):=by
 unfold orStandIn;split
 .exact g
 .exact g.ED n
theorem Good.off (g:Good b t):Good b { t with plain:=false }:=⟨g.1,λz=>by cases z⟩
end SetTable
open SetTable in
theorem Bb {b:Bool}{t:SetTable}(g:Good b t)(es:Array (Int × ah))(h:Int)(x:ah):Good b (layNew t es h x).2.1:=by
 unfold layNew
 cases e:t.freeSlot h with
 | none=>exact g.ED _
 | some q =>
  obtain⟨slot,Wi⟩:=q;dsimp only;refine Good.or (t:=(t.put slot).1) ⟨g.1,λz=>?_⟩ _;have hs:=g.2 z;refine xb hs ?_;unfold freeSlot at e;unfold probe at e;split at e
  .rename_i j d hp
   cases e;exact pZ t _ h _ _ j d (λk hk=>by cases hk) hp
  .cases e
open SetTable in
theorem xg {b:Bool}{t:SetTable}(g:Good b t)(es:Array (Int × ah))(n:Nat):Good b (relayAll t es n).2.1:=by
 unfold relayAll
 cases e:t.relaid (es.map (·.1)) n with
 | none=>exact g.ED _
 | some q =>
  obtain⟨t',o⟩:=q;dsimp only;split
  .unfold relaid laid at e
   cases hl:layClean (sizeAbove n - 1) (es.map (·.1)) with
   | none=>rw[hl] at e;cases e
   | some ow =>
    rw[hl] at e;simp only[Option.bind_eq_bind,cU,Option.pure_def,Option.some.injEq,Prod.mk.injEq] at e;obtain⟨rfl,_⟩:=e;refine⟨g.1,λ_=>?_⟩;simp only[dg];refine List.Pairwise.filterMap (R:=(· < ·)) _ (λa a' h c hc c' xM=>?_) List.pairwise_lt_range
    cases h1:ow.getD a none with
    | none=>rw[h1] at hc;cases hc
    | some u =>
     rw[h1] at hc
     cases h2:ow.getD a' none with
     | none=>rw[h2] at xM;cases xM
     | some u'=>rw[h2] at xM;cases hc;cases xM;exact h
  .exact g.ED _
theorem tE {α:Type}{l:List α}{i:Nat}(h:i<l.length):([l[i]]++l.eraseIdx i).Perm l:=by
 rw[List.eraseIdx_eq_take_drop_succ];have e:l=l.take i++l[i]::l.drop (i+1):=by simp
 conv=>rhs;rw[e]
 rw[List.singleton_append];exact List.perm_middle.symm
theorem lG {α:Type}(next:Nat->Nat):∀(f k:Nat) (l:List α) (out:Array α),f=l.length->(pickOrder.go next f k l out).toList.Perm (out.toList++l)
 | 0,k,l,out,e=>by
  have:l=[]:=List.length_eq_zero_iff.mp e.symm;subst this;unfold pickOrder.go;simp
 | f+1,k,l,out,e=>by
  unfold pickOrder.go;have hl:next k % l.length<l.length:=Nat.mod_lt _ (!1)
  rw[aM hl];dsimp only;refine (lG next f (k+1) _ _ (by rw[List.length_eraseIdx_of_lt hl];omega)).trans ?_;rw[Array.toList_push,bu];refine List.Perm.append_left _ ?_;exact tE hl
theorem vk {α:Type}(next:Nat->Nat)(xs:Array α):(pickOrder next xs).toList.Perm xs.toList:=by
 unfold pickOrder;have:=lG next xs.size 0 xs.toList #[] (!4)
 simpa using this
end PySem
namespace PySem
open Sem (wp)
open PyProof.Rows
noncomputable def mE (w:World):Bool:=w.params.followText "set-order"
noncomputable def Gb (e:Int × ah):Option Int:=match e.2 with | .int k _=>some k | _=>none
noncomputable def zG (es:List (Int × ah)):Prop:=∀e∈es,∃k t,e=(hashInt k,ah.int k t)
noncomputable def ka (w:World)(a:Addr)(ns:List Int)(h:Heap):Prop :=
 ∃o es ep t,h.get? a=some o/\o.ExactSet/\o.data=.set es ep t/\zG es.toList/\(es.toList.filterMap Gb).Perm ns/\es.size<scanBound/\t.fits es.size=true/\SetTable.Good (!mE w) t
section
variable {prog:bf}{w:World}{A:Around}{E:ah->aA->Prop}{s:aA}
theorem zG.elems (h:zG es):ElemsOf (intKind prog w) es:=λe he=>by
 obtain⟨k,t,rfl⟩:=h e he;exact⟨⟨k,intKind_is _ _ _ _,rfl⟩,rfl⟩
theorem zG.perm (h:zG l)(p:l'.Perm l):zG l':=λe he=>h e (p.mem_iff.mp he)
theorem zG.len:zG l->(l.filterMap Gb).length=l.length:=by
 induction l with
 | nil=>intro _;rfl
 | cons e l ih =>
  intro h;obtain⟨k,t,rfl⟩:=h e (!4);have:=ih λe he=>h e (by simp[he]);simp[Gb] at this ⊢;exact this
theorem zG.has (h:zG l):k∈l.filterMap Gb↔∃e∈l,(intKind prog w).is k e.2=true:=by
 rw[c7];constructor
 .rintro⟨e,he,q⟩
  obtain⟨j,t,rfl⟩:=h e he;cases q;exact⟨_,he,intKind_is _ _ _ _⟩
 .rintro⟨e,he,q⟩
  obtain⟨j,t,rfl⟩:=h e he;have:k=j:=(intKind prog w).inj _ _ _ q (intKind_is _ _ j t);subst this;exact⟨_,he,rfl⟩
theorem ka.keep (x:ka w a ns h)(k:∀o,h.get? a=some o->h'.get? a=some o):ka w a ns h':=by
 obtain⟨o,es,ep,t,e,r⟩:=x;exact⟨o,es,ep,t,k o e,r⟩
theorem ka.type (x:ka w a ns s.heap):s.TypeIs (.ref a) "set" := by
 obtain⟨o,es,ep,t,e,c,_⟩:=x;exact⟨o,e,c.1⟩
theorem ka.put {h:Heap}{a:Addr}{o:Obj}{es j7:Array (Int × ah)}{ep:Nat}{t t':SetTable}{ns:List Int}(ho:h.get? a=some o)(x:o.ExactSet)(hd:o.data=.set es ep t)(h1:zG j7.toList)
  (h2:(j7.toList.filterMap Gb).Perm ns) (h3:j7.size<scanBound) (h4:t'.fits j7.size=true) (h5:SetTable.Good (!mE w) t') :
  (h.update a (Obj.putSet j7 t')).get? a=some { o with data:=.set j7 (ep+1) t' }/\ka w a ns (h.update a (Obj.putSet j7 t')):=by
 have g:=ba (Obj.putSet j7 t') ho (by rw[putSet_of j7 t' hd];rfl);rw[putSet_of j7 t' hd] at g;exact⟨g,_,j7,ep+1,t',g,x,rfl,h1,h2,h3,h4,h5⟩
theorem yf {g:Bool->Sem Unit}(hg:∀(b:Bool) (z:aA) (R:Unit->aA->Prop),R () z->aH (!12) A (g b) R E z){a:Addr}{o:Obj}{es:Array (Int × ah)}{ep:Nat}{t:SetTable}(ho:s.heap.get? a=some o)
  (x:o.ExactSet) (hd:o.data=.set es ep t) {j7:Array (Int × ah)} {t':SetTable} {ns:List Int} (h1:zG j7.toList) (h2:(j7.toList.filterMap Gb).Perm ns) (h3:j7.size<scanBound) (h4:t'.fits j7.size=true) (h5:SetTable.Good (!mE w) t')
  {Wi:Bool} {R:Option Bool->aA->Prop} (h:∀h',Heap.SameBut a s.heap h'->ka w a ns h'->R (some true) { s with heap:=h' }) :
  aH (!12) A (storeSet a j7 t' >>= λ_=>if (!Wi && t'.tooFull)=true then (g (relayAll t' j7 (SetTable.grown j7.size)).2.2 >>= λ_=>storeSet a (relayAll t' j7 (SetTable.grown j7.size)).1 (relayAll t' j7 (SetTable.grown j7.size)).2.1 >>= λ_=>pure (some true)) else pure (some true)) R E s:=by
 refine af (wpAny_storeSet_of ho hd ?_ (fits_of_scanBound h3));obtain⟨p1,p2⟩:=ka.put (w:=w) ho x hd h1 h2 h3 h4 h5;have b1:=Heap.SameBut.update s.heap a (Obj.putSet j7 t');split
 .have q1:=relayAll_perm t' j7 (SetTable.grown j7.size)
  have q2:=relayAll_fits t' j7 (SetTable.grown j7.size);have q3:=xg h5 j7 (SetTable.grown j7.size);generalize relayAll t' j7 (SetTable.grown j7.size)=z at q1 q2 q3 ⊢;obtain⟨ez,tz,bz⟩:=z;dsimp only at q1 q2 q3 ⊢;have q4:ez.size=j7.size:=by have:=q1.length_eq;simpa using this
  refine af (hg _ _ _ ?_);refine af (wpAny_storeSet_of p1 rfl ?_ (fits_of_scanBound (by rw[q4];exact h3)));obtain⟨_,p4⟩:=ka.put (w:=w) p1 x rfl (h1.perm q1) ((q1.filterMap Gb).trans h2) (by rw[q4];exact h3) q2 q3;exact am (h _ (b1.trans (Heap.SameBut.update _ a _)) p4)
 .exact am (h _ b1 p2)
noncomputable def xh (ns:List Int)(k:Int):List Int:=if k∈ns then ns else ns++[k]
theorem II {a:Addr}{ns:List Int}{k:Int}{tk:Tok}{Q:Bool->aA->Prop}(hS:ka w a ns s.heap)(hr:ns.length+1<scanBound)
  (h:∀r h',Heap.SameBut a s.heap h'->ka w a (xh ns k) h'->Q r { s with heap:=h' }):aH (!12) A (setAddHashed a (.int k tk) (hashInt k)) Q E s:=by
 obtain⟨o,es,ep,t,ho,x,hd,h1,h2,h3,h4,h5⟩:=hS;have e1:ElemsOf (intKind prog w) es.toList:=h1.elems;have ZM:(intKind prog w).is k (.int k tk)=true:=intKind_is _ _ _ _;unfold setAddHashed setAddHashedIn;refine wpAny_holding (af (wpAny_setState_of ho hd h4 ?_));dsimp only;rw[byScan_of (knd:=intKind prog w) (x:=.int k tk) rfl h3 e1];simp only[↓reduceIte];unfold setAddByScan;refine af (af (wpAny_rule (af (wpAny_setScan_of (knd:=intKind prog w) ZM ho hd h4 e1 ?_))))
 have hlen:es.size=ns.length:=by
  have a1:=h2.length_eq;rw[h1.len,bD] at a1;exact a1
 cases hf:List.findIdx? (λe=>(intKind prog w).is k e.2) es.toList with
 | some j =>
  dsimp only;obtain⟨hj,ZN,_⟩:=List.findIdx?_eq_some_iff_getElem.mp hf;have hk:k∈ns:=h2.mem_iff.mp (h1.has.mpr ⟨_,bU hj,ZN⟩);refine am (am ?_);have:=h false s.heap (Heap.SameBut.refl a s.heap) (by unfold xh;rw[if_pos hk];exact⟨o,es,ep,t,ho,x,hd,h1,h2,h3,h4,h5⟩);exact this
 | none =>
  dsimp only
  have hk:¬ k∈ns:=λz=>by
   obtain⟨e,he,q⟩:=(h1.has (prog:=prog) (w:=w)).mp (h2.mem_iff.mpr z);have:=List.findIdx?_eq_none_iff.mp hf e he;rw[q] at this;cases this
  have q1:=layNew_perm t es (hashInt k) (.int k tk);have q2:=layNew_fits t es (hashInt k) (.int k tk);have q3:=Bb h5 es (hashInt k) (.int k tk)
  have Wj:∀(b:Bool) (z:aA) (R:Unit->aA->Prop),R () z->aH (!12) A (match b with | true=>rule "set.scan.the-table-gave-way" | false=>pure ()) R E z :=
   λb z R hq=>by cases b<;>first | exact am hq | exact wpAny_rule hq
  show aH _ _ ((match (layNew t es (hashInt k) (.int k tk)).2.2.2 with | true=>rule "set.scan.the-table-gave-way" | false=>pure ()) >>= _) _ _ _;generalize hz:layNew t es (hashInt k) (.int k tk)=z at q1 q2 q3 ⊢;obtain⟨ez,tz,Wi,ZO⟩:=z;dsimp only at q1 q2 q3 ⊢;have p0:ez.toList.Perm (es.toList++[(hashInt k,ah.int k tk)]):=by rw[Array.toList_push] at q1;exact q1
  have p1:zG ez.toList:=zG.perm (λe he=>by
   rcases aX.mp he with he | he
   .exact h1 e he
   .have:e=(hashInt k,ah.int k tk):=by simpa using he
    exact⟨k,tk,this⟩) p0
  have p2:(ez.toList.filterMap Gb).Perm (xh ns k):=by
   refine (p0.filterMap Gb).trans ?_;unfold xh;rw[if_neg hk,List.filterMap_append];exact List.Perm.append_right _ h2
  have p3:ez.size<scanBound:=by
   have:=p0.length_eq;rw[bD,aQ,bD] at this;simp at this;omega
  refine af (Wj _ _ _ ?_);have fin:∀h',Heap.SameBut a s.heap h'->ka w a (xh ns k) h'->Q true { s with heap:=h' }:=λh'=>h true h';split
  .refine af ?_
   rw[hashByValue_scannable 8 (x:=.int k tk) rfl];refine am ?_;refine yf (g:=λb=>match b with | true=>rule "set.scan.the-table-gave-way" | false=>pure ()) Wj ho x hd p1 p2 p3 ?_ ?_ ?_
   .split
    .exact q2
    .exact SetTable.fits_plain_off q2
   .split
    .exact q3
    .exact q3.off
   .intro h' a1 a2;dsimp only;exact am (fin h' a1 a2)
  .refine af (am ?_)
   simp only[↓reduceIte];refine yf (g:=λb=>match b with | true=>rule "set.scan.the-table-gave-way" | false=>pure ()) Wj ho x hd p1 p2 p3 q2 q3 ?_;intro h' a1 a2;dsimp only;exact am (fin h' a1 a2)
end
open PyProof.Rows
section
noncomputable def ju (val:Nat->Int):Nat->List Int
 | 0=>[]
 | i+1=>xh (ju val i) (val i)
theorem sD (val:Nat->Int):∀i,(ju val i).length<=i
 | 0=>aw _
 | i+1=>by
  have:=sD val i;unfold ju xh;split
  .omega
  .simp;omega
theorem Bc (val:Nat->Int):∀i,(ju val i).Nodup
 | 0=>cg
 | i+1=>by
  have ih:=Bc val i;unfold ju xh;split
  .exact ih
  .rename_i h
   rw[cj];refine⟨ih,!4,λa ha b hb=>?_⟩;have e:b=val i:=by simpa using hb
   subst e;exact λz=>h (z ▸ ha)
theorem yg (val:Nat->Int)(k:Int):∀i,k∈ju val i↔∃j,j<i/\val j=k
 | 0=>⟨λh=>absurd h (by simp[ju]),λ⟨j,h,_⟩=>absurd h (!1)⟩
 | i+1=>by
  have ih:=yg val k i
  have key:k∈ju val (i+1)↔k∈ju val i\/k=val i:=by
   show k∈xh (ju val i) (val i)↔_;unfold xh;split
   .rename_i h
    exact⟨.inl,λz=>z.elim id λe=>e ▸ h⟩
   .simp
  rw[key,ih];constructor
  .rintro (⟨j,h,e⟩ | rfl)
   .exact⟨j,!1,e⟩
   .exact⟨i,!1,rfl⟩
  .rintro⟨j,h,e⟩
   by_cases q:j=i
   .subst q;exact .inr e.symm
   .exact .inl ⟨j,!1,e⟩
theorem Ge {I:Addr}{fp wr:List Addr}{G:Array GenState->Array GenState->Prop}{n:Nat}{P:Nat->ah->Prop}{St:Nat->aA->Prop}(W:WalksS prog w A.in1 I fp wr G n P St)(S:Addr)(S5:S ∉ fp)
  (val:Nat->Int) (Bd:∀i v,P i v->∃t,v=.int (val i) t) (hb:n+1<scanBound):∀(m i:Nat) (z:aA),n - i=m->i<=n->St i z->ka w S (ju val i) z.heap ->
   (∀z',Moved (S::wr) G z z'->ka w S (ju val n) z'.heap->R (.ok (.ret .none)) z')->codeAny (!12) A (.builtin "set.update.loop" ⟨[.ref S,.ref I],[]⟩) R z:=by
 have sw:S ∉ wr:=λq=>S5 (W.sub _ q);have sb:∀b∈wr,b∈S::wr:=λb q=>ag _ q;intro m
 induction m with
 | zero =>
  intro i z e1 e2 st x q;have:i=n:=by omega
  subst this;refine codeAny_builtin PyProof.Rows.F.entry_set_update_loop ?_;rw[Around.under_plainId PyProof.Rows.F.plain_set_update_loop _];show aH _ A.in1 (pyNext (.ref I) >>= _) _ _ z;refine af (W.done z _ _ st λz' mv=>?_);exact am (q z' (mv.mono sb) (x.keep λo e=>mv.heap S _ sw e))
 | succ m ih =>
  intro i z e1 e2 st x q;refine codeAny_builtin PyProof.Rows.F.entry_set_update_loop ?_;rw[Around.under_plainId PyProof.Rows.F.plain_set_update_loop _];show aH _ A.in1 (pyNext (.ref I) >>= _) _ _ z;refine af (W.item i z _ _ (!1) st λv z' hv AM mv=>?_);obtain⟨t,rfl⟩:=Bd i v hv;have x':=x.keep (h':=z'.heap) λo e=>mv.heap S _ sw e;show aH _ A.in1 (holding [ah.int (val i) t] (setAdd S (.int (val i) t)) >>= _) _ _ z';refine af (wpAny_holding ?_);unfold setAdd;refine wpAny_holding (af ((intKind prog w).pyHash (k:=val i) (intKind_is _ _ _ _) ?_));refine II (s:={ z' with toks:=z'.toks+1 }) x' (by have:=sD val i;omega) λr h' a1 a2=>?_;refine am ⟨plainId_quiet PyProof.Rows.F.plain_set_update_loop _,ih (i+1) _ (!1) (!1) (W.frame _ z' _ _ AM (cV _) λb hb o e=>?_) a2 λZP ZQ ZR=>?_⟩
  .rw[a1.2 b λh:b=S=>S5 (h ▸ hb)];exact e
  .refine q ZP (Moved.trans W.gtrans ((mv.mono sb).then_heap (cV _) λb o hb e=>?_) ZQ) ZR
   rw[a1.2 b λh:b=S=>hb (by rw[h];exact ao)];exact e
theorem Gf (a:ah)(h:Q (!14) { s with heap:=s.heap.push { cls:=.type "set",dict:=none,data:=.set #[] 0 (.fresh 0 0 (!mE w)) } }) :
  codeAny (!12) A (.call (.builtin "set.__new__") ⟨[.type "set",a],[]⟩) (wants Q E) s:=by
 refine codeAny_of_tree ?_;show aH _ A.in1 (checkBuiltinCall "set.__new__" ⟨[.type "set",a],[]⟩ >>= λ_=>again (.builtin "set.__new__" ⟨[.type "set",a],[]⟩)) _ _ s;refine af (wpAny_of_eq (F.newCall_set_1 a) (am ⟨plainId_quiet F.plain_set_new _,codeAny_builtin F.entry_set_new ?_⟩));rw[Around.under_plainId F.plain_set_new _];unfold Builtin.«set.__new__» Builtin.Frozenset.newClass;have q:=sub_set_self;obtain⟨hp,g,d,tk,os⟩:=s;dsimp only
 wp_walk
 refine wpAny_askSetting (am ?_);dsimp only;simp only[newObj];exact af (wpAny_alloc (am (am h)))
set_option maxHeartbeats 3200000 in
theorem yh {l:Addr}{T:String}{items:Array ah}{od:Option Addr}{nl:Nat}{os:Array (Option ah)}{ns:List Int}{ob:Obj}{Q:ah->aA->Prop}(S6:s.heap.get? l=some { cls:=.type T,dict:=od,data:=.seq items nl,slots:=os })
  (ZS:isSubtype (.type T) (.type "set")=pure false) (ZT:isSubtype (.type T) (.type "frozenset")=pure false) (gX:(ah.type T == ah.type "dict")=false) (hi:IntsAre items.toList ns) (hb:items.size+1<scanBound) {St:Nat->Heap->Prop}
  (iter:∀{A':Around} {E':ah->aA->Prop} {Q':ah->aA->Prop} {z:aA},z.heap.get? l=some { cls:=.type T,dict:=od,data:=.seq items nl,slots:=os }->Q' (.ref z.heap.objs.size) { z with heap:=z.heap.push ob }->aH (!12) A' (pyIter (.ref l)) Q' E' z)
  (W:Walks prog w A.in1.in1.in1 (s.heap.objs.size+1) [s.heap.objs.size+1,l] [s.heap.objs.size+1] items.size (λi v=>items[i]? = some v) St)
  (AK:∀z:Heap,z.objs.size=s.heap.objs.size+1->z.get? l=some { cls:=.type T,dict:=od,data:=.seq items nl,slots:=os }->St 0 (z.push ob))
  (h:∀(h':Heap) (tk:Nat),ka w s.heap.objs.size (ju (λi=>ns.getD i 0) items.size) h'->(∀b o,s.heap.get? b=some o->h'.get? b=some o)->Q (!14) { s with heap:=h',toks:=tk }) :
  aH (!12) A (call (.type "set") [.ref l]) Q E s:=by
 obtain⟨c,tl,ZU⟩:=F.called_set.mro;have Ye:=F.called_set.made;have IH:=F.called_set.sub;refine wpAny_call (codeAny_of_tree ?_);show aH _ _ (callAny (.type "set") _) _ _ _;refine am ⟨Code.quiet_builtin _ (!3),codeAny_builtin F.entry_type_call ?_⟩;rw[Around.under_plain (weight_type_call_type "set" [.ref l] []) rfl];have g1:=F.called_set.notType;have g2:=F.called_set.canCreate;have g3:=F.typeCall_set_1 (.ref l);repeat (any_goals (first | assumption | wp_step))
 refine codeAny_mono (Gf (.ref l) (E:=E) (Q:=λx z=>x=.ref s.heap.objs.size/\z={ s with heap:=s.heap.push { cls:=.type "set",dict:=none,data:=.set #[] 0 (.fresh 0 0 (!mE w)) } }) ⟨rfl,rfl⟩) λr z hr=>?_
 cases r with
 | error e=>exact hr
 | ok fl =>
  cases fl with
  | ret x =>
   obtain⟨rfl,rfl⟩:=hr;have kp:∀b o,s.heap.get? b=some o->(s.heap.push { cls:=.type "set",dict:=none,data:=.set #[] 0 (.fresh 0 0 (!mE w)) }).get? b=some o:=λb o e=>aj _ e;have hS:(s.heap.push { cls:=.type "set",dict:=none,data:=.set #[] 0 (.fresh 0 0 (!mE w)) }).get? s.heap.objs.size=some { cls:=.type "set",dict:=none,data:=.set #[] 0 (.fresh 0 0 (!mE w)) }:=aB _ rfl;have hz:(s.heap.push { cls:=.type "set",dict:=none,data:=.set #[] 0 (.fresh 0 0 (!mE w)) }).objs.size=s.heap.objs.size+1:=by rw[bx]
   have P1:=kp l _ S6;have ZV:l<s.heap.objs.size:=aF S6;generalize s.heap.push { cls:=.type "set",dict:=none,data:=.set #[] 0 (.fresh 0 0 (!mE w)) }=h1 at hS kp hz P1 ⊢;have hT:aA.TypeIs { s with heap:=h1 } (!14) "set" := ⟨_,hS,rfl⟩;have hli:=F.called_set.init.lookup;have NA:=F.called_set.init.bind (!14);repeat (any_goals (first | assumption | wp_step))
   refine codeAny_mono (codeAny_call_builtin (R:=wants (λr z=>r=.none/\∃h' tk,z={ s with heap:=h',toks:=tk }/\ka w s.heap.objs.size (ju (λi=>ns.getD i 0) items.size) h'/\(∀b o,s.heap.get? b=some o->h'.get? b=some o)) E)
    F.called_set.init.plain F.entry_set_init (check_set_init_1 hT ?_)) λr₂ s₂ IJ=>?_
   .unfold Builtin.«set.__init__» noKeywords Builtin.Frozenset.updateFrom
    generalize ZW:pyIter=PI
    wp_walk
    subst ZW;refine iter P1 ?_;refine af (wpAny_runValue ?_);have Bd:∀(i:Nat) (v:ah),items[i]? = some v->∃t,v=.int ((λi=>ns.getD i 0) i) t:=λi v hv=>IntsAre.int_at hi i v (by rw[bB];exact hv)
    have P4:s.heap.objs.size ∉ [s.heap.objs.size+1,l]:=λq=>by
     rcases ax.mp q with q | q
     .exact absurd q (aR (cq _))
     .exact absurd (ap.mp q) (bv ZV)
    show codeAny _ _ (.builtin "set.update.loop" ⟨[.ref s.heap.objs.size,.ref h1.objs.size],[]⟩) _ _;rw[hz];refine Ge (A:=A.in1.in1) W.toS s.heap.objs.size P4 (λi=>ns.getD i 0) Bd hb (items.size - 0) 0 _ (!1) (bZ _) (AK h1 hz P1) ?hS0 ?hR
    case hS0=>exact⟨_,#[],0,_,aj _ hS,⟨rfl,rfl,rfl⟩,rfl,λe he=>by simp at he,by simp[ju],!2,by rfl,rfl,λ_=>by simp[SetTable.fresh]⟩
    case hR =>
     intro z' mv x;obtain⟨h',g',d',S7,VD⟩:=z';have eg:g'=s.gens:=mv.gens;have ed:d'=s.drawn:=mv.drawn;have eo:VD=s.os:=mv.os;subst eg ed eo;show aH _ _ _ _ _ _;refine am ?_;show aH _ _ (ret ah.none) _ _ _;refine am ⟨rfl,h',S7,rfl,x,λb o e=>?_⟩;have Yf:=aF e
     have ZX:b ∉ s.heap.objs.size::[s.heap.objs.size+1]:=λq=>by
      rcases ax.mp q with q | q
      .exact absurd q (aR Yf)
      .exact absurd (ap.mp q) (aR (bO Yf))
     exact mv.heap b o ZX (aj _ (kp b o e))
   .cases r₂ with
    | error e=>exact IJ
    | ok S8 =>
     cases S8 with
     | ret r =>
      obtain⟨rfl,h',tk,rfl,x,kq⟩:=IJ;repeat (any_goals (first | assumption | wp_step))
      exact h _ _ x kq
     | _=>exact IJ.elim
  | _=>exact hr.elim
end
open PyProof.Rows
theorem mF:Slot "set_iterator" "__next__" "set_iterator.__next__" :=
 Slot.of (owner := "set_iterator") (n := "__next__") (by rw[typeLookup_type,builtinLookup_eq_fast];kernel_rfl) (!3) (!3)
  (!3) (by first | exact .inl (!3) | exact .inr (!3)) (by rw[isSubtype_type];kernel_rfl)
theorem yj:entryFor table "set_iterator.__next__" = some Builtin.«set_iterator.__next__»:=entryFor_of_tree (by kernel_rfl)
theorem Be (a:ah):argsOk "set_iterator.__next__" ⟨[a],[]⟩:=by unfold argsOk;kernel_rfl
theorem Bf:entryFor table "set.__iter__" = some Builtin.«frozenset.__iter__»:=entryFor_alias (id' := "frozenset.__iter__") (by kernel_rfl) rfl (!3) (by kernel_rfl)
section
variable {prog:bf}{w:World}{A:Around}{E:ah->aA->Prop}{s:aA}
theorem xj (hn:0<n)(h:∀i d,i<n->Q i { s with drawn:=d }):aH M A (choose src n) Q E s:=λΓ p hΓ=>by
 unfold choose;rw[Sem.wp_choose];refine⟨bv hn,?_⟩;rw[Sem.wp_pure];exact h _ _ (Nat.mod_lt _ hn)
theorem n6 {M:Model}{α:Type}:∀(n:Nat) (xs:List α) {s:aA} {Q:List α->aA->Prop},n=xs.length->(∀ys d,ys.Perm xs->Q ys { s with drawn:=d })->aH M A (drawOrder n xs) Q E s
 | 0,[],s,Q,_,h=>by unfold drawOrder;exact am (h [] s.drawn .nil)
 | 0,_::_,s,Q,e,_=>by cases e
 | n+1,[],s,Q,e,_=>by cases e
 | n+1,x::xs,s,Q,e,h=>by
  unfold drawOrder;refine af (xj (!4) λi d hi=>?_);rw[aM hi];dsimp only;refine af (n6 n ((x::xs).eraseIdx i) (by rw[List.length_eraseIdx_of_lt hi];omega) λys d' p=>am ?_);exact h _ _ ((List.Perm.cons _ p).trans (by have:=tE hi;rwa [List.singleton_append] at this))
noncomputable def xk (t:SetTable):Nat->Nat
 | 0=>0
 | i+1=>t.place.getD i 0+1
noncomputable def IK (w:World)(a it pl:Addr)(es:Array (Int × ah))(ep:Nat)(t:SetTable)(out:List ah)(i:Nat)(first:ah)(h:Heap):Prop :=
 (mE w=true/\first=.int 0 0/\out=(pickOrder (w.params.setOrder a ep) es).toList.map (·.2)) \/
 (mE w=false/\(!t.plain && decide (es.size > 1))=false/\t.place.toList.Pairwise (· < ·)/\first=.int (xk t i:Nat) 0/\out=es.toList.map (·.2)) \/
 (mE w=false/\first=.ref pl/\pl≠it/\∃ord:List Nat,h.IsTuple pl (ord.map λi:Nat=>rawInt i).toArray/\ord.Perm (List.range es.size)/\out=ord.map λi=>((es[i]?).map (·.2)).getD .none)
noncomputable def Hg (w:World)(a it pl:Addr)(o:Obj)(es:Array (Int × ah))(ep:Nat)(t:SetTable)(out:List ah)(i:Nat)(h:Heap):Prop :=
 h.get? a=some o/\out.length=es.size/\∃first,h.get? it=some { cls:=.type "set_iterator",data:=.fields #[first,.int i 0,.ref a,.int es.size 0,.int ep 0] }/\IK w a it pl es ep t out i first h
structure Di (w:World) (o:Obj) (es:Array (Int × ah)) (ep:Nat) (t:SetTable):Prop where
 ex:o.ExactSet
 dat:o.data=.set es ep t
 fit:t.fits es.size=true
 led:t.led=!mE w
theorem Hg.frame (x:Hg w a it pl o es ep t out i h)(k:∀b∈[it,a,pl],∀o,h.get? b=some o->h'.get? b=some o):Hg w a it pl o es ep t out i h':=by
 obtain⟨x1,x2,f,x3,m⟩:=x;refine⟨k a (!4) _ x1,x2,f,k it (!4) _ x3,?_⟩;rcases m with m | m | ⟨m1,m2,m3,ord,m4,m5⟩
 .exact .inl m
 .exact .inr (.inl m)
 .exact .inr (.inr ⟨m1,m2,m3,ord,m4.at λo e=>k pl (!4) o e,m5⟩)
theorem Hg.type (x:Hg w a it pl o es ep t out i s.heap):s.TypeIs (.ref it) "set_iterator" := by
 obtain⟨_,_,f,e,_⟩:=x;exact⟨_,e,rfl⟩
theorem yk {t:SetTable}{n:Nat}(h:t.fits n=true):t.place.size=n:=by
 simp only[SetTable.fits,bn,beq_iff_eq] at h;exact h.1
theorem vm (F:Di w o es ep t)(x:s.heap.get? a=some o)(m:mE w=true)
  (q:Q ((((pickOrder (w.params.setOrder a ep) es).toList.map (·.2))[i]?).map λv=>(v,sl)) s):aH (!12) A (setNext a sl i ep) Q E s:=by
 unfold setNext;refine af (wpAny_setState_of x F.dat F.fit ?_);dsimp only;unfold setsByText;refine af (af (wpAny_askSetting (am ?_)));refine wpAny_ite_split (λ_=>?_) (λz=>absurd m z);rw[if_neg (!4)];unfold setWalk;refine af (af (wpAny_setState_of x F.dat F.fit ?_));dsimp only;unfold setsByText;refine af (af (wpAny_askSetting (am ?_)));refine wpAny_ite_split (λ_=>?_) (λz=>absurd m z);refine af (wpAny_askSetting (am ?_));refine am ?_
 have e:((pickOrder (w.params.setOrder a ep) es)[i]?).map (λe:Int × ah=>(e.2,sl))=(((pickOrder (w.params.setOrder a ep) es).toList.map (·.2))[i]?).map λv=>(v,sl):=by
  rw[az,bB,Option.map_map];rfl
 rw[<- e] at q;exact q
theorem vn {a:Addr}{o:Obj}{es:Array (Int × ah)}{ep i:Nat}{t:SetTable}{Q:Option (ah × Nat)->aA->Prop}(F:Di w o es ep t)(x:s.heap.get? a=some o)(m:mE w=false)(m2:(!t.plain && decide (es.size > 1))=false)
  (m3:t.place.toList.Pairwise (· < ·)) (hi:i<=es.size) (q:Q (((es.toList.map (·.2))[i]?).map λv=>(v,xk t (i+1))) s):aH (!12) A (setNext a (xk t i) i ep) Q E s:=by
 have hz:=yk F.fit;unfold setNext;refine af (wpAny_setState_of x F.dat F.fit ?_);dsimp only;unfold setsByText;refine af (af (wpAny_askSetting (am ?_)));refine wpAny_ite_split (λz=>absurd ((show mE w=true from z).symm.trans m) (!2)) (λ_=>?_);refine wpAny_ite_split (λz=>absurd ((show (!t.plain && decide (es.size > 1))=true from z).symm.trans m2) (!2)) (λ_=>?_);show aH _ _ ((if (!t.led && !es.isEmpty)=true then unsupported "set:maker-not-led" else pure ()) >>= _) _ _ _;rw[F.led,m];rw[if_neg (!4)];refine af (am (am ?_))
 have e:SetTable.below t.place (xk t i)=i:=by
  cases i with
  | zero=>exact SetTable.Dg m3
  | succ j =>
   have hj:j<t.place.size:=by omega
   have:xk t (j+1)=t.place[j] + 1:=by unfold xk;simp[hj]
   rw[this];exact SetTable.Dh m3 (by simp[hj])
 rw[e];rcases cs i es.size with hl | hl
 .have e1:es[i]? = some (es[i].1,es[i].2):=by simp[hl]
  have e2:t.place[i]? = some t.place[i]:=by simp[hz,hl]
  rw[e1,e2];have e3:(es.toList.map (·.2))[i]? = some es[i].2:=by rw[az,bB,e1];rfl
  rw[e3] at q;have e4:xk t (i+1)=t.place[i] + 1:=by unfold xk;simp[hz,hl]
  rw[e4] at q;exact q
 .have e1:es[i]? = none:=by simp[hl]
  have e3:(es.toList.map (·.2))[i]? = none:=by rw[az,bB,e1];rfl
  rw[e3] at q;rw[e1];exact q
theorem zH {h:Heap}{it:Addr}{vs:Array ah}(f:Array ah->Array ah)(ho:h.get? it=some { cls:=.type "set_iterator",data:=.fields vs }):(h.update it (Obj.mapFields f)).get? it=some { cls:=.type "set_iterator",data:=.fields (f vs) }:=by
 have:=ba (Obj.mapFields f) ho (Obj.isFreed_of_fields (Obj.data_mapFields rfl _));exact this
theorem Dj {a it pl:Addr}{o:Obj}{es:Array (Int × ah)}{ep:Nat}{t:SetTable}{out:List ah}{i:Nat}{v:ah}{Q:Option ah->aA->Prop}(F:Di w o es ep t)(x:Hg w a it pl o es ep t out i s.heap)(gX:a≠it)
  (hv:out[i]? = some v) (q:∀h',Hg w a it pl o es ep t out (i+1) h'->Heap.SameBut it s.heap h'->Q (some v) { s with heap:=h' }):aH (!12) A (pyNext (.ref it)) Q E s:=by
 have ty:=x.type;obtain⟨x1,x2,first,x3,m⟩:=x
 have hi:i<out.length:=by
  rcases cs i out.length with z | z
  .exact z
  .rw[bi z] at hv;cases hv
 unfold pyNext;refine af (wpAny_attempt (wpAny_callSpecial?_slot (name:=Str.ofString "__next__") ty mF (wpAny_call_entry mF ty yj ?_ (Be _))));show aH _ _ (fieldsOf (.ref it) >>= _) _ _ s;refine af (wpAny_fieldsOf x3 rfl ?_);show aH _ _ (setEntries a >>= _) _ _ s;refine af (wpAny_setEntries_of x1 F.dat F.fit ?_);rw[if_neg (!4)];have ot:∀(f:Obj->Obj) (h:Heap) (b:Addr) (ob:Obj),b≠it->h.get? b=some ob->(h.update it f).get? b=some ob:=λf h b ob hb e=>(aO _ _ (Ne.symm hb)).trans e
 have go:∀(sl nx:Nat),s.heap.get? it=some { cls:=.type "set_iterator",data:=.fields #[.int sl 0,.int i 0,.ref a,.int es.size 0,.int ep 0] }->(∀h',IK w a it pl es ep t out (i+1) (.int nx 0) h') ->
   (∀Q':Option (ah × Nat)->aA->Prop,∀E',Q' ((out[i]?).map λv=>(v,nx)) s->aH (!12) A.in1 (setNext a sl i ep) Q' E' s) ->
   ∀{E':ah->aA->Prop},aH (!12) A.in1 (setNext a ((sl:Int).toNat) ((i:Int).toNat) ((ep:Int).toNat) >>= λr=>match r with
    | some (y,next)=>setField (.ref it) 0 (rawInt next) >>= λ_=>setField (.ref it) 1 (rawInt ((i:Int)+1)) >>= λ_=>ret y
    | none=>setField (.ref it) 2 ah.none >>= λ_=>newExc (ah.type "StopIteration") [] >>= λe=>raiseNew e) (λfin s'=>∃v,fin=.done (.ret v)/\Q (some v) s') E' s:=by
  intro sl nx x3 md ZY E';simp only[a9];refine af (ZY _ _ ?_);rw[hv];dsimp only [Option.map];refine af (wpAny_setField x3 rfl (!4) (af ?_));have y1:=zH (·.setIfInBounds 0 (rawInt nx)) x3;refine wpAny_setField (s:={ s with heap:=s.heap.update it (Obj.mapFields (·.setIfInBounds 0 (rawInt nx))) }) y1 rfl (!4) (am ⟨v,rfl,?_⟩);have y2:=zH (·.setIfInBounds 1 (rawInt ((i:Int)+1))) y1;exact q _ ⟨ot _ _ a o gX (ot _ _ a o gX x1),x2,.int nx 0,by rw[y2];simp[rawInt],md _⟩ ((!39).trans (!39))
 rcases m with⟨m1,rfl,m2⟩ | ⟨m1,m2,m3,rfl,m4⟩ | ⟨m1,rfl,m2,ord,⟨Wl,t1,t2,nt,t3⟩,m4,m5⟩
 .exact cf (go 0 0 x3 (λh'=>.inl ⟨m1,rfl,m2⟩) λQ' E' q'=>vm F x1 m1 (by rw[<- m2];exact q')) (λfin s' ⟨v,e,h⟩=>⟨v,e,am h⟩) λe s' h=>h
 .exact cf (go (xk t i) (xk t (i+1)) x3 (λh'=>.inr (.inl ⟨m1,m2,m3,rfl,m4⟩)) λQ' E' q'=>vn F x1 m1 m2 m3 (!1) (by rw[<- m4];exact q')) (λfin s' ⟨v,e,h⟩=>⟨v,e,am h⟩) λe s' h=>h
 .show aH _ _ (seqItems? (.ref pl) >>= _) _ _ s
  refine af (wpAny_seqItems t1 t3 ?_);rw[m5,az] at hv
  cases ho:ord[i]? with
  | none=>rw[ho] at hv;cases hv
  | some j =>
   rw[ho] at hv
   have hj:j<es.size:=by
    have:j∈List.range es.size:=m4.mem_iff.mp (bG ho);exact c6.mp this
   have ej:es[j]? = some (es[j].1,es[j].2):=by simp[hj]
   have ev:v=es[j].2:=by simp only[bo,ej] at hv;cases hv;rfl
   have Wm:((ord.map λi:Nat=>rawInt i).toArray)[(i:Int).toNat]? = some (.int j 0):=by
    rw[cr,a9,az,ho];rfl
   dsimp only;rw[Wm];dsimp only;refine af ?_;unfold setNextDrawn;refine af (wpAny_setState_of x1 F.dat F.fit ?_);dsimp only;rw[if_neg (!4),a9,ej];dsimp only;refine am ?_;refine af (wpAny_setField x3 rfl (!4) (am ⟨_,rfl,am ?_⟩));have y2:=zH (·.setIfInBounds 1 (rawInt ((i:Int)+1))) x3;rw[<- ev];exact q _ ⟨ot _ _ a o gX x1,x2,.ref pl,by rw[y2];simp[rawInt],.inr (.inr ⟨m1,rfl,m2,ord,⟨Wl,ot _ _ pl Wl m2 t1,t2,nt,t3⟩,m4,m5⟩)⟩ (!39)
theorem vo {a it pl:Addr}{o:Obj}{es:Array (Int × ah)}{ep:Nat}{t:SetTable}{out:List ah}{Q:Option ah->aA->Prop}(hh:A.handled=none)(F:Di w o es ep t)(x:Hg w a it pl o es ep t out out.length s.heap)
  (q:∀h',Heap.ExtBut it s.heap h'->Q none { s with heap:=h' }):aH (!12) A (pyNext (.ref it)) Q E s:=by
 have ty:=x.type;obtain⟨x1,x2,first,x3,m⟩:=x;unfold pyNext;refine af (wpAny_attempt (wpAny_callSpecial?_slot (name:=Str.ofString "__next__") ty mF (wpAny_call_entry mF ty yj ?_ (Be _))));show aH _ _ (fieldsOf (.ref it) >>= _) _ _ s;refine af (wpAny_fieldsOf x3 rfl ?_);show aH _ _ (setEntries a >>= _) _ _ s;refine af (wpAny_setEntries_of x1 F.dat F.fit ?_);rw[if_neg (!4)]
 have fin:∀{α:Type} (h1:Heap) (B:Around) (Q':α->aA->Prop),B.handled=none->Heap.ExtBut it s.heap h1->aH (!12) B (newExc (ah.type "StopIteration") [] >>= λe=>raiseNew e)
   Q' (λe s'=>aH (!12) A (isInstance e (ah.type "StopIteration") >>= λb=>if b=true then pure none else throw e) Q E s') { s with heap:=h1 }:=by
  intro α h1 B Q' hB k1;refine af ?_;simp only[newExc,newTuple];refine af (aY (af (m:=firstArgMember _ _) (wpAny_of_eq (a:=ah.none) (by first | rfl | (simp only[firstArgMember];rfl)) (aY ?_ (by size_fits)))) (by size_fits));simp only[raiseNew];refine af (wpAny_handled ?_);rw[hB];refine af (am (wpAny_throw ?_));refine af (wpAny_isInstance (T := "StopIteration") (b:=true) ⟨_,aB _ rfl,rfl⟩ isSubtype_stop (am ?_));exact q _ ((k1.push _).push _)
 have no:out[out.length]? = none:=by simp
 rcases m with⟨m1,rfl,m2⟩ | ⟨m1,m2,m3,rfl,m4⟩ | ⟨m1,rfl,m2,ord,⟨Wl,t1,t2,nt,t3⟩,m4,m5⟩
 .show aH _ _ (setNext a _ _ _ >>= _) _ _ s
  simp only[a9];refine af (vm F x1 m1 ?_);rw[<- m2,no];dsimp only [Option.map];exact af (wpAny_setField x3 rfl (!4) (fin _ _ _ hh (!39).extBut))
 .show aH _ _ (setNext a _ _ _ >>= _) _ _ s
  simp only[a9];refine af (vn F x1 m1 m2 m3 (!1) ?_);rw[<- m4,no];dsimp only [Option.map];exact af (wpAny_setField x3 rfl (!4) (fin _ _ _ hh (!39).extBut))
 .show aH _ _ (seqItems? (.ref pl) >>= _) _ _ s
  refine af (wpAny_seqItems t1 t3 ?_);have ol:ord.length=out.length:=by rw[m5,ar]
  have Wm:((ord.map λi:Nat=>rawInt i).toArray)[((out.length:Nat):Int).toNat]? = none:=by
   rw[cr,a9,az,bi (!1)];rfl
  dsimp only;rw[Wm];dsimp only;refine af (wpAny_setField x3 rfl (!4) (af ?_));have y1:=zH (·.setIfInBounds 0 (rawInt 0)) x3;exact wpAny_setField (s:={ s with heap:=s.heap.update it (Obj.mapFields (·.setIfInBounds 0 (rawInt 0))) }) y1 rfl (!4) (fin _ _ _ hh ((!39).trans (!39)).extBut)
end
open PyProof.Rows
theorem ym:Slot "set_iterator" "__iter__" "set_iterator.__iter__" :=
 Slot.of (owner := "set_iterator") (n := "__iter__") (by rw[typeLookup_type,builtinLookup_eq_fast];kernel_rfl) (!3) (!3)
  (!3) (by first | exact .inl (!3) | exact .inr (!3)) (by rw[isSubtype_type];kernel_rfl)
theorem Dk:entryFor table "set_iterator.__iter__" = some Builtin.«dict_keyiterator.__iter__»:=entryFor_alias (id' := "dict_keyiterator.__iter__") (by kernel_rfl) rfl (!3) (by kernel_rfl)
theorem Gg (a:ah):argsOk "set_iterator.__iter__" ⟨[a],[]⟩:=by unfold argsOk;kernel_rfl
section
theorem zG.ints:zG l->IntsAre (l.map (·.2)) (l.filterMap Gb):=by
 induction l with
 | nil=>intro _;exact .nil
 | cons e l ih =>
  intro h;obtain⟨k,t,rfl⟩:=h e (!4);exact .cons k t (ih λe he=>h e (by simp[he]))
theorem Bg (es:Array (Int × ah)):∀(l:List Nat),(∀j∈l,j<es.size)->(l.map λi=>((es[i]?).map (·.2)).getD ah.none)=(l.filterMap λi=>es[i]?).map (·.2)
 | [],_=>rfl
 | j::l,h=>by
  have hj:=h j (!4);have e:es[j]? = some es[j]:=by simp[hj]
  rw[ai,cu,e,Bg es l λi hi=>h i (by simp[hi])];rfl
theorem Bh (x:ka w a ns s.heap) (q:∀h' d' it pl o es ep t out ms,Di w o es ep t->Hg w a it pl o es ep t out 0 h'->(∀b ob,s.heap.get? b=some ob->h'.get? b=some ob) ->
   s.heap.objs.size<=it->s.heap.objs.size<=pl->IntsAre out ms->ms.Perm ns->Q (.ref it) { s with heap:=h',drawn:=d' }):aH (!12) A (pyIter (.ref a)) Q E s:=by
 have ty:=x.type;obtain⟨o,es,ep,t,ho,ex,hd,h1,h2,h3,h4,h5,h6⟩:=x;have F:Di w o es ep t:=⟨ex,hd,h4,h5⟩;have hz:=yk h4;refine wpAny_pyIter_slot ty PySem.F.slot_set_iter (wpAny_call_entry PySem.F.slot_set_iter ty Bf ?_ (PySem.F.args_set_iter_1 _));unfold Builtin.«frozenset.__iter__» Builtin.Frozenset.slot0 slotArgs;simp only[List.isEmpty_nil,Bool.not_true,bQ,↓reduceIte,bind_assoc,aL,bne_self_eq_false];unfold Builtin.Frozenset.addrOf Builtin.Frozenset.sizeOf;refine af (am ?_);try dsimp only
 refine af (am ?_);refine af (af (wpAny_setEntries_of ho hd h4 (am ?_)));unfold setDrawn;refine af (af (wpAny_setState_of ho hd h4 ?_));dsimp only;unfold setsByText;refine af (af (wpAny_askSetting (am (am ?_))))
 have fin:∀(h':Heap) (d':_) (pl:Addr) (first:ah) (out:List ah) (ms:List Int),(∀b ob,s.heap.get? b=some ob->h'.get? b=some ob)->s.heap.objs.size<=h'.objs.size->s.heap.objs.size<=pl ->
   IK w a h'.objs.size pl es ep t out 0 first (h'.push { cls:=.type "set_iterator",data:=.fields #[first,.int 0 0,.ref a,.int es.size 0,.int ep 0] })->out.length=es.size->IntsAre out ms->ms.Perm ns ->
   aH (!12) A.in1 (setEpoch a >>= λe=>newFields "set_iterator" [first,rawInt 0,.ref a,rawInt es.size,rawInt e] >>= λv=>ret v)
    (λfin s'=>∃v,fin=.done (.ret v)/\∃T' r,s'.TypeIs v T'/\typeLookup (.type T') "__next__" = pure (some r)/\Q v s') E { s with heap:=h',drawn:=d' }:=by
  intro h' d' pl first out ms kp z1 z2 md ol ia pm
  refine af (wpAny_setEpoch_of (s:={ s with heap:=h',drawn:=d' }) (kp a o ho) hd h4 ?_);unfold newFields;refine af (aY (am ⟨_,rfl, "set_iterator",_,⟨_,aB _ rfl,rfl⟩,mF.lookup,?_⟩));have g:(h'.push { cls:=.type "set_iterator",data:=.fields #[first,.int 0 0,.ref a,.int es.size 0,.int ep 0] }).get? h'.objs.size=some { cls:=.type "set_iterator",data:=.fields #[first,.int 0 0,.ref a,.int es.size 0,.int ep 0] }:=aB _ rfl;exact q _ d' h'.objs.size pl o es ep t out ms F ⟨aj _ (kp a o ho),ol,first,g,md⟩ (λb ob e=>aj _ (kp b ob e)) z1 z2 ia pm
 cases hb:mE w with
 | true =>
  refine wpAny_ite_split (λz=>?_) (λ_=>?_)
  .exfalso
   have:(!mE w && (!t.plain && decide (es.size > 1)))=true:=z;rw[hb] at this;cases this
  .refine af (am ?_)
   have p1:=vk (w.params.setOrder a ep) es;refine fin s.heap s.drawn s.heap.objs.size (.int 0 0) _ _ (λ_ _ e=>e) (aw _) (aw _) (.inl ⟨hb,rfl,rfl⟩) ?_ (zG.ints (h1.perm p1)) ((p1.filterMap Gb).trans h2);rw[ar,p1.length_eq,bD]
 | false =>
  refine wpAny_ite_split (λz=>?_) (λz=>?_)
  .refine af (n6 es.size (List.range es.size) (!4) λord d' p=>?_)
   refine af (wpAny_newTuple ?_ ?_)
   .have lt:∀j∈ord,j<es.size:=λj hj=>c6.mp (p.mem_iff.mp hj)
    have p1:(ord.filterMap λi=>es[i]?).Perm es.toList:=(p.filterMap _).trans (by rw[filterMap_getElem?_range]);have g:(s.heap.push { cls:=.type "tuple",data:=.seq (ord.map λi:Nat=>rawInt i).toArray }).get? s.heap.objs.size=some { cls:=.type "tuple",data:=.seq (ord.map λi:Nat=>rawInt i).toArray }:=aB _ rfl;refine fin _ d' s.heap.objs.size (!14) (ord.map λi=>((es[i]?).map (·.2)).getD .none) ((ord.filterMap λi=>es[i]?).filterMap Gb) (λb ob e=>aj _ e) (by rw[bx];exact cV _) (aw _) ?_ ?_ ?_ ((p1.filterMap Gb).trans h2)
    .refine .inr (.inr ⟨hb,rfl,by rw[bx];exact aR (cq _),ord,⟨_,aj _ g,rfl,0,rfl⟩,p,rfl⟩)
    .rw[ar,p.length_eq,List.length_range]
    .rw[Bg es ord lt]
     exact zG.ints (h1.perm p1)
   .have:ord.length=es.size:=by rw[p.length_eq,List.length_range]
    have hb:scanBound=4096:=rfl;simp only[ar,this];rw[sizeLine_eq];omega
  .refine af (am ?_)
   have z':(!t.plain && decide (es.size > 1))=false:=by
    have:¬ (!mE w && (!t.plain && decide (es.size > 1)))=true:=z;rw[hb] at this;simpa using this
   refine fin s.heap s.drawn s.heap.objs.size (.int 0 0) _ _ (λ_ _ e=>e) (aw _) (aw _) (.inr (.inl ⟨hb,z',?_,rfl,rfl⟩)) ?_ (zG.ints h1) h2
   .cases hp:t.plain with
    | true=>exact h6 hp
    | false =>
     rw[hp] at z';have:t.place.toList.length<=1:=by rw[bD,hz];simpa using z'
     match t.place.toList,this with
     | [],_=>exact .nil
     | [a],_=>exact List.pairwise_singleton _ _
     | _::_::_,h=>exact absurd h (!4)
   .rw[ar,bD]
theorem Dl (x:Hg w a it pl o es ep t out i s.heap)(q:Q (.ref it) s):aH (!12) A (pyIter (.ref it)) Q E s:=by
 have ty:=x.type;refine wpAny_pyIter_slot ty ym (wpAny_call_entry ym ty Dk ?_ (Gg _));show aH _ _ (ret (.ref it)) _ _ s;exact am ⟨_,rfl, "set_iterator",_,ty,mF.lookup,q⟩
theorem Gh (out:List ah)(hh:A.handled=none)(F:Di w o es ep t)(gX:a≠it) :
  Walks prog w A it [it,a,pl] [it] out.length (λi v=>out[i]? = some v) (Hg w a it pl o es ep t out) where
 sub:=λb hb=>by simp at hb;simp[hb]
 frame:=λ_ _ _ st k=>st.frame k
 item:=λi s Q E hi st hQ=>by
  have e:out[i]? = some out[i]:=by simp[hi]
  exact Dj F st gX e λh' AM sb=>hQ _ h' s.toks e AM λb ob hb e=>sb.extBut b ob (λh=>hb (by simp[h])) e
 done:=λs Q E st hQ=>vo hh F st λh' ex=>hQ h' s.toks λb ob hb e=>ex b ob (λh=>hb (by simp[h])) e
 self:=λ_ _ _ _ st hQ=>Dl st hQ
end
open PyProof.Rows
section
theorem IL (x:ka w d ns s.heap)(h:∀b,Q b s):aH (!12) A (Builtin.List.listLengthHint (.ref d)) Q E s:=by
 have ty:=x.type;unfold Builtin.List.listLengthHint;refine af (wpAny_specialOf ty F.slot_set_len.lookup ?_);generalize hj:("set.__len__" : String)=j0
 wp_delta
 rw[show splitId j0=some ("set", "__len__") from by subst hj;decide +kernel];subst hj;refine af (wpAny_isInstance (T := "set") (b:=true) ty (by rw[isSubtype_type];kernel_rfl) ?_);refine wpAny_ite_split (λz=>absurd z (!2)) (λ_=>?_);refine wpAny_ite_split (λ_=>?_) (λz=>absurd (!3) z);exact af (wpAny_typeOf ty (am (h _)))
theorem Dm (hh:A.handled=none)(x:ka w d ns s.heap)(hlen:ns.length<=aC)(S:Addr)(res:ah)(c₀:Nat)(hS:s.heap.get? S=some { cls:=.type "list",data:=.seq #[] c₀ })
  (hR:∀h' tk d' w9 c' ms,(∀b o,b≠S->s.heap.get? b=some o->h'.get? b=some o)->h'.get? S=some { cls:=.type "list",dict:=none,data:=.seq w9 c',slots:=#[] }->IntsAre w9.toList ms->ms.Perm ns ->
   R (.ok (.ret res)) { s with heap:=h',toks:=tk,drawn:=d' }) :
  aH (!12) A.in1 (Builtin.List.listExtendWith (.ref S) (.ref d) res)
   (λfin s'=>match fin with | .done f=>R (.ok f) s' | .again c'=>c'.quiet=true/\codeAny (!12) A c' R s') (λe s'=>R (.error e) s') s:=by
 have ty:=x.type;have S9:d<s.heap.objs.size:=by obtain⟨o,es,ep,t,e,_⟩:=id x;exact aF e
 have Ta:S<s.heap.objs.size:=aF hS
 have U2:S≠d:=λz=>by
  obtain⟨o,e,c⟩:=ty;rw[<- z,hS] at e;cases e;exact absurd (show ah.type "list" = ah.type "set" from c) (!2)
 unfold Builtin.List.listExtendWith;refine af (wpAny_typeOf ty ?_);have n1:Builtin.List.listSameRef (.ref S) (.ref d)=false:=by simp[Builtin.List.listSameRef,U2]
 have n2:(ah.type "set" == ah.type "list")=false:=by decide
 have n3:(ah.type "set" == ah.type "tuple")=false:=by decide
 simp only[n1,n2,n3,Bool.or_false,bQ,if_false];refine af (Bh x λh1 d1 it pl o es ep t out ms Fx st EE ya oo ia pm=>?_);have gX:d≠it:=aR (aP S9 ya);have U3:S≠it:=aR (aP Ta ya);have ZZ:S≠pl:=aR (aP Ta oo)
 have S5:S ∉ [it,d,pl]:=λz=>by
  rcases ax.mp z with z | z
  .exact U3 z
  .rcases ax.mp z with z | z
   .exact U2 z
   .exact ZZ (ap.mp z)
 have W:=(Gh (prog:=prog) (w:=w) (A:=A.in1) (a:=d) (it:=it) (pl:=pl) out hh Fx gX).toS;have ol:out.length=ns.length:=by rw[<- pm.length_eq];exact IntsAre.length ia
 have run:∀(h:Heap) (c₁ tk:Nat),Hg w d it pl o es ep t out 0 h->(∀b o,b≠S->s.heap.get? b=some o->h.get? b=some o) ->
   h.get? S=some { cls:=.type "list",data:=.seq #[] c₁ }->codeAny (!12) A (.builtin "list.extend.loop" ⟨[.ref S,.ref it,res],[]⟩) R { s with heap:=h,toks:=tk,drawn:=d1 }:=by
  intro h c₁ tk P5 hk Bi;refine codeAny_extend_loopS W (!1) S S5 res out.length 0 _ #[] c₁ rfl (bZ _) P5 Bi (ItemsOf.nil _) λs' w9 c' mv KZ zy=>?_;have j7:=Moved.eq_with mv
  have Hh:w9.toList=out:=by
   refine List.ext_getElem? λj=>?_;rw[bB];rcases cs j w9.size with hj | hj
   .have e:w9[j]? = some w9[j]:=by simp[hj]
    rw[e,zy.2 j _ e]
   .rw[cp hj,bi (by have:=zy.1;omega)]
  rw[j7];refine hR s'.heap s'.toks d1 w9 c' ms (λb o hb e=>mv.heap b o (λz=>?_) (hk b o hb e)) KZ (by rw[Hh];exact ia) pm;rcases ax.mp z with z | z
  .exact hb z
  .have:b=it:=by simpa using z
   exact absurd (aP (aF e) ya) (by rw[this];exact bC _)
 have Bi:=EE S _ hS;refine af (wpAny_holding (IL (s:={ s with heap:=h1,drawn:=d1 }) (x.keep λo e=>EE _ o e) λb=>?_));refine wpAny_ite_split (λ_=>?_) (λ_=>am ⟨plainId_quiet F.plain_extend_loop _,run h1 c₀ s.toks st (λb o _ e=>EE b o e) Bi⟩);refine af (wpAny_rule (af ?_));show aH _ _ (updateSeq S (·.push .none) >>= λ_=>updateSeq S (·.pop)) _ _ { s with heap:=h1,drawn:=d1 };refine af (wpAny_updateSeq Bi rfl ?_);have NB:=ba (Obj.mapSeq (·.push ah.none)) Bi rfl;refine wpAny_updateSeq (hz:=by seq_fits) NB rfl ?_;have Tb:=ba (Obj.mapSeq (·.pop)) NB rfl
 have NC:∀b o,b≠S->h1.get? b=some o->((h1.update S (Obj.mapSeq (·.push ah.none))).update S (Obj.mapSeq (·.pop))).get? b=some o:=λb o hb e =>
  (aO _ _ (Ne.symm hb)).trans ((aO _ _ (Ne.symm hb)).trans e)
 refine am ⟨plainId_quiet F.plain_extend_loop _,run _ _ s.toks (st.frame λb hb o e=>NC _ o (λz=>S5 (z ▸ hb)) e) (λb o hb e=>NC b o hb (EE b o e)) Tb⟩
theorem Bj (hh:A.handled=none)(x:ka w d ns s.heap)(hlen:ns.length<=aC)
  (hQ:∀h' tk d' acc ms,(∀b o,s.heap.get? b=some o->h'.get? b=some o)->IntsAre acc ms->ms.Perm ns->Q acc { s with heap:=h',toks:=tk,drawn:=d' }):aH (!12) A (collect (.ref d)) Q E s:=by
 unfold collect;refine af (wpAny_runValue (codeAny_builtin F.entry_proto_collect ?_));rw[Around.under_plainId F.plain_proto_collect _];show aH _ A.in1 (newList [] >>= λl=>again (.builtin "list.__iadd__" ⟨[l,.ref d],[]⟩)) _ _ s;refine af (aY (am ⟨plainId_quiet F.plain_list_iadd _,codeAny_builtin F.entry_list_iadd ?_⟩));rw[Around.under_plainId F.plain_list_iadd _];show aH _ A.in1 (Builtin.List.listExtendWith (!14) (.ref d) (!14)) _ _ _;have hS:(s.heap.push { cls:=.type "list",data:=.seq ([]:List ah).toArray }).get? s.heap.objs.size=some { cls:=.type "list",data:=.seq #[] 0 }:=aB _ rfl;have k0:∀b o,s.heap.get? b=some o->(s.heap.push { cls:=.type "list",data:=.seq ([]:List ah).toArray }).get? b=some o:=λb o e=>aj _ e;generalize s.heap.push { cls:=.type "list",data:=.seq ([]:List ah).toArray }=h0 at hS k0 ⊢
 have Tc:∀(h':Heap) (tk:Nat) (d':Drawn) (acc:Array ah) (c':Nat) (ms:List Int),(∀b o,b≠s.heap.objs.size->h0.get? b=some o->h'.get? b=some o) ->
   h'.get? s.heap.objs.size=some { cls:=.type "list",dict:=none,data:=.seq acc c',slots:=#[] }->IntsAre acc.toList ms->ms.Perm ns ->
   aH (!12) A (match ah.ref s.heap.objs.size with
   | ah.ref a=>do
    match (<- load a).data with
     | Data.seq xs _=>pure xs.toList
     | _=>unsupported "internal:collect"
   | _=>unsupported "internal:collect") Q E { s with heap:=h',toks:=tk,drawn:=d' }:=λh' tk d' acc c' ms kp e hi pm=>by
  show aH _ A (load s.heap.objs.size >>= _) _ _ _;refine af (wpAny_load e ?_);exact am (hQ h' tk d' acc.toList ms (λb o hb=>kp b o (aR (aF hb)) (k0 b o hb)) hi pm)
 refine cf (Dm (A:=A) (R:=λr' s'=>r'=.ok (.ret (!14))/\∃h' tk d' acc c' ms,s'={ s with heap:=h',toks:=tk,drawn:=d' }/\(∀b o,b≠s.heap.objs.size->h0.get? b=some o->h'.get? b=some o) /\
   h'.get? s.heap.objs.size=some { cls:=.type "list",dict:=none,data:=.seq acc c',slots:=#[] }/\IntsAre acc.toList ms/\ms.Perm ns)
  (s:={ s with heap:=h0 }) hh (x.keep λo e=>k0 _ o e) hlen s.heap.objs.size (!14) 0 hS λh' tk d' acc c' ms kp e hi pm=>⟨rfl,h',tk,d',acc,c',ms,rfl,kp,e,hi,pm⟩) (λfin s' h=>?_) (λe s' h=>?_)
 .cases fin with
  | done f =>
   obtain⟨e,h',tk,d',acc,c',ms,rfl,kp,q,hi,pm⟩:=h;cases e;exact Tc h' tk d' acc c' ms kp q hi pm
  | again c'=>exact⟨h.1,codeAny_mono h.2 λr Rj hr=>by obtain⟨rfl,h',tk,d',acc,c',ms,rfl,kp,q,hi,pm⟩:=hr;exact Tc h' tk d' acc c' ms kp q hi pm⟩
 .exact absurd h.1 (!4)
end
end PySem
namespace L2
open PySem PySem.Spec PyProof.Rows
section
variable {X:Cx}
theorem EF {z:Heap}{n:Nat}{ob:Obj}(h:z.objs.size=n)(hf:ob.isFreed=false):(z.push ob).get? n=some ob:=h ▸ aB _ hf
theorem Inv.drawn (I:Inv X pins σ H s)(d:Drawn):Inv X pins σ H { s with drawn:=d } :=
 { ok:=I.ok,os:=I.os,bare:=I.bare,base:=I.base,loc:=I.loc,cell:=I.cell,free:=I.free,freeC:=I.freeC,pin:=I.pin,hok:=I.hok,len:=I.len }
theorem zI (w:World)(hc:X.calm=true)(hw:X.w=w:=by rfl):gL X (.builtin "sorted") (λxs H Q=>∃(p:Addr) (ns:List Int),xs=[.ref p]/\H p=some (.ext (ka w p ns))/\ns.length<64 /\
  ∀(l:Addr) (ms:List Int),ms.Perm ns->ms.Pairwise (·<=·)->H l=none->Q (.ref l) (fz H l (.lst (ms.map V.int)))):=by
 subst hw;(intro pins s σ H xs us Q I r h);obtain⟨p,ns,rfl,hp,U1,q⟩:=h;rw[12];cases ru;obtain⟨x,_,_⟩:=I.hok p _ hp;refine Calls.call_function_entry kind_sorted plain_sorted entry_sorted (args_sorted1 _) ?_;unfold Builtin.«sorted»;refine af (m:=checkCount "sorted" 1 1 _) (am ?_);refine af (Bj (A:=X.A.in1) (I.ok.hd hc) x (by rw[show aC=16777216 by decide];omega) λh1 tk d1 acc ms Z0 hI Wn=>?_)
 have Hh:acc.length<64:=by
  rw[IntsAre.length hI,Wn.length_eq];exact U1
 refine af (wpAny_newList ?_);have RH:(h1.push (seqObj "list" acc.toArray 0)).get? h1.objs.size=some (seqObj "list" acc.toArray 0):=aB _ rfl;show aH _ _ _ _ _ { s with heap:=h1.push (seqObj "list" acc.toArray 0),toks:=tk,drawn:=d1 };refine af (wpAny_holding (wpAny_call_entry slot_list_sort ⟨_,RH,rfl⟩ entry_list_sort (list_sort_tree RH hI Hh λout U4 a1 a2 a3=>⟨_,rfl,?_⟩) (args_list_sort _)));refine am ⟨_,rfl,?_⟩;have hm:=a2.length_eq;have EG:=Wn.length_eq;have hv:eS (U4.map V.int) out.toList:=eS.zE a1;have hsz:(U4.map V.int).length<=aC:=by rw[ar,show aC=16777216 by decide];omega
 have I1:Inv X pins σ H { s with heap:=h1,toks:=tk,drawn:=d1 }:=(I.kept (t':=tk) Z0).drawn d1
 have P0:∀b ob,h1.get? b=some ob->(sortedHeap (h1.push (seqObj "list" acc.toArray 0)) h1.objs.size acc out).get? b=some ob:=by
  intro b ob e;have hb:h1.objs.size≠b:=bv (aF e);unfold sortedHeap;rw[aO _ _ hb];refine aj _ (aj _ ?_);rw[aO _ _ hb];exact aj _ e
 have nw:∃n,(sortedHeap (h1.push (seqObj "list" acc.toArray 0)) h1.objs.size acc out).get? h1.objs.size=some { cls:=.type "list",data:=.seq out n }:=by
  have g2:=ba (Obj.mapSeq λ_=>(#[]:Array ah)) RH rfl;have g3:=aj (seqObj "list" #[] 0) (aj (seqObj "tuple" acc.toArray 0) g2);have g4:=ba (Obj.mapSeq λ_=>out) g3 rfl;exact⟨_,g4⟩
 obtain⟨n,nw⟩:=nw;exact⟨.ref h1.objs.size,_,I1.laid (t':=tk) (o:=.lst (U4.map V.int)) P0 (aw _) ⟨hsz,out.toList,n,hv,by simpa using nw⟩,rfl,q _ U4 (a2.trans Wn) a3 (I1.hok.fresh (aw _))⟩
theorem Gi (K:W.Frag)(w:World)(hc:X.calm=true)(hk:X.K=K:=by rfl)(hw:X.w=w:=by rfl):gL X (.type "set") (λxs H Q=>∃(p:Addr) (ns:List Int),xs=[.ref p]/\(gx K H p (!21)\/jt K H p (!21))/\ns.length<4000 /\
  ∀(l:Addr) (ms:List Int),ms.Nodup->(∀k,k∈ms↔k∈ns)->ms.length<=ns.length->H l=none->Q (.ref l) (fz H l (.ext (ka w l ms)))):=by
 subst hk hw;(intro pins s σ H xs us Q I r h);obtain⟨p,ns,rfl,hp,lB,q⟩:=h;rw[12];cases ru
 have mem:∀(n:Nat) (k:Int),n=ns.length->(k∈ju (λi=>ns.getD i 0) n↔k∈ns):=by
  intro n k e;subst e;rw[yg,List.mem_iff_getElem];constructor
  .rintro⟨j,hj,e⟩
   exact⟨j,hj,by rw[<- e];simp[hj]⟩
  .rintro⟨j,hj,e⟩
   exact⟨j,hj,by rw[<- e];simp[hj]⟩
 have fin:∀(n:Nat) (h':Heap) (tk:Nat),n=ns.length->ka X.w s.heap.objs.size (ju (λi=>ns.getD i 0) n) h'->(∀b o,s.heap.get? b=some o->h'.get? b=some o)->EP X pins σ Q (!14) { s with heap:=h',toks:=tk }:=by
  intro n h' tk e x kp;have ol:=sD (λi=>ns.getD i 0) n;refine⟨.ref s.heap.objs.size,_,I.laid (t':=tk) (o:=.ext (ka X.w s.heap.objs.size (ju (λi=>ns.getD i 0) n))) kp (aw _) ⟨x,?_,λh1 h2 x k=>x.keep k⟩,rfl,q _ _ (Bc _ _) (λk=>mem n k e) (!1) (!34)⟩;obtain⟨o,_,_,_,e,_⟩:=x;exact⟨o,e⟩
 have Yg:∀B:Around,B.handled=none->B.in1.in1.in1.handled=none:=λB h=>by simp[h]
 rcases hp with hp | hp
 .obtain⟨its,rv,pl,hz⟩:=I.list hp
  obtain⟨o,ho,Dn,n,hd⟩:=pl.isList;obtain⟨oc,Z1,Z2,Hd⟩:=o;simp only at Dn hd;subst Dn hd;have hl:=rv.length;rw[ar] at hl;have oo:p<s.heap.objs.size:=aF ho
  exact yh (s:=s) (ns:=ns) ho PySem.F.sub_list_set PySem.F.sub_list_frozenset (!2) (by simpa using IntsAre.uF rv) (by rw[show scanBound=4096 from rfl,aD];omega)
   (λ{A' E' Q' z} e h=>wpAny_pyIter_list ⟨_,e,rfl,_,rfl⟩ h) (Walks.list (Yg _ (I.ok.hd hc)) _ p (aR (bO oo)) its.toArray)
   (λz hz e=>⟨⟨_,EF hz rfl,rfl,rfl⟩,⟨_,aj _ e,rfl,_,rfl⟩⟩) λh' tk x kp=>fin _ h' tk (by rw[aD];omega) x kp
 .obtain⟨its,rv,pl,hz⟩:=I.tuple hp
  obtain⟨o,ho,Dn,n,hd⟩:=pl;obtain⟨oc,Z1,Z2,Hd⟩:=o;simp only at Dn hd;subst Dn hd;have hl:=rv.length;rw[ar] at hl;have oo:p<s.heap.objs.size:=aF ho
  exact yh (s:=s) (ns:=ns) ho PySem.F.sub_tuple_set PySem.F.sub_tuple_frozenset (!2) (by simpa using IntsAre.uF rv) (by rw[show scanBound=4096 from rfl,aD];omega)
   (λ{A' E' Q' z} e h=>wpAny_pyIter_tuple ⟨_,e,rfl,_,rfl⟩ h) (Walks.tuple (Yg _ (I.ok.hd hc)) _ p (aR (bO oo)) its.toArray)
   (λz hz e=>⟨⟨_,EF hz rfl,rfl,rfl⟩,⟨_,aj _ e,rfl,_,rfl⟩⟩) λh' tk x kp=>fin _ h' tk (by rw[aD];omega) x kp
end
noncomputable def Td (K:W.Frag)(a:Addr):It :=
 ⟨λi H=>∃xs x,gx K H a xs/\xs[i]? = some x,λi H x H'=>∃T xi,x=.ref T/\H T=none/\H'=fz H T (.tup [.int (i:Nat),xi])/\∀xs,gx K H a xs->xs[i]? = some xi,λi H=>∃xs,gx K H a xs/\xs.length<=i⟩
theorem Dp {P:bf}{w:World}{K:W.Frag}{sC:List Expr}{k:Nat}{pos:Pos}(a e it:Addr)(gX:e≠it):AL P w K (.Tuple sC k pos) (Td K a) [e,it] e (λi h=>(∃old,IsEnum h e it (i:Nat) old)/\h.IsListIter it a i) where
 mem:=by simp
 obj:=λi h st b hb=>by
  obtain⟨⟨old,he⟩,o,ho,hc,hd⟩:=st;(rcases ax.mp hb with z | z)
  .subst z
   exact⟨_,he,λv z=>by cases z⟩
  .have z':b=it:=by simpa using z
   subst z';exact⟨o,ho,λv z=>by rw[hd] at z;cases z⟩
 keep:=λi h h' st kp=>by
  obtain⟨⟨old,he⟩,hi⟩:=st;exact⟨⟨old,kp e (!4) _ he⟩,hi.at λo q=>kp it (!4) o q⟩
 item:=by
  (intro X hP hw hK hc i pins s σ H E I hf st hg);subst hP hw hK;obtain⟨⟨old,he⟩,hi⟩:=st;obtain⟨xs,x,hq,hx⟩:=hg;obtain⟨its,rv,p,hz⟩:=I.list hq;obtain⟨u,hu,ru⟩:=rv.get hx;refine wpAny_pyNext_enum_item he hi p.isList (x:=u) (by simpa using hu) gX λh1 eo i1 t1 _ kp=>⟨_,rfl,wpAny_letOwnedTupleGo_enum eo λh2 en sb=>?_⟩;have sk:e<s.heap.objs.size:=aF he;have Wc:it<s.heap.objs.size:=by obtain⟨_,q,_⟩:=hi;exact aF q
  have P0:∀b o,b≠e->b≠it->s.heap.get? b=some o->h2.get? b=some o:=λb o n1 n2 q=>(sb.2 b n1).trans (kp b o n1 n2 q);have i2:h2.IsListIter it a (i+1):=i1.at λo q=>(sb.2 it (Ne.symm gX)).trans q;have t2:h2.get? s.heap.objs.size=some { cls:=.type "tuple",data:=.seq #[.int i s.toks,u] }:=(sb.2 _ (bv sk)).trans t1;(obtain⟨f0,f1,f2,f3,f4,f5⟩:=hf it (!4));obtain⟨g0,g1,g2,g3,g4,g5⟩:=hf e (!4);obtain⟨oi,Wd,ZL,We⟩:=id i2;obtain⟨o0,Wf,_⟩:=id hi;have m1:(s.heap.update it λ_=>oi).get? it=some oi:=ba (λ_=>oi) Wf (Obj.isFreed_of_fields We);have I1:Inv X pins σ H { s with heap:=s.heap.update it λ_=>oi,toks:=s.toks+1 }:=I.turned (λb o hb q=>(aO _ _ (Ne.symm hb)).trans q) f0 f1 f3 f4 f5
  have Wg:∀b o,b≠e->(s.heap.update it λ_=>oi).get? b=some o->h2.get? b=some o:=λb o hb q=>by
   by_cases NA:b=it
   .subst NA
    rw[m1] at q;cases q;exact Wd
   .exact P0 b o hb NA ((aO _ _ (Ne.symm NA)).symm.trans q)
  have I2:Inv X pins σ H { s with heap:=h2,toks:=s.toks+1 }:=Inv.turned (s:={ s with heap:=s.heap.update it λ_=>oi,toks:=s.toks+1 }) (h':=h2) (t':=s.toks+1) I1 Wg g0 g1 g3 g4 g5;obtain⟨p0,p1,p2,p3,p4,p5⟩:=I.qT (aw s.heap.objs.size) (!34)
  have I3:Inv X pins σ (fz H s.heap.objs.size (.tup [.int (i:Nat),x])) { s with heap:=h2,toks:=s.toks+1 } :=
   I2.A1 (o:=.tup [.int (i:Nat),x]) t2 p0 p1 p3 p4 p5 ⟨by show 2<=aC;decide,[.int i s.toks,u],.cons ⟨_,rfl⟩ (.cons ru .nil),⟨_,t2,rfl,_,rfl,rfl⟩⟩
  refine⟨.ref s.heap.objs.size,_,I3,rfl,⟨_,x,rfl,p0,rfl,λys hy=>by rw[I.qS hy hq];exact hx⟩,⟨⟨u,by simpa using en⟩,i2⟩,λb hb=>?_⟩
  have Wh:b≠s.heap.objs.size:=by
   (rcases ax.mp hb with z | z)
   .rw[z];exact aR sk
   .have z':b=it:=by simpa using z
    rw[z'];exact aR Wc
  rw[d6 Wh];exact (hf b hb).1
 done:=by
  (intro X hP hw hK hc i pins s σ H E I hf st hg);subst hP hw hK;obtain⟨⟨old,he⟩,hi⟩:=st;obtain⟨xs,hq,hx⟩:=hg;obtain⟨its,rv,p,hz⟩:=I.list hq;(obtain⟨f0,f1,f2,f3,f4,f5⟩:=hf it (!4));have hl:=rv.length;exact wpAny_pyNext_enum_end (I.ok.hd hc) he hi p.isList (by simp;omega) λh' eb=>⟨rfl,I.turned (t':=s.toks) (λb o hb q=>eb b o hb q) f0 f1 f3 f4 f5⟩
 self:=λ_ _ _ _ _ st h=>by
  obtain⟨⟨old,he⟩,_⟩:=st;exact wpAny_pyIter_enum he h
section
variable {X:Cx}{sC:List Expr}{k:Nat}{rq:Pos}
noncomputable def IM (K:W.Frag)(te:TE):TE:=λσ H Q=>te σ H λx H1=>∃(p:Addr) (ns:List Int),x=.ref p/\(gx K H1 p (!21)\/jt K H1 p (!21))/\ns.length<64 /\
 ∀(l:Addr) (ms:List Int) (H2:Hp),Ext [] H1 H2->H1 l=none->H2 l=some (.lst (ms.map V.int))->ms.Pairwise (· < ·)->(∀k,k∈ms↔k∈ns)->ms.length<=ns.length->Q (.ref l) H2
noncomputable def Te (te:TE):TE:=λσ H Q=>∃D:VK,te σ H D/\∀x H1,D x H1->Q x H1
theorem QE.mono (he:QE X e te):QE X e (Te te):=⟨λpins s σ H Q I ⟨D,h,k⟩=>gr (he.run pins s σ H D I h) λv s1 ⟨x,H1,I1,r1,q1⟩=>⟨x,H1,I1,r1,k x H1 q1⟩⟩
theorem lH {l:List Int}(h:l.Pairwise (·<=·))(d:l.Nodup):l.Pairwise (· < ·):=by
 have:=h.and d;exact this.imp λ{a b} ⟨h1,h2⟩=>by omega
theorem zJ (K:W.Frag){e:Expr}{te:TE}{p1 p2 q1 q2:Pos}(hc:X.calm=true)(g1:Gl X "sorted")(m1:X.mg "sorted" = none)(g2:Gl X "set")(m2:X.mg "set" = none)(he:QE X e te)(hk:X.K=K:=by rfl)(hs:fk e=true:=by rfl) :
  QE X (.Call (.Name "sorted" p1) [.Call (.Name "set" p2) [e] [] q2] [] q1) (IM K te):=by
 have Tf:=iz (p:=p2) (pos:=q2) (Gi K X.w hc hk rfl) g2 m2 (!3) (iS he.mono fN hs);have outer:=kM (p:=p1) (pos:=q1) (zI X.w hc rfl) g1 m1 (!3) (iS Tf fN);refine outer.weaken λσ H Q h=>?_;refine⟨_,h,λx H1 ⟨p,ns,e1,e2,e3,q⟩=>⟨p,ns,by rw[e1],e2,!1,λl ms nd mm ml hl=>⟨l,ms,rfl,dQ,!1,λl2 Z3 pm ps h2=>?_⟩⟩⟩;refine q l2 Z3 _ (Ext.trans (.new hl) (.new h2)) ?_ dQ (lH ps (pm.nodup_iff.mpr nd)) (λk=>(pm.mem_iff).trans (mm k)) (by rw[pm.length_eq];exact ml)
 cases z:H1 l2 with
 | none=>rfl
 | some o=>exact absurd h2 (by rw[(Ext.new (S:=[]) hl).keep l2 o (!4) z];simp)
end
theorem gk:∀{ms ns:List Int},ms.Nodup->(∀k∈ms,k∈ns)->ms.length<=ns.length
 | [],_,_,_=>bZ _
 | m::ms,ns,nd,h=>by
  have hm:=h m (ao ..);obtain⟨n1,n2⟩:=bj.mp nd;have ih:=gk (ms:=ms) (ns:=ns.erase m) n2 λk hk=>(List.mem_erase_of_ne (λ(z:k=m)=>n1 (z ▸ hk))).mpr (h k (ag _ hk));rw[dh hm] at ih;have:=dn hm;simp only[ak];omega
end L2
namespace L2
open PySem
mutual
theorem eU.more {S:List Addr}{H:Hp}{p:Addr}(hp:H p=none):∀{d:ae} {v:V},eU S H d v->eU (p::S) H d v
 | .none,_,h=>h
 | .bool _,_,h=>h
 | .int _,_,h=>h
 | .str _,_,h=>h
 | .tuple ds,_,h=>by
  unfold eU at h ⊢;obtain⟨a,xs,e,ha,hr⟩:=h;exact⟨a,xs,e,ha,dP.more hp hr⟩
 | .list ds,_,h=>by
  unfold eU at h ⊢;obtain⟨a,xs,e,ha,hs,hr⟩:=h;refine⟨a,xs,e,ha,λz=>?_,dP.more hp hr⟩;rcases ax.mp z with z | z
  .rw[z,hp] at ha;cases ha
  .exact hs z
 | .dict l,_,h=>by
  unfold eU at h ⊢;obtain⟨a,t,kvs,xs,e,el,ha,hs,hk,hr⟩:=h;refine⟨a,t,kvs,xs,e,el,ha,λz=>?_,hk,gS.more hp hr⟩;rcases ax.mp z with z | z
  .rw[z,hp] at ha;cases ha
  .exact hs z
theorem dP.more {S:List Addr}{H:Hp}{p:Addr}(hp:H p=none):∀{ds:List ae} {vs:List V},dP S H ds vs->dP (p::S) H ds vs
 | [],_,h=>h
 | d::ds,_,h=>by
  unfold dP at h ⊢;obtain⟨y,r,e,h1,h2⟩:=h;exact⟨y,r,e,eU.more hp h1,dP.more hp h2⟩
theorem gS.more {S:List Addr}{H:Hp}{p:Addr}(hp:H p=none):∀{l:List (ae × ae)} {vs:List V},gS S H l vs->gS (p::S) H l vs
 | [],_,h=>h
 | (_,d)::l,_,h=>by
  unfold gS C2 at h ⊢;obtain⟨y,r,e,h1,h2⟩:=h;exact⟨y,r,e,eU.more hp h1,gS.more hp h2⟩
end
end L2
namespace L2
open PySem PySem.Spec PyProof.Rows
noncomputable def Wo (x:Addr)(cls:ah)(od:Option Addr):Heap->Prop:=λh=>∃oe vs,h.get? x=some oe/\oe.cls=cls/\oe.dict=od/\oe.data=.fields vs
noncomputable def ND (d:Addr)(fs:List (Str × V)):Heap->Prop:=λh=>∃mA,h.Ns1 d mA/\∀g,so (fs.lookup g) (mA g)
end L2
namespace PySem
theorem xl (l:Addr)(items:Array ah)(n:Nat)(dd:Option Addr)(sl:Array (Option ah))(t:Tok) :
  Meets (Builtin.«tuple.__mul__» ⟨[.ref l,.int 1 t],[]⟩) (λ_ R s=>s.heap.get? l=some { cls:=.type "tuple",dict:=dd,data:=.seq items n,slots:=sl }/\R (.ok (.ret (ah.ref l))) s) :=
 .of_wp λprog w A R s h=>by
  obtain⟨hp,g,d,tk,os⟩:=s;obtain⟨hl,h⟩:=h;have f1:=AutoSeq1.idx_int
  wp_walk
  exact⟨_,rfl,h⟩
end PySem
namespace L2
open PySem PySem.Spec PyProof.Rows
variable {X:Cx}
noncomputable def P6 (K:W.Frag):R2:=λx y H Q=>(∃a xs,x=.ref a/\y=.int 1/\jt K H a xs/\Q (.ref a) H)\/Nu K x y H Q
theorem IP (K:W.Frag)(h:X.K=K:=by rfl):lY X (binaryOp .Mult) (P6 K):=by
 subst h;(intro pins s σ H x y v u Q I rx ry h);rcases h with h | h
 .obtain⟨a,xs,rfl,rfl,hx,q⟩:=h
  cases rx;obtain⟨t,rfl⟩:=ry;obtain⟨its,r,ht,hl⟩:=I.tuple hx;obtain⟨⟨cls,dd,data,sl⟩,ho,hc,n,hd⟩:=id ht;simp only at hc hd;subst hc hd
  exact wpAny_binaryOp_repeat_ref (T := "tuple") (U := "int") (!2) ⟨_,ho,rfl⟩ (λs'=>typeIs_int s' 1 t) mB F.fills_int_mul F.slot_int_rmul rh F.slot_int_index.lookup
   (call_meets F.slot_int_rmul (typeIs_int s 1 t) F.entry_int_rmul (F.args_int_rmul_2 _ _) (oF 1 t a its.toArray n dd sl)
    ⟨ho,rfl,⟨_,ho,rfl⟩,call_meets F.slot_tuple_mul ⟨_,ho,rfl⟩ F.entry_tuple_mul (F.args_tuple_mul_2 _ _) (xl a its.toArray n dd sl t) ⟨ho,⟨.ref a,H,I,rfl,q⟩⟩⟩)
 .exact LZ X.K rfl pins s σ H x y v u Q I rx ry h
inductive Ent where
 | s (d:ae)
 | o (ds:List ae)
 | x (c:Str) (as:List ae)
 | d (a:Addr) (t:Bool) (kvs:List (List Int × ae))
 | f (a:Addr) (o:Obj) (kvs:List (List Int × ae)) (xs:List V)
structure Xc where
 cl:Str->Addr
 fl:Str->List Str
noncomputable abbrev fC:=List (Option Ent)
structure Fr where
 G:Hp->Int->Prop
 gs:List Addr
 S0:List Addr
 H0:Hp
 fa:V
 fd:List Nat
 xc:Xc
 jS:∀{S:List Addr} {H H':Hp} {n:Int},G H n->Ext S H H'->(∀a∈S,H0 a=none)->G H' n
 xm:∀{H:Hp} {n:Int},G H n->∀a∈gs,H a≠none
 Wq:∀{H:Hp} {n:Int},G H n->∀a∈gs,∀φ,H a≠some (.ext φ)
 Tg:∀a∈gs,a∈S0
 xn:∀a∈S0,H0 a≠none
noncomputable def vp (M:Fr)(S:List Addr)(H:Hp):Ent->V->Prop
 | .s d,v=>eU S H d v
 | .o ds,v=>∃a xs,v=.ref a/\H a=some (.lst xs)/\dP S H ds xs/\a∈S/\M.H0 a=none
 | .x c as,v=>∃a dx vs,v=.ref a/\H a=some (.ext (Wo a (.ref (M.xc.cl c)) (some dx)))/\H dx=some (.ext (ND dx ((M.xc.fl c).zip vs)))/\dP S H as vs/\a ∉ M.gs/\dx ∉ M.gs
 | .d a t kvs,v=>v=.ref a/\∃xs,H a=some (pW t kvs xs)/\dP S H (!26) xs/\(t=false->∀p∈kvs,p.1.length=1)/\a∈S/\M.H0 a=none
 | .f a o kvs xs,v=>v=.ref a/\H a=some (.xJ o (pW true kvs xs))/\dP S H (!26) xs/\a∈S/\M.H0 a=none
structure dZ (M:Fr) (env:fC) (pn:List (ae × V)) (σ:St) (S:List Addr) (H:Hp) (n:Int):Prop where
 val:∀(i:Nat) (e:Ent),env[i]? = some (some e)->∃v,σ[i]? = some (some v)/\vp M S H e v
 ne:∀(i j:Nat) (ds es:List ae) (a:Addr),env[i]? = some (some (.o ds))->env[j]? = some (some (.o es))->σ[i]? = some (some (.ref a))->σ[j]? = some (some (.ref a))->i=j
 len:env.length=σ.length
 Dq:∀i∈M.fd,σ[i]? = some (some M.fa)
 gd:M.G H n
 ext:Ext M.gs M.H0 H
 s0:∀a∈M.S0,a∈S
 sn:∀a∈S,a∈M.S0\/M.H0 a=none
 has:∀a∈S,H a≠none
 pin:∀p∈pn,eU S H p.1 p.2
section
theorem Fr.out (M:Fr)(h:M.H0 a=none):a ∉ M.gs:=λz=>M.xn a (M.Tg a z) h
theorem dZ.sE (ok:dZ M env pn σ S H n):∀a∈M.gs,a∈S:=λa h=>ok.s0 a (M.Tg a h)
theorem Ext.some (x:Ext S H H')(ha:a ∉ S)(h:H a≠none):H' a≠none:=by
 cases e:H a with
 | none=>exact absurd e h
 | some o=>rw[x.keep a o ha e];simp
theorem vp.step (hg:∀a∈M.gs,a∈S)(h:vp M S H e v)(x:Ext M.gs H H'):vp M S H' e v:=by
 cases e with
 | s d=>exact eU.ext (x.mono hg) h
 | o ds =>
  obtain⟨a,xs,e,ha,r,hs,h0⟩:=h;exact⟨a,xs,e,x.keep _ _ (M.out h0) ha,r.ext (x.mono hg),hs,h0⟩
 | x c as =>
  obtain⟨a,dx,vs,e,ha,hd,r,g1,g2⟩:=h;exact⟨a,dx,vs,e,x.keep _ _ g1 ha,x.keep _ _ g2 hd,r.ext (x.mono hg),g1,g2⟩
 | d a t kvs =>
  obtain⟨e,xs,ha,r,hk,hs,h0⟩:=h;exact⟨e,xs,x.keep _ _ (M.out h0) ha,r.ext (x.mono hg),hk,hs,h0⟩
 | f a o kvs xs =>
  obtain⟨e,ha,r,hs,h0⟩:=h;exact⟨e,x.keep _ _ (M.out h0) ha,r.ext (x.mono hg),hs,h0⟩
theorem dZ.step (ok:dZ M env pn σ S H n)(x:Ext M.gs H H')(g:M.G H' n'):dZ M env pn σ S H' n':=by
 refine⟨λi e he=>?_,ok.ne,ok.len,ok.Dq,g,ok.ext.trans x,ok.s0,ok.sn,λa ha=>?_,λp hp=>(ok.pin p hp).ext (x.mono ok.sE)⟩
 .obtain⟨v,hv,r⟩:=ok.val i e he
  exact⟨v,hv,r.step ok.sE x⟩
 .by_cases z:a∈M.gs
  .exact M.xm g a z
  .exact x.some z (ok.has a ha)
theorem dZ.fresh (ok:dZ M env pn σ S H n)(h:H a=none):a ∉ S:=λz=>ok.has a z h
theorem dZ.grow (ok:dZ M env pn σ S H n)(x:Ext [] H H'):M.G H' n:=M.jS ok.gd x (!4)
end
theorem eU.fresh (ha:H a=none)(h:eU S H d v):eU (a::S) H d v:=eU.more ha h
theorem dP.fresh (ha:H a=none)(h:dP S H ds vs):dP (a::S) H ds vs:=dP.more ha h
noncomputable def mG (H:Hp):Prop:=∀a xs,H a=some (.lst xs)\/H a=some (.tup xs)->xs.length<=aC
theorem oq.mH (ok:oq P w H h):mG H:=λa xs e=>by
 rcases e with e | e
 .exact (ok a _ e).1
 .exact (ok a _ e).1
noncomputable def fP (gs S:List Addr)(H:Hp)(d:ae)(v:V):Prop:=eU S H d v\/(∃ds a xs,d=.list ds/\v=.ref a/\H a=some (.lst xs)/\dP S H ds xs/\a ∉ gs)\/∃t kvs a xs,d=f6 t kvs/\v=.ref a/\H a=some (pW t kvs xs)/\dP S H (!26) xs/\(t=false->∀p∈kvs,p.1.length=1)/\a ∉ gs
section
theorem fP.ext (h:fP gs S H d v)(hg:∀a∈gs,a∈S)(x:Ext gs H H'):fP gs S H' d v:=by
 rcases h with h | ⟨ds,a,xs,e1,e2,e3,r,ha⟩ | ⟨t,kvs,a,xs,e1,e2,e3,r,hk,ha⟩
 .exact .inl (h.ext (x.mono hg))
 .exact .inr (.inl ⟨ds,a,xs,e1,e2,x.keep _ _ ha e3,r.ext (x.mono hg),ha⟩)
 .exact .inr (.inr ⟨t,kvs,a,xs,e1,e2,x.keep _ _ ha e3,r.ext (x.mono hg),hk,ha⟩)
theorem fP.fA (h:fP gs S H (.list ds) v):∃a xs,v=.ref a/\H a=some (.lst xs)/\dP S H ds xs:=by
 rcases h with h | ⟨vq,a,xs,e1,e2,e3,r,_⟩ | ⟨t,kvs,a,xs,e1,_⟩
 .obtain⟨a,xs,e,ha,_,r⟩:=h.fA
  exact⟨a,xs,e,ha,r⟩
 .cases e1
  exact⟨a,xs,e2,e3,r⟩
 .cases e1
theorem fP.sy (h:fP gs S H (.dict l) v):∃a t kvs xs,v=.ref a/\l=pO t kvs/\H a=some (pW t kvs xs)/\(t=false->∀p∈kvs,p.1.length=1)/\dP S H (!26) xs:=by
 rcases h with h | ⟨vq,a,xs,e1,_⟩ | ⟨t,kvs,a,xs,e1,e2,e3,r,hk,_⟩
 .obtain⟨a,t,kvs,xs,e,el,ha,_,hk,r⟩:=h.sy
  exact⟨a,t,kvs,xs,e,el,ha,hk,r⟩
 .cases e1
 .cases e1
  exact⟨a,t,kvs,xs,e2,rfl,e3,hk,r⟩
theorem fP.rep (h:fP gs S H d v)(hd:∀ds,d≠.list ds)(AS:∀l,d≠.dict l:=by intro _ z;cases z):eU S H d v:=by
 rcases h with h | ⟨ds,a,xs,e1,_⟩ | ⟨t,kvs,a,xs,e1,_⟩
 .exact h
 .exact absurd e1 (hd ds)
 .exact absurd e1 (AS _)
theorem fP.less (h:fP gs S H d v)(hg:∀a∈gs,a∈S):eU gs H d v:=by
 rcases h with h | ⟨ds,a,xs,rfl,rfl,e3,r,ha⟩ | ⟨t,kvs,a,xs,rfl,rfl,e3,r,hk,ha⟩
 .exact h.less hg
 .exact .lst e3 ha (r.less hg)
 .exact .Ro e3 ha hk (r.less hg)
theorem fP.fX (h:fP gs S H (.tuple ds) v):∃a xs,v=.ref a/\H a=some (.tup xs)/\dP S H ds xs:=(h.rep (by intro _ z;cases z)).fX
theorem fP.fg (h:fP gs S H (.int i) v):v=.int i:=(h.rep (by intro _ z;cases z)).fg
theorem fP.oC (h:fP gs S H (.bool i) v):v=.bl i:=(h.rep (by intro _ z;cases z)).oC
theorem fP.m9 (h:fP gs S H (.str i) v):v=.str i:=(h.rep (by intro _ z;cases z)).m9
theorem fP.oD (h:fP gs S H .none v):v=.jm:=(h.rep (by intro _ z;cases z)).oD
end
noncomputable abbrev UX:=fC->Int->(ae->Int->Prop)->Prop
noncomputable abbrev UT:=fC->Int->(Bool->Int->Prop)->Prop
noncomputable abbrev UA:=fC->Int->(List ae->Int->Prop)->Prop
structure rA where
 nx:fC->Int->Prop
 rt:ae->Int->Prop
noncomputable abbrev US:=rA->fC->Int->Prop
noncomputable def Th (M:Fr)(u:UX):TE:=λσ H R=>∃env pn S n Q,dZ M env pn σ S H n/\u env n Q/\∀v H' d n',eU S H' d v->Ext M.gs H H'->M.G H' n'->mG H'->Q d n'->R v H'
noncomputable def Bk (M:Fr)(u:UX):TE:=λσ H R=>∃env pn S n Q,dZ M env pn σ S H n/\u env n Q/\∀v H' d n',fP M.gs S H' d v->Ext M.gs H H'->M.G H' n'->mG H'->Q d n'->R v H'
noncomputable def Ti (M:Fr)(u:fC->Int->(List ae->Int->Prop)->Prop):TE:=λσ H R=>∃env pn S n Q,dZ M env pn σ S H n/\u env n Q /\
 ∀a xs H' ds n',H a=none->H' a=some (.lst xs)->dP (a::S) H' ds xs->Ext M.gs H H'->M.G H' n'->mG H'->Q ds n'->R (.ref a) H'
noncomputable def liftT (M:Fr)(u:UT):TT:=λσ H R=>∃env pn S n Q,dZ M env pn σ S H n/\u env n Q/\∀b H' n',Ext M.gs H H'->M.G H' n'->Q b n'->R b H'
noncomputable def Tj (M:Fr)(k:Nat)(u:UA):TA:=λσ H R=>∃env pn S n Q,dZ M env pn σ S H n/\u env n Q/\∀vs H' ds n',vs.length=k->dP S H' ds vs->Ext M.gs H H'->M.G H' n'->mG H'->Q ds n'->R vs H'
noncomputable def lI (gs S:List Addr)(H:Hp):List ae->List V->Prop
 | [],vs=>vs=[]
 | d::ds,vs=>∃v r,vs=v::r/\fP gs S H d v/\lI gs S H ds r
theorem lI.less:∀{ds:List ae} {vs:List V},lI gs S H ds vs->(∀a∈gs,a∈S)->dP gs H ds vs
 | [],_,h,_=>by cases h;exact .nil
 | _::_,_,⟨v,r,e,h1,h2⟩,hg=>by subst e;exact .cons (h1.less hg) (lI.less h2 hg)
noncomputable def IQ (M:Fr)(u:UA):TA:=λσ H R=>∃env pn S n Q,dZ M env pn σ S H n/\u env n Q/\∀vs H' ds n',lI M.gs S H' ds vs->Ext M.gs H H'->M.G H' n'->mG H'->Q ds n'->R vs H'
noncomputable def EH (M:Fr)(u:US):TS:=λD σ H=>∃env pn S n E,dZ M env pn σ S H n/\u E env n/\(∀eL σ' S' H' n',dZ M eL pn σ' S' H' n'->E.nx eL n'->D.nx σ' H') /\
 (∀v H' d n',eU M.S0 H' d v->Ext M.gs M.H0 H'->M.G H' n'->E.rt d n'->D.rt v H')
structure KE (X:Cx) (M:Fr) (e:Expr) (u:UX):Prop where run:QE X e (Th M u)
structure KL (X:Cx) (M:Fr) (e:Expr) (u:UX):Prop where run:QE X e (Bk M u)
structure KN (X:Cx) (M:Fr) (e:Expr) (u:fC->Int->(List ae->Int->Prop)->Prop):Prop where run:QE X e (Ti M u)
structure KB (X:Cx) (M:Fr) (e:Expr) (u:UT):Prop where run:QT X e (liftT M u)
structure KW (X:Cx) (M:Fr) (e:Expr) (u:UT):Prop where run:QW X e (liftT M u)
structure KA (X:Cx) (M:Fr) (es:List Expr) (u:UA):Prop where run:QA X es (Tj M es.length u)
structure NF (X:Cx) (M:Fr) (es:List Expr) (u:UA):Prop where run:QA X es (IQ M u)
structure KS (X:Cx) (M:Fr) (st:Stmt) (u:US):Prop where run:QS X st (EH M u)
structure zK (X:Cx) (M:Fr) (st:List Stmt) (u:US):Prop where run:A3 X st (EH M u)
section
variable {X:Cx}{M:Fr}{e:Expr}{es:List Expr}{t:TE}{tT:TT}{ta:TA}{u:UX}
theorem EI {A B C D E:Type}{P:A->B->C->D->E->Prop}{r:Prop}(h:∃a b c d e,P a b c d e)(k:∀a b c d e,P a b c d e->r):r:=by
 obtain⟨a,b,c,d,e,p⟩:=h;exact k a b c d e p
theorem U5 {A B C D E F:Type}{P:A->B->C->D->E->F->Prop}{r:Prop}(h:∃a b c d e f,P a b c d e f)(k:∀a b c d e f,P a b c d e f->r):r:=by
 obtain⟨a,b,c,d,e,f,p⟩:=h;exact k a b c d e f p
theorem QE.mH (h:QE X e t):QE X e (λσ H R=>t σ H λv H1=>mG H1->R v H1) :=
 ⟨λpins s σ H Q I q=>gr (h.run pins s σ H _ I q) λv s1 ⟨x,H1,I1,r1,q1⟩=>⟨x,H1,I1,r1,q1 I1.hok.mH⟩⟩
theorem QA.mH (h:QA X es ta):QA X es (λσ H R=>ta σ H λv H1=>mG H1->R v H1) :=
 ⟨λpos pins s σ H Q I q=>gr (h.run pos pins s σ H _ I q) λv s1 ⟨x,H1,I1,r1,q1⟩=>⟨x,H1,I1,r1,q1 I1.hok.mH⟩,h.ns⟩
theorem KE.of (h:QE X e t)(k:∀σ H R env pn S n Q,dZ M env pn σ S H n->u env n Q->(∀v H' d n',eU S H' d v->Ext M.gs H H'->M.G H' n'->Q d n'->R v H')->t σ H R):KE X M e u :=
 ⟨h.mH.weaken λσ H R h=>EI h λenv pn S n Q h=>k σ H _ env pn S n Q h.1 h.2.1 λv H' d n' r x g qq sz=>h.2.2 v H' d n' r x g sz qq⟩
theorem KL.of (h:QE X e t)(k:∀σ H R env pn S n Q,dZ M env pn σ S H n->u env n Q->(∀v H' d n',fP M.gs S H' d v->Ext M.gs H H'->M.G H' n'->Q d n'->R v H')->t σ H R):KL X M e u :=
 ⟨h.mH.weaken λσ H R h=>EI h λenv pn S n Q h=>k σ H _ env pn S n Q h.1 h.2.1 λv H' d n' r x g qq sz=>h.2.2 v H' d n' r x g sz qq⟩
theorem KN.of {u:fC->Int->(List ae->Int->Prop)->Prop}(h:QE X e t)(k:∀σ H R env pn S n Q,dZ M env pn σ S H n->u env n Q->(∀a xs H' ds n',H a=none->H' a=some (.lst xs)->dP (a::S) H' ds xs->Ext M.gs H H'->M.G H' n'->Q ds n'->R (.ref a) H')->t σ H R):KN X M e u :=
 ⟨h.mH.weaken λσ H R h=>EI h λenv pn S n Q h=>k σ H _ env pn S n Q h.1 h.2.1 λa xs H' ds n' h0 h1 r x g qq sz=>h.2.2 a xs H' ds n' h0 h1 r x g sz qq⟩
theorem KA.of {u:UA}(h:QA X es ta)(k:∀σ H R env pn S n Q,dZ M env pn σ S H n->u env n Q->(∀v H' d n',v.length=es.length->dP S H' d v->Ext M.gs H H'->M.G H' n'->Q d n'->R v H')->ta σ H R):KA X M es u :=
 ⟨h.mH.weaken λσ H R h=>EI h λenv pn S n Q h=>k σ H _ env pn S n Q h.1 h.2.1 λv H' d n' hl r x g qq sz=>h.2.2 v H' d n' hl r x g sz qq⟩
theorem NF.of {u:UA}(h:QA X es ta)(k:∀σ H R env pn S n Q,dZ M env pn σ S H n->u env n Q->(∀v H' d n',lI M.gs S H' d v->Ext M.gs H H'->M.G H' n'->Q d n'->R v H')->ta σ H R):NF X M es u :=
 ⟨h.mH.weaken λσ H R h=>EI h λenv pn S n Q h=>k σ H _ env pn S n Q h.1 h.2.1 λv H' d n' r x g qq sz=>h.2.2 v H' d n' r x g sz qq⟩
theorem QT.weaken {t t':TT}(h:QT X e t)(w:∀σ H Q,t' σ H Q->t σ H Q):QT X e t':=⟨λpins s σ H Q I q=>h.run pins s σ H Q I (w σ H Q q)⟩
theorem QW.weaken {t t':TT}(h:QW X e t)(w:∀σ H Q,t' σ H Q->t σ H Q):QW X e t':=⟨λwh pins s σ H Q I q=>h.run wh pins s σ H Q I (w σ H Q q)⟩
theorem QS.weaken {st:Stmt}{t t':TS}(h:QS X st t)(w:∀D σ H,t' D σ H->t D σ H):QS X st t':=⟨λpins s σ H D I q=>h.run pins s σ H D I (w D σ H q)⟩
theorem A3.weaken {st:List Stmt}{t t':TS}(h:A3 X st t)(w:∀D σ H,t' D σ H->t D σ H):A3 X st t':=⟨λpins s σ H D I q=>h.run pins s σ H D I (w D σ H q)⟩
theorem KB.of {u:UT}(h:QT X e tT)(k:∀σ H R env pn S n Q,dZ M env pn σ S H n->u env n Q->(∀b H' n',Ext M.gs H H'->M.G H' n'->Q b n'->R b H')->tT σ H R):KB X M e u :=
 ⟨h.weaken λσ H R h=>EI h λenv pn S n Q h=>k σ H _ env pn S n Q h.1 h.2.1 h.2.2⟩
theorem KW.of {u:UT}(h:QW X e tT)(k:∀σ H R env pn S n Q,dZ M env pn σ S H n->u env n Q->(∀b H' n',Ext M.gs H H'->M.G H' n'->Q b n'->R b H')->tT σ H R):KW X M e u :=
 ⟨h.weaken λσ H R h=>EI h λenv pn S n Q h=>k σ H _ env pn S n Q h.1 h.2.1 h.2.2⟩
theorem KE.loose (h:KE X M e u):KL X M e u:=.of h.run λσ H R env pn S n Q ok hu k=>⟨env,pn,S,n,Q,ok,hu,λv H' d n' r x g _ q=>k v H' d n' (.inl r) x g q⟩
noncomputable def uL (u:fC->Int->(List ae->Int->Prop)->Prop):UX:=λenv n Q=>u env n λds n'=>Q (.list ds) n'
theorem KN.data {u:fC->Int->(List ae->Int->Prop)->Prop}(h:KN X M e u):KE X M e (uL u):=.of h.run λσ H R env pn S n Q ok hu k =>
 ⟨env,pn,S,n,_,ok,hu,λa xs H' ds n' h0 h1 r x g _ q=>k _ H' _ n' (.lst h1 (ok.fresh h0) (r.less λ_ h=>ag _ h)) x g q⟩
end
noncomputable def qR {α:Type}(o:Option α)(Q:α->Prop):Prop:=∃d,o=some d/\Q d
@[simp] theorem dB {α:Type} (d:α) (Q:α->Prop):qR (some d) Q=Q d:=by simp[qR]
@[simp] theorem Tn {α:Type} (Q:α->Prop):qR (none:Option α) Q=False:=by simp[qR]
noncomputable def dD (i:Nat):UX:=λenv n Q=>match env[i]? with | some (some (.s d))=>Q d n | _=>False
noncomputable def dA (i:Nat):UX:=λenv n Q=>match env[i]? with | some (some (.s d))=>Q d n | some (some (.o ds))=>Q (.list ds) n | some (some (.d _ t kvs))=>Q (f6 t kvs) n | _=>False
noncomputable def uC (d:ae):UX:=λ_ n Q=>Q d n
section
theorem eX (i:Nat)(hN:X.N[i]? = some x:=by rfl)(hv:Az X.env.scope x:=by (first | exact Or.inl rfl | exact Or.inr (Or.inl rfl) | exact Or.inr (Or.inr rfl)))(hd:(x == (!17))=false:=by decide)
  (mY:(x == (!22))=false:=by decide):KE X M (.Name x pos) (dD i):=.of (qv i hN hv hd mY) λσ H R env pn S n Q ok hu k=>by
 unfold dD at hu
 cases e:env[i]? with
 | none=>rw[e] at hu;exact hu.elim
 | some o =>
  cases o with
  | none=>rw[e] at hu;exact hu.elim
  | some en =>
   cases en with
   | o ds=>rw[e] at hu;exact hu.elim
   | x c as=>rw[e] at hu;exact hu.elim
   | d a t kvs=>rw[e] at hu;exact hu.elim
   | f a o kvs xs=>rw[e] at hu;exact hu.elim
   | s d =>
    rw[e] at hu;obtain⟨v,hv,r⟩:=ok.val i _ e;exact⟨v,hv,k v H d n r (!27) ok.gd hu⟩
theorem eG (i:Nat)(hN:X.N[i]? = some x:=by rfl)(hv:Az X.env.scope x:=by (first | exact Or.inl rfl | exact Or.inr (Or.inl rfl) | exact Or.inr (Or.inr rfl)))(hd:(x == (!17))=false:=by decide)
  (mY:(x == (!22))=false:=by decide):KL X M (.Name x pos) (dA i):=.of (qv i hN hv hd mY) λσ H R env pn S n Q ok hu k=>by
 unfold dA at hu
 cases e:env[i]? with
 | none=>rw[e] at hu;exact hu.elim
 | some o =>
  cases o with
  | none=>rw[e] at hu;exact hu.elim
  | some en =>
   rw[e] at hu;obtain⟨v,hv,r⟩:=ok.val i _ e
   cases en with
   | o ds =>
    obtain⟨a,xs,rfl,ha,r,hs,h0⟩:=r;exact⟨_,hv,k _ H _ n (.inr (.inl ⟨ds,a,xs,rfl,rfl,ha,r,M.out h0⟩)) (!27) ok.gd hu⟩
   | s d=>exact⟨v,hv,k v H d n (.inl r) (!27) ok.gd hu⟩
   | x c as=>exact hu.elim
   | f a o kvs xs=>exact hu.elim
   | d a t kvs =>
    obtain⟨rfl,xs,ha,r,hk,hs,h0⟩:=r;exact⟨_,hv,k _ H _ n (.inr (.inr ⟨t,kvs,a,xs,rfl,rfl,ha,r,hk,M.out h0⟩)) (!27) ok.gd hu⟩
theorem To (h:QE X e (tC v))(r:∀S H,eU S H d v):KE X M e (uC d):=.of h λσ H R env pn S n Q ok hu k=>k v H d n (r S H) (!27) ok.gd hu
theorem dH {i j pos}:KE X M (.Constant (.int i) j pos) (uC (.int i)):=To fB λ_ _=>.int i
theorem Bl {i j pos}:KE X M (.Constant (.bool i) j pos) (uC (.bool i)):=To Ik λ_ _=>.bl i
theorem jv {j pos}:KE X M (.Constant .none j pos) (uC .none):=To PB λ_ _=>.jm
theorem gY {x j pos}:KE X M (.Constant (.str x) j pos) (uC (.str x)):=To PD λ_ _=>.str x
theorem P7 (hm:∃t,X.mg x=some (.int i t))(hg:Gl X x:=by rfl)(hd:(x == (!17))=false:=by decide):KE X M (.Name x pos) (uC (.int i)):=To (Ir hg hm hd) λ_ _=>.int i
end
noncomputable def dC:UA:=λ_ n Q=>Q [] n
noncomputable def dz (u:UX)(r:UA):UA:=λenv n Q=>u env n λd n1=>r env n1 λds n2=>Q (d::ds) n2
section
variable {X:Cx}{M:Fr}{e a b:Expr}{es:List Expr}{u ua ub:UX}{ur:UA}{pos:Pos}
theorem dF:KA X M [] dC:=.of fN λσ H R env pn S n Q ok hu k=>k [] H [] n rfl .nil (!27) ok.gd hu
theorem dG (h:KE X M e u)(hr:KA X M es ur)(hs:fk e=true:=by rfl):KA X M (e::es) (dz u ur):=.of (iS h.run hr.run hs) λσ H R env pn S n Q ok hu k =>
 ⟨env,pn,S,n,_,ok,hu,λv H1 d n1 r1 x1 g1 _ q1=>⟨env,pn,S,n1,_,ok.step x1 g1,q1,λvs H2 ds n2 hl r2 x2 g2 _ q2=>k _ H2 _ n2 (by simp[hl]) (.cons (r1.ext (x2.mono ok.sE)) r2) (x1.trans x2) g2 q2⟩⟩
theorem eK:NF X M [] dC:=.of fN λσ H R env pn S n Q ok hu k=>k [] H [] n rfl (!27) ok.gd hu
theorem fh (h:KL X M e u)(hr:NF X M es ur)(hs:fk e=true:=by rfl):NF X M (e::es) (dz u ur):=.of (iS h.run hr.run hs) λσ H R env pn S n Q ok hu k =>
 ⟨env,pn,S,n,_,ok,hu,λv H1 d n1 r1 x1 g1 _ q1=>⟨env,pn,S,n1,_,ok.step x1 g1,q1,λvs H2 ds n2 r2 x2 g2 _ q2=>k _ H2 (d::ds) n2 ⟨_,_,rfl,r1.ext ok.sE x2,r2⟩ (x1.trans x2) g2 q2⟩⟩
noncomputable def d5 (ur:UA):UX:=λenv n Q=>ur env n λds n1=>Q (.tuple ds) n1
theorem fc {x1}(h:KA X M es ur)(hl:es.length<=aC:=by decide):KE X M (.Tuple es x1 pos) (d5 ur) :=
 .of (PJ h.run) λσ H R env pn S n Q ok hu k=>⟨env,pn,S,n,_,ok,hu,λvs H1 ds n1 el r1 x1 g1 sz q1=>⟨by rw[el];exact hl,λp hp =>
  have x2:=Ext.new (S:=[]) (o:=.tup vs) hp
  k _ _ _ n1 (.tup dQ (r1.ext (x2.mono (!4)))) (x1.trans (x2.mono (!4))) (M.jS g1 x2 (!4)) q1⟩⟩
theorem kc (h:KA X M es ur)(hl:es.length<=aC:=by decide):KN X M (.List es pos) ur :=
 .of (C5 h.run) λσ H R env pn S n Q ok hu k=>⟨env,pn,S,n,_,ok,hu,λvs H1 ds n1 el r1 x1 g1 sz q1=>⟨by rw[el];exact hl,λp hp =>
  have x2:=Ext.new (S:=[]) (o:=.lst vs) hp
  have Z4:H p=none:=by
   by_cases z:p∈M.gs
   .exact absurd hp (M.xm g1 p z)
   .exact x1.fresh z hp
  k p vs _ _ n1 Z4 dQ ((r1.fresh hp).ext (x2.mono (!4))) (x1.trans (x2.mono (!4))) (M.jS g1 x2 (!4)) q1⟩⟩
end
theorem RelV.one (h:RelV v u)(k:RelV w u):v=w:=by
 cases v<;>cases w<;>simp only[RelV] at h k<;>first | rfl | (obtain⟨t,rfl⟩:=h;obtain⟨t',e⟩:=k;cases e;rfl) | (subst h;cases k;rfl) | (subst h;obtain⟨t',e⟩:=k;cases e) | (obtain⟨t,rfl⟩:=h;obtain⟨t',e⟩:=k;cases e;done) | (obtain⟨t,rfl⟩:=h;cases k;done) | (subst h;cases k;done)
theorem EJ:∀{kvs kvs':List (List Int × ae)} {xs tU:List V},xs.length=kvs.length->tU.length=kvs'.length->KU kvs xs=KU kvs' tU->xs=tU/\kvs.map (λp=>p.1.headD 0)=kvs'.map (λp=>p.1.headD 0)
 | [],[],[],[],_,_,_=>⟨rfl,rfl⟩
 | [],[],_::_,_,h,_,_=>by simp at h
 | [],[],[],_::_,_,h,_=>by simp at h
 | [],p::_,_,[],_,h,_=>by simp at h
 | [],p::_,[],_::_,_,_,h=>by simp[KU] at h
 | [],p::_,_::_,_::_,h,_,_=>by simp at h
 | p::_,[],[],_,h,_,_=>by simp at h
 | p::_,[],_::_,[],_,_,h=>by simp[KU] at h
 | p::_,[],_::_,_::_,_,h,_=>by simp at h
 | p::_,q::_,[],_,h,_,_=>by simp at h
 | p::_,q::_,_::_,[],_,h,_=>by simp at h
 | p::kvs,q::kvs',x::xs,y::ys,h1,h2,h=>by
  rw[KU,KU] at h;injection h with e1 e2;injection e1 with e3 e4;injection e3 with e3;obtain⟨a,b⟩:=EJ (by simpa using h1) (by simpa using h2) e2;rw[e4,a,ai,ai,b];exact⟨rfl,by rw[e3]⟩
theorem EK:∀{a b:List Int},(a.map Sum.inl:List Key)=b.map Sum.inl->a=b
 | [],[],_=>rfl
 | [],_::_,h=>by cases h
 | _::_,[],h=>by cases h
 | x::a,y::b,h=>by
  rw[ai,ai] at h;injection h with h1 h2;injection h1 with h1;rw[h1,EK h2]
theorem EL:∀{kvs kvs':List (List Int × ae)} {xs tU:List V},xs.length=kvs.length->tU.length=kvs'.length->A2 kvs xs=A2 kvs' tU->xs=tU/\kvs.map (λp=>p.1)=kvs'.map (λp=>p.1)
 | [],[],[],[],_,_,_=>⟨rfl,rfl⟩
 | [],[],_::_,_,h,_,_=>by simp at h
 | [],[],[],_::_,_,h,_=>by simp at h
 | [],p::_,_,[],_,h,_=>by simp at h
 | [],p::_,[],_::_,_,_,h=>by simp[A2] at h
 | [],p::_,_::_,_::_,h,_,_=>by simp at h
 | p::_,[],[],_,h,_,_=>by simp at h
 | p::_,[],_::_,[],_,_,h=>by simp[A2] at h
 | p::_,[],_::_,_::_,_,h,_=>by simp at h
 | p::_,q::_,[],_,h,_,_=>by simp at h
 | p::_,q::_,_::_,[],_,h,_=>by simp at h
 | p::kvs,q::kvs',x::xs,y::ys,h1,h2,h=>by
  rw[A2,A2] at h;injection h with e1 e2;injection e1 with e3 e4;obtain⟨a,b⟩:=EL (by simpa using h1) (by simpa using h2) e2;rw[e4,a,ai,ai,b];exact⟨rfl,by rw[EK e3]⟩
theorem EM:∀{l l':List (List Int × ae)},l.map (λp=>p.1)=l'.map (λp=>p.1)->l.map (·.2)=l'.map (·.2)->l=l'
 | [],[],_,_=>rfl
 | [],_::_,h,_=>by cases h
 | _::_,[],h,_=>by cases h
 | (a,b)::l,(c,d)::l',h,k=>by
  rw[ai,ai] at h k;injection h with h1 h2;injection k with k1 k2;have h1:a=c:=h1;have k1:b=d:=k1;rw[EM h2 k2,h1,k1]
theorem yn {l:List (List Int × ae)}(h:∀p∈l,p.1.length=1):l.map (λp=>p.1)=(l.map λp=>p.1.headD 0).map λi=>[i]:=by
 rw[bc];refine bL λp hp=>?_
 match p,h p hp with
 | ([i],_),_=>rfl
theorem Mc {t t':Bool}{kvs kvs':List (List Int × ae)}{xs tU:List V}(h1:xs.length=kvs.length)(h2:tU.length=kvs'.length)(k1:t=false->∀p∈kvs,p.1.length=1)(k2:t'=false->∀p∈kvs',p.1.length=1)(h:pW t kvs xs=pW t' kvs' tU):t=t'/\xs=tU/\kvs.map (λp=>p.1)=kvs'.map (λp=>p.1):=by
 cases t with
 | true=>cases t' with
  | true =>
   injection h with h;exact⟨rfl,EL h1 h2 h⟩
  | false=>cases h
 | false=>cases t' with
  | true=>cases h
  | false =>
   injection h with h;obtain⟨a,b⟩:=EJ h1 h2 h;exact⟨rfl,a,by rw[yn (k1 rfl),yn (k2 rfl),b]⟩
mutual
theorem eU.one {S:List Addr}{H:Hp}:∀{d d':ae} {v:V},eU S H d v->eU S H d' v->d=d'
 | .none,d',v,h,k=>by cases h.oD;cases d'<;>simp[eU] at k;rfl
 | .bool b,d',v,h,k=>by cases h.oC;cases d'<;>simp[eU] at k;rw[k]
 | .int b,d',v,h,k=>by cases h.fg;cases d'<;>simp[eU] at k;rw[k]
 | .str b,d',v,h,k=>by cases h.m9;cases d'<;>simp[eU] at k;rw[k]
 | .tuple ds,d',v,h,k=>by
  obtain⟨a,xs,rfl,ha,r⟩:=h.fX
  cases d' with
  | tuple es =>
   obtain⟨b,ys,e,hb,r'⟩:=k.fX;cases e;rw[ha] at hb;cases hb;rw[dP.one r r']
  | list es=>obtain⟨b,ys,e,hb,_⟩:=k.fA;cases e;rw[ha] at hb;cases hb
  | dict es=>obtain⟨b,t,kvs,ys,e,_,hb,_⟩:=k.sy;cases e;rw[ha] at hb;exact (Eu hb).elim
  | _=>simp[eU] at k
 | .list ds,d',v,h,k=>by
  obtain⟨a,xs,rfl,ha,_,r⟩:=h.fA
  cases d' with
  | list es =>
   obtain⟨b,ys,e,hb,_,r'⟩:=k.fA;cases e;rw[ha] at hb;cases hb;rw[dP.one r r']
  | tuple es=>obtain⟨b,ys,e,hb,_⟩:=k.fX;cases e;rw[ha] at hb;cases hb
  | dict es=>obtain⟨b,t,kvs,ys,e,_,hb,_⟩:=k.sy;cases e;rw[ha] at hb;exact (qZ hb).elim
  | _=>simp[eU] at k
 | .dict l,d',v,h,k=>by
  have h':=h;unfold eU at h';obtain⟨a,t,kvs,xs,rfl,rfl,ha,hs,hk,hr⟩:=h';have hl:xs.length=kvs.length:=by have:=(gS.F3.mp hr).length;rw[jy,ak,ak,ar] at this;omega
  cases d' with
  | tuple es=>obtain⟨b,ys,e,hb,_⟩:=k.fX;cases e;rw[ha] at hb;exact (Eu hb.symm).elim
  | list es=>obtain⟨b,ys,e,hb,_⟩:=k.fA;cases e;rw[ha] at hb;exact (qZ hb.symm).elim
  | dict l' =>
   unfold eU at k;obtain⟨b,t',kvs',ys,e,rfl,hb,_,P8,NG⟩:=k;cases e;rw[ha] at hb;have hl':ys.length=kvs'.length:=by have:=(gS.F3.mp NG).length;rw[jy,ak,ak,ar] at this;omega
   obtain⟨rfl,rfl,Gj⟩:=Mc hl hl' hk P8 (Option.some.inj hb);have:=gS.one hr NG;rw[jy,jy] at this;injection this with _ this;rw[EM Gj this]
  | _=>simp[eU] at k
theorem dP.one {S:List Addr}{H:Hp}:∀{ds vq:List ae} {vs:List V},dP S H ds vs->dP S H vq vs->ds=vq
 | [],vq,vs,h,k=>by
  cases h.fI
  cases vq with
  | nil=>rfl
  | cons d ds=>obtain⟨x,r,e,_⟩:=k.of_cons;cases e
 | d::ds,vq,vs,h,k=>by
  obtain⟨x,r,rfl,h1,h2⟩:=h.of_cons
  cases vq with
  | nil=>cases k.fI
  | cons d' vq =>
   obtain⟨x',r',e,k1,k2⟩:=k.of_cons;cases e;rw[eU.one h1 k1,dP.one h2 k2]
theorem gS.one {S:List Addr}{H:Hp}:∀{l l':List (ae × ae)} {vs:List V},gS S H l vs->gS S H l' vs->l.map (·.2)=l'.map (·.2)
 | [],l',vs,h,k=>by
  unfold gS at h;subst h
  cases l' with
  | nil=>rfl
  | cons p l=>unfold gS at k;obtain⟨x,r,e,_⟩:=k;cases e
 | (_,d)::l,l',vs,h,k=>by
  unfold gS C2 at h;obtain⟨x,r,rfl,h1,h2⟩:=h
  cases l' with
  | nil=>unfold gS at k;cases k
  | cons p l' =>
   unfold gS at k;obtain⟨x',r',e,k1,k2⟩:=k;cases e;have Z5:eU S H p.2 x:=by cases p;unfold C2 at k1;exact k1
   rw[ai,ai,gS.one h2 k2];show d::_=p.2::_;rw[eU.one h1 Z5]
end
structure xo (X:Cx) (f:ah->ah->Sem ah) (op:ae->ae->Option ae):Prop where
 ex:∃r,lY X f r/\∀gs S H dx dy x y d (R:VK),(∀a∈S,H a≠none)->mG H->fP gs S H dx x->fP gs S H dy y->op dx dy=some d->(∀v H',eU S H' d v->Ext [] H H'->R v H')->r x y H R
noncomputable def dN (f:ae->ae->Option ae)(ua ub:UX):UX:=λenv n Q=>ua env n λx n1=>ub env n1 λy n2=>qR (f x y) λd=>Q d n2
noncomputable def Wr (d:ae)(Q:Bool->Prop):Prop:=match d with | .bool b=>Q b | _=>False
@[simp] theorem dR (b:Bool) (Q:Bool->Prop):Wr (.bool b) Q=Q b:=rfl
noncomputable def eC (u:UX):UT:=λenv n Q=>u env n λd n'=>Wr d λb=>Q b n'
section
variable {X:Cx}{M:Fr}{a b c e:Expr}{ua ub uc:UX}{pos:Pos}{f:ae->ae->Option ae}
theorem EN
  (hr:∀gs S H dx dy x y d (R:VK),(∀a∈S,H a≠none)->mG H->fP gs S H dx x->fP gs S H dy y->f dx dy=some d->(∀v H',eU S H' d v->Ext [] H H'->R v H')->r x y H R)
  (ok:dZ M env pn σ S H n) (hu:dN f ua ub env n Q) (k:∀v H' d n',eU S H' d v->Ext M.gs H H'->M.G H' n'->Q d n'->R v H'):Lj r (Bk M ua) (Bk M ub) σ H R :=
 ⟨env,pn,S,n,_,ok,hu,λx H1 dx n1 r1 x1 g1 _ q1=>⟨env,pn,S,n1,_,ok.step x1 g1,q1,λy H2 dy n2 r2 x2 g2 sz q2=>by
  obtain⟨d,e,q⟩:=q2;exact hr M.gs S H2 dx dy x y d R ((ok.step x1 g1).step x2 g2).has sz (r1.ext ok.sE x2) r2 e λv H3 r3 x3=>k v H3 d n2 r3 ((x1.trans x2).trans (x3.mono (!4))) (M.jS g2 x3 (!4)) q⟩⟩
theorem gJ (ho:xo X (binaryOp op) f)(ha:KL X M a ua)(hb:KL X M b ub):KE X M (.BinOp a op b pos) (dN f ua ub):=by
 obtain⟨r,h1,h2⟩:=ho.ex;exact .of (ic h1 ha.run hb.run) λσ H R env pn S n Q ok hu k=>EN h2 ok hu k
theorem yo (ho:xo X (compareOp op) f)(ha:KL X M a ua)(hb:KL X M b ub)(hm:behindInMarks op b=false:=by first | exact m6 _ | rfl):KE X M (.Compare a [op] [b] pos) (dN f ua ub):=by
 obtain⟨r,h1,h2⟩:=ho.ex;exact .of (LR h1 ha.run hb.run hm) λσ H R env pn S n Q ok hu k=>EN h2 ok hu k
theorem eZ (ho:xo X (compareOp op) f)(ha:KL X M a ua)(hb:KL X M b ub)(hm:behindInMarks op b=false:=by first | exact m6 _ | rfl):KB X M (.Compare a [op] [b] pos) (eC (dN f ua ub)):=by
 obtain⟨r,h1,h2⟩:=ho.ex;refine .of (q9 h1 ha.run hb.run hm) λσ H R env pn S n Q ok hu k=>EN (R:=λx H'=>∃k,x=.bl k/\R k H') h2 ok hu λv H' d n' r x g q=>?_
 cases d with
 | bool b=>exact⟨b,r.oC,k b H' n' x g q⟩
 | _=>exact False.elim q
theorem IS (h:KE X M e ua)(he:∀pN,isTrue e X.env pN=(do let v <- pN;standAt e.pos;holding [v] (truthy v)):=by rw[31]):KB X M e (eC ua) :=
 .of (C4 h.run he) λσ H R env pn S n Q ok hu k=>⟨env,pn,S,n,_,ok,hu,λv H' d n' r x g _ q=>by
  cases d with
  | bool b=>exact⟨b,r.oC,k b H' n' x g q⟩
  | _=>exact False.elim q⟩
noncomputable def IU (u w:UT):UT:=λenv n Q=>u env n λb n1=>if b=true then w env n1 Q else Q false n1
noncomputable def Gk (u w:UT):UT:=λenv n Q=>u env n λb n1=>if b=true then Q true n1 else w env n1 Q
noncomputable def Gm (u:UT):UT:=λenv n Q=>u env n λb n1=>Q (!b) n1
variable {u w:UT}{rest:List Expr}
theorem IV (h:KB X M a u):KW X M (.BoolOp .And [a] pos) u:=⟨Ew h.run⟩
theorem EO (h:KB X M a u):KW X M (.BoolOp .Or [a] pos) u:=⟨PF h.run⟩
theorem w_and (ha:KB X M a u)(hb:KW X M (.BoolOp .And (b::rest) pos) w):KW X M (.BoolOp .And (a::b::rest) pos) (IU u w) :=
 .of (Il ha.run hb.run) λσ H R env pn S n Q ok hu k=>⟨env,pn,S,n,_,ok,hu,λc H1 n1 x1 g1 q=>by
  cases c with
  | true=>exact⟨env,pn,S,n1,Q,ok.step x1 g1,q,λb H2 n2 x2 g2 q2=>k b H2 n2 (x1.trans x2) g2 q2⟩
  | false=>exact k false H1 n1 x1 g1 q⟩
theorem w_or (ha:KB X M a u)(hb:KW X M (.BoolOp .Or (b::rest) pos) w):KW X M (.BoolOp .Or (a::b::rest) pos) (Gk u w) :=
 .of (SK ha.run hb.run) λσ H R env pn S n Q ok hu k=>⟨env,pn,S,n,_,ok,hu,λc H1 n1 x1 g1 q=>by
  cases c with
  | false=>exact⟨env,pn,S,n1,Q,ok.step x1 g1,q,λb H2 n2 x2 g2 q2=>k b H2 n2 (x1.trans x2) g2 q2⟩
  | true=>exact k true H1 n1 x1 g1 q⟩
theorem KW.kb (h:KW X M e u):KB X M e u:=⟨h.run.pt⟩
theorem NH (h:KB X M a u):KB X M (.UnaryOp .Not a pos) (Gm u):=.of (PH h.run) λσ H R env pn S n Q ok hu k=>⟨env,pn,S,n,_,ok,hu,λc H1 n1 x1 g1 q=>k _ H1 n1 x1 g1 q⟩
noncomputable def tV (t:UT)(ua ub:UX):UX:=λenv n Q=>t env n λc n1=>if c=true then ua env n1 Q else ub env n1 Q
theorem sF (hc:KB X M c u)(ha:KE X M a ua)(hb:KE X M b ub):KE X M (.IfExp c a b pos) (tV u ua ub) :=
 .of (A4 hc.run ha.run hb.run) λσ H R env pn S n Q ok hu k=>⟨env,pn,S,n,_,ok,hu,λc H1 n1 x1 g1 q=>by
  cases c with
  | true=>exact⟨env,pn,S,n1,Q,ok.step x1 g1,q,λv H2 d n2 r2 x2 g2 _ q2=>k v H2 d n2 r2 (x1.trans x2) g2 q2⟩
  | false=>exact⟨env,pn,S,n1,Q,ok.step x1 g1,q,λv H2 d n2 r2 x2 g2 _ q2=>k v H2 d n2 r2 (x1.trans x2) g2 q2⟩⟩
noncomputable def Gn:ae->Option ae | .int i=>some (.int (-i)) | _=>none
noncomputable def Tp (f:ae->Option ae)(ua:UX):UX:=λenv n Q=>ua env n λx n1=>qR (f x) λd=>Q d n1
theorem IW (ha:KE X M a ua):KE X M (.UnaryOp .USub a pos) (Tp Gn ua) :=
 .of (SJ O3 ha.run) λσ H R env pn S n Q ok hu k=>⟨env,pn,S,n,_,ok,hu,λv H1 d n1 r1 x1 g1 _ q=>by
  obtain⟨d',e,q⟩:=q
  cases d with
  | int i=>cases e;exact⟨i,r1.fg,k _ H1 _ n1 (.int _) x1 g1 q⟩
  | _=>cases e⟩
end
noncomputable def ip:ae->ae->Option ae
 | .int i,.int j=>some (.int (i+j))
 | .tuple xs,.tuple ys=>if xs.length+ys.length<=aC then some (.tuple (xs++ys)) else none
 | .list xs,.list ys=>if xs.length+ys.length<=aC then some (.list (xs++ys)) else none
 | .str x,.str y=>if x.length+y.length<=aC then some (.str (x++y)) else none
 | _,_=>none
noncomputable def jz:ae->ae->Option ae | .int i,.int j=>some (.int (i - j)) | _,_=>none
instance (i j:Int):Decidable (AO i j):=by unfold AO;infer_instance
instance (i j:Int):Decidable (FO i j):=by unfold FO;infer_instance
instance (i j:Int):Decidable (OY i j):=by unfold OY;infer_instance
noncomputable def rB:ae->ae->Option ae
 | .int i,.int j=>if AO i j then some (.int (i * j)) else none
 | .list xs,.int k=>if -(2 ^ 63)<=k/\k<2 ^ 63/\xs.length * k.toNat<=aC then some (.list (List.replicate k.toNat xs).flatten) else none
 | .tuple xs,.int k=>if 1<=k/\k<2 ^ 40/\xs≠[]/\xs.length * k.toNat<=16000000 then some (.tuple (List.replicate k.toNat xs).flatten) else none
 | _,_=>none
noncomputable def Gp:ae->ae->Option ae | .int i,.int j=>if 0<j then some (.int (i % j)) else none | _,_=>none
noncomputable def zL:ae->ae->Option ae | .int i,.int j=>if FO i j then some (.int (i * 2 ^ j.toNat)) else none | _,_=>none
noncomputable def U6:ae->ae->Option ae | .int i,.int j=>some (.bool (decide (i<j))) | _,_=>none
noncomputable def Rq:ae->ae->Option ae | .int i,.int j=>some (.bool (decide (i<=j))) | _,_=>none
noncomputable def Hi:ae->ae->Option ae | .int i,.int j=>some (.bool (decide (j<i))) | _,_=>none
noncomputable def oj (x y:ae):Option ae:=if x.canLay0=true/\y.canLay0=true/\x.depth<=60 then some (.bool (ae.eqv x y)) else none
noncomputable def Hj (x y:ae):Option ae:=if x.canLay0=true/\y.canLay0=true/\x.depth<=60 then some (.bool (!PyData.eqv x y)) else none
noncomputable def pg (x:ae):Bool:=match x with | .none=>true | _=>false
noncomputable def yp (x y:ae):Option ae:=match y with | .none=>some (.bool (pg x)) | _=>none
noncomputable def oH (x y:ae):Option ae:=match y with | .none=>some (.bool (!pg x)) | _=>none
noncomputable def Bm (x:ae)(ds:List ae):Option Bool:=if x.canLay0=true/\ae.canLayAll0 ds=true/\x.depth<=60 then some (ds.any λd=>ae.eqv d x) else none
noncomputable def inD (x y:ae):Option ae:=match y with | .tuple ds=>(Bm x ds).map .bool | .list ds=>(Bm x ds).map .bool | _=>none
noncomputable def p6 (x y:ae):Option ae:=match y with | .tuple ds=>(Bm x ds).map λb=>.bool (!b) | .list ds=>(Bm x ds).map λb=>.bool (!b) | _=>none
section
variable {X:Cx}
theorem Bn {f:ah->ah->Sem ah}{g:Int->Int->ae}{gv:Int->Int->V}{op:ae->ae->Option ae}(h:lY X f (KP gv))(hg:∀i j S H,eU S H (g i j) (gv i j))(ho:∀x y d,op x y=some d->∃i j,x=.int i/\y=.int j/\d=g i j):xo X f op :=
 ⟨_,h,λgs S H dx dy x y d R _ _ r1 r2 e k=>by
  obtain⟨i,j,rfl,rfl,rfl⟩:=ho _ _ _ e;exact⟨i,j,r1.fg,r2.fg,k _ H (hg i j S H) (!27)⟩⟩
theorem Tq {f:ah->ah->Sem ah}{C:Int->Int->Prop}{g:Int->Int->ae}{gv:Int->Int->V}{op:ae->ae->Option ae}(h:lY X f (rI C gv))(hg:∀i j S H,eU S H (g i j) (gv i j))(ho:∀x y d,op x y=some d->∃i j,x=.int i/\y=.int j/\C i j/\d=g i j):xo X f op :=
 ⟨_,h,λgs S H dx dy x y d R _ _ r1 r2 e k=>by
  obtain⟨i,j,rfl,rfl,hc,rfl⟩:=ho _ _ _ e;exact⟨i,j,r1.fg,r2.fg,hc,k _ H (hg i j S H) (!27)⟩⟩
theorem n8:xo X (binaryOp .Sub) jz:=Bn (g:=λi j=>.int (i - j)) OZ (λ_ _ _ _=>.int _) λx y d e=>by
 cases x<;>cases y<;>simp[jz] at e;exact⟨_,_,rfl,rfl,e.symm⟩
theorem Ws:xo X (compareOp .Lt) U6:=Bn (g:=λi j=>.bool (decide (i<j))) Ng (λ_ _ _ _=>.bl _) λx y d e=>by
 cases x<;>cases y<;>simp[U6] at e;exact⟨_,_,rfl,rfl,e.symm⟩
theorem Tr:xo X (compareOp .LtE) Rq:=Bn (g:=λi j=>.bool (decide (i<=j))) R5 (λ_ _ _ _=>.bl _) λx y d e=>by
 cases x<;>cases y<;>simp[Rq] at e;exact⟨_,_,rfl,rfl,e.symm⟩
theorem IY:xo X (compareOp .Gt) Hi:=Bn (g:=λi j=>.bool (decide (j<i))) Nh (λ_ _ _ _=>.bl _) λx y d e=>by
 cases x<;>cases y<;>simp[Hi] at e;exact⟨_,_,rfl,rfl,e.symm⟩
theorem NI:xo X (binaryOp .Mod) Gp:=Tq (g:=λi j=>.int (i % j)) oy (λ_ _ _ _=>.int _) λx y d e=>by
 cases x<;>cases y<;>simp[Gp] at e;exact⟨_,_,rfl,rfl,e.1,e.2.symm⟩
theorem IZ:xo X (binaryOp .LShift) zL:=Tq (g:=λi j=>.int (i * 2 ^ j.toNat)) O1 (λ_ _ _ _=>.int _) λx y d e=>by
 cases x<;>cases y<;>simp[zL] at e;exact⟨_,_,rfl,rfl,e.1,e.2.symm⟩
theorem Md (r:eU S H d v):pg d=decide (v=.jm):=by
 cases d with
 | none=>cases r.oD;rfl
 | bool b=>cases r.oC;rfl
 | int b=>cases r.fg;rfl
 | str b=>cases r.m9;rfl
 | tuple b=>obtain⟨a,xs,rfl,_⟩:=r.fX;rfl
 | list b=>obtain⟨a,xs,rfl,_⟩:=r.fA;rfl
 | dict b=>obtain⟨a,t,kvs,xs,rfl,_⟩:=r.sy;rfl
theorem fP.Yh (r:fP gs S H d v):pg d=decide (v=.jm):=by
 rcases r with r | ⟨ds,a,xs,rfl,rfl,_⟩ | ⟨t,kvs,a,xs,rfl,rfl,_⟩
 .exact Md r
 .rfl
 .rfl
theorem Gr:xo X (compareOp .Is) yp:=⟨_,O5,λgs S H dx dy x y d R _ _ r1 r2 e k=>by
 cases dy with
 | none=>cases e;exact⟨r2.oD,r1.Yh ▸ k _ H (.bl _) (!27)⟩
 | _=>cases e⟩
theorem ER:xo X (compareOp .IsNot) oH:=⟨_,Lo,λgs S H dx dy x y d R _ _ r1 r2 e k=>by
 cases dy with
 | none=>cases e;exact⟨r2.oD,r1.Yh ▸ k _ H (.bl _) (!27)⟩
 | _=>cases e⟩
theorem fP.reads (r:fP gs S H d v)(c0:d.canLay0=true)(ok:oq P w H h)(rv:RelV v u):∃as,Reads h u d as:=by
 rcases r with r | ⟨ds,a,xs,rfl,rfl,ha,rs,_⟩ | ⟨t,kvs,a,xs,rfl,_⟩
 .exact eU.reads ok c0 r rv
 .cases (show u=ah.ref a from rv)
  obtain⟨_,its,n,rv,e⟩:=ok a _ ha;obtain⟨as,ra⟩:=dP.reads ok (by simpa [ae.canLay0] using c0) rs rv;exact⟨_,.list e rfl rfl (by simpa using ra)⟩
 .simp[f6,ae.canLay0] at c0
noncomputable def Ts (neg:Bool):R2:=λx y H Q=>∃gs S dx dy,fP gs S H dx x/\fP gs S H dy y/\dx.canLay0=true/\dy.canLay0=true/\dx.depth<=60/\Q (.bl (if neg then !PyData.eqv dx dy else ae.eqv dx dy)) H
theorem P9 (F4:X.A.units+64<cLine):lY X (compareOp .Eq) (Ts false):=by
 (intro pins s σ H x y v u Q I rx ry h);obtain⟨gs,S,dx,dy,h1,h2,c1,c2,d1,q⟩:=h;obtain⟨as,ra⟩:=h1.reads c1 I.hok rx;obtain⟨bs,rb⟩:=h2.reads c2 I.hok ry;exact SeqAt.compareEq_reads ra rb c1 c2 (!1) ⟨.bl _,H,I,rfl,q⟩
theorem P' (F4:X.A.units+64<cLine):lY X (compareOp .NotEq) (Ts true):=by
 (intro pins s σ H x y v u Q I rx ry h);obtain⟨gs,S,dx,dy,h1,h2,c1,c2,d1,q⟩:=h;obtain⟨as,ra⟩:=h1.reads c1 I.hok rx;obtain⟨bs,rb⟩:=h2.reads c2 I.hok ry;exact SeqAt.compareNe_reads ra rb c1 c2 (!1) ⟨.bl _,H,I,rfl,q⟩
theorem lC (F4:X.A.units+64<cLine):xo X (compareOp .Eq) oj:=⟨_,P9 F4,λgs S H dx dy x y d R _ _ r1 r2 e k=>by
 unfold oj at e;split at e
 .rename_i hc
  cases e;exact⟨gs,S,dx,dy,r1,r2,hc.1,hc.2.1,hc.2.2,k _ H (.bl _) (!27)⟩
 .cases e⟩
theorem Me (F4:X.A.units+64<cLine):xo X (compareOp .NotEq) Hj:=⟨_,P' F4,λgs S H dx dy x y d R _ _ r1 r2 e k=>by
 unfold Hj at e;split at e
 .rename_i hc
  cases e;exact⟨gs,S,dx,dy,r1,r2,hc.1,hc.2.1,hc.2.2,k _ H (.bl _) (!27)⟩
 .cases e⟩
end
section
variable {X:Cx}
theorem fP.Mf {K:W.Frag}{gs S:List Addr}{H:Hp}{ds:List ae}{v:V}(h:fP gs S H (.tuple ds) v):∃a xs,v=.ref a/\jt K H a xs/\H a=some (.tup xs)/\dP S H ds xs:=let ⟨a,xs,e,ha,r⟩:=h.fX;⟨a,xs,e,jt.of ha,ha,r⟩
theorem fP.K0 {K:W.Frag}{gs S:List Addr}{H:Hp}{ds:List ae}{v:V}(h:fP gs S H (.list ds) v):∃a xs,v=.ref a/\gx K H a xs/\H a=some (.lst xs)/\dP S H ds xs:=let ⟨a,xs,e,ha,r⟩:=h.fA;⟨a,xs,e,gx.of ha,ha,r⟩
theorem uG {S:List Addr}{H:Hp}{ds:List ae}{xs:List V}{p:Addr}(hp:H p=none)(r:dP S H ds xs):eU S (fz H p (.tup xs)) (.tuple ds) (.ref p):=.tup dQ (r.ext (.new hp))
theorem uH (has:∀a∈S,H a≠none)(hp:H p=none)(r:dP S H ds xs):eU S (fz H p (.lst xs)) (.list ds) (.ref p):=.lst dQ (λz=>has p z hp) (r.ext (.new hp))
theorem dP.flat (r:dP S H ds xs)(k:Nat):dP S H (List.replicate k ds).flatten (List.replicate k xs).flatten:=by
 induction k with
 | zero=>exact .nil
 | succ k ih=>rw[aE,aE,cD,cD];exact r.append ih
theorem jT:xo X (binaryOp .Add) ip:=⟨_,((sv.or (V7 X.K)).or Pm).or CQ,λgs S H dx dy x y d R has sz r1 r2 e k=>by
 cases dx with
 | int i=>cases dy with
  | int j=>cases e;exact .inl (.inl (.inl ⟨i,j,r1.fg,r2.fg,k _ H (.int _) (!27)⟩))
  | _=>cases e
 | str i=>cases dy with
  | str j =>
   simp only[ip] at e;split at e
   .rename_i hz
    cases e;exact .inr ⟨i,j,r1.m9,r2.m9,hz,k _ H (.str _) (!27)⟩
   .cases e
  | _=>cases e
 | tuple ds=>cases dy with
  | tuple es =>
   simp only[ip] at e;split at e
   .rename_i hz
    cases e;obtain⟨a,xs,rfl,s1,h1,q1⟩:=r1.Mf (K:=X.K);obtain⟨b,ys,rfl,s2,h2,q2⟩:=r2.Mf (K:=X.K);refine .inl (.inl (.inr ⟨a,b,xs,ys,rfl,rfl,s1,s2,by rw[q1.length,q2.length];exact hz,λe=>?_,λe=>?_,λp hp=>k _ _ (uG hp (q1.append q2)) (.new hp)⟩))
    .subst e
     cases ds with
     | nil=>exact k _ H (.tup h2 q2) (!27)
     | cons d ds=>have:=q1.length;simp at this
    .subst e
     cases es with
     | nil=>rw[bY] at k;exact k _ H (.tup h1 q1) (!27)
     | cons d ds=>have:=q2.length;simp at this
   .cases e
  | _=>cases e
 | list ds=>cases dy with
  | list es =>
   simp only[ip] at e;split at e
   .rename_i hz
    cases e;obtain⟨a,xs,rfl,h1,q1⟩:=r1.fA;obtain⟨b,ys,rfl,h2,q2⟩:=r2.fA;exact .inl (.inr ⟨a,b,xs,ys,rfl,rfl,h1,h2,by rw[q1.length,q2.length];exact hz,λp hp=>k _ _ (uH has hp (q1.append q2)) (.new hp)⟩)
   .cases e
  | _=>cases e
 | _=>cases dy<;>cases e⟩
theorem yq:xo X (binaryOp .Mult) rB:=⟨_,(pS.or HV).or (IP X.K),λgs S H dx dy x y d R has sz r1 r2 e k=>by
 cases dx with
 | int i=>cases dy with
  | int j =>
   simp only[rB] at e;split at e
   .rename_i hz
    cases e;exact .inl (.inl ⟨i,j,r1.fg,r2.fg,hz,k _ H (.int _) (!27)⟩)
   .cases e
  | _=>cases e
 | list ds=>cases dy with
  | int j =>
   simp only[rB] at e;split at e
   .rename_i hz
    cases e;obtain⟨a,xs,rfl,h1,q1⟩:=r1.fA;exact .inl (.inr ⟨a,j,xs,rfl,r2.fg,h1,hz.1,hz.2.1,by rw[q1.length];exact hz.2.2,λp hp=>k _ _ (uH has hp (q1.flat _)) (.new hp)⟩)
   .cases e
  | _=>cases e
 | tuple ds=>cases dy with
  | int j =>
   simp only[rB] at e;split at e
   .rename_i hz
    cases e;obtain⟨a,xs,rfl,s1,h1,q1⟩:=r1.Mf (K:=X.K);by_cases h:j=1
    .subst h
     refine .inr (.inl ⟨a,xs,rfl,r2.fg,s1,k _ H ?_ (!27)⟩);simpa using eU.tup h1 q1
    .refine .inr (.inr ⟨a,j,xs,rfl,r2.fg,s1,λz=>?_,!1,hz.2.1,by rw[q1.length];exact hz.2.2.2,λp hp=>k _ _ (uG hp (q1.flat _)) (.new hp)⟩)
     subst z;have:=q1.length;exact hz.2.2.1 (by simpa using this.symm)
   .cases e
  | _=>cases e
 | _=>cases dy<;>cases e⟩
noncomputable def Tt (neg:Bool):R2:=λx y H Q=>∃gs S dx ds p xs,fP gs S H dx x/\y=.ref p/\(H p=some (.lst xs)\/H p=some (.tup xs))/\dP S H ds xs/\dx.canLay0=true/\ae.canLayAll0 ds=true/\dx.depth<=60/\Q (.bl (if neg then !(ds.any λd=>ae.eqv d dx) else ds.any λd=>ae.eqv d dx)) H
open Classical in
noncomputable def CK (S:List Addr)(H:Hp)(xs:List V)(dx:ae)(y:ah):Bool:=decide (∃v d,RelV v y/\eU S H d v/\ae.eqv d dx=true)
open Classical in
theorem I8 {S:List Addr}{H:Hp}{xs:List V}{dx d:ae}{v:V}{y:ah}(h1:RelV v y)(h2:eU S H d v):CK S H xs dx y=ae.eqv d dx:=by
 unfold CK
 cases e:ae.eqv d dx with
 | true=>exact decide_eq_true ⟨v,d,h1,h2,e⟩
 | false =>
  refine decide_eq_false λ⟨v',d',k1,k2,k3⟩=>?_;cases RelV.one h1 k1;cases eU.one h2 k2;rw[e] at k3;cases k3
theorem rC:∀{ds:List ae} {xs:List V} {us:List ah},dP S H ds xs->eS xs us->us.any (CK S H zs dx)=ds.any λd=>ae.eqv d dx
 | [],_,_,h,r=>by cases h.fI;cases r;rfl
 | d::ds,_,_,h,r=>by
  obtain⟨x,t,rfl,h1,h2⟩:=h.of_cons
  cases r with
  | cons q1 q2=>rw[bF,bF,rC h2 q2,I8 q1 h1]
theorem vt (ok:oq P w H s.heap)(rx:fP gs S H dx x)(rv:RelV x v)(c1:dx.canLay0=true)(hu:A.units+60<cLine)(hd:dx.depth<=60) :
  ∀{ds:List ae} {xs:List V} {us:List ah},ae.canLayAll0 ds=true->dP S H ds xs->eS xs us->∀u∈us,SeqAt.EqAt A s u v (CK S H zs dx u)
 | [],_,_,_,h,r=>by cases h.fI;cases r;intro u hu;cases hu
 | d::ds,_,_,hc,h,r=>by
  obtain⟨y,t,rfl,h1,h2⟩:=h.of_cons;simp only[ae.canLayAll0,bn] at hc
  cases r with
  | cons q1 q2 =>
   intro u Qa;rcases ax.mp Qa with rfl | Qa
   .rw[I8 q1 h1]
    obtain⟨as,ra⟩:=eU.reads ok hc.1 h1 q1;obtain⟨bs,rb⟩:=rx.reads c1 ok rv;exact SeqAt.eqAt_reads d dx A s _ v as bs ra rb hc.1 c1 (by have:min d.depth dx.depth<=60:=(!1);omega)
   .exact vt ok rx rv c1 hu hd hc.2 h2 q2 u Qa
theorem Qb (F4:X.A.units+64<cLine):lY X (compareOp .In) (Tt false):=by
 (intro pins s σ H x y v u Q I rx ry h);obtain⟨gs,S,dx,ds,p,xs,r1,rfl,hq,rs,c1,c2,hd,q⟩:=h;cases ry;have xp:X.A.in1.units+60<cLine:=by show X.A.units+1+60<cLine;omega
 rcases hq with hq | hq
 .obtain⟨its,r,pl,hz⟩:=I.list (gx.of (K:=X.K) hq)
  refine SeqAt.in_listAt (CK S H xs dx) pl.isList (((λw hw=>vt I.hok r1 rx c1 xp hd c2 rs r w (by simpa using hw)))) ⟨.bl _,H,I,rfl,?_⟩;(rw[show its.toArray.any (CK S H xs dx)=its.any (CK S H xs dx) by simp,rC rs r]);exact q
 .obtain⟨its,r,pl,hz⟩:=I.tuple (jt.of (K:=X.K) hq)
  refine SeqAt.in_tupleAt (CK S H xs dx) pl (((λw hw=>vt I.hok r1 rx c1 xp hd c2 rs r w (by simpa using hw)))) ⟨.bl _,H,I,rfl,?_⟩;(rw[show its.toArray.any (CK S H xs dx)=its.any (CK S H xs dx) by simp,rC rs r]);exact q
theorem Mg (F4:X.A.units+64<cLine):lY X (compareOp .NotIn) (Tt true):=by
 (intro pins s σ H x y v u Q I rx ry h);obtain⟨gs,S,dx,ds,p,xs,r1,rfl,hq,rs,c1,c2,hd,q⟩:=h;cases ry;have xp:X.A.in1.units+60<cLine:=by show X.A.units+1+60<cLine;omega
 rcases hq with hq | hq
 .obtain⟨its,r,pl,hz⟩:=I.list (gx.of (K:=X.K) hq)
  refine SeqAt.notIn_listAt (CK S H xs dx) pl.isList (((λw hw=>vt I.hok r1 rx c1 xp hd c2 rs r w (by simpa using hw)))) ⟨.bl _,H,I,rfl,?_⟩;(rw[show its.toArray.any (CK S H xs dx)=its.any (CK S H xs dx) by simp,rC rs r]);exact q
 .obtain⟨its,r,pl,hz⟩:=I.tuple (jt.of (K:=X.K) hq)
  refine SeqAt.notIn_tupleAt (CK S H xs dx) pl (((λw hw=>vt I.hok r1 rx c1 xp hd c2 rs r w (by simpa using hw)))) ⟨.bl _,H,I,rfl,?_⟩;(rw[show its.toArray.any (CK S H xs dx)=its.any (CK S H xs dx) by simp,rC rs r]);exact q
theorem zM (h:Bm x ds=some b):x.canLay0=true/\ae.canLayAll0 ds=true/\x.depth<=60/\(ds.any λd=>ae.eqv d x)=b:=by
 unfold Bm at h;split at h
 .rename_i hc
  cases h;exact⟨hc.1,hc.2.1,hc.2.2,rfl⟩
 .cases h
theorem Dr (F4:X.A.units+64<cLine):xo X (compareOp .In) inD:=⟨_,Qb F4,λgs S H dx dy x y d R _ _ r1 r2 e k=>by
 cases dy with
 | tuple ds =>
  obtain⟨b,hb,rfl⟩:=cm.mp (show (Bm dx ds).map ae.bool=some d from e);obtain⟨c1,c2,c3,rfl⟩:=zM hb;obtain⟨a,xs,rfl,ha,rs⟩:=r2.fX;exact⟨gs,S,dx,ds,a,xs,r1,rfl,.inr ha,rs,c1,c2,c3,k _ H (.bl _) (!27)⟩
 | list ds =>
  obtain⟨b,hb,rfl⟩:=cm.mp (show (Bm dx ds).map ae.bool=some d from e);obtain⟨c1,c2,c3,rfl⟩:=zM hb;obtain⟨a,xs,rfl,ha,rs⟩:=r2.fA;exact⟨gs,S,dx,ds,a,xs,r1,rfl,.inl ha,rs,c1,c2,c3,k _ H (.bl _) (!27)⟩
 | _=>cases e⟩
theorem ES (F4:X.A.units+64<cLine):xo X (compareOp .NotIn) p6:=⟨_,Mg F4,λgs S H dx dy x y d R _ _ r1 r2 e k=>by
 cases dy with
 | tuple ds =>
  obtain⟨b,hb,rfl⟩:=cm.mp (show (Bm dx ds).map (λb=>ae.bool (!b))=some d from e);obtain⟨c1,c2,c3,rfl⟩:=zM hb;obtain⟨a,xs,rfl,ha,rs⟩:=r2.fX;exact⟨gs,S,dx,ds,a,xs,r1,rfl,.inr ha,rs,c1,c2,c3,k _ H (.bl _) (!27)⟩
 | list ds =>
  obtain⟨b,hb,rfl⟩:=cm.mp (show (Bm dx ds).map (λb=>ae.bool (!b))=some d from e);obtain⟨c1,c2,c3,rfl⟩:=zM hb;obtain⟨a,xs,rfl,ha,rs⟩:=r2.fA;exact⟨gs,S,dx,ds,a,xs,r1,rfl,.inl ha,rs,c1,c2,c3,k _ H (.bl _) (!27)⟩
 | _=>cases e⟩
end
noncomputable def eY (x y:ae):Option ae:=match x,y with | .tuple ds,.int i=>sx ds i | .list ds,.int i=>sx ds i | _,_=>none
theorem Bo (r:dP S H ds xs)(h:sx ds i=some d):∃v,sx xs i=some v/\eU S H d v:=by
 unfold sx at h ⊢;rw[r.length]
 cases e:CV ds.length i with
 | none=>rw[e] at h;cases h
 | some j =>
  rw[e] at h;obtain⟨x,hx,rx⟩:=r.at (show ds[j]? = some d from h);exact⟨x,hx,rx⟩
section
variable {X:Cx}{M:Fr}{a b e:Expr}{ua ub:UX}{pos p2:Pos}
theorem eI (ha:KL X M a ua)(hb:KL X M b ub)(hs:zk b:=by exact λ_ _=>rfl):KE X M (.Subscript a b pos) (dN eY ua ub) :=
 .of (pP ((ZI X.K).or (KY X.K)) ha.run hb.run hs) λσ H R env pn S n Q ok hu k=>EN (λgs S H dx dy x y d R _ _ r1 r2 e k=>by
  cases dx with
  | tuple ds=>cases dy with
   | int i =>
    obtain⟨a,xs,rfl,sq,_,rs⟩:=r1.Mf (K:=X.K);obtain⟨v,hv,rv⟩:=Bo rs (show sx ds i=some d from e);exact .inl ⟨a,xs,i,v,rfl,r2.fg,sq,hv,k v H rv (!27)⟩
   | _=>cases e
  | list ds=>cases dy with
   | int i =>
    obtain⟨a,xs,rfl,sq,_,rs⟩:=r1.K0 (K:=X.K);obtain⟨v,hv,rv⟩:=Bo rs (show sx ds i=some d from e);exact .inr ⟨a,xs,i,v,rfl,r2.fg,sq,hv,k v H rv (!27)⟩
   | _=>cases e
  | _=>cases dy<;>cases e) ok hu k
noncomputable abbrev UO:=fC->Int->(Option Int->Int->Prop)->Prop
structure KO (X:Cx) (M:Fr) (e:Option Expr) (u:UO):Prop where run:∃t,QO X e t/\∀σ H R env pn S n Q,dZ M env pn σ S H n->u env n Q->(∀o H' n',Ext M.gs H H'->M.G H' n'->Q o n'->R o H')->t σ H R
noncomputable def zN:UO:=λ_ n Q=>Q none n
noncomputable def zO (u:UX):UO:=λenv n Q=>u env n λd n1=>match d with | .int i=>Q (some i) n1 | _=>False
theorem lJ:KO X M none zN:=⟨_,Ey,λσ H R env pn S n Q ok hu k=>k none H n (!27) ok.gd hu⟩
theorem lK (h:KE X M e ua):KO X M (some e) (zO ua):=⟨_,Ez h.run,λσ H R env pn S n Q ok hu k=>⟨env,pn,S,n,_,ok,hu,λv H1 d n1 r1 x1 g1 _ q=>by
 cases d with
 | int i=>exact⟨i,r1.fg,k _ H1 n1 x1 g1 q⟩
 | _=>exact False.elim q⟩⟩
noncomputable def zP {α:Type}(xs:List α)(lo hi:Option Int):List α:=(xs.drop (HT.iy xs.length 0 lo)).take (HT.iy xs.length xs.length hi - HT.iy xs.length 0 lo)
noncomputable def I9 (d:ae)(lo hi:Option Int):Option ae:=match d with | .tuple ds=>some (.tuple (zP ds lo hi)) | .list ds=>some (.list (zP ds lo hi)) | _=>none
noncomputable def zQ (u:UX)(ul uh:UO):UX:=λenv n Q=>u env n λd n1=>ul env n1 λlo n2=>uh env n2 λhi n3=>qR (I9 d lo hi) λd=>Q d n3
theorem vv (r:dP S H ds xs)(lo hi:Option Int):dP S H (zP ds lo hi) (m7 xs lo hi):=by
 unfold zP m7;rw[r.length];exact (r.drop _).take _
theorem Gs {S:List Addr}{H:Hp}{ds:List ae}{xs:List V}(r:dP S H ds xs){lo hi:Option Int}(h:m7 xs lo hi=xs):zP ds lo hi=ds:=by
 have:=vv r lo hi;rw[h] at this;exact dP.one this r
theorem Bp {lo hi:Option Expr}{ul uh:UO}(he:KL X M e ua)(hl:KO X M lo ul)(hu:KO X M hi uh):KE X M (.Subscript e (.Slice lo hi none p2) pos) (zQ ua ul uh):=by
 obtain⟨tl,q1,l1⟩:=hl.run;obtain⟨th,q2,l2⟩:=hu.run;refine .of (A5 ((ZJ X.K).or (Yc X.K)) he.run q1 q2) λσ H R env pn S n Q ok hu k=>⟨env,pn,S,n,_,ok,hu,λv H1 d n1 r1 x1 g1 _ q=>?_⟩;refine l1 σ H1 _ env pn S n1 _ (ok.step x1 g1) q λlo H2 n2 x2 g2 q=>?_;refine l2 σ H2 _ env pn S n2 _ ((ok.step x1 g1).step x2 g2) q λhi H3 n3 x3 g3 q=>?_;obtain⟨d',e,q⟩:=q;have NJ:=((ok.step x1 g1).step x2 g2).step x3 g3;have r3:=(r1.ext ok.sE x2).ext ok.sE x3;have Qc:=(x1.trans x2).trans x3
 cases d with
 | tuple ds =>
  cases e;obtain⟨a,xs,rfl,sq,ha,rs⟩:=r3.Mf (K:=X.K);refine .inl ⟨a,xs,rfl,sq,λh=>?_,λp hp=>k _ _ _ n3 (uG hp (vv rs lo hi)) (Qc.trans (.new hp)) (M.jS g3 (.new (S:=[]) hp) (!4)) q⟩;have:=Gs rs h;exact k _ H3 _ n3 (.tup ha (by rw[this];exact rs)) Qc g3 q
 | list ds =>
  cases e;obtain⟨a,xs,rfl,sq,ha,rs⟩:=r3.K0 (K:=X.K);exact .inr ⟨a,xs,rfl,sq,λp hp=>k _ _ _ n3 (uH NJ.has hp (vv rs lo hi)) (Qc.trans (.new hp)) (M.jS g3 (.new (S:=[]) hp) (!4)) q⟩
 | _=>cases e
end
structure mI (X:Cx) (fv:ah) (f:List ae->Option ae):Prop where
 ex:∃r,gL X fv r/\∀gs S H ds vs d (R:VK),(∀a∈S,H a≠none)->mG H->lI gs S H ds vs->f ds=some d->(∀v H',eU S H' d v->Ext [] H H'->R v H')->r vs H R
noncomputable def i9 (f:List ae->Option ae)(ua:UA):UX:=λenv n Q=>ua env n λds n1=>qR (f ds) λd=>Q d n1
section
variable {X:Cx}{M:Fr}{e:Expr}{es:List Expr}{ua:UA}{p pos:Pos}{f:List ae->Option ae}{id T:String}{x:Str}
theorem NK (hr:∀gs S H ds vs d (R:VK),(∀a∈S,H a≠none)->mG H->lI gs S H ds vs->f ds=some d->(∀v H',eU S H' d v->Ext [] H H'->R v H')->r vs H R)(ok:dZ M env pn σ S H n)(hu:i9 f ua env n Q)(k:∀v H' d n',eU S H' d v->Ext M.gs H H'->M.G H' n'->Q d n'->R v H'):Sd r (IQ M ua) σ H R :=
 ⟨env,pn,S,n,_,ok,hu,λvs H1 ds n1 r1 x1 g1 sz q=>by
  obtain⟨d,e,q⟩:=q;exact hr M.gs S H1 ds vs d R (ok.step x1 g1).has sz r1 e λv H2 r2 x2=>k v H2 d n1 r2 (x1.trans (x2.mono (!4))) (M.jS g1 x2 (!4)) q⟩
theorem lD (hc:mI X (.builtin id) f)(hm:X.mg x=none)(ha:NF X M (e::es) ua)(hg:Gl X x:=by rfl)(hv:bootBuiltins x=some (.builtin id):=by decide +kernel)(hn:x ≠ "__name__" := by decide)(tP:(x == (!17))=false:=by decide) :
  KE X M (.Call (!35) (e::es) [] pos) (i9 f ua):=by
 obtain⟨r,h1,h2⟩:=hc.ex;exact .of (kM h1 hg hm hv ha.run hn tP) λσ H R env pn S n Q ok hu k=>NK h2 ok hu k
theorem p7 (hc:mI X (.type T) f)(hm:X.mg x=none)(ha:NF X M (e::es) ua)(hg:Gl X x:=by rfl)(hv:bootBuiltins x=some (.type T):=by decide +kernel)(hn:x ≠ "__name__" := by decide)(tP:(x == (!17))=false:=by decide) :
  KE X M (.Call (!35) (e::es) [] pos) (i9 f ua):=by
 obtain⟨r,h1,h2⟩:=hc.ex;exact .of (iz h1 hg hm hv ha.run hn tP) λσ H R env pn S n Q ok hu k=>NK h2 ok hu k
end
theorem lI.one (h:lI gs S H [d] vs):∃v,vs=[v]/\fP gs S H d v:=let ⟨v,r,e,h1,h2⟩:=h;⟨v,by rw[e,show r=[] from h2],h1⟩
theorem lI.two (h:lI gs S H [d,e] vs):∃v w,vs=[v,w]/\fP gs S H d v/\fP gs S H e w:=let ⟨v,r,e,h1,h2⟩:=h;let ⟨w,e2,h3⟩:=lI.one h2;⟨v,w,by rw[e,e2],h1,h3⟩
noncomputable def jU:List ae->Option ae | [.tuple ds]=>some (.int ds.length) | [.list ds]=>some (.int ds.length) | _=>none
noncomputable def zR:List ae->Option ae | [.int i]=>some (.int (if i<0 then -i else i)) | _=>none
noncomputable def tF:List ae->Option ae | [.int i,.int j]=>some (.int (if j<i then j else i)) | _=>none
noncomputable def yr:List ae->Option ae | [.int i,.int j]=>some (.int (if j > i then j else i)) | _=>none
noncomputable def intD:List ae->Option ae | [.int i]=>some (.int i) | [.bool b]=>some (.int (if b then 1 else 0)) | _=>none
noncomputable def fu:List ae->Option ae | [.tuple ds]=>some (.tuple ds) | [.list ds]=>some (.tuple ds) | _=>none
section
variable {X:Cx}
theorem vx:mI X (.builtin "len") jU:=⟨_,PQ X.K,λgs S H ds vs d R _ _ rs e k=>by
 rcases ds with _ | ⟨d1,_ | ⟨d2,l⟩⟩
 .cases e
 .obtain⟨v,rfl,r⟩:=rs.one
  cases d1 with
  | tuple ds =>
   cases e;obtain⟨a,xs,rfl,sq,_,rr⟩:=r.Mf (K:=X.K);refine⟨a,xs,rfl,.inr sq,?_⟩;rw[rr.length];exact k _ H (.int _) (!27)
  | list ds =>
   cases e;obtain⟨a,xs,rfl,sq,_,rr⟩:=r.K0 (K:=X.K);refine⟨a,xs,rfl,.inl sq,?_⟩;rw[rr.length];exact k _ H (.int _) (!27)
  | _=>cases e
 .cases d1<;>cases e⟩
theorem ET:mI X (.builtin "abs") zR:=⟨_,HK,λgs S H ds vs d R _ _ rs e k=>by
 rcases ds with _ | ⟨d1,_ | ⟨d2,l⟩⟩
 .cases e
 .obtain⟨v,rfl,r⟩:=rs.one
  cases d1 with
  | int i=>cases e;exact⟨i,by rw[r.fg],k _ H (.int _) (!27)⟩
  | _=>cases e
 .cases d1<;>cases e⟩
theorem Bq {f:List ae->Option ae}(hf:∀ds d,f ds=some d->∃i j,ds=[.int i,.int j]){gs S:List Addr}{H:Hp}{ds:List ae}{vs:List V}{d:ae}(rs:lI gs S H ds vs)(e:f ds=some d):∃i j,ds=[.int i,.int j]/\vs=[.int i,.int j]:=by
 obtain⟨i,j,rfl⟩:=hf _ _ e;obtain⟨v,w,rfl,r,r2⟩:=rs.two;exact⟨i,j,rfl,by rw[r.fg,r2.fg]⟩
theorem Mh (ds:List ae)(d:ae)(e:tF ds=some d):∃i j,ds=[.int i,.int j]:=by
 unfold tF at e;split at e
 .exact⟨_,_,rfl⟩
 .cases e
theorem Mi (ds:List ae)(d:ae)(e:yr ds=some d):∃i j,ds=[.int i,.int j]:=by
 unfold yr at e;split at e
 .exact⟨_,_,rfl⟩
 .cases e
theorem Ja (hc:X.calm=true):mI X (.builtin "min") tF:=⟨_,FQ hc,λgs S H ds vs d R _ _ rs e k=>by
 obtain⟨i,j,rfl,rfl⟩:=Bq Mh rs e;cases e;exact⟨i,j,rfl,k _ H (.int _) (!27)⟩⟩
theorem Qd (hc:X.calm=true):mI X (.builtin "max") yr:=⟨_,FP hc,λgs S H ds vs d R _ _ rs e k=>by
 obtain⟨i,j,rfl,rfl⟩:=Bq Mi rs e;cases e;exact⟨i,j,rfl,k _ H (.int _) (!27)⟩⟩
theorem Tu:mI X (.type "int") intD:=⟨_,FR,λgs S H ds vs d R _ _ rs e k=>by
 rcases ds with _ | ⟨d1,_ | ⟨d2,l⟩⟩
 .cases e
 .obtain⟨v,rfl,r⟩:=rs.one
  cases d1 with
  | int i=>cases e;exact .inl ⟨i,by rw[r.fg],k _ H (.int _) (!27)⟩
  | bool i=>cases e;exact .inr ⟨i,by rw[r.oC],k _ H (.int _) (!27)⟩
  | _=>cases e
 .cases d1<;>cases e⟩
theorem ig:mI X (.type "tuple") fu:=⟨_,C8 X.K,λgs S H ds vs d R _ _ rs e k=>by
 rcases ds with _ | ⟨d1,_ | ⟨d2,l⟩⟩
 .cases e
 .obtain⟨v,rfl,r⟩:=rs.one
  cases d1 with
  | tuple ds =>
   cases e;obtain⟨a,xs,rfl,sq,ha,rr⟩:=r.Mf (K:=X.K);exact⟨a,xs,rfl,.inr ⟨sq,k _ H (.tup ha rr) (!27)⟩⟩
  | list ds =>
   cases e;obtain⟨a,xs,rfl,sq,_,rr⟩:=r.K0 (K:=X.K);exact⟨a,xs,rfl,.inl ⟨sq,λl hl=>k _ _ (uG hl rr) (.new hl)⟩⟩
  | _=>cases e
 .cases d1<;>cases e⟩
end
section
theorem fD {α:Type}{l:List (Option α)}{i j:Nat}{x:α}{y:Option α}(h:(l.set i y)[j]? = some (some x)):(i=j/\y=some x)\/(i≠j/\l[j]? = some (some x)):=by
 by_cases e:i=j
 .subst e
  by_cases hl:i<l.length
  .rw[cN hl] at h;exact .inl ⟨rfl,Option.some.inj h⟩
  .rw[bi (by rw[aZ];omega)] at h;cases h
 .rw[aV e] at h;exact .inr ⟨e,h⟩
theorem kA {α:Type}{l:List (Option α)}{i:Nat}{y:Option α}(h:i<l.length):(l.set i y)[i]? = some y:=cN h
theorem dZ.set (ok:dZ M env pn σ S H n)(r:eU S H d v)(hi:i ∉ M.fd):dZ M (env.set i (some (.s d))) pn (σ.set i (some v)) S H n:=by
 refine⟨λj e he=>?_,λj k ds es a h1 h2 h3 h4=>?_,by rw[aZ,aZ,ok.len],λj hj=>?_,ok.gd,ok.ext,ok.s0,ok.sn,ok.has,ok.pin⟩
 .have hl:i<env.length->i<σ.length:=λz=>by rw[<- ok.len];exact z
  rcases fD he with⟨rfl,e1⟩ | ⟨ne,e1⟩
  .cases e1
   have:i<env.length:=by
    by_cases z:i<env.length
    .exact z
    .rw[bi (by rw[aZ];omega)] at he;cases he
   exact⟨v,kA (hl this),r⟩
  .obtain⟨v',hv,rv⟩:=ok.val j e e1
   exact⟨v',by rw[aV ne];exact hv,rv⟩
 .rcases fD h1 with⟨_,e1⟩ | ⟨n1,e1⟩
  .cases e1
  .rcases fD h2 with⟨_,e2⟩ | ⟨n2,e2⟩
   .cases e2
   .rw[aV n1] at h3
    rw[aV n2] at h4;exact ok.ne j k ds es a e1 e2 h3 h4
 .have:i≠j:=λz=>hi (z ▸ hj)
  rw[aV this];exact ok.Dq j hj
theorem dZ.anew (ok:dZ M env pn σ S H n)(h0:H a=none):M.H0 a=none:=by
 by_cases z:a∈M.gs
 .exact absurd h0 (M.xm ok.gd a z)
 .exact ok.ext.fresh z h0
theorem vp.fresh (h:vp M S H e v)(h0:H a=none):vp M (a::S) H e v:=by
 cases e with
 | s d=>exact eU.fresh h0 h
 | o ds =>
  obtain⟨b,xs,e,hb,r,hs,h1⟩:=h;exact⟨b,xs,e,hb,r.fresh h0,ag _ hs,h1⟩
 | x c as =>
  obtain⟨b,dx,vs,e,ha,hd,r,g1,g2⟩:=h;exact⟨b,dx,vs,e,ha,hd,r.fresh h0,g1,g2⟩
 | d b t kvs =>
  obtain⟨e,xs,hb,r,hk,hs,h1⟩:=h;exact⟨e,xs,hb,r.fresh h0,hk,ag _ hs,h1⟩
 | f b o kvs xs =>
  obtain⟨e,hb,r,hs,h1⟩:=h;exact⟨e,hb,r.fresh h0,ag _ hs,h1⟩
theorem dZ.Tv (ok:dZ M env pn σ S H n)(h0:H a=none)(h1:H' a=some (.lst xs))(r:dP (a::S) H' ds xs)(x:Ext M.gs H H')(g:M.G H' n')(hi:i ∉ M.fd) :
  dZ M (env.set i (some (.o ds))) pn (σ.set i (some (.ref a))) (a::S) H' n':=by
 have hg:∀b∈M.gs,b∈a::S:=λb hb=>ag _ (ok.sE b hb)
 have Yi:∀(j:Nat) (es:List ae) (b:Addr),env[j]? = some (some (.o es))->σ[j]? = some (some (.ref b))->b≠a:=λj es b e1 e2 z=>by
  obtain⟨v',hv,rv⟩:=ok.val j _ e1;obtain⟨c,xs,e,hc,_,hs,_⟩:=rv;subst e;rw[e2] at hv;cases hv;rw[z] at hs;exact ok.has _ hs h0
 have lA:=ok.step x g;refine⟨λj e he=>?_,λj k vq es b h2 h3 h4 h5=>?_,by rw[aZ,aZ,ok.len],λj hj=>?_,g,lA.ext,λb hb=>ag _ (ok.s0 b hb),λb hb=>?_,λb hb=>?_,λp hp=>?_⟩
 .rcases fD he with⟨rfl,e1⟩ | ⟨ne,e1⟩
  .cases e1
   have:i<env.length:=by
    by_cases z:i<env.length
    .exact z
    .rw[bi (by rw[aZ];omega)] at he;cases he
   exact⟨.ref a,kA (by rw[<- ok.len];exact this),a,xs,rfl,h1,r,ao ..,ok.anew h0⟩
  .obtain⟨v',hv,rv⟩:=ok.val j e e1
   exact⟨v',by rw[aV ne];exact hv,(rv.fresh h0).step hg x⟩
 .rcases fD h2 with⟨rfl,e1⟩ | ⟨n1,e1⟩
  .have Hk:i<σ.length:=by
    by_cases z:i<σ.length
    .exact z
    .rw[bi (by rw[aZ];omega)] at h4;cases h4
   rw[kA Hk] at h4;cases h4;rcases fD h3 with⟨e3,_⟩ | ⟨n2,e2⟩
   .exact e3
   .rw[aV n2] at h5
    exact absurd rfl (Yi k _ _ e2 h5)
  .rw[aV n1] at h4
   rcases fD h3 with⟨rfl,e2⟩ | ⟨n2,e2⟩
   .have Hk:i<σ.length:=by
     by_cases z:i<σ.length
     .exact z
     .rw[bi (by rw[aZ];omega)] at h5;cases h5
    rw[kA Hk] at h5;cases h5;exact absurd rfl (Yi j _ _ e1 h4)
   .rw[aV n2] at h5
    exact ok.ne j k _ _ b e1 e2 h4 h5
 .have:i≠j:=λz=>hi (z ▸ hj)
  rw[aV this];exact ok.Dq j hj
 .skip;(rcases ax.mp hb with z | z)
  .rw[z];exact .inr (ok.anew h0)
  .exact ok.sn b z
 .skip;(rcases ax.mp hb with z | z)
  .rw[z,h1];simp
  .exact lA.has b z
 .exact ((ok.pin p hp).fresh h0).ext (x.mono hg)
theorem dZ.put (ok:dZ M env pn σ S H n){ds es:List ae}{a:Addr}{xs ys:List V}(he:env[i]? = some (some (.o ds)))(hv:σ[i]? = some (some (.ref a)))(ha:H a=some (.lst xs))(r:dP S H es ys):dZ M (env.set i (some (.o es))) pn σ S (fz H a (.lst ys)) n:=by
 obtain⟨v',EU,a',tU,e',lL,_,hs,h0⟩:=ok.val i _ he;subst e';rw[hv] at EU;cases EU;have x:Ext [a] H (fz H a (.lst ys)):=.set (!4) ha;have xS:Ext S H (fz H a (.lst ys)):=x.mono (by simpa using hs);refine⟨λj e hj=>?_,λj k vq j7 b h2 h3 h4 h5=>?_,by rw[aZ,ok.len],ok.Dq,M.jS ok.gd x (by simpa using h0),ok.ext.V4 h0 ha,ok.s0,ok.sn,λb hb=>?_,λp hp=>(ok.pin p hp).ext xS⟩
 .rcases fD hj with⟨rfl,e1⟩ | ⟨ne,e1⟩
  .cases e1
   exact⟨_,hv,a,ys,rfl,dQ,r.ext xS,hs,h0⟩
  .obtain⟨w,hw,oh⟩:=ok.val j e e1
   refine⟨w,hw,?_⟩
   cases e with
   | s d=>exact eU.ext xS oh
   | o j7 =>
    obtain⟨b,zs,e2,hb,r2,sm,Br⟩:=oh;subst e2;have:b≠a:=λz=>ne (ok.ne i j _ _ a he e1 hv (z ▸ hw));exact⟨b,zs,rfl,by rw[d6 this];exact hb,r2.ext xS,sm,Br⟩
   | x c as =>
    obtain⟨b,dx,vs,e2,hb,hd,r2,g1,g2⟩:=oh;exact⟨b,dx,vs,e2,by rw[d6 (λz=>by rw[z,ha] at hb;cases hb)];exact hb,by rw[d6 (λz=>by rw[z,ha] at hd;cases hd)];exact hd,r2.ext xS,g1,g2⟩
   | d b t kvs =>
    obtain⟨e2,zs,hb,r2,Nt,sm,Br⟩:=oh;exact⟨e2,zs,by rw[d6 (λz=>by rw[z,ha] at hb;exact qZ hb)];exact hb,r2.ext xS,Nt,sm,Br⟩
   | f b o kvs zs =>
    obtain⟨e2,hb,r2,sm,Br⟩:=oh;exact⟨e2,by rw[d6 (λz=>by rw[z,ha] at hb;cases hb)];exact hb,r2.ext xS,sm,Br⟩
 .have g1:∃l,env[j]? = some (some (.o l)):=by
   rcases fD h2 with⟨rfl,_⟩ | ⟨_,e1⟩
   .exact⟨_,he⟩
   .exact⟨_,e1⟩
  have g2:∃l,env[k]? = some (some (.o l)):=by
   rcases fD h3 with⟨rfl,_⟩ | ⟨_,e1⟩
   .exact⟨_,he⟩
   .exact⟨_,e1⟩
  obtain⟨l1,g1⟩:=g1;obtain⟨l2,g2⟩:=g2;exact ok.ne j k _ _ b g1 g2 h4 h5
 .by_cases z:b=a
  .rw[z,dQ];simp
  .rw[d6 z];exact ok.has b hb
theorem dZ.freeze (ok:dZ M env pn σ S H n){ds:List ae}(he:env[i]? = some (some (.o ds))):∃a xs S',σ[i]? = some (some (.ref a))/\H a=some (.lst xs)/\eU S' H (.list ds) (.ref a)/\dZ M (env.set i (some (.s (.list ds)))) pn σ S' H n:=by
 obtain⟨v',hv,a,xs,rfl,ha,r,hs,h0⟩:=ok.val i _ he;have less:∀b∈S.filter (·≠a),b∈S:=λb hb=>(aJ.mp hb).1;have hr:eU (S.filter (·≠a)) H (.list ds) (.ref a):=.lst ha (!4) (r.less less);refine⟨a,xs,S.filter (·≠a),hv,ha,hr,λj e hj=>?_,λj k vq j7 b h2 h3 h4 h5=>?_,by rw[aZ,ok.len],ok.Dq,ok.gd,ok.ext,λb hb=>?_,λb hb=>ok.sn b (less b hb),λb hb=>ok.has b (less b hb),λp hp=>(ok.pin p hp).less less⟩
 .rcases fD hj with⟨rfl,e1⟩ | ⟨ne,e1⟩
  .cases e1
   exact⟨_,hv,hr⟩
  .obtain⟨w,hw,oh⟩:=ok.val j e e1
   refine⟨w,hw,?_⟩
   cases e with
   | s d=>exact eU.less less oh
   | o j7 =>
    obtain⟨b,zs,e2,hb,r2,sm,Br⟩:=oh;subst e2;have:b≠a:=λz=>ne (ok.ne i j _ _ a he e1 hv (z ▸ hw));exact⟨b,zs,rfl,hb,r2.less less,aJ.mpr ⟨sm,by simpa using this⟩,Br⟩
   | x c as =>
    obtain⟨b,dx,vs,e2,hb,hd,r2,g1,g2⟩:=oh;exact⟨b,dx,vs,e2,hb,hd,r2.less less,g1,g2⟩
   | d b t kvs =>
    obtain⟨e2,zs,hb,r2,Nt,sm,Br⟩:=oh;have:b≠a:=λz=>by rw[z,ha] at hb;exact qZ hb
    exact⟨e2,zs,hb,r2.less less,Nt,aJ.mpr ⟨sm,by simpa using this⟩,Br⟩
   | f b o kvs zs =>
    obtain⟨e2,hb,r2,sm,Br⟩:=oh;have:b≠a:=λz=>by rw[z,ha] at hb;cases hb
    exact⟨e2,hb,r2.less less,aJ.mpr ⟨sm,by simpa using this⟩,Br⟩
 .rcases fD h2 with⟨_,e1⟩ | ⟨_,e1⟩
  .cases e1
  .rcases fD h3 with⟨_,e2⟩ | ⟨_,e2⟩
   .cases e2
   .exact ok.ne j k _ _ b e1 e2 h4 h5
 .refine aJ.mpr ⟨ok.s0 b hb,?_⟩
  have:b≠a:=λz=>M.xn b hb (z ▸ h0);simpa using this
theorem dZ.pins (ok:dZ M env pn σ S H n)(h:∀p∈qn,p∈pn):dZ M env qn σ S H n:=⟨ok.val,ok.ne,ok.len,ok.Dq,ok.gd,ok.ext,ok.s0,ok.sn,ok.has,λp hp=>ok.pin p (h p hp)⟩
theorem dZ.Ds (ok:dZ M env pn σ S H n)(h:eU S H d v):dZ M env ((d,v)::pn) σ S H n:=⟨ok.val,ok.ne,ok.len,ok.Dq,ok.gd,ok.ext,ok.s0,ok.sn,ok.has,λp hp=>by
 rcases ax.mp hp with rfl | hp
 .exact h
 .exact ok.pin p hp⟩
end
noncomputable abbrev UG:=ae->fC->(fC->Prop)->Prop
noncomputable def fQ (i:Nat):UG:=λd env Q=>Q (env.set i (some (.s d)))
noncomputable def Gu:List UG->List ae->fC->(fC->Prop)->Prop
 | [],[],env,Q=>Q env
 | u::us,d::ds,env,Q=>u d env λeL=>Gu us ds eL Q
 | _,_,_,_=>False
noncomputable def Bs (us:List UG):UG:=λd env Q=>match d with | .tuple ds=>Gu us ds env Q | _=>False
noncomputable def NL (M:Fr)(u:UG):TG:=λv σ H R=>∃env pn S n d N,dZ M env pn σ S H n/\eU S H d v/\u d env N/\∀eL σ',dZ M eL pn σ' S H n->N eL->R σ' H
noncomputable def Qe (M:Fr)(us:List UG):OL:=λvs σ H R=>∃env pn S n ds N,dZ M env pn σ S H n/\dP S H ds vs/\Gu us ds env N/\∀eL σ',dZ M eL pn σ' S H n->N eL->R σ' H
structure KG (X:Cx) (M:Fr) (e:Expr) (u:UG):Prop where run:QG X e (NL M u)
structure U7 (X:Cx) (M:Fr) (es:List Expr) (us:List UG):Prop where run:Nq X es (Qe M us)
theorem QG.weaken (h:QG X e t)(w:∀v σ H Q,t' v σ H Q->t v σ H Q):QG X e t':=⟨λpins s σ H v u D I r q=>h.run pins s σ H v u D I r (w _ σ H _ q)⟩
theorem Nq.weaken (h:Nq X es t)(w:∀v σ H Q,t' v σ H Q->t v σ H Q):Nq X es t':=⟨λpins s σ H v u D I r q=>h.run pins s σ H v u D I r (w _ σ H _ q)⟩
section
theorem Z6 (hN:X.N.Nodup)(hx:Loc X.env.scope x)(hi:X.N[i]? = some x:=by rfl)(hf:X.fn x=true\/X.env.scope.names.lookup x=some .local:=by (first | exact .inl rfl | exact .inr rfl | assumption))(hfd:i ∉ M.fd:=by decide):KG X M (.Name x pos) (fQ i) :=
 ⟨(rf hN hi hx hf).weaken λv σ H R h=>U5 h λenv pn S n d N h=>h.2.2.2 _ _ (h.1.set h.2.1 hfd) h.2.2.1⟩
theorem ng:U7 X M [] []:=⟨LS.weaken λvs σ H R h=>U5 h λenv pn S n ds N h=>by
 obtain⟨ok,r,hu,k⟩:=h
 cases ds with
 | nil=>exact⟨r.fI,k _ _ ok hu⟩
 | cons d ds=>exact False.elim hu⟩
theorem nh (h:KG X M e u)(hr:U7 X M es us)(hs:(assignEach (e::es) X.env).map (·.2)=assign e X.env::(assignEach es X.env).map (·.2):=by rfl):U7 X M (e::es) (u::us) :=
 ⟨(Io h.run hr.run hs).weaken λvs σ H R h=>U5 h λenv pn S n ds N h=>by
  obtain⟨ok,r,hu,k⟩:=h
  cases ds with
  | nil=>exact False.elim hu
  | cons d ds =>
   (obtain⟨x,t,rfl,r1,r2⟩:=r.of_cons);exact⟨x,t,rfl,env,pn,S,n,d,_,ok,r1,hu,λeL σ' lA q=>⟨eL,pn,S,n,ds,N,lA,r2,q,k⟩⟩⟩
theorem Bt:∀{us:List UG} {ds:List ae} {env:fC} {Q:fC->Prop},Gu us ds env Q->(∀u∈us,∀d env (Q:fC->Prop),u d env Q->∃eL,Q eL)->ds.length=us.length
 | [],[],_,_,_,_=>rfl
 | [],_::_,_,_,h,_=>False.elim h
 | _::_,[],_,_,h,_=>False.elim h
 | u::us,d::ds,env,Q,h,k=>by
  obtain⟨eL,h'⟩:=k u (ao ..) d env _ h;simp only[ak];rw[Bt h' λw hw=>k w (ag _ hw)]
theorem Tw:∀d env (Q:fC->Prop),fQ i d env Q->∃eL,Q eL:=λ_ _ _ h=>⟨_,h⟩
theorem Mj (hc:X.calm=true)(h:U7 X M es us)(hu:∀u∈us,∀d env (Q:fC->Prop),u d env Q->∃eL,Q eL)(hl:us.length=n')(hn:(assignEach es X.env).length=n':=by rfl)(AK:(assignEach es X.env).findIdx? (·.1)=none:=by rfl):KG X M (.Tuple es k pos) (Bs us) :=
 ⟨(PK hc h.run hn AK).weaken λv σ H R h=>U5 h λenv pn S n d N h=>by
  obtain⟨ok,r,hh,k⟩:=h
  cases d with
  | tuple ds =>
   obtain⟨a,xs,rfl,ha,rs⟩:=r.fX;exact⟨a,xs,rfl,jt.of ha,by rw[rs.length,Bt hh hu,hl],env,pn,S,n,ds,N,ok,rs,hh,k⟩
  | _=>exact False.elim hh⟩
end
structure Bu (S:List Addr) (J:It) (its:List ae) (H:Hp):Prop where
 go:∀i,i<its.length->J.go i H
 KH:∀i x H',i<its.length->J.KH i H x H'->∃d,its[i]? = some d/\Ext [] H H'/\eU S H' d x
 stop:∀i,its.length<=i->J.stop i H
noncomputable abbrev UI:=fC->Int->(List ae->fC->Int->Prop)->Prop
noncomputable abbrev UJ:=fC->Int->(List ae->Int->Prop)->Prop
theorem QI.mH (h:QI X tg iter wi):QI X tg iter (λσ H R=>wi σ H λJ H1=>mG H1->R J H1) :=
 ⟨λpins s σ H R I q=>gr (h.run pins s σ H _ I q) λv s1 q1=>gr q1 λit s2 ⟨a,fp,tn,J,H',e,I2,t,t0,f,r⟩=>⟨a,fp,tn,J,H',e,I2,t,t0,f,r I2.hok.mH⟩⟩
structure KI (X:Cx) (M:Fr) (tg iter:Expr) (u:UI):Prop where
 ex:∃wi,QI X tg iter wi/\∀σ H R env pn S n Q,dZ M env pn σ S H n->u env n Q ->
  (∀J H' its eL S' n' p,dZ M eL (p++pn) σ S' H' n'->(∀S2 H2,(∀q∈p,eU S2 H2 q.1 q.2)->Bu S2 J its H2)->Q its eL n'->R J H')->wi σ H R
structure KJ (X:Cx) (M:Fr) (tg iter:Expr) (u:UJ):Prop where
 ex:∃wi,QI X tg iter wi/\∀σ H R env pn S n Q,dZ M env pn σ S H n->u env n Q ->
  (∀J H' its n',Ext M.gs H H'->M.G H' n'->(∀H2,Ext M.gs H' H2->Bu S J its H2)->its.length<=aC->Q its n'->R J H')->wi σ H R
theorem Dt {K:W.Frag}{S:List Addr}{H:Hp}{a:Addr}{xs:List V}{ds:List ae}(ha:H a=some (.tup xs))(r:dP S H ds xs):Bu S (Lg K a) ds H :=
 ⟨λi hi=>⟨xs,xs[i]'(by rw[r.length];exact hi),jt.of ha,!4⟩,λi x H' _ ⟨e,y⟩=>by
  subst e;obtain⟨d,hd,rd⟩:=r.get (y xs (jt.of ha));exact⟨d,hd,.refl _ _,rd⟩,λi hi=>⟨xs,jt.of ha,by rw[r.length];exact hi⟩⟩
theorem zS {K:W.Frag}{S:List Addr}{H:Hp}{a:Addr}{xs:List V}{ds:List ae}(ha:H a=some (.lst xs))(r:dP S H ds xs):Bu S (Lf K a) ds H :=
 ⟨λi hi=>⟨xs,xs[i]'(by rw[r.length];exact hi),gx.of ha,!4⟩,λi x H' _ ⟨e,y⟩=>by
  subst e;obtain⟨d,hd,rd⟩:=r.get (y xs (gx.of ha));exact⟨d,hd,.refl _ _,rd⟩,λi hi=>⟨xs,gx.of ha,by rw[r.length];exact hi⟩⟩
noncomputable def ko (ds:List ae):List ae:=ds.zipIdx.map λp=>.tuple [.int (p.2:Nat),p.1]
theorem kJ (ds:List ae):(ko ds).length=ds.length:=by simp[ko]
theorem Bv {ds:List ae}{i:Nat}{d:ae}(h:ds[i]? = some d):(ko ds)[i]? = some (.tuple [.int (i:Nat),d]):=by
 unfold ko;rw[az,List.getElem?_zipIdx,h];simp
theorem Bw {K:W.Frag}{S:List Addr}{H:Hp}{a:Addr}{xs:List V}{ds:List ae}(ha:H a=some (.tup xs))(r:dP S H ds xs):Bu S (S3 K a) (ko ds) H :=
 ⟨λi hi=>⟨xs,xs[i]'(by rw[r.length,<- kJ];exact hi),jt.of ha,!4⟩,λi x H' _ ⟨T,xi,e1,hT,e2,Tx⟩=>by
  subst e1 e2;obtain⟨d,hd,rd⟩:=r.get (Tx xs (jt.of ha));exact⟨_,Bv hd,.new hT,.tup dQ (.cons (.int _) (.cons (rd.ext (.new hT)) .nil))⟩,λi hi=>⟨xs,jt.of ha,by rw[r.length,<- kJ];exact hi⟩⟩
theorem Bx {K:W.Frag}{S:List Addr}{H:Hp}{a:Addr}{xs:List V}{ds:List ae}(ha:H a=some (.lst xs))(r:dP S H ds xs):Bu S (Td K a) (ko ds) H :=
 ⟨λi hi=>⟨xs,xs[i]'(by rw[r.length,<- kJ];exact hi),gx.of ha,!4⟩,λi x H' _ ⟨T,xi,e1,hT,e2,Tx⟩=>by
  subst e1 e2;obtain⟨d,hd,rd⟩:=r.get (Tx xs (gx.of ha));exact⟨_,Bv hd,.new hT,.tup dQ (.cons (.int _) (.cons (rd.ext (.new hT)) .nil))⟩,λi hi=>⟨xs,gx.of ha,by rw[r.length,<- kJ];exact hi⟩⟩
noncomputable def rD (lo:Int)(n:Nat):List ae:=(List.range n).map λ(k:Nat)=>.int (lo+k)
theorem Jb {S:List Addr}{H:Hp}{lo:Int}{n:Nat}:Bu S (UU lo n) (rD lo n) H :=
 have hl:(rD lo n).length=n:=by simp[rD]
 ⟨λi hi=>by rw[hl] at hi;exact hi,λi x H' hi ⟨e1,e2⟩=>by
  subst e1 e2;rw[hl] at hi;exact⟨.int (lo+(i:Nat)),by simp[rD,cK hi],.refl _ _,.int _⟩,λi hi=>by rw[hl] at hi;exact hi⟩
noncomputable def Jc (i:Nat):UI:=λenv n Q=>match env[i]? with | some (some (.s (.tuple ds)))=>Q ds env n | some (some (.s (.list ds)))=>Q ds env n | some (some (.o ds))=>Q ds (env.set i (some (.s (.list ds)))) n | _=>False
noncomputable def kf (d:ae):Option (List ae):=match d with | .tuple ds=>some ds | .list ds=>some ds | _=>none
noncomputable def EV (u:UX):UI:=λenv n Q=>u env n λd n1=>qR (kf d) λds=>Q ds env n1
noncomputable def ph (u:UX):UJ:=λenv n Q=>u env n λd n1=>qR (kf d) λds=>Q ds n1
noncomputable def Rr (u:UX):UJ:=λenv n Q=>u env n λd n1=>qR (kf d) λds=>Q (ko ds) n1
noncomputable def Wt (u:UX):UI:=λenv n Q=>u env n λd n1=>qR (kf d) λds=>Q (ko ds) env n1
noncomputable def Mk (u:UX):UJ:=λenv n Q=>u env n λd n1=>match d with | .int j=>(-(2 ^ 62)<=j/\j<=16777216)/\Q (rD 0 j.toNat) n1 | _=>False
noncomputable def Tz (u:UX):UI:=λenv n Q=>u env n λd n1=>match d with | .int j=>-(2 ^ 62)<=j/\j<2 ^ 62/\Q (rD 0 j.toNat) env n1 | _=>False
noncomputable def Wu (K:W.Frag)(te:TE):TI:=λσ H R=>te σ H λx H1=>∃a,x=.ref a/\(((∃xs,gx K H1 a xs)/\R (Lf K a) H1)\/((∃xs,jt K H1 a xs)/\R (Lg K a) H1))
noncomputable def Wv (K:W.Frag)(ta:TA):TI:=λσ H R=>ta σ H λvs H1=>∃a,vs=[.ref a]/\(((∃xs,gx K H1 a xs)/\R (Td K a) H1)\/((∃xs,jt K H1 a xs)/\R (S3 K a) H1))
section
variable {X:Cx}{M:Fr}{tg e a b:Expr}{u w:UX}{p pos rq:Pos}{sC:List Expr}{k:Nat}
theorem Du (h:QE X e te):QI X tg e (Wu X.K te):=by
 refine⟨λpins s σ H R I q=>gr (h.run pins s σ H _ I q) λv s1 ⟨x,H1,I1,r1,q1⟩=>?_⟩;obtain⟨a,e,q1⟩:=q1;subst e;cases r1;rcases q1 with⟨⟨xs,hq⟩,q⟩ | ⟨⟨xs,hq⟩,q⟩
 .obtain⟨its,rv,p,hz⟩:=I1.list hq
  refine wpAny_pyIter_list p.isList ?_;refine⟨s1.heap.objs.size,[s1.heap.objs.size],_,_,H1,rfl,I1.kept (t':=s1.toks) λb o e=>aj _ e,xO a _,⟨_,aB _ rfl,rfl,rfl⟩,λb hb=>?_,q⟩;have e:b=s1.heap.objs.size:=by simpa using hb
  subst e;exact I1.qT (aw _) (I1.hok.fresh (aw _))
 .obtain⟨its,rv,p,hz⟩:=I1.tuple hq
  refine wpAny_pyIter_tuple (show s1.heap.IsTuple a its.toArray from p) ?_;refine⟨s1.heap.objs.size,[s1.heap.objs.size],_,_,H1,rfl,I1.kept (t':=s1.toks) λb o e=>aj _ e,uX a _,⟨_,aB _ rfl,rfl,rfl⟩,λb hb=>?_,q⟩;have e:b=s1.heap.objs.size:=by simpa using hb
  subst e;exact I1.qT (aw _) (I1.hok.fresh (aw _))
theorem Jd (hg:Gl X "enumerate")(hm:X.mg "enumerate" = none)(ha:QA X [a] ta):QI X (.Tuple sC k rq) (.Call (.Name "enumerate" p) [a] [] pos) (Wv X.K ta):=by
 refine⟨λpins s σ H R I h=>?_⟩;have hs:=f9 (env:=X.env) (es:=[]) (nZ ha.ns).1;refine Call_ (sr I hg hm (by decide +kernel:bootBuiltins "enumerate" = some (.type "enumerate")) (PyProof.Rows.callWith_type1 (gr (ha.run pos pins s σ H _ I h) λus s1 ⟨vs,H1,I1,r1,q1⟩=>?_) hs rfl));obtain⟨t,e,q1⟩:=q1;subst e
 have Yj:∀b∈[s1.heap.objs.size+1,s1.heap.objs.size],su X pins H1 b:=λb hb=>by
  have yt:s1.heap.objs.size<=b:=by
   (rcases ax.mp hb with z | z)
   .rw[z];exact cV _
   .have z':b=s1.heap.objs.size:=by simpa using z
    rw[z'];exact aw _
  obtain⟨p0,p1,p2,p3,p4,p5⟩:=I1.qT yt (I1.hok.fresh yt);exact⟨p0,p1,p2,p3,p4,p5⟩
 cases r1 with
 | cons r rr =>
  cases rr;cases (show _=ah.ref t from r);rcases q1 with⟨⟨xs,hq⟩,q⟩ | ⟨⟨xs,hq⟩,q⟩
  .obtain⟨its,rv,pp,hz⟩:=I1.list hq
   refine call_enumerate_list pp.isList λh' en Ww sz kp=>?_;refine wpAny_pyIter_enum en ?_;have I2:Inv X pins σ H1 { s1 with heap:=h' }:=I1.kept (t':=s1.toks) kp;exact⟨s1.heap.objs.size+1,[s1.heap.objs.size+1,s1.heap.objs.size],_,_,H1,rfl,I2,Dp t _ _ (cH _),⟨⟨_,en⟩,Ww⟩,Yj,q⟩
  .obtain⟨its,rv,pp,hz⟩:=I1.tuple hq
   refine De (show s1.heap.IsTuple t its.toArray from pp) λh' en Ww sz kp=>?_;refine wpAny_pyIter_enum en ?_;have I2:Inv X pins σ H1 { s1 with heap:=h' }:=I1.kept (t':=s1.toks) kp;exact⟨s1.heap.objs.size+1,[s1.heap.objs.size+1,s1.heap.objs.size],_,_,H1,rfl,I2,Df t _ _ (cH _),⟨⟨_,en⟩,Ww⟩,Yj,q⟩
theorem fP.its {K:W.Frag}{gs S:List Addr}{H:Hp}{d:ae}{v:V}{ds:List ae}(r:fP gs S H d v)(e:kf d=some ds)(hg:∀a∈gs,a∈S):∃a,v=.ref a /\
  (((∃xs,H a=some (.lst xs)/\xs.length=ds.length)/\∀H2,Ext gs H H2->Bu S (Lf K a) ds H2/\Bu S (Td K a) (ko ds) H2)\/((∃xs,H a=some (.tup xs)/\xs.length=ds.length)/\∀H2,Ext gs H H2->Bu S (Lg K a) ds H2/\Bu S (S3 K a) (ko ds) H2)):=by
 cases d with
 | tuple es =>
  cases e;obtain⟨a,xs,rfl,ha,rs⟩:=r.fX;exact⟨a,rfl,.inr ⟨⟨xs,ha,rs.length⟩,λH2 x=>⟨Dt (x.tup _ _ ha) (rs.ext (x.mono hg)),Bw (x.tup _ _ ha) (rs.ext (x.mono hg))⟩⟩⟩
 | list es =>
  cases e;have r0:=r;obtain⟨a,xs,rfl,ha,rs⟩:=r.fA;refine⟨a,rfl,.inl ⟨⟨xs,ha,rs.length⟩,λH2 x=>?_⟩⟩;obtain⟨a',tU,e',lL,CL⟩:=(r0.ext hg x).fA;cases e';exact⟨zS lL CL,Bx lL CL⟩
 | _=>cases e
theorem iH (h:KL X M e u):KJ X M tg e (ph u):=⟨_,(Du h.run).mH,λσ H R env pn S n Q ok hu k=>⟨env,pn,S,n,_,ok,hu,λv H1 d n1 r1 x1 g1 sz q=>by
 obtain⟨ds,e,q⟩:=q;obtain⟨a,rfl,h⟩:=r1.its (K:=X.K) e ok.sE;rcases h with⟨⟨xs,ha,hl⟩,h⟩ | ⟨⟨xs,ha,hl⟩,h⟩
 .exact⟨a,rfl,.inl ⟨⟨xs,gx.of ha⟩,λsz=>k _ H1 ds n1 x1 g1 (λH2 x2=>(h H2 x2).1) (by rw[<- hl];exact sz a xs (.inl ha)) q⟩⟩
 .exact⟨a,rfl,.inr ⟨⟨xs,jt.of ha⟩,λsz=>k _ H1 ds n1 x1 g1 (λH2 x2=>(h H2 x2).1) (by rw[<- hl];exact sz a xs (.inr ha)) q⟩⟩⟩⟩
theorem Dv (hm:X.mg "enumerate" = none)(h:KL X M a u)(hs:fk a=true:=by rfl)(hg:Gl X "enumerate" := by rfl):KJ X M (.Tuple sC k rq) (.Call (.Name "enumerate" p) [a] [] pos) (Rr u) :=
 ⟨_,(Jd hg hm (iS h.run fN hs)).mH,λσ H R env pn S n Q ok hu k=>⟨env,pn,S,n,_,ok,hu,λv H1 d n1 r1 x1 g1 sz q=>by
  obtain⟨ds,e,q⟩:=q;obtain⟨a,rfl,h⟩:=r1.its (K:=X.K) e ok.sE;rcases h with⟨⟨xs,ha,hl⟩,h⟩ | ⟨⟨xs,ha,hl⟩,h⟩
  .exact⟨a,rfl,.inl ⟨⟨xs,gx.of ha⟩,λsz=>k _ H1 _ n1 x1 g1 (λH2 x2=>(h H2 x2).2) (by rw[kJ,<- hl];exact sz a xs (.inl ha)) q⟩⟩
  .exact⟨a,rfl,.inr ⟨⟨xs,jt.of ha⟩,λsz=>k _ H1 _ n1 x1 g1 (λH2 x2=>(h H2 x2).2) (by rw[kJ,<- hl];exact sz a xs (.inr ha)) q⟩⟩⟩⟩
theorem Je (lo:Int)(n:Nat):(rD lo n).length=n:=by simp[rD]
theorem rE (hm:X.mg "range" = none)(h:KE X M a u)(hs:fk a=true:=by rfl)(hg:Gl X "range" := by rfl):KJ X M tg (.Call (.Name "range" p) [a] [] pos) (Mk u) :=
 ⟨_,xZ hg hm (iS h.run fN hs),λσ H R env pn S n Q ok hu k=>⟨env,pn,S,n,_,ok,hu,λv H1 d n1 r1 x1 g1 sz q=>by
  cases d with
  | int j =>
   (have hsz:aC=16777216:=by decide);exact⟨j,by rw[r1.fg],q.1.1,by have:=q.1.2;omega,k _ H1 _ n1 x1 g1 (λH2 _=>Jb) (by rw[Je,hsz];have:=q.1.2;omega) q.2⟩
  | _=>exact False.elim q⟩⟩
theorem EW {K:W.Frag}{d:ae}{v:V}{ds:List ae}(e:kf d=some ds){S:List Addr}{H:Hp}(r:eU S H d v):∃a,v=.ref a /\
  (((∃xs,H a=some (.lst xs))/\∀S2 H2,(∀q∈[(d,v)],eU S2 H2 q.1 q.2)->Bu S2 (Lf K a) ds H2/\Bu S2 (Td K a) (ko ds) H2)\/((∃xs,H a=some (.tup xs))/\∀S2 H2,(∀q∈[(d,v)],eU S2 H2 q.1 q.2)->Bu S2 (Lg K a) ds H2/\Bu S2 (S3 K a) (ko ds) H2)):=by
 cases d with
 | tuple es =>
  cases e;obtain⟨a,xs,rfl,ha,rs⟩:=r.fX;refine⟨a,rfl,.inr ⟨⟨xs,ha⟩,λS2 H2 h=>?_⟩⟩;obtain⟨a',tU,e',lL,CL⟩:=(h _ (ap.mpr rfl)).fX;cases e';exact⟨Dt lL CL,Bw lL CL⟩
 | list es =>
  cases e;obtain⟨a,xs,rfl,ha,_,rs⟩:=r.fA;refine⟨a,rfl,.inl ⟨⟨xs,ha⟩,λS2 H2 h=>?_⟩⟩;obtain⟨a',tU,e',lL,_,CL⟩:=(h _ (ap.mpr rfl)).fA;cases e';exact⟨zS lL CL,Bx lL CL⟩
 | _=>cases e
theorem By (h:KE X M e u):KI X M tg e (EV u):=⟨_,Du h.run,λσ H R env pn S n Q ok hu k=>⟨env,pn,S,n,_,ok,hu,λv H1 d n1 r1 x1 g1 sz q=>by
 obtain⟨ds,e,q⟩:=q;have kr:=(ok.step x1 g1).Ds r1;obtain⟨a,rfl,h⟩:=EW (K:=X.K) e r1;rcases h with⟨⟨xs,ha⟩,h⟩ | ⟨⟨xs,ha⟩,h⟩
 .exact⟨a,rfl,.inl ⟨⟨xs,gx.of ha⟩,k _ H1 ds env S n1 [_] kr (λS2 H2 hh=>(h S2 H2 hh).1) q⟩⟩
 .exact⟨a,rfl,.inr ⟨⟨xs,jt.of ha⟩,k _ H1 ds env S n1 [_] kr (λS2 H2 hh=>(h S2 H2 hh).1) q⟩⟩⟩⟩
theorem Qf (hm:X.mg "enumerate" = none)(h:KE X M a u)(hs:fk a=true:=by rfl)(hg:Gl X "enumerate" := by rfl):KI X M (.Tuple sC k rq) (.Call (.Name "enumerate" p) [a] [] pos) (Wt u) :=
 ⟨_,Jd hg hm (iS h.run fN hs),λσ H R env pn S n Q ok hu k=>⟨env,pn,S,n,_,ok,hu,λv H1 d n1 r1 x1 g1 sz q=>by
  obtain⟨ds,e,q⟩:=q;have kr:=(ok.step x1 g1).Ds r1;obtain⟨a,rfl,h⟩:=EW (K:=X.K) e r1;rcases h with⟨⟨xs,ha⟩,h⟩ | ⟨⟨xs,ha⟩,h⟩
  .exact⟨a,rfl,.inl ⟨⟨xs,gx.of ha⟩,k _ H1 _ env S n1 [_] kr (λS2 H2 hh=>(h S2 H2 hh).2) q⟩⟩
  .exact⟨a,rfl,.inr ⟨⟨xs,jt.of ha⟩,k _ H1 _ env S n1 [_] kr (λS2 H2 hh=>(h S2 H2 hh).2) q⟩⟩⟩⟩
theorem uI (hm:X.mg "range" = none)(h:KE X M a u)(hs:fk a=true:=by rfl)(hg:Gl X "range" := by rfl):KI X M tg (.Call (.Name "range" p) [a] [] pos) (Tz u) :=
 ⟨_,xZ hg hm (iS h.run fN hs),λσ H R env pn S n Q ok hu k=>⟨env,pn,S,n,_,ok,hu,λv H1 d n1 r1 x1 g1 sz q=>by
  cases d with
  | int j=>exact⟨j,by rw[r1.fg],q.1,q.2.1,k _ H1 _ env S n1 [] (ok.step x1 g1) (λS2 H2 _=>Jb) q.2.2⟩
  | _=>exact False.elim q⟩⟩
theorem NM (i:Nat)(hN:X.N[i]? = some x:=by rfl)(hv:Az X.env.scope x:=by (first | exact Or.inl rfl | exact Or.inr (Or.inl rfl) | exact Or.inr (Or.inr rfl)))(hd:(x == (!17))=false:=by decide)
  (mY:(x == (!22))=false:=by decide):KI X M tg (.Name x pos) (Jc i):=⟨_,Du (qv i hN hv hd mY),λσ H R env pn S n Q ok hu k=>by
 unfold Jc at hu;split at hu
 .rename_i ds he
  obtain⟨v,hv,r⟩:=ok.val i _ he;obtain⟨a,xs,rfl,ha,rs⟩:=eU.fX r;refine⟨_,hv,a,rfl,.inr ⟨⟨xs,jt.of ha⟩,k _ H ds env S n [(.tuple ds,.ref a)] (ok.Ds r) (λS2 H2 hh=>?_) hu⟩⟩;obtain⟨a',tU,e',lL,CL⟩:=(hh _ (ap.mpr rfl)).fX;cases e';exact Dt lL CL
 .rename_i ds he
  obtain⟨v,hv,r⟩:=ok.val i _ he;obtain⟨a,xs,rfl,ha,_,rs⟩:=eU.fA r;refine⟨_,hv,a,rfl,.inl ⟨⟨xs,gx.of ha⟩,k _ H ds env S n [(.list ds,.ref a)] (ok.Ds r) (λS2 H2 hh=>?_) hu⟩⟩;obtain⟨a',tU,e',lL,_,CL⟩:=(hh _ (ap.mpr rfl)).fA;cases e';exact zS lL CL
 .rename_i ds he
  obtain⟨a,xs,S',hv,ha,r,lA⟩:=ok.freeze he;refine⟨_,hv,a,rfl,.inl ⟨⟨xs,gx.of ha⟩,k _ H ds _ S' n [(.list ds,.ref a)] (lA.Ds r) (λS2 H2 hh=>?_) hu⟩⟩;obtain⟨a',tU,e',lL,_,CL⟩:=(hh _ (ap.mpr rfl)).fA;cases e';exact zS lL CL
 .exact hu.elim⟩
end
noncomputable def dJ (u w:US):US:=λE env n=>u { E with nx:=w E } env n
noncomputable def Bz (u w:US):US:=λE env n=>∃C:fC->Int->Prop,u { E with nx:=C } env n/\∀eL n',C eL n'->w E eL n'
noncomputable def fq:US:=λE env n=>E.nx env n
noncomputable def fw (c:UT)(u w:US):US:=λE env n=>c env n λb n1=>if b=true then u E env n1 else w E env n1
noncomputable def eJ (u:UX):US:=λE env n=>u env n E.rt
noncomputable def oI (i:Nat):US:=λE env n=>match env[i]? with | some (some (.s d))=>E.rt d n | some (some (.o ds))=>E.rt (.list ds) n | some (some (.d _ t kvs))=>E.rt (f6 t kvs) n | _=>False
noncomputable def d7 (i:Nat)(u:UX):US:=λE env n=>u env n λd n1=>E.nx (env.set i (some (.s d))) n1
noncomputable def oJ (i:Nat)(u:fC->Int->(List ae->Int->Prop)->Prop):US:=λE env n=>u env n λds n1=>E.nx (env.set i (some (.o ds))) n1
noncomputable def Qg (u:UX)(g:UG):US:=λE env n=>u env n λd n1=>g d env λeL=>E.nx eL n1
section
variable {X:Cx}{M:Fr}{st:Stmt}{LV body SN:List Stmt}{u w:US}{e c tg iter a b:Expr}{ue ua ub:UX}{uc:UT}{pos:Pos}
theorem KS.of (h:QS X st t)(k:∀D σ H env pn S n E,dZ M env pn σ S H n->u E env n->(∀eL σ' S' H' n',dZ M eL pn σ' S' H' n'->E.nx eL n'->D.nx σ' H')->(∀v H' d n',eU M.S0 H' d v->Ext M.gs M.H0 H'->M.G H' n'->E.rt d n'->D.rt v H')->t D σ H):KS X M st u :=
 ⟨h.weaken λD σ H h=>EI h λenv pn S n E h=>k D σ H env pn S n E h.1 h.2.1 h.2.2.1 h.2.2.2⟩
theorem fE:zK X M [] fq:=⟨uz.weaken λD σ H h=>EI h λenv pn S n E h=>h.2.2.1 _ _ _ _ _ h.1 h.2.1⟩
theorem dO (h:KS X M st u):zK X M [st] u:=⟨i7 h.run⟩
theorem dW (h:KS X M st u)(hr:zK X M LV w):zK X M (st::LV) (dJ u w):=⟨(fO h.run hr.run).weaken λD σ H h=>EI h λenv pn S n E h =>
 ⟨env,pn,S,n,_,h.1,h.2.1,λeL σ' S' H' n' lA q=>⟨eL,pn,S',n',E,lA,q,h.2.2.1,h.2.2.2⟩,h.2.2.2⟩⟩
theorem EX (h:KS X M st u)(hr:zK X M LV w):zK X M (st::LV) (Bz u w):=⟨(fO h.run hr.run).weaken λD σ H h=>EI h λenv pn S n E h=>Exists.elim h.2.1 λC hC =>
 ⟨env,pn,S,n,_,h.1,hC.1,λeL σ' S' H' n' lA q=>⟨eL,pn,S',n',E,lA,hC.2 _ _ q,h.2.2.1,h.2.2.2⟩,h.2.2.2⟩⟩
theorem kO (hc:KB X M c uc)(ha:zK X M body u)(hb:zK X M SN w):KS X M (.If c body SN pos) (fw uc u w):=.of (EB hc.run ha.run hb.run) λD σ H env pn S n E ok hu k1 k2 =>
 ⟨env,pn,S,n,_,ok,hu,λb H1 n1 x1 g1 q=>by
  cases b with
  | true=>exact⟨env,pn,S,n1,E,ok.step x1 g1,q,k1,k2⟩
  | false=>exact⟨env,pn,S,n1,E,ok.step x1 g1,q,k1,k2⟩⟩
theorem eR (h:KE X M e ue):KS X M (.Return (some e) pos) (eJ ue):=.of (nc h.run) λD σ H env pn S n E ok hu k1 k2 =>
 ⟨env,pn,S,n,_,ok,hu,λv H1 d n1 r1 x1 g1 _ q=>k2 v H1 d n1 (r1.less ok.s0) (ok.step x1 g1).ext g1 q⟩
theorem Dw (i:Nat)(hN:X.N[i]? = some x:=by rfl)(hv:Az X.env.scope x:=by (first | exact Or.inl rfl | exact Or.inr (Or.inl rfl) | exact Or.inr (Or.inr rfl)))(hd:(x == (!17))=false:=by decide)
  (mY:(x == (!22))=false:=by decide):KS X M (.Return (some (.Name x iQ)) pos) (oI i):=.of (nc (qv i hN hv hd mY)) λD σ H env pn S n E ok hu k1 k2=>by
 unfold oI at hu;split at hu
 .rename_i d he
  obtain⟨v,hv,r⟩:=ok.val i _ he;exact⟨v,hv,k2 v H d n (eU.less ok.s0 r) ok.ext ok.gd hu⟩
 .rename_i ds he
  obtain⟨v,hv,a,xs,rfl,ha,r,hs,h0⟩:=ok.val i _ he;exact⟨_,hv,k2 _ H _ n (.lst ha (λz=>M.xn a z h0) (r.less ok.s0)) ok.ext ok.gd hu⟩
 .rename_i a t kvs he
  obtain⟨v,hv,rfl,xs,ha,r,hk,hs,h0⟩:=ok.val i _ he;exact⟨_,hv,k2 _ H _ n (.Ro ha (λz=>M.xn a z h0) hk (r.less ok.s0)) ok.ext ok.gd hu⟩
 .exact hu.elim
theorem TB (hN:X.N.Nodup)(hx:Loc X.env.scope x)(h:KE X M e ue)(hi:X.N[i]? = some x:=by rfl)(hs:swapsWith e (some (.Name x iQ)) pos.line X.env=pure false:=by rfl)
  (hf:X.fn x=true\/X.env.scope.names.lookup x=some .local:=by (first | exact .inl rfl | exact .inr rfl | assumption)) (hfd:i ∉ M.fd:=by decide):KS X M (.Assign [.Name x iQ] e pos) (d7 i ue):=.of (j8 hN hi hx h.run hs hf) λD σ H env pn S n E ok hu k1 k2 =>
 ⟨env,pn,S,n,_,ok,hu,λv H1 d n1 r1 x1 g1 _ q=>k1 _ _ _ _ _ ((ok.step x1 g1).set r1 hfd) q⟩
theorem TF (hN:X.N.Nodup)(hx:Loc X.env.scope x)(h:KN X M e un)(hi:X.N[i]? = some x:=by rfl)(hs:swapsWith e (some (.Name x iQ)) pos.line X.env=pure false:=by rfl)
  (hf:X.fn x=true\/X.env.scope.names.lookup x=some .local:=by (first | exact .inl rfl | exact .inr rfl | assumption)) (hfd:i ∉ M.fd:=by decide):KS X M (.Assign [.Name x iQ] e pos) (oJ i un):=.of (j8 hN hi hx h.run hs hf) λD σ H env pn S n E ok hu k1 k2 =>
 ⟨env,pn,S,n,_,ok,hu,λa xs H1 ds n1 h0 h1 r1 x1 g1 _ q=>k1 _ _ _ _ _ (ok.Tv h0 h1 r1 x1 g1 hfd) q⟩
theorem TH (he:KE X M e ue)(hg:KG X M tg g)(hs:swapsWithSole [tg] e pos.line X.env=pure false:=by rfl)(hw:swappedStores [tg] e X.env=pure none:=by rfl)
  (h1:(assignEach [tg] X.env).map (·.2)=[assign tg X.env]:=by rfl):KS X M (.Assign [tg] e pos) (Qg ue g):=.of (u9 he.run hg.run hs hw h1) λD σ H env pn S n E ok hu k1 k2 =>
 ⟨env,pn,S,n,_,ok,hu,λv H1 d n1 r1 x1 g1 _ q=>⟨env,pn,S,n1,d,_,ok.step x1 g1,r1,q,λeL σ' lA q'=>k1 _ _ _ _ _ lA q'⟩⟩
noncomputable def gU (ug:UG)(ub:US)(E:rA):List ae->fC->Int->Prop
 | [],env,n=>E.nx env n
 | d::ds,env,n=>ug d env λeL=>ub { nx:=gU ug ub E ds,rt:=E.rt } eL n
noncomputable def jV (ui:UI)(ug:UG)(ub:US):US:=λE env n=>ui env n λits Jf n1=>gU ug ub E its Jf n1
noncomputable def sG (c:UT)(ub:US):US:=λE env n=>∃W:Nat->fC->Int->Prop,(∃m,W m env n)/\∀m env n,W m env n->c env n λb n1=>if b=true then ub { nx:=λeL n'=>∃m',m' < m/\W m' eL n',rt:=E.rt } env n1 else E.nx env n1
theorem mJ (hp:PassesOwn (!11) X.A X.env X.xe)(hc:X.calm=true)(hi:KI X M tg iter ui)(hg:KG X M tg ug)(hb:zK X M body u)(hs:∀x,foldedSetIterable iter X.env x=pure x:=by rw[31]):KS X M (.For tg iter body [] pos) (jV ui ug u):=by
 obtain⟨wi,qi,NN⟩:=hi.ex;refine .of (C7 hp hc qi hg.run hb.run hs) λD σ H env pn S n E ok hu k1 k2=>NN σ H _ env pn S n _ ok hu λJ H1 its Jf S1 n1 p kr hJ q=>?_;refine⟨λi m σ' H'=>m=its.length - i/\i<=its.length/\∃eL S' n',dZ M eL (p++pn) σ' S' H' n'/\gU ug u E (its.drop i) eL n',⟨its.length,!4,bZ _,Jf,S1,n1,kr,q⟩,?_⟩;rintro i m σ' H' ⟨rfl,Ml,eL,S',n',lA,q'⟩;have it:=hJ S' H' λr hr=>lA.pin r (br _ hr);by_cases lB:i<its.length
 .refine .inr ⟨it.go i lB,λσ2 H2=>∃Dx S2 n2,dZ M Dx (p++pn) σ2 S2 H2 n2/\gU ug u E (its.drop (i+1)) Dx n2,λσ2 H2 h=>⟨its.length - (i+1),!1,rfl,lB,h⟩,λx H2 hy=>?_⟩
  obtain⟨d,hd,x2,rd⟩:=it.KH i x H2 lB hy
  have e:its.drop i=d::its.drop (i+1):=by
   rw[bI lB];congr;exact (aG.mp hd).2
  rw[e] at q';have tW:=lA.step (x2.mono (!4)) (M.jS lA.gd x2 (!4));exact⟨eL,p++pn,S',n',d,_,tW,rd,q',λGv σ3 NJ q3=>⟨Gv,p++pn,S',n',_,NJ,q3,λWx σ4 S4 H4 n4 Z7 q4=>⟨Wx,S4,n4,Z7,q4⟩,k2⟩⟩
 .refine .inl ⟨it.stop i (!1),?_⟩
  rw[bV (!1)] at q';exact k1 _ _ _ _ _ (lA.pins λr hr=>be _ hr) q'
theorem EY (hp:PassesOwn (!11) X.A X.env X.xe)(hc:KB X M c uc)(hb:zK X M body u):KS X M (.While c body [] pos) (sG uc u) :=
 .of (Ip hp hc.run hb.run) λD σ H env pn S n E ok ⟨W,⟨m,hm⟩,hW⟩ k1 k2=>by
  refine⟨λm σ' H'=>∃eL S' n',dZ M eL pn σ' S' H' n'/\W m eL n',⟨m,env,S,n,ok,hm⟩,?_⟩;rintro m σ' H' ⟨eL,S',n',lA,hw⟩;refine⟨eL,pn,S',n',_,lA,hW m eL n' hw,λb H1 n1 x1 g1 q=>?_⟩
  cases b with
  | true=>exact⟨λσ2 H2=>∃m',m' < m/\∃Dx S2 n2,dZ M Dx pn σ2 S2 H2 n2/\W m' Dx n2,λσ2 H2 h=>h,eL,pn,S',n1,_,lA.step x1 g1,q,λDx σ2 S2 H2 n2 tW ⟨m',Pw,TJ⟩=>⟨m',Pw,Dx,S2,n2,tW,TJ⟩,k2⟩
  | false=>exact k1 _ _ _ _ _ (lA.step x1 g1) q
end
noncomputable def jw (mp:List (Option Nat))(env:fC):fC:=mp.map λo=>match o with | none=>none | some i=>(env[i]?).join
noncomputable def Fr.sub (M:Fr)(fd:List Nat):Fr:={ M with fd:=fd }
noncomputable def fm (ug:UG)(uc:UT)(ue:UX)(Q:List ae->Int->Prop):List ae->List ae->fC->Int->Prop
 | [],acc,_,n=>Q acc n
 | d::ds,acc,env,n=>ug d env λeL=>uc eL n λb n1=>if b=true then ue eL n1 λy n2=>fm ug uc ue Q ds (acc++[y]) eL n2 else fm ug uc ue Q ds acc eL n1
noncomputable def e9 (ui:UJ)(mp:List (Option Nat))(ug:UG)(uc:UT)(ue:UX):fC->Int->(List ae->Int->Prop)->Prop:=λenv n Q=>ui env n λits n1=>fm ug uc ue Q its [] (jw mp env) n1
noncomputable def kB:UT:=λ_ n Q=>Q true n
structure KK (X:Cx) (M:Fr) (qY:List Expr) (u:UT):Prop where run:QK X qY (liftT M u)
section
theorem dZ.oA (ok:dZ M env pn σ S H n)(hfd:∀j∈fd,∃i∈M.fd,mp[j]? = some (some i))(Hl:(mp.filterMap id).Nodup):dZ (M.sub fd) (jw mp env) pn (oA mp σ) S H n:=by
 have at':∀(j:Nat) (e:Ent),(jw mp env)[j]? = some (some e)->∃i,mp[j]? = some (some i)/\env[i]? = some (some e):=λj e he=>by
  unfold jw at he;rw[az] at he
  cases hm:mp[j]? with
  | none=>rw[hm] at he;cases he
  | some o =>
   rw[hm] at he
   cases o with
   | none=>cases he
   | some i =>
    refine⟨i,rfl,?_⟩;have Gw:(env[i]?).join=some e:=Option.some.inj he
    cases hv:env[i]? with
    | none=>rw[hv] at Gw;cases Gw
    | some z=>rw[hv] at Gw;exact congrArg some (show z=some e from Gw)
 have Wy:∀(j i:Nat) (v:V),mp[j]? = some (some i)->σ[i]? = some (some v)->(L2.oA mp σ)[j]? = some (some v):=λj i v h1 h2=>by
  unfold L2.oA;rw[az,h1];simp[h2]
 have Wz:∀(j i:Nat) (v:V),mp[j]? = some (some i)->(L2.oA mp σ)[j]? = some (some v)->σ[i]? = some (some v):=λj i v h1 h2=>by
  unfold L2.oA at h2;rw[az,h1] at h2;have Gw:(σ[i]?).join=some v:=Option.some.inj h2
  cases hv:σ[i]? with
  | none=>rw[hv] at Gw;cases Gw
  | some z=>rw[hv] at Gw;exact congrArg some (show z=some v from Gw)
 refine⟨λj e he=>?_,λj k ds es a h1 h2 h3 h4=>?_,by simp[jw,L2.oA],λj hj=>?_,ok.gd,ok.ext,ok.s0,ok.sn,ok.has,ok.pin⟩
 .obtain⟨i,hm,hv⟩:=at' j e he
  obtain⟨v,EU,r⟩:=ok.val i e hv;exact⟨v,Wy j i v hm EU,r⟩
 .obtain⟨i,hm,hv⟩:=at' j _ h1
  obtain⟨i2,EG,AA⟩:=at' k _ h2;have e:=ok.ne i i2 _ _ a hv AA (Wz _ _ _ hm h3) (Wz _ _ _ EG h4);subst e;have hj:j<mp.length:=(aG.mp hm).1;have hk:k<mp.length:=(aG.mp EG).1;clear h1 h2 h3 h4 at' Wy Wz hfd
  induction mp generalizing j k with
  | nil=>cases hm
  | cons o mp ih =>
   have nd:∀{i:Nat},i∈mp.filterMap id->o≠some i:=λ{i} hi z=>by
    subst z;simp only[cu,id] at Hl;exact (bj.mp Hl).1 hi
   have WA:(mp.filterMap id).Nodup:=by
    cases o with
    | none=>simpa using Hl
    | some z=>simp only[cu,id] at Hl;exact (bj.mp Hl).2
   have mem:∀{k:Nat},mp[k]? = some (some i)->i∈mp.filterMap id:=λ{k} hk=>c7.mpr ⟨some i,bG hk,rfl⟩
   cases j with
   | zero=>cases k with
    | zero=>rfl
    | succ k =>
     have h1:o=some i:=by simpa using hm
     have h2:mp[k]? = some (some i):=by simpa using EG
     exact absurd h1 (nd (mem h2))
   | succ j=>cases k with
    | zero =>
     have h1:o=some i:=by simpa using EG
     have h2:mp[j]? = some (some i):=by simpa using hm
     exact absurd h1 (nd (mem h2))
    | succ k=>rw[ih WA j k (by simpa using hm) (by simpa using EG) (by simpa using hj) (by simpa using hk)]
 .obtain⟨i,hi,hm⟩:=hfd j hj
  exact Wy j i _ hm (ok.Dq i hi)
theorem iE:KK X M [] kB:=⟨⟨λpins s σ H Q I h=>EI h λenv pn S n R h=>PM.run pins s σ H Q I (h.2.2 true H n (!27) h.1.gd h.2.1)⟩⟩
theorem jA (h:KB X M c uc):KK X M [c] uc:=⟨C6 h.run⟩
theorem zT (NN:∀σ H R env pn S n Q,dZ M env pn σ S H n->ui env n Q ->
  (∀J H' its n',Ext M.gs H H'->M.G H' n'->(∀H2,Ext M.gs H' H2->Bu S J its H2)->its.length<=aC->Q its n'->R J H')->wi σ H R)
  (hfd:∀j∈fd,∃i∈M.fd,mp[j]? = some (some i)) (Hl:(mp.filterMap id).Nodup) (ok:dZ M env pn σ S H n) (hu:e9 ui mp ug uc ue env n Q)
  (k:∀ys H' ds n',dP S H' ds ys->Ext M.gs H H'->M.G H' n'->Q ds n'->R ys H'):xX wi mp (NL (M.sub fd) ug) (liftT (M.sub fd) uc) (Th (M.sub fd) ue) σ H R:=by
 refine NN σ H _ env pn S n _ ok hu λJ H1 its n1 x1 g1 hJ hl q=>?_;have kr:=ok.step x1 g1
 refine⟨λi m ys σ' H'=>m=its.length - i/\i<=its.length/\∃eL n' acc,dZ (M.sub fd) eL pn σ' S H' n'/\dP S H' acc ys/\acc.length<=i/\Ext M.gs H1 H'/\fm ug uc ue Q (its.drop i) acc eL n',
  ⟨its.length,!4,bZ _,_,n1,[],kr.oA hfd Hl,.nil,aw _,.refl _ _,q⟩,?_⟩
 rintro i m ys σ' H' ⟨rfl,Ml,eL,n',acc,lA,ra,ha,x',q'⟩;have it:=hJ H' x';by_cases lB:i<its.length
 .refine .inr ⟨it.go i lB,by rw[ra.length];omega,λx H2 hy=>?_⟩
  obtain⟨d,hd,x2,rd⟩:=it.KH i x H2 lB hy
  have e:its.drop i=d::its.drop (i+1):=by
   rw[bI lB];congr;exact (aG.mp hd).2
  rw[e] at q';have tW:dZ (M.sub fd) eL pn σ' S H2 n':=lA.step (x2.mono (!4)) (M.jS lA.gd x2 (!4));refine⟨eL,pn,S,n',d,_,tW,rd,q',λGv σ3 NJ q3=>⟨Gv,pn,S,n',_,NJ,q3,λb H4 n4 x4 g4 q4=>?_⟩⟩;have U8:Ext M.gs H' H4:=(x2.mono (!4)).trans x4
  cases b with
  | true=>exact⟨Gv,pn,S,n4,_,NJ.step x4 g4,q4,λy H5 dy n5 r5 x5 g5 _ q5=>⟨its.length - (i+1),!1,rfl,lB,Gv,n5,acc++[dy],(NJ.step x4 g4).step x5 g5,(ra.ext ((U8.trans x5).mono ok.sE)).append (.cons r5 .nil),by simp;omega,x'.trans (U8.trans x5),q5⟩⟩
  | false=>exact⟨its.length - (i+1),!1,rfl,lB,Gv,n4,acc,NJ.step x4 g4,ra.ext (U8.mono ok.sE),!1,x'.trans U8,q4⟩
 .refine .inl ⟨it.stop i (!1),by rw[ra.length];omega,?_⟩
  rw[bV (!1)] at q';exact k ys H' acc n' ra (x1.trans x') lA.gd q'
theorem fU (fd:List Nat)(hc:X.calm=true)(hi:KJ X M tg iter ui)(hk:sc.kind=.function)(hm:iR X.N X.env.scope sc N mp=true)
  (hb:∀(cl:List (Str × Addr)) (C:Addr) (s₂:aA) (H₂:Hp) (fp:List Addr),KG (!15) (M.sub fd) tg ug/\KK (!15) (M.sub fd) qY uc/\KE (!15) (M.sub fd) sk ue)
  (hfd:∀j∈fd,∃i∈M.fd,mp[j]? = some (some i):=by decide) (Hl:(mp.filterMap id).Nodup:=by decide) (hs:∀x,foldedSetIterable iter X.env x=pure x:=by rw[31]):KN X M (.ListComp sk [⟨tg,iter,qY,0⟩] sc pos) (e9 ui mp ug uc ue):=by
 obtain⟨wi,qi,NN⟩:=hi.ex;refine .of (zD hc qi hk hm (λcl C s₂ H₂ fp=>⟨(!36).1.run,(!36).2.1.run,(!36).2.2.run⟩) hs) λσ H R env pn S n Q ok hu k=>?_;refine zT NN hfd Hl ok hu λys H' ds n' r x g q D hD=>?_;have lA:=ok.step x g
 have WB:H D=none:=by
  by_cases z:D∈M.gs
  .exact absurd hD (M.xm g D z)
  .exact x.fresh z hD
 exact k D ys _ ds n' WB dQ ((r.fresh hD).ext (.new hD)) (x.trans (.new hD)) (M.jS g (.new (S:=[]) hD) (!4)) q
theorem zU (own:Bool)(fd:List Nat)(hN:X.N.Nodup)(hc:X.calm=true)(hi:KJ X M tg iter ui)(hk:sc.kind=.function)(hm:iR X.N X.env.scope sc N mp=true)
  (hb:∀(cl:List (Str × Addr)) (C:Addr) (s₂:aA) (H₂:Hp) (fp:List Addr),KG (!15) (M.sub fd) tg ug/\KK (!15) (M.sub fd) qY uc/\KE (!15) (M.sub fd) sk ue)
  (LN:X.N[i]? = some x:=by rfl) (hx:X.env.scope.names.lookup x=some .local:=by rfl)
  (hfd:∀j∈fd,∃i∈M.fd,mp[j]? = some (some i):=by decide) (Hl:(mp.filterMap id).Nodup:=by decide) (hfi:i ∉ M.fd:=by decide)
  (SG:swapsWith (.ListComp sk [⟨tg,iter,qY,0⟩] sc pos) (some (.Name x py)) spos.line X.env=pure true:=by rfl) (hs:∀x,foldedSetIterable iter X.env x=pure x:=by rw[31]) :
  KS X M (.Assign [.Name x py] (.ListComp sk [⟨tg,iter,qY,0⟩] sc pos) spos) (if own then oJ i (e9 ui mp ug uc ue) else d7 i (uL (e9 ui mp ug uc ue))):=by
 obtain⟨wi,qi,NN⟩:=hi.ex;have q:=LX (i:=i) (py:=py) (spos:=spos) (pos:=pos) hN LN hx hc qi hk hm (λcl C s₂ H₂ fp=>⟨(!36).1.run,(!36).2.1.run,(!36).2.2.run⟩) SG hs
 cases own with
 | true =>
  refine .of q λD σ H env pn S n E ok hu k1 k2=>zT NN hfd Hl ok hu λys H' ds n' r x g q D hD=>?_
  have WB:H D=none:=by
   by_cases z:D∈M.gs
   .exact absurd hD (M.xm g D z)
   .exact x.fresh z hD
  exact k1 _ _ _ _ _ (ok.Tv WB dQ ((r.fresh hD).ext (.new hD)) (x.trans (.new hD)) (M.jS g (.new (S:=[]) hD) (!4)) hfi) q
 | false =>
  refine .of q λD σ H env pn S n E ok hu k1 k2=>zT NN hfd Hl ok hu λys H' ds n' r x g q D hD=>?_;have lA:=ok.step x g;exact k1 _ _ _ _ _ ((lA.step (.new hD) (M.jS g (.new (S:=[]) hD) (!4))).set (uH lA.has hD r) hfi) q
end
noncomputable def ku (i:Nat)(f:List ae->List ae->Option (List ae))(ua:UA):US:=λE env n=>match env[i]? with | some (some (.o ds))=>ua env n λas n1=>qR (f ds as) λvq=>E.nx (env.set i (some (.o vq))) n1 | _=>False
noncomputable def ja (ds as:List ae):Option (List ae):=match as with | [d]=>if ds.length<aC then some (ds++[d]) else none | _=>none
noncomputable def lM (ds as:List ae):Option (List ae):=match as with | [.tuple es]=>if ds.length+es.length<=aC then some (ds++es) else none | [.list es]=>if ds.length+es.length<=aC then some (ds++es) else none | _=>none
structure WC (X:Cx) (id:String) (f:List ae->List ae->Option (List ae)):Prop where
 ex:∃r,Hf X id r/\∀S H a xs ds as vs vq (R:VK),H a=some (.lst xs)->dP S H ds xs->dP S H as vs->f ds as=some vq->(∀ys v,dP S H vq ys->R v (fz H a (.lst ys)))->r (.ref a) vs H R
section
variable {X:Cx}{M:Fr}{e o:Expr}{es:List Expr}{ua:UA}{pos i6 hV:Pos}{name:Str}{id:String}{f:List ae->List ae->Option (List ae)}
theorem oK:WC X "list.append" ja:=⟨_,FW,λS H a xs ds as vs vq R ha r ra e k=>by
 obtain⟨d,rfl⟩:∃d,as=[d]:=by
  unfold ja at e;split at e
  .exact⟨_,rfl⟩
  .cases e
 simp only[ja] at e;split at e
 .rename_i hl
  cases e;obtain⟨v,t,rfl,r1,r2⟩:=ra.of_cons;cases r2.fI;exact⟨a,xs,v,rfl,rfl,ha,by rw[r.length];exact hl,k _ _ (r.append (.cons r1 .nil))⟩
 .cases e⟩
theorem Jg:WC X "list.extend" lM:=⟨_,Hf.or (FX (X:=X)) (C' X.K),λS H a xs ds as vs vq R ha r ra e k=>by
 obtain⟨es,h⟩:∃es,as=[.tuple es]\/as=[.list es]:=by
  unfold lM at e;split at e
  .exact⟨_,.inl rfl⟩
  .exact⟨_,.inr rfl⟩
  .cases e
 rcases h with rfl | rfl
 .simp only[lM] at e
  split at e
  .rename_i hl
   cases e;obtain⟨v,t,rfl,r1,r2⟩:=ra.of_cons;cases r2.fI;obtain⟨b,ys,rfl,hb,rb⟩:=r1.fX;exact .inr ⟨a,b,xs,ys,rfl,rfl,ha,jt.of hb,by rw[r.length,rb.length];exact hl,k _ _ (r.append rb)⟩
  .cases e
 .simp only[lM] at e
  split at e
  .rename_i hl
   cases e;obtain⟨v,t,rfl,r1,r2⟩:=ra.of_cons;cases r2.fI;obtain⟨b,ys,rfl,hb,_,rb⟩:=r1.fA;exact .inl ⟨a,b,xs,ys,rfl,rfl,ha,hb,by rw[r.length,rb.length];exact hl,k _ _ (r.append rb)⟩
  .cases e⟩
theorem sH (i:Nat)(pa:PlainAttrs "list")(slot:Slot "list" name id)(HU:typeOf (.builtin id)=pure (.type "method_descriptor"))(hm:WC X id f)(ha:KA X M (e::es) ua)
  (hN:X.N[i]? = some x:=by rfl) (hv:Az X.env.scope x:=by (first | exact Or.inl rfl | exact Or.inr (Or.inl rfl) | exact Or.inr (Or.inr rfl))) (hd:(x == (!17))=false:=by decide) (mY:(x == (!22))=false:=by decide)
  (my:attributeBase (!35) name X.env (eval (!35) X.env)=eval (!35) X.env:=by rfl) (hl:decide ((e::es).length+0+0<30)=true:=by rfl) (mz:(i6.endLine == hV.line)=true:=by rfl)
  (hs:swapsWith (.Call (.Attribute (!35) name i6) (e::es) [] hV) none pos.line X.env=pure false:=by rfl):KS X M (.Expr (.Call (.Attribute (!35) name i6) (e::es) [] hV) pos) (ku i f ua):=by
 obtain⟨r,h1,h2⟩:=hm.ex;refine .of (LW (PR X.K pa slot HU h1 (qv i hN hv hd mY) ha.run rfl my hl mz) hs) λD σ H env pn S n E ok hu k1 k2=>?_;unfold ku at hu;split at hu
 .rename_i ds he
  obtain⟨v,hv,a,xs,rfl,ha,ra,hs,h0⟩:=ok.val i _ he;refine⟨_,hv,.inl ⟨rfl,xs,gx.of ha⟩,env,pn,S,n,_,ok,hu,λvs H1 as n1 el r1 x1 g1 _ q=>?_⟩;obtain⟨vq,e',q⟩:=q;have kr:=ok.step x1 g1;obtain⟨v',EU,a',tU,Z8,lL,Yk,_,_⟩:=kr.val i _ he;subst Z8;rw[hv] at EU;cases EU;exact h2 S H1 a tU ds as vs vq _ lL Yk r1 e' λys w ry=>k1 _ _ _ _ _ (kr.put he hv lL ry) q
 .exact hu.elim
noncomputable def tG (i:Nat)(ui ue:UX):US:=λE env n=>match env[i]? with | some (some (.o ds))=>ue env n λd n1=>ui env n1 λk n2=>(match k with | .int k=>qR (CV ds.length k) λj=>E.nx (env.set i (some (.o (ds.set j d)))) n2 | _=>False) | _=>False
theorem dP.set (h:eU S H d v):∀{ds:List ae} {xs:List V} (j:Nat),dP S H ds xs->dP S H (ds.set j d) (xs.set j v)
 | [],_,j,r=>by cases r.fI;exact .nil
 | e::es,_,0,r=>by obtain⟨x,t,rfl,r1,r2⟩:=r.of_cons;exact .cons h r2
 | e::es,_,j+1,r=>by obtain⟨x,t,rfl,r1,r2⟩:=r.of_cons;exact .cons r1 (dP.set h j r2)
theorem Dy (i:Nat)(hi:KE X M ie ui)(he:KE X M e ue)
  (hN:X.N[i]? = some x:=by rfl) (hv:Az X.env.scope x:=by (first | exact Or.inl rfl | exact Or.inr (Or.inl rfl) | exact Or.inr (Or.inr rfl))) (hd:(x == (!17))=false:=by decide) (mY:(x == (!22))=false:=by decide)
  (ha:∀v,assign (.Subscript (!35) ie rq) X.env v=(do
   let ov <- holding [v] (eval (!35) X.env);let iv <- holding [v,ov] (eval ie X.env)
   standAt rq
   holding [v,ov,iv] (setItem ov iv v)
   release [v,ov,iv] []):=by rw[31])
  (hs:swapsWithSole [.Subscript (!35) ie rq] e pos.line X.env=pure false:=by rfl) (hw:swappedStores [.Subscript (!35) ie rq] e X.env=pure none:=by rfl)
  (h1:(assignEach [.Subscript (!35) ie rq] X.env).map (·.2)=[assign (.Subscript (!35) ie rq) X.env]:=by rfl):KS X M (.Assign [.Subscript (!35) ie rq] e pos) (tG i ui ue):=by
 refine .of (u9 he.run (zC (qv i hN hv hd mY) hi.run qW ha) hs hw h1) λD σ H env pn S n E ok hu k1 k2=>?_;unfold tG at hu;split at hu
 .rename_i ds TK
  refine⟨env,pn,S,n,_,ok,hu,λv H1 d n1 r1 x1 g1 _ q=>?_⟩;have kr:=ok.step x1 g1;obtain⟨v',EU,a,xs,rfl,lL,Yk,pV,h0'⟩:=kr.val i _ TK;refine⟨_,EU,env,pn,S,n1,_,kr,q,λkv H2 k n2 r2 x2 g2 _ q=>?_⟩;have tW:=kr.step x2 g2;obtain⟨v2,AA,a2,Z9,e2,Yl,Ym,_,_⟩:=tW.val i _ TK;subst e2;rw[EU] at AA;cases AA
  cases k with
  | int k =>
   obtain⟨j,hj,q⟩:=q;exact⟨a,Z9,k,j,rfl,r2.fg,Yl,by rw[Ym.length];exact hj,k1 _ _ _ _ _ (tW.put TK EU Yl (dP.set (r1.ext (x2.mono ok.sE)) j Ym)) q⟩
  | _=>exact False.elim q
 .exact hu.elim
end
noncomputable abbrev XQ:=Str->List ae->Prop
noncomputable abbrev UF:=List ae->Int->(ae->Int->Prop)->XQ->Prop
noncomputable def Gx:XQ:=λ_ _=>False
noncomputable def Rz (C:Xc)(S gs:List Addr)(H:Hp)(E:XK)(c:Str)(as:List ae):Prop:=∀(dx:Addr) (H':Hp) (vs:List V),dP S H' as vs->H' dx=some (.ext (ND dx ((C.fl c).zip vs)))->Ext gs H H'->E (.ref (C.cl c)) (some dx) H'
noncomputable def mW (C:Xc)(F:UF):Sp:=λvs H Q E=>∃S ds n Qp Xp,dP S H ds vs/\(∀a∈S,H a≠none)/\F ds n Qp Xp/\(∀d v H',eU S H' d v->Ext [] H H'->Qp d n->Q v H')/\∀c as,Xp c as->Rz C S [] H E c as
structure yu where
 jW:Hp->Addr->Addr->Int->Prop
 ext:∀{S:List Addr} {H H':Hp} {fa sa:Addr} {n:Int},jW H fa sa n->Ext S H H'->fa ∉ S->sa ∉ S->jW H' fa sa n
 fa:∀{H:Hp} {fa sa:Addr} {n:Int},jW H fa sa n->H fa≠none
 sa:∀{H:Hp} {fa sa:Addr} {n:Int},jW H fa sa n->H sa≠none
 nx:∀{H:Hp} {fa sa:Addr} {n:Int},jW H fa sa n->∀φ,H fa≠some (.ext φ)
noncomputable def xq (Y:yu)(F:UF):Sp:=λvs H Q E=>∃fa sa us S ds n Qp,vs=.ref fa::us/\Y.jW H fa sa n/\fa∈S/\dP S H ds us/\(∀a∈S,H a≠none)/\F ds n Qp Gx/\(∀d n' v H',eU S H' d v->Y.jW H' fa sa n'->Ext [fa] H H'->Qp d n'->Q v H')
noncomputable def Fr.pure (C:Xc)(n0:Int)(S:List Addr)(H:Hp)(has:∀a∈S,H a≠none):Fr where
 G:=λ_ n=>n=n0
 gs:=[]
 S0:=S
 H0:=H
 fa:=.jm
 fd:=[]
 xc:=C
 jS:=λh _ _=>h
 xm:=λ_ a h=>by cases h
 Wq:=λ_ a h=>by cases h
 Tg:=λa h=>by cases h
 xn:=has
noncomputable def Fr.feed (C:Xc)(Y:yu)(i:Nat)(fa sa:Addr)(n0:Int)(S:List Addr)(H:Hp)(hf:Y.jW H fa sa n0)(hS:fa∈S)(has:∀a∈S,H a≠none):Fr where
 G:=λH n=>Y.jW H fa sa n
 gs:=[fa]
 S0:=S
 H0:=H
 fa:=.ref fa
 fd:=[i]
 xc:=C
 jS:=λh x k=>Y.ext h x (λz=>Y.fa hf (k _ z)) (λz=>Y.sa hf (k _ z))
 xm:=λh a ha=>by have e:=ap.mp ha;subst e;exact Y.fa h
 Wq:=λh a ha=>by have e:=ap.mp ha;subst e;exact Y.nx h
 Tg:=λa ha=>by have e:=ap.mp ha;subst e;exact hS
 xn:=has
noncomputable def envOf (N:Nat)(ds:List ae):fC:=ds.map (λd=>some (.s d))++List.replicate (N - ds.length) none
noncomputable def iC (N np:Nat)(u:XQ->US):UF:=λds n Q Ex=>ds.length=np/\u Ex { nx:=λ_ n'=>Q .none n',rt:=Q } (envOf N ds) n
noncomputable def gV (N np:Nat)(u:XQ->US):UF:=λds n Q Ex=>ds.length+1=np/\u Ex { nx:=λ_ n'=>Q .none n',rt:=Q } (none::envOf (N - 1) ds) n
theorem Gy (h0:M.H0=H)(hS:M.S0=S)(r:dP S H ds vs)(hfd:M.fd=[])(g:M.G H n):dZ M (envOf N.length ds) [] (start N vs) S H n:=by
 subst h0 hS;have hl:=r.length
 have key:∀(i:Nat) (e:Ent),(envOf N.length ds)[i]? = some (some e)->∃d,ds[i]? = some d/\e=.s d:=λi e h=>by
  unfold envOf at h;by_cases hi:i<ds.length
  .rw[bH (by simpa using hi),az] at h
   cases hd:ds[i]? with
   | none=>rw[hd] at h;cases h
   | some d=>rw[hd] at h;exact⟨d,rfl,(Option.some.inj (Option.some.inj h)).symm⟩
  .rw[bP (by simp;omega),b9] at h
   split at h<;>cases h
 refine⟨λi e h=>?_,λi j a b c h1=>?_,?_,(by rw[hfd];intro i hi;cases hi),g,.refl _ _,λa h=>h,λa h=>.inl h,M.xn,λp hp=>by cases hp⟩
 .obtain⟨d,hd,rfl⟩:=key i e h
  obtain⟨v,hv,rv⟩:=r.at hd;refine⟨v,?_,rv⟩;unfold start;rw[bH (by rw[ar];exact (aG.mp hv).1),az,hv];rfl
 .obtain⟨d,_,e⟩:=key _ _ h1
  cases e
 .unfold envOf start
  simp[hl]
theorem Dz (h0:M.H0=H)(hS:M.S0=S)(r:dP S H ds vs)(hfd:M.fd=[0])(AB:M.fa=.ref fa)(hN:1<=N.length)(g:M.G H n):dZ M (none::envOf (N.length - 1) ds) [] (start N (.ref fa::vs)) S H n:=by
 subst h0 hS;have hl:=r.length
 have key:∀(i:Nat) (e:Ent),(none::envOf (N.length - 1) ds)[i]? = some (some e)->∃j d,i=j+1/\ds[j]? = some d/\e=.s d:=λi e h=>by
  cases i with
  | zero=>cases h
  | succ i =>
   rw[ac] at h;unfold envOf at h;by_cases hi:i<ds.length
   .rw[bH (by simpa using hi),az] at h
    cases hd:ds[i]? with
    | none=>rw[hd] at h;cases h
    | some d=>rw[hd] at h;exact⟨i,d,rfl,hd,(Option.some.inj (Option.some.inj h)).symm⟩
   .rw[bP (by simp;omega),b9] at h
    split at h<;>cases h
 refine⟨λi e h=>?_,λi j a b c h1=>?_,?_,?_,g,.refl _ _,λa h=>h,λa h=>.inl h,M.xn,λp hp=>by cases hp⟩
 .obtain⟨j,d,rfl,hd,rfl⟩:=key i e h
  obtain⟨v,hv,rv⟩:=r.at hd;refine⟨v,?_,rv⟩;unfold start;have hjl:j<vs.length:=(aG.mp hv).1;rw[bH (by rw[ar,ak];omega),ai,ac,az,hv];rfl
 .obtain⟨j,d,_,_,e⟩:=key _ _ h1
  cases e
 .unfold envOf start
  simp[hl];omega
 .rw[hfd,AB]
  intro i hi;have e:=ap.mp hi;subst e;unfold start;simp
section
variable {P:bf}{w:World}{K:W.Frag}{mg:Str->Option ah}{base:Heap}{f:Addr}{fd:bE}{x:Str}{gu:Str}{st:Stmt}{N ps:List Str}{k:Nat}{C:Xc}{u:XQ->US}{Y:yu}
theorem WD (F:AX K x gu st f fd)(hm:mg x=some (.ref f))(sc:gp N ps (dM st))(hb:Binds K fd ps [])
  (body:∀(fH:ah) (A:Around) (outer:List Env) (s:aA) (H:Hp) (E:XK) (n0:Int) (S:List Addr) (has:∀a∈S,H a≠none),ik k (A.deeper (envOfC gu (dM st) s.heap.objs.size f fH))->zK (pT zt P w K mg base N gu (dM st) f fH A outer s H E).FJ (Fr.pure C n0 S H has) (gK st) (u Gx)) :
  eD P w K mg base (k+1) x ps (mW C (iC N.length ps.length λ_=>u Gx)):=by
 refine⟨f,fd,F.PN sc (λvs H Q E h=>?_) (λfH A outer s H vs Q E hr h=>?_),hm,F.kp,hb⟩
 .obtain⟨S,ds,n,Qp,Xp,r,_,hF,_⟩:=h
  rw[r.length];exact hF.1
 .obtain⟨S,ds,n,Qp,Xp,r,has,hF,hq,hx⟩:=h
  refine⟨_,(body fH A outer s H E n S has hr).run,envOf N.length ds,[],S,n,_,Gy rfl rfl r rfl rfl,hF.2,λeL σ' S' H' n' ok q=>?_,λv H' d n' rv x g q=>?_⟩
  .have e:n'=n:=ok.gd
   subst e;exact hq _ _ H' .jm ok.ext q
  .have e:n'=n:=g
   subst e;exact hq d v H' rv x q
theorem WE (F:AX K x gu st f fd)(hm:mg x=some (.ref f))(sc:gp N ps (dM st))(hb:Binds K fd ps [])(hN:1<=N.length)
  (body:∀(fH:ah) (A:Around) (outer:List Env) (s:aA) (H:Hp) (E:XK) (fa sa:Addr) (n0:Int) (S:List Addr) (hf:Y.jW H fa sa n0) (hS:fa∈S) (has:∀a∈S,H a≠none),ik k (A.deeper (envOfC gu (dM st) s.heap.objs.size f fH)) ->
   zK (pT zt P w K mg base N gu (dM st) f fH A outer s H E).FJ (Fr.feed C Y 0 fa sa n0 S H hf hS has) (gK st) (u Gx)) :
  eD P w K mg base (k+1) x ps (xq Y (gV N.length ps.length λ_=>u Gx)):=by
 refine⟨f,fd,F.PN sc (λvs H Q E h=>?_) (λfH A outer s H vs Q E hr h=>?_),hm,F.kp,hb⟩
 .obtain⟨fa,sa,us,S,ds,n,Qp,rfl,_,_,r,_,hF,_⟩:=h
  rw[ak,r.length];exact hF.1
 .obtain⟨fa,sa,us,S,ds,n,Qp,rfl,fe,hS,r,has,hF,hq⟩:=h
  refine⟨_,(body fH A outer s H E fa sa n S fe hS has hr).run,none::envOf (N.length - 1) ds,[],S,n,_,Dz rfl rfl r rfl rfl hN fe,hF.2,λeL σ' S' H' n' ok q=>?_,λv H' d n' rv x g q=>?_⟩
  .exact hq _ n' _ H' .jm ok.gd ok.ext q
  .exact hq d n' v H' rv g x q
end
noncomputable def dE (F:UF)(ua:UA):UX:=λenv n Q=>ua env n λds n1=>F ds n1 Q Gx
mutual
def kx:ae->Bool
 | .list _=>false
 | .tuple ds=>kP ds
 | .dict _=>false
 | _=>true
def kP:List ae->Bool
 | []=>true
 | d::ds=>kx d && kP ds
end
mutual
theorem eU.any {S S':List Addr}{H:Hp}:∀{d:ae} {v:V},kx d=true->eU S H d v->eU S' H d v
 | .none,_,_,h=>h
 | .bool _,_,_,h=>h
 | .int _,_,_,h=>h
 | .str _,_,_,h=>h
 | .tuple ds,_,hn,h=>by
  obtain⟨a,xs,rfl,ha,r⟩:=h.fX;exact .tup ha (dP.any (by simpa [kx] using hn) r)
 | .list ds,_,hn,h=>by simp[kx] at hn
 | .dict _,_,hn,h=>by simp[kx] at hn
theorem dP.any {S S':List Addr}{H:Hp}:∀{ds:List ae} {vs:List V},kP ds=true->dP S H ds vs->dP S' H ds vs
 | [],_,_,h=>h
 | d::ds,_,hn,h=>by
  obtain⟨x,t,rfl,h1,h2⟩:=h.of_cons;simp only[kP,bn] at hn;exact .cons (eU.any hn.1 h1) (dP.any hn.2 h2)
end
noncomputable def p8 (F:UF)(ua:UA):UX:=λenv n Q=>ua env n λds n1=>F ds n1 (λd n'=>kx d=true/\Q d n') Gx
section
theorem eh (D:eD X.prog X.w X.K X.mg X.base k x ps (mW C F))(hr:ik k X.A)(ha:KA X M (e::es) ua)(hg:Gl X x:=by rfl)(tP:(x == (!17))=false:=by decide):KE X M (.Call (!35) (e::es) [] pos) (dE F ua) :=
 .of (oE D hr ha.run hg tP) λσ H R env pn S n Q ok hu k=>⟨env,pn,S,n,_,ok,hu,λvs H1 ds n1 el r1 x1 g1 _ q=>⟨S,ds,n1,Q,Gx,r1,(ok.step x1 g1).has,q,λd v H2 r2 x2 q2=>k v H2 d n1 r2 (x1.trans (x2.mono (!4))) (M.jS g1 x2 (!4)) q2,λc as z=>z.elim⟩⟩
theorem zV (D:eD X.prog X.w X.K X.mg X.base k x ps (mW C F))(hr:ik k X.A)(ha:NF X M (e::es) ua)(hg:Gl X x:=by rfl)(tP:(x == (!17))=false:=by decide):KE X M (.Call (!35) (e::es) [] pos) (p8 F ua) :=
 .of (oE D hr ha.run hg tP) λσ H R env pn S n Q ok hu k=>⟨env,pn,S,n,_,ok,hu,λvs H1 ds n1 r1 x1 g1 _ q=>⟨M.gs,ds,n1,_,Gx,r1.less ok.sE,M.xm g1,q,λd v H2 r2 x2 q2=>k v H2 d n1 (r2.any q2.1) (x1.trans (x2.mono (!4))) (M.jS g1 x2 (!4)) q2.2,λc as z=>z.elim⟩⟩
theorem fF (i:Nat){y:Str}{p2:Pos}{fa sa:Addr}(D:eD X.prog X.w X.K X.mg X.base k x ps (xq Y F))(hr:ik k X.A)(ha:KA X M es ua)
  (hG:M.G=λH n=>Y.jW H fa sa n:=by rfl) (AB:M.fa=.ref fa:=by rfl) (Qh:M.gs=[fa]:=by rfl) (hfd:i∈M.fd:=by decide)
  (hN:X.N[i]? = some y:=by rfl) (hv:Az X.env.scope y:=by (first | exact Or.inl rfl | exact Or.inr (Or.inl rfl) | exact Or.inr (Or.inr rfl))) (hd:(y == (!17))=false:=by decide) (mY:(y == (!22))=false:=by decide)
  (hg:Gl X x:=by rfl) (tP:(x == (!17))=false:=by decide):KE X M (.Call (!35) (.Name y p2::es) [] pos) (dE F ua) :=
 .of (oE D hr (iS (qv i hN hv hd mY) ha.run rfl) hg tP) λσ H R env pn S n Q ok hu k=>⟨_,ok.Dq i hfd,env,pn,S,n,_,ok,hu,λvs H1 ds n1 el r1 x1 g1 _ q=>by
  have kr:=ok.step x1 g1;refine⟨fa,sa,vs,S,ds,n1,Q,by rw[AB],by rw[hG] at g1;exact g1,ok.sE fa (by rw[Qh];simp),r1,kr.has,q,λd n2 v H2 r2 f2 x2 q2=>k v H2 d n2 r2 (x1.trans (by rw[Qh];exact x2)) (by rw[hG];exact f2) q2⟩⟩
end
section
theorem Gz (K:W.Frag)(hc:X.calm=true)(hk:X.K=K:=by rfl):gL X (.builtin "sum") (λxs H Q=>∃(p:Addr) (ns:List Int),xs=[.ref p]/\gx K H p (!21)/\(∀n∈ns,-500000000000<=n/\n<=500000000000)/\Q (.int ns.sum) H):=by
 subst hk;(intro pins s σ H xs us Q I r h);obtain⟨p,ns,rfl,hp,hb,q⟩:=h;rw[12];cases ru;obtain⟨its,rv,ht,hz⟩:=I.list hp;have hh:=I.ok.hd hc;have oo:p<s.heap.objs.size:=ht.lt;have hlen:its.toArray.size=ns.length:=by rw[aD,<- rv.length,ar]
 rw[ar] at hz;(have hsz:aC=16777216:=by decide)
 have WG:∀l:List Int,(∀n∈l,-500000000000<=n/\n<=500000000000)->-(500000000000 * (l.length:Int))<=l.sum/\l.sum<=500000000000 * l.length:=by
  intro l
  induction l with
  | nil=>intro _;simp
  | cons a l ih =>
   intro hl;have h1:=ih λn hn=>hl n (ag _ hn);have h2:=hl a (ao ..);rw[cC,ak];omega
 refine call_sum_walk (wpAny_pyIter_list ht.isList ⟨s.heap.objs.size,_,_,its.toArray.size,_,_,λa=>ns.getD a 0,rfl,Walks.list (A:=X.A.in1) hh _ p (aR oo) its.toArray,⟨⟨_,aB _ rfl,rfl,rfl⟩,ht.isList.at λo e=>aj _ e⟩,?_,?_,?_,?_⟩)
 .intro b yt
  rw[bx];rcases ax.mp yt with e | yt
  .rw[e];exact cq _
  .have e:b=p:=by simpa using yt
   rw[e];exact bO oo
 .intro a v e
  have e':its[a]? = some v:=by simpa using e
  obtain⟨x,hx,rx⟩:=rv.at' e';rw[az] at hx
  cases hn:ns[a]? with
  | none=>rw[hn] at hx;cases hx
  | some b =>
   rw[hn] at hx;cases hx;obtain⟨t,rfl⟩:=rx;refine⟨t,?_⟩;show ah.int b t=ah.int (ns.getD a 0) t;rw[au,hn];rfl
 .intro j hj
  rw[hlen] at hj
  have hm:ns.getD j 0∈ns:=by
   have:ns[j]? = some ns[j]:=by simp[hj]
   rw[au,this];exact bU hj
  have h1:=hb _ hm;have h2:=WG (ns.take (j+1)) λn hn=>hb n (List.mem_of_mem_take hn);rw[b8] at h2;show InLong (ns.getD j 0)/\InLong (preSum (λa=>ns.getD a 0) (j+1));unfold InLong;rw[jR ns (j+1) (!1)];have h3:(min (j+1) ns.length:Nat)<=16777216:=by omega
  constructor<;>constructor<;>omega
 .intro h' tk t' kp
  have I1:Inv X pins σ H { s with heap:=h',toks:=tk }:=I.kept λb o e=>kp b o (λz=>by
   have e2:b=s.heap.objs.size:=by simpa using z
   rw[e2] at e;exact absurd (aF e) (bC _)) (aj _ e)
  have e:preSum (λa=>ns.getD a 0) its.toArray.size=ns.sum:=by rw[hlen,jR ns _ (aw _),dk]
  rw[e];exact⟨.int _,H,I1,⟨_,rfl⟩,q⟩
end
section
variable {X:Cx}{M:Fr}{e a b:Expr}{u w:UX}{p p2 q2 pos:Pos}{c:String}{x:Str}
noncomputable def NO (u:UX):fC->Int->(List ae->Int->Prop)->Prop:=λenv n Q=>u env n λd n1=>qR (kf d) λds=>Q ds n1
theorem zW (ok:dZ M env pn σ S H n)(x:Ext M.gs H H')(g:M.G H' n')(h:H' l=none):H l=none:=by
 by_cases z:l∈M.gs
 .exact absurd h (M.xm g l z)
 .exact x.fresh z h
theorem Qi (hm:X.mg "list" = none)(h:KL X M e u)(hg:Gl X "list" := by rfl)(hs:fk e=true:=by rfl):KN X M (.Call (.Name "list" p) [e] [] pos) (NO u) :=
 .of (iz (Nr X.K) hg hm (!3) (iS h.run fN hs)) λσ H R env pn S n Q ok hu k=>⟨env,pn,S,n,_,ok,hu,λv H1 d n1 r1 x1 g1 _ q=>by
  obtain⟨ds,e,q⟩:=q;have fin:∀xs,dP S H1 ds xs->∀l,H1 l=none->R (.ref l) (fz H1 l (.lst xs)):=λxs rs l hl=>k l xs _ ds n1 (zW ok x1 g1 hl) dQ ((rs.fresh hl).ext (.new hl)) (x1.trans (.new hl)) (M.jS g1 (.new (S:=[]) hl) (!4)) q
  cases d with
  | tuple es =>
   cases e;obtain⟨a,xs,rfl,ha,rs⟩:=r1.fX;exact⟨a,xs,rfl,.inr (jt.of ha),fin xs rs⟩
  | list es =>
   cases e;obtain⟨a,xs,rfl,ha,rs⟩:=r1.fA;exact⟨a,xs,rfl,.inl (gx.of ha),fin xs rs⟩
  | _=>cases e⟩
noncomputable def NP (u:UX):fC->Int->(List ae->Int->Prop)->Prop:=λenv n Q=>u env n λd n1=>match d with | .int j=>(-(2 ^ 62)<=j/\j<=16777216)/\Q (rD 0 j.toNat) n1 | _=>False
theorem Jh (j:Int):dP S H (rD 0 j.toNat) (zz 0 j):=by
 unfold rD zz;rw[Int.sub_zero];generalize j.toNat=m
 induction m with
 | zero=>exact .nil
 | succ m ih =>
  rw[List.range_succ,aW,aW];exact ih.append (.cons (.int _) .nil)
theorem Mm (hm:X.mg "list" = none)(EG:X.mg "range" = none)(hc:X.calm=true)(h:KE X M e u)(hg:Gl X "list" := by rfl)(WH:Gl X "range" := by rfl)(hs:fk e=true:=by rfl):KN X M (.Call (.Name "list" p) [.Call (.Name "range" p2) [e] [] q2] [] pos) (NP u) :=
 .of (iz (w6 hc) hg hm (!3) (iS (iz Ii WH EG (!3) (iS h.run fN hs)) fN)) λσ H R env pn S n Q ok hu k=>⟨env,pn,S,n,_,ok,hu,λv H1 d n1 r1 x1 g1 _ q=>by
  cases d with
  | int j =>
   refine⟨j,by rw[r1.fg],λr hr=>⟨r,0,j,rfl,dQ,⟨!2,!2,q.1.1,by have:=q.1.2;omega⟩,by have:=q.1.2;omega,λl hl=>?_⟩⟩;have x2:Ext [] H1 (fz H1 r (.M7 0 j)):=.new hr;have x3:Ext [] (fz H1 r (.M7 0 j)) _:=.new (o:=.lst (zz 0 j)) hl;have Yn:=x2.trans x3;exact k l _ _ _ n1 (zW ok (x1.trans (x2.mono (!4))) (M.jS g1 x2 (!4)) hl) dQ (Jh j) (x1.trans (Yn.mono (!4))) (M.jS g1 Yn (!4)) q.2
  | _=>exact False.elim q⟩
noncomputable def BA:ae->Option Int | .int i=>some i | _=>none
noncomputable def jB (ds:List ae):Option (List Int):=ds.mapM BA
@[simp] theorem ir (ns:List Int):jB (ns.map .int)=some ns:=by
 unfold jB
 induction ns with
 | nil=>rfl
 | cons n ns ih=>rw[ai,cP,ih];rfl
theorem iA:∀{ds:List ae} {ns:List Int},jB ds=some ns->ds=ns.map .int
 | [],ns,h=>by cases h;rfl
 | d::ds,ns,h=>by
  unfold jB at h;rw[cP] at h
  cases d with
  | int i =>
   cases e:ds.mapM BA with
   | none=>simp[BA,e] at h
   | some ms =>
    simp[BA,e] at h;subst h;rw[iA (ds:=ds) e];rfl
  | _=>simp[BA] at h
theorem iB:∀{ns:List Int} {xs:List V},dP S H (ns.map .int) xs->xs=ns.map V.int
 | [],_,r=>r.fI
 | n::ns,_,r=>by
  (obtain⟨x,t,rfl,r1,r2⟩:=r.of_cons);rw[r1.fg,iB r2];rfl
noncomputable def BB:List ae->Option ae | [.list ds]=>(jB ds).bind λns=>if ∀n∈ns,-500000000000<=n/\n<=500000000000 then some (.int ns.sum) else none | _=>none
theorem TL (hc:X.calm=true):mI X (.builtin "sum") BB:=⟨_,Gz X.K hc,λgs S H ds vs d R _ _ rs e k=>by
 obtain⟨ds,rfl⟩:∃l,ds=[.list l]:=by
  unfold BB at e;split at e
  .exact⟨_,rfl⟩
  .cases e
 obtain⟨v,rfl,r⟩:=rs.one;obtain⟨a,xs,rfl,sq,_,rr⟩:=r.K0 (K:=X.K);simp only[BB] at e
 cases ei:jB ds with
 | none=>rw[ei] at e;cases e
 | some ns =>
  rw[ei] at e;simp only[cU] at e;split at e
  .rename_i hb
   cases e;rw[iA ei] at rr;rw[iB rr] at sq;exact⟨a,ns,rfl,sq,hb,k _ H (.int _) (!27)⟩
  .cases e⟩
noncomputable def insI (a:Int):List Int->List Int | []=>[a] | b::l=>if a<=b then a::b::l else b::insI a l
noncomputable def sortI:List Int->List Int | []=>[] | a::l=>insI a (sortI l)
theorem insI_perm (a:Int):∀l,(insI a l).Perm (a::l)
 | []=>.refl _
 | b::l=>by
  unfold insI;split
  .exact .refl _
  .exact ((insI_perm a l).cons b).trans (.swap a b l)
theorem sortI_perm:∀l,(sortI l).Perm l
 | []=>.refl _
 | a::l=>(insI_perm a (sortI l)).trans ((sortI_perm l).cons a)
theorem tH (a:Int):∀l:List Int,l.Pairwise (·<=·)->(insI a l).Pairwise (·<=·)
 | [],_=>by simp[insI]
 | b::l,h=>by
  unfold insI;obtain⟨h1,h2⟩:=bJ.mp h;split
  .rename_i pM
   exact bJ.mpr ⟨λc hc=>by rcases ax.mp hc with rfl | hc;exact pM;exact Int.le_trans pM (h1 c hc),h⟩
  .rename_i pM
   refine bJ.mpr ⟨λc hc=>?_,tH a l h2⟩;rcases ax.mp ((insI_perm a l).mem_iff.mp hc) with rfl | hc
   .omega
   .exact h1 c hc
theorem kC:∀l,(sortI l).Pairwise (·<=·)
 | []=>.nil
 | a::l=>tH a _ (kC l)
theorem vy {l m:List Int}(h:l.Perm m)(hl:l.Pairwise (·<=·))(hm:m.Pairwise (·<=·)):l=m:=h.eq_of_pairwise (λa b _ _ h1 h2=>Int.le_antisymm h1 h2) hl hm
noncomputable def lN:List Int->List Int | []=>[] | a::l=>if a∈l then lN l else a::lN l
theorem kK:∀{l:List Int},k∈lN l↔k∈l
 | []=>Iff.rfl
 | a::l=>by
  unfold lN;split
  .rename_i h
   rw[kK,ax];exact⟨.inr,λz=>z.elim (λe=>e ▸ h) id⟩
  .rw[ax,kK,ax]
theorem lO:∀l:List Int,(lN l).Nodup
 | []=>cg
 | a::l=>by
  unfold lN;split
  .exact lO l
  .rename_i h
   exact bj.mpr ⟨λz=>h (kK.mp z),lO l⟩
noncomputable def hZ (l:List Int):List Int:=sortI (lN l)
theorem fV:k∈hZ l↔k∈l:=((sortI_perm _).mem_iff).trans kK
theorem jC (l:List Int):(hZ l).Pairwise (· < ·):=lH (kC _) ((sortI_perm _).nodup_iff.mpr (lO l))
theorem vz:∀{l m:List Int},l.Pairwise (· < ·)->m.Pairwise (· < ·)->(∀k,k∈l↔k∈m)->l=m:=λ{l m} hl hm h=>by
 have nl:l.Nodup:=hl.imp λh=>by omega
 have nm:m.Nodup:=hm.imp λh=>by omega
 exact vy ((bb nl nm).mpr h) (hl.imp λh=>by omega) (hm.imp λh=>by omega)
noncomputable def vA (u:UX):fC->Int->(List ae->Int->Prop)->Prop:=λenv n Q=>u env n λd n1=>qR (kf d) λds=>qR (jB ds) λns=>ns.length<64/\Q ((hZ ns).map .int) n1
theorem EZ (hm:X.mg "sorted" = none)(EG:X.mg "set" = none)(hc:X.calm=true)(h:KL X M e u)(hg:Gl X "sorted" := by rfl)(WH:Gl X "set" := by rfl)(hs:fk e=true:=by rfl):KN X M (.Call (.Name "sorted" p) [.Call (.Name "set" p2) [e] [] q2] [] pos) (vA u) :=
 .of (zJ X.K hc hg hm WH EG h.run rfl hs) λσ H R env pn S n Q ok hu k=>⟨env,pn,S,n,_,ok,hu,λv H1 d n1 r1 x1 g1 _ q=>by
  obtain⟨ds,e,ns,ei,hl,q⟩:=q;have e2:=iA ei;subst e2
  have fin:∀(l:Addr) (ms:List Int) (H2:Hp),Ext [] H1 H2->H1 l=none->H2 l=some (.lst (ms.map V.int))->ms.Pairwise (· < ·)->(∀k,k∈ms↔k∈ns)->ms.length<=ns.length->R (.ref l) H2:=λl ms H2 x2 hl h2 hp hm _=>by
   have em:ms=hZ ns:=vz hp (jC ns) λk=>(hm k).trans fV.symm;subst em;exact k l _ H2 _ n1 (zW ok x1 g1 hl) h2 (.ints _) (x1.trans (x2.mono (!4))) (M.jS g1 x2 (!4)) q
  cases d with
  | tuple es =>
   cases e;obtain⟨a,xs,rfl,sq,_,rs⟩:=r1.Mf (K:=X.K);rw[iB rs] at sq;exact⟨a,ns,rfl,.inr sq,hl,fin⟩
  | list es =>
   cases e;obtain⟨a,xs,rfl,sq,_,rs⟩:=r1.K0 (K:=X.K);rw[iB rs] at sq;exact⟨a,ns,rfl,.inl sq,hl,fin⟩
  | _=>cases e⟩
noncomputable def rF (u:UX):UX:=λenv n Q=>u env n λd n1=>Good d/\Q (.str d.shown) n1
theorem zX (hr:ik kk X.A)(hm:X.mg "repr" = none)(h:KE X M e u)(hg:Gl X "repr" := by rfl)(hs:fk e=true:=by rfl):KE X M (.Call (.Name "repr" p) [e] [] pos) (rF u) :=
 .of (kM (C3 hr) hg hm (!3) (iS h.run fN hs)) λσ H R env pn S n Q ok hu k=>⟨env,pn,S,n,_,ok,hu,λv H1 d n1 r1 x1 g1 _ q=>⟨S,d,v,rfl,r1,q.1,k _ H1 _ n1 (.str _) x1 g1 q.2⟩⟩
noncomputable def vB:ae->Option Bool | .bool i=>some i | _=>none
noncomputable def pj (ds:List ae):Option (List Bool):=ds.mapM vB
@[simp] theorem BC (ns:List Bool):pj (ns.map .bool)=some ns:=by
 unfold pj
 induction ns with
 | nil=>rfl
 | cons n ns ih=>rw[ai,cP,ih];rfl
theorem vC:∀{ds:List ae} {ns:List Bool},pj ds=some ns->ds=ns.map .bool
 | [],ns,h=>by cases h;rfl
 | d::ds,ns,h=>by
  unfold pj at h;rw[cP] at h
  cases d with
  | bool i =>
   cases e:ds.mapM vB with
   | none=>simp[vB,e] at h
   | some ms =>
    simp[vB,e] at h;subst h;rw[vC (ds:=ds) e];rfl
  | _=>simp[vB] at h
theorem vD:∀{ns:List Bool} {xs:List V},dP S H (ns.map .bool) xs->xs=ns.map V.bl
 | [],_,r=>r.fI
 | n::ns,_,r=>by
  (obtain⟨x,t,rfl,r1,r2⟩:=r.of_cons);rw[r1.oC,vD r2];rfl
end
theorem nf (i:Nat)(l:List Nat)(h:l.contains i=false:=by rfl):i ∉ l:=λz=>by
 have:l.contains i=true:=List.contains_iff_mem.mpr z;rw[h] at this;cases this
theorem sI {P:Nat->Prop}:∀j∈([]:List Nat),P j:=λj h=>by cases h
theorem Yo {i j:Nat}{mp:List (Option Nat)}(h:mp[j]? = some (some i)):∀j'∈[j],∃i'∈[i],mp[j']? = some (some i'):=λj' hj=>by
 have e:=ap.mp hj;subst e;exact⟨i,ap.mpr rfl,h⟩
noncomputable def Qj (ua ub:UX):fC->Int->(List ae->Int->Prop)->Prop:=λenv n Q=>ua env n λx n1=>ub env n1 λy n2=>match x,y with | .list xs,.int k=>(-(2 ^ 63)<=k/\k<2 ^ 63/\xs.length * k.toNat<=aC)/\Q (List.replicate k.toNat xs).flatten n2 | _,_=>False
section
variable {X:Cx}{M:Fr}{e a b:Expr}{u ua ub:UX}{p p2 q2 pos:Pos}
theorem TM (ha:KL X M a ua)(hb:KL X M b ub):KN X M (.BinOp a .Mult b pos) (Qj ua ub) :=
 .of (ic HV ha.run hb.run) λσ H R env pn S n Q ok hu k=>⟨env,pn,S,n,_,ok,hu,λx H1 dx n1 r1 x1 g1 _ q1=>⟨env,pn,S,n1,_,ok.step x1 g1,q1,λy H2 dy n2 r2 x2 g2 sz q=>by
  cases dx with
  | list xs=>cases dy with
   | int kk =>
    obtain⟨l,vs,rfl,hl,rs⟩:=(r1.ext ok.sE x2).fA;exact⟨l,kk,vs,rfl,r2.fg,hl,q.1.1,q.1.2.1,by rw[rs.length];exact q.1.2.2,λp hp=>k p _ _ _ n2 (zW ok (x1.trans x2) g2 hp) dQ (((rs.flat _).fresh hp).ext (.new hp)) ((x1.trans x2).trans (.new hp)) (M.jS g2 (.new (S:=[]) hp) (!4)) q.2⟩
   | _=>exact False.elim q
  | _=>cases dy<;>exact False.elim q⟩⟩
end
noncomputable def mK:Int:=1099511627776
noncomputable def gE:UF:=λds n Q _=>match ds with | [.int m]=>(0<m/\m<1073741824/\n<mK)/\∀r:Int,0<=r->r<m->Q (.int r) (n+1) | _=>False
noncomputable def E1 (Y:yu):Sp:=λvs H Q _=>∃(fa sa:Addr) (n many:Int),vs=[.ref fa,.int many]/\Y.jW H fa sa n/\0<many/\many<1073741824/\n<mK/\∀(r:Int) (H':Hp),0<=r->r<many->Y.jW H' fa sa (n+1)->Ext [fa] H H'->Q (.int r) H'
noncomputable def uJ (Y:yu)(K:W.Frag):Sp:=λvs H Q _=>∃(a:Addr) (ns:List Int),vs=[.ref a]/\gx K H a (!21)/\∀(fa sa:Addr) (H':Hp),Y.jW H' fa sa 0->Ext [] H H'->H fa=none->H sa=none->Q (.ref fa) H'
noncomputable def BE (K:W.Frag):Sp:=λvs H Q _=>∃(a:Addr) (ns:List Int),vs=[.ref a]/\gx K H a (!21)/\ns.length<=63/\∀H',Q (.bl true) H'
section
variable {P:bf}{w:World}{K:W.Frag}{mg:Str->Option ah}{base:Heap}{f:Addr}{fd:bE}{x:Str}{ps:List Str}{k:Nat}{C:Xc}{u:US}{Y:yu}{st Hm:Stmt}{rest:List Stmt}{N:List Str}{sn:Str}
theorem eD.imp {sp R9:Sp}(D:eD P w K mg base k x ps sp)(h:∀vs H Q E,R9 vs H Q E->sp vs H Q E):eD P w K mg base k x ps R9:=let ⟨f,fd,F,r⟩:=D.ex;⟨f,fd,F.imp h,r⟩
theorem eD.up {sp:Sp}{k':Nat}(D:eD P w K mg base k x ps sp)(h:k<=k'):eD P w K mg base k' x ps sp:=let ⟨f,fd,F,r⟩:=D.ex;⟨f,fd,F.mono h,r⟩
theorem eD.draw (D:eD P w K mg base k x ps (E1 Y)):eD P w K mg base k x ps (xq Y gE):=D.imp λvs H Q E h=>by
 obtain⟨fa,sa,us,S,ds,n,Qp,rfl,fe,hS,r,has,hF,hq⟩:=h;unfold gE at hF;split at hF
 .rename_i m
  obtain⟨⟨h1,h2,h3⟩,h4⟩:=hF;obtain⟨v,t,rfl,r1,r2⟩:=r.of_cons;cases r2.fI;cases r1.fg;exact⟨fa,sa,n,m,rfl,fe,h1,h2,h3,λr H' r0 r1 Z' x=>hq _ _ _ H' (.int r) Z' x (h4 r r0 r1)⟩
 .exact hF.elim
theorem WI (F:AX K "law" "law" st f fd)(sc:gp N [sn] (dM st))(hN:2<=N.length)
  (body:∀(fH:ah) (A:Around) (outer:List Env) (s:aA) (H:Hp) (E:XK),ik k (A.deeper (envOfC "law" (dM st) s.heap.objs.size f fH)) ->
   QS (pT zt P w K mg base N "law" (dM st) f fH A outer s H E).FJ Hm (HD (u5 (uJ Y K) (HL (K7 0) O6)) (AJ 1)) /\
   ∀(fa sa:Addr) (n0:Int) (S:List Addr) (H1:Hp) (hf:Y.jW H1 fa sa n0) (hS:fa∈S) (has:∀a∈S,H1 a≠none),zK (pT zt P w K mg base N "law" (dM st) f fH A outer s H E).FJ (Fr.feed C Y 1 fa sa n0 S H1 hf hS has) rest u)
  (hb:gK st=Hm::rest) (hu:u { nx:=λ_ _=>False,rt:=λd _=>d=.bool true } (List.replicate N.length none) 0):og P w K mg base zt (k+1) f fd [sn] (BE K):=by
 (refine F.PN sc (λvs H Q E h=>?_) (λfH A outer s H vs Q E hr h=>?_))
 .obtain⟨a,ns,rfl,_⟩:=h
  rfl
 .obtain⟨a,ns,rfl,hs,_,q⟩:=h
  obtain⟨q0,qr⟩:=body fH A outer s H E hr
  have TN:A3 (pT zt P w K mg base N "law" (dM st) f fH A outer s H E).FJ rest (λD σ H'=>∃fa sa n0 S H1 hf hS has,EH (Fr.feed C Y 1 fa sa n0 S H1 hf hS has) u D σ H') :=
   ⟨λpins s σ H D I ⟨fa,sa,n0,S,H1,hf,hS,has,h⟩=>(qr fa sa n0 S H1 hf hS has).run.run pins s σ H D I h⟩
  rw[hb];have AK:start N [V.ref a]=some (.ref a)::List.replicate (N.length - 1) none:=rfl;refine⟨_,fO q0 TN,_,by rw[AK];rfl,a,ns,rfl,hs,λfa sa H1 fe x1 AB hsa=>?_⟩;have has:∀b∈[fa],H1 b≠none:=λb hb=>by have e:=ap.mp hb;subst e;exact Y.fa fe
  refine⟨fa,sa,0,[fa],H1,fe,ap.mpr rfl,has,List.replicate N.length none,[],[fa],0,_,⟨λi e he=>?_,λi j ds es b h1=>?_,?_,?_,fe,.refl _ _,λb hb=>hb,λb hb=>.inl hb,has,λp hp=>by cases hp⟩,hu,λ_ _ _ _ _ _ z=>z.elim,λv H' d n' r _ _ e=>?_⟩
  .rw[b9] at he
   split at he<;>cases he
  .rw[b9] at h1
   split at h1<;>cases h1
  .rw[aZ,AK,ak,cS,cS]
   omega
  .intro i hi
   have e:i=1:=ap.mp hi;subst e;rw[AK];exact kA (by rw[ak,cS];omega)
  .subst e
   rw[r.oC];exact q H'
end
noncomputable def BF:ae->ae->Option ae | .int i,.int j=>some (.int (Builtin.bitXor i j)) | _,_=>none
section
theorem NQ:xo X (binaryOp .BitXor) BF:=Bn (g:=λi j=>.int (Builtin.bitXor i j)) O2 (λ_ _ _ _=>.int _) λx y d e=>by
 cases x<;>cases y<;>simp[BF] at e;exact⟨_,_,rfl,rfl,e.symm⟩
end
noncomputable def TQ:UF:=λ_ _ _ _=>False
end L2
namespace L2
open PySem
mutual
def Gd (B:Nat):ae->Prop
 | .none=>True
 | .bool _=>True
 | .int i=>i.natAbs<=B
 | .str x=>(∀c∈x.cps.toList,c<1114112)/\x.cps.size<=60
 | .tuple ds=>NR B ds
 | .list ds=>NR B ds
 | .dict _=>False
def NR (B:Nat):List ae->Prop
 | []=>True
 | d::ds=>Gd B d/\NR B ds
end
theorem TR:(10:Nat) ^ 50<2 ^ 1920:=by decide +kernel
mutual
theorem zY:∀d:ae,Gd (10 ^ 50) d->d.canLay0=true/\d.showable=true/\d.leavesShort 60=true
 | .none,_=>⟨rfl,rfl,rfl⟩
 | .bool _,_=>⟨rfl,rfl,rfl⟩
 | .int i,g=>by
  simp only[Gd] at g;refine⟨rfl,?_,?_⟩
  .simp only[ae.showable,decide_eq_true_eq]
   by_cases h:i.natAbs=0
   .rw[h];decide
   .exact (Nat.log2_lt h).mpr (cA g TR)
  .simp only[ae.leavesShort,decide_eq_true_eq]
   have e:=int_text_length_le10 (k:=51) (!2) (cA g (by decide +kernel:(10:Nat) ^ 50<10 ^ 51));show (Str.ofString (toString i)).length<=60;rw[ofString_length];omega
 | .str x,g=>by
  simp only[Gd] at g;refine⟨?_,rfl,?_⟩
  .show ae.strOk x=true
   unfold ae.strOk;rw[Array.all_eq_true'];intro c hc;exact decide_eq_true (g.1 c (by simpa using hc))
  .simp only[ae.leavesShort,dj,decide_eq_true_eq]
   intro c hc;exact aP (g.1 c hc) (!2)
 | .tuple ds,g=>by simp only[Gd] at g;simpa only [ae.canLay0,ae.showable,ae.leavesShort] using zZ ds g
 | .list ds,g=>by simp only[Gd] at g;simpa only [ae.canLay0,ae.showable,ae.leavesShort] using zZ ds g
 | .dict _,g=>by simp only[Gd] at g
theorem zZ:∀ds:List ae,NR (10 ^ 50) ds->ae.canLayAll0 ds=true/\ae.showableAll ds=true/\ae.leavesShortAll 60 ds=true
 | [],_=>⟨rfl,rfl,rfl⟩
 | d::ds,g=>by
  simp only[NR] at g;obtain⟨a1,a2,a3⟩:=zY d g.1;obtain⟨b1,b2,b3⟩:=zZ ds g.2;simp only[ae.canLayAll0,ae.showableAll,ae.leavesShortAll,a1,a2,a3,b1,b2,b3];exact⟨rfl,rfl,rfl⟩
end
theorem Mn (g:Gd (10 ^ 50) d)(hd:d.depth<=60)(hw:d.weight<=200000):Good d:=⟨(zY d g).1,(zY d g).2.1,(zY d g).2.2,hd,hw⟩
theorem NS (h:i.natAbs<2 ^ k):ae.weight (.int i)<=k:=by
 simp only[ae.weight];split
 .omega
 .rename_i gX
  have:i.natAbs≠0:=λz=>gX (by simp;omega);have:=(Nat.log2_lt this).mpr h;omega
mutual
def Gq (B L:Nat):ae->Prop
 | .none=>True
 | .bool _=>True
 | .int i=>i.natAbs<=B
 | .str x=>(∀c∈x.cps.toList,c<1114112)/\x.cps.size<=L
 | .tuple ds=>Hn B L ds
 | .list ds=>Hn B L ds
 | .dict _=>False
def Hn (B L:Nat):List ae->Prop
 | []=>True
 | d::ds=>Gq B L d/\Hn B L ds
end
mutual
theorem z4 {B L B' L':Nat}(h:B<=B')(k:L<=L'):∀d:ae,Gq B L d->Gq B' L' d
 | .none,_=>by simp[Gq]
 | .bool _,_=>by simp[Gq]
 | .int i,g=>by simp only[Gq] at g ⊢;omega
 | .str x,g=>by simp only[Gq] at g ⊢;exact⟨g.1,!1⟩
 | .tuple ds,g=>by simp only[Gq] at g ⊢;exact rG h k ds g
 | .list ds,g=>by simp only[Gq] at g ⊢;exact rG h k ds g
 | .dict _,g=>by simp only[Gq] at g
theorem rG {B L B' L':Nat}(h:B<=B')(k:L<=L'):∀ds:List ae,Hn B L ds->Hn B' L' ds
 | [],_=>by simp[Hn]
 | d::ds,g=>by simp only[Hn] at g ⊢;exact⟨z4 h k d g.1,rG h k ds g.2⟩
end
mutual
theorem NT:∀d:ae,Gq (10 ^ 50) 60 d->Gd (10 ^ 50) d
 | .none,_=>by simp[Gd]
 | .bool _,_=>by simp[Gd]
 | .int i,g=>by simp only[Gq] at g;simp only[Gd];exact g
 | .str x,g=>by simp only[Gq] at g;simp only[Gd];exact g
 | .tuple ds,g=>by simp only[Gq] at g;simp only[Gd];exact DA ds g
 | .list ds,g=>by simp only[Gq] at g;simp only[Gd];exact DA ds g
 | .dict _,g=>by simp only[Gq] at g
theorem DA:∀ds:List ae,Hn (10 ^ 50) 60 ds->NR (10 ^ 50) ds
 | [],_=>by simp[NR]
 | d::ds,g=>by simp only[Hn] at g;simp only[NR];exact⟨NT d g.1,DA ds g.2⟩
end
structure Sz (B L w p:Nat) (d:ae):Prop where
 gq:Gq B L d
 wt:d.weight<=w
 dp:d.depth<=p
structure om (B L w p:Nat) (ds:List ae):Prop where
 gq:Hn B L ds
 wt:ae.weightAll ds<=w
 dp:ae.depthAll ds<=p
section
variable {B L B' L' w w' p p':Nat}{d:ae}{ds es:List ae}
theorem Sz.mono (h:Sz B L w p d)(hB:B<=B')(hL:L<=L')(hw:w<=w')(hp:p<=p'):Sz B' L' w' p' d:=⟨z4 hB hL d h.gq,bq h.wt hw,bq h.dp hp⟩
theorem om.mono (h:om B L w p ds)(hB:B<=B')(hL:L<=L')(hw:w<=w')(hp:p<=p'):om B' L' w' p' ds:=⟨rG hB hL ds h.gq,bq h.wt hw,bq h.dp hp⟩
theorem Sz.gd (h:Sz B L w p d)(hB:B<=10 ^ 50)(hL:L<=60):Gd (10 ^ 50) d:=NT d (z4 hB hL d h.gq)
theorem Sz.good (h:Sz B L w p d)(hB:B<=10 ^ 50)(hL:L<=60)(hw:w<=200000)(hp:p<=60):Good d:=Mn (h.gd hB hL) (bq h.dp hp) (bq h.wt hw)
theorem om.nil:om B L 0 0 []:=⟨by simp[Hn],by simp[ae.weightAll],by simp[ae.depthAll]⟩
theorem om.cons (h:Sz B L w p d)(t:om B L w' p' ds):om B L (w+1+w') (max p p') (d::ds):=by
 refine⟨by simp only[Hn];exact⟨h.gq,t.gq⟩,?_,?_⟩
 .simp only[ae.weightAll];have:=h.wt;have:=t.wt;omega
 .simp only[ae.depthAll];have:=h.dp;have:=t.dp;omega
theorem Sz.tup (h:om B L w p ds):Sz B L w (p+1) (.tuple ds):=⟨by simp only[Gq];exact h.gq,by simp only[ae.weight];exact h.wt,by simp only[ae.depth];have:=h.dp;omega⟩
theorem Sz.jm:Sz B L 0 0 .none:=⟨by simp[Gq],by simp[ae.weight],by simp[ae.depth]⟩
theorem Sz.int (h:i.natAbs<=B)(hB:B<=10 ^ 50):Sz B L 168 0 (.int i):=⟨by simpa only [Gq] using h,NS (cA (bq h hB) (!3)),by simp[ae.depth]⟩
theorem Sz.small (h:i.natAbs<1024)(hB:1023<=B):Sz B L 10 0 (.int i):=⟨by simp only[Gq];omega,NS h,by simp[ae.depth]⟩
theorem Sz.str (h:(x.cps.toList.all (λc=>decide (c<1114112)) && decide (x.cps.size<=L))=true):Sz B L L 0 (.str x):=by
 rw[bn,dj] at h;have h2:=of_decide_eq_true h.2;exact⟨by simp only[Gq];exact⟨λc hc=>of_decide_eq_true (h.1 c hc),h2⟩,by simp only[ae.weight];exact h2,by simp[ae.depth]⟩
theorem om.ints (hB:1023<=B):∀{ns:List Int},(∀i∈ns,i.natAbs<1024)->om B L (11 * ns.length) 0 (ns.map .int)
 | [],_=>om.nil
 | n::ns,h=>by
  have t:=om.ints (ns:=ns) hB λi hi=>h i (ag _ hi);have:=om.cons (Sz.small (h n (ao ..)) hB) t;rw[ai,ak];exact this.mono (aw _) (aw _) (!1) (!4)
theorem om.all:∀{ds:List ae},(∀d∈ds,Sz B L w p d)->om B L ((w+1) * ds.length) p ds
 | [],_=>om.nil.mono (aw _) (aw _) (!4) (bZ _)
 | d::ds,h=>by
  have t:=om.all (ds:=ds) λi hi=>h i (ag _ hi);refine (om.cons (h d (ao ..)) t).mono (aw _) (aw _) ?_ (!4);rw[ak,Nat.mul_succ];omega
end
section
variable {i j:Int}{ns ms:List Int}{x y:ae}
theorem rH (ns:List Int):ae.canLayAll0 (ns.map .int)=true:=by
 induction ns with
 | nil=>rfl
 | cons n ns ih=>simpa [ae.canLayAll0,ae.canLay0] using ih
theorem Ji (ns:List Int):ae.depthAll (ns.map .int)=0:=by
 induction ns with
 | nil=>rfl
 | cons n ns ih=>simpa [ae.depthAll,ae.depth] using ih
theorem BG:∀ns ms:List Int,ae.eqvAll (ns.map .int) (ms.map .int)=decide (ns=ms)
 | [],[]=>rfl
 | [],m::ms=>rfl
 | n::ns,[]=>rfl
 | n::ns,m::ms=>by
  simp only[ai,ae.eqvAll,ae.eqv,BG ns ms,List.cons.injEq];by_cases h:n=m<;>simp[h]
theorem sJ (hx:x.canLay0=true)(hy:y.canLay0=true)(hd:x.depth<=60):oj x y=some (.bool (ae.eqv x y)):=if_pos ⟨hx,hy,hd⟩
theorem z5 (hx:x.canLay0=true)(hy:y.canLay0=true)(hd:x.depth<=60):Hj x y=some (.bool (!PyData.eqv x y)):=if_pos ⟨hx,hy,hd⟩
theorem iN:oj (.int i) (.int j)=some (.bool (decide (i=j))):=by
 rw[sJ rfl rfl (by simp[ae.depth])];simp only[ae.eqv];congr
theorem Jj:Hj (.bool a) (.bool b)=some (.bool (!(a == b))):=by
 rw[z5 rfl rfl (by simp[ae.depth])];simp only[ae.eqv]
theorem GA:Hj (.tuple (ns.map .int)) (.tuple (ms.map .int))=some (.bool (!decide (ns=ms))):=by
 rw[z5 (show ae.canLay0 (.tuple _)=true from rH ns) (show ae.canLay0 (.tuple _)=true from rH ms) (by simp[ae.depth,Ji])];simp only[ae.eqv,BG]
theorem any_ints (i:Int)(ns:List Int):((ns.map ae.int).any λd=>ae.eqv d (.int i))=decide (i∈ns):=by
 induction ns with
 | nil=>rfl
 | cons n ns ih =>
  rw[ai,bF,ih];simp only[ae.eqv,ax];by_cases h:n=i
  .simp[h]
  .have h':¬ i=n:=λz=>h z.symm
   simp[h,h']
theorem BH:Bm (.int i) (ns.map .int)=some (decide (i∈ns)):=by
 unfold Bm;rw[if_pos ⟨rfl,rH ns,by simp[ae.depth]⟩,any_ints]
theorem pk:inD (.int i) (.tuple (ns.map .int))=some (.bool (decide (i∈ns))):=by simp only[inD,BH,bo]
theorem DB:p6 (.int i) (.tuple (ns.map .int))=some (.bool (!decide (i∈ns))):=by simp only[p6,BH,bo]
theorem Jk {a b:Int}:inD (.int i) (.tuple [.int a,.int b])=some (.bool (decide (i=a\/i=b))):=by
 have:=pk (i:=i) (ns:=[a,b]);simpa using this
end
section
variable {α:Type}
theorem oM (h0:0<=i)(h1:i<xs.length):sx xs i=xs[i.toNat]? := by
 unfold sx CV;rw[if_pos h0,if_pos h1];rfl
theorem d8 (a:α)(l:List α):sx (a::l) 0=some a:=by rw[oM (!2) (by simp only[ak];omega)];rfl
theorem d9 (a b:α)(l:List α):sx (a::b::l) 1=some b:=by rw[oM (!2) (by simp only[ak];omega)];rfl
theorem eN (a b c:α)(l:List α):sx (a::b::c::l) 2=some c:=by rw[oM (!2) (by simp only[ak];omega)];rfl
theorem BI {xs:List α}{i:Int}(h0:0<=i)(h1:i<xs.length):∃x,sx xs i=some x/\x∈xs:=by
 have:i.toNat<xs.length:=by omega
 exact⟨xs[i.toNat],by rw[oM h0 h1];simp[this],bU _⟩
theorem rJ (xs:List α)(k:Int)(h:0<=k):zP xs none (some k)=xs.take k.toNat:=by
 unfold zP;rw[show k=((k.toNat:Nat):Int) by omega,HT.Ek,HT.AU];simp only[List.drop_zero,Nat.sub_zero,a9];by_cases hc:k.toNat<=xs.length
 .rw[Nat.min_eq_left hc]
 .rw[Nat.min_eq_right (!1),cc (aw _),cc (!1)]
theorem sL (xs:List α)(k:Int)(h:0<=k):zP xs (some k) none=xs.drop k.toNat:=by
 unfold zP;rw[show k=((k.toNat:Nat):Int) by omega,HT.Ek,HT.AU];simp only[a9];by_cases hc:k.toNat<=xs.length
 .rw[Nat.min_eq_left hc,cc (by rw[di];exact aw _)]
 .rw[Nat.min_eq_right (!1),bV (aw _),bV (!1)]
  simp
end
theorem dU:eY (.tuple ds) (.int i)=sx ds i:=rfl
theorem eP:eY (.list ds) (.int i)=sx ds i:=rfl
theorem gB (h0:0<m)(h1:m<1073741824)(h2:n<mK)(h:∀r:Int,0<=r->r<m->Q (.int r) (n+1)):gE [.int m] n Q X:=⟨⟨h0,h1,h2⟩,h⟩
section
variable {i j:Nat}{ue:UX}{uc:UT}{Q:List ae->Int->Prop}{env:fC}
theorem comp_map (f:ae->ae):∀(its acc:List ae) (n:Int) (env:fC),(∀d∈its,∀n Q,ue (env.set i (some (.s d))) n Q=Q (f d) n)->fm (fQ i) kB ue Q its acc env n=Q (acc++its.map f) n
 | [],acc,n,env,_=>by simp[fm]
 | d::ds,acc,n,env,h=>by
  have ih:=λacc=>comp_map f ds acc n (env.set i (some (.s d))) λe he n Q=>by rw[dq];exact h e (ag _ he) n Q
  simp only[fm,fQ,kB,if_true,h d (ao ..),ih,ai,bu,List.singleton_append]
theorem tI (f:ae->ae)(p:ae->Bool):∀(its acc:List ae) (n:Int) (env:fC),(∀d∈its,∀n Q,ue (env.set i (some (.s d))) n Q=Q (f d) n)->(∀d∈its,∀n Q,uc (env.set i (some (.s d))) n Q=Q (p d) n)->fm (fQ i) uc ue Q its acc env n=Q (acc++(its.filter p).map f) n
 | [],acc,n,env,_,_=>by simp[fm]
 | d::ds,acc,n,env,h,k=>by
  have ih:=λacc=>tI f p ds acc n (env.set i (some (.s d))) (λe he n Q=>by rw[dq];exact h e (ag _ he) n Q) (λe he n Q=>by rw[dq];exact k e (ag _ he) n Q);simp only[fm,fQ,k d (ao ..),h d (ao ..),ih]
  cases hp:p d with
  | true=>simp[hp]
  | false=>simp[hp]
end
theorem mL (Inv:List ae->List ae->fC->Int->Prop) :
  ∀(its pre:List ae) (env:fC) (n:Int),(∀pre d post env n (E':rA),E'.rt=E.rt->Inv pre (d::post) env n->(∀eL n',Inv (pre++[d]) post eL n'->E'.nx eL n')->ug d env λJf=>ub E' Jf n)->Inv pre its env n->(∀pre env n,Inv pre [] env n->E.nx env n)->gU ug ub E its env n
 | [],pre,env,n,_,h0,hd=>hd pre env n h0
 | d::ds,pre,env,n,hb,h0,hd=>hb pre d ds env n { nx:=gU ug ub E ds,rt:=E.rt } rfl h0 λeL n' h'=>mL Inv ds (pre++[d]) eL n' hb h' hd
theorem ni (h:AO i j):rB (.int i) (.int j)=some (.int (i * j)):=if_pos h
theorem Jl:rB (.int c) (.int (if b=true then 1 else 0))=some (.int (if b=true then c else 0)):=by
 cases b with
 | true=>rw[if_pos rfl,if_pos rfl,ni (.inr ⟨!2,!2⟩),Int.mul_one]
 | false=>rw[if_neg (!2),if_neg (!2),ni (.inr ⟨!2,!2⟩),Int.mul_zero]
theorem vE (h:xs.length+ys.length<=16777216):ip (.tuple xs) (.tuple ys)=some (.tuple (xs++ys)):=if_pos (by rw[show aC=16777216 by decide];exact h)
theorem Jm (h:xs.length+ys.length<=16777216):ip (.list xs) (.list ys)=some (.list (xs++ys)):=if_pos (by rw[show aC=16777216 by decide];exact h)
theorem kQ (h:ds.length<16777216):ja ds [d]=some (ds++[d]):=if_pos (by rw[show aC=16777216 by decide];exact h)
theorem E2 (h:0<j):Gp (.int i) (.int j)=some (.int (i % j)):=if_pos h
noncomputable def fW (lo:Int)(n:Nat):List Int:=(List.range n).map λ(k:Nat)=>lo+(k:Int)
theorem lP (lo:Int)(n:Nat):rD lo n=(fW lo n).map .int:=by unfold rD fW;rw[bc];rfl
theorem fy:i∈fW lo n↔lo<=i/\i<lo+n:=by
 unfold fW;rw[aU];constructor
 .rintro⟨k,hk,rfl⟩
  have:=c6.mp hk;omega
 .intro h
  exact⟨(i - lo).toNat,c6.mpr (!1),!1⟩
theorem e8 (lo:Int)(n:Nat):(fW lo n).length=n:=by simp[fW]
theorem BJ (p:ae->Bool)(ns:List Int):(ns.map ae.int).filter p=(ns.filter λi=>p (.int i)).map .int:=by rw[List.filter_map];rfl
theorem Jn (f:ae->ae)(ns:List Int):(ns.map ae.int).map f=ns.map λi=>f (.int i):=by rw[bc];rfl
section
variable {ns:List Int}
theorem BK:Hj (.tuple (ns.map .int)) (.tuple [])=some (.bool (!decide (ns=[]))):=GA (ms:=[])
theorem mM {i:Int}(h0:0<=i)(h1:i<ns.length):∃k,sx (ns.map ae.int) i=some (.int k)/\k∈ns/\ns[i.toNat]? = some k:=by
 have hl:i.toNat<ns.length:=by omega
 refine⟨ns[i.toNat],?_,bU _,by simp[hl]⟩;rw[oM h0 (by simpa using h1),az];simp[hl]
end
theorem gc (f:Int->ae)(p:Int->Bool)(ns:List Int)(acc:List ae)(n:Int)(env:fC)(h:∀k∈ns,∀n Q,ue (env.set i (some (.s (.int k)))) n Q=Q (f k) n)(hp:∀k∈ns,∀n Q,uc (env.set i (some (.s (.int k)))) n Q=Q (p k) n) :
  fm (fQ i) uc ue Q (ns.map .int) acc env n=Q (acc++(ns.filter p).map f) n:=by
 rw[tI (λd=>match d with | .int k=>f k | _=>.none) (λd=>match d with | .int k=>p k | _=>false) _ _ _ _ (λd hd n Q=>?_) (λd hd n Q=>?_),BJ,Jn]
 .obtain⟨k,hk,rfl⟩:=aU.mp hd
  exact h k hk n Q
 .obtain⟨k,hk,rfl⟩:=aU.mp hd
  exact hp k hk n Q
noncomputable def GB (x y:ae):Option ae:=match x,y with | .str a,.str b=>some (.bool (!decide (a=b))) | _,_=>none
theorem Jo:decide (V.str a=V.str b)=decide (a=b):=by
 rw[decide_eq_decide];exact⟨λh=>by cases h;rfl,λh=>by rw[h]⟩
theorem fP.E3 (r:fP gs S H (.str x) v):v=.str x:=by
 rcases r with r | ⟨ds,a,xs,h,_⟩ | ⟨t,kvs,a,xs,h,_⟩
 .exact r.m9
 .cases h
 .cases h
section
theorem NU:xo X (compareOp .NotEq) GB:=⟨_,R4,λgs S H dx dy x y d R _ _ r1 r2 e k=>by
 unfold GB at e;split at e
 .rename_i a b
  cases e;have e1:=r1.E3;have e2:=r2.E3;subst e1 e2;refine⟨rfl,?_⟩;rw[Jo];exact k _ H (.bl _) (!27)
 .cases e⟩
end
end L2
namespace L2
open PySem PySem.Spec PyProof.Rows
noncomputable def WJ (x:ae):Prop:=match x with | .tuple _=>True | .list _=>True | _=>False
theorem Mo {X:Cx}{o:Expr}{to:TE}{name:Str}{i6 hV:Pos}{T id:String}{r:V->List V->Hp->VK->Prop}(pa:PlainAttrs T)(slot:Slot T name id)(HU:typeOf (.builtin id)=pure (.type "method_descriptor"))(hm:Hf X id r)(ho:QE X o to)
  (my:attributeBase o name X.env (eval o X.env)=eval o X.env) (mz:(i6.endLine == hV.line)=true):QE X (.Call (.Attribute o name i6) [] [] hV) (Sm X.K T r to):=⟨Pj pa slot HU hm ho.run my mz⟩
section
variable {X:Cx}
theorem yv:∀l:List Int,(∀n∈l,-500000000000<=n/\n<=500000000000)->-(500000000000 * (l.length:Int))<=l.sum/\l.sum<=500000000000 * l.length
 | [],_=>by simp
 | a::l,hl=>by
  have h1:=yv l λn hn=>hl n (ag _ hn);have h2:=hl a (ao ..);rw[cC,ak];omega
theorem GC (K:W.Frag)(hc:X.calm=true)(hk:X.K=K:=by rfl):gL X (.builtin "sum") (λxs H Q=>∃(p:Addr) (ns:List Int),xs=[.ref p]/\jt K H p (!21)/\(∀n∈ns,-500000000000<=n/\n<=500000000000)/\Q (.int ns.sum) H):=by
 subst hk;(intro pins s σ H xs us Q I r h);obtain⟨p,ns,rfl,hp,hb,q⟩:=h;rw[12];cases ru;obtain⟨its,rv,ht,hz⟩:=I.tuple hp;have Rp:s.heap.IsTuple p its.toArray:=ht;have oo:p<s.heap.objs.size:=let ⟨o,e,_⟩:=Rp;aF e;have hlen:its.toArray.size=ns.length:=by rw[aD,<- rv.length,ar]
 rw[ar] at hz;(have hsz:aC=16777216:=by decide);refine call_sum_walk (wpAny_pyIter_tuple Rp ⟨s.heap.objs.size,_,_,its.toArray.size,_,_,λa=>ns.getD a 0,rfl,Walks.tuple (A:=X.A.in1) (I.ok.hd hc) _ p (aR oo) its.toArray,⟨⟨_,aB _ rfl,rfl,rfl⟩,Rp.at λo e=>aj _ e⟩,?_,?_,?_,?_⟩)
 .intro b yt
  rw[bx];rcases ax.mp yt with e | yt
  .rw[e];exact cq _
  .rw[show b=p by simpa using yt];exact bO oo
 .intro a v e
  obtain⟨x,hx,rx⟩:=rv.at' (show its[a]? = some v by simpa using e);rw[az] at hx
  cases hn:ns[a]? with
  | none=>rw[hn] at hx;cases hx
  | some b =>
   rw[hn] at hx;cases hx;obtain⟨t,rfl⟩:=rx;exact⟨t,by show ah.int b t=ah.int (ns.getD a 0) t;rw[show ns.getD a 0=b by rw[au,hn];rfl]⟩
 .intro j hj
  rw[hlen] at hj;have h1:=hb (ns.getD j 0) (by rw[au,show ns[j]? = some ns[j] by simp[hj]];exact bU hj);have h2:=yv (ns.take (j+1)) λn hn=>hb n (List.mem_of_mem_take hn);rw[b8] at h2;show InLong (ns.getD j 0)/\InLong (preSum (λa=>ns.getD a 0) (j+1));unfold InLong;rw[jR ns (j+1) (!1)];have h3:(min (j+1) ns.length:Nat)<=16777216:=by omega
  constructor<;>constructor<;>omega
 .intro h' tk t' kp
  have I1:Inv X pins σ H { s with heap:=h',toks:=tk }:=I.kept λb o e=>kp b o (λz=>by
   rw[show b=s.heap.objs.size by simpa using z] at e;exact absurd (aF e) (bC _)) (aj _ e)
  rw[show preSum (λa=>ns.getD a 0) its.toArray.size=ns.sum by rw[hlen,jR ns _ (aw _),dk]];exact⟨.int _,H,I1,⟨_,rfl⟩,q⟩
noncomputable def rK (ds:List ae):Option ae:=match ds with | [.tuple ds]=>BB [.list ds] | ds=>BB ds
theorem DC (hc:X.calm=true):mI X (.builtin "sum") rK:=by
 obtain⟨r,hr,hd⟩:=(TL (X:=X) hc).ex;refine⟨_,(show gL X (.builtin "sum") λxs H Q=>(∃(p:Addr) (ns:List Int),xs=[.ref p]/\jt X.K H p (!21)/\(∀n∈ns,-500000000000<=n/\n<=500000000000)/\Q (.int ns.sum) H)\/r xs H Q from λpins s σ H xs us Q I rv h=>h.elim (GC X.K hc rfl pins s σ H xs us Q I rv) (hr pins s σ H xs us Q I rv)),λgs S H ds vs d R hs hz rs e k=>?_⟩;unfold rK at e;split at e
 .rename_i ds
  obtain⟨v,rfl,rl⟩:=rs.one;obtain⟨a,xs,rfl,sq,_,rr⟩:=rl.Mf (K:=X.K);simp only[BB] at e
  cases ei:jB ds with
  | none=>rw[ei] at e;cases e
  | some ns =>
   rw[ei] at e;simp only[cU] at e;split at e
   .rename_i hb
    cases e;rw[iA ei] at rr;rw[iB rr] at sq;exact .inl ⟨a,ns,rfl,sq,hb,k _ H (.int _) (!27)⟩
   .cases e
 .exact .inr (hd gs S H ds vs d R hs hz rs e k)
end
theorem GD {α:Type}{us:List α}{n:Nat}(h:us.length=n+1):∃a r,us=a::r/\r.length=n:=by
 cases us with
 | nil=>cases h
 | cons a r=>exact⟨a,r,rfl,Nat.succ.inj h⟩
theorem Jp {α:Type}{us:List α}(h:us.length=1):∃a,us=[a]:=by
 obtain⟨a,r,rfl,k⟩:=GD (n:=0) h;rw[ci k];exact⟨_,rfl⟩
theorem GF {α:Type}{us:List α}(h:us.length=2):∃a b,us=[a,b]:=by
 obtain⟨a,r,rfl,k⟩:=GD (n:=1) h;obtain⟨b,rfl⟩:=Jp k;exact⟨_,_,rfl⟩
theorem Jq {α:Type}{us:List α}(h:us.length=3):∃a b c,us=[a,b,c]:=by
 obtain⟨a,r,rfl,k⟩:=GD (n:=2) h;obtain⟨b,c,rfl⟩:=GF k;exact⟨_,_,_,rfl⟩
theorem Qk {α:Type}{us:List α}(h:us.length=4):∃a b c d,us=[a,b,c,d]:=by
 obtain⟨a,r,rfl,k⟩:=GD (n:=3) h;obtain⟨b,c,d,rfl⟩:=Jq k;exact⟨_,_,_,_,rfl⟩
theorem Ql {α:Type}{us:List α}(h:us.length=5):∃a b c d e,us=[a,b,c,d,e]:=by
 obtain⟨a,r,rfl,k⟩:=GD (n:=4) h;obtain⟨b,c,d,e,rfl⟩:=Qk k;exact⟨_,_,_,_,_,rfl⟩
theorem TU {α:Type}{us:List α}(h:us.length=6):∃a b c d e f,us=[a,b,c,d,e,f]:=by
 obtain⟨a,r,rfl,k⟩:=GD (n:=5) h;obtain⟨b,c,d,e,f,rfl⟩:=Ql k;exact⟨_,_,_,_,_,_,rfl⟩
noncomputable abbrev Cx.low (X:Cx):Cx:={ X with calm:=false,xe:=λ_ _=>False }
noncomputable abbrev jo (h0 h1:Heap):Prop:=∀b o,h0.get? b=some o->h1.get? b=some o
noncomputable def yy (prog:bf)(w:World)(A:Around)(h0:Heap)(op:CmpOp)(P:Nat->ah->Prop)(bt:Nat->Nat->Bool):Prop :=
 ∀i j u v (s:aA) (Q:ah->aA->Prop) (E:ah->aA->Prop),jo h0 s.heap->P i u->P j v->Q (.bool (bt i j)) s->aH (!12) A (richCompare op u v) Q E s
section
variable {prog:bf}{w:World}{A:Around}{E:ah->aA->Prop}{s:aA}{R:Result->aA->Prop}{it:Addr}{fp wr:List Addr}{n:Nat}{P:Nat->ah->Prop}{St:Nat->Heap->Prop}
theorem Jr {h0:Heap}{kw:List (Str × ah)}(W:Walks prog w A.in1 it fp wr n P St)(nw:∀b∈wr,h0.get? b=none)(bt:Nat->Nat->Bool)(cmp:yy prog w A.in1 h0 .Lt P bt)(z:Addr)(zf:z ∉ fp)(z0:h0.get? z=none) :
  ∀(m j:Nat) (s:aA) (b:ah) (c:Nat),n=j+1+m->St (j+1) s.heap->P (argBest bt j) b->s.heap.get? z=some { cls:=.type "list",dict:=none,data:=.seq #[b,b] c,slots:=#[] }->jo h0 s.heap ->
  (∀v hh tk,P (argBest bt (n - 1)) v->jo h0 hh->R (.ok (.ret v)) { s with heap:=hh,toks:=tk })->codeAny (!12) A (.builtin "min.loop" ⟨[.ref it,.none,.ref z],kw⟩) R s:=by
 have zw:z ∉ wr:=λy=>zf (W.sub _ y);have nm:(toString "min" ++ toString ".loop" : String) = "min.loop" := by decide
 have Js:∀{hh:Heap} {f:Obj->Obj},jo h0 hh->jo h0 (hh.update z f):=λ{hh f} k x o e=>(aO _ _ (λq:z=x=>by rw[<- q,z0] at e;cases e)).trans (k x o e);intro m
 induction m with
 | zero =>
  intro j s b c en st pb gz kp fin;refine codeAny_builtin F.entry_min_loop ?_;rw[Around.under_plainId F.plain_min_loop _];refine af (m:=seqItems? (.ref z)) (wpAny_seqItems gz rfl ?_);refine af (m:=tryCatch (pyNext (.ref it)) _) (wpAny_tryCatch (W.done s _ _ (by rw[en];exact st) λh1 t1 k1=>?_));(have k2:jo h0 h1:=λx o e=>k1 x o (λy=>by rw[nw x y] at e;cases e) (kp x o e));refine af (m:=updateSeq z λ_=>#[]) (wpAny_updateSeq (k1 z _ zw gz) rfl (af (wpAny_letGo (am (fin b _ t1 (by rw[en];exact pb) (Js k2))))))
 | succ m ih =>
  intro j s b c en st pb gz kp fin;refine codeAny_builtin F.entry_min_loop ?_;rw[Around.under_plainId F.plain_min_loop _];refine af (m:=seqItems? (.ref z)) (wpAny_seqItems gz rfl ?_);refine af (m:=tryCatch (pyNext (.ref it)) _) (wpAny_tryCatch (W.item (j+1) s _ _ (!1) st λv h1 t1 pv P5 k1=>?_));(have k2:jo h0 h1:=λx o e=>k1 x o (λy=>by rw[nw x y] at e;cases e) (kp x o e));have g1:=k1 z _ zw gz;refine af (m:=tryCatch (holding [v,v] (richCompare .Lt v b >>= _)) _) (wpAny_tryCatch (wpAny_holding (af (cmp (j+1) (argBest bt j) v b _ _ _ k2 pv pb (af (wpAny_holding (wpAny_truthy_bool (af (wpAny_letGo (am ?_))))))))))
  cases eb:bt (j+1) (argBest bt j) with
  | true =>
   rw[if_pos rfl];refine af (wpAny_updateSeq g1 rfl (af (wpAny_letGo ?_)));rw[nm];exact am ⟨plainId_quiet F.plain_min_loop _,ih (j+1) _ v _ (!1) (W.frame _ _ _ P5 λx xf o e=>(aO _ _ (λq:z=x=>zf (by rw[q];exact xf))).trans e) (by simp only[argBest,eb,if_true];exact pv) (ba _ g1 rfl) (Js k2) λv' h2 t2 p2 k3=>fin v' h2 t2 p2 k3⟩
  | false =>
   rw[if_neg (!2)];refine af (wpAny_letGo ?_);rw[nm];exact am ⟨plainId_quiet F.plain_min_loop _,ih (j+1) _ b c (!1) P5 (by simp only[argBest,eb,bQ,if_false];exact pb) g1 k2 λv' h2 t2 p2 k3=>fin v' h2 t2 p2 k3⟩
theorem Qm {l:Addr}{vs:Array ah}{bt:Nat->Nat->Bool}{Q:ah->aA->Prop}(hh:A.handled=none)(gl:s.heap.IsList l vs)(ne:0<vs.size)(cmp:yy prog w A.in1 s.heap .Lt (λi v=>vs[i]? = some v) bt)
  (fin:∀v h1 tk,vs[argBest bt (vs.size - 1)]? = some v->jo s.heap h1->Q v { s with heap:=h1,toks:=tk }):aH (!12) A (call (.builtin "min") [.ref l]) Q E s:=by
 have nm:(toString "min" ++ toString ".loop" : String) = "min.loop" := by decide
 have ll:l<s.heap.objs.size:=let ⟨_,e,_⟩:=gl;aF e;refine call_function_tree F.kind_min F.plain_min F.entry_min (F.args_min1 _) ?_;refine af (m:=Builtin.Builtins.bindParams "min" ["key", "default"] 0 ⟨[],[]⟩) (wpAny_of_eq (show _=pure [none,none] from rfl) (af (am (af ?_))));(refine wpAny_pyIter_list gl (af (aY ?_));rw[nm];have W:=Walks.list (prog:=prog) (w:=w) (A:=A.in1) hh s.heap.objs.size l (aR ll) vs);have no:∀k,s.heap.get? (s.heap.objs.size+k)=none:=λk=>by simp[Heap.get?]
 have gi:(s.heap.push { cls:=.type "list_iterator",data:=.fields #[.ref l,.int 0 0] }).IsListIter s.heap.objs.size l 0:=⟨_,aB _ rfl,rfl,rfl⟩;have sz:(s.heap.push { cls:=.type "list_iterator",data:=.fields #[.ref l,.int 0 0] }).objs.size=s.heap.objs.size+1:=bx ..;have rL:jo s.heap (s.heap.push { cls:=.type "list_iterator",data:=.fields #[.ref l,.int 0 0] }):=λb o e=>aj _ e;have Hm:(s.heap.push { cls:=.type "list_iterator",data:=.fields #[.ref l,.int 0 0] }).IsList l vs:=gl.push _;show aH _ _ _ _ _ { s with heap:=(s.heap.push { cls:=.type "list_iterator",data:=.fields #[.ref l,.int 0 0] }).push { cls:=.type "list",data:=.seq #[] 0 } };generalize s.heap.push { cls:=.type "list_iterator",data:=.fields #[.ref l,.int 0 0] }=h1 at gi sz rL Hm ⊢;have gz:(h1.push { cls:=.type "list",data:=.seq #[] 0 }).get? h1.objs.size=some { cls:=.type "list",data:=.seq #[] 0 }:=aB _ rfl;have pR:jo h1 (h1.push { cls:=.type "list",data:=.seq #[] 0 }):=λb o e=>aj _ e
 have zf:h1.objs.size ∉ [s.heap.objs.size,l]:=by
  rw[sz];simp only[ax,bw,or_false,not_or];exact⟨cH _,bv (bO ll)⟩
 have zw:h1.objs.size ∉ [s.heap.objs.size]:=λy=>zf (W.sub _ y);refine am ⟨plainId_quiet F.plain_min_loop _,codeAny_builtin F.entry_min_loop ?_⟩;rw[Around.under_plainId F.plain_min_loop _];refine af (m:=seqItems? (.ref h1.objs.size)) (wpAny_seqItems gz rfl ?_);refine af (m:=tryCatch (pyNext (!14)) _) (wpAny_tryCatch (W.item 0 _ _ _ ne (W.frame _ _ _ ⟨gi,Hm⟩ λb _ o e=>pR b o e) λv h3 t3 pv HI k3=>?_));have g3:=k3 _ _ zw gz;(have vF:jo s.heap h3:=λb o e=>k3 b o (λy=>by rw[ap.mp y,<- cQ s.heap.objs.size,no] at e;cases e) (pR b o (rL b o e)));refine af (m:=updateSeq h1.objs.size λ_=>#[v,v]) (wpAny_updateSeq g3 rfl ?_);rw[nm];refine am ⟨plainId_quiet F.plain_min_loop _,Jr W (λb hb=>by rw[ap.mp hb,<- cQ s.heap.objs.size];exact no 0) bt cmp h1.objs.size zf (by rw[sz];exact no 1) (vs.size - 1) 0 _ v _ (!1) (W.frame _ _ _ HI λx xf o e=>(aO _ _ (λq:h1.objs.size=x=>zf (by rw[q];exact xf))).trans e) pv (ba _ g3 rfl) (λx o e=>(aO _ _ (λq:h1.objs.size=x=>by rw[<- q,sz,no] at e;cases e)).trans (vF x o e)) λv' h4 t4 p4 k4=>fin v' h4 t4 p4 k4⟩
theorem Qn {h0:Heap}(W:Walks prog w A.in1 it fp wr n P St)(nw:∀b∈wr,h0.get? b=none)(bt:Nat->Nat->Bool)(cmp:yy prog w A.in1 h0 .Gt P bt)(z:Addr)(zf:z ∉ fp)(z0:h0.get? z=none) :
  ∀(m j:Nat) (s:aA) (b:ah) (c:Nat),n=j+1+m->St (j+1) s.heap->P (argBest bt j) b->s.heap.get? z=some { cls:=.type "list",dict:=none,data:=.seq #[b,b] c,slots:=#[] }->jo h0 s.heap ->
  (∀v hh tk,P (argBest bt (n - 1)) v->jo h0 hh->R (.ok (.ret v)) { s with heap:=hh,toks:=tk })->codeAny (!12) A (.builtin "max.loop" ⟨[.ref it,.none,.ref z],[]⟩) R s:=by
 have zw:z ∉ wr:=λy=>zf (W.sub _ y);have nm:(toString "max" ++ toString ".loop" : String) = "max.loop" := by decide
 have Js:∀{hh:Heap} {f:Obj->Obj},jo h0 hh->jo h0 (hh.update z f):=λ{hh f} k x o e=>(aO _ _ (λq:z=x=>by rw[<- q,z0] at e;cases e)).trans (k x o e);intro m
 induction m with
 | zero =>
  intro j s b c en st pb gz kp fin;refine codeAny_builtin F.entry_max_loop ?_;rw[Around.under_plainId F.plain_max_loop _];refine af (m:=seqItems? (.ref z)) (wpAny_seqItems gz rfl ?_);refine af (m:=tryCatch (pyNext (.ref it)) _) (wpAny_tryCatch (W.done s _ _ (by rw[en];exact st) λh1 t1 k1=>?_));(have k2:jo h0 h1:=λx o e=>k1 x o (λy=>by rw[nw x y] at e;cases e) (kp x o e));refine af (m:=updateSeq z λ_=>#[]) (wpAny_updateSeq (k1 z _ zw gz) rfl (af (wpAny_letGo (am (fin b _ t1 (by rw[en];exact pb) (Js k2))))))
 | succ m ih =>
  intro j s b c en st pb gz kp fin;refine codeAny_builtin F.entry_max_loop ?_;rw[Around.under_plainId F.plain_max_loop _];refine af (m:=seqItems? (.ref z)) (wpAny_seqItems gz rfl ?_);refine af (m:=tryCatch (pyNext (.ref it)) _) (wpAny_tryCatch (W.item (j+1) s _ _ (!1) st λv h1 t1 pv P5 k1=>?_));(have k2:jo h0 h1:=λx o e=>k1 x o (λy=>by rw[nw x y] at e;cases e) (kp x o e));have g1:=k1 z _ zw gz;refine af (m:=tryCatch (holding [v,v] (richCompare .Gt v b >>= _)) _) (wpAny_tryCatch (wpAny_holding (af (cmp (j+1) (argBest bt j) v b _ _ _ k2 pv pb (af (wpAny_holding (wpAny_truthy_bool (af (wpAny_letGo (am ?_))))))))))
  cases eb:bt (j+1) (argBest bt j) with
  | true =>
   rw[if_pos rfl];refine af (wpAny_updateSeq g1 rfl (af (wpAny_letGo ?_)));rw[nm];exact am ⟨plainId_quiet F.plain_max_loop _,ih (j+1) _ v _ (!1) (W.frame _ _ _ P5 λx xf o e=>(aO _ _ (λq:z=x=>zf (by rw[q];exact xf))).trans e) (by simp only[argBest,eb,if_true];exact pv) (ba _ g1 rfl) (Js k2) λv' h2 t2 p2 k3=>fin v' h2 t2 p2 k3⟩
  | false =>
   rw[if_neg (!2)];refine af (wpAny_letGo ?_);rw[nm];exact am ⟨plainId_quiet F.plain_max_loop _,ih (j+1) _ b c (!1) P5 (by simp only[argBest,eb,bQ,if_false];exact pb) g1 k2 λv' h2 t2 p2 k3=>fin v' h2 t2 p2 k3⟩
theorem Qo {l:Addr}{vs:Array ah}{bt:Nat->Nat->Bool}{Q:ah->aA->Prop}(hh:A.handled=none)(gl:s.heap.IsList l vs)(ne:0<vs.size)(cmp:yy prog w A.in1 s.heap .Gt (λi v=>vs[i]? = some v) bt)
  (fin:∀v h1 tk,vs[argBest bt (vs.size - 1)]? = some v->jo s.heap h1->Q v { s with heap:=h1,toks:=tk }):aH (!12) A (call (.builtin "max") [.ref l]) Q E s:=by
 have nm:(toString "max" ++ toString ".loop" : String) = "max.loop" := by decide
 have ll:l<s.heap.objs.size:=let ⟨_,e,_⟩:=gl;aF e;refine call_function_tree F.kind_max F.plain_max F.entry_max (F.args_max1 _) ?_;refine af (m:=Builtin.Builtins.bindParams "max" ["key", "default"] 0 ⟨[],[]⟩) (wpAny_of_eq (show _=pure [none,none] from rfl) (af (am (af ?_))));(refine wpAny_pyIter_list gl (af (aY ?_));rw[nm];have W:=Walks.list (prog:=prog) (w:=w) (A:=A.in1) hh s.heap.objs.size l (aR ll) vs);have no:∀k,s.heap.get? (s.heap.objs.size+k)=none:=λk=>by simp[Heap.get?]
 have gi:(s.heap.push { cls:=.type "list_iterator",data:=.fields #[.ref l,.int 0 0] }).IsListIter s.heap.objs.size l 0:=⟨_,aB _ rfl,rfl,rfl⟩;have sz:(s.heap.push { cls:=.type "list_iterator",data:=.fields #[.ref l,.int 0 0] }).objs.size=s.heap.objs.size+1:=bx ..;have rL:jo s.heap (s.heap.push { cls:=.type "list_iterator",data:=.fields #[.ref l,.int 0 0] }):=λb o e=>aj _ e;have Hm:(s.heap.push { cls:=.type "list_iterator",data:=.fields #[.ref l,.int 0 0] }).IsList l vs:=gl.push _;show aH _ _ _ _ _ { s with heap:=(s.heap.push { cls:=.type "list_iterator",data:=.fields #[.ref l,.int 0 0] }).push { cls:=.type "list",data:=.seq #[] 0 } };generalize s.heap.push { cls:=.type "list_iterator",data:=.fields #[.ref l,.int 0 0] }=h1 at gi sz rL Hm ⊢;have gz:(h1.push { cls:=.type "list",data:=.seq #[] 0 }).get? h1.objs.size=some { cls:=.type "list",data:=.seq #[] 0 }:=aB _ rfl;have pR:jo h1 (h1.push { cls:=.type "list",data:=.seq #[] 0 }):=λb o e=>aj _ e
 have zf:h1.objs.size ∉ [s.heap.objs.size,l]:=by
  rw[sz];simp only[ax,bw,or_false,not_or];exact⟨cH _,bv (bO ll)⟩
 have zw:h1.objs.size ∉ [s.heap.objs.size]:=λy=>zf (W.sub _ y);refine am ⟨plainId_quiet F.plain_max_loop _,codeAny_builtin F.entry_max_loop ?_⟩;rw[Around.under_plainId F.plain_max_loop _];refine af (m:=seqItems? (.ref h1.objs.size)) (wpAny_seqItems gz rfl ?_);refine af (m:=tryCatch (pyNext (!14)) _) (wpAny_tryCatch (W.item 0 _ _ _ ne (W.frame _ _ _ ⟨gi,Hm⟩ λb _ o e=>pR b o e) λv h3 t3 pv HI k3=>?_));have g3:=k3 _ _ zw gz;(have vF:jo s.heap h3:=λb o e=>k3 b o (λy=>by rw[ap.mp y,<- cQ s.heap.objs.size,no] at e;cases e) (pR b o (rL b o e)));refine af (m:=updateSeq h1.objs.size λ_=>#[v,v]) (wpAny_updateSeq g3 rfl ?_);rw[nm];refine am ⟨plainId_quiet F.plain_max_loop _,Qn W (λb hb=>by rw[ap.mp hb,<- cQ s.heap.objs.size];exact no 0) bt cmp h1.objs.size zf (by rw[sz];exact no 1) (vs.size - 1) 0 _ v _ (!1) (W.frame _ _ _ HI λx xf o e=>(aO _ _ (λq:h1.objs.size=x=>zf (by rw[q];exact xf))).trans e) pv (ba _ g3 rfl) (λx o e=>(aO _ _ (λq:h1.objs.size=x=>by rw[<- q,sz,no] at e;cases e)).trans (vF x o e)) λv' h4 t4 p4 k4=>fin v' h4 t4 p4 k4⟩
end
noncomputable def p9 (op:CmpOp)(A:Around)(s:aA)(y x:ah)(b:Bool):Prop :=
 ∀(prog:bf) (w:World) (E:ah->aA->Prop) (Q:ah->aA->Prop),Q (.bool b) s->aH (!12) A (richCompare op y x) Q E s
noncomputable def kR (e f:Nat->Bool)(fin:Bool):List Nat->Bool
 | []=>fin
 | i::r=>if e i then kR e f fin r else f i
mutual
def iF (g:Bool):ae->ae->Option Bool
 | .int i,.int j=>some (if g then decide (j<i) else decide (i<j))
 | .tuple xs,.tuple ys=>jx g xs ys
 | _,_=>none
def jx (g:Bool):List ae->List ae->Option Bool
 | [],[]=>some false
 | [],_::_=>some (!g)
 | _::_,[]=>some g
 | x::xs,y::ys=>if ae.eqv x y then jx g xs ys else iF g x y
end
theorem sM:∀(xs ys:List ae) (j:Nat) (r:Bool),jx g xs ys=some r->j<xs.length->j<ys.length->(∀i<j,SeqAt.pairEq xs ys i=true)->SeqAt.pairEq xs ys j=false->∃q,iF g (xs.getD j .none) (ys.getD j .none)=some q
 | [],_,_,_,_,h,_,_,_=>absurd h (dv _)
 | _::_,[],_,_,_,_,h,_,_=>absurd h (dv _)
 | x::xs,y::ys,j,r,e,h1,h2,al,hj=>by
  rw[jx] at e
  cases j with
  | zero =>
   have:ae.eqv x y=false:=hj;rw[this,if_neg (!2)] at e;exact⟨r,e⟩
  | succ j =>
   have:ae.eqv x y=true:=al 0 (Nat.succ_pos _);rw[this,if_pos rfl] at e;exact sM xs ys j r e (ce h1) (ce h2) (λi hi=>al (i+1) (Nat.succ_lt_succ hi)) hj
theorem jb:∀{vs:List ah} {xs:List ae} {as:List Addr},ReadsAll h vs xs as->∀{j:Nat} (hj:j<vs.length),∃bs,Reads h vs[j] (xs.getD j .none) bs
 | _::_,_::_,_,.cons r rs,j,hj=>by
  cases j with
  | zero=>exact⟨_,r⟩
  | succ j=>exact jb rs (ce hj)
theorem vG:∀{xs:List ae} {j:Nat},j<xs.length->(xs.getD j .none).depth<=ae.depthAll xs
 | x::xs,0,_=>by simp only[ae.depthAll,List.getD_cons_zero];omega
 | x::xs,j+1,h=>by
  have:=vG (xs:=xs) (j:=j) (ce h);simp only[ae.depthAll,List.getD_cons_succ];omega
theorem vH:∀{xs:List ae} {j:Nat},ae.canLayAll0 xs=true->j<xs.length->(xs.getD j .none).canLay0=true
 | x::xs,0,h,_=>by simp only[ae.canLayAll0,bn] at h;exact h.1
 | x::xs,j+1,h,hj=>by simp only[ae.canLayAll0,bn] at h;exact vH (xs:=xs) (j:=j) h.2 (ce hj)
theorem sN (e f:Nat->Bool)(fin:Bool):∀l:List Nat,kR e f fin (l.map (· + 1))=kR (λi=>e (i+1)) (λi=>f (i+1)) fin l
 | []=>rfl
 | i::l=>by rw[ai,kR,kR,sN e f fin l]
theorem Qq (l b:Addr)(xs ys:Array ah)(n m:Nat)(d1 d2:Option Addr)(s1 s2:Array (Option ah))(e f:Nat->Bool) :
  Meets (Builtin.«tuple.__lt__» ⟨[.ref l,.ref b],[]⟩) (λA R s=>s.heap.get? l=some { cls:=.type "tuple",dict:=d1,data:=.seq xs n,slots:=s1 }/\s.heap.get? b=some { cls:=.type "tuple",dict:=d2,data:=.seq ys m,slots:=s2 } /\
    (∀j (h1:j<xs.size) (h2:j<ys.size),SeqAt.EqAt A.in1 s xs[j] ys[j] (e j))/\(∀j (h1:j<xs.size) (h2:j<ys.size),(∀i<j,e i=true)->e j=false->p9 .Lt A.in1 s xs[j] ys[j] (f j)) /\
    R (.ok (.ret (.bool (kR e f (decide (xs.size<ys.size)) (((List.range (min xs.size ys.size)))))))) s) :=
 .of_wp λprog w A R s h=>by
  obtain⟨hp,g,d,tk,os⟩:=s;obtain⟨gl,gb,he,hf,h⟩:=h;have sub:=AutoSeq1.sub_tuple_tuple;have zl:(xs.toList.zip ys.toList).length=min xs.size ys.size:=by simp
  wp_walk using AutoSeq1.wpAny_loadPart' gl,AutoSeq1.wpAny_loadPart' gb,wpAny_forIn_list _ (λleft b s'=>b.1=none/\s'=⟨hp,g,d,tk,os⟩/\∃i,left=(xs.toList.zip ys.toList).drop i/\(∀k<i,e k=true)/\R (.ok (.ret (.bool (kR e f (decide (xs.size<ys.size)) ((((List.range (min xs.size ys.size)))).drop i))))) ⟨hp,g,d,tk,os⟩) _
  case turn =>
   rintro⟨y,x⟩ left b s' ⟨nb,rfl,i,ez,al,rr⟩;have il:i<(xs.toList.zip ys.toList).length:=Nat.lt_of_not_le λq=>by rw[bV q] at ez;cases ez
   have im:i<min xs.size ys.size:=zl ▸ il;have i1:i<xs.size:=by omega
   have i2:i<ys.size:=by omega
   rw[bI il] at ez;injection ez with ep er;obtain rfl:y=xs[i]:=by simpa using congrArg Prod.fst ep
   obtain rfl:x=ys[i]:=by simpa using congrArg Prod.snd ep
   rw[show (((List.range (min xs.size ys.size)))).drop i=i::(((List.range (min xs.size ys.size)))).drop (i+1) by simp[bI,im],kR] at rr;refine af (he i i1 i2 prog w _ _ ?_)
   cases ei:e i with
   | true =>
    rw[ei,if_pos rfl] at rr
    wp_walk
    exact⟨rfl,rfl,i+1,er,λk hk=>(cs k i).elim (al k) λq=>by rw[show k=i by omega];exact ei,rr⟩
   | false =>
    rw[ei,if_neg (!2)] at rr;have hc:=hf i i1 i2 al ei prog w
    wp_walk using hc _ _
    exact⟨_,rfl,by simpa using rr⟩
  case fin =>
   rintro⟨b1,b2⟩ s' ⟨nb,rfl,i,ez,_,rr⟩;simp only at nb;subst nb;have ge:min xs.size ys.size<=i:=Nat.le_of_not_lt λq=>by rw[bI (zl.symm ▸ q)] at ez;cases ez
   rw[bV (by simpa using ge),kR] at rr
   wp_walk
   exact⟨_,rfl,by simpa [Builtin.Tuple.tupleCompareSizes] using rr⟩
  case h=>exact⟨rfl,rfl,0,!4,!4,by simpa using h⟩
theorem p9.Mp (hl:s.heap.IsTuple l xs)(hb:s.heap.IsTuple b ys)(hu:A.units<cLine)(he:∀j (h1:j<xs.size) (h2:j<ys.size),SeqAt.EqAt A.in1 s xs[j] ys[j] (e j))
  (hf:∀j (h1:j<xs.size) (h2:j<ys.size),(∀i<j,e i=true)->e j=false->p9 .Lt A.in1 s xs[j] ys[j] (f j)):p9 .Lt A s (.ref l) (.ref b) (kR e f (decide (xs.size<ys.size)) (((List.range (min xs.size ys.size))))):=λprog w E Q h=>by
 obtain⟨⟨c1,d1,data,s1⟩,ho,hc,n,hd⟩:=id hl;obtain⟨⟨c2,d2,data2,s2⟩,FV,He,n2,AS⟩:=id hb;simp only at hc hd He AS;subst hc hd He AS;exact richCompare_meets_room (op:=.Lt) ⟨_,ho,rfl⟩ ⟨_,FV,rfl⟩ F.slot_tuple_lt F.entry_tuple_lt (F.args_tuple_lt_2 _ _) (Qq l b xs ys n n2 d1 d2 s1 s2 e f) ⟨ho,FV,he,hf,show ah.bool _≠ah.notImplemented/\Q (.bool _) s from ⟨(λx=>nomatch x),h⟩⟩ hu
theorem lex_lt:∀(xs ys:List ae) (r:Bool),jx false xs ys=some r->kR (SeqAt.pairEq xs ys) (λj=>(iF false (xs.getD j .none) (ys.getD j .none)).getD false) (decide (xs.length<ys.length)) (List.range (min xs.length ys.length))=r
 | [],[],r,e=>by cases e;rfl
 | [],y::ys,r,e=>by cases e;simp[kR]
 | x::xs,[],r,e=>by cases e;simp[kR]
 | x::xs,y::ys,r,e=>by
  rw[jx] at e;rw[ak,ak,Nat.succ_min_succ,dr,kR]
  cases q:ae.eqv x y with
  | true =>
   rw[q,if_pos rfl] at e;rw[if_pos (show SeqAt.pairEq (x::xs) (y::ys) 0=true from q)];have:=lex_lt xs ys r e;rw[show List.map Nat.succ=List.map (· + 1) from rfl,sN,show decide (xs.length+1<ys.length+1)=decide (xs.length<ys.length) by simp];exact this
  | false =>
   rw[q,if_neg (!2)] at e;rw[if_neg (by rw[show SeqAt.pairEq (x::xs) (y::ys) 0=false from q];decide)];simp only[List.getD_cons_zero,e,cw]
theorem NV:∀(N:Nat) (da db:ae) (r:Bool) (A:Around) (s:aA) (a b:ah) (as bs:List Addr),da.depth<=N->Reads s.heap a da as->Reads s.heap b db bs->da.canLay0=true->db.canLay0=true->A.units+N<cLine->iF false da db=some r->p9 .Lt A s a b r:=by
 intro N
 induction N with
 | zero =>
  intro da db r A s a b as bs hN ra rb ha hb hu e
  cases ra with
  | int i t =>
   cases rb with
   | int j u =>
    cases e;(exact λprog w E Q h=>richCompare_gives (op:=.Lt) (typeIs_int s _ t) (typeIs_int s _ u) F.slot_int_lt F.entry_int_lt (F.args_int_lt_2 _ _) (gives_int_lt _ _ t u) (λx=>nomatch x) h)
   | _=>simp[iF] at e
  | tuple=>simp[ae.depth] at hN
  | _=>simp[iF] at e
 | succ N ih =>
  intro da db r A s a b as bs hN ra rb ha hb hu e
  cases ra with
  | int i t =>
   cases rb with
   | int j u =>
    cases e;(exact λprog w E Q h=>richCompare_gives (op:=.Lt) (typeIs_int s _ t) (typeIs_int s _ u) F.slot_int_lt F.entry_int_lt (F.args_int_lt_2 _ _) (gives_int_lt _ _ t u) (λx=>nomatch x) h)
   | _=>simp[iF] at e
  | @tuple l o vs n xs TV h1 h2 h3 h4 =>
   cases rb with
   | @tuple l' o' ws n' ys TX k1 k2 k3 k4 =>
    have n1:vs.size=xs.length:=by simpa using SeqAt.ReadsAll.length _ _ _ h4
    have n2:ws.size=ys.length:=by simpa using SeqAt.ReadsAll.length _ _ _ k4
    simp only[ae.depth] at hN;simp only[iF] at e
    have he:∀j (j1:j<vs.size) (j2:j<ws.size),SeqAt.EqAt A.in1 s vs[j] ws[j] (SeqAt.pairEq xs ys j):=λj j1 j2=>by
     have Qa:A.in1.units+min (ae.depthAll xs) (ae.depthAll ys)<cLine:=by show A.units+1+_<_;omega
     have q:=SeqAt.eqAt_readsAll xs ys A.in1 s vs.toList ws.toList _ _ h4 k4 ha hb Qa j (by simpa using j1) (by simpa using j2);rw[ca,ca] at q;exact q
    have hf:∀j (j1:j<vs.size) (j2:j<ws.size),(∀i<j,SeqAt.pairEq xs ys i=true)->SeqAt.pairEq xs ys j=false->p9 .Lt A.in1 s vs[j] ws[j] ((iF false (xs.getD j .none) (ys.getD j .none)).getD false):=λj j1 j2 al hj=>by
     obtain⟨q,hq⟩:=sM xs ys j r e (!1) (!1) al hj;obtain⟨WK,r1⟩:=jb h4 (j:=j) (by simpa using j1);obtain⟨WL,r2⟩:=jb k4 (j:=j) (by simpa using j2);rw[hq];have d1:=vG (xs:=xs) (j:=j) (!1);have q2:=ih _ _ q A.in1 s _ _ WK WL (!1) r1 r2 (vH ha (!1)) (vH hb (!1)) (by show A.units+1+_<_;omega) hq;rw[ca,ca] at q2;exact q2
    have:=p9.Mp ⟨_,h1,h2,_,h3⟩ ⟨_,k1,k2,_,k3⟩ (show A.units<cLine by omega) he hf;rw[n1,n2,lex_lt xs ys r e] at this;exact this
   | _=>simp[iF] at e
  | _=>simp[iF] at e
theorem Qr (l b:Addr)(xs ys:Array ah)(n m:Nat)(d1 d2:Option Addr)(s1 s2:Array (Option ah))(e f:Nat->Bool) :
  Meets (Builtin.«tuple.__gt__» ⟨[.ref l,.ref b],[]⟩) (λA R s=>s.heap.get? l=some { cls:=.type "tuple",dict:=d1,data:=.seq xs n,slots:=s1 }/\s.heap.get? b=some { cls:=.type "tuple",dict:=d2,data:=.seq ys m,slots:=s2 } /\
    (∀j (h1:j<xs.size) (h2:j<ys.size),SeqAt.EqAt A.in1 s xs[j] ys[j] (e j))/\(∀j (h1:j<xs.size) (h2:j<ys.size),(∀i<j,e i=true)->e j=false->p9 .Gt A.in1 s xs[j] ys[j] (f j)) /\
    R (.ok (.ret (.bool (kR e f (decide (xs.size > ys.size)) (((List.range (min xs.size ys.size)))))))) s) :=
 .of_wp λprog w A R s h=>by
  obtain⟨hp,g,d,tk,os⟩:=s;obtain⟨gl,gb,he,hf,h⟩:=h;have sub:=AutoSeq1.sub_tuple_tuple;have zl:(xs.toList.zip ys.toList).length=min xs.size ys.size:=by simp
  wp_walk using AutoSeq1.wpAny_loadPart' gl,AutoSeq1.wpAny_loadPart' gb,wpAny_forIn_list _ (λleft b s'=>b.1=none/\s'=⟨hp,g,d,tk,os⟩/\∃i,left=(xs.toList.zip ys.toList).drop i/\(∀k<i,e k=true)/\R (.ok (.ret (.bool (kR e f (decide (xs.size > ys.size)) ((((List.range (min xs.size ys.size)))).drop i))))) ⟨hp,g,d,tk,os⟩) _
  case turn =>
   rintro⟨y,x⟩ left b s' ⟨nb,rfl,i,ez,al,rr⟩;have il:i<(xs.toList.zip ys.toList).length:=Nat.lt_of_not_le λq=>by rw[bV q] at ez;cases ez
   have im:i<min xs.size ys.size:=zl ▸ il;have i1:i<xs.size:=by omega
   have i2:i<ys.size:=by omega
   rw[bI il] at ez;injection ez with ep er;obtain rfl:y=xs[i]:=by simpa using congrArg Prod.fst ep
   obtain rfl:x=ys[i]:=by simpa using congrArg Prod.snd ep
   rw[show (((List.range (min xs.size ys.size)))).drop i=i::(((List.range (min xs.size ys.size)))).drop (i+1) by simp[bI,im],kR] at rr;refine af (he i i1 i2 prog w _ _ ?_)
   cases ei:e i with
   | true =>
    rw[ei,if_pos rfl] at rr
    wp_walk
    exact⟨rfl,rfl,i+1,er,λk hk=>(cs k i).elim (al k) λq=>by rw[show k=i by omega];exact ei,rr⟩
   | false =>
    rw[ei,if_neg (!2)] at rr;have hc:=hf i i1 i2 al ei prog w
    wp_walk using hc _ _
    exact⟨_,rfl,by simpa using rr⟩
  case fin =>
   rintro⟨b1,b2⟩ s' ⟨nb,rfl,i,ez,_,rr⟩;simp only at nb;subst nb;have ge:min xs.size ys.size<=i:=Nat.le_of_not_lt λq=>by rw[bI (zl.symm ▸ q)] at ez;cases ez
   rw[bV (by simpa using ge),kR] at rr
   wp_walk
   exact⟨_,rfl,by simpa [Builtin.Tuple.tupleCompareSizes] using rr⟩
  case h=>exact⟨rfl,rfl,0,!4,!4,by simpa using h⟩
theorem p9.Mq (hl:s.heap.IsTuple l xs)(hb:s.heap.IsTuple b ys)(hu:A.units<cLine)(he:∀j (h1:j<xs.size) (h2:j<ys.size),SeqAt.EqAt A.in1 s xs[j] ys[j] (e j))
  (hf:∀j (h1:j<xs.size) (h2:j<ys.size),(∀i<j,e i=true)->e j=false->p9 .Gt A.in1 s xs[j] ys[j] (f j)):p9 .Gt A s (.ref l) (.ref b) (kR e f (decide (xs.size > ys.size)) (((List.range (min xs.size ys.size))))):=λprog w E Q h=>by
 obtain⟨⟨c1,d1,data,s1⟩,ho,hc,n,hd⟩:=id hl;obtain⟨⟨c2,d2,data2,s2⟩,FV,He,n2,AS⟩:=id hb;simp only at hc hd He AS;subst hc hd He AS;exact richCompare_meets_room (op:=.Gt) ⟨_,ho,rfl⟩ ⟨_,FV,rfl⟩ F.slot_tuple_gt F.entry_tuple_gt (F.args_tuple_gt_2 _ _) (Qr l b xs ys n n2 d1 d2 s1 s2 e f) ⟨ho,FV,he,hf,show ah.bool _≠ah.notImplemented/\Q (.bool _) s from ⟨(λx=>nomatch x),h⟩⟩ hu
theorem Jt:∀(xs ys:List ae) (r:Bool),jx true xs ys=some r->kR (SeqAt.pairEq xs ys) (λj=>(iF true (xs.getD j .none) (ys.getD j .none)).getD false) (decide (xs.length > ys.length)) (List.range (min xs.length ys.length))=r
 | [],[],r,e=>by cases e;rfl
 | [],y::ys,r,e=>by cases e;simp[kR]
 | x::xs,[],r,e=>by cases e;simp[kR]
 | x::xs,y::ys,r,e=>by
  rw[jx] at e;rw[ak,ak,Nat.succ_min_succ,dr,kR]
  cases q:ae.eqv x y with
  | true =>
   rw[q,if_pos rfl] at e;rw[if_pos (show SeqAt.pairEq (x::xs) (y::ys) 0=true from q)];have:=Jt xs ys r e;rw[show List.map Nat.succ=List.map (· + 1) from rfl,sN,show decide (xs.length+1 > ys.length+1)=decide (xs.length > ys.length) by simp];exact this
  | false =>
   rw[q,if_neg (!2)] at e;rw[if_neg (by rw[show SeqAt.pairEq (x::xs) (y::ys) 0=false from q];decide)];simp only[List.getD_cons_zero,e,cw]
theorem TY:∀(N:Nat) (da db:ae) (r:Bool) (A:Around) (s:aA) (a b:ah) (as bs:List Addr),da.depth<=N->Reads s.heap a da as->Reads s.heap b db bs->da.canLay0=true->db.canLay0=true->A.units+N<cLine->iF true da db=some r->p9 .Gt A s a b r:=by
 intro N
 induction N with
 | zero =>
  intro da db r A s a b as bs hN ra rb ha hb hu e
  cases ra with
  | int i t =>
   cases rb with
   | int j u =>
    cases e;exact λprog w E Q h=>richCompare_gives (op:=.Gt) (typeIs_int s _ t) (typeIs_int s _ u) F.slot_int_gt F.entry_int_gt (F.args_int_gt_2 _ _) (gives_int_gt _ _ t u) (λx=>nomatch x) h
   | _=>simp[iF] at e
  | tuple=>simp[ae.depth] at hN
  | _=>simp[iF] at e
 | succ N ih =>
  intro da db r A s a b as bs hN ra rb ha hb hu e
  cases ra with
  | int i t =>
   cases rb with
   | int j u =>
    cases e;exact λprog w E Q h=>richCompare_gives (op:=.Gt) (typeIs_int s _ t) (typeIs_int s _ u) F.slot_int_gt F.entry_int_gt (F.args_int_gt_2 _ _) (gives_int_gt _ _ t u) (λx=>nomatch x) h
   | _=>simp[iF] at e
  | @tuple l o vs n xs TV h1 h2 h3 h4 =>
   cases rb with
   | @tuple l' o' ws n' ys TX k1 k2 k3 k4 =>
    have n1:vs.size=xs.length:=by simpa using SeqAt.ReadsAll.length _ _ _ h4
    have n2:ws.size=ys.length:=by simpa using SeqAt.ReadsAll.length _ _ _ k4
    simp only[ae.depth] at hN;simp only[iF] at e
    have he:∀j (j1:j<vs.size) (j2:j<ws.size),SeqAt.EqAt A.in1 s vs[j] ws[j] (SeqAt.pairEq xs ys j):=λj j1 j2=>by
     have Qa:A.in1.units+min (ae.depthAll xs) (ae.depthAll ys)<cLine:=by show A.units+1+_<_;omega
     have q:=SeqAt.eqAt_readsAll xs ys A.in1 s vs.toList ws.toList _ _ h4 k4 ha hb Qa j (by simpa using j1) (by simpa using j2);rw[ca,ca] at q;exact q
    have hf:∀j (j1:j<vs.size) (j2:j<ws.size),(∀i<j,SeqAt.pairEq xs ys i=true)->SeqAt.pairEq xs ys j=false->p9 .Gt A.in1 s vs[j] ws[j] ((iF true (xs.getD j .none) (ys.getD j .none)).getD false):=λj j1 j2 al hj=>by
     obtain⟨q,hq⟩:=sM xs ys j r e (!1) (!1) al hj;obtain⟨WK,r1⟩:=jb h4 (j:=j) (by simpa using j1);obtain⟨WL,r2⟩:=jb k4 (j:=j) (by simpa using j2);rw[hq];have d1:=vG (xs:=xs) (j:=j) (!1);have q2:=ih _ _ q A.in1 s _ _ WK WL (!1) r1 r2 (vH ha (!1)) (vH hb (!1)) (by show A.units+1+_<_;omega) hq;rw[ca,ca] at q2;exact q2
    have:=p9.Mq ⟨_,h1,h2,_,h3⟩ ⟨_,k1,k2,_,k3⟩ (show A.units<cLine by omega) he hf;rw[n1,n2,Jt xs ys r e] at this;exact this
   | _=>simp[iF] at e
  | _=>simp[iF] at e
noncomputable def jc (g:Bool):ae->List ae->ae
 | b,[]=>b
 | b,d::ds=>jc g (if (iF g d b).getD false=true then d else b) ds
theorem vI (g:Bool)(x:ae):∀(b:ae) (l:List ae),jc g b (l++[x])=if (iF g x (jc g b l)).getD false=true then x else jc g b l
 | b,[]=>rfl
 | b,d::l=>by rw[aN,jc,jc,vI g x _ l]
noncomputable def xr (g:Bool)(ds:List ae):Prop:=∀x∈ds,(x.canLay0=true/\x.depth<=50)/\∀y∈ds,(iF g x y).isSome=true
open Classical in
noncomputable def oN (g:Bool)(as:List ae):Option ae:=match as with | [.list (d::ds)]=>if xr g (d::ds) then some (jc g d ds) else none | _=>none
noncomputable abbrev tJ:=oN false
noncomputable def Ho (g:Bool)(L:List ae)(i j:Nat):Bool:=(iF g (L.getD i .none) (L.getD j .none)).getD false
theorem z6 (g:Bool)(d:ae)(ds:List ae):∀k,k<=ds.length->(d::ds).getD (argBest (Ho g (d::ds)) k) .none=jc g d (ds.take k)
 | 0,_=>rfl
 | k+1,h=>by
  have ih:=z6 g d ds k (!1);have hk:k<ds.length:=h;rw[argBest,List.take_succ_eq_append_getElem hk,vI,<- ih]
  have e:Ho g (d::ds) (k+1) (argBest (Ho g (d::ds)) k)=(iF g ds[k] ((d::ds).getD (argBest (Ho g (d::ds)) k) .none)).getD false:=by
   unfold Ho;simp[au,hk]
  rw[e];split
  .simp[au,hk]
  .rfl
theorem dP.WM:∀{ds:List ae} {xs:List V} {us:List ah},dP S H ds xs->eS xs us->∀(j:Nat) (hj:j<us.length),∃v,eU S H (ds.getD j .none) v/\RelV v us[j]
 | [],_,us,r,q,j,hj=>by
  cases r.fI;cases q;exact absurd hj (dv _)
 | d::ds,_,us,r,q,j,hj=>by
  obtain⟨x,t,rfl,h1,h2⟩:=r.of_cons
  cases q with
  | cons q1 q2 =>
   cases j with
   | zero=>exact⟨_,h1,q1⟩
   | succ j=>exact dP.WM h2 q2 j (ce hj)
theorem qa:∀{ds:List ae},(∀x∈ds,x.canLay0=true)->ae.canLayAll0 ds=true
 | [],_=>rfl
 | d::ds,h=>by rw[ae.canLayAll0,h d (ao ..),qa λx hx=>h x (ag _ hx)];rfl
section
theorem DD (g:Bool)(hc:X.calm=true)(hu:X.A.units+64<cLine):gL X (.builtin (if g then "max" else "min")) (λxs H Q=>∃p ys S d ds,xs=[.ref p]/\gx X.K H p ys/\dP S H (d::ds) ys/\xr g (d::ds)/\∀v,eU S H (jc g d ds) v->Q v H):=by
 (intro pins s σ H xs us Q I r h);obtain⟨p,ys,S,d,ds,rfl,hp,hr,GG,q⟩:=h;rw[12];cases ru;obtain⟨its,rv,ht,hz⟩:=I.list hp;have hlen:its.length=(d::ds).length:=by rw[<- rv.length,hr.length]
 have Dn:ae.canLayAll0 (d::ds)=true:=qa λx hx=>(GG x hx).1.1
 have tX:∀i,i<its.length->(d::ds).getD i .none∈d::ds:=λi hi=>by
  rw[au,aM (!1),cw];exact bU _
 have TZ:∀op:CmpOp,(∀(a b:ae) (r:Bool) (A:Around) (s:aA) (u v:ah) (as bs:List Addr),a.depth<=50->Reads s.heap u a as->Reads s.heap v b bs->a.canLay0=true->b.canLay0=true->A.units+50<cLine->iF g a b=some r->p9 op A s u v r) ->
   yy X.prog X.w X.A.in1 s.heap op (λi v=>its.toArray[i]? = some v) (Ho g (d::ds)):=λop hop i j u v s' Q' E' held hi hj hq=>by
  have hi:its.toArray[i]? = some u:=hi;have hj:its.toArray[j]? = some v:=hj;rw[cr] at hi hj;obtain⟨as,ra⟩:=dP.reads (I.kept (h':=s'.heap) (t':=s.toks) held).hok Dn hr rv;obtain⟨i1,rfl⟩:=aG.mp hi;obtain⟨j1,rfl⟩:=aG.mp hj;obtain⟨WN,r1⟩:=jb ra i1;obtain⟨WO,r2⟩:=jb ra j1;have mi:=tX i i1;have mj:=tX j j1;obtain⟨r,hr⟩:=bX.mp ((GG _ mi).2 _ mj);have e:Ho g (d::ds) i j=r:=by unfold Ho;rw[hr];rfl
  rw[e] at hq;exact hop _ _ r X.A.in1 s' _ _ WN WO (GG _ mi).1.2 r1 r2 (GG _ mi).1.1 (GG _ mj).1.1 (by show X.A.units+1+50<_;omega) hr X.prog X.w E' Q' hq
 have fin:∀(v:ah) (h1:Heap) (tk:Nat),its.toArray[argBest (Ho g (d::ds)) (its.toArray.size - 1)]? = some v->jo s.heap h1->EP X pins σ Q v { s with heap:=h1,toks:=tk }:=λv h1 tk hv held=>by
  rw[cr] at hv;obtain⟨k1,rfl⟩:=aG.mp hv;obtain⟨x,rx,pL⟩:=hr.WM rv _ k1;have hs:its.toArray.size - 1=ds.length:=by rw[aD,hlen,ak];omega
  rw[hs,z6 g d ds ds.length (aw _),dk] at rx;exact⟨x,H,I.kept held,pL,q x rx⟩
 have gX:0<its.toArray.size:=by rw[aD,hlen,ak];omega
 cases g with
 | true=>exact Qo (I.ok.hd hc) ht.isList gX (TZ .Gt λa b r A s u v as bs=>TY 50 a b r A s u v as bs) fin
 | false=>exact Qm (I.ok.hd hc) ht.isList gX (TZ .Lt λa b r A s u v as bs=>NV 50 a b r A s u v as bs) fin
theorem Mr (g:Bool)(hc:X.calm=true)(hu:X.A.units+64<cLine):mI X (.builtin (if g then "max" else "min")) (oN g):=⟨_,DD g hc hu,λgs S H as vs d R _ _ rs e k=>by
 unfold oN at e;split at e
 .rename_i d0 ds
  split at e
  .rename_i GG
   cases e;obtain⟨v,rfl,rl⟩:=rs.one;obtain⟨a,xs,rfl,sq,_,rr⟩:=rl.K0 (K:=X.K);exact⟨a,xs,S,d0,ds,rfl,sq,rr,GG,λv rv=>k v H rv (!27)⟩
  .cases e
 .cases e⟩
theorem z7 (hc:X.calm=true)(hu:X.A.units+64<cLine):mI X (.builtin "min") tJ:=Mr false hc hu
end
theorem RM (hr:ik k A)(h:d<=k:=by decide):ik d A:=hr.mono h
theorem nd (N:List Str)(h:N.Nodup:=by decide +kernel):N.Nodup:=h
theorem co (N:List Str)(s:Scope)(h:iR N s sc N' mp=true:=by decide +kernel):iR N s sc N' mp=true:=h
theorem z8 (h:sc.names.lookup x=some aT.cell):(relabel sc env).names.lookup x=some aT.cell:=by
 show (sc.names.map _).lookup x=_;generalize sc.names=l at h
 induction l with
 | nil=>cases h
 | cons p r ih =>
  obtain⟨n,k⟩:=p;rw[ai];dsimp only;by_cases hc:(k == aT.free && env.scope.kind == .function && env.kindOf n == some .cell)=true
  .rw[if_pos hc,bT]
   cases e:x == n with
   | true=>rfl
   | false =>
    rw[bT,e] at h;exact ih h
  .rw[if_neg hc,bT]
   cases e:x == n with
   | true =>
    rw[bT,e] at h;exact h
   | false =>
    rw[bT,e] at h;exact ih h
theorem NW {N N':List Str}{s0 sc:Scope}{env:Env}{mp:List (Option Nat)}(h:iR N s0 sc N' mp=true):iR N (relabel s0 env) sc N' mp=true:=by
 unfold iR at h ⊢;simp only[bn,dj] at h ⊢;obtain⟨⟨⟨⟨⟨h1,h2⟩,h3⟩,h6⟩,h4⟩,h5⟩:=h;refine⟨⟨⟨⟨⟨h1,h2⟩,λp hp=>?_⟩,h6⟩,h4⟩,h5⟩;have:=h3 p hp;rw[Bool.or_eq_true] at this ⊢;refine this.imp id λh=>?_;rw[Bool.or_eq_true,beq_iff_eq,beq_iff_eq] at h ⊢;rcases h with h | h
 .exact .inl (z8 h)
 .exact qX h
theorem U9 (h1:s.kind=.function:=by rfl)(h2:s.isCoroutine=false:=by rfl)(h3:s.isGenerator=false:=by rfl)(h4:N.Nodup:=by decide +kernel)(h5:N.take ps.length=ps:=by rfl)
  (h6:∀x∈ps,s.names.lookup x=some .local\/s.names.lookup x=some .cell:=by decide +kernel) (h7:∀y∈s.names,y.2≠.free:=by decide +kernel):gp N ps s:=⟨h1,h2,h3,h4,h5,h6,h7⟩
theorem Ms (is:List Nat)(h:us=is.map fQ:=by rfl):∀u∈us,∀d env (Q:fC->Prop),u d env Q->∃eL,Q eL:=λu hu=>by
 subst h;obtain⟨i,_,rfl⟩:=aU.mp hu;exact Tw
section
theorem jX (i:Nat)(hN:X.N.Nodup)(hx:Loc X.env.scope x:=by exact Or.inl rfl)(hi:X.N[i]? = some x:=by rfl)(hf:X.fn x=true\/X.env.scope.names.lookup x=some .local:=by (first | exact .inl rfl | exact .inr rfl | assumption))(hfd:i ∉ M.fd:=by exact nf _ _ rfl):KG X M (.Name x pos) (fQ i):=Z6 hN hx hi hf hfd
theorem fR (i:Nat)(hN:X.N.Nodup)(h:KE X M e ue)(hx:Loc X.env.scope x:=by exact Or.inl rfl)(hi:X.N[i]? = some x:=by rfl)(hs:swapsWith e (some (.Name x iQ)) pos.line X.env=pure false:=by rfl)
  (hf:X.fn x=true\/X.env.scope.names.lookup x=some .local:=by (first | exact .inl rfl | exact .inr rfl | assumption)) (hfd:i ∉ M.fd:=by exact nf _ _ rfl):KS X M (.Assign [.Name x iQ] e pos) (d7 i ue):=TB hN hx h hi hs hf hfd
theorem BL (i:Nat)(hN:X.N.Nodup)(h:KN X M e un)(hx:Loc X.env.scope x:=by exact Or.inl rfl)(hi:X.N[i]? = some x:=by rfl)(hs:swapsWith e (some (.Name x iQ)) pos.line X.env=pure false:=by rfl)
  (hf:X.fn x=true\/X.env.scope.names.lookup x=some .local:=by (first | exact .inl rfl | exact .inr rfl | assumption)) (hfd:i ∉ M.fd:=by exact nf _ _ rfl):KS X M (.Assign [.Name x iQ] e pos) (oJ i un):=TF hN hx h hi hs hf hfd
end
structure FM (K:W.Frag) (mg:Str->Option ah) (x:Str) (st:Stmt):Prop where
 ex:∃f fd,AX K x x st f fd/\mg x=some (.ref f)
structure NY (K:W.Frag) (x:Str) (st:Stmt):Prop where
 ex:∃f fd,AX K x x st f fd/\W.nsIn K bh x=some (some (.ref f))
theorem NY.of {K:W.Frag}{x:Str}{st:Stmt}{f:Addr}{oc:ah}{od an:Option Addr}{Hd:Array (Option ah)}{kV wV pm fH ct:ah}(a:W.nsIn K bh x=some (some (.ref f)))(l:K.lookup f=some ⟨oc,od,.func (W.fnOf x x (lF st) (gK st) (dM st) .none kV wV pm an fH ct),Hd⟩)
  (c:W.codeIn K fH x=true) (k:W.keepIn K (.ref f)=true):NY K x st:=⟨f,_,HZ l c k,a⟩
theorem NY.m {K:W.Frag}{x:Str}{st:Stmt}{h:Heap}{mg:Str->Option ah}(a:NY K x st)(X:K.In h)(G:h.Ns bh mg):FM K mg x st :=
 let ⟨f,fd,F,n⟩:=a.ex;⟨f,fd,F,W.mg_of X G n⟩
noncomputable def GH (K:W.Frag)(t:Nat->Stmt):List (Str × Nat)->Prop
 | []=>True
 | (x,i)::r=>NY K x (t i)/\GH K t r
theorem BM {K:W.Frag}{t:Nat->Stmt}:GH K t []:=trivial
theorem Ju {K:W.Frag}{t:Nat->Stmt}{x:Str}{i:Nat}{r:List (Str × Nat)}(h:NY K x (t i))(hr:GH K t r):GH K t ((x,i)::r):=⟨h,hr⟩
noncomputable def BD (x:Str)(st:Stmt)(ps:List Str):Prop:=∀(kV wV pm:ah) (an:Option Addr) (fH ct:ah) (us:List ah),us.length=ps.length->bindArgs (W.fnOf x x (lF st) (gK st) (dM st) .none kV wV pm an fH ct) ⟨us,[]⟩=pure (ps.zip us)
section
variable {P:bf}{w:World}{K:W.Frag}{mg:Str->Option ah}{base:Heap}{x:Str}{st:Stmt}{N ps:List Str}{k:Nat}{C:Xc}{Y:yu}
theorem fS (u:US)(N:List Str)(F:FM K mg x st)
  (body:gp N ps (dM st)->∀(f:Addr) (fH:ah) (A:Around) (outer:List Env) (s:aA) (H:Hp) (E:XK) (n0:Int) (S:List Addr) (has:∀a∈S,H a≠none),ik k (((A.deeper (envOfC x (dM st) s.heap.objs.size f fH))))->(((A.deeper (envOfC x (dM st) s.heap.objs.size f fH)))).units+64<cLine->zK (pT zt P w K mg base N x (dM st) f fH A outer s H E).FJ (Fr.pure C n0 S H has) (gK st) u)
  (sc:gp N ps (dM st):=by exact U9) (hb:BD x st ps:=by rw[999]) :
  eD P w K mg base (k+1) x ps (mW C (iC N.length ps.length λ_=>u)) :=
 let ⟨f,_,F,hm⟩:=F.ex;WD (u:=λ_=>u) F hm sc (F.binds hb) λfH A outer s H E n0 S has hr=>body sc f fH A outer s H E n0 S has hr hr.units
theorem BN (u:US)(N:List Str)(F:FM K mg x st)
  (body:gp N ps (dM st)->∀(f:Addr) (fH:ah) (A:Around) (outer:List Env) (s:aA) (H:Hp) (E:XK) (fa sa:Addr) (n0:Int) (S:List Addr) (hf:Y.jW H fa sa n0) (hS:fa∈S) (has:∀a∈S,H a≠none),ik k (((A.deeper (envOfC x (dM st) s.heap.objs.size f fH))))->(((A.deeper (envOfC x (dM st) s.heap.objs.size f fH)))).units+64<cLine ->
   zK (pT zt P w K mg base N x (dM st) f fH A outer s H E).FJ (Fr.feed C Y 0 fa sa n0 S H hf hS has) (gK st) u)
  (sc:gp N ps (dM st):=by exact U9) (hN:1<=N.length:=by decide) (hb:BD x st ps:=by rw[999]) :
  eD P w K mg base (k+1) x ps (xq Y (gV N.length ps.length λ_=>u)) :=
 let ⟨f,_,F,hm⟩:=F.ex;WE (u:=λ_=>u) F hm sc (F.binds hb) hN λfH A outer s H E fa sa n0 S hf hS has hr=>body sc f fH A outer s H E fa sa n0 S hf hS has hr hr.units
end
end L2
namespace PySem
open Sem (wp)
open PyProof.Rows Builtin Builtin.Frozenset
end PySem
namespace L2
open PySem PySem.Spec PyProof.Rows
open PySem.W (KasT kas_asc kas_desc kas_tail3 kas_descPart kas_count kas_place kas_bin kas_sort kas_rev kas_ask kas_item kat_run kat_snds KatTups KatLex KatGo kat_cons kat_nil kat_go kat_yes kat_no kat_one kat_lt kas_mapM kas_first_eq)
theorem eS.at:∀{xs:List V} {us:List ah},eS xs us->∀j,j<us.length->RelV (xs.getD j .jm) (us.getD j ah.none)
 | _,[],_,j,hj=>absurd hj (dv _)
 | _,u::us,q,j,hj=>by
  cases q with
  | cons q1 q2 =>
   cases j with
   | zero=>exact q1
   | succ j=>exact eS.at q2 j (ce hj)
noncomputable abbrev jn:=List (List Int × ae)
noncomputable def qb (t:Bool)(d:ae):Option (List Int):=match t,d with | false,.int i=>some [i] | true,.tuple ds=>jB ds | _,_=>none
noncomputable def fY (kvs:jn)(k:List Int):Option ae:=(kvs.find? λp=>decide (p.1=k)).map (·.2)
noncomputable def jq (kvs:jn)(k:List Int)(d:ae):jn:=if (kvs.any λp=>decide (p.1=k))=true then kvs.map (λp=>if p.1=k then (p.1,d) else p) else kvs++[(k,d)]
section
variable {κ:Type}[DecidableEq κ]{S:List Addr}{H:Hp}{f:List Int->κ}
noncomputable def qc (f:List Int->κ):jn->List V->List (κ × V)
 | p::kvs,x::xs=>(f p.1,x)::qc f kvs xs
 | _,_=>[]
theorem uK (f:List Int->κ):∀{kvs:jn} {xs:List V},dP S H (!26) xs->(qc f kvs xs).length=kvs.length
 | [],_,r=>by cases r.fI;rfl
 | p::kvs,_,r=>by
  (obtain⟨x,t,rfl,r1,r2⟩:=r.of_cons);rw[qc,ak,uK f r2,ak]
theorem uM:∀{kvs:jn} {xs:List V},dP S H (!26) xs->(∀p∈kvs,f p.1=f k->p.1=k)->(fY kvs k=none/\i8 (qc f kvs xs) (f k)=none)\/∃d v,fY kvs k=some d/\i8 (qc f kvs xs) (f k)=some v/\eU S H d v
 | [],_,r,_=>by cases r.fI;exact .inl ⟨rfl,rfl⟩
 | p::kvs,_,r,inj=>by
  (obtain⟨x,t,rfl,r1,r2⟩:=r.of_cons);by_cases e:p.1=k
  .refine .inr ⟨p.2,x,?_,?_,r1⟩
   .unfold fY;rw[bK,decide_eq_true e];rfl
   .rw[qc,gM (by rw[e])]
  .have e2:¬ f p.1=f k:=λz=>e (inj p (ao ..) z)
   have ih:=uM r2 λq hq=>inj q (ag _ hq);have h1:fY (p::kvs) k=fY kvs k:=by unfold fY;rw[bK,decide_eq_false e]
   rw[h1,qc,gN (p:=(f p.1,x)) e2];exact ih
theorem E4:∀{kvs:jn} {xs:List V},dP S H (!26) xs->(∀p∈kvs,f p.1=f k->p.1=k)->((qc f kvs xs).any λkv=>decide (kv.1=f k))=kvs.any λp=>decide (p.1=k)
 | [],_,r,_=>by cases r.fI;rfl
 | p::kvs,_,r,inj=>by
  (obtain⟨x,t,rfl,r1,r2⟩:=r.of_cons);rw[qc,bF,bF,E4 r2 λq hq=>inj q (ag _ hq)];congr 1;rw[decide_eq_decide];exact⟨inj p (ao ..),λz=>by rw[z]⟩
theorem E5 (rv:eU S H d v):∀{kvs:jn} {xs:List V},dP S H (!26) xs->(∀p∈kvs,f p.1=f k->p.1=k) ->
  ∃ys,(qc f kvs xs).map (λkv=>if kv.1=f k then (kv.1,v) else kv)=qc f (kvs.map λp=>if p.1=k then (p.1,d) else p) ys/\dP S H ((kvs.map λp=>if p.1=k then (p.1,d) else p).map (·.2)) ys
 | [],_,r,_=>⟨[],by cases r.fI;rfl,.nil⟩
 | p::kvs,_,r,inj=>by
  (obtain⟨x,t,rfl,r1,r2⟩:=r.of_cons);obtain⟨ys,h1,h2⟩:=E5 rv r2 λq hq=>inj q (ag _ hq);by_cases e:p.1=k
  .refine⟨v::ys,?_,?_⟩
   .rw[qc,ai,ai,h1,if_pos e,qc,if_pos (by rw[e])]
   .rw[ai,ai,if_pos e]
    exact .cons rv h2
  .have e2:¬ f p.1=f k:=λz=>e (inj p (ao ..) z)
   refine⟨x::ys,?_,?_⟩
   .rw[qc,ai,ai,h1,if_neg e,qc,if_neg e2]
   .rw[ai,ai,if_neg e]
    exact .cons r1 h2
theorem BO:∀{kvs:jn} {xs:List V} (d:ae),dP S H (!26) xs->qc f kvs xs++[(f k,v)]=qc f (kvs++[(k,d)]) (xs++[v])
 | [],_,d,r=>by cases r.fI;rfl
 | p::kvs,_,d,r=>by
  (obtain⟨x,t,rfl,r1,r2⟩:=r.of_cons);rw[qc,aN,BO d r2];rfl
theorem z9 (rv:eU S H d v)(r:dP S H (!26) xs)(inj:∀p∈kvs,f p.1=f k->p.1=k) :
  ∃ys,kN (qc f kvs xs) (f k) v=qc f (jq kvs k d) ys/\dP S H ((jq kvs k d).map (·.2)) ys:=by
 unfold kN jq;rw[E4 r inj];split
 .exact E5 rv r inj
 .refine⟨xs++[v],BO d r,?_⟩
  rw[aW];exact r.append (.cons rv .nil)
end
theorem DE:∀(kvs:jn) (xs:List V),KU kvs xs=qc (λk=>(Sum.inl (k.headD 0):Key)) kvs xs
 | [],xs=>by cases xs<;>rfl
 | p::kvs,[]=>rfl
 | p::kvs,x::xs=>by rw[KU,qc,DE kvs xs]
theorem qd:∀(kvs:jn) (xs:List V),A2 kvs xs=qc (λk=>(k.map Sum.inl:List Key)) kvs xs
 | [],xs=>by cases xs<;>rfl
 | p::kvs,[]=>rfl
 | p::kvs,x::xs=>by rw[A2,qc,qd kvs xs]
theorem uN:∀{a b:List Int},(a.map Sum.inl:List Key)=b.map Sum.inl->a=b
 | [],[],_=>rfl
 | [],_::_,h=>by cases h
 | _::_,[],h=>by cases h
 | x::a,y::b,h=>by
  rw[ai,ai] at h;injection h with h1 h2;injection h1 with h1;rw[h1,uN h2]
theorem one_inj {a b:List Int}(ha:a.length=1)(hb:b.length=1)(h:(Sum.inl (a.headD 0):Key)=Sum.inl (b.headD 0)):a=b:=by
 match a,b,ha,hb with
 | [x],[y],_,_=>injection h with h;simpa using h
theorem uO {gs S:List Addr}{H:Hp}{t:Bool}{d:ae}{v:V}{k:List Int}(r:fP gs S H d v)(e:qb t d=some k):(t=false->k.length=1) /\
  (∀(a:Addr) (kvs:jn) (xs:List V),H a=some (pW t kvs xs)->dP S H (!26) xs->(t=false->∀p∈kvs,p.1.length=1) ->
   ((fY kvs k=none/\j9 H a v none)\/∃d v',fY kvs k=some d/\j9 H a v (some v')/\eU S H d v') /\
   ∀(d':ae) (v':V),eU S H d' v'->kvs.length<aC->∃ys,tR H a v v' (fz H a (pW t (jq kvs k d') ys))/\dP S H ((jq kvs k d').map (·.2)) ys):=by
 cases t with
 | false =>
  obtain⟨i,rfl⟩:∃i,d=.int i:=by
   cases d with
   | int i=>exact⟨i,rfl⟩
   | _=>cases e
  cases e;rw[r.fg];refine⟨λ_=>rfl,λa kvs xs ha rr hk=>?_⟩;have lL:H a=some (.dK (qc (λk=>(Sum.inl (k.headD 0):Key)) kvs xs)):=by rw[<- DE];exact ha
  have inj:∀p∈kvs,(Sum.inl (p.1.headD 0):Key)=Sum.inl (([i]:List Int).headD 0)->p.1=[i]:=λp hp h=>one_inj (hk rfl p hp) rfl h;refine⟨?_,λd' v' rv hl=>?_⟩
  .have hg:j9 H a (.int i) (i8 (qc (λk=>(Sum.inl (k.headD 0):Key)) kvs xs) (Sum.inl i)):=j9.k (k:=Sum.inl i) lL
   rcases uM (f:=λk=>(Sum.inl (k.headD 0):Key)) (k:=[i]) rr inj with⟨h1,h2⟩ | ⟨d,v,h1,h2,h3⟩
   .have NZ:i8 (qc (λk=>(Sum.inl (k.headD 0):Key)) kvs xs) (Sum.inl i)=none:=h2
    rw[NZ] at hg;exact .inl ⟨h1,hg⟩
   .have NZ:i8 (qc (λk=>(Sum.inl (k.headD 0):Key)) kvs xs) (Sum.inl i)=some v:=h2
    rw[NZ] at hg;exact .inr ⟨d,v,h1,hg,h3⟩
  .obtain⟨ys,h1,h2⟩:=z9 (f:=λk=>(Sum.inl (k.headD 0):Key)) (k:=[i]) rv rr inj
   refine⟨ys,?_,h2⟩;have hp:=tR.k (k:=Sum.inl i) (v:=v') lL (by rw[uK _ rr];exact hl);have h1':kN (qc (λk=>(Sum.inl (k.headD 0):Key)) kvs xs) (Sum.inl i) v'=qc (λk=>(Sum.inl (k.headD 0):Key)) (jq kvs [i] d') ys:=h1;rw[h1',<- DE] at hp;exact hp
 | true =>
  obtain⟨ds,rfl⟩:∃ds,d=.tuple ds:=by
   cases d with
   | tuple ds=>exact⟨ds,rfl⟩
   | _=>cases e
  have e':ds=k.map .int:=iA e;subst e';obtain⟨b,ys,rfl,hb,rb⟩:=r.fX;rw[iB rb] at hb;have yt:H b=some (.tup ((k.map (Sum.inl:Int->Key)).map kV)):=by rw[bc];exact hb
  refine⟨(λz=>by cases z),λa kvs xs ha rr hk=>?_⟩;have lL:H a=some (.dT (qc (λk=>(k.map Sum.inl:List Key)) kvs xs)):=by rw[<- qd];exact ha
  have inj:∀p∈kvs,(p.1.map Sum.inl:List Key)=k.map Sum.inl->p.1=k:=λp _ h=>uN h;refine⟨?_,λd' v' rv hl=>?_⟩
  .have hg:=j9.t lL yt
   rcases uM (f:=λk=>(k.map Sum.inl:List Key)) (k:=k) rr inj with⟨h1,h2⟩ | ⟨d,v,h1,h2,h3⟩
   .rw[h2] at hg
    exact .inl ⟨h1,hg⟩
   .rw[h2] at hg
    exact .inr ⟨d,v,h1,hg,h3⟩
  .obtain⟨ys,h1,h2⟩:=z9 (f:=λk=>(k.map Sum.inl:List Key)) (k:=k) rv rr inj
   refine⟨ys,?_,h2⟩;have hp:=tR.t (v:=v') lL yt (by rw[uK _ rr];exact hl);rw[h1,<- qd] at hp;exact hp
theorem Ext.Mt (hp:p∈S)(h:H p=Option.some (pW t kvs xs)):Ext S H (fz H p o) :=
 ⟨λb u hb e=>by rw[d6 (λ(z:b=p)=>hb (by rw[z];exact hp))];exact e,λb ys e=>by rw[d6 (λz=>by rw[z,h] at e;cases t<;>cases e)];exact e⟩
theorem Ext.N0 (a:Ext S H0 H)(h0:H0 p=none):Ext S H0 (fz H p o) :=
 ⟨λb u hb e=>by rw[d6 (λz=>by rw[z,h0] at e;cases e)];exact a.keep b u hb e,λb ys e=>by rw[d6 (λz=>by rw[z,h0] at e;cases e)];exact a.tup b ys e⟩
noncomputable def T1 (env:fC)(i:Nat)(a:Addr):Prop:=∀j t kvs,j≠i->env[j]? ≠ some (some (.d a t kvs))
section
theorem dZ.WQ (ok:dZ M env pn σ S H n)(h0:H a=none)(h1:H' a=some (pW t kvs xs))(r:dP (a::S) H' (!26) xs)(hk:t=false->∀p∈kvs,p.1.length=1)(x:Ext M.gs H H')(g:M.G H' n')(hi:i ∉ M.fd) :
  dZ M (env.set i (some (.d a t kvs))) pn (σ.set i (some (.ref a))) (a::S) H' n':=by
 have hg:∀b∈M.gs,b∈a::S:=λb hb=>ag _ (ok.sE b hb);have lA:=ok.step x g;refine⟨λj e he=>?_,λj k ds es b h2 h3 h4 h5=>?_,by rw[aZ,aZ,ok.len],λj hj=>?_,g,lA.ext,λb hb=>ag _ (ok.s0 b hb),λb hb=>?_,λb hb=>?_,λp hp=>?_⟩
 .rcases fD he with⟨rfl,e1⟩ | ⟨ne,e1⟩
  .cases e1
   have:i<env.length:=by
    by_cases z:i<env.length
    .exact z
    .rw[bi (by rw[aZ];omega)] at he;cases he
   exact⟨.ref a,kA (by rw[<- ok.len];exact this),rfl,xs,h1,r,hk,ao ..,ok.anew h0⟩
  .obtain⟨v',hv,rv⟩:=ok.val j e e1
   exact⟨v',by rw[aV ne];exact hv,(rv.fresh h0).step hg x⟩
 .rcases fD h2 with⟨_,e1⟩ | ⟨n1,e1⟩
  .cases e1
  .rcases fD h3 with⟨_,e2⟩ | ⟨n2,e2⟩
   .cases e2
   .rw[aV n1] at h4
    rw[aV n2] at h5;exact ok.ne j k ds es b e1 e2 h4 h5
 .have:i≠j:=λz=>hi (z ▸ hj)
  rw[aV this];exact ok.Dq j hj
 .skip;(rcases ax.mp hb with z | z)
  .rw[z];exact .inr (ok.anew h0)
  .exact ok.sn b z
 .skip;(rcases ax.mp hb with z | z)
  .rw[z,h1];simp
  .exact lA.has b z
 .exact ((ok.pin p hp).fresh h0).ext (x.mono hg)
theorem dZ.only (ok:dZ M env pn σ S H n)(h0:H a=none)(j:Nat)(t:Bool)(kvs:jn):env[j]? ≠ some (some (.d a t kvs)):=λz=>by
 obtain⟨v,_,_,xs,ha,_,_,hs,_⟩:=ok.val j _ z;exact ok.has a hs h0
theorem dZ.putD (ok:dZ M env pn σ S H n)(he:env[i]? = some (some (.d a t kvs)))(ho:T1 env i a)(r:dP S H (kvs'.map (·.2)) ys)(hk:t=false->∀p∈kvs',p.1.length=1) :
  dZ M (env.set i (some (.d a t kvs'))) pn σ S (fz H a (pW t kvs' ys)) n:=by
 obtain⟨v',hv,rfl,xs,ha,_,_,hs,h0⟩:=ok.val i _ he;have x:Ext [a] H (fz H a (pW t kvs' ys)):=.Mt (!4) ha;have xS:Ext S H (fz H a (pW t kvs' ys)):=x.mono (by simpa using hs);refine⟨λj e hj=>?_,λj k vq j7 b h2 h3 h4 h5=>?_,by rw[aZ,ok.len],ok.Dq,M.jS ok.gd x (by simpa using h0),ok.ext.N0 h0,ok.s0,ok.sn,λb hb=>?_,λp hp=>(ok.pin p hp).ext xS⟩
 .rcases fD hj with⟨rfl,e1⟩ | ⟨ne,e1⟩
  .cases e1
   exact⟨_,hv,rfl,ys,dQ,r.ext xS,hk,hs,h0⟩
  .obtain⟨w,hw,oh⟩:=ok.val j e e1
   refine⟨w,hw,?_⟩
   cases e with
   | s d=>exact eU.ext xS oh
   | o j7 =>
    obtain⟨b,zs,e2,hb,r2,sm,Br⟩:=oh;subst e2;exact⟨b,zs,rfl,by rw[d6 (λz=>by rw[z,ha] at hb;exact qZ hb.symm)];exact hb,r2.ext xS,sm,Br⟩
   | x c as =>
    obtain⟨b,dx,vs,e2,hb,hd,r2,g1,g2⟩:=oh;exact⟨b,dx,vs,e2,by rw[d6 (λz=>by rw[z,ha] at hb;cases t<;>cases hb)];exact hb,by rw[d6 (λz=>by rw[z,ha] at hd;cases t<;>cases hd)];exact hd,r2.ext xS,g1,g2⟩
   | d b t2 Yp =>
    obtain⟨e2,zs,hb,r2,Nt,sm,Br⟩:=oh;have hba:b≠a:=λz=>ho j t2 Yp (λz2=>ne z2.symm) (z ▸ e1);exact⟨e2,zs,by rw[d6 hba];exact hb,r2.ext xS,Nt,sm,Br⟩
   | f b o Yp zs =>
    obtain⟨e2,hb,r2,sm,Br⟩:=oh;exact⟨e2,by rw[d6 (λz=>by rw[z,ha] at hb;cases t<;>cases hb)];exact hb,r2.ext xS,sm,Br⟩
 .rcases fD h2 with⟨_,e1⟩ | ⟨n1,e1⟩
  .cases e1
  .rcases fD h3 with⟨_,e2⟩ | ⟨n2,e2⟩
   .cases e2
   .exact ok.ne j k vq j7 b e1 e2 h4 h5
 .by_cases z:b=a
  .rw[z,dQ];simp
  .rw[d6 z];exact ok.has b hb
end
theorem xp {X:Cx}(h:X.A.units+64<cLine):X.A.units+1<cLine:=by omega
noncomputable def E6 (i:Nat)(t:Bool):US:=λE env n=>∀a:Addr,(∀(j:Nat) (t':Bool) (kv:jn),env[j]? ≠ some (some (Ent.d a t' kv)))->E.nx (env.set i (some (.d a t []))) n
noncomputable def vJ (i:Nat)(uk uv:UX):US:=λE env n=>uv env n λd n1=>match env[i]? with | some (some (.d a t kvs))=>uk env n1 λk n2=>qR (qb t k) λkk=>(kvs.length<aC/\T1 env i a)/\E.nx (env.set i (some (.d a t (jq kvs kk d)))) n2 | _=>False
theorem Mu (hk:t=false->∀p∈kvs,p.1.length=1)(h1:t=false->k.length=1):t=false->∀p∈jq kvs k d,p.1.length=1:=λht p hp=>by
 unfold jq at hp;split at hp
 .obtain⟨q,hq,rfl⟩:=aU.mp hp
  split
  .exact hk ht q hq
  .exact hk ht q hq
 .rcases aX.mp hp with hp | hp
  .exact hk ht p hp
  .rw[ap.mp hp];exact h1 ht
section
theorem Jv:QE X (.Dict [] [] pos) Iz:=⟨IB⟩
theorem Mv (hN:X.N.Nodup)(hx:Loc X.env.scope x)(hi:X.N[i]? = some x:=by rfl)(hs:swapsWith (.Dict [] [] p) (some (.Name x iQ)) pos.line X.env=pure false:=by rfl)
  (hf:X.fn x=true\/X.env.scope.names.lookup x=some .local:=by (first | exact .inl rfl | exact .inr rfl | assumption)) (hfd:i ∉ M.fd:=by decide):KS X M (.Assign [.Name x iQ] (.Dict [] [] p) pos) (E6 i true):=.of (j8 hN hi hx Jv hs hf) λD σ H env pn S n E ok hu k1 k2 a ha =>
 k1 _ _ _ _ _ (ok.WQ (t:=true) (kvs:=[]) (xs:=[]) ha dQ .nil (!4) (.new ha) (ok.grow (.new ha)) hfd) (hu a λj t kv=>ok.only ha j t kv)
theorem Jw (i:Nat)(hu:X.A.units+1<cLine)(hk:KL X M ke uk)(hv:KE X M ve uv)(hN:X.N[i]? = some x:=by rfl)(WR:Az X.env.scope x:=by (first | exact Or.inl rfl | exact Or.inr (Or.inl rfl) | exact Or.inr (Or.inr rfl)))(hd:(x == (!17))=false:=by decide)(mY:(x == (!22))=false:=by decide)
  (hs:swapsWith ve (some (.Subscript (!35) ke iQ)) pos.line X.env=pure false:=by rfl):KS X M (.Assign [.Subscript (!35) ke iQ] ve pos) (vJ i uk uv):=.of (uE hu (qv i hN WR hd mY) hk.run hv.run hs) λD σ H env pn S n E ok CM k1 k2=>by
 refine⟨env,pn,S,n,_,ok,CM,λv H1 d n1 r1 x1 g1 _ q=>?_⟩;have kr:=ok.step x1 g1;split at q
 .rename_i a t kvs he
  obtain⟨v0,T2,rfl,xs,ha,rr,Gj,Yq,h0⟩:=kr.val i _ he;refine⟨_,T2,env,pn,S,n1,_,kr,q,λy H3 kd n2 r2 x2 g2 _ q2=>?_⟩;obtain⟨kk,ek,⟨hl,ho⟩,q2⟩:=q2;have tW:=kr.step x2 g2;obtain⟨v0',WS,e',tU,lL,WT,Mw,_,_⟩:=tW.val i _ he;obtain⟨h1,h2⟩:=uO r2 ek;obtain⟨ys,hp,hr⟩:=(h2 a kvs tU lL WT Mw).2 d v (r1.ext (x2.mono kr.sE)) hl;exact⟨a,_,rfl,hp,k1 _ _ _ _ _ (tW.putD he ho hr (Mu Mw h1)) q2⟩
 .exact q.elim
noncomputable def vK (i:Nat)(uk ud:UX):UX:=λenv n Q=>match env[i]? with | some (some (.d a t kvs))=>uk env n λk n1=>ud env n1 λd n2=>qR (qb t k) λkk=>Q ((fY kvs kk).getD d) n2 | _=>False
theorem Mx (i:Nat)(hu:X.A.units+1<cLine)(hk:KE X M ke uk)(hv:KE X M ve ud)(m:M2 X (!35) "get" i6 ke ve hV)(hN:X.N[i]? = some x:=by rfl)(WR:Az X.env.scope x:=by (first | exact Or.inl rfl | exact Or.inr (Or.inl rfl) | exact Or.inr (Or.inr rfl)))(hd:(x == (!17))=false:=by decide)(mY:(x == (!22))=false:=by decide) :
  KE X M (.Call (.Attribute (!35) "get" i6) [ke,ve] [] hV) (vK i uk ud):=.of (vi hu (qv i hN WR hd mY) hk.run hv.run m) λσ H R env pn S n Q ok CM k=>by
 unfold vK at CM;split at CM
 .rename_i a t kvs he
  obtain⟨v0,T2,rfl,xs,ha,rr,Gj,Yq,h0⟩:=ok.val i _ he
  have isd:Wb H a:=by
   cases t with
   | false=>exact .inl ⟨_,.inl ha⟩
   | true=>exact .inr ⟨_,.inl ha⟩
  refine⟨_,T2,a,rfl,isd,env,pn,S,n,_,ok,CM,λy H1 kd n1 r1 x1 g1 _ q=>?_⟩;have kr:=ok.step x1 g1;refine⟨env,pn,S,n1,_,kr,q,λz H2 d n2 r2 x2 g2 _ q2=>?_⟩;obtain⟨kk,ek,q2⟩:=q2;have tW:=kr.step x2 g2;obtain⟨v0',WS,e',tU,lL,WT,Mw,_,_⟩:=tW.val i _ he;have U':fP M.gs S H2 kd y:=.inl (r1.ext (x2.mono kr.sE));rcases ((uO U' ek).2 a kvs tU lL WT Mw).1 with⟨z',hg⟩ | ⟨d',v',z',hg,hr⟩
  .rw[z'] at q2
   exact⟨_,hg,k _ H2 _ n2 r2 (x1.trans x2) g2 q2⟩
  .rw[z'] at q2
   exact⟨_,hg,k _ H2 _ n2 hr (x1.trans x2) g2 q2⟩
 .exact CM.elim
end
noncomputable def rM (p:ae × ae):Option (List Int × ae):=match p.1 with | .tuple ks=>(jB ks).map λk=>(k,p.2) | _=>none
noncomputable def N1 (d:ae):Option (Bool × jn):=match d with | .dict ((.bool t,.none)::l)=>(l.mapM rM).map λkvs=>(t,kvs) | _=>none
theorem Jx:∀kvs:jn,(kvs.map λp=>(ae.tuple (p.1.map .int),p.2)).mapM rM=some kvs
 | []=>rfl
 | p::kvs=>by
  have e:rM (ae.tuple (p.1.map .int),p.2)=some p:=by
   unfold rM;simp only[ir];rfl
  rw[ai,cP,Jx kvs,e];rfl
theorem Aa (t:Bool)(kvs:jn):N1 (f6 t kvs)=some (t,kvs):=by
 unfold f6 pO N1;simp only[Jx,bo]
theorem BP:∀{l:List (ae × ae)} {kvs:jn},l.mapM rM=some kvs->l=kvs.map λp=>(ae.tuple (p.1.map .int),p.2)
 | [],kvs,h=>by cases h;rfl
 | p::l,kvs,h=>by
  rw[cP] at h
  cases hp:rM p with
  | none=>rw[hp] at h;cases h
  | some q =>
   cases hl:l.mapM rM with
   | none=>rw[hp,hl] at h;cases h
   | some r =>
    rw[hp,hl] at h;cases h;rw[ai,<- BP hl];congr 1;unfold rM at hp;split at hp
    .rename_i ks he
     cases ha:jB ks with
     | none=>rw[ha] at hp;cases hp
     | some k =>
      rw[ha] at hp;cases hp;rw[<- iA ha];cases p;simp only at he;rw[he]
    .cases hp
theorem Jy (h:N1 d=some (t,kvs)):d=f6 t kvs:=by
 unfold N1 at h;split at h
 .rename_i t' l
  cases hl:l.mapM rM with
  | none=>rw[hl] at h;cases h
  | some r =>
   rw[hl] at h;cases h;rw[f6,pO,<- BP hl]
 .cases h
theorem Jz (h:pO t kvs=pO t' kvs'):t=t'/\kvs=kvs':=by
 have h1:=Aa t kvs;rw[f6,h,<- f6,Aa] at h1;cases h1;exact⟨rfl,rfl⟩
theorem fP.Oa (r:fP gs S H d v)(e:N1 d=some (t,kvs)):∃a xs,v=.ref a/\H a=some (pW t kvs xs)/\dP S H (!26) xs/\(t=false->∀p∈kvs,p.1.length=1):=by
 rw[Jy e] at r;obtain⟨a,t',kvs',xs,e1,e2,ha,hk,hr⟩:=fP.sy r;obtain⟨rfl,rfl⟩:=Jz e2;exact⟨a,xs,e1,ha,hr,hk⟩
noncomputable def tK (ud uk:UX):UX:=λenv n Q=>ud env n λd n1=>qR (N1 d) λtk=>uk env n1 λk n2=>qR (qb tk.1 k) λkk=>qR (fY tk.2 kk) λx=>Q x n2
noncomputable def Ab (uk ud:UX):UX:=λenv n Q=>uk env n λk n1=>ud env n1 λd n2=>qR (N1 d) λtk=>qR (qb tk.1 k) λkk=>Q (.bool (fY tk.2 kk).isSome) n2
section
variable {X:Cx}{M:Fr}{o e ke ve:Expr}{uk uv ud:UX}{pos iQ p p2:Pos}
theorem Ac (hu:X.A.units+1<cLine)(ho:KL X M o ud)(hk:KL X M ke uk)(hs:L3 ke:=by exact λ_ _=>rfl):KE X M (.Subscript o ke pos) (tK ud uk):=.of (uD hu ho.run hk.run hs) λσ H R env pn S n Q ok CM k=>by
 refine⟨env,pn,S,n,_,ok,CM,λv H1 d n1 r1 x1 g1 _ q=>?_⟩;obtain⟨⟨t,kvs⟩,e,q⟩:=q;have kr:=ok.step x1 g1;refine⟨env,pn,S,n1,_,kr,q,λy H2 kd n2 r2 x2 g2 _ q2=>?_⟩;obtain⟨kk,ek,x,ex,q2⟩:=q2;obtain⟨a,xs,rfl,ha,rr,Gj⟩:=(r1.ext kr.sE x2).Oa e;rcases ((uO r2 ek).2 a kvs xs ha rr Gj).1 with⟨z,_⟩ | ⟨d',v',z,hg,hr⟩
 .rw[z] at ex;cases ex
 .rw[z] at ex
  cases ex;exact⟨a,v',rfl,hg,k v' H2 _ n2 hr (x1.trans x2) g2 q2⟩
theorem T3 {σ:St}{H:Hp}{env:fC}{pn:List (ae × V)}{S:List Addr}{n:Int}{Q:ae->Int->Prop}{f:Bool->Bool}{R:Addr->Option V->V->Hp->Prop}(ok:dZ M env pn σ S H n)
  (CM:uk env n λk n1=>ud env n1 λd n2=>qR (N1 d) λtk=>qR (qb tk.1 k) λkk=>Q (.bool (f (fY tk.2 kk).isSome)) n2)
  (k:∀a y ov H2 n2,j9 H2 a y ov->Ext M.gs H H2->M.G H2 n2->Q (.bool (f ov.isSome)) n2->R a ov y H2) :
  Bk M uk σ H λy H1=>Bk M ud σ H1 λx H2=>∃a ov,x=.ref a/\j9 H2 a y ov/\R a ov y H2 :=
 ⟨env,pn,S,n,_,ok,CM,λy H1 kd n1 r1 x1 g1 _ q=>⟨env,pn,S,n1,_,ok.step x1 g1,q,λv H2 d n2 r2 x2 g2 _ q2=>by
  obtain⟨⟨t,kvs⟩,e,kk,ek,q2⟩:=q2;obtain⟨a,xs,rfl,ha,rr,Gj⟩:=r2.Oa e;rcases ((uO (r1.ext ok.sE x2) ek).2 a kvs xs ha rr Gj).1 with⟨z,hg⟩ | ⟨d',v',z,hg,hr⟩
  .rw[z] at q2
   exact⟨a,none,rfl,hg,k a y none H2 n2 hg (x1.trans x2) g2 q2⟩
  .rw[z] at q2
   exact⟨a,some v',rfl,hg,k a y (some v') H2 n2 hg (x1.trans x2) g2 q2⟩⟩⟩
theorem Ob (hu:X.A.units+1<cLine)(hk:KL X M ke uk)(ho:KL X M o ud)(hm:behindInMarks .In o=false:=by first | exact m6 _ | rfl):KE X M (.Compare ke [.In] [o] pos) (Ab uk ud):=.of (⟨OG (Iw hu hk.run.run ho.run.run) hm⟩:QE X _ _) λσ H R env pn S n Q ok CM k =>
 T3 (f:=id) ok CM λa y ov H2 n2 hg x g q=>k _ H2 _ n2 (.bl _) x g q
theorem JA (hu:X.A.units+1<cLine)(hk:KL X M ke uk)(ho:KL X M o ud)(hm:behindInMarks .In o=false:=by first | exact m6 _ | rfl):KB X M (.Compare ke [.In] [o] pos) (eC (Ab uk ud)):=.of (⟨Hz (Iw hu hk.run.run ho.run.run) hm⟩:QT X _ _) λσ H R env pn S n Q ok CM k =>
 T3 (f:=id) (Q:=λd n'=>Wr d λb=>Q b n') ok CM λa y ov H2 n2 hg x g q=>⟨_,rfl,k _ H2 n2 x g q⟩
end
section
theorem dZ.hold (ok:dZ M env pn σ S H n){a:Addr}(h0:H a=none)(h1:H' a≠none)(x:Ext M.gs H H')(g:M.G H' n'):dZ M env pn σ (a::S) H' n':=by
 have hg:∀b∈M.gs,b∈a::S:=λb hb=>ag _ (ok.sE b hb);have lA:=ok.step x g;refine⟨λj e he=>?_,ok.ne,ok.len,ok.Dq,g,lA.ext,λb hb=>ag _ (ok.s0 b hb),λb hb=>?_,λb hb=>?_,λp hp=>((ok.pin p hp).fresh h0).ext (x.mono hg)⟩
 .obtain⟨v',hv,rv⟩:=ok.val j e he
  exact⟨v',hv,(rv.fresh h0).step hg x⟩
 .skip;(rcases ax.mp hb with z | z)
  .rw[z];exact .inr (ok.anew h0)
  .exact ok.sn b z
 .skip;(rcases ax.mp hb with z | z)
  .rw[z];exact h1
  .exact lA.has b z
theorem dZ.T4 (ok:dZ M env pn σ S H n){a:Addr}{t:Bool}{kvs:jn}{xs:List V}(ha:H a=some (pW t kvs xs))(r:dP S H (!26) xs)(hk:t=false->∀p∈kvs,p.1.length=1)(hs:a∈S)(h0:M.H0 a=none)(hi:i ∉ M.fd) :
  dZ M (env.set i (some (.d a t kvs))) pn (σ.set i (some (.ref a))) S H n:=by
 refine⟨λj e he=>?_,λj k ds es b h2 h3 h4 h5=>?_,by rw[aZ,aZ,ok.len],λj hj=>?_,ok.gd,ok.ext,ok.s0,ok.sn,ok.has,ok.pin⟩
 .rcases fD he with⟨rfl,e1⟩ | ⟨ne,e1⟩
  .cases e1
   have:i<env.length:=by
    by_cases z:i<env.length
    .exact z
    .rw[bi (by rw[aZ];omega)] at he;cases he
   exact⟨.ref a,kA (by rw[<- ok.len];exact this),rfl,xs,ha,r,hk,hs,h0⟩
  .obtain⟨v',hv,rv⟩:=ok.val j e e1
   exact⟨v',by rw[aV ne];exact hv,rv⟩
 .rcases fD h2 with⟨_,e1⟩ | ⟨n1,e1⟩
  .cases e1
  .rcases fD h3 with⟨_,e2⟩ | ⟨n2,e2⟩
   .cases e2
   .rw[aV n1] at h4
    rw[aV n2] at h5;exact ok.ne j k ds es b e1 e2 h4 h5
 .have:i≠j:=λz=>hi (z ▸ hj)
  rw[aV this];exact ok.Dq j hj
end
noncomputable def DF (i:Nat)(uk uv:UX):US:=λE env n=>uk env n λk n1=>uv env n1 λd n2=>qR (qb false k) λkk=>∀a:Addr,(∀(j:Nat) (t':Bool) (kv:jn),env[j]? ≠ some (some (Ent.d a t' kv)))->E.nx (env.set i (some (.d a false [(kk,d)]))) n2
section
theorem My (hN:X.N.Nodup)(hx:Loc X.env.scope x)(hk:KE X M ke uk)(hv:KE X M ve uv)(hi:X.N[i]? = some x:=by rfl)(hs:swapsWith (.Dict [some ke] [ve] p) (some (.Name x iQ)) pos.line X.env=pure false:=by rfl)
  (hf:X.fn x=true\/X.env.scope.names.lookup x=some .local:=by (first | exact .inl rfl | exact .inr rfl | assumption)) (hfd:i ∉ M.fd:=by decide):KS X M (.Assign [.Name x iQ] (.Dict [some ke] [ve] p) pos) (DF i uk uv) :=
 .of (j8 hN hi hx (⟨L9 (IC hk.run.run hv.run.run L8) rfl rfl (!4) (!4)⟩:QE X _ _) hs hf) λD σ H env pn S n E ok hu k1 k2 a ha=>by
  have x0:Ext M.gs H (fz H a (.dK [])):=.new ha;have T5:=ok.hold (H':=fz H a (.dK [])) ha (by rw[dQ];simp) x0 (ok.grow (.new ha));have T6:a ∉ M.gs:=M.out (ok.anew ha);refine⟨env,pn,a::S,n,_,T5,hu,λy H1 kd n1 r1 x1 g1 _ q=>?_⟩;have kr:=T5.step x1 g1;refine⟨env,pn,a::S,n1,_,kr,q,λv H2 d n2 r2 x2 g2 _ q=>?_⟩;have tW:=kr.step x2 g2;obtain⟨kk,ek,q⟩:=q;have h2:H2 a=some (.dK []):=x2.keep _ _ T6 (x1.keep _ _ T6 dQ)
  obtain⟨j,rfl⟩:∃j:Int,kd=.int j:=by
   cases kd with
   | int j=>exact⟨j,rfl⟩
   | _=>cases ek
  cases ek;refine⟨h2,[(.inl j,v)],by rw[r1.fg];rfl,!4,?_⟩;have okn:=tW.T4 (i:=i) (t:=false) (kvs:=[]) (xs:=[]) h2 .nil (!4) (ao ..) (ok.anew ha) hfd
  have tX:(env.set i (some (Ent.d a false [])))[i]? = some (some (Ent.d a false []))\/env.length<=i:=by
   by_cases z:i<env.length
   .exact .inl (kA z)
   .exact .inr (!1)
  have kz:=λj' t' kv=>ok.only ha j' t' kv;rcases tX with tX | hlen
  .have Yr:=okn.putD (kvs':=[([j],d)]) (ys:=[v]) tX (λj' t' kv gX z=>by
    rw[aV (λz=>gX z.symm)] at z;exact kz j' t' kv z) (.cons r2 .nil) (λ_ p hp=>by rw[ap.mp hp];rfl)
   rw[dq] at Yr;exact k1 _ _ _ _ _ Yr (q a kz)
  .have Mz:∀y,env.set i y=env:=λy=>List.set_eq_of_length_le hlen
   have zq:∀y,σ.set i y=σ:=λy=>List.set_eq_of_length_le (by rw[<- ok.len];exact hlen);have okh:=ok.hold (H':=fz H2 a (pW false [([j],d)] [v])) (n':=n2) ha (by rw[dQ];simp) (((x0.trans x1).trans x2).N0 ha) (M.jS g2 (Ext.Mt (S:=[a]) (t:=false) (kvs:=[]) (xs:=[]) (!4) h2) (by simpa using ok.anew ha));have:=q a kz;rw[Mz] at this;refine k1 _ _ _ _ _ (?_:dZ M env pn _ (a::S) _ n2) this;rw[zq];exact okh
end
section
theorem Ad {id:String}{b:Builtin}{args:List ah}{kw:List (Str × ah)}{Q:ah->aA->Prop}(hk:builtinKind id=none)(hp:plainId id=true)(hb:entryFor table id=some b)(ha:argsOk id ⟨args,kw⟩)
  (hc:aH (!12) A.in1 (b ⟨args,kw⟩) (λfin s'=>match fin with
   | .done f=>(match (Except.ok f:Result) with | .ok (.ret v)=>Q v s' | .ok _=>False | .error e=>E e s')
   | .again c'=>c'.quiet=true/\codeAny (!12) A c' (λr s'=>match r with | .ok (.ret v)=>Q v s' | .ok _=>False | .error e=>E e s') s') E s):aH (!12) A (call (.builtin id) args kw) Q E s:=by
 refine wpAny_call (codeAny_call_builtin hp hb ?_);simp only[checkBuiltinCall,hk]
 cases WU:Manifest.signature? id with
 | none=>exact am hc
 | some sig =>
  simp only[argsOk,WU] at ha;have h2:Bind.checkArgs id sig ⟨args,kw⟩=pure ():=ha;show aH _ A.in1 (Bind.checkArgs id sig ⟨args,kw⟩) _ _ s;rw[h2];exact am hc
theorem GI (a d:ah):argsOk "min" ⟨[a],[("default",d)]⟩:=by unfold argsOk;kernel_rfl
theorem MA (hh:A.handled=none)(gl:s.heap.IsList l vs)(cmp:yy prog w A.in1 s.heap .Lt (λi v=>vs[i]? = some v) bt)
  (jm:vs.size=0->∀h1 tk,jo s.heap h1->Q .none { s with heap:=h1,toks:=tk })
  (fin:∀v h1 tk,0<vs.size->vs[argBest bt (vs.size - 1)]? = some v->jo s.heap h1->Q v { s with heap:=h1,toks:=tk }):aH (!12) A (call (.builtin "min") [.ref l] [("default",.none)]) Q E s:=by
 have nm:(toString "min" ++ toString ".loop" : String) = "min.loop" := by decide
 have ll:l<s.heap.objs.size:=let ⟨_,e,_⟩:=gl;aF e;refine Ad F.kind_min F.plain_min F.entry_min (GI _ _) ?_;refine af (m:=Builtin.Builtins.bindParams "min" ["key", "default"] 0 ⟨[],[("default",.none)]⟩) (wpAny_of_eq (show _=pure [none,some .none] from rfl) (af (am (af ?_))));(refine wpAny_pyIter_list gl (af (aY ?_));rw[nm];have W:=Walks.list (prog:=prog) (w:=w) (A:=A.in1) hh s.heap.objs.size l (aR ll) vs);have no:∀k,s.heap.get? (s.heap.objs.size+k)=none:=λk=>by simp[Heap.get?]
 have gi:(s.heap.push { cls:=.type "list_iterator",data:=.fields #[.ref l,.int 0 0] }).IsListIter s.heap.objs.size l 0:=⟨_,aB _ rfl,rfl,rfl⟩;have sz:(s.heap.push { cls:=.type "list_iterator",data:=.fields #[.ref l,.int 0 0] }).objs.size=s.heap.objs.size+1:=bx ..;have rL:jo s.heap (s.heap.push { cls:=.type "list_iterator",data:=.fields #[.ref l,.int 0 0] }):=λb o e=>aj _ e;have Hm:(s.heap.push { cls:=.type "list_iterator",data:=.fields #[.ref l,.int 0 0] }).IsList l vs:=gl.push _;show aH _ _ _ _ _ { s with heap:=(s.heap.push { cls:=.type "list_iterator",data:=.fields #[.ref l,.int 0 0] }).push { cls:=.type "list",data:=.seq #[] 0 } };generalize s.heap.push { cls:=.type "list_iterator",data:=.fields #[.ref l,.int 0 0] }=h1 at gi sz rL Hm ⊢;have gz:(h1.push { cls:=.type "list",data:=.seq #[] 0 }).get? h1.objs.size=some { cls:=.type "list",data:=.seq #[] 0 }:=aB _ rfl;have pR:jo h1 (h1.push { cls:=.type "list",data:=.seq #[] 0 }):=λb o e=>aj _ e
 have zf:h1.objs.size ∉ [s.heap.objs.size,l]:=by
  rw[sz];simp only[ax,bw,or_false,not_or];exact⟨cH _,bv (bO ll)⟩
 have zw:h1.objs.size ∉ [s.heap.objs.size]:=λy=>zf (W.sub _ y);refine am ⟨plainId_quiet F.plain_min_loop _,codeAny_builtin F.entry_min_loop ?_⟩;rw[Around.under_plainId F.plain_min_loop _];refine af (m:=seqItems? (.ref h1.objs.size)) (wpAny_seqItems gz rfl ?_);by_cases gX:0<vs.size
 .refine af (m:=tryCatch (pyNext (!14)) _) (wpAny_tryCatch (W.item 0 _ _ _ gX (W.frame _ _ _ ⟨gi,Hm⟩ λb _ o e=>pR b o e) λv h3 t3 pv HI k3=>?_))
  have g3:=k3 _ _ zw gz;(have vF:jo s.heap h3:=λb o e=>k3 b o (λy=>by rw[ap.mp y,<- cQ s.heap.objs.size,no] at e;cases e) (pR b o (rL b o e)));refine af (m:=updateSeq h1.objs.size λ_=>#[v,v]) (wpAny_updateSeq g3 rfl ?_);rw[nm];refine am ⟨plainId_quiet F.plain_min_loop _,Jr W (λb hb=>by rw[ap.mp hb,<- cQ s.heap.objs.size];exact no 0) bt cmp h1.objs.size zf (by rw[sz];exact no 1) (vs.size - 1) 0 _ v _ (!1) (W.frame _ _ _ HI λx xf o e=>(aO _ _ (λq:h1.objs.size=x=>zf (by rw[q];exact xf))).trans e) pv (ba _ g3 rfl) (λx o e=>(aO _ _ (λq:h1.objs.size=x=>by rw[<- q,sz,no] at e;cases e)).trans (vF x o e)) λv' h4 t4 p4 k4=>fin v' h4 t4 gX p4 k4⟩
 .have e0:vs.size=0:=by omega
  refine af (m:=tryCatch (pyNext (!14)) _) (wpAny_tryCatch (W.done _ _ _ (by rw[e0];exact W.frame _ _ _ ⟨gi,Hm⟩ λb _ o e=>pR b o e) λh3 t3 k3=>?_));(have vF:jo s.heap h3:=λb o e=>k3 b o (λy=>by rw[ap.mp y,<- cQ s.heap.objs.size,no] at e;cases e) (pR b o (rL b o e)));exact af (wpAny_rule (am (jm e0 h3 t3 vF)))
end
noncomputable def JB (ue:UX):UX:=λenv n Q=>ue env n λd n1=>match d with | .list []=>Q .none n1 | .list (d::ds)=>xr false (d::ds)/\Q (jc false d ds) n1 | _=>False
section
variable {X:Cx}{M:Fr}{e:Expr}{ue:UX}{p kp p3 pos:Pos}
theorem GJ (hc:X.calm=true)(hu:X.A.units+64<cLine)(I:Inv X pins σ H s)(hp:gx X.K H q ys)(hr:dP S H ds ys)
  (h:match (generalizing:=false) ds with | []=>Q .jm H | d::ds=>xr false (d::ds)/\∀v,eU S H (jc false d ds) v->Q v H):aH (!11) X.A (call (.builtin "min") [.ref q] [("default",.none)]) (EP X pins σ Q) X.xe s:=by
 obtain⟨its,rv,ht,hz⟩:=I.list hp;have hlen:its.length=ds.length:=by rw[<- rv.length,hr.length]
 have GG:xr false ds:=by
  cases ds with
  | nil=>intro x hx;cases hx
  | cons d ds=>exact h.1
 have Dn:ae.canLayAll0 ds=true:=qa λx hx=>(GG x hx).1.1
 have tX:∀i,i<its.length->ds.getD i .none∈ds:=λi hi=>by
  rw[au,aM (!1),cw];exact bU _
 refine MA (I.ok.hd hc) ht.isList (bt:=Ho false ds) (λi j u v s' Q' E' held hi hj hq=>?_) (λh0 h1 tk held=>?_) λv h1 tk h0 hv held=>?_
 .have hi:its.toArray[i]? = some u:=hi
  have hj:its.toArray[j]? = some v:=hj;rw[cr] at hi hj;obtain⟨as,ra⟩:=dP.reads (I.kept (h':=s'.heap) (t':=s.toks) held).hok Dn hr rv;obtain⟨i1,rfl⟩:=aG.mp hi;obtain⟨j1,rfl⟩:=aG.mp hj;obtain⟨WN,r1⟩:=jb ra i1;obtain⟨WO,r2⟩:=jb ra j1;have mi:=tX i i1;have mj:=tX j j1;obtain⟨r,hr⟩:=bX.mp ((GG _ mi).2 _ mj);have e:Ho false ds i j=r:=by unfold Ho;rw[hr];rfl
  rw[e] at hq;exact NV 50 _ _ r X.A.in1 s' _ _ WN WO (GG _ mi).1.2 r1 r2 (GG _ mi).1.1 (GG _ mj).1.1 (by show X.A.units+1+50<_;omega) hr X.prog X.w E' Q' hq
 .rw[aD,hlen] at h0
  cases ds with
  | nil=>exact⟨.jm,H,I.kept held,rfl,h⟩
  | cons d ds=>simp at h0
 .rw[cr] at hv
  obtain⟨k1,rfl⟩:=aG.mp hv;obtain⟨x,rx,pL⟩:=hr.WM rv _ k1
  cases ds with
  | nil=>rw[aD,hlen] at h0;simp at h0
  | cons d ds =>
   have hs:its.toArray.size - 1=ds.length:=by rw[aD,hlen,ak];omega
   rw[hs,z6 false d ds ds.length (aw _),dk] at rx;exact⟨x,H,I.kept held,pL,h.2 x rx⟩
noncomputable def T7 (te:TE):TE:=λσ H Q=>te σ H λx H1=>∃q ys S ds,x=.ref q/\gx X.K H1 q ys/\dP S H1 ds ys/\match ds with | []=>Q .jm H1 | d::ds=>xr false (d::ds)/\∀v,eU S H1 (jc false d ds) v->Q v H1
theorem MB {j}(hc:X.calm=true)(hu:X.A.units+64<cLine)(he:QE X e te)(hm:X.mg "min" = none)(hg:Gl X "min")(hs:fk e=true)(h1:backTo pos (starEach [e] X.env)=(false,eval e X.env)::backTo pos (starEach [] X.env))(h2:(backTo pos (starEach [e] X.env)).any (·.1)=false) :
  QE X (.Call (.Name "min" p) [e] [⟨some "default",.Constant .none j p3,kp⟩] pos) (T7 (X:=X) te):=⟨λpins s σ H Q I h=>by
 refine wpAny_Call_Name_kw (sr (u:=.builtin "min") I hg hm (!3) ?_);have ha:=(iS he fN hs).run pos pins s σ H (λvs H1=>match vs with | [x]=>∃q ys S ds,x=.ref q/\gx X.K H1 q ys/\dP S H1 ds ys/\(match ds with | []=>Q .jm H1 | d::ds=>xr false (d::ds)/\∀v,eU S H1 (jc false d ds) v->Q v H1) | _=>False) I h;refine callWith_kw (gr ha λus s1 ⟨vs,H1,I1,r1,q1⟩=>?_) h1 h2
 match vs,r1,q1 with
 | [x],r1,⟨q,ys,S,ds,ex,sq,rr,q2⟩ =>
  subst ex;obtain⟨u,rfl,ru⟩:=vals1 r1;cases ru;refine kws_cons (gr (Hx pins s1 σ H1 (λx H2=>x=.jm/\H2=H1) I1 ⟨rfl,rfl⟩) λv s2 ⟨x,H2,I2,rx,hx,hH⟩=>kws_nil ?_);subst hx hH;cases (show v=ah.none from rx);exact GJ hc hu I2 sq rr q2⟩
theorem Qs {j}(hc:X.calm=true)(hu:X.A.units+64<cLine)(he:KL X M e ue)(hm:X.mg "min" = none)(hg:Gl X "min" := by rfl)(hs:fk e=true:=by rfl)(h1:backTo pos (starEach [e] X.env)=(false,eval e X.env)::backTo pos (starEach [] X.env):=by rfl)(h2:(backTo pos (starEach [e] X.env)).any (·.1)=false:=by rfl) :
  KE X M (.Call (.Name "min" p) [e] [⟨some "default",.Constant .none j p3,kp⟩] pos) (JB ue):=.of (MB hc hu he.run hm hg hs h1 h2) λσ H R env pn S n Q ok CM k=>by
 refine⟨env,pn,S,n,_,ok,CM,λv H1 d n1 r1 x1 g1 _ q=>?_⟩;have kr:=ok.step x1 g1;split at q
 .obtain⟨a,xs,rfl,sq,_,rr⟩:=r1.K0 (K:=X.K)
  exact⟨a,xs,S,[],rfl,sq,rr,k _ H1 _ n1 .jm x1 g1 q⟩
 .rename_i d ds
  obtain⟨a,xs,rfl,sq,_,rr⟩:=r1.K0 (K:=X.K);exact⟨a,xs,S,d::ds,rfl,sq,rr,q.1,λv rv=>k v H1 _ n1 rv x1 g1 q.2⟩
 .exact q.elim
end
theorem Paired.at {α β:Type}{F:α->β->Prop}:∀{l:List α} {m:List β},Paired F l m->∀(i:Nat) (p:α),l[i]? = some p->∃q,m[i]? = some q/\F p q
 | _,_,.nil,i,p,h=>by simp at h
 | _,_,.cons r t,0,p,h=>by
  rw[aa] at h;cases h;exact⟨_,rfl,r⟩
 | _,_,.cons r t,i+1,p,h=>by
  rw[ac] at h;exact Paired.at t i p h
section
variable {X:Cx}{pins:List (Addr × Obj)}{s:aA}{σ:St}{H:Hp}{a:Addr}{o:Obj}{kvs:List (List Key × V)}{es:Array DictEntry}{ep:Nat}
noncomputable def Qt (tk tv:TE):TE:=λσ H Q=>∀p,H p=none->tk σ (fz H p (.dT [])) λy H1=>tv σ H1 λv H2=>H2 p=some (.dT [])/\∃b ks,y=.ref b/\H2 b=some (.tup (ks.map kV))/\Q (.ref p) (fz H2 p (.dT [(ks,v)]))
theorem JC {k v:Expr}{tk tv:TE}{pos:Pos}(hu:X.A.units+1<cLine)(hk:PE X k tk)(hv:PE X v tv):PE X (.Dict [some k] [v] pos) (Qt tk tv):=by
 intro pins s σ H Q I q;have hn:=I.hok.fresh (aw s.heap.objs.size);have I1:=I.laid (a:=s.heap.objs.size) (o:=.dT []) (h':=s.heap.push { cls:=.type "dict",data:=.dict #[] }) (t':=s.toks) (λ_ _ q=>aj _ q) (aw _) (A9 s.heap I.big);refine wpAny_Dict_any rfl rfl (!4) (!4) (pairTrees_cons_walk (gr (hk pins _ σ _ _ I1 (q _ hn)) λu s2 ⟨y,H2,I2,ry,q2⟩=>gr (hv pins s2 σ H2 _ I2 q2) λw3 s3 ⟨x,H3,I3,rx,e,b,ks,ey,eb,q3⟩=>pairTrees_nil_walk ?_));subst ey;cases (show u=ah.ref b from ry);obtain⟨z,hd,xs0,r0,dd⟩:=Nx I3.hok e;cases r0;unfold storeAll;rw[List.forIn_cons];refine af (af (wpAny_dictSet_heap (knd:=tupleKind (fL X.prog X.w)) (show X.A.units<cLine by omega) (pX I3.hok eb) dd (λh' L1 hs=>am ?_) (!4)));show aH _ _ (pure PUnit.unit) _ _ _;obtain⟨o',j7,Ri,g1,g2,g3,g4,_,g5⟩:=L1;refine am ⟨.ref s.heap.objs.size,_,uB (ob:=.dT [(ks,x)]) I3 (by rw[e];exact True.intro) hs ⟨o',g1⟩ ⟨(by decide:1<=aC),hd,_,.cons ⟨rfl,?_,rx⟩ .nil,o',j7,Ri,g1,g2,g3,g4,g5⟩,rfl,q3⟩;have gX:b≠s.heap.objs.size:=λz=>by rw[z,e] at eb;cases eb
 exact (d6 gX).trans eb
end
theorem Qu (k:List Int):(k.map (Sum.inl:Int->Key)).map kV=k.map V.int:=by rw[bc];rfl
theorem E7 {gs S:List Addr}{H:Hp}{d:ae}{v:V}{k:List Int}(r:fP gs S H d v)(e:qb true d=some k):∃b,v=.ref b/\H b=some (.tup ((k.map (Sum.inl:Int->Key)).map kV)):=by
 obtain⟨ds,rfl⟩:∃ds,d=.tuple ds:=by
  cases d with
  | tuple ds=>exact⟨ds,rfl⟩
  | _=>cases e
 have e':ds=k.map .int:=iA e;subst e';obtain⟨b,ys,rfl,hb,rb⟩:=r.fX;rw[iB rb] at hb;exact⟨b,rfl,by rw[Qu];exact hb⟩
theorem MC {S:List Addr}{H:Hp}{kvs:jn}{xs:List V}(r:dP S H (!26) xs):(A2 kvs xs).length=kvs.length:=by rw[qd];exact uK _ r
structure lZ where
 T:List Int->ae->Prop
 L:List (List Int)
 b:List Int
 Wa:L.length<100000
structure MD (Y:lZ) (kvs:jn):Prop where
 ok:∀p∈kvs,Y.T p.1 p.2/\kx p.2=true
 nd:(kvs.map (·.1)).Nodup
 sub:∀p∈kvs,p.1∈Y.L
 WV:Y.b∈kvs.map (·.1)
theorem yz:∀{kvs:jn},(∀p∈kvs,kx p.2=true)->kP (!26)=true
 | [],_=>rfl
 | p::kvs,h=>by
  rw[ai,kP,h p (ao ..),yz λq hq=>h q (ag _ hq)];rfl
theorem MD.nl {Y:lZ}{kvs:jn}(t:MD Y kvs):kP (!26)=true:=yz λp hp=>(t.ok p hp).2
theorem Qv {l m:List (List Int)}(h:l.Nodup)(hs:∀k∈l,k∈m):l.length<=m.length:=by
 induction l generalizing m with
 | nil=>exact bZ _
 | cons a l ih =>
  obtain⟨h1,h2⟩:=bj.mp h;have ha:=hs a (ao ..);have:=ih (m:=m.erase a) h2 λk hk=>(List.mem_erase_of_ne (λ(z:k=a)=>h1 (z ▸ hk))).mpr (hs k (ag _ hk));rw[dh ha] at this;have:=dn ha;rw[ak];omega
theorem MD.len {Y:lZ}{kvs:jn}(t:MD Y kvs):kvs.length<100000:=by
 have:=Qv t.nd λk hk=>by
  obtain⟨p,hp,rfl⟩:=aU.mp hk;exact t.sub p hp
 rw[ar] at this;have:=Y.Wa;omega
theorem E8 {kvs:jn}{k:List Int}:(kvs.any λp=>decide (p.1=k))=true↔k∈kvs.map (·.1):=by
 rw[cx,aU];exact⟨λ⟨p,h1,h2⟩=>⟨p,h1,of_decide_eq_true h2⟩,λ⟨p,h1,h2⟩=>⟨p,h1,decide_eq_true h2⟩⟩
theorem MD.put {Y:lZ}{kvs:jn}(t:MD Y kvs){k:List Int}{d:ae}(hT:Y.T k d)(hn:kx d=true)(hL:k∈Y.L):MD Y (jq kvs k d):=by
 unfold jq;split
 .rename_i ha
  have hm:∀p∈kvs.map (λp=>if p.1=k then (p.1,d) else p),(∃q∈kvs,p=q)\/p=(k,d):=λp hp=>by
   obtain⟨q,hq,rfl⟩:=aU.mp hp;split
   .rename_i e;exact .inr (by rw[e])
   .exact .inl ⟨q,hq,rfl⟩
  have Oc:(kvs.map (λp=>if p.1=k then (p.1,d) else p)).map (·.1)=kvs.map (·.1):=by
   rw[bc];exact bL λp _=>by simp only[Function.comp];split<;>rfl
  refine⟨λp hp=>?_,by rw[Oc];exact t.nd,λp hp=>?_,by rw[Oc];exact t.WV⟩
  .rcases hm p hp with⟨q,hq,rfl⟩ | rfl
   .exact t.ok _ hq
   .exact⟨hT,hn⟩
  .rcases hm p hp with⟨q,hq,rfl⟩ | rfl
   .exact t.sub _ hq
   .exact hL
 .rename_i ha
  have hk:k ∉ kvs.map (·.1):=λz=>ha (E8.mpr z);refine⟨λp hp=>?_,?_,λp hp=>?_,by rw[aW];exact br _ t.WV⟩
  .rcases aX.mp hp with hp | hp
   .exact t.ok p hp
   .rw[ap.mp hp];exact⟨hT,hn⟩
  .rw[aW]
   refine cj.mpr ⟨t.nd,!4,λa ha b hb z=>?_⟩;have:b=k:=by simpa using hb
   exact hk (this ▸ z ▸ ha)
  .rcases aX.mp hp with hp | hp
   .exact t.sub p hp
   .rw[ap.mp hp];exact hL
theorem yB (kvs:jn)(k:List Int)(d:ae):fY (jq kvs k d) k=some d:=by
 unfold jq;split
 .rename_i ha
  unfold fY
  induction kvs with
  | nil=>cases ha
  | cons p t ih =>
   rw[ai,bK];by_cases e:p.1=k
   .rw[if_pos e,decide_eq_true (show (p.1,d).1=k from e)];rfl
   .rw[if_neg e,decide_eq_false e]
    rw[bF,decide_eq_false e,Bool.false_or] at ha;exact ih ha
 .rename_i ha
  unfold fY;have:kvs.find? (λp=>decide (p.1=k))=none:=List.find?_eq_none.mpr λp hp z=>ha (cx.mpr ⟨p,hp,z⟩);rw[List.find?_append,this];simp
noncomputable def DG (Y:lZ)(H:Hp)(a:Addr):Prop:=∃kvs xs,H a=some (pW true kvs xs)/\dP [] H (!26) xs/\MD Y kvs
theorem DG.ext {Y:lZ}{S:List Addr}{H H':Hp}{a:Addr}(h:DG Y H a)(x:Ext S H H')(ha:a ∉ S):DG Y H' a:=by
 obtain⟨kvs,xs,e,r,t⟩:=h;exact⟨kvs,xs,x.keep _ _ ha e,((r.any (S':=S) t.nl).ext x).any t.nl,t⟩
theorem DG.ne {Y:lZ}{H:Hp}{a:Addr}(h:DG Y H a):H a≠none:=by
 obtain⟨_,_,e,_⟩:=h;rw[e];simp
noncomputable def Fr.known (C:Xc)(Y:lZ)(i:Nat)(a:Addr)(n0:Int)(S:List Addr)(H:Hp)(hk:DG Y H a)(hS:a∈S)(has:∀b∈S,H b≠none):Fr where
 G:=λH n=>n=n0/\DG Y H a
 gs:=[a]
 S0:=S
 H0:=H
 fa:=.ref a
 fd:=[i]
 xc:=C
 jS:=λh x k=>⟨h.1,h.2.ext x λz=>hk.ne (k _ z)⟩
 xm:=λh b hb=>by rw[ap.mp hb];exact h.2.ne
 Wq:=λh b hb φ z=>by
  rw[ap.mp hb] at z;obtain⟨_,_,_,e,_⟩:=h;rw[e] at z;cases z
 Tg:=λb hb=>by rw[ap.mp hb];exact hS
 xn:=has
noncomputable def K1 (F:lZ->UF):Sp:=λvs H Q E=>∃Y a us S ds n Qp,vs=us++[.ref a]/\DG Y H a/\a∈S/\dP S H ds us/\(∀b∈S,H b≠none)/\F Y ds n Qp Gx/\∀d v H',eU S H' d v->DG Y H' a->Ext [a] H H'->Qp d n->Q v H'
noncomputable def JD (N np:Nat)(u:US):UF:=λds n Q Ex=>ds.length+1=np/\u { nx:=λ_ n'=>Q .none n',rt:=Q } (envOf N ds) n
theorem DH {M:Fr}{N:List Str}{ds:List ae}{vs:List V}{S:List Addr}{H:Hp}{n:Int}{a:Addr}(h0:M.H0=H)(hS:M.S0=S)(r:dP S H ds vs)(hfd:M.fd=[ds.length])(AB:M.fa=.ref a)(hN:ds.length+1<=N.length)(g:M.G H n):dZ M (envOf N.length ds) [] (start N (vs++[.ref a])) S H n:=by
 subst h0 hS;have hl:=r.length
 have key:∀(i:Nat) (e:Ent),(envOf N.length ds)[i]? = some (some e)->∃d,ds[i]? = some d/\e=.s d:=λi e h=>by
  unfold envOf at h;by_cases hi:i<ds.length
  .rw[bH (by simpa using hi),az] at h
   cases hd:ds[i]? with
   | none=>rw[hd] at h;cases h
   | some d=>rw[hd] at h;exact⟨d,rfl,(Option.some.inj (Option.some.inj h)).symm⟩
  .rw[bP (by simp;omega),b9] at h
   split at h<;>cases h
 refine⟨λi e h=>?_,λi j a b c h1=>?_,?_,?_,g,.refl _ _,λa h=>h,λa h=>.inl h,M.xn,λp hp=>by cases hp⟩
 .obtain⟨d,hd,rfl⟩:=key i e h
  obtain⟨v,hv,rv⟩:=r.at hd;refine⟨v,?_,rv⟩;have hi:i<vs.length:=(aG.mp hv).1;unfold start;rw[aW,bu,bH (by rw[ar];exact hi),az,hv];rfl
 .obtain⟨d,_,e⟩:=key _ _ h1
  cases e
 .unfold envOf start
  simp[hl];omega
 .rw[hfd,AB]
  intro i hi;rw[ap.mp hi,<- hl];unfold start;rw[aW,bu,bP (!4)];simp
section
variable {P:bf}{w:World}{K:W.Frag}{mg:Str->Option ah}{base:Heap}{x:Str}{st:Stmt}{ps:List Str}{k:Nat}{C:Xc}
theorem T8 (u:lZ->US)(N:List Str)(F:FM K mg x st)
  (body:gp N ps (dM st)->∀(f:Addr) (fH:ah) (A:Around) (outer:List Env) (s:aA) (H:Hp) (E:XK) (Y:lZ) (a:Addr) (n0:Int) (S:List Addr) (hk:DG Y H a) (hS:a∈S) (has:∀b∈S,H b≠none),ik k (((A.deeper (envOfC x (dM st) s.heap.objs.size f fH))))->(((A.deeper (envOfC x (dM st) s.heap.objs.size f fH)))).units+64<cLine ->
   zK (pT zt P w K mg base N x (dM st) f fH A outer s H E).FJ (Fr.known C Y (ps.length - 1) a n0 S H hk hS has) (gK st) (u Y))
  (sc:gp N ps (dM st):=by exact U9) (hN:ps.length<=N.length:=by decide) (hb:BD x st ps:=by rw[999]) :
  eD P w K mg base (k+1) x ps (K1 λY=>JD N.length ps.length (u Y)):=by
 obtain⟨f,fd,F,hm⟩:=F.ex;refine⟨f,fd,F.PN sc (λvs H Q E h=>?_) (λfH A outer s H vs Q E hr h=>?_),hm,F.kp,F.binds hb⟩
 .obtain⟨Y,a,us,S,ds,n,Qp,rfl,_,_,r,_,hF,_⟩:=h
  rw[aQ,r.length];exact hF.1
 .obtain⟨Y,a,us,S,ds,n,Qp,rfl,hk,hS,r,has,hF,hq⟩:=h
  have hlen:ds.length=ps.length - 1:=by have:=hF.1;omega
  refine⟨_,(body sc f fH A outer s H E Y a n S hk hS has hr hr.units).run,envOf N.length ds,[],S,n,_,DH rfl rfl r (by rw[hlen];rfl) rfl (by have:=hF.1;omega) ⟨rfl,hk⟩,hF.2,λeL σ' S' H' n' ok q=>?_,λv H' d n' rv x g q=>?_⟩
  .have g:=ok.gd
   have e:n'=n:=g.1;subst e;exact hq _ _ H' .jm g.2 ok.ext q
  .have e:n'=n:=g.1
   subst e;exact hq d v H' rv g.2 x q
end
section
variable {X:Cx}{M:Fr}{e1 e2 ve ke:Expr}{u1 u2 uv uk:UX}{p p2 p3 p4 pos iQ WW WX:Pos}{F:lZ->UF}{x y z:Str}{ps:List Str}{k:Nat}{Y:lZ}{a:Addr}{n0:Int}
theorem T9 {P:bf}{w:World}{K:W.Frag}{mg:Str->Option ah}{base:Heap}{st:Stmt}{k:Nat}(F:FM K mg x st)(hb:BD x st ps:=by rw[999]):eD P w K mg base k x ps (K1 λ_=>TQ) :=
 let ⟨f,fd,F,hm⟩:=F.ex;⟨f,fd,⟨λvs H Q E ⟨_,_,_,_,_,_,_,_,_,_,_,_,h,_⟩=>h.elim,λ_ _ _ _ _ _ _ _ _ _ _ _ _ ⟨_,_,_,_,_,_,_,_,_,_,_,_,h,_⟩=>h.elim⟩,hm,F.kp,F.binds hb⟩
theorem pq (i:Nat)(D:eD X.prog X.w X.K X.mg X.base k x ps (K1 F))(hr:ik k X.A)(h1:KE X M e1 u1)(h2:KE X M e2 u2)
  (hG:M.G=λH n=>n=n0/\DG Y H a:=by rfl) (AB:M.fa=.ref a:=by rfl) (Qh:M.gs=[a]:=by rfl) (hfd:i∈M.fd:=by exact ap.mpr rfl)
  (hN:X.N[i]? = some y:=by rfl) (hv:Az X.env.scope y:=by (first | exact Or.inl rfl | exact Or.inr (Or.inl rfl) | exact Or.inr (Or.inr rfl))) (hd:(y == (!17))=false:=by decide) (mY:(y == (!22))=false:=by decide)
  (hg:Gl X x:=by rfl) (tP:(x == (!17))=false:=by decide) (WY:fk e1=true:=by rfl) (sm:fk e2=true:=by rfl):KE X M (.Call (!35) [e1,e2,.Name y p2] [] pos) (dE (F Y) (dz u1 (dz u2 dC))) :=
 .of (oE D hr (iS h1.run (iS h2.run (iS (qv i hN hv hd mY) fN rfl) sm) WY) hg tP) λσ H R env pn S n Q ok hu k=>⟨env,pn,S,n,_,ok,hu,λv1 H1 d1 n1 r1 x1 g1 _ q=>by
  have kr:=ok.step x1 g1;refine⟨env,pn,S,n1,_,kr,q,λv2 H2 d2 n2 r2 x2 g2 _ q=>?_⟩;have tW:=kr.step x2 g2;have EU:=tW.Dq i hfd;rw[AB] at EU;have WZ:=g2;rw[hG] at WZ;refine⟨_,EU,Y,a,[v1,v2],S,[d1,d2],n2,_,rfl,WZ.2,ok.sE a (by rw[Qh];simp),.cons (r1.ext (x2.mono kr.sE)) (.cons r2 .nil),tW.has,q,λd v H3 r3 k3 x3 q3=>k v H3 d n2 r3 ((x1.trans x2).trans (by rw[Qh];exact x3)) (by rw[hG];exact⟨WZ.1,k3⟩) q3⟩⟩
noncomputable def JE (Y:lZ)(j:Nat)(uA:US)(uv:UX):US:=λE env n=>∃kk:List Int,env[j]? = some (some (.s (.tuple (kk.map .int))))/\kk∈Y.L/\(∀d,Y.T kk d->E.rt d n) /\
 (kk≠Y.b->uA { nx:=λeL n'=>eL[j]? = env[j]? /\ uv eL n' λd n2=>kx d=true/\Y.T kk d/\E.rt d n2,rt:=E.rt } env n)
theorem Od {H:Hp}{kk:List Int}{b:Addr}{kvs:jn}{xs:List V}{S:List Addr}(ha:H a=some (pW true kvs xs))(r:dP S H (!26) xs)(hb:H b=some (.tup ((kk.map (Sum.inl:Int->Key)).map kV))) :
  (fY kvs kk=none/\j9 H a (.ref b) none)\/∃d v,fY kvs kk=some d/\j9 H a (.ref b) (some v)/\eU S H d v:=by
 have hg:=j9.t (show H a=some (.dT (A2 kvs xs)) from ha) hb;rw[qd] at hg;rcases uM (f:=λk=>(k.map Sum.inl:List Key)) (k:=kk) r (λ_ _ h=>uN h) with⟨h1,h2⟩ | ⟨d,v,h1,h2,h3⟩
 .rw[h2] at hg;exact .inl ⟨h1,hg⟩
 .rw[h2] at hg;exact .inr ⟨d,v,h1,hg,h3⟩
theorem vL {kvs:jn}{k:List Int}{d:ae}(h:fY kvs k=some d):(k,d)∈kvs:=by
 unfold fY at h
 cases e:kvs.find? λp=>decide (p.1=k) with
 | none=>rw[e] at h;cases h
 | some p =>
  rw[e] at h;cases h;have h1:=List.mem_of_find?_eq_some e;have h2:p.1=k:=by simpa using List.find?_some e
  rw[<- h2];exact h1
theorem JF (i j:Nat){body:Stmt}{uA:US}{q1 q2 q3 q4:Pos}(hu:X.A.units+1<cLine)(hA:KS X M body uA)(hve:KE X M ve uv)
  (hG:M.G=λH n=>n=n0/\DG Y H a) (AB:M.fa=.ref a) (Qh:M.gs=[a]) (hfd:i∈M.fd)
  (hN:X.N[i]? = some y:=by rfl) (hv:Az X.env.scope y:=by (first | exact Or.inl rfl | exact Or.inr (Or.inl rfl) | exact Or.inr (Or.inr rfl))) (hd:(y == (!17))=false:=by decide) (mY:(y == (!22))=false:=by decide)
  (W0:X.N[j]? = some z:=by rfl) (AA:Az X.env.scope z:=by (first | exact Or.inl rfl | exact Or.inr (Or.inl rfl) | exact Or.inr (Or.inr rfl))) (AS:(z == (!17))=false:=by decide) (Qw:(z == (!22))=false:=by decide)
  (hm:behindInMarks .NotIn (.Name y p)=false:=by first | exact m6 _ | rfl) (hs:swapsWith ve (some (.Subscript (.Name y p2) (.Name z p3) iQ)) pos.line X.env=pure false:=by rfl) :
  zK X M [.If (.Compare (.Name z p4) [.NotIn] [.Name y p] WW) [body,.Assign [.Subscript (.Name y p2) (.Name z p3) iQ] ve pos] [] WX,.Return (some (.Subscript (.Name y q1) (.Name z q2) q3)) q4] (JE Y j uA uv) :=
 ⟨(fO (EB (⟨Hz (F8 hu (qv j W0 AA AS Qw).run (qv i hN hv hd mY).run) hm⟩:QT X _ _) (fO hA.run (i7 (uE hu (qv i hN hv hd mY) (qv j W0 AA AS Qw) hve.run hs))) uz) (i7 (nc (uD hu (qv i hN hv hd mY) (qv j W0 AA AS Qw) λ_ _=>rfl)))).weaken λD σ H h=>EI h λenv pn S n E h=>by
  obtain⟨ok,⟨kk,hj,hL,W2,W3⟩,JG,Ua⟩:=h
  have go:∀{eL:fC} {σ':St} {S':List Addr} {H':Hp} {n':Int},dZ M eL pn σ' S' H' n'->eL[j]? = some (some (.s (.tuple (kk.map .int))))->∃b kvs xs,σ'[j]? = some (some (.ref b))/\σ'[i]? = some (some (.ref a))/\H' b=some (.tup ((kk.map (Sum.inl:Int->Key)).map kV))/\H' a=some (pW true kvs xs)/\dP [] H' (!26) xs/\MD Y kvs/\n'=n0:=λ{eL σ' S' H' n'} lA Qx=>by
   obtain⟨v,hv,r⟩:=lA.val j _ Qx;obtain⟨b,rfl,hb⟩:=E7 (gs:=M.gs) (d:=.tuple (kk.map .int)) (k:=kk) (.inl r) (by simp[qb]);have ME:=lA.Dq i hfd;rw[AB] at ME;have g:=lA.gd;rw[hG] at g;obtain⟨e,kvs,xs,h1,h2,h3⟩:=g;exact⟨b,kvs,xs,hv,ME,hb,h1,h2,h3,e⟩
  obtain⟨b,kvs,xs,Rt,ME,hb,ha,r,t,en⟩:=go ok hj;have aS:a∈M.gs:=by rw[Qh];simp
  rcases Od ha r hb with⟨kz,hg⟩ | ⟨d,v,Bd,hg,hr⟩
  .refine⟨_,Rt,_,ME,a,none,rfl,hg,true,rfl,?_⟩
   have hkb:kk≠Y.b:=λz=>by
    have hm:=t.WV;rw[<- z] at hm;have h1:=E8.mpr hm;unfold fY at kz
    cases hf:kvs.find? λp=>decide (p.1=kk) with
    | none =>
     obtain⟨p,hp,hpk⟩:=cx.mp h1;exact List.find?_eq_none.mp hf p hp hpk
    | some p=>rw[hf] at kz;cases kz
   refine⟨env,pn,S,n,_,ok,W3 hkb,λeL σ' S' H' n' lA q=>?_,Ua⟩;obtain⟨Qx,q⟩:=q;rw[hj] at Qx;refine⟨eL,pn,S',n',_,lA,q,λv H1 d n1 r1 x1 g1 _ q=>?_⟩;obtain⟨Ub,hT,hq⟩:=q;have kr:=lA.step x1 g1;obtain⟨b,kvs,xs,Rt,ME,hb,ha,r,t,en⟩:=go kr Qx;have hlen:kvs.length<aC:=aP t.len (!2);have r0:dP S' H1 (!26) xs:=r.any t.nl;obtain⟨ys,hp,hr⟩:=z9 (f:=λk=>(k.map Sum.inl:List Key)) (k:=kk) r1 r0 (λ_ _ h=>uN h);have Uc:=tR.t (v:=v) (show H1 a=some (.dT (A2 kvs xs)) from ha) hb (by rw[MC r0];exact hlen);rw[qd,hp,<- qd] at Uc;have x2:Ext M.gs H1 (fz H1 a (pW true (jq kvs kk d) ys)):=.Mt aS ha;have t2:=t.put hT Ub hL;have Qy:dP S' (fz H1 a (pW true (jq kvs kk d) ys)) ((jq kvs kk d).map (·.2)) ys:=hr.ext (x2.mono kr.sE)
   have g2:M.G (fz H1 a (pW true (jq kvs kk d) ys)) n1:=by
    rw[hG];exact⟨en,_,ys,dQ,Qy.any t2.nl,t2⟩
   refine⟨_,ME,_,Rt,a,_,rfl,Uc,?_⟩;have Qz:fz H1 a (pW true (jq kvs kk d) ys) b=some (.tup ((kk.map (Sum.inl:Int->Key)).map kV)):=x2.tup _ _ hb;refine⟨_,ME,_,Rt,a,?_⟩;rcases Od (S:=S') dQ Qy Qz with⟨kz,_⟩ | ⟨d',v',Bd,hg,hrv⟩
   .rw[yB] at kz;cases kz
   .rw[yB] at Bd
    cases Bd;exact⟨v',rfl,hg,Ua v' _ d n1 (hrv.less kr.s0) ((kr.step x2 g2).ext) g2 hq⟩
  .refine⟨_,Rt,_,ME,a,some v,rfl,hg,false,rfl,_,ME,_,Rt,a,v,rfl,hg,?_⟩
   have hp:=t.ok _ (vL Bd);exact Ua v H d n (hr.any hp.2) ok.ext ok.gd (W2 d hp.1)⟩
noncomputable def JH (o:Option Ent):Option Ent:=match o with | some (.s d)=>some (.s d) | _=>none
theorem E9 {env:fC}{i j:Nat}{e:Ent}(h:((env.map JH).set i none)[j]? = some (some e)):j≠i/\∃d,e=.s d/\env[j]? = some (some (.s d)):=by
 rcases fD h with⟨_,e1⟩ | ⟨ne,e1⟩
 .cases e1
 .refine⟨λz=>ne z.symm,?_⟩
  rw[az] at e1
  cases ho:env[j]? with
  | none=>rw[ho] at e1;cases e1
  | some o =>
   rw[ho] at e1
   cases o with
   | none=>cases e1
   | some en =>
    cases en with
    | s d=>cases e1;exact⟨d,rfl,rfl⟩
    | _=>cases e1
noncomputable def qf (i:Nat)(uk uv:UX)(w:lZ->US):US:=λE env n=>i<env.length/\uk env n λk n1=>uv env n1 λd n2=>qR (qb true k) λkk=>∃Y:lZ,Y.T kk d/\kx d=true/\kk∈Y.L/\Y.b=kk/\w Y { nx:=λ_ _=>False,rt:=E.rt } ((env.map JH).set i none) n2
theorem yC {i:Nat}{C:Xc}{S0:List Addr}{H0:Hp}{has:∀b∈S0,H0 b≠none}{rest:List Stmt}{w:lZ->US}(hu:X.A.units+1<cLine)(hN:X.N.Nodup)(hx:Loc X.env.scope x)(hk:KE X (Fr.pure C n0 S0 H0 has) ke uk)(hv:KE X (Fr.pure C n0 S0 H0 has) ve uv)
  (hr:∀(Y:lZ) (a:Addr) (S:List Addr) (H:Hp) (hk:DG Y H a) (hS:a∈S) (hs:∀b∈S,H b≠none),zK X (Fr.known C Y i a n0 S H hk hS hs) rest (w Y)) (hi:X.N[i]? = some x:=by rfl) (hs:swapsWith (.Dict [some ke] [ve] p) (some (.Name x iQ)) pos.line X.env=pure false:=by rfl)
  (hf:X.fn x=true\/X.env.scope.names.lookup x=some .local:=by (first | exact .inl rfl | exact .inr rfl | assumption)):zK X (Fr.pure C n0 S0 H0 has) (.Assign [.Name x iQ] (.Dict [some ke] [ve] p) pos::rest) (qf i uk uv w):=by
 have JI:A3 X rest (λD σ H=>∃(Y:lZ) (a:Addr) (S:List Addr) (H1:Hp) (hk:DG Y H1 a) (hS:a∈S) (hs:∀b∈S,H1 b≠none),EH (Fr.known C Y i a n0 S H1 hk hS hs) (w Y) D σ H) :=
  ⟨λpins s σ H D I q=>let ⟨Y,a,S,H1,hk,hS,hs,h⟩:=q;(hr Y a S H1 hk hS hs).run.run pins s σ H D I h⟩
 refine⟨(fO (j8 hN hi hx (⟨JC hu hk.run.run hv.run.run⟩:QE X _ _) hs hf) JI).weaken λD σ H h=>EI h λenv pn S n E h=>?_⟩;obtain⟨ok,⟨hlen,hu⟩,JG,Ua⟩:=h;intro a ha;have x0:Ext (Fr.pure C n0 S0 H0 has).gs H (fz H a (.dT [])):=.new ha;have T5:=ok.hold (H':=fz H a (.dT [])) ha (by rw[dQ];simp) x0 (ok.grow (.new ha));have T6:a ∉ (Fr.pure C n0 S0 H0 has).gs:=by simp[Fr.pure]
 refine⟨env,pn,a::S,n,_,T5,hu,λy H1 kd n1 r1 x1 g1 _ q=>?_⟩;have kr:=T5.step x1 g1;refine⟨env,pn,a::S,n1,_,kr,q,λv H2 d n2 r2 x2 g2 _ q=>?_⟩;have tW:=kr.step x2 g2;obtain⟨kk,ek,Y,hT,Ub,hL,hbk,hw⟩:=q;have h2:H2 a=some (.dT []):=x2.keep _ _ T6 (x1.keep _ _ T6 dQ);obtain⟨b,rfl,hb⟩:=E7 (gs:=[]) (.inl (r1.ext (x2.mono kr.sE))) ek;have h00:H0 a=none:=ok.anew ha;have xS:Ext (a::S) H2 (fz H2 a (pW true [(kk,d)] [v])):=.Mt (t:=true) (kvs:=[]) (xs:=[]) (!4) h2;have Va:DG Y (fz H2 a (pW true [(kk,d)] [v])) a:=⟨[(kk,d)],[v],dQ,(dP.cons (r2.ext xS) .nil).any (by simp[kP,Ub]),λp hp=>by rw[ap.mp hp];exact⟨hT,Ub⟩,!4,λp hp=>by rw[ap.mp hp];exact hL,by simp[hbk]⟩
 have sm:∀c∈a::S,fz H2 a (pW true [(kk,d)] [v]) c≠none:=λc hc=>by
  by_cases z:c=a
  .rw[z,dQ];simp
  .rw[d6 z];exact tW.has c hc
 refine⟨h2,b,_,rfl,hb,Y,a,a::S,_,Va,ao ..,sm,(env.map JH).set i none,[],a::S,n2,_,⟨λj e he=>?_,λj l ds es c h1=>?_,by rw[aZ,ar,aZ,ok.len],λj hj=>?_,⟨g2,Va⟩,.refl _ _,λc hc=>hc,λc hc=>.inl hc,sm,λq hq=>by cases hq⟩,hw,λ_ _ _ _ _ _ z=>z.elim,λv' H' d' n' rv xx g q=>?_⟩
 .obtain⟨hji,d',rfl,Gw⟩:=E9 he
  obtain⟨w',TJ,oh⟩:=tW.val j _ Gw;exact⟨w',by rw[aV (λz=>hji z.symm)];exact TJ,eU.ext xS oh⟩
 .obtain⟨_,d',e,_⟩:=E9 h1
  cases e
 .have e:j=i:=ap.mp hj
  rw[e];exact kA (by rw[<- ok.len];exact hlen)
 .refine Ua v' H' d' n' (rv.less λc hc=>ag _ (ok.s0 c hc)) ⟨λc o hc Ud=>?_,λc ys Ud=>?_⟩ ?_ q
  .have Ys:c≠a:=λz=>by rw[z] at Ud;exact absurd (Ud.symm.trans h00) (!4)
   refine xx.keep c o (by simpa [Fr.known] using Ys) ?_;show fz H2 a _ c=_;rw[d6 Ys];exact tW.ext.keep c o hc Ud
  .exact xx.tup c ys (xS.tup c ys (tW.ext.tup c ys Ud))
  .exact g.1
end
theorem Inv.Fb {X:Cx}{pins:List (!19)}{σ:St}{H:Hp}{s:aA}{h':Heap}{t':Nat}{fp:List Addr}(I:Inv X pins σ H s)(k:∀b o,b ∉ fp->s.heap.get? b=some o->h'.get? b=some o)(hf:∀b∈fp,su X pins H b):Inv X pins σ H { s with heap:=h',toks:=t' }:=by
 have Hv:∀b u,H b=some u->b ∉ fp:=λb u e z=>by have:=(hf b z).1;rw[e] at this;cases this
 have nl:X.env.locals ∉ fp:=λz=>(hf _ z).2.1 rfl
 refine I.step (g':=s.gens) (d':=s.drawn) (ch:=fp) (λb hb=>?_) (λb o _ _ hc e _=>k b o hc e) (λb o _ _ hc e _=>⟨o.slots,k b o hc e⟩) (λ_ _ _ _ n=>n)
  (λb o hc e=>⟨o,k b o hc e⟩) (λ_ _ e=>e) (λ_ _ _ e=>e) (λb ps e=>⟨#[],by rw[e];simp⟩) (λm hm=>?_) (λb u e=>?_) I.bare
 .obtain⟨_,h1,_,h3,h4,h5⟩:=hf b hb
  exact⟨h3,h1,h4,h5⟩
 .obtain⟨o,es,ep,ho,r⟩:=hm
  exact⟨o,es,ep,k _ o nl ho,r⟩
 .refine (I.hok b u e).CN (λc v hc q=>k c v ?_ q) (λ_ q=>q) λ_ _ q=>q
  rcases hc with z | z
  .rw[z];exact Hv b u e
  .exact Hv c _ z
noncomputable def W4 (K:W.Frag)(a b:Addr):It :=
 ⟨λi H=>∃xs ys x y,gx K H a xs/\gx K H b ys/\xs[i]? = some x/\ys[i]? = some y,λi H x H'=>∃T xi yi,x=.ref T/\H T=none/\H'=fz H T (.tup [xi,yi])/\(∀xs,gx K H a xs->xs[i]? = some xi)/\∀ys,gx K H b ys->ys[i]? = some yi,λi H=>∃xs ys,gx K H a xs/\gx K H b ys/\(xs.length<=i\/ys.length<=i)⟩
theorem GK {P:bf}{w:World}{K:W.Frag}{sC:List Expr}{k:Nat}{pos:Pos}(a b z TI TO i1 i2:Addr)(D:ZipApart z TI TO i1 i2 a b):AL P w K (.Tuple sC k pos) (W4 K a b) [z,TI,TO,i1,i2] z (λi h=>IsZip h z TI TO .none/\IsPair h TI (.ref i1) (.ref i2)/\(∃u v,IsPair h TO u v)/\h.IsListIter i1 a i/\h.IsListIter i2 b i) where
 mem:=by simp
 obj:=λi h st c hc=>by
  obtain⟨hz,MF,⟨u,v,Oe⟩,⟨o1,g1,c1,d1⟩,⟨o2,g2,c2,d2⟩⟩:=st;simp only[ax,bw,or_false] at hc;rcases hc with rfl | rfl | rfl | rfl | rfl
  .exact⟨_,hz,λv z=>by cases z⟩
  .exact⟨_,MF,λv z=>by cases z⟩
  .exact⟨_,Oe,λv z=>by cases z⟩
  .exact⟨o1,g1,λv z=>by rw[d1] at z;cases z⟩
  .exact⟨o2,g2,λv z=>by rw[d2] at z;cases z⟩
 keep:=λi h h' st kp=>by
  obtain⟨hz,MF,⟨u,v,Oe⟩,h1,h2⟩:=st;exact⟨kp z (!4) _ hz,kp TI (!4) _ MF,⟨u,v,kp TO (!4) _ Oe⟩,h1.at λo q=>kp i1 (!4) o q,h2.at λo q=>kp i2 (!4) o q⟩
 item:=by
  (intro X hP hw hK hc i pins s σ H E I hf st hg);subst hP hw hK;obtain⟨hz,MF,⟨p,q,Oe⟩,h1,h2⟩:=st;obtain⟨xs,ys,x,y,Vb,Vc,hx,hy⟩:=hg;obtain⟨its,rv,pl,hz1⟩:=I.list Vb;obtain⟨Yt,oh,W5,Yu⟩:=I.list Vc;obtain⟨u,hu,ru⟩:=rv.get hx;obtain⟨v,hv,Yv⟩:=oh.get hy;refine wpAny_pyNext_zip_item D hz MF Oe h1 h2 pl.isList W5.isList (x:=u) (y:=v) (by simpa using hu) (by simpa using hv) λh' a1 a2 a3 a4 a5 a6 kp=>⟨_,rfl,wpAny_letOwnedTupleGo_zip a1 λNZ a1' sb=>?_⟩;have lt:∀{c o},s.heap.get? c=some o->c<s.heap.objs.size:=λe=>aF e;have e1:z<s.heap.objs.size:=lt hz;have e2:TI<s.heap.objs.size:=lt MF;have e3:TO<s.heap.objs.size:=lt Oe;have e4:i1<s.heap.objs.size:=by obtain⟨_,e,_⟩:=h1;exact lt e
  have e5:i2<s.heap.objs.size:=by obtain⟨_,e,_⟩:=h2;exact lt e
  have P0:∀c o,c ∉ [z,TI,TO,i1,i2]->s.heap.get? c=some o->NZ.get? c=some o:=λc o hc e=>by
   simp only[ax,bw,or_false,not_or] at hc;exact (sb.2 c hc.1).trans (kp c o hc.1 hc.2.2.1 hc.2.2.2.1 hc.2.2.2.2 e)
  have t2:IsPair NZ s.heap.objs.size u v:=(sb.2 _ (bv e1)).trans a5;have I2:Inv X pins σ H { s with heap:=NZ,toks:=s.toks }:=I.Fb P0 hf;obtain⟨p0,p1,p2,p3,p4,p5⟩:=I.qT (aw s.heap.objs.size) (!34)
  have I3:Inv X pins σ (fz H s.heap.objs.size (.tup [x,y])) { s with heap:=NZ,toks:=s.toks } :=
   I2.A1 (o:=.tup [x,y]) t2 p0 p1 p3 p4 p5 ⟨by show 2<=aC;decide,[u,v],.cons ru (.cons Yv .nil),⟨_,t2,rfl,_,rfl,rfl⟩⟩
  refine⟨.ref s.heap.objs.size,_,I3,rfl,⟨_,x,y,rfl,p0,rfl,λzs hz=>by rw[I.qS hz Vb];exact hx,λzs hz=>by rw[I.qS hz Vc];exact hy⟩,⟨a1',?_,⟨u,v,(sb.2 _ D.TOz).trans a2⟩,a3.at λo q=>(sb.2 i1 D.i1z).trans q,a4.at λo q=>(sb.2 i2 D.i2z).trans q⟩,λc hc=>?_⟩
  .exact (sb.2 _ D.TIz).trans (kp _ _ D.TIz D.TITO D.TIi1 D.TIi2 MF)
  .have hcn:c≠s.heap.objs.size:=by
    have xM:=hc;simp only[ax,bw,or_false] at xM;rcases xM with rfl | rfl | rfl | rfl | rfl
    .exact aR e1
    .exact aR e2
    .exact aR e3
    .exact aR e4
    .exact aR e5
   rw[d6 hcn];exact (hf c hc).1
 done:=by
  (intro X hP hw hK hc i pins s σ H E I hf st hg);subst hP hw hK;obtain⟨hz,MF,⟨p,q,Oe⟩,h1,h2⟩:=st;obtain⟨xs,ys,Vb,Vc,hx⟩:=hg;obtain⟨its,rv,pl,hz1⟩:=I.list Vb;obtain⟨Yt,oh,W5,Yu⟩:=I.list Vc;have l1:=rv.length;have l2:=oh.length;refine wpAny_pyNext_zip_end (I.ok.hd hc) D hz MF Oe h1 h2 pl.isList W5.isList (by rcases hx with hx | hx;exact .inl (by simp;omega);exact .inr (by simp;omega)) λh' kp=>⟨rfl,I.Fb (t':=s.toks) (λc o hc e=>?_) hf⟩;simp only[ax,bw,or_false,not_or] at hc;exact kp c o hc.1 hc.2.2.1 hc.2.2.2.1 hc.2.2.2.2 e
 self:=λ_ _ _ _ _ st h=>wpAny_pyIter_zip st.1 h
section
variable {X:Cx}{M:Fr}{sC:List Expr}{k:Nat}{rq p pos:Pos}{a b:Expr}{ta:TA}{u w:UX}
noncomputable def Ue (K:W.Frag)(ta:TA):TI:=λσ H R=>ta σ H λvs H1=>∃a b xs ys,vs=[.ref a,.ref b]/\gx K H1 a xs/\gx K H1 b ys/\R (W4 K a b) H1
theorem MG (hg:Gl X "zip")(hm:X.mg "zip" = none)(ha:QA X [a,b] ta):QI X (.Tuple sC k rq) (.Call (.Name "zip" p) [a,b] [] pos) (Ue X.K ta):=by
 refine⟨λpins s σ H R I h=>?_⟩;have hs:=f9 (env:=X.env) (es:=[b]) (nZ ha.ns).1;refine Call_ (sr I hg hm (by decide +kernel:bootBuiltins "zip" = some (.type "zip")) (PyProof.Rows.callWith_type1 (gr (ha.run pos pins s σ H _ I h) λus s1 ⟨vs,H1,I1,r1,q1⟩=>?_) hs (kI (nZ ha.ns).2)));obtain⟨t,t2,xs,ys,e,hq,hq2,q⟩:=q1;subst e
 cases r1 with
 | cons r rr =>
  cases rr with
  | cons r2 rr =>
   cases rr;cases (show _=ah.ref t from r);cases (show _=ah.ref t2 from r2);obtain⟨its,rv,pp,hz⟩:=I1.list hq;obtain⟨Yt,Yv,Yw,Yu⟩:=I1.list hq2;have W6:t<s1.heap.objs.size:=by obtain⟨o,e,_⟩:=pp.isList;exact aF e
   have Ug:t2<s1.heap.objs.size:=by obtain⟨o,e,_⟩:=Yw.isList;exact aF e
   refine call_zip_2 pp.isList Yw.isList λh' b1 b2 b3 b4 b5 b6 kp=>?_;refine wpAny_pyIter_zip b1 ?_;have I2:Inv X pins σ H1 { s1 with heap:=h' }:=I1.kept (t':=s1.toks) kp
   have D:ZipApart (s1.heap.objs.size+4) (s1.heap.objs.size+2) (s1.heap.objs.size+3) s1.heap.objs.size (s1.heap.objs.size+1) t t2:=by
    have n1:∀j,t≠s1.heap.objs.size+j:=λj=>aR (aP W6 (cI _ j));have n2:∀j,t2≠s1.heap.objs.size+j:=λj=>aR (aP Ug (cI _ j));constructor<;>first | exact n1 _ | exact n2 _ | exact n1 0 | exact n2 0 | (refine Ne.intro λ(z:(_:Nat)=_)=>?_;omega)
   refine⟨s1.heap.objs.size+4,[s1.heap.objs.size+4,s1.heap.objs.size+2,s1.heap.objs.size+3,s1.heap.objs.size,s1.heap.objs.size+1],_,_,H1,rfl,I2,GK t t2 _ _ _ _ _ D,⟨b1,b2,⟨_,_,b3⟩,b4,b5⟩,λb hb=>?_,q⟩
   have yt:s1.heap.objs.size<=b:=by
    simp only[ax,bw,or_false] at hb;rcases hb with rfl | rfl | rfl | rfl | rfl
    .exact cI _ _
    .exact cI _ _
    .exact cI _ _
    .exact aw _
    .exact cI _ _
   exact I1.qT yt (I1.hok.fresh yt)
noncomputable def DI (ds es:List ae):List ae:=(ds.zip es).map λp=>.tuple [p.1,p.2]
theorem QB {K:W.Frag}{S:List Addr}{H:Hp}{a b:Addr}{xs ys:List V}{ds es:List ae}(ha:H a=some (.lst xs))(r:dP S H ds xs)(hb:H b=some (.lst ys))(r2:dP S H es ys):Bu S (W4 K a b) (DI ds es) H:=by
 have hl:(DI ds es).length=min xs.length ys.length:=by unfold DI;rw[ar,List.length_zip,r.length,r2.length]
 refine⟨λi hi=>?_,λi x H' hi ⟨T,xi,yi,e1,hT,e2,Tx,hyi⟩=>?_,λi hi=>⟨xs,ys,gx.of ha,gx.of hb,!1⟩⟩
 .exact⟨xs,ys,xs[i]'(!1),ys[i]'(!1),gx.of ha,gx.of hb,!4,!4⟩
 .subst e1 e2
  obtain⟨d,hd,rd⟩:=r.get (Tx xs (gx.of ha));obtain⟨e,he,re⟩:=r2.get (hyi ys (gx.of hb));refine⟨.tuple [d,e],?_,.new hT,.tup dQ (.cons (rd.ext (.new hT)) (.cons (re.ext (.new hT)) .nil))⟩;unfold DI;rw[az,show (ds.zip es)[i]? = some (d,e) from dc.mpr ⟨hd,he⟩];rfl
noncomputable def Vd (u w:UX):UI:=λenv n Q=>u env n λd n1=>w env n1 λe n2=>match d,e with | .list ds,.list es=>Q (DI ds es) env n2 | _,_=>False
theorem Uh (hm:X.mg "zip" = none)(ha:KE X M a u)(hb:KE X M b w)(hs:fk a=true:=by rfl)(sm:fk b=true:=by rfl)(hg:Gl X "zip" := by rfl):KI X M (.Tuple sC k rq) (.Call (.Name "zip" p) [a,b] [] pos) (Vd u w) :=
 ⟨_,MG hg hm (iS ha.run (iS hb.run fN sm) hs),λσ H R env pn S n Q ok hu k=>⟨env,pn,S,n,_,ok,hu,λv H1 d n1 r1 x1 g1 sz q=>⟨env,pn,S,n1,_,ok.step x1 g1,q,λv2 H2 d2 n2 r2 x2 g2 sz2 q=>by
  cases d with
  | list ds =>
   cases d2 with
   | list es =>
    have kr:=ok.step x1 g1;have U':=r1.ext (x2.mono kr.sE);have tW:=((kr.step x2 g2).Ds r2).Ds U';obtain⟨a,xs,rfl,ha,_,rs⟩:=U'.fA;obtain⟨b,ys,rfl,hb,_,rs2⟩:=r2.fA;refine⟨a,b,xs,ys,rfl,gx.of ha,gx.of hb,k _ H2 _ env S n2 [_,_] tW (λS2 H3 hh=>?_) q⟩;obtain⟨a',tU,e',lL,_,CL⟩:=(hh _ (ao ..)).fA;obtain⟨b',ys',Rl,yt,_,W7⟩:=(hh _ (ag _ (ap.mpr rfl))).fA;cases e';cases Rl;exact QB lL CL yt W7
   | _=>exact False.elim q
  | _=>cases d2<;>exact False.elim q⟩⟩⟩
end
end L2
namespace L2
open PySem PySem.Spec PyProof.Rows PySem.W
noncomputable def JJ (x0:ah)(f:Bool)(d:Addr)(i n ep:Nat)(k v:ah):Obj:={ cls:=.type "dict_itemiterator",data:=.fields #[x0,.bool f,.ref d,.int i 0,.int n 0,.int ep 0,k,v] }
inductive BQ (h:Heap) (it:Addr):ah->Bool->Prop
 | no:BQ h it .none false
 | pair (a:Addr) (oa:Obj) (f:Bool) (h1:h.get? a=some oa) (h2:a≠it):BQ h it (rawInt a) f
noncomputable def MH (h:Heap)(it d:Addr)(i n ep:Nat):Prop:=∃x0 f k v,h.get? it=some (JJ x0 f d i n ep k v)/\BQ h it x0 f
section
variable {prog:bf}{w:World}{A:Around}{E:ah->aA->Prop}{s:aA}{d it v:Addr}{o:Obj}{es:Array DictEntry}{ep i:Nat}{x0 ok ov:ah}{f:Bool}
theorem MI {Q:ah->aA->Prop}(hv:s.heap.IsItemsView v d)(ho:s.heap.get? d=some o)(hd:o.data=.dict es ep)
  (q:Q (!14) { s with heap:=s.heap.push (JJ .none false d 0 es.size ep .none .none) }):aH (!12) A (pyIter (.ref v)) Q E s:=by
 obtain⟨u,hu,_,hf⟩:=id hv;refine wpAny_pyIter_slot hv.typeIs F.slot_dict_items_iter (wpAny_call_entry F.slot_dict_items_iter hv.typeIs F.entry_dict_items_iter (af (am (af (af (wpAny_field hu hf (x:=.ref d) rfl (am (af ?_))))))) (F.args_dict_items_iter_1 _));unfold Builtin.Dict_items.newIterator;refine af (wpAny_dictEntries ho hd (af (wpAny_dictEpoch ho hd ?_)));simp only[show Builtin.Dict_items.ownsTuple "dict_itemiterator" = true by decide,if_true];refine aY (am ⟨_,rfl, "dict_itemiterator",_,⟨_,aB _ rfl,rfl⟩,F.slot_dict_itemiterator_next.lookup,?_⟩) (by simp only[sizeOk,Builtin.Dict_items.ownedTupleFields,aD,aQ,ak,aL,sizeLine_eq];omega);simpa [rawInt,Builtin.Dict_items.ownedTupleFields,JJ] using q
theorem MJ {Q:ah->aA->Prop}{a b:ah}{n:Nat}(ya:s.heap.get? it=some (JJ x0 f d i n ep ok ov))(hh:BQ s.heap it x0 f)
  (q:∀h',MH h' it d i n ep->h'.get? s.heap.objs.size=some { cls:=.type "tuple",data:=.seq #[a,b] }->h'.objs.size=s.heap.objs.size+1->(∀c u,c≠it->s.heap.get? c=some u->h'.get? c=some u)->Q (!14) { s with heap:=h' }) :
  aH (!12) A (Builtin.Dict_items.pairFromOwner (.ref it) 6 a b) Q E s:=by
 have Hk:it<s.heap.objs.size:=aF ya;unfold Builtin.Dict_items.pairFromOwner;refine af (wpAny_newTuple ?_);have e2:=aj { cls:=.type "tuple",data:=.seq #[a,b] } ya;have t2:(s.heap.push { cls:=.type "tuple",data:=.seq #[a,b] }).get? s.heap.objs.size=some { cls:=.type "tuple",data:=.seq #[a,b] }:=aB _ rfl;have z2:(s.heap.push { cls:=.type "tuple",data:=.seq #[a,b] }).objs.size=s.heap.objs.size+1:=bx ..;have k2:∀c u,s.heap.get? c=some u->(s.heap.push { cls:=.type "tuple",data:=.seq #[a,b] }).get? c=some u:=λc u e=>aj _ e;have fin:∀h',MH h' it d i n ep->Heap.SameBut it (s.heap.push { cls:=.type "tuple",data:=.seq #[a,b] }) h'->Q (!14) { s with heap:=h' }:=λh' st sb=>q h' st (sb.extBut _ _ (bv Hk) t2) (by rw[sb.1,z2]) λc u hc e=>sb.extBut c u hc (k2 c u e);show aH _ _ (Builtin.Dict_items.ownedTupleIsFree (.ref it) >>= _) _ _ { s with heap:=_ };generalize s.heap.push { cls:=.type "tuple",data:=.seq #[a,b] }=h2 at *;refine af ?_;unfold Builtin.Dict_items.ownedTupleIsFree
 cases hh with
 | no =>
  refine af (wpAny_field e2 rfl (x:=.none) rfl (am ?_));simp only[if_true];refine af (wpAny_field e2 rfl (x:=ok) rfl (af (wpAny_field e2 rfl (x:=ov) rfl (af (wpAny_setField_rec e2 (!4) λh3 e3 s3=>af (wpAny_setField_rec e3 (!4) λh4 e4 s4=>af (wpAny_setField_rec e4 (!4) λh5 e5 s5=>af (wpAny_setField_rec e5 (!4) λh6 e6 s6=>af (wpAny_letGo (am ?_))))))))));replace s3:Heap.SameBut it h2 h3:=s3;replace s4:Heap.SameBut it h3 h4:=s4;replace s5:Heap.SameBut it h4 h5:=s5;replace s6:Heap.SameBut it h5 h6:=s6;have sb:Heap.SameBut it h2 h6:=((s3.trans s4).trans s5).trans s6;exact fin h6 ⟨_,_,_,_,e6,.pair _ _ _ (sb.extBut _ _ (bv Hk) t2) (bv Hk)⟩ sb
 | pair c oc f h1 gX =>
  refine af (wpAny_field e2 rfl (x:=rawInt c) rfl ?_);show aH _ _ (loadIfAlive ((c:Int).toNat) >>= _) _ _ _;rw[a9];refine af (kdx_alive (k2 c oc h1) ?_);simp only[Option.isNone_some,bQ,if_false];refine af (wpAny_field e2 rfl (x:=.bool f) rfl ?_)
  cases f with
  | true =>
   rw[if_neg (show ¬ ((ah.bool true != ah.bool true)=true) from bg)];refine am ?_;simp only[bQ,if_false];exact am (fin h2 ⟨_,_,_,_,e2,.pair c oc _ (k2 c oc h1) gX⟩ (Heap.SameBut.refl _ _))
  | false =>
   rw[if_pos (show (ah.bool false != ah.bool true)=true from rfl)];refine af (wpAny_setField_rec e2 (!4) λh3 e3 s3=>am ?_);replace s3:Heap.SameBut it h2 h3:=s3;simp only[bQ,if_false];exact am (fin h3 ⟨_,_,_,_,e3,.pair c oc _ (s3.extBut _ _ gX (k2 c oc h1)) gX⟩ s3)
theorem MK {Q:Option ah->aA->Prop}(AK:MH s.heap it d i es.size ep)(ho:s.heap.get? d=some o)(hd:o.data=.dict es ep)(hi:i<es.size)(gX:d≠it)
  (q:∀h',MH h' it d (i+1) es.size ep->h'.get? s.heap.objs.size=some { cls:=.type "tuple",data:=.seq #[es[i].key,es[i].val] }->h'.objs.size=s.heap.objs.size+1->(∀c u,c≠it->s.heap.get? c=some u->h'.get? c=some u)->Q (some (!14)) { s with heap:=h' }) :
  aH (!12) A (pyNext (.ref it)) Q E s:=by
 obtain⟨x0,f,ok,ov,ya,hh⟩:=AK;have ty:s.TypeIs (.ref it) "dict_itemiterator" := ⟨_,ya,rfl⟩;unfold pyNext;refine af (wpAny_attempt (wpAny_callSpecial?_slot (name:=Str.ofString "__next__") ty F.slot_dict_itemiterator_next (wpAny_call_entry F.slot_dict_itemiterator_next ty F.entry_dict_itemiterator_next (af (am (af (af ?_)))) (F.args_dict_itemiterator_next_1 _))));first | refine af (wpAny_typeNameOfWhole_itemiter ty (am (af (wpAny_fieldsOf ya rfl ?_)))) | refine af (wpAny_typeNameOf_itemiter ty (am (af (wpAny_fieldsOf ya rfl ?_))))
 simp only[show Builtin.Dict_items.ownsTuple "dict_itemiterator" = true by decide,if_true];(show aH _ _ (ite ((ah.ref d == ah.none)=true) _ _) _ _ s;rw[if_neg (show ¬ ((ah.ref d == ah.none)=true) from bg)];refine af (am (af (wpAny_dictEntries ho hd ?_)));rw[if_neg (!4)];refine af (am (af (wpAny_dictEpoch ho hd ?_)));rw[if_neg (!4)];refine am ?_);simp only[show ¬ ((i:Int)<0) from by omega,if_false,a9,Array.getElem?_eq_getElem hi];refine af ?_;first | refine af (wpAny_typeNameOfWhole_itemiter ty (am (af (wpAny_isOneOf_itemiter ty ?_)))) | refine af (wpAny_typeNameOf_itemiter ty (am (af (wpAny_isOneOf_itemiter ty ?_))))
 show aH _ _ (setField (.ref it) 3 (rawInt ((i:Int)+1)) >>= _) _ _ s;refine af (wpAny_setField_rec ya (!4) λh1 e1 s1=>?_);replace s1:Heap.SameBut it s.heap h1:=s1
 replace e1:h1.get? it=some (JJ x0 f d (i+1) es.size ep ok ov):=by
  have e:((i+1:Nat):Int)=(i:Int)+1:=by omega
  unfold JJ;rw[e];simpa [rawInt,JJ] using e1
 have Yx:aA.TypeIs { s with heap:=h1 } (.ref it) "dict_itemiterator" := ⟨_,e1,rfl⟩
 have hh1:BQ h1 it x0 f:=by
  cases hh with
  | no=>exact .no
  | pair a oa f g1 g2=>exact .pair a oa _ (s1.extBut _ _ g2 g1) g2
 refine af (wpAny_holding (af (wpAny_isOneOf_itemiter Yx (af (wpAny_isOneOf_itemiter Yx ?_)))));show aH _ _ (Builtin.Dict_items.pairFromOwner (.ref it) 6 es[i].key es[i].val) _ _ { s with heap:=h1 };refine MJ (s:={ s with heap:=h1 }) e1 hh1 λh' st t z k=>am ⟨_,rfl,am ?_⟩;have z1:h1.objs.size=s.heap.objs.size:=s1.1;simp only[z1] at t z ⊢;exact q h' st t z λc u hc e=>k c u hc (s1.extBut _ _ hc e)
theorem ML {Q:Option ah->aA->Prop}(hA:A.handled=none)(AK:MH s.heap it d i es.size ep)(ho:s.heap.get? d=some o)(hd:o.data=.dict es ep)(hi:es.size<=i)
  (q:∀h',Heap.ExtBut it s.heap h'->Q none { s with heap:=h' }):aH (!12) A (pyNext (.ref it)) Q E s:=by
 obtain⟨x0,f,ok,ov,ya,hh⟩:=AK;have ty:s.TypeIs (.ref it) "dict_itemiterator" := ⟨_,ya,rfl⟩;unfold pyNext;refine af (wpAny_attempt (wpAny_callSpecial?_slot (name:=Str.ofString "__next__") ty F.slot_dict_itemiterator_next (wpAny_call_entry F.slot_dict_itemiterator_next ty F.entry_dict_itemiterator_next (af (am (af (af ?_)))) (F.args_dict_itemiterator_next_1 _))));first | refine af (wpAny_typeNameOfWhole_itemiter ty (am (af (wpAny_fieldsOf ya rfl ?_)))) | refine af (wpAny_typeNameOf_itemiter ty (am (af (wpAny_fieldsOf ya rfl ?_))))
 simp only[show Builtin.Dict_items.ownsTuple "dict_itemiterator" = true by decide,if_true];(show aH _ _ (ite ((ah.ref d == ah.none)=true) _ _) _ _ s;rw[if_neg (show ¬ ((ah.ref d == ah.none)=true) from bg)];refine af (am (af (wpAny_dictEntries ho hd ?_)));rw[if_neg (!4)];refine af (am (af (wpAny_dictEpoch ho hd ?_)));rw[if_neg (!4)];refine am ?_);simp only[show ¬ ((i:Int)<0) from by omega,if_false,a9,cp hi];refine af ?_;first | refine af (wpAny_typeNameOfWhole_itemiter ty (am ?_)) | refine af (wpAny_typeNameOf_itemiter ty (am ?_))
 show aH _ _ (setField (.ref it) 2 .none >>= _) _ _ s;refine af (wpAny_setField ya rfl (!4) ?_);show aH _ _ (newExc (.type "StopIteration") [] >>= _) _ _ _;refine af ?_;simp only[newExc,newTuple];refine af (aY ?_ (by size_fits));refine af (m:=firstArgMember _ _) (wpAny_of_eq (a:=ah.none) (by first | rfl | (simp only[firstArgMember];rfl)) ?_);refine aY ?_ (by size_fits);simp only[raiseNew];refine af (wpAny_handled ?_);rw[show A.in1.handled=none from hA];refine af (am (wpAny_throw ?_));refine af (wpAny_isInstance (T := "StopIteration") (b:=true) ⟨_,aB _ rfl,rfl⟩ isSubtype_stop ?_);exact am (q _ (((!39).extBut.push _).push _))
end
structure Ui (es:Array DictEntry) (lo:Addr) (h:Heap) (as:List Addr):Prop where
 rise:as.Pairwise (· < ·)
 above:∀a∈as,lo<a
 pair:∀(j:Nat) (a:Addr),as[j]? = some a->∃hj:j<es.size,h.get? a=some { cls:=.type "tuple",data:=.seq #[es[j].key,es[j].val] }
theorem MH.other {h h':Heap}{it d:Addr}{i n ep:Nat}(st:MH h it d i n ep)(ya:∀u,h.get? it=some u->h'.get? it=some u)(k:∀a u,h.get? a=some u->∃u',h'.get? a=some u'):MH h' it d i n ep:=by
 obtain⟨x0,f,ok,ov,e,hh⟩:=st;refine⟨x0,f,ok,ov,ya _ e,?_⟩
 cases hh with
 | no=>exact .no
 | pair a oa f g1 g2 =>
  obtain⟨u,hu⟩:=k a oa g1;exact .pair a u _ hu g2
section
variable {prog:bf}{w:World}{A:Around}{E:ah->aA->Prop}{s:aA}{d it v:Addr}{o:Obj}{es:Array DictEntry}{ep:Nat}{R:Result->aA->Prop}
theorem MM {S I:Addr}(hA:A.handled=none)(hd:o.data=.dict es ep)(U3:S<I)(U2:d≠S)(Yy:d≠I)(hn:es.size<=aC)(res:ah){h1:Heap}
  (q:∀h' tk acc c as,(∀b u,b≠S->b≠I->h1.get? b=some u->h'.get? b=some u)->h'.get? S=some { cls:=.type "list",data:=.seq acc c }->as.length=es.size->Ui es I h' as->acc.toList=as.map ah.ref->R (.ok (.ret res)) { s with heap:=h',toks:=tk }) :
  ∀(k i:Nat) (h:Heap) (tk c:Nat) (acc:Array ah) (as:List Addr),es.size - i=k->i<=es.size->MH h I d i es.size ep->h.get? d=some o->(∀b u,b≠S->b≠I->h1.get? b=some u->h.get? b=some u) ->
   h.get? S=some { cls:=.type "list",data:=.seq acc c }->acc.toList=as.map ah.ref->as.length=i->Ui es I h as->I<h.objs.size ->
   codeAny (!12) A (.builtin "list.extend.loop" ⟨[.ref S,.ref I,res],[]⟩) R { s with heap:=h,toks:=tk }:=by
 have gX:S≠I:=aR U3;intro k
 induction k with
 | zero =>
  intro i h tk c acc as hk hi st ho kp hS zy Hh g hI;refine codeAny_builtin PySem.F.entry_extend_loop ?_;rw[Around.under_plainId PySem.F.plain_extend_loop _];show aH _ A.in1 (pyNext (.ref I) >>= _) _ _ _;refine af (ML (s:={ s with heap:=h,toks:=tk }) (A:=A.in1) hA st ho hd (!1) λh' eb=>am (q h' tk acc c as (λb u n1 n2 e=>eb b u n2 (kp b u n1 n2 e)) (eb S _ gX hS) (!1) ⟨g.rise,g.above,λj a ha=>?_⟩ zy));obtain⟨hj,e⟩:=g.pair j a ha;exact⟨hj,eb a _ (bv (g.above a (bG ha))) e⟩
 | succ k ih =>
  intro i h tk c acc as hk hi st ho kp hS zy Hh g hI;have lB:i<es.size:=by omega
  have hsz:acc.size=i:=by rw[<- bD,zy,ar,Hh]
  refine codeAny_builtin PySem.F.entry_extend_loop ?_;rw[Around.under_plainId PySem.F.plain_extend_loop _];show aH _ A.in1 (pyNext (.ref I) >>= _) _ _ _;refine af (MK (s:={ s with heap:=h,toks:=tk }) st ho hd lB Yy λh' AM t z QC=>?_);dsimp only at t z QC ⊢;have KZ:=QC S _ gX hS;have up:∀b u,b≠S->h'.get? b=some u->(h'.update S (Obj.mapSeq (·.push (ah.ref h.objs.size)))).get? b=some u:=λb u hb e=>(aO _ _ (Ne.symm hb)).trans e;have uS:=ba (Obj.mapSeq (·.push (ah.ref h.objs.size))) KZ rfl;have Ta:S<h.objs.size:=aF hS
  have al:∀a∈as,a<h.objs.size:=λa ha=>by
   obtain⟨j,hj⟩:=List.mem_iff_getElem?.mp ha;obtain⟨_,e⟩:=g.pair j a hj;exact aF e
  show aH _ A.in1 (updateSeq S (·.push (ah.ref h.objs.size)) >>= _) _ _ _
  refine af (wpAny_updateSeq KZ rfl (am ⟨plainId_quiet PySem.F.plain_extend_loop _,ih (i+1) _ tk _ (acc.push (ah.ref h.objs.size)) (as++[h.objs.size]) (!1) lB (AM.other (λu e=>up I u (Ne.symm gX) e) λa u e=>?_) (up d o U2 (QC d o Yy ho))
   (λb u n1 n2 e=>up b u n1 (QC b u n2 (kp b u n1 n2 e))) uS (by rw[Array.toList_push,zy,aW];rfl) (by rw[aQ,Hh];rfl) ⟨?_,?_,?_⟩ ?_⟩) (by rw[hsz];omega) (by show (acc.push (ah.ref h.objs.size)).size<=aC+1;rw[Array.size_push,hsz];omega))
  .by_cases e1:a=S
   .subst e1;exact⟨_,uS⟩
   .exact⟨u,up a u e1 e⟩
  .refine cE.mpr ⟨g.rise,List.pairwise_singleton _ _,λa ha b hb=>?_⟩
   rw[ap.mp hb];exact al a ha
  .intro a ha
   rcases aX.mp ha with ha | ha
   .exact g.above a ha
   .rw[ap.mp ha];exact hI
  .intro j b hj
   by_cases h1:j<as.length
   .rw[bH h1] at hj
    obtain⟨h2,e⟩:=g.pair j b hj;have hb:=g.above b (bG hj);exact⟨h2,up b _ (bv (cG U3 hb)) (QC b _ (bv hb) e)⟩
   .rw[bP (!1)] at hj
    obtain⟨h2,h3⟩:=aG.mp hj;have h4:j=i:=by simp at h2;omega
    subst h4;have h5:h.objs.size=b:=by simpa [Hh] using h3
    subst h5;exact⟨lB,up _ _ (bv Ta) t⟩
  .exact cG hI (aF (up _ _ (bv Ta) t))
theorem DJ {r:Addr}{Q:List ah->aA->Prop}(hA:A.handled=none)(hv:s.heap.IsItemsView r d)(ho:s.heap.get? d=some o)(hd:o.data=.dict es ep)(hn:es.size<=aC)
  (q:∀(h':Heap) (tk:Nat) (as:List Addr),(∀b u,s.heap.get? b=some u->h'.get? b=some u)->as.length=es.size->Ui es s.heap.objs.size h' as->Q (as.map ah.ref) { s with heap:=h',toks:=tk }) :
  aH (!12) A (collect (.ref r)) Q E s:=by
 have hr:r<s.heap.objs.size:=let ⟨_,e,_⟩:=hv;aF e;have S9:d<s.heap.objs.size:=aF ho;unfold collect;refine af (wpAny_runValue (codeAny_builtin entry_proto_collect' ?_));rw[Around.under_plainId PySem.F.plain_proto_collect _];show aH _ A.in1 (newList [] >>= λl=>again (.builtin "list.__iadd__" ⟨[l,.ref r],[]⟩)) _ _ s;refine af (aY (am ⟨plainId_quiet PySem.F.plain_list_iadd _,codeAny_builtin entry_list_iadd' ?_⟩));rw[Around.under_plainId PySem.F.plain_list_iadd _];have hS:(s.heap.push { cls:=.type "list",data:=.seq ([]:List ah).toArray }).get? s.heap.objs.size=some { cls:=.type "list",data:=.seq #[] }:=aB _ rfl;have z1:(s.heap.push { cls:=.type "list",data:=.seq ([]:List ah).toArray }).objs.size=s.heap.objs.size+1:=bx ..;have k1:∀b u,s.heap.get? b=some u->(s.heap.push { cls:=.type "list",data:=.seq ([]:List ah).toArray }).get? b=some u:=λb u e=>aj _ e;show aH _ A.in1 (Builtin.List.listExtendWith (!14) (.ref r) (!14)) _ _ { s with heap:=_ };generalize s.heap.push { cls:=.type "list",data:=.seq ([]:List ah).toArray }=h1 at *;have Yz:Heap.IsItemsView h1 r d:=let ⟨u,e,x⟩:=hv;⟨u,k1 r u e,x⟩;have AA:aA.TypeIs { s with heap:=h1 } (.ref r) "dict_items" := Heap.IsItemsView.typeIs (s:={ s with heap:=h1 }) Yz;unfold Builtin.List.listExtendWith;refine af (wpAny_typeOf (T := "dict_items") AA ?_);have g1:Builtin.List.listSameRef (!14) (.ref r)=false:=by simp[Builtin.List.listSameRef,bv hr]
 simp only[g1,show (ah.type "dict_items" == ah.type "list")=false by decide,show (ah.type "dict_items" == ah.type "tuple")=false by decide,Bool.or_false,bQ,if_false];refine af (MI (s:={ s with heap:=h1 }) Yz (k1 d o ho) hd ?_);have hI:(h1.push (JJ .none false d 0 es.size ep .none .none)).get? h1.objs.size=some (JJ .none false d 0 es.size ep .none .none):=aB _ rfl
 have key:∀(h:Heap) (c tk:Nat),(∀b u,b≠s.heap.objs.size->(h1.push (JJ .none false d 0 es.size ep .none .none)).get? b=some u->h.get? b=some u)->h.get? s.heap.objs.size=some { cls:=.type "list",data:=.seq #[] c } ->
   codeAny (!12) A (.builtin "list.extend.loop" ⟨[.ref s.heap.objs.size,.ref h1.objs.size,.ref s.heap.objs.size],[]⟩) (λy s'=>∃(h':Heap) (tk:Nat) (acc:Array ah) (c:Nat) (as:List Addr),y=.ok (.ret (!14))/\s'={ s with heap:=h',toks:=tk }/\h'.get? s.heap.objs.size=some { cls:=.type "list",data:=.seq acc c }/\(∀b u,s.heap.get? b=some u->h'.get? b=some u)/\as.length=es.size/\Ui es s.heap.objs.size h' as/\acc.toList=as.map ah.ref) { s with heap:=h,toks:=tk }:=λh c tk kp Ve=>by
  have gX:h1.objs.size≠s.heap.objs.size:=by rw[z1];exact cH _
  refine MM (s:=s) (h1:=s.heap) (S:=s.heap.objs.size) (I:=h1.objs.size) hA hd (by rw[z1];exact cq _) (aR S9) (by rw[z1];exact aR (bO S9)) hn _ (λh' S7 acc c' as QC e hl g ha=>⟨h',S7,acc,c',as,rfl,rfl,e,λb u eb=>QC b u (aR (aF eb)) (by rw[z1];exact aR (bO (aF eb))) eb,hl,⟨g.rise,λa ha=>cG (by rw[z1];exact cq _) (g.above a ha),g.pair⟩,ha⟩)
   es.size 0 h tk c #[] [] (Nat.sub_zero _) (bZ _) ⟨_,_,_,_,kp _ _ gX hI,.no⟩ (kp d o (aR S9) (aj _ (k1 d o ho))) (λb u n1 _ e=>kp b u n1 (aj _ (k1 b u e))) Ve rfl rfl ⟨List.Pairwise.nil,λa ha=>(nomatch ha),λj a hj=>by simp at hj⟩ (aF (kp _ _ gX hI))
 have P4:=aj (JJ .none false d 0 es.size ep .none .none) hS;refine af (wpAny_holding (kdx_hint (let ⟨u,e,c⟩:=AA;⟨u,aj _ e,c⟩) ?_));refine wpAny_ite_split (λ_=>af (wpAny_rule (af ?_))) (λ_=>am ⟨plainId_quiet PySem.F.plain_extend_loop _,codeAny_mono (key _ _ _ (λb u _ e=>e) P4) λy s2 z=>?_⟩)
 rotate_left
 .obtain⟨h',tk,acc,c,as,rfl,rfl,e,kp,hl,g,ha⟩:=z
  show aH _ A (load s.heap.objs.size >>= _) Q E _;refine af (wpAny_load e (am ?_));show Q acc.toList _;rw[ha];exact q h' tk as kp hl g
 show aH _ _ (updateSeq s.heap.objs.size (·.push .none) >>= λ_=>updateSeq s.heap.objs.size (·.pop)) _ _ _;refine af (wpAny_updateSeq P4 rfl ?_);have Ve:=ba (Obj.mapSeq (·.push ah.none)) P4 rfl;refine wpAny_updateSeq (hz:=by seq_fits) Ve rfl ?_;have hS3:=ba (Obj.mapSeq (·.pop)) Ve rfl;refine am ⟨plainId_quiet PySem.F.plain_extend_loop _,codeAny_mono (key _ _ _ (λb u hb e=>(aO _ _ (Ne.symm hb)).trans ((aO _ _ (Ne.symm hb)).trans e)) hS3) λy s2 z=>?_⟩;obtain⟨h',tk,acc,c,as,rfl,rfl,e,kp,hl,g,ha⟩:=z;show aH _ A (load s.heap.objs.size >>= _) Q E _;refine af (wpAny_load e (am ?_));show Q acc.toList _;rw[ha];exact q h' tk as kp hl g
end
section
variable {X:Cx}{pins:List (Addr × Obj)}{s s0:aA}{σ:St}{H H0:Hp}{a:Addr}{kvs:List (List Key × V)}
theorem JK (x:gT X.prog X.w H s.heap a (.dT kvs)):∃o es ep,s.heap.get? a=some o/\o.ExactDict/\o.data=.dict es ep/\(a == sysModules)=false/\es.size=kvs.length/\es.size<=aC/\∀(i:Nat) (h:i<es.size) (p:List Key × V),kvs[i]? = some p->∃b,es[i].key=.ref b/\H b=some (.tup (p.1.map kV))/\RelV p.2 es[i].val:=by
 obtain⟨z,y,xs,r,o,es,ep,e,c,d,k,_⟩:=x;have hl:es.size=xs.length:=size_of_entries k;have zq:=Paired.length r;refine⟨o,es,ep,e,c,d,y,!1,!1,λi h p hp=>?_⟩;obtain⟨q,hq,z1,z2,z3⟩:=Paired.at r i p hp;have:=entry_at k i;rw[hq,Array.getElem?_eq_getElem h] at this;rw[Option.some.inj this];exact⟨q.2.1,rfl,z2,z3⟩
noncomputable def QD:V->List V->Hp->VK->Prop:=λx vs H Q=>∃a kvs,x=.ref a/\vs=[]/\H a=some (.dT kvs)/\∀r,H r=none->Q (.ref r) (fz H r (.ext λh=>h.IsItemsView r a))
theorem JL:Hf X "dict.items" QD:=by
 intro pins s σ H x vs v us Q I rx rv h;obtain⟨a,kvs,rfl,rfl,hH,q⟩:=h;cases rx;have Ru:=rv.zero;subst Ru;obtain⟨o,es,ep,e,c,d,y,_⟩:=JK (I.hok a _ hH);have ty:s.TypeIs (.ref a) "dict" := ⟨o,e,c.1⟩;refine wpAny_call_entry PySem.F.slot_dict_items ty PySem.F.entry_dict_items ?_ (PySem.F.args_dict_items_1 _);unfold Builtin.«dict.items» Builtin.Dict.noArgs;refine af (af (wpAny_notOrdered_dict ty ?_));show aH _ _ (pure a) _ _ s;refine am ?_;show aH _ _ (Builtin.Dict.showsAll a >>= _) _ _ s;unfold Builtin.Dict.showsAll;rw[if_neg (by rw[y];exact bg)];refine af (am (af (aY (am ⟨_,rfl,?_⟩))));have hv:(s.heap.push { cls:=.type "dict_items",data:=.fields #[.ref a] }).IsItemsView s.heap.objs.size a:=⟨_,aB _ rfl,rfl,rfl⟩;exact⟨.ref s.heap.objs.size,_,I.laid (t':=s.toks) (o:=.ext λh=>h.IsItemsView s.heap.objs.size a) (λb u e=>aj _ e) (aw _) ⟨hv,let ⟨o,e,_⟩:=hv;⟨o,e⟩,λh1 h2 ⟨o,e,z⟩ k=>⟨o,k o e,z⟩⟩,rfl,q _ (!34)⟩
theorem Inv.pairs (I0:Inv X pins σ H0 s0):∀(as:List Addr) (ks:List (Addr × V)) (H:Hp),Inv X pins σ H s->as.length=ks.length->as.Pairwise (· < ·)->(∀a∈as,s0.heap.objs.size<=a/\H a=none)->(∀(j:Nat) (a:Addr) (k:Addr × V),as[j]? = some a->ks[j]? = some k->∃u,RelV k.2 u/\s.heap.get? a=some { cls:=.type "tuple",data:=.seq #[.ref k.1,u] }) ->
  ∃H',Inv X pins σ H' s/\Ext [] H H'/\(∀b,b ∉ as->H' b=H b)/\∀(j:Nat) (a:Addr) (k:Addr × V),as[j]? = some a->ks[j]? = some k->H' a=some (.tup [.ref k.1,k.2])
 | [],_,H,I,_,_,_,_=>⟨H,I,.refl _ _,λ_ _=>rfl,λj a k h=>by simp at h⟩
 | a::as,[],H,I,hl,_,_,_=>by simp at hl
 | a::as,k::ks,H,I,hl,hr,hf,hp=>by
  obtain⟨hr1,Qy⟩:=bJ.mp hr;obtain⟨ha0,YA⟩:=hf a (ao ..);obtain⟨u,ru,e⟩:=hp 0 a k rfl rfl;obtain⟨p0,p1,p2,p3,p4,p5⟩:=I0.qT (H':=H) ha0 YA;have I1:Inv X pins σ (fz H a (.tup [.ref k.1,k.2])) s:=I.A1 (o:=.tup [.ref k.1,k.2]) e p0 p1 p3 p4 p5 ⟨by show 2<=aC;decide,[.ref k.1,u],.cons rfl (.cons ru .nil),⟨_,e,rfl,_,rfl,rfl⟩⟩;have gX:∀b∈as,b≠a:=λb hb=>bv (hr1 b hb);obtain⟨H',I2,x,same,all⟩:=Inv.pairs I0 as ks _ I1 (by simpa using hl) Qy (λb hb=>⟨(hf b (ag _ hb)).1,by rw[d6 (gX b hb)];exact (hf b (ag _ hb)).2⟩) λj b k' h1 h2=>hp (j+1) b k' h1 h2;have hna:a ∉ as:=λz=>gX a z rfl;refine⟨H',I2,(Ext.new YA).trans x,λb hb=>?_,λj b k' h1 h2=>?_⟩
  .rw[same b λz=>hb (ag _ z),d6 λ(z:b=a)=>hb (by rw[z];exact ao ..)]
  .cases j with
   | zero =>
    cases h1;cases h2;rw[same a hna,dQ]
   | succ j=>exact all j b k' h1 h2
noncomputable def QF:ah->Addr | .ref b=>b | _=>0
theorem BR:∀as:List Addr,eS (as.map V.ref) (as.map ah.ref)
 | []=>.nil
 | a::as=>.cons rfl (BR as)
noncomputable def Uj:List V->Hp->VK->Prop:=λxs H Q=>∃r a kvs,xs=[.ref r]/\H r=some (.ext λh=>h.IsItemsView r a)/\H a=some (.dT kvs) /\
 ∀(t:Addr) (H':Hp) (as:List Addr),Ext [] H H'->H' t=some (.tup (as.map V.ref))->as.length=kvs.length->(∀(j:Nat) (p:List Key × V) (c:Addr),kvs[j]? = some p->as[j]? = some c->∃b,H' c=some (.tup [.ref b,p.2])/\H b=some (.tup (p.1.map kV)))->Q (.ref t) H'
theorem sO (hc:X.calm=true):gL X (.type "tuple") Uj:=by
 (intro pins s σ H xs us Q I r h);obtain⟨vw,a,kvs,rfl,hv,hH,q⟩:=h;rw[12];cases ru;obtain⟨Uk,_⟩:=I.hok vw _ hv;obtain⟨o,es,ep,e,c,d,y,hsz,Ml,hk⟩:=JK (I.hok a _ hH);have hd:=I.ok.hd hc
 refine callType_new F.called_tuple (!2) (F.typeCall_tuple_1 _) (F.newCall_tuple_1 _) (λobj=>F.args_object_init_2 obj _) F.entry_tuple_new
  (S:=λA' R s'=>A'.handled=none/\s'.heap.IsItemsView vw a/\s'.heap.get? a=some o/\∀(h':Heap) (tk:Nat) (as:List Addr),(∀b o',s'.heap.get? b=some o'->h'.get? b=some o')->as.length=es.size->Ui es s'.heap.objs.size h' as->R (.ok (.ret (.ref h'.objs.size))) { s' with heap:=h'.push { cls:=.type "tuple",data:=.seq (as.map ah.ref).toArray },toks:=tk })
  (.of_wp λprog w A R s h=>?_) ⟨hd,Uk,e,λh' tk as kp hl g=>?_⟩
 .obtain⟨hp,gg,dd,tk,os⟩:=s
  obtain⟨Vu,W8,he,h⟩:=h;have IH:=sub_tuple_self;have YB:=init_tuple_lookup;have hmh:=madeHere_tuple;have hT:aA.TypeIs ⟨hp,gg,dd,tk,os⟩ (.ref vw) "dict_items" := Heap.IsItemsView.typeIs (s:=⟨hp,gg,dd,tk,os⟩) W8;obtain⟨ov,hov,hcv,hfv⟩:=id W8
  wp_walk using AutoSeq1.wpAny_loadPart' hov,wpAny_typeOf hT,DJ (A:=A.in1) (show A.in1.handled=none from Vu) W8 he d Ml
  intro h' S7 as kp hl g;show aH _ _ (Builtin.Tuple.tupleExact (as.map ah.ref).toArray >>= λv=>ret v) _ _ _;unfold Builtin.Tuple.tupleExact;refine af (aY ?_ (by show (as.map ah.ref).toArray.size<=aC;simp;omega));exact am ⟨_,rfl,h h' S7 as kp hl g⟩
 .have I1:Inv X pins σ H { s with heap:=h',toks:=tk }:=I.kept kp
  have YC:∀(j:Nat) (k:Addr × V),((es.toList.zip kvs).map λq=>(QF q.1.key,q.2.2))[j]? = some k->∃(hj:j<es.size) (p:List Key × V),kvs[j]? = some p/\es[j].key=.ref k.1/\H k.1=some (.tup (p.1.map kV))/\k.2=p.2/\RelV k.2 es[j].val:=λj k h=>by
   rw[az] at h;obtain⟨q,hq,e2⟩:=cm.mp h;obtain⟨h1,h2⟩:=dc.mp hq;obtain⟨hj,h3⟩:=aG.mp h1;have Qx:j<es.size:=by simpa using hj
   have h4:es[j]=q.1:=by rw[<- h3];simp
   obtain⟨b,b1,b2,b3⟩:=hk j Qx q.2 h2;subst e2;refine⟨Qx,q.2,h2,?_,?_,rfl,b3⟩
   .rw[<- h4,b1];rfl
   .rw[<- h4,b1];exact b2
  obtain⟨H',I2,x,same,all⟩:=Inv.pairs (s:={ s with heap:=h',toks:=tk }) I as ((es.toList.zip kvs).map λq=>(QF q.1.key,q.2.2)) H I1 (by simp[hl,hsz]) g.rise (λc hc=>⟨cM (g.above c hc),I.hok.fresh (cM (g.above c hc))⟩) λj c k h1 h2=>by
   obtain⟨hj,p,h3,h4,h5,h6,h7⟩:=YC j k h2;obtain⟨_,h8⟩:=g.pair j c h1;rw[h4] at h8;exact⟨_,h7,h8⟩
  have hf:H' h'.objs.size=none:=I2.hok.fresh (aw _)
  have I3:Inv X pins σ (fz H' h'.objs.size (.tup (as.map V.ref))) { s with heap:=h'.push { cls:=.type "tuple",data:=.seq (as.map ah.ref).toArray },toks:=tk } :=
   I2.laid (λb o e=>aj _ e) (aw _) (show gT X.prog X.w _ _ _ (.tup (as.map V.ref)) from ⟨by rw[ar];omega,as.map ah.ref,BR as,wX.new _ _⟩)
  refine⟨⟨_,aB _ rfl,rfl⟩,⟨.ref h'.objs.size,_,I3,rfl,q _ _ as (x.trans (Ext.new hf)) dQ (!1) λj p c h1 h2=>?_⟩⟩;have hj:j<es.size:=by have:=(aG.mp h1).1;omega
  obtain⟨k,Gj⟩:∃k,((es.toList.zip kvs).map λq=>(QF q.1.key,q.2.2))[j]? = some k:=⟨_,aM (by simp;omega)⟩;obtain⟨_,p',h3,h4,h5,h6,_⟩:=YC j k Gj;rw[h1] at h3;cases h3;have h7:=all j c k h2 Gj;exact⟨k.1,by rw[d6 (gj h7 hf),h7,h6],h5⟩
end
section
variable {X:Cx}{M:Fr}{x:Str}{p p2 pos i6 hV:Pos}
noncomputable def l3 (kvs:jn):List ae:=kvs.map λp=>.tuple [.tuple (p.1.map .int),p.2]
noncomputable def rN (i:Nat):UX:=λenv n Q=>match env[i]? with | some (some (.d _ true kvs))=>Q (.tuple (l3 kvs)) n | _=>False
theorem vM {S:List Addr}{H':Hp}:∀{kvs:jn} {xs:List V} {as:List Addr},dP S H' (!26) xs->as.length=(A2 kvs xs).length->(∀(j:Nat) (p:List Key × V) (c:Addr),(A2 kvs xs)[j]? = some p->as[j]? = some c->∃b,H' c=some (.tup [.ref b,p.2])/\H' b=some (.tup (p.1.map kV)))->dP S H' (l3 kvs) (as.map V.ref)
 | [],_,as,r,hl,_=>by
  cases r.fI;have:as=[]:=ci hl;subst this;exact .nil
 | p::kvs,_,as,r,hl,h=>by
  (obtain⟨x,t,rfl,r1,r2⟩:=r.of_cons)
  cases as with
  | nil=>simp[A2] at hl
  | cons c as =>
   obtain⟨b,h1,h2⟩:=h 0 _ c rfl rfl
   have hi:∀ns:List Int,dP S H' (ns.map .int) ((ns.map (Sum.inl:Int->Key)).map kV):=λns=>by
    induction ns with
    | nil=>exact .nil
    | cons n ns ih=>exact .cons (.int _) ih
   exact .cons (.tup h1 (.cons (.tup h2 (hi p.1)) (.cons r1 .nil))) (vM r2 (by simpa [A2] using hl) λj q d e1 e2=>h (j+1) q d e1 e2)
theorem MN (i:Nat)(hm:X.mg "tuple" = none)(hc:X.calm=true)(hN:X.N[i]? = some x:=by rfl)(hv:Az X.env.scope x:=by (first | exact Or.inl rfl | exact Or.inr (Or.inl rfl) | exact Or.inr (Or.inr rfl)))(hd:(x == (!17))=false:=by decide)(mY:(x == (!22))=false:=by decide)
  (hg:Gl X "tuple" := by rfl) (my:attributeBase (!35) "items" X.env (eval (!35) X.env)=eval (!35) X.env:=by rfl) (mz:(i6.endLine == hV.line)=true:=by rfl) :
  KE X M (.Call (.Name "tuple" p2) [.Call (.Attribute (!35) "items" i6) [] [] hV] [] pos) (rN i) :=
 .of (iz (sO hc) hg hm (!3) (iS (Mo PySem.F.plainAttrs_dict PySem.F.slot_dict_items PySem.F.type_dict_items JL (qv i hN hv hd mY) my mz) fN)) λσ H R env pn S n Q ok hu k=>by
  unfold rN at hu;split at hu
  .rename_i a0 kvs he
   obtain⟨v0,T2,rfl,xs,ha,rr,Gj,Yq,h0⟩:=ok.val i _ he;refine⟨_,T2,.inr (.inr (.inl ⟨rfl,.inr ⟨_,ha⟩⟩)),a0,_,rfl,rfl,ha,λr hr=>⟨r,a0,_,rfl,dQ,(d6 (gj ha hr)).trans ha,λt H' as xe ht hl u4=>?_⟩⟩;have x0:Ext [] H H':=(Ext.new hr).trans xe;have x1:Ext M.gs H H':=x0.mono (!4);refine k _ H' _ n (.tup ht (vM ((rr.ext (x0.mono (!4)))) hl λj p c h1 h2=>?_)) x1 (M.jS ok.gd x0 (!4)) hu;obtain⟨b,b1,b2⟩:=u4 j p c h1 h2;exact⟨b,b1,xe.tup _ _ b2⟩
  .exact hu.elim
end
end L2
namespace L2
open PySem PySem.Spec PyProof.Rows
section
variable {X:Cx}
theorem GL (K:W.Frag)(hc:X.calm=true)(hk:X.K=K:=by rfl):gL X (.builtin "any") (λxs H Q=>∃(p:Addr) (bs:List Bool),xs=[.ref p]/\gx K H p (bs.map V.bl)/\Q (.bl (bs.any id)) H):=by
 subst hk;(intro pins s σ H xs us Q I r h);obtain⟨p,bs,rfl,hp,q⟩:=h;rw[12];cases ru;obtain⟨its,rv,ht,hz⟩:=I.list hp;have hh:=I.ok.hd hc;have oo:p<s.heap.objs.size:=ht.lt;have hlen:its.toArray.size=bs.length:=by rw[aD,<- rv.length,ar]
 have key:∀(a:Nat) (v:ah),its.toArray[a]? = some v->v=.bool (bs.getD a false):=by
  intro a v e;have e':its[a]? = some v:=by simpa using e
  obtain⟨x,hx,rx⟩:=rv.at' e';rw[az] at hx
  cases hb:bs[a]? with
  | none=>rw[hb] at hx;cases hx
  | some b =>
   rw[hb] at hx;cases hx;rw[au,hb];exact rx
 refine call_any_walk (wpAny_pyIter_list ht.isList ⟨s.heap.objs.size,_,_,its.toArray.size,_,_,λa=>bs.getD a false,rfl,Walks.list (A:=X.A.in1) hh _ p (aR oo) its.toArray,⟨⟨_,aB _ rfl,rfl,rfl⟩,ht.isList.at λo e=>aj _ e⟩,?_,?_⟩)
 .intro i v s' Q' E' hP hq
  rw[key i v hP];exact wpAny_truthy_bool hq
 .intro h' tk kp
  have I1:Inv X pins σ H { s with heap:=h',toks:=tk }:=I.kept λb o e=>kp b o (λz=>by
   have e2:b=s.heap.objs.size:=by simpa using z
   rw[e2] at e;exact absurd (aF e) (bC _)) (aj _ e)
  have e:(List.range its.toArray.size).any (λa=>bs.getD a false)=bs.any id:=by
   rw[hlen];clear q hp rv hlen key hz
   induction bs with
   | nil=>rfl
   | cons b bs ih =>
    rw[ak,dr,bF,List.any_map,bF];have:((λa=>(b::bs).getD a false) ∘ Nat.succ)=λa=>bs.getD a false:=rfl;rw[this,ih];rfl
  rw[e];exact⟨.bl _,H,I1,rfl,q⟩
noncomputable def JM:List ae->Option ae | [.list ds]=>(pj ds).map λbs=>.bool (bs.any id) | _=>none
theorem Ul (hc:X.calm=true):mI X (.builtin "any") JM:=⟨_,GL X.K hc,λgs S H ds vs d R _ _ rs e k=>by
 obtain⟨ds,rfl⟩:∃l,ds=[.list l]:=by
  unfold JM at e;split at e
  .exact⟨_,rfl⟩
  .cases e
 obtain⟨v,rfl,r⟩:=rs.one;obtain⟨a,xs,rfl,sq,_,rr⟩:=r.K0 (K:=X.K);simp only[JM] at e
 cases ei:pj ds with
 | none=>rw[ei] at e;cases e
 | some ns =>
  rw[ei] at e;cases e;rw[vC ei] at rr;rw[vD rr] at sq;exact⟨a,ns,rfl,sq,k _ H (.bl _) (!27)⟩⟩
end
end L2
open PySem
namespace Odj
end Odj
open PySem
namespace Odj
noncomputable abbrev wW:=List (Int × Bool)
noncomputable def iI (o:wW)(k:Int):Bool:=((o.find? λp=>decide (p.1=k)).map (·.2)).getD false
noncomputable def gC (o:wW)(k:Int):wW:=if o.any (λp=>decide (p.1=k)) then o.map (λp=>if p.1=k then (p.1,!(iI o k)) else p) else o++[(k,!(iI o k))]
noncomputable def eQ (row:List Int):wW:=row.foldl gC []
noncomputable def lQ (o:wW):List Int:=(o.filter (·.2)).map (·.1)
noncomputable def fJ (o:wW):List Int:=o.map (·.1)
theorem yD (o:wW)(k:Int):fJ (gC o k)=if k∈fJ o then fJ o else fJ o++[k]:=by
 unfold gC fJ;by_cases h:k∈o.map (·.1)
 .have h':o.any (λp=>decide (p.1=k))=true:=by
   obtain⟨p,hp,e⟩:=aU.mp h;exact cx.mpr ⟨p,hp,decide_eq_true e⟩
  rw[if_pos h',if_pos h,bc];apply bL;intro p _;simp only[Function.comp];split<;>rfl
 .have h':¬ o.any (λp=>decide (p.1=k))=true:=by
   intro z;obtain⟨p,hp,e⟩:=cx.mp z;exact h (aU.mpr ⟨p,hp,of_decide_eq_true e⟩)
  rw[if_neg h',if_neg h,aW];rfl
theorem DK (h:(fJ o).Nodup):(fJ (gC o k)).Nodup:=by
 rw[yD];split
 .exact h
 .rename_i hk
  rw[cj];refine⟨h,!4,λa ha b hb=>?_⟩;have:b=k:=by simpa using hb
  subst this;intro z;subst z;exact hk ha
theorem JN (o:wW)(k:Int):(gC o k).length<=o.length+1:=by
 unfold gC;split
 .simp
 .simp
theorem JO (h:x∈fJ (gC o k)):x=k\/x∈fJ o:=by
 rw[yD] at h;split at h
 .exact .inr h
 .rcases aX.mp h with z | z
  .exact .inr z
  .exact .inl (by simpa using z)
theorem JP {o:wW}(h:(fJ o).Nodup){i:Nat}{p:Int × Bool}(hp:o[i]? = some p):iI o p.1=p.2:=by
 induction o generalizing i with
 | nil=>cases hp
 | cons q o ih =>
  unfold fJ at h;rw[ai,bj] at h
  cases i with
  | zero =>
   have:q=p:=by simpa using hp
   subst this;simp[iI]
  | succ i =>
   have Fc:o[i]? = some p:=by simpa using hp
   have hm:p.1∈o.map (·.1):=aU.mpr ⟨p,bG Fc,rfl⟩;have gX:¬ q.1=p.1:=λz=>h.1 (z ▸ hm);have:=ih h.2 Fc;unfold iI at this ⊢;rw[bK];simp only[gX,decide_false];exact this
end Odj
open PySem
namespace Odj
theorem vN:∀{l1 l2:List Int},l1.Pairwise (· < ·)->l2.Pairwise (· < ·)->(∀k,k∈l1↔k∈l2)->l1=l2
 | [],[],_,_,_=>rfl
 | [],b::l2,_,_,h=>absurd ((h b).mpr (ao ..)) (!4)
 | a::l1,[],_,_,h=>absurd ((h a).mp (ao ..)) (!4)
 | a::l1,b::l2,h1,h2,h=>by
  obtain⟨q1,r1⟩:=bJ.mp h1;obtain⟨q2,r2⟩:=bJ.mp h2
  have e:a=b:=by
   rcases ax.mp ((h a).mp (ao ..)) with z | z
   .exact z
   .rcases ax.mp ((h b).mpr (ao ..)) with y | y
    .exact y.symm
    .have:=q2 a z
     have:=q1 b y;omega
  subst e;rw[vN r1 r2 λk=>?_];constructor
  .intro hk
   rcases ax.mp ((h k).mp (ag _ hk)) with z | z
   .have:=q1 k hk
    omega
   .exact z
  .intro hk
   rcases ax.mp ((h k).mpr (ag _ hk)) with z | z
   .have:=q2 k hk
    omega
   .exact z
noncomputable def DL (row ns:List Int):Prop:=ns.Pairwise (· < ·)/\∀k,k∈ns↔row.count k % 2=1
end Odj
namespace Odj
open PySem L2
noncomputable def ee (row:List Int):List Int:=hZ (row.filter λk=>decide (row.count k % 2=1))
noncomputable def gF:UF:=λds n Q _=>match ds with
 | [.list es]=>qR (jB es) λrow=>((lN row).length<=60/\row.length<=100000)/\Q (.tuple ((ee row).map .int)) n
 | [.tuple es]=>qR (jB es) λrow=>((lN row).length<=60/\row.length<=100000)/\Q (.tuple ((ee row).map .int)) n
 | _=>False
noncomputable def FL (c:Str):List Str:=(([]:List (Str × List Str)).lookup c).getD []
noncomputable abbrev XC (cl:Str->Addr):Xc:=⟨cl,FL⟩
noncomputable def qg:US:=(eJ (dE gF (dz (dN ip (dA 0) (dA 1)) dC)))
noncomputable def fi:UF:=iC 2 2 (λ_=>qg)
noncomputable def sP:US:=(dJ (oJ 2 dC)
 (dJ (jV (Jc 1) (fQ 3)
 (ku 2 lM (dz (zQ (dN eY (dN eY (dA 0) (!13)) (dA 3)) zN (zO (!32))) dC)))
 (eJ (p8 gF (dz (dA 2) dC)))))
noncomputable def mN:UF:=iC 4 2 (λ_=>sP)
noncomputable def qh:US:=(eJ (i9 rK (dz (uL (e9 (ph (dA 1)) [none,some 0] (fQ 0) kB (dN eY (dN eY (dN eY (dA 1) (!13)) (dA 0)) (!32)))) dC)))
noncomputable def kS:UF:=iC 2 2 (λ_=>qh)
noncomputable def nj:US:=(eJ (dN oj (dN Gp (i9 jU (dz (uL (e9 (ph (dA 1)) [none,some 0] (fQ 0) (eC (dN inD (dA 0) (dA 1))) (dD 0))) dC)) (!32)) (!13)))
noncomputable def kD:UF:=iC 2 2 (λ_=>nj)
noncomputable def oO:US:=(eJ (i9 fu (dz (uL (e9 (Rr (dA 0)) [none,none,some 1] (Bs [(fQ 1),(fQ 0)]) (eC (dN oj (dA 0) (dA 2))) (dD 1))) dC)))
noncomputable def jY:UF:=iC 2 2 (λ_=>oO)
noncomputable def qj:US:=(dJ (d7 1 (uL (NP (dN eY (dA 0) (!16)))))
 (dJ (jV (EV (dN eY (dA 0) (!13))) (fQ 2)
 (dJ (d7 3 (i9 tF (dz (dN eY (dA 1) (dN eY (dA 2) (!16))) (dz (dN eY (dA 1) (dN eY (dA 2) (!13))) dC))))
 (dJ (d7 4 (i9 yr (dz (dN eY (dA 1) (dN eY (dA 2) (!16))) (dz (dN eY (dA 1) (dN eY (dA 2) (!13))) dC))))
 (d7 1 (uL (e9 (ph (dA 1)) [none,some 3,some 4] (fQ 0) kB (tV (eC (dN oj (dA 0) (dA 2))) (dD 1) (dD 0))))))))
 (eJ (i9 fu (dz (uL (e9 (ph (uL (vA (dA 1)))) [none,some 1] (fQ 0) kB (dE jY (dz (dD 1) (dz (dD 0) dC))))) dC)))))
noncomputable def iu:UF:=iC 5 1 (λ_=>qj)
noncomputable def sQ:US:=(dJ (d7 2 (i9 fu (dz (uL (e9 (Mk (i9 jU (dz (dN eY (dA 0) (!13)) dC))) [none,some 1] (fQ 0) (eC (dN p6 (dA 0) (dA 1))) (dD 0))) dC)))
 (eJ (d5 (dz (d5 (dz (dN eY (dA 0) (!16)) (dz (i9 fu (dz (uL (e9 (ph (dA 2)) [none,some 0] (fQ 0) kB (dN eY (dN eY (dA 1) (!13)) (dA 0)))) dC)) dC))) (dz (dD 2) dC)))))
noncomputable def pw:UF:=iC 3 2 (λ_=>sQ)
noncomputable def l4:US:=(eJ (dN ip (dE pw (dz (dD 0) (dz (dE fi (dz (dD 2) (dz (dD 3) dC))) dC))) (d5 (dz (dE fi (dz (dD 1) (dz (dE mN (dz (dD 0) (dz (dD 2) dC))) dC))) dC))))
noncomputable def jM:UF:=iC 4 4 (λ_=>l4)
noncomputable def Ae:US:=(eJ (i9 fu (dz (uL (e9 (Rr (dN eY (dA 0) (!13))) [none,none] (Bs [(fQ 0),(fQ 1)]) (eC (dN U6 (dN eY (dA 1) (!32)) (!16))) (dD 0))) dC)))
noncomputable def rO:UF:=iC 1 1 (λ_=>Ae)
noncomputable def vO:US:=(eJ (d5 (dz (dN eY (dA 0) (!16)) (dz (i9 fu (dz (uL (e9 (ph (dN eY (dA 0) (!13))) [none,none,none] (Bs [(fQ 1),(fQ 0),(fQ 2)]) kB (d5 (dz (dD 1) (dz (dD 0) (dz (i9 zR (dz (dA 2) dC)) dC)))))) dC)) dC))))
noncomputable def oP:UF:=iC 1 1 (λ_=>vO)
noncomputable def l5:US:=(eJ (dE fi (dz (dD 1) (dz (dE mN (dz (dD 0) (dz (dE rO (dz (dD 0) dC)) dC))) dC))))
noncomputable def iJ:UF:=iC 2 2 (λ_=>l5)
noncomputable def nq:US:=(eJ (dE fi (dz (dD 1) (dz (dE rO (dz (dD 0) dC)) dC))))
noncomputable def jd:UF:=iC 2 2 (λ_=>nq)
noncomputable def oQ:US:=(eJ (tV (eC (dN oj (dN eY (dA 0) (!16)) (dA 1))) (dN eY (dA 0) (!13)) (dN eY (dA 0) (!16))))
noncomputable def lR:UF:=iC 2 2 (λ_=>oQ)
noncomputable def kg:US:=(dJ (oJ 2 dC)
 (dJ (jV (Wt (dN eY (dA 0) (!13))) (Bs [(fQ 3),(fQ 4)])
 (fw (eC (dN Hj (Ab (dN eY (dA 4) (!16)) (dA 1)) (Ab (dN eY (dA 4) (!13)) (dA 1)))) (dJ (d7 5 (tV (eC (Ab (dN eY (dA 4) (!16)) (dA 1))) (dN eY (dA 4) (!16)) (dN eY (dA 4) (!13))))
 (ku 2 ja (dz (d5 (dz (dN ip (dN eY (tK (dA 1) (dA 5)) (!16)) (dN eY (dA 4) (!32))) (dz (dE lR (dz (dD 4) (dz (dD 5) dC))) (dz (dE fi (dz (dN eY (tK (dA 1) (dA 5)) (!13)) (dz (d5 (dz (dD 3) dC)) dC))) dC)))) dC))) fq))
 (eJ (JB (dA 2)))))
noncomputable def gy:UF:=iC 6 2 (λ_=>kg)
noncomputable def oR:US:=(dJ (DF 2 (dD 1) (d5 (dz (!16) (dz (d5 dC) dC))))
 (dJ (d7 3 (p8 gy (dz (dA 0) (dz (dA 2) dC))))
 (dJ (sG (eC (dN oH (dA 3) (uC .none)))
 (dJ (vJ 2 (dN eY (dA 3) (!13)) (d5 (dz (dN eY (dA 3) (!16)) (dz (dN eY (dA 3) (!32)) dC))))
 (d7 3 (p8 gy (dz (dA 0) (dz (dA 2) dC))))))
 (oI 2))))
noncomputable def jZ:UF:=iC 4 2 (λ_=>oR)
noncomputable def l6:US:=(dJ (d7 3 (dE jZ (dz (dD 0) (dz (dD 1) dC))))
 (eJ (tV (eC (Ab (dA 2) (dA 3))) (dN eY (tK (dA 3) (dA 2)) (!13)) (uC .none))))
noncomputable def iK:UF:=iC 4 3 (λ_=>l6)
noncomputable def kT:US:=(dJ (d7 2 (dE jZ (dz (dD 0) (dz (dD 1) dC))))
 (eJ (i9 fu (dz (uL (e9 (Mk (dN eY (dA 0) (!16))) [none,some 2] (fQ 0) kB (tV (eC (Ab (dA 0) (dA 1))) (dN eY (tK (dA 1) (dA 0)) (!16)) (uC .none)))) dC))))
noncomputable def je:UF:=iC 3 2 (λ_=>kT)
noncomputable def l7:US:=(eJ (uL (e9 (Mk (dN eY (dA 0) (!16))) [none,some 0] (fQ 0) kB (dE je (dz (dD 1) (dz (dD 0) dC))))))
noncomputable def iL:UF:=iC 1 1 (λ_=>l7)
noncomputable def jD (Y:lZ)(Rc:lZ->UF):US:=(dJ (d7 3 (dN eY (dA 1) (!16)))
 (dJ (oJ 4 dC)
 (dJ (jV (EV (zQ (dA 1) (zO (!13)) zN)) (fQ 5)
 (dJ (d7 6 (dE (Rc Y) (dz (dD 0) (dz (dE fi (dz (dD 1) (dz (d5 (dz (dD 3) (dz (dD 5) dC))) dC))) dC))))
 (fw (IU (eC (dN oH (dN eY (dN eY (dA 0) (dA 3)) (dA 5)) (uC .none))) (eC (dN oH (dA 6) (uC .none)))) (ku 4 ja (dz (d5 (dz (dN ip (dN eY (dN eY (dA 0) (dA 3)) (dA 5)) (dA 6)) (dz (dD 5) dC))) dC)) fq)))
 (oI 4))))
noncomputable def gO (Rc:lZ->UF):lZ->UF:=λY=>JD 7 3 (jD Y Rc)
noncomputable def kh (Y:lZ)(Rc:lZ->UF):US:=(JE Y 1 (d7 3 (dE (Rc Y) (dz (dD 0) (dz (dD 1) dC)))) (tV (eC (dN Hi (i9 jU (dz (dA 3) dC)) (!16))) (dN eY (i9 tJ (dz (dA 3) dC)) (!16)) (uC .none)))
noncomputable def ki (Rc:lZ->UF):lZ->UF:=λY=>JD 4 3 (kh Y Rc)
noncomputable def gP:Nat->lZ->UF
 | 0=>λ_=>TQ
 | d+1=>ki (gO (gP d))
noncomputable def fo:lZ->UF:=gP 5
noncomputable def jE:lZ->UF:=gO fo
noncomputable def l8:US:=(dJ (d7 2 (dE iL (dz (dD 0) dC)))
 (qf 3 (d5 dC) (!16) λY=>(dJ (fw (eC (dN yp (dE (fo Y) (dz (dD 2) (dz (dD 1) dC))) (uC .none))) (eJ (uC .none)) fq)
 (dJ (oJ 4 dC)
 (dJ (d7 5 (dD 1))
 (dJ (sG (eC (dN Hj (dA 5) (d5 dC)))
 (dJ (d7 6 (d5 (dz (dN eY (dA 5) (!16)) (dz (dN eY (i9 tJ (dz (dE (jE Y) (dz (dD 2) (dz (dD 5) dC))) dC)) (!13)) dC))))
 (dJ (ku 4 ja (dz (dD 6) dC))
 (d7 5 (dE fi (dz (dD 5) (dz (dD 6) dC)))))))
 (eJ (i9 fu (dz (dA 4) dC)))))))))
noncomputable def jN:UF:=iC 7 2 (λ_=>l8)
noncomputable def nu:US:=(dJ (d7 2 (dE oP (dz (dD 0) dC)))
 (dJ (d7 3 (dE jN (dz (dD 2) (dz (dE iJ (dz (dD 0) (dz (dD 1) dC))) dC))))
 (dJ (fw (eC (dN yp (dA 3) (uC .none))) (eJ (uC .none)) fq)
 (dJ (d7 4 (d5 dC))
 (dJ (jV (Jc 3) (fQ 5)
 (d7 4 (dE fi (dz (dD 4) (dz (dE iK (dz (dD 2) (dz (dN eY (dA 5) (!16)) (dz (dN eY (dA 5) (!13)) dC)))) dC)))))
 (eJ (dE jd (dz (dD 0) (dz (dD 4) dC)))))))))
noncomputable def kE:UF:=iC 6 2 (λ_=>nu)
noncomputable def kU:US:=(dJ (d7 2 (dE iL (dz (dD 0) dC)))
 (qf 3 (d5 dC) (!16) λY=>(dJ (d7 4 (dE (fo Y) (dz (dD 2) (dz (dD 1) dC))))
 (dJ (oJ 5 (Qj (uL (dz (!16) dC)) (dN eY (dA 0) (!16))))
 (dJ (jV (EV (dE iu (dz (dD 0) dC))) (fQ 6)
 (jV (EV (zQ (dA 6) (zO (!13)) zN)) (fQ 7)
 (tG 5 (dD 7) (dN jz (dE (fo Y) (dz (dD 2) (dz (dE fi (dz (dD 1) (dz (d5 (dz (dN eY (dA 6) (!16)) (dz (dD 7) dC))) dC))) dC))) (dA 4)))))
 (oI 5))))))
noncomputable def jf:UF:=iC 8 2 (λ_=>kU)
noncomputable def qk:US:=(dJ (d7 4 (d5 (dz (dN eY (dA 0) (!16)) (dz (i9 fu (dz (uL (e9 (Rr (dN eY (dA 0) (!13))) [none,none,some 3,some 2] (Bs [(fQ 0),(fQ 1)]) (eC (dN Rq (dN eY (dA 3) (dA 0)) (dA 2))) (dD 1))) dC)) dC))))
 (dJ (d7 5 (uL (e9 (ph (dE iu (dz (dD 0) dC))) [none] (fQ 0) kB (dN eY (dA 0) (!16)))))
 (dJ (d7 6 (uL (e9 (ph (dE iu (dz (dD 4) dC))) [none,some 3,some 1] (fQ 0) (eC (dN Rq (dN rB (uC (.int (2))) (dN eY (dA 2) (dN eY (dA 0) (!16)))) (dA 1))) (dD 0))))
 (eJ (uL (e9 (ph (dA 6)) [none,some 5] (fQ 0) (Gm (eC (i9 JM (dz (uL (e9 (ph (dA 1)) [none,some 0] (fQ 0) kB (dN inD (dA 0) (dA 1)))) dC)))) (dD 0)))))))
noncomputable def jF:UF:=iC 7 4 (λ_=>qk)
noncomputable def nv:US:=(dJ (d7 2 (dE jf (dz (dD 0) (dz (dD 1) dC))))
 (dJ (d7 3 (uL (e9 (ph (dN eY (dA 0) (!13))) [none,some 2] (fQ 0) kB (dN ip (dN ip (dN eY (dA 1) (dN eY (dA 0) (!16))) (dN eY (dA 1) (dN eY (dA 0) (!13)))) (dN eY (dA 0) (!32))))))
 (dJ (d7 4 (uL (vA (dN ip (uL (e9 (ph (dA 2)) [none] (fQ 0) kB (dN rB (uC (.int (2))) (dA 0)))) (dA 3)))))
 (dJ (E6 5 true)
 (dJ (jV (Vd (dD 4) (zQ (dA 4) (zO (!13)) zN)) (Bs [(fQ 6),(fQ 7)])
 (jV (EV (dE jF (dz (dD 0) (dz (dD 2) (dz (dD 3) (dz (dD 6) dC)))))) (fQ 8)
 (vJ 5 (dA 8) (dN jz (dN ip (vK 5 (dD 8) (!16)) (dA 7)) (dA 6)))))
 (eJ (rN 5)))))))
noncomputable def kF:UF:=iC 9 2 (λ_=>nv)
noncomputable def ny:US:=(dJ (d7 2 (dE kE (dz (dD 0) (dz (dD 1) dC))))
 (dJ (fw (eC (dN yp (dA 2) (uC .none))) (eJ (d5 (dz (uC (.str "none")) (dz (dN eY (uL (e9 (ph (dE iu (dz (dD 0) dC))) [none,some 1] (fQ 0) (eC (dE kD (dz (dD 1) (dz (dD 0) dC)))) (dD 0))) (!16)) dC)))) fq)
 (eJ (d5 (dz (uC (.str "least")) (dz (dD 2) (dz (uC (.int (2))) (dz (dE kF (dz (dE oP (dz (dD 0) dC)) (dz (dE iJ (dz (dD 0) (dz (dD 1) dC))) dC))) dC))))))))
noncomputable def kG:UF:=iC 3 2 (λ_=>ny)
noncomputable def kW:US:=(dJ (d7 4 (dE jM (dz (dD 0) (dz (dD 1) (dz (dD 2) (dz (dD 3) dC))))))
 (dJ (d7 5 (dE kG (dz (dN eY (dA 4) (!16)) (dz (dN eY (dA 4) (!32)) dC))))
 (dJ (fw (eC (dN oj (dN eY (dA 5) (!16)) (uC (.str "none")))) (eJ (dD 5)) fq)
 (eJ (d5 (dz (uC (.str "least")) (dz (dE fi (dz (dD 2) (dz (i9 fu (dz (uL (e9 (ph (dN eY (dA 5) (!13))) [none,some 4] (fQ 0) kB (dN eY (dN eY (dA 1) (!13)) (dA 0)))) dC)) dC))) (dz (dN eY (dA 5) (!32)) (dz (dN eY (dA 5) (uC (.int 3))) dC)))))))))
noncomputable def gm:UF:=iC 6 4 (λ_=>kW)
noncomputable def l9:US:=(dJ (fw (Gk (eC (dN oj (dN eY (dA 1) (!16)) (uC (.str "none")))) (eC (dN oj (dN eY (dA 2) (!16)) (uC (.str "none"))))) (eJ (uC .none)) fq)
 (eJ (dN jz (dE kS (dz (dD 0) (dz (dN eY (dA 2) (!13)) dC))) (dE kS (dz (dD 0) (dz (dN eY (dA 1) (!13)) dC))))))
noncomputable def iM:UF:=iC 3 3 (λ_=>l9)
noncomputable def ql:US:=(dJ (fw (eC (dN oj (dN eY (dA 1) (!16)) (uC (.str "none")))) (eJ (tV (eC (dN oj (dN eY (dA 2) (!16)) (uC (.str "none")))) (uC (.str "none")) (uC (.str "never")))) fq)
 (dJ (d7 3 (dE iM (dz (dD 0) (dz (dD 1) (dz (dD 2) dC)))))
 (dJ (fw (eC (dN oj (dA 3) (!16))) (eJ (uC (.str "sometimes"))) fq)
 (eJ (tV (Gk (eC (dN yp (dA 3) (uC .none))) (eC (dN Hi (dA 3) (!16)))) (uC (.str "always")) (uC (.str "never")))))))
noncomputable def nz:UF:=iC 4 3 (λ_=>ql)
noncomputable def oS:US:=(dJ (d7 3 (dE gm (dz (dD 0) (dz (dD 1) (dz (d5 (dz (dD 2) dC)) (dz (d5 dC) dC))))))
 (dJ (d7 4 (dE gm (dz (dD 0) (dz (dD 1) (dz (d5 dC) (dz (d5 (dz (dD 2) dC)) dC))))))
 (eJ (d5 (dz (dE nz (dz (dD 0) (dz (dD 3) (dz (dD 4) dC)))) (dz (dD 3) (dz (dD 4) dC)))))))
noncomputable def iY:UF:=iC 5 3 (λ_=>oS)
noncomputable def qm:US:=(dJ (d7 2 (dE iM (dz (dD 0) (dz (dN eY (dA 1) (!13)) (dz (dN eY (dA 1) (!32)) dC)))))
 (eJ (tV (eC (dN yp (dA 2) (uC .none))) (uC .none) (i9 zR (dz (dA 2) dC)))))
noncomputable def nA:UF:=iC 3 2 (λ_=>qm)
noncomputable def oT:US:=(dJ (fw (eC (dN oj (dA 1) (!16))) (eJ (dE gE (dz (uC (.int 4)) dC))) fq)
 (dJ (fw (eC (dN oj (dA 1) (!13))) (eJ (dN jz (dE gE (dz (uC (.int 9)) dC)) (uC (.int 4)))) fq)
 (dJ (fw (eC (dN oj (dA 1) (!32))) (eJ (dN jz (dE gE (dz (uC (.int 199)) dC)) (uC (.int 99)))) fq)
 (eJ (dN eY (uL (dz (Tp Gn (!13)) (dz (!13) (dz (!16) (dz (!13) (dz (!32) dC)))))) (dE gE (dz (uC (.int 5)) dC)))))))
noncomputable def j3:UF:=gV 2 2 (λ_=>oT)
noncomputable def sR:US:=(dJ (d7 3 (i9 tF (dz (dA 1) (dz (dN eY (uL (dz (uC (.int 3)) (dz (!13) (dz (!32) (dz (uC (.int 4)) (dz (uC (.int 4)) (dz (uC (.int 5)) (dz (uC (.int 3)) (dz (uC (.int 5)) dC))))))))) (dE gE (dz (uC (.int 8)) dC))) dC))))
 (dJ (d7 4 (dE gE (dz (uC (.int 4)) dC)))
 (Bz (d7 5 (tV (eC (dN oj (dE gE (dz (!32) dC)) (!16))) (dD 2) (dE gE (dz (dN ip (dA 2) (!13)) dC))))
 (dJ (oJ 6 dC)
 (dJ (jV (Tz (dN rB (dA 5) (i9 intD (dz (dN Hi (dA 3) (!13)) dC)))) (fQ 7)
 (dJ (d7 8 (dE gE (dz (dN jz (dA 3) (!13)) dC)))
 (ku 6 ja (dz (d5 (dz (dD 8) (dz (dN ip (dN ip (dA 8) (!13)) (dE gE (dz (dN jz (dN jz (dA 3) (!13)) (dA 8)) dC))) (dz (dE j3 (dz (dD 4) dC)) dC)))) dC))))
 (Bz (fw (IU (eC (dN Hj (dA 6) (uL dC))) (eC (dN oj (dE gE (dz (uC (.int 4)) dC)) (!16)))) (tG 6 (Tp Gn (!13)) (dN ip (zQ (dN eY (dA 6) (!16)) zN (zO (!32))) (d5 (dz (dE j3 (dz (dD 4) dC)) dC)))) fq)
 (eJ (d5 (dz (dD 3) (dz (i9 fu (dz (dA 6) dC)) dC))))))))))
noncomputable def pz:UF:=gV 9 3 (λ_=>sR)
noncomputable def qo:US:=(dJ (oJ 2 dC)
 (dJ (jV (Tz (dN eY (dA 0) (!16))) (fQ 3)
 (fw (eC (dN oj (dN Gp (i9 jU (dz (uL (e9 (ph (dA 1)) [none,some 3,some 0] (fQ 0) (eC (dN inD (dA 1) (zQ (dN eY (dN eY (dA 2) (!13)) (dA 0)) zN (zO (!32))))) (dD 0))) dC)) (!32)) (!13))) (ku 2 ja (dz (dD 3) dC)) fq))
 (eJ (i9 fu (dz (dA 2) dC)))))
noncomputable def nB:UF:=iC 4 2 (λ_=>qo)
noncomputable def qp:US:=(eJ (i9 rK (dz (uL (e9 (ph (dA 1)) [none,some 0] (fQ 0) kB (dN eY (dN eY (dN eY (dA 1) (!13)) (dA 0)) (!32)))) dC)))
noncomputable def kX:UF:=iC 2 2 (λ_=>qp)
noncomputable def qt:US:=(dJ (d7 2 (uL (e9 (Mk (i9 jU (dz (dN eY (dA 1) (!13)) dC))) [none,some 0] (fQ 0) (eC (dN oj (dE gE (dz (!32) dC)) (!16))) (dD 0))))
 (dJ (fw (eC (dN Hi (dE gE (dz (uC (.int 4)) dC)) (!16))) (eJ (dE nB (dz (dD 1) (dz (dD 2) dC)))) fq)
 (eJ (i9 fu (dz (uL (e9 (Mk (dN eY (dA 1) (!16))) [none,some 0] (fQ 0) (eC (dN oj (dE gE (dz (!32) dC)) (!16))) (dD 0))) dC)))))
noncomputable def nC:UF:=gV 3 2 (λ_=>qt)
noncomputable def oU:US:=(dJ (d7 2 (uL (dz (d5 (dz (d5 dC) (dz (!16) dC))) dC)))
 (dJ (jV (Tz (i9 jU (dz (dN eY (dA 0) (!13)) dC))) (fQ 3)
 (dJ (Qg (zQ (dN eY (dN eY (dA 0) (!13)) (dA 3)) zN (zO (!32))) (Bs [(fQ 4),(fQ 5)]))
 (d7 2 (dN ip (dA 2) (uL (e9 (ph (dA 2)) [none,none,some 3,some 5,some 4] (Bs [(fQ 1),(fQ 0)]) kB (d5 (dz (dN ip (dA 1) (d5 (dz (dD 2) dC))) (dz (dN BF (dN BF (dA 0) (dN zL (!13) (dA 4))) (dN zL (!13) (dA 3))) dC)))))))))
 (dJ (d7 6 (i9 rK (dz (uL (e9 (ph (dA 1)) [none] (fQ 0) kB (dN zL (!13) (dA 0)))) dC)))
 (eJ (uL (e9 (ph (dA 2)) [none,none,some 6] (Bs [(fQ 1),(fQ 0)]) (eC (dN oj (dA 0) (dA 2))) (dD 1)))))))
noncomputable def lS:UF:=iC 7 2 (λ_=>oU)
noncomputable def kY:US:=(dJ (d7 3 (dE pz (dz (dD 1) (dz (dD 2) dC))))
 (eJ (tV (eC (dN Hj (dN eY (dA 3) (!13)) (d5 dC))) (dD 3) (d5 (dz (!32) (dz (d5 (dz (d5 (dz (!16) (dz (!13) (dz (dN jz (dE gE (dz (uC (.int 7)) dC)) (uC (.int 3))) dC)))) dC)) dC))))))
noncomputable def jg:UF:=gV 4 3 (λ_=>kY)
noncomputable def kj:US:=(dJ (d7 3 (uL (e9 (ph (d5 (dz (uC (!37)) (dz (uC (.bool false)) dC)))) [none,some 0,some 1,some 2] (fQ 0) kB (uL (e9 (ph (dA 2)) [none,some 1,some 0,some 3] (fQ 0) (eC (dN oj (dN inD (dA 3) (dA 0)) (dA 2))) (dE kX (dz (dD 1) (dz (dD 0) dC))))))))
 (dJ (fw (eC (dN inD (uL dC) (dA 3))) (eJ (uC .none)) fq)
 (eJ (i9 zR (dz (dN jz (i9 tJ (dz (dN eY (dA 3) (!16)) dC)) (i9 tJ (dz (dN eY (dA 3) (!13)) dC))) dC)))))
noncomputable def iO:UF:=iC 4 3 (λ_=>kj)
noncomputable def jG:US:=(dJ (oJ 4 (NO (dN eY (dA 0) (!13))))
 (dJ (d7 5 (dN ip (dN eY (dN eY (dA 4) (dA 2)) (!32)) (dA 3)))
 (dJ (fw (eC (dN Hi (i9 zR (dz (dA 5) dC)) (uC (.int 99)))) (eJ (uC (.str ""))) fq)
 (dJ (tG 4 (dD 2) (dN ip (zQ (dN eY (dA 4) (dA 2)) zN (zO (!32))) (d5 (dz (dD 5) dC))))
 (eJ (dN eY (dE iY (dz (d5 (dz (dN eY (dA 0) (!16)) (dz (i9 fu (dz (dA 4) dC)) dC))) (dz (dD 1) (dz (dD 2) dC)))) (!16)))))))
noncomputable def eW:UF:=iC 6 4 (λ_=>jG)
noncomputable def gD:US:=(dJ (fw (Gk (eC (dN p6 (dA 4) (d5 (dz (uC (.str "always")) (dz (uC (.str "never")) dC))))) (eC (dN yp (dA 5) (uC .none)))) (dJ (fw (eC (dN oH (dA 5) (uC .none))) (eJ (uC (!37))) fq)
 (eJ (dN inD (dE eW (dz (dD 1) (dz (dD 2) (dz (dD 3) (dz (dN jz (dE gE (dz (uC (.int 60)) dC)) (uC (.int 30))) dC))))) (d5 (dz (uC (.str "")) (dz (dD 4) dC)))))) fq)
 (Bz (d7 6 (tV (eC (dN oj (dA 4) (uC (.str "always")))) (!13) (Tp Gn (!13))))
 (dJ (fw (eC (dN p6 (dE eW (dz (dD 1) (dz (dD 2) (dz (dD 3) (dz (dN rB (dA 6) (dA 5)) dC))))) (d5 (dz (uC (.str "")) (dz (uC (.str "sometimes")) dC))))) (eJ (uC (.bool false))) fq)
 (dJ (fw (eC (dN p6 (dE eW (dz (dD 1) (dz (dD 2) (dz (dD 3) (dz (dN rB (dA 6) (dN jz (dA 5) (!13))) dC))))) (d5 (dz (uC (.str "")) (dz (dD 4) dC))))) (eJ (uC (.bool false))) fq)
 (Bz (d7 7 (tV (eC (dN oj (dA 4) (uC (.str "always")))) (uC (.str "never")) (uC (.str "always"))))
 (eJ (dN inD (dE eW (dz (dD 1) (dz (dD 2) (dz (dD 3) (dz (dN rB (dA 6) (dN ip (dA 5) (!13))) dC))))) (d5 (dz (uC (.str "")) (dz (dD 7) dC))))))))))
noncomputable def fj:UF:=gV 8 6 (λ_=>gD)
noncomputable def BS:US:=(dJ (jV (Tz (uC (.int 3))) (fQ 2)
 (dJ (d7 3 (dE jg (dz (uC (.int 5)) (dz (uC (.int 6)) dC))))
 (dJ (d7 4 (dE nC (dz (dD 3) dC)))
 (dJ (d7 5 (dE gE (dz (i9 jU (dz (dN eY (dA 3) (!13)) dC)) dC)))
 (dJ (d7 6 (dE iY (dz (dD 3) (dz (dD 4) (dz (dD 5) dC)))))
 (dJ (d7 7 (rF (dD 6)))
 (dJ (d7 8 (dE nA (dz (dD 3) (dz (dD 6) dC))))
 (dJ (d7 9 (dE iO (dz (dD 3) (dz (dE lS (dz (dD 3) (dz (dD 4) dC))) (dz (dD 5) dC)))))
 (dJ (fw (Gk (eC (dN GB (rF (dD 8)) (rF (dD 9)))) (eC (dN GB (rF (dD 6)) (dA 7)))) (eJ (uC (.bool false))) fq)
 (fw (Gm (eC (dE fj (dz (dD 3) (dz (dD 4) (dz (dD 5) (dz (dN eY (dA 6) (!16)) (dz (dD 8) dC)))))))) (eJ (uC (.bool false))) fq))))))))))
 (eJ (uC (!37))))
noncomputable def top (i:Nat):Stmt:=PySem.Challenge.pw_oddjoins_k46_whole_slack_of_a_tie.main.body.getD i (.Pass ⟨0,0,0,0⟩)
structure ky (mg:Str->Option ah):Prop where
 abs:mg "abs" = none
 any:mg "any" = none
 enumerate:mg "enumerate" = none
 int:mg "int" = none
 len:mg "len" = none
 list:mg "list" = none
 max:mg "max" = none
 min:mg "min" = none
 range:mg "range" = none
 repr:mg "repr" = none
 set:mg "set" = none
 sorted:mg "sorted" = none
 sum:mg "sum" = none
 tuple:mg "tuple" = none
 zip:mg "zip" = none
noncomputable abbrev N2:List Str:=["one", "other"]
noncomputable abbrev N3:List Str:=["web", "some", "ends", "number"]
noncomputable abbrev N4:List Str:=["number", "web"]
noncomputable abbrev N5:List Str:=["web", "some"]
noncomputable abbrev N6:List Str:=["place", "told"]
noncomputable abbrev N7:List Str:=["told", "side"]
noncomputable abbrev N8:List Str:=["least", "leasts"]
noncomputable abbrev N9:List Str:=["web", "leasts", "tie", "low", "high"]
noncomputable abbrev YD:List Str:=["least", "low", "high"]
noncomputable abbrev W9:List Str:=["own", "place", "least"]
noncomputable abbrev YE:List Str:=["leasts", "least"]
noncomputable abbrev W':List Str:=["web", "some", "numbers"]
noncomputable abbrev YF:List Str:=["number", "some"]
noncomputable abbrev N15:List Str:=["web", "told", "ins", "outs"]
noncomputable abbrev Xa:List Str:=["number", "tie"]
noncomputable abbrev Rv:List Str:=["web"]
noncomputable abbrev Vf:List Str:=["high", "low", "price"]
noncomputable abbrev N19:List Str:=["web", "told"]
noncomputable abbrev N20:List Str:=["tie", "place"]
noncomputable abbrev N21:List Str:=["web", "place", "found", "step"]
noncomputable abbrev N22:List Str:=["web", "found", "steps", "number", "tie", "near"]
noncomputable abbrev N23:List Str:=["web", "one", "other", "found"]
noncomputable abbrev YG:List Str:=["other", "found"]
noncomputable abbrev YH:List Str:=["web", "place", "found"]
noncomputable abbrev YI:List Str:=["place", "web"]
noncomputable abbrev N27:List Str:=["heights", "told", "known", "offers"]
noncomputable abbrev N28:List Str:=["heights", "told", "known", "first", "offers", "other", "rest"]
noncomputable abbrev N29:List Str:=["web", "told", "heights", "known", "pairs", "left", "pair"]
noncomputable abbrev N30:List Str:=["web", "told", "plain", "pairs", "join", "pair"]
noncomputable abbrev YJ:List Str:=["part", "told"]
noncomputable abbrev YK:List Str:=["web", "told", "join"]
noncomputable abbrev YL:List Str:=["height"]
noncomputable abbrev Xb:List Str:=["web", "told", "heights", "meets", "levels", "shares", "low", "high", "side"]
noncomputable abbrev YM:List Str:=["tie", "heights"]
noncomputable abbrev N36:List Str:=["web", "told", "table", "known", "level", "heights", "part", "place"]
noncomputable abbrev Xd:List Str:=["pool", "leasts"]
noncomputable abbrev YN:List Str:=["least", "pool"]
noncomputable abbrev Um:List Str:=["web", "heights", "meets", "level", "run", "leasts", "wet"]
noncomputable abbrev YO:List Str:=["pool", "level", "heights"]
noncomputable abbrev YQ:List Str:=["part"]
noncomputable abbrev Xe:List Str:=["number", "tie", "level", "meets"]
noncomputable abbrev YR:List Str:=["index", "left"]
noncomputable abbrev YS:List Str:=["web", "told", "ins", "outs", "left", "paper"]
noncomputable abbrev N45:List Str:=["web", "one", "other", "dearer"]
noncomputable abbrev N46:List Str:=["web", "one", "other"]
noncomputable abbrev N47:List Str:=["web", "told", "number", "one", "other"]
noncomputable abbrev N48:List Str:=["web", "paper", "dearer"]
noncomputable abbrev N49:List Str:=["_law_feed_here", "_law_sort"]
noncomputable abbrev N50:List Str:=["_law_feed_here", "_law_places", "_law_most", "_law_many", "_law_sort", "_law_count", "_law_ties", "_law_k", "_law_a"]
noncomputable abbrev YT:List Str:=["_law_number", "_law_place", "_law_web_here"]
noncomputable abbrev YU:List Str:=["_law_web_here", "_law_some", "_law_found", "_law_place"]
noncomputable abbrev YV:List Str:=["_law_number", "_law_web_here"]
noncomputable abbrev YW:List Str:=["_law_web_here", "_law_some"]
noncomputable abbrev YX:List Str:=["_law_place", "_law_feed_here"]
noncomputable abbrev Xf:List Str:=["_law_feed_here", "_law_web_here", "_law_some"]
noncomputable abbrev YY:List Str:=["_law_number", "_law_feed_here"]
noncomputable abbrev Xg:List Str:=["_law_ends", "_law_some", "_law_goal"]
noncomputable abbrev Vg:List Str:=["_law_web_here", "_law_told_here", "_law_found", "_law_number", "_law_a", "_law_b", "_law_goal"]
noncomputable abbrev YZ:List Str:=["_law_place"]
noncomputable abbrev Xh:List Str:=["_law_ends", "_law_some", "_law_number", "_law_b", "_law_a"]
noncomputable abbrev N62:List Str:=["_law_feed_here", "_law_places", "_law_most", "_law_web_here"]
noncomputable abbrev Xi:List Str:=["_law_way", "_law_web_here", "_law_joins_here", "_law_number"]
noncomputable abbrev Y0:List Str:=["_law_join", "_law_web_here", "_law_way", "_law_number"]
noncomputable abbrev Y1:List Str:=["_law_web_here", "_law_joins_here", "_law_number", "_law_ways"]
noncomputable abbrev N66:List Str:=["_law_web_here", "_law_told_here", "_law_number", "_law_by", "_law_ties", "_law_price_here"]
noncomputable abbrev N67:List Str:=["_law_feed_here", "_law_web_here", "_law_told_here", "_law_number", "_law_word", "_law_slack", "_law_sign", "_law_other"]
noncomputable abbrev N68:List Str:=["_law_script", "_law_feed_here", "_law_turn", "_law_web_here", "_law_told_here", "_law_number", "_law_paper", "_law_kept", "_law_slack", "_law_due"]
section
variable (P:bf)(w:World)(K:W.Frag)(mg:Str->Option ah)(base:Heap)(cl:Str->Addr)(Y:yu)
noncomputable abbrev qu:Prop:=eD P w K mg base 1 "odd_ones" ["row"] (mW (XC cl) gF)
noncomputable abbrev fx:Prop:=eD P w K mg base 2 "by_turns" ["one", "other"] (mW (XC cl) fi)
noncomputable abbrev pA:Prop:=eD P w K mg base 2 "odds_of" ["web", "some"] (mW (XC cl) mN)
noncomputable abbrev qw:Prop:=eD P w K mg base 1 "price_of" ["web", "some"] (mW (XC cl) kS)
noncomputable abbrev nD:Prop:=eD P w K mg base 1 "is_odd_for" ["told", "side"] (mW (XC cl) kD)
noncomputable abbrev kZ:Prop:=eD P w K mg base 2 "parts_of" ["web"] (mW (XC cl) iu)
noncomputable abbrev oV:Prop:=eD P w K mg base 1 "places_of" ["leasts", "least"] (mW (XC cl) jY)
noncomputable abbrev sS:Prop:=eD P w K mg base 1 "rest_of" ["web", "some"] (mW (XC cl) pw)
noncomputable abbrev ma:Prop:=eD P w K mg base 3 "forced_rest" ["web", "told", "ins", "outs"] (mW (XC cl) jM)
noncomputable abbrev uP:Prop:=eD P w K mg base 1 "below" ["web"] (mW (XC cl) rO)
noncomputable abbrev rP:Prop:=eD P w K mg base 1 "turned" ["web"] (mW (XC cl) oP)
noncomputable abbrev jO:Prop:=eD P w K mg base 3 "turned_told" ["web", "told"] (mW (XC cl) iJ)
noncomputable abbrev nE:Prop:=eD P w K mg base 3 "turned_set" ["web", "some"] (mW (XC cl) jd)
noncomputable abbrev oW:Prop:=eD P w K mg base 1 "other_end" ["tie", "place"] (mW (XC cl) lR)
noncomputable abbrev lT:Prop:=eD P w K mg base 4 "ways_from" ["web", "place"] (mW (XC cl) jZ)
noncomputable abbrev kl:Prop:=eD P w K mg base 3 "cheapest_step" ["web", "found"] (mW (XC cl) gy)
noncomputable abbrev me:Prop:=eD P w K mg base 5 "way_between" ["web", "one", "other"] (mW (XC cl) iK)
noncomputable abbrev k8:Prop:=eD P w K mg base 5 "heights_from" ["web", "place"] (mW (XC cl) je)
noncomputable abbrev jP:Prop:=eD P w K mg base 6 "all_heights" ["web"] (mW (XC cl) iL)
noncomputable abbrev gZ:Prop:=eD P w K mg base 12 "pairing_price" ["heights", "told", "known"] (K1 fo)
noncomputable abbrev jH:Prop:=eD P w K mg base 13 "partner_offers" ["heights", "told", "known"] (K1 jE)
noncomputable abbrev mf:Prop:=eD P w K mg base 14 "least_pairs" ["web", "told"] (mW (XC cl) jN)
noncomputable abbrev nF:Prop:=eD P w K mg base 15 "least_join" ["web", "told"] (mW (XC cl) kE)
noncomputable abbrev nG:Prop:=eD P w K mg base 16 "join_paper" ["web", "told"] (mW (XC cl) kG)
noncomputable abbrev nH:Prop:=eD P w K mg base 14 "share_rows" ["web", "told"] (mW (XC cl) kF)
noncomputable abbrev k9:Prop:=eD P w K mg base 13 "join_heights" ["web", "told"] (mW (XC cl) jf)
noncomputable abbrev qx:Prop:=eD P w K mg base 3 "pools_at" ["web", "heights", "meets", "level"] (mW (XC cl) jF)
noncomputable abbrev lg:Prop:=eD P w K mg base 17 "forced_paper" ["web", "told", "ins", "outs"] (mW (XC cl) gm)
noncomputable abbrev qy:Prop:=eD P w K mg base 3 "tie_word" ["web", "one", "other"] (mW (XC cl) nz)
noncomputable abbrev jQ:Prop:=eD P w K mg base 2 "extra_price" ["web", "one", "other"] (mW (XC cl) iM)
noncomputable abbrev lU:Prop:=eD P w K mg base 18 "tie_paper" ["web", "told", "number"] (mW (XC cl) iY)
noncomputable abbrev qz:Prop:=eD P w K mg base 3 "slack_of" ["web", "paper"] (mW (XC cl) nA)
noncomputable abbrev iT:Prop:=eD P w K mg base 1 "_law_draw" ["_law_feed_here", "_law_many"] (xq Y gE)
noncomputable abbrev oX:Prop:=eD P w K mg base 2 "_law_price" ["_law_feed_here", "_law_sort"] (xq Y j3)
noncomputable abbrev sT:Prop:=eD P w K mg base 3 "_law_web" ["_law_feed_here", "_law_places", "_law_most"] (xq Y pz)
noncomputable abbrev qA:Prop:=eD P w K mg base 1 "_law_odds" ["_law_web_here", "_law_some"] (mW (XC cl) nB)
noncomputable abbrev qB:Prop:=eD P w K mg base 1 "_law_cost" ["_law_web_here", "_law_some"] (mW (XC cl) kX)
noncomputable abbrev qC:Prop:=eD P w K mg base 2 "_law_told" ["_law_feed_here", "_law_web_here"] (xq Y nC)
noncomputable abbrev oY:Prop:=eD P w K mg base 1 "_law_joins" ["_law_web_here", "_law_told_here"] (mW (XC cl) lS)
noncomputable abbrev lh:Prop:=eD P w K mg base 4 "_law_web_with" ["_law_feed_here", "_law_places", "_law_most"] (xq Y jg)
noncomputable abbrev km:Prop:=eD P w K mg base 2 "_law_slack_due" ["_law_web_here", "_law_joins_here", "_law_number"] (mW (XC cl) iO)
noncomputable abbrev jI:Prop:=eD P w K mg base 19 "_law_moved_word" ["_law_web_here", "_law_told_here", "_law_number", "_law_by"] (mW (XC cl) eW)
noncomputable abbrev jh:Prop:=eD P w K mg base 20 "_law_moves_right" ["_law_feed_here", "_law_web_here", "_law_told_here", "_law_number", "_law_word", "_law_slack"] (xq Y fj)
end
theorem BU (ns:List Int):ae.canLayAll0 (ns.map ae.int)=true:=by
 induction ns with
 | nil=>rfl
 | cons n ns ih=>simpa [ae.canLayAll0,ae.canLay0] using ih
theorem DM (ns:List Int):ae.depthAll (ns.map ae.int)=0:=by
 induction ns with
 | nil=>rfl
 | cons n ns ih=>simpa [ae.depthAll,ae.depth] using ih
structure jW (H:Hp) (fa sa:Addr) (n:Int):Prop where
 ex:∃(ns:List Int) (i c:Int),H fa=some (.lst [.ref sa,.int i,.int c])/\H sa=some (.lst (!21))/\0<=i/\i<=n
 ne:sa≠fa
 lo:0<=n
theorem jW.ext {S:List Addr}{H H':Hp}{fa sa:Addr}{n:Int}(f:jW H fa sa n)(x:Ext S H H')(h1:fa ∉ S)(h2:sa ∉ S):jW H' fa sa n:=by
 obtain⟨ns,i,c,e1,e2,e3⟩:=f.ex;exact⟨⟨ns,i,c,x.keep _ _ h1 e1,x.keep _ _ h2 e2,e3⟩,f.ne,f.lo⟩
theorem jW.put {H:Hp}{fa sa:Addr}{n:Int}(f:jW H fa sa n)(i c n':Int)(h0:0<=i)(h:i<=n'):jW (fz H fa (.lst [.ref sa,.int i,.int c])) fa sa n'/\Ext [fa] H (fz H fa (.lst [.ref sa,.int i,.int c])):=by
 obtain⟨ns,i0,c0,e1,e2,_⟩:=f.ex;exact⟨⟨⟨ns,i,c,dQ,by rw[d6 f.ne];exact e2,h0,h⟩,f.ne,!1⟩,.set (!4) e1⟩
noncomputable def Af:yu where
 jW:=jW
 ext:=λf x h1 h2=>f.ext x h1 h2
 fa:=λf=>let ⟨_,_,_,e,_⟩:=f.ex;by rw[e];simp
 sa:=λf=>let ⟨_,_,_,_,e,_⟩:=f.ex;by rw[e];simp
 nx:=λf φ=>let ⟨_,_,_,e,_⟩:=f.ex;by rw[e];simp
noncomputable abbrev QH (K:W.Frag):Sp:=uJ Af K
noncomputable abbrev QJ:Sp:=E1 Af
section
variable {P:bf}{w:World}{K:W.Frag}{mg:Str->Option ah}{base:Heap}{f:Addr}{fd:bE}
theorem QL (F:AX K "_law_feed" "_law_feed" (top 45) f fd)(hm:mg "_law_feed" = some (.ref f))(B:ky mg):eD P w K mg base 1 "_law_feed" ["_law_script"] (QH K):=by
 refine⟨f,fd,?_,hm,F.kp,F.binds λ_ _ _ _ _ _ us hl=>by obtain⟨_,rfl⟩:=Jp hl;rfl⟩;have sc:gp ["_law_script"] ["_law_script"] (dM (top 45)):=⟨rfl,rfl,rfl,!3,rfl,!3,!3⟩;(refine F.PN sc (λvs H Q E h=>?_) (λfH A outer s H vs Q E hr h=>?_))
 .obtain⟨a,ns,rfl,_⟩:=h
  rfl
 .obtain⟨a,ns,rfl,hs,q⟩:=h
  refine⟨_,(i7 (nc (C5 (iS (iz (Nr K) (by rfl) B.list (!3) (iS (A5 (Yc K) (qv 0) Ey (Ez fB)) fN)) (iS fB (iS fB fN)))))),?_⟩;refine⟨_,rfl,63,rfl,a,_,rfl,hs,λp hp=>⟨p,_,rfl,.inl (gx.of dQ),λl hl=>⟨by show 3<=aC;decide,λfa AB=>?_⟩⟩⟩;have y1:Ext [] H (fz H p (.lst (m7 (!21) none (some 63)))):=.new hp;have Y2:H l=none:=y1.fresh (!4) hl;generalize fz H p (.lst (m7 (!21) none (some 63)))=H1 at y1 hl AB ⊢;have y2:Ext [] H1 (fz H1 l (.lst (m7 (!21) none (some 63)))):=.new hl;have el:(fz H1 l (.lst (m7 (!21) none (some 63)))) l=some (.lst (m7 (!21) none (some 63))):=dQ;generalize fz H1 l (.lst (m7 (!21) none (some 63)))=H2 at y2 el AB ⊢;have Xj:H fa=none:=(y1.trans y2).fresh (!4) AB;have Y3:l≠fa:=λz=>by rw[z,AB] at el;cases el
  refine q fa l _ ⟨⟨(ns.drop (HT.iy (!21).length 0 none)).take (HT.iy (!21).length (!21).length (some 63) - HT.iy (!21).length 0 none),0,0,dQ,?_,!2,!2⟩,Y3,!2⟩ ((y1.trans y2).trans (.new AB)) Xj Y2;rw[d6 Y3,el];unfold m7;rw[List.map_take,List.map_drop]
theorem QM (F:AX K "_law_draw" "_law_draw" (top 46) f fd)(hm:mg "_law_draw" = some (.ref f))(B:ky mg):eD P w K mg base 1 "_law_draw" ["_law_feed_here", "_law_many"] QJ:=by
 refine⟨f,fd,?_,hm,F.kp,F.binds λ_ _ _ _ _ _ us hl=>by obtain⟨_,_,rfl⟩:=GF hl;rfl⟩;have sc:gp ["_law_feed_here", "_law_many", "_law_found", "_law_at", "_law_cell", "_law_mixed"] ["_law_feed_here", "_law_many"] (dM (top 46)):=⟨rfl,rfl,rfl,!3,rfl,!3,!3⟩;(refine F.PN sc (λvs H Q E h=>?_) (λfH A outer s H vs Q E hr h=>?_))
 .obtain⟨fa,sa,n,many,rfl,_⟩:=h
  rfl
 .obtain⟨fa,sa,n,many,rfl,fe,m0,m1,nm,q⟩:=h
  have hmo:mK=1099511627776:=rfl
  refine⟨_,(fO (EB (q9 Nh (((pP (KY K) (qv 0) fB (λ_ _=>rfl)))) fB (m6 _)) (fO (j8 (i:=2) sc.nd rfl (Or.inl rfl) (ic oy (((pP (KY K) (qv 0) fB (λ_ _=>rfl)))) (qv 1)))
   (fO (u9 (ic zi (((pP (KY K) (qv 0) fB (λ_ _=>rfl)))) (qv 1)) (zC (qv 0) fB qW))
   (i7 (nc (qv 2))))) uz)
   (fO (j8 (i:=3) sc.nd rfl (Or.inl rfl) (((pP (KY K) (qv 0) fB (λ_ _=>rfl)))))
   (fO (u9 (ic sv (qv 3) fB) (zC (qv 0) fB qW))
   (EA (j8 (i:=4) sc.nd rfl (Or.inl rfl) (A4 (q9 (Py hr) (((pP (KY K) (qv 0) fB (λ_ _=>rfl)))) (C5 fN) (m6 _)) (pP (KY K) (((pP (KY K) (qv 0) fB (λ_ _=>rfl)))) (ic oy (qv 3) (kM (PQ K) (by rfl) B.len (!3) (iS (((pP (KY K) (qv 0) fB (λ_ _=>rfl)))) fN))) (λ_ _=>rfl)) fB))
   (EA (EB (QW.pt (Il (q9 R6 (qv 4) (ic O0 fB fB) (m6 _)) (Ew (q9 Ng (qv 3) (kM (PQ K) (by rfl) B.len (!3) (iS (((pP (KY K) (qv 0) fB (λ_ _=>rfl)))) fN)) (m6 _))))) (fO (u9 (ic zi (qv 4) (qv 1)) (zC (qv 0) fB qW))
   (i7 (nc (ic oy (qv 4) (qv 1))))) uz)
   (fO (j8 (i:=5) sc.nd rfl (Or.inl rfl) (ic oy (ic pS (ic sv (ic sv (ic sv (ic oy (qv 4) fB) (ic pS (ic pS fB (qv 3)) (qv 3))) (ic pS fB (qv 3))) fB) fB) fB))
   (i7 (nc (ic oy (ic zi (ic oy (ic pS (ic sv (qv 5) (ic pS fB (qv 3))) fB) fB) fB) (qv 1)))))))))),?_⟩
  obtain⟨ns,i,c,e1,e2,i0,i1⟩:=fe.ex;have n0:=fe.lo;refine⟨_,rfl,fa,_,2,_,rfl,rfl,gx.of e1,rfl,c,0,rfl,rfl,_,rfl,Pt (λhc=>?_) (λhc=>?_)⟩
  .refine⟨_,rfl,fa,_,2,_,rfl,rfl,gx.of e1,rfl,_,rfl,c,many,rfl,rfl,m0,?_⟩
   refine⟨_,rfl,fa,_,2,_,rfl,rfl,gx.of e1,rfl,_,rfl,c,many,rfl,rfl,⟨m0,m1⟩,_,rfl,fa,_,2,2,rfl,rfl,e1,rfl,?_⟩;obtain⟨f2,x2⟩:=fe.put i (c / many) (n+1) i0 (!1);exact⟨_,rfl,q _ _ (dw _ (!1)) (c9 _ m0) f2 x2⟩
  .refine⟨_,rfl,fa,_,1,_,rfl,rfl,gx.of e1,rfl,?_⟩
   obtain⟨f2,x2⟩:=fe.put (i+1) c (n+1) (!1) (!1);refine⟨_,rfl,i,1,rfl,rfl,_,rfl,fa,_,1,1,rfl,rfl,e1,rfl,?_⟩;have g1:(fz H fa (.lst [.ref sa,.int (i+1),.int c])) fa=some (.lst [.ref sa,.int (i+1),.int c]):=dQ;have g2:(fz H fa (.lst [.ref sa,.int (i+1),.int c])) sa=some (.lst (!21)):=by rw[d6 fe.ne];exact e2
   dsimp only [av,aq];generalize fz H fa (.lst [.ref sa,.int (i+1),.int c])=H1 at f2 x2 g1 g2 ⊢;refine⟨λσ' H'=>∃cell:Int,σ'=[some (.ref fa),some (.int many),none,some (.int i),some (.int cell),none]/\H' fa=some (.lst [.ref sa,.int (i+1),.int c])/\H' sa=some (.lst (!21))/\jW H' fa sa (n+1)/\Ext [fa] H H',?_,?_⟩
   .refine⟨_,rfl,fa,_,0,_,rfl,rfl,gx.of g1,rfl,bZ _,λp hp=>?_⟩
    have y1:Ext [] H1 (fz H1 p (.lst [])):=.new hp;have ep:(fz H1 p (.lst [])) p=some (.lst []):=dQ;have f3:=f2.ext y1 (!4) (!4);have x3:=x2.trans (y1.mono (S':=[fa]) (!4));have a1:=y1.keep _ _ (!4) g1;have a2:=y1.keep _ _ (!4) g2;generalize fz H1 p (.lst [])=H2 at y1 ep f3 x3 a1 a2 ⊢;refine⟨[],.list (ns.map .int),.list [],.lst a2 (!4) (.ints ns),.lst ep (!4) .nil,BU ns,rfl,by simp[ae.depth,DM],_,rfl,?_⟩
    cases ns with
    | nil=>exact LG ⟨5,rfl,a1,a2,f3,x3⟩
    | cons k ns =>
     refine Pr ?_;have hl:(0:Int)<(((k::ns).map V.int).length:Nat):=by simp
     obtain⟨v,hv,AA⟩:=Pz (xs:=(k::ns).map V.int) (dw i (!1)) (c9 i hl)
     obtain⟨z,rfl⟩:∃z,v=V.int z:=by
      rw[az] at AA
      cases e:(k::ns)[(i % (((k::ns).map V.int).length:Nat)).toNat]? with
      | none=>rw[e] at AA;cases AA
      | some z=>rw[e] at AA;exact⟨z,(Option.some.inj AA).symm⟩
     exact⟨_,rfl,fa,_,0,_,rfl,rfl,gx.of a1,rfl,_,rfl,_,rfl,fa,_,0,_,rfl,rfl,gx.of a1,rfl,sa,_,rfl,.inl (gx.of a2),i,_,rfl,rfl,hl,sa,_,_,_,rfl,rfl,gx.of a2,hv,z,rfl,a1,a2,f3,x3⟩
   .rintro σ' H2 ⟨cell,rfl,a1,a2,f3,x3⟩
    have ib:-(2 ^ 64)<i/\i<2 ^ 64:=by constructor<;>omega
    refine⟨λσ' H'=>σ'=[some (.ref fa),some (.int many),none,some (.int i),some (.int cell),none]/\H'=H2,?_,?_⟩
    .refine⟨_,rfl,10,18,rfl,rfl,⟨!2,!2,!2⟩,cell,_,rfl,rfl,_,rfl,Pt (λhb=>?_) (λhb=>LG ⟨rfl,rfl⟩)⟩
     refine⟨_,rfl,_,rfl,fa,_,0,_,rfl,rfl,gx.of a1,rfl,sa,_,rfl,.inl (gx.of a2),_,_,rfl,rfl,_,rfl,Pt (λhd=>?_) (λhd=>⟨rfl,rfl⟩)⟩;refine⟨_,rfl,_,rfl,cell,many,rfl,rfl,⟨m0,m1⟩,_,rfl,fa,_,2,2,rfl,rfl,a1,rfl,?_⟩;obtain⟨f4,x4⟩:=f3.put (i+1) (cell / many) (n+1) (!1) (!1);exact⟨_,rfl,_,rfl,cell,many,rfl,rfl,m0,q _ _ (dw _ (!1)) (c9 _ m0) f4 (x3.trans x4)⟩
    .rintro σ' H3 ⟨rfl,rfl⟩
     refine⟨_,rfl,_,_,rfl,rfl,(by show (0:Int)<999999893;decide),_,rfl,_,_,rfl,rfl,.inl ⟨!2,!2⟩,_,rfl,_,_,rfl,rfl,.inr ib,_,_,rfl,rfl,_,rfl,_,_,rfl,rfl,.inl ⟨!2,!2⟩,_,_,rfl,rfl,_,_,rfl,rfl,_,_,rfl,rfl,.inr ⟨!2,!2⟩,_,_,rfl,rfl,(by show (0:Int)<2147483647;decide),?_⟩;exact⟨_,rfl,_,rfl,_,_,rfl,rfl,.inl ⟨!2,!2⟩,_,_,rfl,rfl,_,_,rfl,rfl,.inr ⟨!2,!2⟩,_,_,rfl,rfl,(by show (0:Int)<2147483399;decide),_,_,rfl,rfl,⟨!2,!2⟩,_,rfl,_,_,rfl,rfl,m0,q _ _ (dw _ (!1)) (c9 _ m0) f3 x3⟩
end
end Odj
namespace L2
open PySem
theorem Ext.put {S:List Addr}{H0 H:Hp}{p:Addr}{o:HO}(a:Ext S H0 H)(h0:H0 p=none):Ext S H0 (fz H p o) :=
 ⟨λb u hb e=>by rw[d6 (λz=>by rw[z,h0] at e;cases e)];exact a.keep b u hb e,λb ys e=>by rw[d6 (λz=>by rw[z,h0] at e;cases e)];exact a.tup b ys e⟩
end L2
namespace Odj
open PySem L2
noncomputable def gG (o:wW):List (Key × V):=o.map λp=>((Sum.inl p.1:Key),V.bl p.2)
theorem yE (o:wW)(k:Int):i8 (gG o) (Sum.inl k)=((o.find? λp=>decide (p.1=k)).map (·.2)).map V.bl:=by
 induction o with
 | nil=>rfl
 | cons p o ih =>
  have e:gG (p::o)=((Sum.inl p.1:Key),V.bl p.2)::gG o:=rfl;by_cases h:p.1=k
  .rw[e,gM (by rw[h]),bK]
   simp[h]
  .rw[e,gN (λz=>h (Sum.inl.inj z)),ih,bK]
   simp[h]
theorem rQ (o:wW)(k:Int):(i8 (gG o) (Sum.inl k)).getD (.bl false)=.bl (iI o k):=by
 rw[yE];unfold iI;cases (o.find? λp=>decide (p.1=k))<;>rfl
theorem Fd {o:wW}(h:(fJ o).Nodup){i:Nat}{p:Int × Bool}(hp:o[i]? = some p):i8 (gG o) (Sum.inl p.1)=some (.bl p.2):=by
 have e:=JP h hp;rw[yE];unfold iI at e
 cases hf:(o.find? λq=>decide (q.1=p.1)) with
 | none =>
  have:=List.find?_eq_none.mp hf p (bG hp);simp at this
 | some q =>
  rw[hf] at e;have e':q.2=p.2:=e;simp[e']
theorem vP (o:wW)(k:Int):kN (gG o) (Sum.inl k) (.bl (!iI o k))=gG (gC o k):=by
 have ha:((gG o).any λkv=>decide (kv.1=Sum.inl k))=o.any λp=>decide (p.1=k):=by
  unfold gG;rw[List.any_map];congr 1;funext p;show decide ((Sum.inl p.1:Key)=Sum.inl k)=decide (p.1=k);by_cases h:p.1=k
  .simp[h]
  .have:¬ (Sum.inl p.1:Key)=Sum.inl k:=λz=>h (Sum.inl.inj z)
   simp[h]
 unfold kN gC;rw[ha];split
 .unfold gG
  rw[bc,bc];apply bL;intro p _;simp only[Function.comp];by_cases h:p.1=k
  .simp[h]
  .have:¬ (Sum.inl p.1:Key)=Sum.inl k:=λz=>h (Sum.inl.inj z)
   simp[h]
 .unfold gG
  rw[aW];rfl
theorem rR (o:wW):(gG o).length=o.length:=by unfold gG;rw[ar]
theorem yF (row:List Int)(k:Int):eQ (row++[k])=gC (eQ row) k:=by
 unfold eQ;rw[List.foldl_append];rfl
noncomputable def MO (row ns:List Int):Prop:=ns.Perm (lQ (eQ row))/\ns.Pairwise (·<=·)
theorem DN (o:wW)(k j:Int):iI (gC o k) j=if j=k then !iI o k else iI o j:=by
 have e:=rQ (gC o k) j;rw[<- vP,Iu] at e;by_cases h:j=k
 .subst h
  rw[if_pos rfl] at e;rw[if_pos rfl];exact (V.bl.inj e).symm
 .rw[if_neg (λz=>h (Sum.inl.inj z)),rQ] at e
  rw[if_neg h];exact (V.bl.inj e).symm
theorem vQ (k:Int):∀(row:List Int) (o:wW),iI (row.foldl gC o) k=(iI o k != decide (row.count k % 2=1))
 | [],o=>by simp
 | x::row,o=>by
  rw[ck,vQ k row,DN,cB];by_cases h:k=x
  .subst h
   rw[if_pos rfl];have h2:=Nat.mod_two_eq_zero_or_one (row.count k);rcases h2 with z | z
   .have e1:(row.count k+if (k == k)=true then 1 else 0) % 2=1:=by simp;omega
    simp only[e1,z];cases iI o k<;>rfl
   .have e1:(row.count k+if (k == k)=true then 1 else 0) % 2=0:=by simp;omega
    simp only[e1,z];cases iI o k<;>rfl
  .rw[if_neg h]
   have e1:(x == k)=false:=by
    rw[beq_eq_false_iff_ne];exact λz=>h z.symm
   simp[e1]
theorem tL (row:List Int)(k:Int):iI (eQ row) k=decide (row.count k % 2=1):=by
 unfold eQ;rw[vQ];have:iI [] k=false:=rfl;rw[this];cases decide (row.count k % 2=1)<;>rfl
theorem vR:∀(row:List Int) (o:wW),(fJ o).Nodup->(fJ (row.foldl gC o)).Nodup
 | [],o,h=>h
 | x::row,o,h=>vR row _ (DK h)
theorem nI (row:List Int):(fJ (eQ row)).Nodup:=vR row [] (by simp[fJ])
theorem vS:∀(row:List Int) (o:wW),(row.foldl gC o).length<=o.length+row.length
 | [],o=>by simp
 | x::row,o=>by
  rw[ck,ak];have:=vS row (gC o x);have:=JN o x;omega
theorem qD (row:List Int):(eQ row).length<=row.length:=by
 have:=vS row [];unfold eQ;simpa using this
theorem MP {o:wW}{k:Int}(h:iI o k=true):k∈fJ o:=by
 unfold iI at h
 cases hf:(o.find? λp=>decide (p.1=k)) with
 | none=>rw[hf] at h;cases h
 | some p=>exact aU.mpr ⟨p,List.mem_of_find?_eq_some hf,by simpa using List.find?_some hf⟩
theorem JQ {o:wW}(hn:(fJ o).Nodup):lQ o=(fJ o).filter (iI o):=by
 unfold lQ fJ;rw[List.filter_map];congr 1;apply List.filter_congr;intro p hp;obtain⟨i,hi⟩:=List.getElem?_of_mem hp;exact (JP hn hi).symm
theorem uQ {row ns:List Int}(h:MO row ns):DL row ns/\ns.length<=row.length:=by
 have hn:=nI row;have ht:=JQ hn;have QN:ns.Nodup:=h.1.symm.nodup (by rw[ht];exact hn.filter _);refine⟨⟨?_,λk=>?_⟩,?_⟩
 .have:=h.2.and QN
  exact this.imp λz=>by
   have h1:=z.1;have h2:=z.2;omega
 .rw[h.1.mem_iff,ht,aJ,tL]
  constructor
  .intro z;exact of_decide_eq_true z.2
  .intro z
   exact⟨MP (by rw[tL];exact decide_eq_true z),decide_eq_true z⟩
 .rw[h.1.length_eq]
  unfold lQ;rw[ar];exact bq (bN _ _) (qD row)
noncomputable def GN:Sp:=λvs H Q _=>∃(a:Addr) (row:List Int),vs=[.ref a]/\(H a=some (.lst (row.map V.int))\/H a=some (.tup (row.map V.int)))/\(eQ row).length<=60/\row.length<=100000 /\
 ∀(ns:List Int) (p:Addr) (H':Hp),DL row ns->ns.length<=row.length->H' p=some (.tup (!21))->Ext [] H H'->Q (.ref p) H'
section
variable {P:bf}{w:World}{K:W.Frag}{mg:Str->Option ah}{base:Heap}{f:Addr}{fd:bE}
theorem BV (F:AX K "odd_ones" "odd_ones" (top 1) f fd)(hm:mg "odd_ones" = some (.ref f))(B:ky mg):eD P w K mg base 1 "odd_ones" ["row"] GN:=by
 refine⟨f,fd,?_,hm,F.kp,F.binds λ_ _ _ _ _ _ us hl=>by obtain⟨_,rfl⟩:=Jp hl;rfl⟩;have sc:gp ["row", "odd", "number"] ["row"] (dM (top 1)):=⟨rfl,rfl,rfl,!3,rfl,!3,!3⟩;(refine F.PN sc (λvs H Q E h=>?_) (λfH A outer s H vs Q E hr h=>?_))
 .obtain⟨a,row,rfl,_⟩:=h
  rfl
 .obtain⟨a,row,rfl,ha,hb,Of,q⟩:=h
  (have hsz:aC=16777216:=by decide);have hu:=Sw hr;rcases ha with ha | ha
  .skip
   refine⟨_,(fO (j8 (i:=1) sc.nd rfl (Or.inr rfl) Ba)
   (fO (C7 PassesOwn.never rfl (Iq K (qv 0)) (rf (i:=2) sc.nd rfl (Or.inl rfl)) (i7 (uE hu (qv 1) (qv 2) (Im (vi hu (qv 1) (qv 2) Ik ⟨rfl,rfl,rfl,rfl⟩)))))
   (i7 (nc (iz (C8 K) (by rfl) B.tuple (!3) (iS (kM (rm K) (by rfl) B.sorted (!3) (iS (zD (N:=["number", "odd"]) (mp:=[none,some 1]) rfl (EC (qv 1)) rfl (by show iR ["row", "odd", "number"] (dM (top 1)) _ _ _=true;decide +kernel) λ_ _ _ _ _=>⟨(rf (i:=0) (by show List.Nodup [("number" : Str),("odd" : Str)];decide +kernel) rfl (Or.inl rfl)),(C6 (C4 (uD hu (qv 1) (qv 0) (λ_ _=>rfl)))),(qv 0)⟩) fN)) fN)))))),?_⟩
   intro d hd;have Xk:a≠d:=gj ha hd
   refine⟨_,rfl,a,rfl,⟨_,gx.of (by rw[d6 Xk];exact ha)⟩,HJ (xs:=row.map V.int) (λi σ' H'=>(∃y,σ'=[some (.ref a),some (.ref d),y])/\H' d=some (.dK (gG (eQ (row.take i))))/\Ext [] H H')
    ⟨⟨none,rfl⟩,dQ,.new hd⟩ (λi σ' H' _ h=>gx.of (h.2.2.keep _ _ (!4) ha)) ?_ ?_⟩
   .rintro i x σ' H' hx ⟨⟨y,rfl⟩,hD,x1⟩
    rw[az] at hx
    cases hk:row[i]? with
    | none=>rw[hk] at hx;cases hx
    | some k =>
     rw[hk] at hx;cases hx;have ol:=qD (row.take i);rw[b8] at ol;refine⟨_,rfl,d,rfl,.inl ⟨_,.inl hD⟩,_,rfl,_,j9.k (k:=Sum.inl k) hD,_,rQ _ _,_,rfl,_,rfl,d,_,rfl,tR.k (k:=Sum.inl k) hD (by rw[rR];omega),⟨_,rfl⟩,?_,x1.put hd⟩;rw[dQ,vP,cO,hk];show _=some (HO.dK (gG (eQ (row.take i++[k]))));rw[yF]
   .rintro σ' H' ⟨⟨y,rfl⟩,hD,x1⟩
    rw[cc (by rw[ar];exact aw _)] at hD;have ol:(eQ row).length<=60/\(fJ (eQ row)).Nodup:=⟨hb,nI row⟩
    refine⟨_,rfl,d,_,rfl,hD,λo=>ye (λi ys σ' H2=>(∃y,σ'=[y,some (.ref d)])/\H2=fz H' d (.xJ o (.dK (gG (eQ row))))/\ys=(((eQ row).take i).filter (·.2)).map λp=>V.int p.1) ⟨⟨none,rfl⟩,rfl,rfl⟩
     (λi ys σ' H2 h=>by rw[h.2.1];exact dQ) ?_ ?_⟩
    .rintro i k v ys σ' H2 GO ⟨⟨y,rfl⟩,rfl,rfl⟩
     unfold gG at GO;rw[az] at GO
     cases hp:(eQ row)[i]? with
     | none=>rw[hp] at GO;cases GO
     | some p =>
      rw[hp] at GO;cases GO
      have hl:((((eQ row).take i).filter (·.2)).map λp=>V.int p.1).length<aC:=by
       rw[ar];have:=bN (·.2) ((eQ row).take i);rw[b8] at this;omega
      refine⟨hl,_,rfl,_,rfl,d,.bl p.2,rfl,.inl ⟨_,Sum.inl p.1,.inr ⟨o,dQ⟩,rfl,(Fd ol.2 hp).symm⟩,_,rfl,?_⟩;have et:(eQ row).take (i+1)=(eQ row).take i++[p]:=by rw[cO,hp];rfl
      cases Qz:p.2 with
      | true=>exact Pr ⟨_,rfl,⟨_,rfl⟩,rfl,by rw[et,cL,aW];simp[cJ,Qz];rfl⟩
      | false=>exact LG ⟨⟨_,rfl⟩,rfl,by rw[et,cL,aW];simp[cJ,Qz]⟩
    .rintro ys σ' H2 ⟨⟨y,rfl⟩,rfl,rfl⟩
     rw[cc (by rw[rR];exact aw _)];have e:((eQ row).filter (·.2)).map (λp=>V.int p.1)=(lQ (eQ row)).map V.int:=by unfold lQ;rw[bc];rfl
     rw[e]
     have hl:(lQ (eQ row)).length<=60:=by
      unfold lQ;rw[ar];have:=bN (·.2) (eQ row);omega
     (refine⟨by rw[ar];omega,λD Xl=>⟨D,lQ (eQ row),rfl,gx.of dQ,!1,λl ms p1 p2 zq=>⟨l,_,rfl,.inl ⟨gx.of dQ,λt ht=>q ms t _ (uQ ⟨p1,p2⟩).1 (uQ ⟨p1,p2⟩).2 dQ ?_⟩⟩⟩⟩);exact (((x1.put hd).trans (.new Xl)).trans (.new zq)).trans (.new ht)
  .skip
   refine⟨_,(fO (j8 (i:=1) sc.nd rfl (Or.inr rfl) Ba)
   (fO (C7 PassesOwn.never rfl (LY K (qv 0)) (rf (i:=2) sc.nd rfl (Or.inl rfl)) (i7 (uE hu (qv 1) (qv 2) (Im (vi hu (qv 1) (qv 2) Ik ⟨rfl,rfl,rfl,rfl⟩)))))
   (i7 (nc (iz (C8 K) (by rfl) B.tuple (!3) (iS (kM (rm K) (by rfl) B.sorted (!3) (iS (zD (N:=["number", "odd"]) (mp:=[none,some 1]) rfl (EC (qv 1)) rfl (by show iR ["row", "odd", "number"] (dM (top 1)) _ _ _=true;decide +kernel) λ_ _ _ _ _=>⟨(rf (i:=0) (by show List.Nodup [("number" : Str),("odd" : Str)];decide +kernel) rfl (Or.inl rfl)),(C6 (C4 (uD hu (qv 1) (qv 0) (λ_ _=>rfl)))),(qv 0)⟩) fN)) fN)))))),?_⟩
   intro d hd;have Xk:a≠d:=gj ha hd
   refine⟨_,rfl,a,rfl,⟨_,jt.of (by rw[d6 Xk];exact ha)⟩,Li (K:=K) (a:=a) (xs:=row.map V.int) (λi σ' H'=>(∃y,σ'=[some (.ref a),some (.ref d),y])/\H' d=some (.dK (gG (eQ (row.take i))))/\Ext [] H H')
    ⟨⟨none,rfl⟩,dQ,.new hd⟩ (λi σ' H' _ h=>jt.of (h.2.2.tup _ _ ha)) ?_ ?_⟩
   .rintro i x σ' H' hx ⟨⟨y,rfl⟩,hD,x1⟩
    rw[az] at hx
    cases hk:row[i]? with
    | none=>rw[hk] at hx;cases hx
    | some k =>
     rw[hk] at hx;cases hx;have ol:=qD (row.take i);rw[b8] at ol;refine⟨_,rfl,d,rfl,.inl ⟨_,.inl hD⟩,_,rfl,_,j9.k (k:=Sum.inl k) hD,_,rQ _ _,_,rfl,_,rfl,d,_,rfl,tR.k (k:=Sum.inl k) hD (by rw[rR];omega),⟨_,rfl⟩,?_,x1.put hd⟩;rw[dQ,vP,cO,hk];show _=some (HO.dK (gG (eQ (row.take i++[k]))));rw[yF]
   .rintro σ' H' ⟨⟨y,rfl⟩,hD,x1⟩
    rw[cc (by rw[ar];exact aw _)] at hD;have ol:(eQ row).length<=60/\(fJ (eQ row)).Nodup:=⟨hb,nI row⟩
    refine⟨_,rfl,d,_,rfl,hD,λo=>ye (λi ys σ' H2=>(∃y,σ'=[y,some (.ref d)])/\H2=fz H' d (.xJ o (.dK (gG (eQ row))))/\ys=(((eQ row).take i).filter (·.2)).map λp=>V.int p.1) ⟨⟨none,rfl⟩,rfl,rfl⟩
     (λi ys σ' H2 h=>by rw[h.2.1];exact dQ) ?_ ?_⟩
    .rintro i k v ys σ' H2 GO ⟨⟨y,rfl⟩,rfl,rfl⟩
     unfold gG at GO;rw[az] at GO
     cases hp:(eQ row)[i]? with
     | none=>rw[hp] at GO;cases GO
     | some p =>
      rw[hp] at GO;cases GO
      have hl:((((eQ row).take i).filter (·.2)).map λp=>V.int p.1).length<aC:=by
       rw[ar];have:=bN (·.2) ((eQ row).take i);rw[b8] at this;omega
      refine⟨hl,_,rfl,_,rfl,d,.bl p.2,rfl,.inl ⟨_,Sum.inl p.1,.inr ⟨o,dQ⟩,rfl,(Fd ol.2 hp).symm⟩,_,rfl,?_⟩;have et:(eQ row).take (i+1)=(eQ row).take i++[p]:=by rw[cO,hp];rfl
      cases Qz:p.2 with
      | true=>exact Pr ⟨_,rfl,⟨_,rfl⟩,rfl,by rw[et,cL,aW];simp[cJ,Qz];rfl⟩
      | false=>exact LG ⟨⟨_,rfl⟩,rfl,by rw[et,cL,aW];simp[cJ,Qz]⟩
    .rintro ys σ' H2 ⟨⟨y,rfl⟩,rfl,rfl⟩
     rw[cc (by rw[rR];exact aw _)];have e:((eQ row).filter (·.2)).map (λp=>V.int p.1)=(lQ (eQ row)).map V.int:=by unfold lQ;rw[bc];rfl
     rw[e]
     have hl:(lQ (eQ row)).length<=60:=by
      unfold lQ;rw[ar];have:=bN (·.2) (eQ row);omega
     (refine⟨by rw[ar];omega,λD Xl=>⟨D,lQ (eQ row),rfl,gx.of dQ,!1,λl ms p1 p2 zq=>⟨l,_,rfl,.inl ⟨gx.of dQ,λt ht=>q ms t _ (uQ ⟨p1,p2⟩).1 (uQ ⟨p1,p2⟩).2 dQ ?_⟩⟩⟩⟩);exact (((x1.put hd).trans (.new Xl)).trans (.new zq)).trans (.new ht)
theorem yG:∀(row:List Int) (o:wW) (k:Int),k∈fJ (row.foldl gC o)->k∈fJ o\/k∈row
 | [],o,k,h=>.inl h
 | x::row,o,k,h=>by
  rcases yG row _ k h with h | h
  .rcases JO h with h | h
   .exact .inr (by rw[h];exact ao ..)
   .exact .inl h
  .exact .inr (ag _ h)
theorem GP (row:List Int)(k:Int)(h:k∈fJ (eQ row)):k∈row:=by
 rcases yG row [] k h with h | h
 .simp[fJ] at h
 .exact h
theorem nJ {S:List Addr}{H:Hp}:∀ns:List Int,dP S H (ns.map .int) (!21)
 | []=>.nil
 | n::ns=>.cons (.int n) (nJ ns)
theorem JR {row ns:List Int}(h:DL row ns):ns=ee row:=by
 refine vN h.1 (jC _) λk=>?_;unfold ee;rw[h.2,fV,aJ];constructor
 .intro z
  exact⟨bR.mp (!1),decide_eq_true z⟩
 .intro z
  exact of_decide_eq_true z.2
theorem yH (row:List Int):(eQ row).length<=(lN row).length:=by
 have h:=gk (nI row) (ns:=lN row) λk hk=>kK.mpr ?_
 .unfold fJ at h
  rwa [ar] at h
 .exact GP row k hk
theorem DO (F:AX K "odd_ones" "odd_ones" (top 1) f fd)(hm:mg "odd_ones" = some (.ref f))(B:ky mg){C:Xc}:eD P w K mg base 1 "odd_ones" ["row"] (mW C gF) :=
 (BV F hm B).imp λvs H Q E ⟨S,ds,n,Qp,Xp,r,has,hF,hq,_⟩=>by
  unfold gF at hF;split at hF
  .rename_i es
   obtain⟨row,e,⟨h1,h2⟩,q⟩:=hF;obtain⟨v,t,rfl,rv,rn⟩:=r.of_cons;cases rn.fI;obtain⟨a,xs,rfl,ha,_,rs⟩:=rv.fA;rw[iA e] at rs;rw[iB rs] at ha;refine⟨a,row,rfl,.inl ha,bq (yH row) h1,h2,λns p H' ho _ hp x=>hq _ _ H' (.tup hp (nJ _)) x ?_⟩;rw[JR ho];exact q
  .rename_i es
   obtain⟨row,e,⟨h1,h2⟩,q⟩:=hF;obtain⟨v,t,rfl,rv,rn⟩:=r.of_cons;cases rn.fI;obtain⟨a,xs,rfl,ha,rs⟩:=rv.fX;rw[iA e] at rs;rw[iB rs] at ha;refine⟨a,row,rfl,.inr ha,bq (yH row) h1,h2,λns p H' ho _ hp x=>hq _ _ H' (.tup hp (nJ _)) x ?_⟩;rw[JR ho];exact q
  .exact hF.elim
end
end Odj
namespace Odj
open PySem PySem.Spec L2
section
variable {P:bf}{w:World}{K:W.Frag}{mg:Str->Option ah}{base:Heap}{f:Addr}{fd:bE}{cl:Str->Addr}{Y:yu}
theorem DP (F:FM K mg "by_turns" (top 3))(B:ky mg)(jJ:qu P w K mg base cl) :
  fx P w K mg base cl :=
 fS qg N2 F λsc f fH A outer s H E n0 S has hr hu =>
 (dO (eR (eh jJ (RM hr) (dG (gJ jT (eG 0) (eG 1)) dF))))
theorem GQ (F:FM K mg "odds_of" (top 4))(B:ky mg)(jJ:qu P w K mg base cl) :
  pA P w K mg base cl :=
 fS sP N3 F λsc f fH A outer s H E n0 S has hr hu =>
 (dW (BL 2 sc.nd (kc dF))
 (dW (mJ PassesOwn.never rfl (NM 1) (jX 3 sc.nd)
 (dO (sH 2 PySem.F.plainAttrs_list PySem.F.slot_list_extend PySem.F.type_list_extend (Jg) (dG (Bp (KE.loose (eI (KE.loose (eI (eG 0) (!10))) (eG 3))) lJ (lK dH)) dF))))
 (dO (eR (zV jJ (RM hr) (fh (eG 2) eK))))))
theorem DQ (F:FM K mg "price_of" (top 5))(B:ky mg) :
  qw P w K mg base cl :=
 fS qh N5 F λsc f fH A outer s H E n0 S has hr hu =>
 (dO (eR (lD (DC rfl) B.sum (fh (KE.loose (KN.data (fU [] (N:=N4) (mp:=[none,some 0]) rfl (iH (eG 1)) rfl (co N5 (dM (top 5))) (λ_ _ _ _ _=>⟨(jX 0 (nd N4)),iE,(eI (KE.loose (eI (KE.loose (eI (eG 1) (!10))) (eG 0))) (!10))⟩) (hfd:=sI)))) eK))))
theorem Ag (F:FM K mg "is_odd_for" (top 6))(B:ky mg) :
  nD P w K mg base cl :=
 fS nj N7 F λsc f fH A outer s H E n0 S has hr hu =>
 (dO (eR (yo (lC hu) (KE.loose (gJ NI (KE.loose (lD vx B.len (fh (KE.loose (KN.data (fU [] (N:=N6) (mp:=[none,some 0]) rfl (iH (eG 1)) rfl (co N7 (dM (top 6))) (λ_ _ _ _ _=>⟨(jX 0 (nd N6)),(jA (eZ (Dr hu) (eG 0) (eG 1))),(eX 0)⟩) (hfd:=sI)))) eK))) (!10))) (!10))))
end
section
variable {P:bf}{w:World}{K:W.Frag}{mg:Str->Option ah}{base:Heap}{f:Addr}{fd:bE}{cl:Str->Addr}{Y:yu}
theorem DR (F:FM K mg "parts_of" (top 7))(B:ky mg)(oZ:oV P w K mg base cl) :
  kZ P w K mg base cl :=
 fS qj N9 F λsc f fH A outer s H E n0 S has hr hu =>
 (dW (fR 1 sc.nd (KN.data (Mm B.list B.range rfl (eI (eG 0) (!10)))) (Or.inr rfl))
 (dW (mJ PassesOwn.never rfl (By (eI (eG 0) (!10))) (jX 2 sc.nd)
 (dW (fR 3 sc.nd (lD (Ja rfl) B.min (fh (KE.loose (eI (eG 1) (KE.loose (eI (eG 2) (!10))))) (fh (KE.loose (eI (eG 1) (KE.loose (eI (eG 2) (!10))))) eK))) (Or.inr rfl))
 (dW (fR 4 sc.nd (lD (Qd rfl) B.max (fh (KE.loose (eI (eG 1) (KE.loose (eI (eG 2) (!10))))) (fh (KE.loose (eI (eG 1) (KE.loose (eI (eG 2) (!10))))) eK))) (Or.inr rfl))
 (dO (fR 1 sc.nd (KN.data (fU [] (N:=YD) (mp:=[none,some 3,some 4]) rfl (iH (eG 1)) rfl (co N9 (dM (top 7))) (λ_ _ _ _ _=>⟨(jX 0 (nd YD)),iE,(sF (eZ (lC hu) (eG 0) (eG 2)) (eX 1) (eX 0))⟩) (hfd:=sI))) (Or.inr rfl))))))
 (dO (eR (p7 ig B.tuple (fh (KE.loose (KN.data (fU [] (N:=N8) (mp:=[none,some 1]) rfl (iH (KE.loose (KN.data (EZ B.sorted B.set rfl (eG 1))))) rfl (co N9 (dM (top 7))) (λ_ _ _ _ _=>⟨(jX 0 (nd N8)),iE,(eh oZ (RM hr) (dG (eX 1) (dG (eX 0) dF)))⟩) (hfd:=sI)))) eK))))))
theorem BW (F:FM K mg "places_of" (top 8))(B:ky mg) :
  oV P w K mg base cl :=
 fS oO YE F λsc f fH A outer s H E n0 S has hr hu =>
 (dO (eR (p7 ig B.tuple (fh (KE.loose (KN.data (fU [] (N:=W9) (mp:=[none,none,some 1]) rfl (Dv B.enumerate (eG 0)) rfl (co YE (dM (top 8))) (λ_ _ _ _ _=>⟨(Mj (n':=2) rfl (nh (jX 1 (nd W9)) (nh (jX 0 (nd W9)) ng)) (Ms [1,0]) rfl),(jA (eZ (lC hu) (eG 0) (eG 2))),(eX 1)⟩) (hfd:=sI)))) eK))))
theorem GR (F:FM K mg "rest_of" (top 10))(B:ky mg) :
  sS P w K mg base cl :=
 fS sQ W' F λsc f fH A outer s H E n0 S has hr hu =>
 (dW (fR 2 sc.nd (p7 ig B.tuple (fh (KE.loose (KN.data (fU [] (N:=YF) (mp:=[none,some 1]) rfl (rE B.range (lD vx B.len (fh (KE.loose (eI (eG 0) (!10))) eK))) rfl (co W' (dM (top 10))) (λ_ _ _ _ _=>⟨(jX 0 (nd YF)),(jA (eZ (ES hu) (eG 0) (eG 1))),(eX 0)⟩) (hfd:=sI)))) eK)))
 (dO (eR (fc (dG (fc (dG (eI (eG 0) (!10)) (dG (p7 ig B.tuple (fh (KE.loose (KN.data (fU [] (N:=N4) (mp:=[none,some 0]) rfl (iH (eG 2)) rfl (co W' (dM (top 10))) (λ_ _ _ _ _=>⟨(jX 0 (nd N4)),iE,(eI (KE.loose (eI (eG 1) (!10))) (eG 0))⟩) (hfd:=sI)))) eK)) dF))) (dG (eX 2) dF))))))
theorem xt (F:FM K mg "forced_rest" (top 11))(B:ky mg)(sU:sS P w K mg base cl)(dS:fx P w K mg base cl)(kL:pA P w K mg base cl) :
  ma P w K mg base cl :=
 fS l4 N15 F λsc f fH A outer s H E n0 S has hr hu =>
 (dO (eR (gJ jT (KE.loose (eh sU (RM hr) (dG (eX 0) (dG (eh dS (RM hr) (dG (eX 2) (dG (eX 3) dF))) dF)))) (KE.loose (fc (dG (eh dS (RM hr) (dG (eX 1) (dG (eh kL (RM hr) (dG (eX 0) (dG (eX 2) dF))) dF))) dF))))))
end
section
variable {P:bf}{w:World}{K:W.Frag}{mg:Str->Option ah}{base:Heap}{f:Addr}{fd:bE}{cl:Str->Addr}{Y:yu}
theorem MQ (F:FM K mg "below" (top 13))(B:ky mg) :
  uP P w K mg base cl :=
 fS Ae Rv F λsc f fH A outer s H E n0 S has hr hu =>
 (dO (eR (p7 ig B.tuple (fh (KE.loose (KN.data (fU [] (N:=Xa) (mp:=[none,none]) rfl (Dv B.enumerate (KE.loose (eI (eG 0) (!10)))) rfl (co Rv (dM (top 13))) (λ_ _ _ _ _=>⟨(Mj (n':=2) rfl (nh (jX 0 (nd Xa)) (nh (jX 1 (nd Xa)) ng)) (Ms [0,1]) rfl),(jA (eZ Ws (KE.loose (eI (eG 1) (!10))) (!10))),(eX 0)⟩) (hfd:=sI)))) eK))))
theorem JS (F:FM K mg "turned" (top 14))(B:ky mg) :
  rP P w K mg base cl :=
 fS vO Rv F λsc f fH A outer s H E n0 S has hr hu =>
 (dO (eR (fc (dG (eI (eG 0) (!10)) (dG (p7 ig B.tuple (fh (KE.loose (KN.data (fU [] (N:=Vf) (mp:=[none,none,none]) rfl (iH (KE.loose (eI (eG 0) (!10)))) rfl (co Rv (dM (top 14))) (λ_ _ _ _ _=>⟨(Mj (n':=3) rfl (nh (jX 1 (nd Vf)) (nh (jX 0 (nd Vf)) (nh (jX 2 (nd Vf)) ng))) (Ms [1,0,2]) rfl),iE,(fc (dG (eX 1) (dG (eX 0) (dG (lD ET B.abs (fh (eG 2) eK)) dF))))⟩) (hfd:=sI)))) eK)) dF)))))
theorem xu (F:FM K mg "turned_told" (top 15))(B:ky mg)(dS:fx P w K mg base cl)(kL:pA P w K mg base cl)(pB:uP P w K mg base cl) :
  jO P w K mg base cl :=
 fS l5 N19 F λsc f fH A outer s H E n0 S has hr hu =>
 (dO (eR (eh dS (RM hr) (dG (eX 1) (dG (eh kL (RM hr) (dG (eX 0) (dG (eh pB (RM hr) (dG (eX 0) dF)) dF))) dF)))))
theorem Ah (F:FM K mg "turned_set" (top 16))(B:ky mg)(dS:fx P w K mg base cl)(pB:uP P w K mg base cl) :
  nE P w K mg base cl :=
 fS nq N5 F λsc f fH A outer s H E n0 S has hr hu =>
 (dO (eR (eh dS (RM hr) (dG (eX 1) (dG (eh pB (RM hr) (dG (eX 0) dF)) dF)))))
end
section
variable {P:bf}{w:World}{K:W.Frag}{mg:Str->Option ah}{base:Heap}{f:Addr}{fd:bE}{cl:Str->Addr}{Y:yu}
theorem BX (F:FM K mg "other_end" (top 18))(B:ky mg) :
  oW P w K mg base cl :=
 fS oQ N20 F λsc f fH A outer s H E n0 S has hr hu =>
 (dO (eR (sF (eZ (lC hu) (KE.loose (eI (eG 0) (!10))) (eG 1)) (eI (eG 0) (!10)) (eI (eG 0) (!10)))))
theorem BY (F:FM K mg "ways_from" (top 20))(B:ky mg)(iP:kl P w K mg base cl) :
  lT P w K mg base cl :=
 fS oR N21 F λsc f fH A outer s H E n0 S has hr hu =>
 (dW (My (i:=2) sc.nd (Or.inl rfl) (eX 1) (fc (dG dH (dG (fc dF) dF))) (hfd:=(nf 2 [])))
 (dW (fR 3 sc.nd (zV iP (RM hr) (fh (eG 0) (fh (eG 2) eK))))
 (dW (EY PassesOwn.never (eZ ER (eG 3) (KE.loose jv))
 (dW (Jw 2 (xp hu) (KE.loose (eI (eG 3) (!10))) (fc (dG (eI (eG 3) (!10)) (dG (eI (eG 3) (!10)) dF))))
 (dO (fR 3 sc.nd (zV iP (RM hr) (fh (eG 0) (fh (eG 2) eK)))))))
 (dO (Dw 2)))))
theorem tY (F:FM K mg "cheapest_step" (top 21))(B:ky mg)(dS:fx P w K mg base cl)(o3:oW P w K mg base cl) :
  kl P w K mg base cl :=
 fS kg N22 F λsc f fH A outer s H E n0 S has hr hu =>
 (dW (BL 2 sc.nd (kc dF))
 (dW (mJ PassesOwn.never rfl (Qf B.enumerate (eI (eG 0) (!10))) (Mj (n':=2) rfl (nh (jX 3 sc.nd) (nh (jX 4 sc.nd) ng)) (Ms [3,4]) rfl)
 (dO (kO (eZ (Me hu) (KE.loose (Ob (xp hu) (KE.loose (eI (eG 4) (!10))) (eG 1))) (KE.loose (Ob (xp hu) (KE.loose (eI (eG 4) (!10))) (eG 1)))) (dW (fR 5 sc.nd (sF (JA (xp hu) (KE.loose (eI (eG 4) (!10))) (eG 1)) (eI (eG 4) (!10)) (eI (eG 4) (!10))))
 (dO (sH 2 PySem.F.plainAttrs_list PySem.F.slot_list_append PySem.F.type_list_append (oK) (dG (fc (dG (gJ jT (KE.loose (eI (KE.loose (Ac (xp hu) (eG 1) (eG 5))) (!10))) (KE.loose (eI (eG 4) (!10)))) (dG (eh o3 (RM hr) (dG (eX 4) (dG (eX 5) dF))) (dG (eh dS (RM hr) (dG (eI (KE.loose (Ac (xp hu) (eG 1) (eG 5))) (!10)) (dG (fc (dG (eX 3) dF)) dF))) dF)))) dF)))) fE)))
 (dO (eR (Qs rfl hu (eG 2) B.min)))))
theorem xv (F:FM K mg "way_between" (top 22))(B:ky mg)(iZ:lT P w K mg base cl) :
  me P w K mg base cl :=
 fS l6 N23 F λsc f fH A outer s H E n0 S has hr hu =>
 (dW (fR 3 sc.nd (eh iZ (RM hr) (dG (eX 0) (dG (eX 1) dF))))
 (dO (eR (sF (JA (xp hu) (eG 2) (eG 3)) (eI (KE.loose (Ac (xp hu) (eG 3) (eG 2))) (!10)) jv))))
end
section
variable {P:bf}{w:World}{K:W.Frag}{mg:Str->Option ah}{base:Heap}{f:Addr}{fd:bE}{cl:Str->Addr}{Y:yu}
theorem vT (F:FM K mg "heights_from" (top 23))(B:ky mg)(iZ:lT P w K mg base cl) :
  k8 P w K mg base cl :=
 fS kT YH F λsc f fH A outer s H E n0 S has hr hu =>
 (dW (fR 2 sc.nd (eh iZ (RM hr) (dG (eX 0) (dG (eX 1) dF))) (Or.inr rfl))
 (dO (eR (p7 ig B.tuple (fh (KE.loose (KN.data (fU [] (N:=YG) (mp:=[none,some 2]) rfl (rE B.range (eI (eG 0) (!10))) rfl (co YH (dM (top 23))) (λ_ _ _ _ _=>⟨(jX 0 (nd YG)),iE,(sF (JA (xp hu) (eG 0) (eG 1)) (eI (KE.loose (Ac (xp hu) (eG 1) (eG 0))) (!10)) jv)⟩) (hfd:=sI)))) eK)))))
theorem xw (F:FM K mg "all_heights" (top 25))(B:ky mg)(lj:k8 P w K mg base cl) :
  jP P w K mg base cl :=
 fS l7 Rv F λsc f fH A outer s H E n0 S has hr hu =>
 (dO (eR (KN.data (fU [] (N:=YI) (mp:=[none,some 0]) rfl (rE B.range (eI (eG 0) (!10))) rfl (co Rv (dM (top 25))) (λ_ _ _ _ _=>⟨(jX 0 (nd YI)),iE,(eh lj (RM hr) (dG (eX 1) (dG (eX 0) dF)))⟩) (hfd:=sI)))))
theorem tZ {kk:Nat}(Rc:lZ->UF)(Gj:2<=kk)(F:FM K mg "pairing_price" (top 26))(B:ky mg)(dS:fx P w K mg base cl)(gQ:eD P w K mg base kk "partner_offers" ["heights", "told", "known"] (K1 Rc)):eD P w K mg base (kk+1) "pairing_price" ["heights", "told", "known"] (K1 (ki Rc)) :=
 T8 (C:=XC λ_=>0) (λY=>kh Y Rc) N27 F λsc f fH A outer s H E Y a n0 S hk hS has hr hu =>
 (JF 2 1 (xp hu) (fR 3 sc.nd (pq 2 gQ (hr.mono (!1)) (eX 0) (eX 1))) (sF (eZ IY (KE.loose (lD vx B.len (fh (eG 3) eK))) (!10)) (eI (KE.loose (lD (z7 rfl hu) B.min (fh (eG 3) eK))) (!10)) jv) rfl rfl rfl (ap.mpr rfl))
theorem mO {kk:Nat}(Rc:lZ->UF)(Gj:2<=kk)(F:FM K mg "partner_offers" (top 27))(B:ky mg)(dS:fx P w K mg base cl)(eV:eD P w K mg base kk "pairing_price" ["heights", "told", "known"] (K1 Rc)):eD P w K mg base (kk+1) "partner_offers" ["heights", "told", "known"] (K1 (gO Rc)) :=
 T8 (C:=XC λ_=>0) (λY=>jD Y Rc) N28 F λsc f fH A outer s H E Y a n0 S hk hS has hr hu =>
 (dW (fR 3 sc.nd (eI (eG 1) (!10)))
 (dW (BL 4 sc.nd (kc dF))
 (dW (mJ PassesOwn.never rfl (By (Bp (eG 1) (lK dH) lJ)) (jX 5 sc.nd)
 (dW (fR 6 sc.nd (pq 2 eV (hr.mono (!1)) (eX 0) (eh dS (hr.mono (!1)) (dG (eX 1) (dG (fc (dG (eX 3) (dG (eX 5) dF))) dF)))))
 (dO (kO (KW.kb (w_and (eZ ER (KE.loose (eI (KE.loose (eI (eG 0) (eG 3))) (eG 5))) (KE.loose jv)) (IV (eZ ER (eG 6) (KE.loose jv))))) (dO (sH 4 PySem.F.plainAttrs_list PySem.F.slot_list_append PySem.F.type_list_append (oK) (dG (fc (dG (gJ jT (KE.loose (eI (KE.loose (eI (eG 0) (eG 3))) (eG 5))) (eG 6)) (dG (eX 5) dF))) dF))) fE))))
 (dO (Dw 4)))))
theorem mP (F:FM K mg "pairing_price" (top 26))(F2:FM K mg "partner_offers" (top 27))(B:ky mg)(dS:fx P w K mg base cl):∀d:Nat,eD P w K mg base (2+2 * d) "pairing_price" ["heights", "told", "known"] (K1 (gP d))
 | 0=>T9 F
 | d+1=>tZ (kk:=2+2 * d+1) _ (!1) F B dS (mO (kk:=2+2 * d) _ (!1) F2 B dS (mP F F2 B dS d))
theorem uf (F:FM K mg "pairing_price" (top 26))(F2:FM K mg "partner_offers" (top 27))(B:ky mg)(dS:fx P w K mg base cl):gZ P w K mg base  := mP F F2 B dS 5
theorem sV (F:FM K mg "partner_offers" (top 27))(B:ky mg)(dS:fx P w K mg base cl)(eV:gZ P w K mg base ):jH P w K mg base  := mO _ (!2) F B dS eV
theorem xy (F:FM K mg "least_pairs" (top 28))(B:ky mg)(dS:fx P w K mg base cl)(gQ:jH P w K mg base )(eV:gZ P w K mg base )(g8:jP P w K mg base cl) :
  mf P w K mg base cl :=
 fS l8 N29 F λsc f fH A outer s H E n0 S has hr hu =>
 (dW (fR 2 sc.nd (eh g8 (RM hr) (dG (eX 0) dF)))
 (yC (i:=3) (xp hu) sc.nd (Or.inl rfl) (fc dF) dH λY a1 S1 H1 hk1 P4 WY =>
 (dW (kO (eZ Gr (KE.loose (pq 3 eV (RM hr) (eX 2) (eX 1))) (KE.loose jv)) (dO (eR jv)) fE)
 (dW (BL 4 sc.nd (kc dF))
 (dW (fR 5 sc.nd (eX 1))
 (dW (EY PassesOwn.never (eZ (Me hu) (eG 5) (KE.loose (fc dF)))
 (dW (fR 6 sc.nd (fc (dG (eI (eG 5) (!10)) (dG (eI (KE.loose (lD (z7 rfl hu) B.min (fh (KE.loose (pq 3 gQ (RM hr) (eX 2) (eX 5))) eK))) (!10)) dF))))
 (dW (sH 4 PySem.F.plainAttrs_list PySem.F.slot_list_append PySem.F.type_list_append (oK) (dG (eX 6) dF))
 (dO (fR 5 sc.nd (eh dS (RM hr) (dG (eX 5) (dG (eX 6) dF))))))))
 (dO (eR (p7 ig B.tuple (fh (eG 4) eK))))))))))
end
section
variable {P:bf}{w:World}{K:W.Frag}{mg:Str->Option ah}{base:Heap}{f:Addr}{fd:bE}{cl:Str->Addr}{Y:yu}
theorem Ai (F:FM K mg "least_join" (top 29))(B:ky mg)(nK:nE P w K mg base cl)(dS:fx P w K mg base cl)(mh:me P w K mg base cl)(mn:mf P w K mg base cl)(g9:jO P w K mg base cl)(mQ:rP P w K mg base cl) :
  nF P w K mg base cl :=
 fS nu N30 F λsc f fH A outer s H E n0 S has hr hu =>
 (dW (fR 2 sc.nd (eh mQ (RM hr) (dG (eX 0) dF)))
 (dW (fR 3 sc.nd (eh mn (RM hr) (dG (eX 2) (dG (eh g9 (RM hr) (dG (eX 0) (dG (eX 1) dF))) dF))))
 (dW (kO (eZ Gr (eG 3) (KE.loose jv)) (dO (eR jv)) fE)
 (dW (fR 4 sc.nd (fc dF))
 (dW (mJ PassesOwn.never rfl (NM 3) (jX 5 sc.nd)
 (dO (fR 4 sc.nd (eh dS (RM hr) (dG (eX 4) (dG (eh mh (RM hr) (dG (eX 2) (dG (eI (eG 5) (!10)) (dG (eI (eG 5) (!10)) dF)))) dF))))))
 (dO (eR (eh nK (RM hr) (dG (eX 0) (dG (eX 4) dF))))))))))
theorem Aj (F:FM K mg "join_paper" (top 32))(B:ky mg)(ji:∃t,mg "HALVES" = some (.int 2 t))(nL:nH P w K mg base cl)(g9:jO P w K mg base cl)(mQ:rP P w K mg base cl)(gH:kZ P w K mg base cl)(nM:nD P w K mg base cl)(nN:nF P w K mg base cl) :
  nG P w K mg base cl :=
 fS ny YK F λsc f fH A outer s H E n0 S has hr hu =>
 (dW (fR 2 sc.nd (eh nN (RM hr) (dG (eX 0) (dG (eX 1) dF))))
 (dW (kO (eZ Gr (eG 2) (KE.loose jv)) (dO (eR (fc (dG gY (dG (eI (KE.loose (KN.data (fU [] (N:=YJ) (mp:=[none,some 1]) rfl (iH (KE.loose (eh gH (RM hr) (dG (eX 0) dF)))) rfl (co YK (dM (top 32))) (λ_ _ _ _ _=>⟨(jX 0 (nd YJ)),(jA (IS (eh nM (RM hr) (dG (eX 1) (dG (eX 0) dF))))),(eX 0)⟩) (hfd:=sI)))) (!10)) dF))))) fE)
 (dO (eR (fc (dG gY (dG (eX 2) (dG (P7 ji) (dG (eh nL (RM hr) (dG (eh mQ (RM hr) (dG (eX 0) dF)) (dG (eh g9 (RM hr) (dG (eX 0) (dG (eX 1) dF))) dF))) dF)))))))))
theorem Ak (F:FM K mg "share_rows" (top 33))(B:ky mg)(ji:∃t,mg "HALVES" = some (.int 2 t))(qE:qx P w K mg base cl)(lp:k9 P w K mg base cl) :
  nH P w K mg base cl :=
 fS nv Xb F λsc f fH A outer s H E n0 S has hr hu =>
 (dW (fR 2 sc.nd (eh lp (RM hr) (dG (eX 0) (dG (eX 1) dF))) (Or.inr rfl))
 (dW (zU (i:=3) false [] sc.nd (N:=YM) (mp:=[none,some 2]) rfl (iH (KE.loose (eI (eG 0) (!10)))) rfl (co Xb (dM (top 33))) (λ_ _ _ _ _=>⟨(jX 0 (nd YM)),iE,(gJ jT (KE.loose (gJ jT (KE.loose (eI (eG 1) (KE.loose (eI (eG 0) (!10))))) (KE.loose (eI (eG 1) (KE.loose (eI (eG 0) (!10))))))) (KE.loose (eI (eG 0) (!10))))⟩) (hfd:=sI) (hfi:=(nf 3 [])))
 (dW (fR 4 sc.nd (KN.data (EZ B.sorted B.set rfl (KE.loose (gJ jT (KE.loose (KN.data (fU [] (N:=YL) (mp:=[none]) rfl (iH (eG 2)) rfl (co Xb (dM (top 33))) (λ_ _ _ _ _=>⟨(jX 0 (nd YL)),iE,(gJ yq (KE.loose (P7 ji)) (eG 0))⟩) (hfd:=sI)))) (eG 3))))))
 (dW (Mv (i:=5) sc.nd (Or.inl rfl) (hfd:=(nf 5 [])))
 (dW (mJ PassesOwn.never rfl (Uh B.zip (eX 4) (Bp (eG 4) (lK dH) lJ)) (Mj (n':=2) rfl (nh (jX 6 sc.nd) (nh (jX 7 sc.nd) ng)) (Ms [6,7]) rfl)
 (dO (mJ PassesOwn.never rfl (By (eh qE (RM hr) (dG (eX 0) (dG (eX 2) (dG (eX 3) (dG (eX 6) dF)))))) (jX 8 sc.nd)
 (dO (Jw 5 (xp hu) (eG 8) (gJ n8 (KE.loose (gJ jT (KE.loose (Mx 5 (xp hu) (eX 8) dH ⟨rfl,rfl,rfl,rfl⟩)) (eG 7))) (eG 6)))))))
 (dO (eR (MN 5 B.tuple rfl))))))))
theorem vU (F:FM K mg "join_heights" (top 34))(B:ky mg)(gH:kZ P w K mg base cl)(eV:gZ P w K mg base )(dS:fx P w K mg base cl)(g8:jP P w K mg base cl) :
  k9 P w K mg base cl :=
 fS kU N36 F λsc f fH A outer s H E n0 S has hr hu =>
 (dW (fR 2 sc.nd (eh g8 (RM hr) (dG (eX 0) dF)))
 (yC (i:=3) (xp hu) sc.nd (Or.inl rfl) (fc dF) dH λY a1 S1 H1 hk1 P4 WY =>
 (dW (fR 4 sc.nd (pq 3 eV (RM hr) (eX 2) (eX 1)))
 (dW (BL 5 sc.nd (TM (KE.loose (KN.data (kc (dG dH dF)))) (KE.loose (eI (eG 0) (!10)))))
 (dW (mJ PassesOwn.never rfl (By (eh gH (RM hr) (dG (eX 0) dF))) (jX 6 sc.nd)
 (dO (mJ PassesOwn.never rfl (By (Bp (eG 6) (lK dH) lJ)) (jX 7 sc.nd)
 (dO (Dy 5 (eX 7) (gJ n8 (KE.loose (pq 3 eV (RM hr) (eX 2) (eh dS (RM hr) (dG (eX 1) (dG (fc (dG (eI (eG 6) (!10)) (dG (eX 7) dF))) dF))))) (eG 4)))))))
 (dO (Dw 5)))))))
end
section
variable {P:bf}{w:World}{K:W.Frag}{mg:Str->Option ah}{base:Heap}{f:Addr}{fd:bE}{cl:Str->Addr}{Y:yu}
theorem DS (F:FM K mg "pools_at" (top 35))(B:ky mg)(ji:∃t,mg "HALVES" = some (.int 2 t))(gH:kZ P w K mg base cl) :
  qx P w K mg base cl :=
 fS qk Um F λsc f fH A outer s H E n0 S has hr hu =>
 (dW (fR 4 sc.nd (fc (dG (eI (eG 0) (!10)) (dG (p7 ig B.tuple (fh (KE.loose (KN.data (fU [] (N:=Xe) (mp:=[none,none,some 3,some 2]) rfl (Dv B.enumerate (KE.loose (eI (eG 0) (!10)))) rfl (co Um (dM (top 35))) (λ_ _ _ _ _=>⟨(Mj (n':=2) rfl (nh (jX 0 (nd Xe)) (nh (jX 1 (nd Xe)) ng)) (Ms [0,1]) rfl),(jA (eZ Tr (KE.loose (eI (eG 3) (eG 0))) (eG 2))),(eX 1)⟩) (hfd:=sI)))) eK)) dF))))
 (dW (fR 5 sc.nd (KN.data (fU [] (N:=YQ) (mp:=[none]) rfl (iH (KE.loose (eh gH (RM hr) (dG (eX 0) dF)))) rfl (co Um (dM (top 35))) (λ_ _ _ _ _=>⟨(jX 0 (nd YQ)),iE,(eI (eG 0) (!10))⟩) (hfd:=sI))) (Or.inr rfl))
 (dW (zU (i:=6) false [] sc.nd (N:=YO) (mp:=[none,some 3,some 1]) rfl (iH (KE.loose (eh gH (RM hr) (dG (eX 4) dF)))) rfl (co Um (dM (top 35))) (λ_ _ _ _ _=>⟨(jX 0 (nd YO)),(jA (eZ Tr (KE.loose (gJ yq (KE.loose (P7 ji)) (KE.loose (eI (eG 2) (KE.loose (eI (eG 0) (!10))))))) (eG 1))),(eX 0)⟩) (hfd:=sI) (hfi:=(nf 6 [])))
 (dO (eR (KN.data (fU [] (N:=Xd) (mp:=[none,some 5]) rfl (iH (eG 6)) rfl (co Um (dM (top 35))) (λ_ _ _ _ _=>⟨(jX 0 (nd Xd) (Or.inr rfl)),(jA (NH (IS (lD (Ul rfl) B.any (fh (KE.loose (KN.data (fU [] (N:=YN) (mp:=[none,some 0]) rfl (iH (eG 1)) rfl (NW (co Xd _)) (λ_ _ _ _ _=>⟨(jX 0 (nd YN)),iE,(yo (Dr hu) (eG 0) (eG 1))⟩) (hfd:=sI)))) eK))))),(eX 0)⟩) (hfd:=sI))))))))
theorem vV (F:FM K mg "forced_paper" (top 37))(B:ky mg)(dS:fx P w K mg base cl)(nO:nG P w K mg base cl)(mq:ma P w K mg base cl) :
  lg P w K mg base cl :=
 fS kW YS F λsc f fH A outer s H E n0 S has hr hu =>
 (dW (fR 4 sc.nd (eh mq (RM hr) (dG (eX 0) (dG (eX 1) (dG (eX 2) (dG (eX 3) dF))))) (Or.inr rfl))
 (dW (fR 5 sc.nd (eh nO (RM hr) (dG (eI (eG 4) (!10)) (dG (eI (eG 4) (!10)) dF))))
 (dW (kO (eZ (lC hu) (KE.loose (eI (eG 5) (!10))) (KE.loose gY)) (dO (eR (eX 5))) fE)
 (dO (eR (fc (dG gY (dG (eh dS (RM hr) (dG (eX 2) (dG (p7 ig B.tuple (fh (KE.loose (KN.data (fU [] (N:=YR) (mp:=[none,some 4]) rfl (iH (KE.loose (eI (eG 5) (!10)))) rfl (co YS (dM (top 37))) (λ_ _ _ _ _=>⟨(jX 0 (nd YR)),iE,(eI (KE.loose (eI (eG 1) (!10))) (eG 0))⟩) (hfd:=sI)))) eK)) dF))) (dG (eI (eG 5) (!10)) (dG (eI (eG 5) (!10)) dF))))))))))
theorem DT (F:FM K mg "tie_word" (top 39))(B:ky mg)(hU:jQ P w K mg base cl) :
  qy P w K mg base cl :=
 fS ql N45 F λsc f fH A outer s H E n0 S has hr hu =>
 (dW (kO (eZ (lC hu) (KE.loose (eI (eG 1) (!10))) (KE.loose gY)) (dO (eR (sF (eZ (lC hu) (KE.loose (eI (eG 2) (!10))) (KE.loose gY)) gY gY))) fE)
 (dW (fR 3 sc.nd (eh hU (RM hr) (dG (eX 0) (dG (eX 1) (dG (eX 2) dF)))))
 (dW (kO (eZ (lC hu) (eG 3) (!10)) (dO (eR gY)) fE)
 (dO (eR (sF (KW.kb (w_or (eZ Gr (eG 3) (KE.loose jv)) (EO (eZ IY (eG 3) (!10))))) gY gY))))))
theorem xA (F:FM K mg "extra_price" (top 40))(B:ky mg)(nP:qw P w K mg base cl) :
  jQ P w K mg base cl :=
 fS l9 N46 F λsc f fH A outer s H E n0 S has hr hu =>
 (dW (kO (KW.kb (w_or (eZ (lC hu) (KE.loose (eI (eG 1) (!10))) (KE.loose gY)) (EO (eZ (lC hu) (KE.loose (eI (eG 2) (!10))) (KE.loose gY))))) (dO (eR jv)) fE)
 (dO (eR (gJ n8 (KE.loose (eh nP (RM hr) (dG (eX 0) (dG (eI (eG 2) (!10)) dF)))) (KE.loose (eh nP (RM hr) (dG (eX 0) (dG (eI (eG 1) (!10)) dF))))))))
end
section
variable {P:bf}{w:World}{K:W.Frag}{mg:Str->Option ah}{base:Heap}{f:Addr}{fd:bE}{cl:Str->Addr}{Y:yu}
theorem BZ (F:FM K mg "tie_paper" (top 42))(B:ky mg)(qF:qy P w K mg base cl)(jj:lg P w K mg base cl) :
  lU P w K mg base cl :=
 fS oS N47 F λsc f fH A outer s H E n0 S has hr hu =>
 (dW (fR 3 sc.nd (eh jj (RM hr) (dG (eX 0) (dG (eX 1) (dG (fc (dG (eX 2) dF)) (dG (fc dF) dF))))))
 (dW (fR 4 sc.nd (eh jj (RM hr) (dG (eX 0) (dG (eX 1) (dG (fc dF) (dG (fc (dG (eX 2) dF)) dF))))))
 (dO (eR (fc (dG (eh qF (RM hr) (dG (eX 0) (dG (eX 3) (dG (eX 4) dF)))) (dG (eX 3) (dG (eX 4) dF))))))))
theorem DU (F:FM K mg "slack_of" (top 43))(B:ky mg)(hU:jQ P w K mg base cl) :
  qz P w K mg base cl :=
 fS qm N48 F λsc f fH A outer s H E n0 S has hr hu =>
 (dW (fR 2 sc.nd (eh hU (RM hr) (dG (eX 0) (dG (eI (eG 1) (!10)) (dG (eI (eG 1) (!10)) dF)))))
 (dO (eR (sF (eZ Gr (eG 2) (KE.loose jv)) jv (lD ET B.abs (fh (eG 2) eK))))))
theorem B0 (F:FM K mg "_law_price" (top 47))(B:ky mg)(eA:iT P w K mg base Y) :
  oX P w K mg base Y :=
 BN (C:=XC λ_=>0) oT N49 F λsc f fH A outer s H E fa sa n0 S hf hS has hr hu =>
 (dW (kO (eZ (lC hu) (eG 1) (!10)) (dO (eR (fF 0 eA (RM hr) (dG dH dF) (hfd:=(!30))))) fE)
 (dW (kO (eZ (lC hu) (eG 1) (!10)) (dO (eR (gJ n8 (KE.loose (fF 0 eA (RM hr) (dG dH dF) (hfd:=(!30)))) (!10)))) fE)
 (dW (kO (eZ (lC hu) (eG 1) (!10)) (dO (eR (gJ n8 (KE.loose (fF 0 eA (RM hr) (dG dH dF) (hfd:=(!30)))) (!10)))) fE)
 (dO (eR (eI (KE.loose (KN.data (kc (dG (IW dH) (dG dH (dG dH (dG dH (dG dH dF)))))))) (KE.loose (fF 0 eA (RM hr) (dG dH dF) (hfd:=(!30))))))))))
theorem GS (F:FM K mg "_law_web" (top 48))(B:ky mg)(eA:iT P w K mg base Y)(lV:oX P w K mg base Y) :
  sT P w K mg base Y :=
 BN (C:=XC λ_=>0) sR N50 F λsc f fH A outer s H E fa sa n0 S hf hS has hr hu =>
 (dW (fR 3 sc.nd (lD (Ja rfl) B.min (fh (eG 1) (fh (KE.loose (eI (KE.loose (KN.data (kc (dG dH (dG dH (dG dH (dG dH (dG dH (dG dH (dG dH (dG dH dF))))))))))) (KE.loose (fF 0 eA (RM hr) (dG dH dF) (hfd:=(!30)))))) eK))))
 (dW (fR 4 sc.nd (fF 0 eA (RM hr) (dG dH dF) (hfd:=(!30))))
 (EX (fR 5 sc.nd (sF (eZ (lC hu) (KE.loose (fF 0 eA (RM hr) (dG dH dF) (hfd:=(!30)))) (!10)) (eX 2) (fF 0 eA (RM hr) (dG (gJ jT (eG 2) (!10)) dF) (hfd:=(!30)))))
 (dW (BL 6 sc.nd (kc dF))
 (dW (mJ PassesOwn.never rfl (uI B.range (gJ yq (eG 5) (KE.loose (p7 Tu B.int (fh (KE.loose (yo IY (eG 3) (!10))) eK))))) (jX 7 sc.nd)
 (dW (fR 8 sc.nd (fF 0 eA (RM hr) (dG (gJ n8 (eG 3) (!10)) dF) (hfd:=(!30))))
 (dO (sH 6 PySem.F.plainAttrs_list PySem.F.slot_list_append PySem.F.type_list_append (oK) (dG (fc (dG (eX 8) (dG (gJ jT (KE.loose (gJ jT (eG 8) (!10))) (KE.loose (fF 0 eA (RM hr) (dG (gJ n8 (KE.loose (gJ n8 (eG 3) (!10))) (eG 8)) dF) (hfd:=(!30))))) (dG (fF 0 lV (RM hr) (dG (eX 4) dF) (hfd:=(!30))) dF)))) dF)))))
 (EX (kO (KW.kb (w_and (eZ (Me hu) (eG 6) (KE.loose (KN.data (kc dF)))) (IV (eZ (lC hu) (KE.loose (fF 0 eA (RM hr) (dG dH dF) (hfd:=(!30)))) (!10))))) (dO (Dy 6 (IW dH) (gJ jT (KE.loose (Bp (KE.loose (eI (eG 6) (!10))) lJ (lK dH))) (KE.loose (fc (dG (fF 0 lV (RM hr) (dG (eX 4) dF) (hfd:=(!30))) dF)))))) fE)
 (dO (eR (fc (dG (eX 3) (dG (p7 ig B.tuple (fh (eG 6) eK)) dF)))))))))))
end
section
variable {P:bf}{w:World}{K:W.Frag}{mg:Str->Option ah}{base:Heap}{f:Addr}{fd:bE}{cl:Str->Addr}{Y:yu}
theorem DV (F:FM K mg "_law_odds" (top 49))(B:ky mg) :
  qA P w K mg base cl :=
 fS qo YU F λsc f fH A outer s H E n0 S has hr hu =>
 (dW (BL 2 sc.nd (kc dF))
 (dW (mJ PassesOwn.never rfl (uI B.range (eI (eG 0) (!10))) (jX 3 sc.nd (Or.inr rfl))
 (dO (kO (eZ (lC hu) (KE.loose (gJ NI (KE.loose (lD vx B.len (fh (KE.loose (KN.data (fU [] (N:=YT) (mp:=[none,some 3,some 0]) rfl (iH (eG 1)) rfl (co YU (dM (top 49))) (λ_ _ _ _ _=>⟨(jX 0 (nd YT)),(jA (eZ (Dr hu) (eG 1) (KE.loose (Bp (KE.loose (eI (KE.loose (eI (eG 2) (!10))) (eG 0))) lJ (lK dH))))),(eX 0)⟩) (hfd:=sI)))) eK))) (!10))) (!10)) (dO (sH 2 PySem.F.plainAttrs_list PySem.F.slot_list_append PySem.F.type_list_append (oK) (dG (eX 3) dF))) fE)))
 (dO (eR (p7 ig B.tuple (fh (eG 2) eK))))))
theorem DW (F:FM K mg "_law_cost" (top 50))(B:ky mg) :
  qB P w K mg base cl :=
 fS qp YW F λsc f fH A outer s H E n0 S has hr hu =>
 (dO (eR (lD (DC rfl) B.sum (fh (KE.loose (KN.data (fU [] (N:=YV) (mp:=[none,some 0]) rfl (iH (eG 1)) rfl (co YW (dM (top 50))) (λ_ _ _ _ _=>⟨(jX 0 (nd YV)),iE,(eI (KE.loose (eI (KE.loose (eI (eG 1) (!10))) (eG 0))) (!10))⟩) (hfd:=sI)))) eK))))
theorem DX (F:FM K mg "_law_told" (top 51))(B:ky mg)(eA:iT P w K mg base Y)(qG:qA P w K mg base cl) :
  qC P w K mg base Y :=
 BN (C:=XC λ_=>0) qt Xf F λsc f fH A outer s H E fa sa n0 S hf hS has hr hu =>
 (dW (zU (i:=2) false [1] sc.nd (N:=YY) (mp:=[none,some 0]) rfl (rE B.range (lD vx B.len (fh (KE.loose (eI (eG 1) (!10))) eK))) rfl (co Xf (dM (top 51))) (λ_ _ _ _ _=>⟨(jX 0 (nd YY)),(jA (eZ (lC hu) (KE.loose (fF 1 eA (RM hr) (dG dH dF) (hfd:=(by decide:1∈[1])))) (!10))),(eX 0)⟩) (hfd:=(Yo (i:=0) rfl)) (hfi:=(nf 2 [0])))
 (dW (kO (eZ IY (KE.loose (fF 0 eA (RM hr) (dG dH dF) (hfd:=(!30)))) (!10)) (dO (eR (eh qG (RM hr) (dG (eX 1) (dG (eX 2) dF))))) fE)
 (dO (eR (p7 ig B.tuple (fh (KE.loose (KN.data (fU [1] (N:=YX) (mp:=[none,some 0]) rfl (rE B.range (eI (eG 1) (!10))) rfl (co Xf (dM (top 51))) (λ_ _ _ _ _=>⟨(jX 0 (nd YX)),(jA (eZ (lC hu) (KE.loose (fF 1 eA (RM hr) (dG dH dF) (hfd:=(by decide:1∈[1])))) (!10))),(eX 0)⟩) (hfd:=(Yo (i:=0) rfl))))) eK))))))
theorem B1 (F:FM K mg "_law_joins" (top 52))(B:ky mg) :
  oY P w K mg base cl :=
 fS oU Vg F λsc f fH A outer s H E n0 S has hr hu =>
 (dW (fR 2 sc.nd (KN.data (kc (dG (fc (dG (fc dF) (dG dH dF))) dF))))
 (dW (mJ PassesOwn.never rfl (uI B.range (lD vx B.len (fh (KE.loose (eI (eG 0) (!10))) eK))) (jX 3 sc.nd (Or.inr rfl))
 (dW (TH (Bp (KE.loose (eI (KE.loose (eI (eG 0) (!10))) (eG 3))) lJ (lK dH)) (Mj (n':=2) rfl (nh (jX 4 sc.nd (Or.inr rfl)) (nh (jX 5 sc.nd (Or.inr rfl)) ng)) (Ms [4,5]) rfl))
 (dO (fR 2 sc.nd (gJ jT (eG 2) (KE.loose (KN.data (fU [] (N:=Xh) (mp:=[none,none,some 3,some 5,some 4]) rfl (iH (eG 2)) rfl (co Vg (dM (top 52))) (λ_ _ _ _ _=>⟨(Mj (n':=2) rfl (nh (jX 1 (nd Xh)) (nh (jX 0 (nd Xh)) ng)) (Ms [1,0]) rfl),iE,(fc (dG (gJ jT (eG 1) (KE.loose (fc (dG (eX 2) dF)))) (dG (gJ NQ (KE.loose (gJ NQ (eG 0) (KE.loose (gJ IZ (!10) (eG 4))))) (KE.loose (gJ IZ (!10) (eG 3)))) dF)))⟩) (hfd:=sI)))))))))
 (dW (fR 6 sc.nd (lD (DC rfl) B.sum (fh (KE.loose (KN.data (fU [] (N:=YZ) (mp:=[none]) rfl (iH (eG 1)) rfl (co Vg (dM (top 52))) (λ_ _ _ _ _=>⟨(jX 0 (nd YZ)),iE,(gJ IZ (!10) (eG 0))⟩) (hfd:=sI)))) eK)) (Or.inr rfl))
 (dO (eR (KN.data (fU [] (N:=Xg) (mp:=[none,none,some 6]) rfl (iH (eG 2)) rfl (co Vg (dM (top 52))) (λ_ _ _ _ _=>⟨(Mj (n':=2) rfl (nh (jX 1 (nd Xg)) (nh (jX 0 (nd Xg)) ng)) (Ms [1,0]) rfl),(jA (eZ (lC hu) (eG 0) (eG 2))),(eX 1)⟩) (hfd:=sI))))))))
end
section
variable {P:bf}{w:World}{K:W.Frag}{mg:Str->Option ah}{base:Heap}{f:Addr}{fd:bE}{cl:Str->Addr}{Y:yu}
theorem vW (F:FM K mg "_law_web_with" (top 53))(B:ky mg)(eA:iT P w K mg base Y)(sW:sT P w K mg base Y) :
  lh P w K mg base Y :=
 BN (C:=XC λ_=>0) kY N62 F λsc f fH A outer s H E fa sa n0 S hf hS has hr hu =>
 (dW (fR 3 sc.nd (fF 0 sW (RM hr) (dG (eX 1) (dG (eX 2) dF)) (hfd:=(!30))))
 (dO (eR (sF (eZ (Me hu) (KE.loose (eI (eG 3) (!10))) (KE.loose (fc dF))) (eX 3) (fc (dG dH (dG (fc (dG (fc (dG dH (dG dH (dG (gJ n8 (KE.loose (fF 0 eA (RM hr) (dG dH dF) (hfd:=(!30)))) (!10)) dF)))) dF)) dF)))))))
theorem uj (F:FM K mg "_law_slack_due" (top 54))(B:ky mg)(qH:qB P w K mg base cl) :
  km P w K mg base cl :=
 fS kj Y1 F λsc f fH A outer s H E n0 S has hr hu =>
 (dW (zU (i:=3) false [] sc.nd (N:=Xi) (mp:=[none,some 0,some 1,some 2]) rfl (iH (KE.loose (fc (dG Bl (dG Bl dF))))) rfl (co Y1 (dM (top 54))) (λ_ _ _ _ _=>⟨(jX 0 (nd Xi) (Or.inr rfl)),iE,(KN.data (fU [] (N:=Y0) (mp:=[none,some 1,some 0,some 3]) rfl (iH (eG 2)) rfl (NW (co Xi _)) (λ_ _ _ _ _=>⟨(jX 0 (nd Y0)),(jA (eZ (lC hu) (KE.loose (yo (Dr hu) (eG 3) (eG 0))) (eG 2))),(eh qH (RM hr) (dG (eX 1) (dG (eX 0) dF)))⟩) (hfd:=sI)))⟩) (hfd:=sI) (hfi:=(nf 3 [])))
 (dW (kO (eZ (Dr hu) (KE.loose (KN.data (kc dF))) (eG 3)) (dO (eR jv)) fE)
 (dO (eR (lD ET B.abs (fh (KE.loose (gJ n8 (KE.loose (lD (z7 rfl hu) B.min (fh (KE.loose (eI (eG 3) (!10))) eK))) (KE.loose (lD (z7 rfl hu) B.min (fh (KE.loose (eI (eG 3) (!10))) eK))))) eK))))))
theorem sX (F:FM K mg "_law_moved_word" (top 55))(B:ky mg)(i5:lU P w K mg base cl) :
  jI P w K mg base cl :=
 fS jG N66 F λsc f fH A outer s H E n0 S has hr hu =>
 (dW (BL 4 sc.nd (Qi B.list (KE.loose (eI (eG 0) (!10)))))
 (dW (fR 5 sc.nd (gJ jT (KE.loose (eI (KE.loose (eI (eG 4) (eG 2))) (!10))) (eG 3)))
 (dW (kO (eZ IY (KE.loose (lD ET B.abs (fh (eG 5) eK))) (!10)) (dO (eR gY)) fE)
 (dW (Dy 4 (eX 2) (gJ jT (KE.loose (Bp (KE.loose (eI (eG 4) (eG 2))) lJ (lK dH))) (KE.loose (fc (dG (eX 5) dF)))))
 (dO (eR (eI (KE.loose (eh i5 (RM hr) (dG (fc (dG (eI (eG 0) (!10)) (dG (p7 ig B.tuple (fh (eG 4) eK)) dF))) (dG (eX 1) (dG (eX 2) dF))))) (!10))))))))
theorem rS (F:FM K mg "_law_moves_right" (top 56))(B:ky mg)(gf:jI P w K mg base cl)(eA:iT P w K mg base Y) :
  jh P w K mg base Y :=
 BN (C:=XC λ_=>0) gD N67 F λsc f fH A outer s H E fa sa n0 S hf hS has hr hu =>
 (dW (kO (KW.kb (w_or (eZ (ES hu) (eG 4) (KE.loose (fc (dG gY (dG gY dF))))) (EO (eZ Gr (eG 5) (KE.loose jv))))) (dW (kO (eZ ER (eG 5) (KE.loose jv)) (dO (eR Bl)) fE)
 (dO (eR (yo (Dr hu) (KE.loose (eh gf (RM hr) (dG (eX 1) (dG (eX 2) (dG (eX 3) (dG (gJ n8 (KE.loose (fF 0 eA (RM hr) (dG dH dF) (hfd:=(!30)))) (!10)) dF)))))) (KE.loose (fc (dG gY (dG (eX 4) dF)))))))) fE)
 (EX (fR 6 sc.nd (sF (eZ (lC hu) (eG 4) (KE.loose gY)) dH (IW dH)))
 (dW (kO (eZ (ES hu) (KE.loose (eh gf (RM hr) (dG (eX 1) (dG (eX 2) (dG (eX 3) (dG (gJ yq (eG 6) (eG 5)) dF)))))) (KE.loose (fc (dG gY (dG gY dF))))) (dO (eR Bl)) fE)
 (dW (kO (eZ (ES hu) (KE.loose (eh gf (RM hr) (dG (eX 1) (dG (eX 2) (dG (eX 3) (dG (gJ yq (eG 6) (KE.loose (gJ n8 (eG 5) (!10)))) dF)))))) (KE.loose (fc (dG gY (dG (eX 4) dF))))) (dO (eR Bl)) fE)
 (EX (fR 7 sc.nd (sF (eZ (lC hu) (eG 4) (KE.loose gY)) gY gY))
 (dO (eR (yo (Dr hu) (KE.loose (eh gf (RM hr) (dG (eX 1) (dG (eX 2) (dG (eX 3) (dG (gJ yq (eG 6) (KE.loose (gJ jT (eG 5) (!10)))) dF)))))) (KE.loose (fc (dG gY (dG (eX 7) dF))))))))))))
end
section
variable {P:bf}{w:World}{K:W.Frag}{mg:Str->Option ah}{base:Heap}{f:Addr}{fd:bE}{cl:Str->Addr}{Y:yu}
theorem Uo (F:AX K "law" "law" (top 57) f fd)(B:ky mg)(qI:eD P w K mg base 1 "_law_feed" ["_law_script"] (uJ Y K))(jk:jh P w K mg base Y)(kn:km P w K mg base cl)(o4:oY P w K mg base cl)(qJ:qz P w K mg base cl)(i5:lU P w K mg base cl)(eA:iT P w K mg base Y)(qK:qC P w K mg base Y)(lq:lh P w K mg base Y)(hu0:BS { nx:=λ_ _=>False,rt:=λd _=>d=.bool true } (List.replicate 10 none) 0) :
  og P w K mg base zt 40 f fd ["_law_script"] (BE K):=by
 have sc:gp N68 ["_law_script"] (dM (top 57)):=U9;refine WI (C:=XC cl) (Y:=Y) (k:=39) (u:=BS) F sc (!2) (λfH A outer s H E hr=>⟨j8 (i:=1) sc.nd rfl (Or.inl rfl) (oE qI (RM hr) (iS (qv 0) fN)),λfa sa n0 S H1 hf hS has=>?_⟩) rfl hu0;have hu:=hr.units;unfold BS;exact (dW (mJ PassesOwn.never rfl (uI B.range dH) (jX 2 sc.nd)
 (dW (fR 3 sc.nd (fF 1 lq (RM hr) (dG dH (dG dH dF)) (hfd:=(by decide:1∈[1]))))
 (dW (fR 4 sc.nd (fF 1 qK (RM hr) (dG (eX 3) dF) (hfd:=(by decide:1∈[1]))))
 (dW (fR 5 sc.nd (fF 1 eA (RM hr) (dG (lD vx B.len (fh (KE.loose (eI (eG 3) (!10))) eK)) dF) (hfd:=(by decide:1∈[1]))))
 (dW (fR 6 sc.nd (eh i5 (RM hr) (dG (eX 3) (dG (eX 4) (dG (eX 5) dF)))))
 (dW (fR 7 sc.nd (zX hr B.repr (eX 6)))
 (dW (fR 8 sc.nd (eh qJ (RM hr) (dG (eX 3) (dG (eX 6) dF))))
 (dW (fR 9 sc.nd (eh kn (RM hr) (dG (eX 3) (dG (eh o4 (RM hr) (dG (eX 3) (dG (eX 4) dF))) (dG (eX 5) dF)))))
 (dW (kO (KW.kb (w_or (eZ NU (KE.loose (zX hr B.repr (eX 8))) (KE.loose (zX hr B.repr (eX 9)))) (EO (eZ NU (KE.loose (zX hr B.repr (eX 6))) (eG 7))))) (dO (eR Bl)) fE)
 (dO (kO (NH (IS (fF 1 jk (RM hr) (dG (eX 3) (dG (eX 4) (dG (eX 5) (dG (eI (eG 6) (!10)) (dG (eX 8) dF))))) (hfd:=(by decide:1∈[1]))))) (dO (eR Bl)) fE)))))))))))
 (dO (eR Bl)))
end
end Odj
namespace Odj
open PySem L2
local macro_rules | `(tactic| simp! [$ls,*]) => do let ex <- ("iC gV envOf List.length_cons List.length_nil List.map_cons List.map_nil List.cons_append List.nil_append List.append_nil List.replicate_succ List.replicate_zero Nat.reduceSub Nat.reduceAdd true_and and_true dJ fq fw eJ oI d7 oJ Qg dD dA uC dC dz d5 uL dN eC dR IU Gk Gm tV Tp i9 dE p8 ku tG jV Jc EV Wt Tz e9 ph Rr Mk kB zQ zN zO Qj NO NP vA WJ rF fQ Bs Gu jw dB Tn kf dU eP List.getElem?_cons_zero List.getElem?_cons_succ List.set_cons_zero List.set_cons_succ Option.join_some Option.join_none if_true if_false Bool.not_true Bool.not_false Bool.true_eq_false Bool.false_eq_true reduceIte".splitOn " ").toArray.mapM λs => `(Lean.Parser.Tactic.simpLemma| $(Lean.mkIdent s.toName):ident);`(tactic| simp only[$ls,*, $ex,*])
noncomputable abbrev eE:=Int × Int × Int
noncomputable def eO (t:eE):ae:=.tuple [.int t.1,.int t.2.1,.int t.2.2]
noncomputable def eM (many:Int)(ts:List eE):ae:=.tuple [.int many,.tuple (ts.map eO)]
noncomputable def dI (ns:List Int):ae:=.tuple (ns.map .int)
theorem sY:∀ts:List eE,ae.canLayAll0 (ts.map eO)=true
 | []=>rfl
 | t::ts=>by simp only[ai,ae.canLayAll0,eO,ae.canLay0,sY ts];rfl
theorem JT (ts:List eE):(ae.list (ts.map eO)).canLay0=true:=sY ts
theorem yI:∀ts:List eE,ae.depthAll (ts.map eO)<=1
 | []=>by simp[ae.depthAll]
 | t::ts=>by have:=yI ts;simp only[ai,ae.depthAll,eO,ae.depth];omega
theorem B2 (ts:List eE):(ae.list (ts.map eO)).depth<=60:=by have:=yI ts;simp only[ae.depth];omega
theorem B3 (i j:Int):jz (.int i) (.int j)=some (.int (i - j)):=by simp only[jz]
theorem yJ (i j:Int):ip (.int i) (.int j)=some (.int (i+j)):=by simp only[ip]
section
variable {n:Int}{Q:ae->Int->Prop}{X:XQ}
noncomputable def pC (t:eE)(x:Int):Int:=if t.1=x then t.2.1 else t.1
theorem Al (t:eE)(x:Int):lR [eO t,.int x] n Q X=Q (.int (pC t x)) n:=by
 simp! [lR,oQ,eO,d8,d9,iN,pC];by_cases h:t.1=x<;>simp[h]
theorem nQ {ts:List eE}{i:Int}(h0:0<=i)(h1:i<(ts.length:Int)):∃t,ts[i.toNat]? = some t/\t∈ts/\sx (ts.map eO) i=some (eO t):=by
 have hl:i.toNat<ts.length:=by omega
 refine⟨ts[i.toNat],by simp[hl],bU _,?_⟩;rw[oM h0 (by simpa using h1),az];simp[hl]
end
theorem JU (k:List Int):fY [] k=none:=rfl
theorem jK (p:List Int × ae)(kvs:jn)(k:List Int):fY (p::kvs) k=if p.1=k then some p.2 else fY kvs k:=by
 unfold fY;rw[bK];by_cases h:p.1=k
 .rw[decide_eq_true h,if_pos h];rfl
 .rw[decide_eq_false h,if_neg h]
theorem yL (k j:List Int)(d:ae):∀kvs:jn,(kvs.any λp=>decide (p.1=k))=false->fY (kvs++[(k,d)]) j=if j=k then some d else fY kvs j
 | [],_=>by
  rw[ay,jK,JU];by_cases h:j=k
  .rw[if_pos h.symm,if_pos h]
  .rw[if_neg (λz=>h z.symm),if_neg h]
 | p::kvs,ha=>by
  rw[bF,Bool.or_eq_false_iff] at ha;have hp:¬ p.1=k:=of_decide_eq_false ha.1;rw[aN,jK,yL k j d kvs ha.2,jK];by_cases h:p.1=j
  .rw[if_pos h,if_pos h,if_neg (λz=>hp (h.trans z))]
  .rw[if_neg h,if_neg h]
theorem B4 (k j:List Int)(d:ae):∀kvs:jn,fY (kvs.map λp=>if p.1=k then (p.1,d) else p) j=(fY kvs j).map λx=>if j=k then d else x
 | []=>rfl
 | p::kvs=>by
  rw[ai,jK,jK,B4 k j d kvs];by_cases h:p.1=k
  .rw[if_pos h]
   by_cases h2:p.1=j
   .rw[if_pos h2,if_pos h2,bo,if_pos (h2.symm.trans h)]
   .rw[if_neg h2,if_neg h2]
  .rw[if_neg h]
   by_cases h2:p.1=j
   .rw[if_pos h2,if_pos h2,bo,if_neg (λz=>h (h2.trans z))]
   .rw[if_neg h2,if_neg h2]
theorem vX (k:List Int):∀kvs:jn,(kvs.any λp=>decide (p.1=k))=(fY kvs k).isSome
 | []=>rfl
 | p::kvs=>by
  rw[bF,jK,vX k kvs];by_cases h:p.1=k
  .rw[if_pos h,decide_eq_true h];rfl
  .rw[if_neg h,decide_eq_false h];rfl
theorem B5 (kvs:jn)(k j:List Int)(d:ae):fY (jq kvs k d) j=if j=k then some d else fY kvs j:=by
 unfold jq;split
 .rename_i h
  rw[vX] at h;rw[B4];by_cases hj:j=k
  .subst hj
   obtain⟨x,hx⟩:=bX.mp h;rw[hx,if_pos rfl,bo,if_pos rfl]
  .rw[if_neg hj]
   cases fY kvs j with
   | none=>rfl
   | some x=>rw[bo,if_neg hj]
 .rename_i h
  exact yL k j d kvs (Bool.eq_false_iff.mpr h)
noncomputable def lr (kvs:jn):List (List Int):=kvs.map (·.1)
theorem JV (kvs:jn)(k:List Int)(d:ae):lr (jq kvs k d)=if k∈lr kvs then lr kvs else lr kvs++[k]:=by
 have ha:((kvs.any λp=>decide (p.1=k))=true)↔k∈lr kvs:=by
  rw[cx,lr,aU];constructor
  .rintro⟨p,hp,h⟩;exact⟨p,hp,of_decide_eq_true h⟩
  .rintro⟨p,hp,h⟩;exact⟨p,hp,decide_eq_true h⟩
 unfold jq;by_cases h:(kvs.any λp=>decide (p.1=k))=true
 .rw[if_pos h,if_pos (ha.mp h),lr,lr,bc]
  refine bL λp _=>?_;show (if p.1=k then (p.1,d) else p).1=p.1;split<;>rfl
 .rw[if_neg h,if_neg (λz=>h (ha.mpr z)),lr,lr,aW]
  rfl
noncomputable def ij (ts:List eE)(k:Int):List Int:=[(!18).1,(!18).2.1]
noncomputable def eB (ts:List eE)(ks:List Int):List Int:=(ks.map (ij ts)).flatten
noncomputable abbrev ff (ts:List eE)(ks:List Int):Prop:=∀k∈ks,0<=k/\k<(ts.length:Int)
theorem iU (ts:List eE)(k:Int)(ks:List Int):eB ts (k::ks)=ij ts k++eB ts ks:=rfl
theorem rT (ts:List eE)(a b:List Int):eB ts (a++b)=eB ts a++eB ts b:=by
 unfold eB;rw[aW,List.flatten_append]
theorem iV {ts:List eE}{a b:List Int}(h:a.Perm b):(eB ts a).Perm (eB ts b):=(h.map _).flatten
theorem vY:∀{l r:List Int},l.Nodup->r.Nodup->(∀k∈r,k∈l)->l.Perm (r++l.filter (λk=>!decide (k∈r))):=λ{l r} hl hr h=>by
 refine (bb hl ?_).mpr λk=>?_
 .refine cj.mpr ⟨hr,hl.filter _,λa ha b hb e=>?_⟩
  subst e;have:=(aJ.mp hb).2;simp[ha] at this
 .rw[aX,aJ]
  by_cases hk:k∈r
  .simp[hk,h k hk]
  .simp[hk]
theorem sZ {ts:List eE}{l r:List Int}(hl:l.Nodup)(hr:r.Nodup)(h:∀k∈r,k∈l)(v:Int):(eB ts l).count v=(eB ts r).count v+(eB ts (l.filter λk=>!decide (k∈r))).count v:=by
 rw[(iV (vY hl hr h)).count_eq,rT,bp]
noncomputable def Y4 (ts:List eE)(x k q:Int):Prop:=∃t,0<=k/\ts[k.toNat]? = some t/\((t.1=x/\t.2.1=q)\/(t.2.1=x/\t.1=q))
theorem GU {ts:List eE}{x k q:Int}(h:Y4 ts x k q)(v:Int):(ij ts k).count v=(if v=x then 1 else 0)+(if v=q then 1 else 0):=by
 obtain⟨t,_,ht,hh⟩:=h
 have e:ij ts k=[t.1,t.2.1]:=by
  unfold ij;rw[au,ht];rfl
 have b1:∀a:Int,(if (a == v)=true then 1 else 0)=(if v=a then 1 else (0:Nat)):=λa=>by
  by_cases h:v=a
  .subst h
   simp
  .rw[if_neg h,if_neg (by simpa using λz=>h z.symm)]
 have c1:∀a b:Int,[a,b].count v=(if v=a then 1 else 0)+(if v=b then 1 else 0):=λa b=>by
  rw[cB,cB,cR,b1,b1];omega
 rw[e,c1];rcases hh with⟨rfl,rfl⟩ | ⟨rfl,rfl⟩
 .rfl
 .exact Nat.add_comm _ _
noncomputable def jr (ts:List eE)(k:Int):Int:=(!18).2.2
noncomputable def cost (ts:List eE)(ks:List Int):Int:=(ks.map (jr ts)).sum
theorem JW {a b:List Int}(h:a.Perm b):a.sum=b.sum:=by
 induction h with
 | nil=>rfl
 | cons x _ ih=>rw[cC,cC,ih]
 | swap x y l=>simp only[cC];omega
 | trans _ _ h1 h2=>exact h1.trans h2
theorem gA {ts:List eE}{a b:List Int}(h:a.Perm b):cost ts a=cost ts b:=JW (h.map _)
theorem j4 (ts:List eE)(a b:List Int):cost ts (a++b)=cost ts a+cost ts b:=by
 unfold cost;rw[aW,List.sum_append]
theorem nR (ts:List eE)(p:Int->Bool)(a:List Int):cost ts a=cost ts (a.filter p)+cost ts (a.filter λk=>!p k):=by
 induction a with
 | nil=>rfl
 | cons k a ih =>
  have e:∀l,cost ts (k::l)=jr ts k+cost ts l:=λl=>rfl
  cases hp:p k with
  | true=>rw[cb hp,cy (by simp[hp]),e,e,ih];omega
  | false=>rw[cy (by simp[hp]),cb (by simp[hp]),e,e,ih];omega
theorem lu {l:List Int}(h:l.Nodup)(k:Int):l.count k=if k∈l then 1 else 0:=List.Nodup.count h
theorem fb {row:List Int}{v:Int}:v∈ee row↔row.count v % 2=1:=by
 unfold ee;rw[fV,aJ];constructor
 .intro z
  exact of_decide_eq_true z.2
 .intro z
  exact⟨bR.mp (!1),decide_eq_true z⟩
theorem gW (row:List Int):(ee row).Pairwise (· < ·):=jC _
theorem iw {l:List Int}(h:l.Pairwise (· < ·)):l.Nodup:=h.imp λh z=>by omega
theorem fM (row:List Int):(ee row).Nodup:=iw (gW row)
theorem gh {a b:List Int}(ha:a.Nodup)(hb:b.Nodup){k:Int}:k∈ee (a++b)↔¬ (k∈a↔k∈b):=by
 rw[fb,bp,lu ha,lu hb];by_cases h1:k∈a<;>by_cases h2:k∈b<;>simp[h1,h2]
noncomputable def Xm (ts:List eE)(a s:List Int):Int:=cost ts (s.filter λk=>!decide (k∈a)) - cost ts (s.filter λk=>decide (k∈a))
theorem qL {a s:List Int}(ha:a.Nodup)(hs:s.Nodup):(ee (a++s)).Perm ((a.filter λk=>!decide (k∈s))++(s.filter λk=>!decide (k∈a))):=by
 refine (bb (fM _) (cj.mpr ⟨ha.filter _,hs.filter _,λx hx y hy e=>?_⟩)).mpr λk=>?_
 .subst e
  have h1:=(aJ.mp hx).1;have h2:=(aJ.mp hy).2;simp[h1] at h2
 .rw[gh ha hs,aX,aJ,aJ]
  by_cases h1:k∈a<;>by_cases h2:k∈s<;>simp[h1,h2]
theorem yM {a s:List Int}(ha:a.Nodup)(hs:s.Nodup):(a.filter λk=>decide (k∈s)).Perm (s.filter λk=>decide (k∈a)):=by
 refine (bb (ha.filter _) (hs.filter _)).mpr λk=>?_;rw[aJ,aJ];simp[and_comm]
theorem QP {ts:List eE}{a s:List Int}(ha:a.Nodup)(hs:s.Nodup):cost ts (ee (a++s)) - cost ts a=Xm ts a s:=by
 have h1:=gA (ts:=ts) (qL ha hs);have h2:=nR ts (λk=>decide (k∈s)) a;have h3:=gA (ts:=ts) (yM ha hs);rw[j4] at h1;unfold Xm;omega
noncomputable abbrev Hs:=List (Option Int)
noncomputable def o5 (hs:Hs)(v:Int):Option Int:=hs.getD v.toNat none
noncomputable def o6 (hs:Hs)(one other p:Int):Hs:=match o5 hs one with
 | none=>hs
 | some c=>match o5 hs other with
  | none=>hs.set other.toNat (some (c+p))
  | some d=>if c+p<d then hs.set other.toNat (some (c+p)) else hs
noncomputable def nS (hs:Hs)(t:eE):Hs:=o6 (o6 hs t.1 t.2.1 t.2.2) t.2.1 t.1 t.2.2
noncomputable def vZ (ts:List eE)(hs:Hs):Hs:=ts.foldl nS hs
noncomputable def lz (ts:List eE):Nat->Hs->Hs
 | 0,hs=>hs
 | j+1,hs=>lz ts j (vZ ts hs)
noncomputable def B6 (many:Nat)(place:Int):Hs:=(List.replicate many none).set place.toNat (some 0)
noncomputable def gR (many:Nat)(ts:List eE)(place:Int):Hs:=lz ts many (B6 many place)
theorem mR (hs:Hs)(one other p:Int):(o6 hs one other p).length=hs.length:=by
 unfold o6;split
 .rfl
 .split
  .simp
  .split<;>simp
theorem nT (hs:Hs)(t:eE):(nS hs t).length=hs.length:=by unfold nS;rw[mR,mR]
theorem s9 (ts:List eE):∀hs:Hs,(vZ ts hs).length=hs.length:=by
 unfold vZ
 induction ts with
 | nil=>intro hs;rfl
 | cons t ts ih=>intro hs;rw[ck,ih,nT]
theorem qM (ts:List eE):∀(j:Nat) (hs:Hs),(lz ts j hs).length=hs.length
 | 0,_=>rfl
 | j+1,hs=>by rw[lz,qM ts j,s9]
theorem lW {hs:Hs}{u v:Int}{x:Option Int}(u0:0<=u)(v0:0<=v)(hv:v<(hs.length:Int)):o5 (hs.set v.toNat x) u=if u=v then x else o5 hs u:=by
 unfold o5;rw[au,List.getElem?_set];by_cases e:u=v
 .subst e
  rw[if_pos rfl,if_pos (!1),if_pos rfl];rfl
 .rw[if_neg (!1),if_neg e,au]
noncomputable def Hq (m:Int)(hs pV:Hs):Prop:=∀v c,0<=v->v<m->o5 pV v=some c->∃c',o5 hs v=some c'/\c'<=c
theorem Hq.refl (m:Int)(hs:Hs):Hq m hs hs:=λv c _ _ h=>⟨c,h,bM _⟩
theorem Hq.trans {m:Int}{a b c:Hs}(h1:Hq m a b)(h2:Hq m b c):Hq m a c:=λv x v0 v1 h=>by
 obtain⟨y,hy,Hr⟩:=h2 v x v0 v1 h;obtain⟨z,hz,hyz⟩:=h1 v y v0 v1 hy;exact⟨z,hz,!1⟩
section
variable {m:Int}{hs:Hs}(hl:(hs.length:Int)=m)
include hl
theorem pD {one other p:Int}(o0:0<=other)(o1:other<m):Hq m (o6 hs one other p) hs:=by
 intro v c v0 v1 h;unfold o6;split
 .exact⟨c,h,bM _⟩
 .split
  .rename_i hn
   rw[lW v0 o0 (!1)];by_cases e:v=other
   .subst e;rw[hn] at h;cases h
   .rw[if_neg e];exact⟨c,h,bM _⟩
  .rename_i d hd
   split
   .rw[lW v0 o0 (!1)]
    by_cases e:v=other
    .subst e
     rw[hd] at h;cases h;rw[if_pos rfl];exact⟨_,rfl,!1⟩
    .rw[if_neg e];exact⟨c,h,bM _⟩
   .exact⟨c,h,bM _⟩
theorem yN {one other p c:Int}(o0:0<=other)(o1:other<m)(h:o5 hs one=some c):∃c',o5 (o6 hs one other p) other=some c'/\c'<=c+p:=by
 unfold o6;rw[h];dsimp only;split
 .rw[lW o0 o0 (!1),if_pos rfl]
  exact⟨_,rfl,bM _⟩
 .rename_i d hd
  split
  .rw[lW o0 o0 (!1),if_pos rfl]
   exact⟨_,rfl,bM _⟩
  .exact⟨d,hd,!1⟩
end
noncomputable abbrev nU (m:Int)(ts:List eE):Prop:=∀t∈ts,0<=t.1/\t.1<m/\0<=t.2.1/\t.2.1<m
theorem v3 {m:Int}{hs:Hs}(hl:(hs.length:Int)=m){t:eE}(ht:0<=t.1/\t.1<m/\0<=t.2.1/\t.2.1<m):Hq m (nS hs t) hs:=by
 unfold nS;exact (pD (by rw[mR];exact hl) ht.1 ht.2.1).trans (pD hl ht.2.2.1 ht.2.2.2)
theorem tf {m:Int}:∀{ts:List eE} {hs:Hs},(hs.length:Int)=m->nU m ts->Hq m (vZ ts hs) hs
 | [],hs,_,_=>Hq.refl m hs
 | t::ts,hs,hl,he=>by
  have h1:=v3 hl (he t (ao ..));have h2:=tf (ts:=ts) (hs:=nS hs t) (by rw[nT];exact hl) λu hu=>he u (ag _ hu);exact h2.trans h1
theorem yO {m:Int}:∀{ts:List eE} {hs:Hs},(hs.length:Int)=m->nU m ts->∀t∈ts,∀u v c,(u=t.1/\v=t.2.1\/u=t.2.1/\v=t.1)->o5 hs u=some c->∃c',o5 (vZ ts hs) v=some c'/\c'<=c+t.2.2
 | [],_,_,_,t,ht,_,_,_,_,_=>by cases ht
 | s::ts,hs,hl,he,t,ht,u,v,c,QQ,hc=>by
  have pV:=he s (ao ..);have zq:((nS hs s).length:Int)=m:=by rw[nT];exact hl
  have Xn:nU m ts:=λu hu=>he u (ag _ hu);have hb:=tf (ts:=ts) zq Xn;rcases ax.mp ht with rfl | ht
  .have Mz:((o6 hs t.1 t.2.1 t.2.2).length:Int)=m:=by rw[mR];exact hl
   obtain⟨c1,h1,h2⟩:∃c1,o5 (nS hs t) v=some c1/\c1<=c+t.2.2:=by
    rcases QQ with⟨rfl,rfl⟩ | ⟨rfl,rfl⟩
    .obtain⟨c1,h1,h2⟩:=yN hl (one:=t.1) (other:=t.2.1) (p:=t.2.2) pV.2.2.1 pV.2.2.2 hc
     obtain⟨c2,h3,h4⟩:=pD Mz (one:=t.2.1) (other:=t.1) (p:=t.2.2) pV.1 pV.2.1 _ _ pV.2.2.1 pV.2.2.2 h1;exact⟨c2,h3,!1⟩
    .obtain⟨c1,h1,h2⟩:=pD hl (one:=t.1) (other:=t.2.1) (p:=t.2.2) pV.2.2.1 pV.2.2.2 _ _ pV.2.2.1 pV.2.2.2 hc
     obtain⟨c2,h3,h4⟩:=yN Mz (one:=t.2.1) (other:=t.1) (p:=t.2.2) pV.1 pV.2.1 h1;exact⟨c2,h3,!1⟩
   have hv:0<=v/\v<m:=by rcases QQ with⟨_,rfl⟩ | ⟨_,rfl⟩<;>omega
   obtain⟨c3,h5,h6⟩:=hb v c1 hv.1 hv.2 h1;exact⟨c3,h5,!1⟩
  .have hu:0<=u/\u<m:=by have:=Xn t ht;rcases QQ with⟨rfl,_⟩ | ⟨rfl,_⟩<;>omega
   obtain⟨c1,h1,h2⟩:=v3 hl pV u c hu.1 hu.2 hc;obtain⟨c2,h3,h4⟩:=yO (ts:=ts) zq Xn t ht u v c1 QQ h1;exact⟨c2,h3,!1⟩
inductive Wk (ts:List eE) (s:Int):Int->List Int->Int->Prop
 | nil:Wk ts s s [] 0
 | step {u:Int} {vs:List Int} {c:Int} (w:Wk ts s u vs c) (t:eE) (ht:t∈ts) (v:Int) (h:u=t.1/\v=t.2.1\/u=t.2.1/\v=t.1):Wk ts s v (u::vs) (c+t.2.2)
noncomputable abbrev Plain (ts:List eE):Prop:=∀t∈ts,0<=t.2.2
theorem Wk.ahead {ts:List eE}{s:Int}(hp:Plain ts):∀{u:Int} {vs:List Int} {c:Int},Wk ts s u vs c->∀x∈u::vs,∃GV c2,Wk ts s x GV c2/\(x::GV) <:+ (u::vs)/\c2<=c
 | _,_,_,.nil,x,hx=>by
  rw[ap.mp hx];exact⟨[],0,.nil,List.suffix_refl _,bM _⟩
 | _,_,_,.step (u:=u) (vs:=vs) (c:=c) w t ht v h,x,hx=>by
  (rcases ax.mp hx with rfl | hx)
  .exact⟨_,_,.step w t ht x h,List.suffix_refl _,bM _⟩
  .obtain⟨GV,c2,w2,hs,hc⟩:=Wk.ahead hp w x hx
   have:=hp t ht;exact⟨GV,c2,w2,hs.trans (List.suffix_cons v _),!1⟩
theorem Wk.short {ts:List eE}{s:Int}(hp:Plain ts):∀{u:Int} {vs:List Int} {c:Int},Wk ts s u vs c->∃GV c2,Wk ts s u GV c2/\(u::GV).Nodup/\c2<=c
 | _,_,_,.nil=>⟨[],0,.nil,!4,bM _⟩
 | _,_,_,.step (u:=u) (vs:=vs) (c:=c) w t ht v h=>by
  obtain⟨GV,c2,w2,hn,hc⟩:=Wk.short hp w;have h0:=hp t ht;by_cases hv:v∈u::GV
  .obtain⟨vs3,c3,w3,hs,hc3⟩:=Wk.ahead hp w2 v hv
   exact⟨vs3,c3,w3,hn.sublist hs.sublist,!1⟩
  .exact⟨u::GV,c2+t.2.2,.step w2 t ht v h,bj.mpr ⟨hv,hn⟩,!1⟩
theorem Wk.inR {m:Int}{ts:List eE}{s:Int}(he:nU m ts)(s0:0<=s)(s1:s<m):∀{u:Int} {vs:List Int} {c:Int},Wk ts s u vs c->∀x∈u::vs,0<=x/\x<m
 | _,_,_,.nil,x,hx=>by rw[ap.mp hx];exact⟨s0,s1⟩
 | _,_,_,.step w t ht v h,x,hx=>by
  (rcases ax.mp hx with rfl | hx)
  .have:=he t ht
   rcases h with⟨_,rfl⟩ | ⟨_,rfl⟩<;>omega
  .exact Wk.inR he s0 s1 w x hx
noncomputable def Og (m:Int)(ts:List eE)(s:Int)(hs:Hs):Prop:=∀v c,0<=v->v<m->o5 hs v=some c->∃vs,Wk ts s v vs c
theorem yQ {m:Int}{ts:List eE}{s:Int}{hs:Hs}(hl:(hs.length:Int)=m)(h:Og m ts s hs){t:eE}(ht:t∈ts){one other:Int}(e:one=t.1/\other=t.2.1\/one=t.2.1/\other=t.1)(o0:0<=other)(o1:other<m)(u0:0<=one)(u1:one<m):Og m ts s (o6 hs one other t.2.2):=by
 intro v c v0 v1 hc;unfold o6 at hc;split at hc
 .exact h v c v0 v1 hc
 .rename_i d hd
  obtain⟨vs,w⟩:=h one d u0 u1 hd;have hw:Wk ts s other (one::vs) (d+t.2.2):=.step w t ht other e;split at hc
  .rw[lW v0 o0 (!1)] at hc
   by_cases ev:v=other
   .rw[if_pos ev] at hc
    cases hc;rw[ev];exact⟨_,hw⟩
   .rw[if_neg ev] at hc;exact h v c v0 v1 hc
  .split at hc
   .rw[lW v0 o0 (!1)] at hc
    by_cases ev:v=other
    .rw[if_pos ev] at hc
     cases hc;rw[ev];exact⟨_,hw⟩
    .rw[if_neg ev] at hc;exact h v c v0 v1 hc
   .exact h v c v0 v1 hc
theorem yR {m:Int}{Xo:List eE}{s:Int}:∀{ts:List eE} {hs:Hs},(hs.length:Int)=m->nU m ts->(∀t∈ts,t∈Xo)->Og m Xo s hs->Og m Xo s (vZ ts hs)
 | [],_,_,_,_,h=>h
 | t::ts,hs,hl,he,hi,h=>by
  have ht:=he t (ao ..);have hm:=hi t (ao ..);have h1:=yQ hl h hm (.inl ⟨rfl,rfl⟩) ht.2.2.1 ht.2.2.2 ht.1 ht.2.1;have h2:=yQ (by rw[mR];exact hl) h1 hm (.inr ⟨rfl,rfl⟩) ht.1 ht.2.1 ht.2.2.1 ht.2.2.2;exact yR (ts:=ts) (hs:=nS hs t) (by rw[nT];exact hl) (λu hu=>he u (ag _ hu)) (λu hu=>hi u (ag _ hu)) h2
theorem v5 {m:Int}{ts:List eE}{s:Int}(he:nU m ts):∀(j:Nat) {hs:Hs},(hs.length:Int)=m->Og m ts s hs->Og m ts s (lz ts j hs)
 | 0,_,_,h=>h
 | j+1,hs,hl,h=>v5 he j (by rw[s9];exact hl) (yR hl he (λ_ h=>h) h)
theorem v7 {m:Int}{ts:List eE}(he:nU m ts):∀(j:Nat) {hs:Hs},(hs.length:Int)=m->Hq m (lz ts j hs) hs
 | 0,hs,_=>Hq.refl m hs
 | j+1,hs,hl=>(v7 he j (by rw[s9];exact hl)).trans (tf hl he)
theorem tM (ts:List eE):∀(j:Nat) (hs:Hs),lz ts (j+1) hs=vZ ts (lz ts j hs)
 | 0,_=>rfl
 | j+1,hs=>by rw[lz,tM ts j,lz]
theorem v8 {m:Int}{ts:List eE}{s:Int}(he:nU m ts){hs:Hs}(hl:(hs.length:Int)=m)(s0:0<=s)(s1:s<m)(h0:o5 hs s=some 0):∀{u:Int} {vs:List Int} {c:Int},Wk ts s u vs c->∀j,vs.length<=j->∃c',o5 (lz ts j hs) u=some c'/\c'<=c
 | _,_,_,.nil,j,_=>v7 he j hl s 0 s0 s1 h0
 | _,_,_,.step w t ht v h,0,hj=>by simp at hj
 | _,_,_,.step w t ht v h,j+1,hj=>by
  rw[ak] at hj;obtain⟨c1,h1,h2⟩:=v8 he hl s0 s1 h0 w j (!1);rw[tM];obtain⟨c2,h3,h4⟩:=yO (by rw[qM];exact hl) he t ht _ v c1 h h1;exact⟨c2,h3,!1⟩
theorem QR {many:Nat}{s:Int}(s0:0<=s)(s1:s<many):o5 (B6 many s) s=some 0:=by
 unfold B6;rw[lW s0 s0 (by simpa using s1),if_pos rfl]
theorem MR {many:Nat}{ts:List eE}{s:Int}(s0:0<=s)(s1:s<many):Og many ts s (B6 many s):=λv c v0 v1 h=>by
 unfold B6 at h;rw[lW v0 s0 (by simpa using s1)] at h;by_cases e:v=s
 .rw[if_pos e] at h
  cases h;rw[e];exact⟨[],.nil⟩
 .rw[if_neg e] at h
  unfold o5 at h;rw[au,b9] at h;split at h<;>cases h
structure rV (many:Nat) (ts:List eE) (s:Int) (hs:Hs):Prop where
 len:hs.length=many
 beg:o5 hs s=some 0
 fit:∀t∈ts,∀u v c,(u=t.1/\v=t.2.1\/u=t.2.1/\v=t.1)->o5 hs u=some c->∃c',o5 hs v=some c'/\c'<=c+t.2.2
 way:∀(v c:Int),0<=v->v<(many:Int)->o5 hs v=some c->∃vs,Wk ts s v vs c/\(v::vs).Nodup
theorem DY {many:Nat}{ts:List eE}{s:Int}(he:nU many ts)(hp:Plain ts)(s0:0<=s)(s1:s<many):rV many ts s (gR many ts s):=by
 have hl:((B6 many s).length:Int)=many:=by unfold B6;simp
 have hw:∀{u:Int} {vs:List Int} {c:Int},Wk ts s u vs c->∃c',o5 (gR many ts s) u=some c'/\c'<=c:=λw=>by
  obtain⟨GV,c2,w2,hn,hc⟩:=w.short hp;have hr:=w2.inR he s0 s1;have hlen:=gk hn (ns:=fW 0 many) λx hx=>fy.mpr (by have:=hr x hx;omega);rw[ak,e8] at hlen;obtain⟨c',h1,h2⟩:=v8 he hl s0 s1 (QR s0 s1) w2 many (!1);exact⟨c',h1,!1⟩
 have QU:Og many ts s (gR many ts s):=v5 he many hl (MR s0 s1)
 have Xq:∀{u:Int} {vs:List Int} {c:Int},Wk ts s u vs c->0<=c:=λw=>by
  induction w with
  | nil=>exact bM _
  | step w t ht v h ih=>have:=hp t ht;omega
 refine⟨?_,?_,λt ht u v c QQ hc=>?_,λv c v0 v1 hc=>?_⟩
 .unfold gR
  rw[qM];unfold B6;simp
 .obtain⟨c,h1,h2⟩:=hw (.nil (ts:=ts) (s:=s))
  obtain⟨vs,w⟩:=QU s c s0 s1 h1;have:=Xq w;rw[h1];congr 1;omega
 .have hu:0<=u/\u<many:=by have:=he t ht;rcases QQ with⟨rfl,_⟩ | ⟨rfl,_⟩<;>omega
  obtain⟨vs,w⟩:=QU u c hu.1 hu.2 hc;exact hw (.step w t ht v QQ)
 .obtain⟨vs,w⟩:=QU v c v0 v1 hc
  obtain⟨GV,c2,w2,hn,He⟩:=w.short hp;obtain⟨c',h1,h2⟩:=hw w2;rw[hc] at h1;cases h1;have e:c2=c:=by omega
  exact⟨GV,e ▸ w2,hn⟩
noncomputable abbrev B7 (many:Int)(ts:List eE):Prop:=∀t∈ts,0<=t.1/\t.1<many/\0<=t.2.1/\t.2.1<many
noncomputable def GW (ts:List eE)(k:Int):eE:=ts.getD k.toNat (0,0,0)
theorem Wk.set {ts:List eE}{s:Int}:∀{u:Int} {vs:List Int} {c:Int},Wk ts s u vs c->(u::vs).Nodup ->
  ∃ks:List Int,ff ts ks/\ks.Nodup/\(∀x:Int,(eB ts ks).count x % 2=([s].count x + [u].count x) % 2)/\(ks.map λk=>(GW ts k).2.2).sum=c/\∀k∈ks,(GW ts k).1∈u::vs/\(GW ts k).2.1∈u::vs
 | _,_,_,.nil,_=>⟨[],(λk hk=>by cases hk),cg,λx=>by rw[show eB ts []=[] from rfl,cR];omega,rfl,λk hk=>by cases hk⟩
 | _,_,_,.step (u:=u) (vs:=vs) (c:=c) w t ht v h,hn=>by
  obtain⟨n1,n2⟩:=bj.mp hn;obtain⟨ks,h1,h2,h3,h4,h5⟩:=Wk.set w n2;obtain⟨i,hi,e⟩:=cZ ht;have ek:GW ts (i:Int)=t:=by unfold GW;rw[a9,au,aM hi,<- e];rfl
  have hv:v=t.1\/v=t.2.1:=by rcases h with⟨_,e⟩ | ⟨_,e⟩<;>simp[e]
  have HW:(i:Int) ∉ ks:=λz=>by
   have:=h5 _ z;rw[ek] at this;rcases hv with e | e
   .exact n1 (e ▸ this.1)
   .exact n1 (e ▸ this.2)
  have Vh:ij ts (i:Int)=[t.1,t.2.1]:=by
   have:=ek;unfold GW at this;unfold ij;rw[this]
  refine⟨(i:Int)::ks,λk hk=>?_,bj.mpr ⟨HW,h2⟩,λx=>?_,?_,λk hk=>?_⟩
  .rcases ax.mp hk with rfl | hk
   .omega
   .exact h1 k hk
  .rw[iU,Vh,bp]
   have:=h3 x
   have e2:[t.1,t.2.1].count x=[u].count x + [v].count x:=by
    rcases h with⟨rfl,rfl⟩ | ⟨rfl,rfl⟩
    .rw[cB,bS,bS];omega
    .rw[cB,bS,bS]
   rw[e2];omega
  .rw[ai,cC,h4,ek]
   omega
  .rcases ax.mp hk with rfl | hk
   .rw[ek]
    rcases h with⟨e1,e2⟩ | ⟨e1,e2⟩
    .rw[<- e1,<- e2];simp
    .rw[<- e1,<- e2];simp
   .have:=h5 k hk
    exact⟨ag _ this.1,ag _ this.2⟩
theorem rV.set {many:Nat}{ts:List eE}{s:Int}{hs:Hs}(h:rV many ts s hs){v c:Int}(v0:0<=v)(v1:v<(many:Int))(hc:o5 hs v=some c) :
  ∃ks:List Int,ff ts ks/\ks.Pairwise (· < ·)/\ee (eB ts ks)=ee ([s]++[v])/\cost ts ks=c:=by
 obtain⟨vs,w,hn⟩:=h.way v c v0 v1 hc;obtain⟨ks,h1,h2,h3,h4,_⟩:=w.set hn;have hp:=sortI_perm ks;refine⟨sortI ks,λk hk=>h1 k (hp.mem_iff.mp hk),lH (kC _) (hp.nodup_iff.mpr h2),?_,?_⟩
 .refine vz (jC _) (jC _) λx=>?_
  have hcx:=(iV (ts:=ts) hp).count_eq x;have h3x:=h3 x;rw[ee,ee,fV,fV,aJ,aJ,bp];constructor
  .rintro⟨_,hx⟩
   have hx:=of_decide_eq_true hx;have JX:([s].count x + [v].count x) % 2=1:=by omega
   refine⟨?_,decide_eq_true JX⟩;have:0<([s]++[v]).count x:=by rw[bp];omega
   exact bR.mp this
  .rintro⟨_,hx⟩
   have hx:=of_decide_eq_true hx;have JX:(eB ts (sortI ks)).count x % 2=1:=by omega
   exact⟨bR.mp (!1),decide_eq_true JX⟩
 .rw[gA hp]
  exact h4
noncomputable def mr (x:Option Int):ae:=match x with | none=>.none | some c=>.int c
theorem MS {hs:Hs}{v:Int}(v0:0<=v)(v1:v<(hs.length:Int)):sx (hs.map mr) v=some (mr (o5 hs v)):=by
 rw[oM v0 (by rw[ar];exact v1),az];have hl:v.toNat<hs.length:=by omega
 unfold o5;rw[au,aM hl];rfl
theorem QV {len:Nat}{v:Int}(v0:0<=v)(v1:v<(len:Int)):CV len v=some v.toNat:=by
 unfold CV;rw[if_pos v0,if_pos (!1)]
section
variable {n:Int}{X:XQ}{Q:ae->Int->Prop}
noncomputable def GX (hs:Hs):ae:=.tuple (hs.map mr)
end
noncomputable abbrev B8 (ts:List eE):Prop:=∀t∈ts,t.2.2.natAbs<=99
theorem Fe (row:List Int):(lN row).length<=row.length:=gk (lO row) λk hk=>kK.mp hk
theorem g6 {α:Type}(I:fC->Prop)(g f:α->ae)(p:α->Bool){ug:UG}{uc:UT}{ue:UX}{Q:List ae->Int->Prop}{n:Int}:∀(xs:List α) (acc:List ae) (env:fC),(∀k∈xs,∀env,I env->∃eL,I eL/\(∀K,ug (g k) env K=K eL)/\(∀n Q,uc eL n Q=Q (p k) n)/\(∀n Q,ue eL n Q=Q (f k) n))->I env ->
  fm ug uc ue Q (xs.map g) acc env n=Q (acc++(xs.filter p).map f) n
 | [],acc,env,_,_=>by simp[fm]
 | a::xs,acc,env,h,hi=>by
  obtain⟨eL,LP,h1,h2,h3⟩:=h a (ao ..) env hi;have ih:=λacc=>g6 I g f p (ug:=ug) (uc:=uc) (ue:=ue) (Q:=Q) (n:=n) xs acc eL (λk hk=>h k (ag _ hk)) LP;rw[ai,fm,h1,h2]
  cases hp:p a with
  | true =>
   rw[if_pos rfl,h3,ih,cb hp,ai,bu];rfl
  | false=>rw[if_neg (!2),ih,cy (by simp[hp])]
noncomputable def JY (m:Nat)(p:Int->Bool):List Int:=(fW 0 m).filter p
theorem QX {m:Nat}{p:Int->Bool}{k:Int}(h:k∈JY m p):0<=k/\k<(m:Int):=by have:=fy.mp (aJ.mp h).1;omega
theorem v9 {α:Type}(f:α->ae)(d:α)(xs:List α):ko (xs.map f)=(fW 0 xs.length).map λk=>.tuple [.int k,f (xs.getD k.toNat d)]:=by
 refine List.ext_getElem? λi=>?_;unfold ko fW;rw[az,List.getElem?_zipIdx,az,az,az];by_cases hi:i<xs.length
 .rw[aM hi,aM (by simpa using hi)]
  simp[au,hi]
 .rw[bi (!1),bi (by simp;omega)]
  rfl
noncomputable def gw (ts:List eE)(k:Int):eE:=ts.getD k.toNat (0,0,0)
theorem wa (ns:List Int):kx (dI ns)=true:=by
 have:∀ns:List Int,kP (ns.map .int)=true:=by
  intro ns
  induction ns with
  | nil=>rfl
  | cons a ns ih=>simpa [kP,kx] using ih
 exact this _
theorem B9 {ts:List eE}{k:Int}{t:eE}(h:ts[k.toNat]? = some t):ij ts k=[t.1,t.2.1]:=by
 unfold ij;rw[au,h];rfl
theorem Rk (t:eE):I9 (eO t) none (some 2)=some (.tuple [.int t.1,.int t.2.1]):=by
 simp only[eO,I9,rJ _ 2 (!2)];rfl
section
variable {n:Int}{X:XQ}{Q:ae->Int->Prop}
theorem DZ {row:List Int}(h1:(lN row).length<=60)(h2:row.length<=100000):gF [.tuple (row.map .int)] n Q X=Q (dI (ee row)) n:=by
 simp only[gF,ir,dB,h1,h2,true_and,dI,and_self]
theorem f' {a b:List Int}(h:a.length+b.length<=60):fi [dI a,dI b] n Q X=Q (dI (ee (a++b))) n:=by
 have e:ip (.tuple (a.map .int)) (.tuple (b.map .int))=some (.tuple ((a++b).map .int)):=by rw[vE (by rw[ar,ar];omega),aW]
 have hl:(a++b).length<=60:=by rw[aQ];exact h
 simp! [fi,qg];rw[dI,dI];simp! [e,DZ (bq (Fe (a++b)) hl) (!1)]
theorem D0 {row:List Int}(h1:(lN row).length<=60)(h2:row.length<=100000):gF [.list (row.map .int)] n Q X=Q (dI (ee row)) n:=by
 simp only[gF,ir,dB,h1,h2,true_and,dI,and_self]
theorem wc {many:Int}{ts:List eE}{ks:List Int}(hk:ff ts ks)(hl:2 * ks.length<=60):mN [eM many ts,dI ks] n Q X=Q (dI (ee (eB ts ks))) n:=by
 simp! [mN,sP,dI];(have hsz:aC=16777216:=by decide)
 have key:∀(us ps:List Int) (x1 x3:Option Ent),ff ts us->ps.length+2 * us.length<=60->gU (fQ 3) (ku 2 lM (dz (zQ (dN eY (dN eY (dA 0) (!13)) (dA 3)) zN (zO (!32))) dC))
   { nx:=eJ (p8 gF (dz (dA 2) dC)) { nx:=λx n'=>Q ae.none n',rt:=Q },rt:=Q } (us.map .int) [some (!20),x1,some (.o (ps.map .int)),x3] n=Q (dI (ee (ps++eB ts us))) n:=by
  intro us
  induction us with
  | nil =>
   intro ps x1 x3 _ hl;have h60:ps.length<=60:=by simp at hl;omega
   simp! [gU,aI,D0 (bq (Fe ps) h60) (by omega:ps.length<=100000),wa];simp[eB]
  | cons k us ih =>
   intro ps x1 x3 hu hl;rw[ak] at hl;obtain⟨t,ht,_,ha⟩:=nQ (hu k (ao ..)).1 (hu k (ao ..)).2
   have ex:lM (ps.map .int) [.tuple [.int t.1,.int t.2.1]]=some ((ps++ij ts k).map .int):=by
    simp only[lM];rw[if_pos (by rw[ar,hsz];simp;omega),B9 ht,aW];rfl
   have:=ih (ps++ij ts k) x1 (some (.s (.int k))) (λj hj=>hu j (ag _ hj)) (by rw[aQ,B9 ht];simp;omega);rw[eM] at this ⊢;simp! [gU,d9,ha,Rk,ex];rw[this,bu,<- iU]
 exact key ks [] _ _ hk (by simp only[aL];omega)
end
theorem fK {α:Type}(l:List α):l.filter (λ_=>true)=l:=by simp
theorem rW {ts:List eE}{k:Int}(h:0<=k/\k<(ts.length:Int)):sx (ts.map eO) k=some (eO (!18)):=by
 obtain⟨t,h1,_,h2⟩:=nQ h.1 h.2;rw[h2,au,h1];rfl
theorem JZ {ts:List eE}(hp:B8 ts){k:Int}(h:0<=k/\k<(ts.length:Int)):(jr ts k).natAbs<=99:=by
 obtain⟨t,h1,h3,_⟩:=nQ h.1 h.2;unfold jr;rw[au,h1];exact hp t h3
theorem yS {ts:List eE}{ks:List Int}(hp:B8 ts)(hk:ff ts ks):rK [.list ((ks.map (jr ts)).map .int)]=some (.int (cost ts ks)):=by
 simp only[rK,BB,ir,cU]
 rw[if_pos λn hn=>by
  obtain⟨k,P8,rfl⟩:=aU.mp hn;have:=JZ hp (hk k P8);omega]
 rfl
theorem MT {ts:List eE}{a b:List Int}(ha:ff ts a)(hb:ff ts b):ff ts (ee (a++b)):=λk hk=>by
 have:k∈a++b:=bR.mp (by have:=fb.mp hk;omega);exact (aX.mp this).elim (ha k) (hb k)
theorem J1 {a b:List Int}(ha:a.Pairwise (· < ·))(hb:b.Pairwise (·<=·))(h:b.Perm a):b=a:=vy h hb (ha.imp λh=>by omega)
section
variable {n:Int}{X:XQ}{Q:ae->Int->Prop}
theorem tN {many:Int}{ts:List eE}{ks:List Int}(hp:B8 ts)(hk:ff ts ks):kS [eM many ts,dI ks] n Q X=Q (.int (cost ts ks)) n:=by
 rw[dI];simp! [kS,qh]
 rw[gc (λk=>.int (jr ts k)) (λ_=>true) _ _ _ _ (λk P8 n Q=>by
  rw[eM];simp! [d9,rW (hk k P8),eO,eN,jr]) (λk _ n Q=>by simp! [dJ])]
 have e:([]++(ks.filter λ_=>true).map λk=>ae.int (jr ts k))=(ks.map (jr ts)).map .int:=by rw[fK,ay,bc];rfl
 rw[e];simp! [yS hp hk]
theorem Ca {many:Int}{ts:List eE}{ks:List Int}(hp:B8 ts)(hk:ff ts ks):kX [eM many ts,dI ks] n Q X=Q (.int (cost ts ks)) n:=by
 rw[dI];simp! [kX,qp]
 rw[gc (λk=>.int (jr ts k)) (λ_=>true) _ _ _ _ (λk P8 n Q=>by
  rw[eM];simp! [d9,rW (hk k P8),eO,eN,jr]) (λk _ n Q=>by simp! [dJ])]
 have e:([]++(ks.filter λ_=>true).map λk=>ae.int (jr ts k))=(ks.map (jr ts)).map .int:=by rw[fK,ay,bc];rfl
 rw[e];simp! [yS hp hk]
end
inductive um (ts:List eE) (s:Int):Int->List Int->List Int->Int->Prop
 | nil:um ts s s [] [s] 0
 | step {u:Int} {es ps:List Int} {c:Int} (w:um ts s u es ps c) (k:Int) (t:eE) (v:Int) (k0:0<=k) (ht:ts[k.toNat]? = some t) (h:u=t.1/\v=t.2.1\/u=t.2.1/\v=t.1) (hv:v ∉ ps):um ts s v (k::es) (v::ps) (c+t.2.2)
section
variable {ts:List eE}{s v:Int}{es ps:List Int}{c:Int}
theorem um.last (h:um ts s v es ps c):v∈ps:=by cases h<;>simp
theorem um.wk (h:um ts s v es ps c):∃vs,Wk ts s v vs c:=by
 induction h with
 | nil=>exact⟨[],.nil⟩
 | step w k t v k0 ht h hv ih =>
  obtain⟨vs,ih⟩:=ih;exact⟨_,ih.step t (bG ht) v h⟩
theorem um.ends (h:um ts s v es ps c):∀k∈es,0<=k/\∃t,ts[k.toNat]? = some t/\t.1∈ps/\t.2.1∈ps:=by
 induction h with
 | nil=>intro k hk;cases hk
 | @step u es ps c w k t v k0 ht h hv ih =>
  intro j hj;rcases ax.mp hj with rfl | hj
  .refine⟨k0,t,ht,?_⟩
   have:=w.last;rcases h with⟨rfl,rfl⟩ | ⟨rfl,rfl⟩
   .exact⟨ag _ this,ao ..⟩
   .exact⟨ao ..,ag _ this⟩
  .obtain⟨h0,t',h1,h2,h3⟩:=ih j hj
   exact⟨h0,t',h1,ag _ h2,ag _ h3⟩
theorem um.num (h:um ts s v es ps c):ff ts es:=λk hk=>by
 obtain⟨h0,t,ht,_⟩:=h.ends k hk;have:=(aG.mp ht).1;exact⟨h0,!1⟩
theorem um.QY (h:um ts s v es ps c):es.Nodup:=by
 induction h with
 | nil=>exact cg
 | @step u es ps c w k t v k0 ht h hv ih =>
  refine bj.mpr ⟨λz=>?_,ih⟩;obtain⟨_,t',Y5,h1,h2⟩:=w.ends k z;rw[ht] at Y5;cases Y5;rcases h with⟨_,rfl⟩ | ⟨_,rfl⟩
  .exact hv h2
  .exact hv h1
theorem um.cost (h:um ts s v es ps c):Odj.cost ts es=c:=by
 induction h with
 | nil=>rfl
 | @step u es ps c w k t v k0 ht h hv ih =>
  have e:Odj.cost ts (k::es)=jr ts k+Odj.cost ts es:=rfl;have e2:jr ts k=t.2.2:=by unfold jr;rw[au,ht];rfl
  rw[e,e2,ih];omega
theorem Wk.low (hp:Plain ts){u:Int}{vs:List Int}(h:Wk ts s u vs c):0<=c:=by
 induction h with
 | nil=>exact bM 0
 | step w t ht v h ih=>have:=hp t ht;omega
theorem Wk.Oh {K:List Int}(hp:Plain ts)(hs:s∈K){u:Int}{vs:List Int}(h:Wk ts s u vs c)(hu:u ∉ K):∃x y t SU c0,x∈K/\y ∉ K/\t∈ts/\(x=t.1/\y=t.2.1\/x=t.2.1/\y=t.1)/\Wk ts s x SU c0/\c0+t.2.2<=c:=by
 induction h with
 | nil=>exact absurd hs hu
 | @step u vs c w t ht v h ih =>
  by_cases hk:u∈K
  .exact⟨u,v,t,vs,c,hk,hu,ht,h,w,bM _⟩
  .obtain⟨x,y,t',SU,c0,h1,h2,h3,h4,h5,h6⟩:=ih hk
   have:=hp t ht;exact⟨x,y,t',SU,c0,h1,h2,h3,h4,h5,!1⟩
theorem rV.low {many:Nat}{hs:Hs}(hg:rV many ts s hs){u:Int}{vs:List Int}(h:Wk ts s u vs c):∃c',o5 hs u=some c'/\c'<=c:=by
 induction h with
 | nil=>exact⟨0,hg.beg,bM _⟩
 | step w t ht v h ih =>
  obtain⟨c1,h1,h2⟩:=ih;obtain⟨c2,h3,h4⟩:=hg.fit t ht _ v c1 h h1;exact⟨c2,h3,!1⟩
end
structure yT (ts:List eE) (s:Int) (K:List Int) (kvs:jn):Prop where
 keys:lr kvs=K.map λv=>[v]
 nd:K.Nodup
 st:s∈K
 val:∀v∈K,∃es ps c,um ts s v es ps c/\(∀x∈ps,x∈K)/\fY kvs [v]=some (.tuple [.int c,dI (sortI es)])/\∀vs c',Wk ts s v vs c'->c<=c'
theorem Cb {kvs:jn}{k:List Int}:(fY kvs k).isSome=true↔k∈lr kvs:=by
 rw[<- vX,cx,lr,aU];constructor
 .rintro⟨p,hp,h⟩;exact⟨p,hp,of_decide_eq_true h⟩
 .rintro⟨p,hp,h⟩;exact⟨p,hp,decide_eq_true h⟩
section
variable {ts:List eE}{s:Int}{K:List Int}{kvs:jn}
theorem yT.has (h:yT ts s K kvs)(v:Int):(fY kvs [v]).isSome=decide (v∈K):=by
 rw[cY,Cb,h.keys,decide_eq_true_eq,aU];constructor
 .rintro⟨x,hx,e⟩
  have:x=v:=by simpa using e
  rwa [<- this]
 .intro hv;exact⟨v,hv,rfl⟩
theorem yT.none (h:yT ts s K kvs){v:Int}(hv:v ∉ K):fY kvs [v]=none:=by
 have:=h.has v;rw[decide_eq_false hv] at this;exact Option.not_isSome_iff_eq_none.mp (by simp[this])
theorem yT.len (h:yT ts s K kvs):kvs.length=K.length:=by
 have:=congrArg List.length h.keys;rw[lr,ar,ar] at this;exact this
theorem yT.one (hp:Plain ts)(s:Int):yT ts s [s] [([s],.tuple [.int 0,.tuple []])]:=by
 refine⟨rfl,!4,!4,λv hv=>?_⟩;rw[ap.mp hv];refine⟨[],[s],0,.nil,!4,?_,λvs c' w=>w.low hp⟩;rw[jK,if_pos rfl];rfl
theorem yT.add (h:yT ts s K kvs){v d:Int}{es ps:List Int}(hp:um ts s v es ps d)(hv:v ∉ K)(QZ:∀x∈ps,x=v\/x∈K)(hl:∀vs c',Wk ts s v vs c'->d<=c'):yT ts s (K++[v]) (jq kvs [v] (.tuple [.int d,dI (sortI es)])):=by
 have hk:[v] ∉ lr kvs:=λz=>by
  have:=Cb.mpr z;rw[h.has,decide_eq_true_eq] at this;exact hv this
 refine⟨?_,cj.mpr ⟨h.nd,!4,λa ha b hb=>by rw[ap.mp hb];exact λz=>hv (z ▸ ha)⟩,br _ h.st,λx hx=>?_⟩
 .rw[JV,if_neg hk,h.keys,aW]
  rfl
 .rcases aX.mp hx with hx | hx
  .obtain⟨j7,ps',c,h1,h2,h3,h4⟩:=h.val x hx
   refine⟨j7,ps',c,h1,λy hy=>br _ (h2 y hy),?_,h4⟩;rw[B5,if_neg (λz=>by injection z with z;exact hv (z ▸ hx))];exact h3
  .rw[ap.mp hx]
   refine⟨es,ps,d,hp,λy hy=>?_,by rw[B5,if_pos rfl],hl⟩;rcases QZ y hy with rfl | hy
   .simp
   .exact br _ hy
theorem yT.J2 (h:yT ts s K kvs)(hp:Plain ts)(hc:∀t∈ts,(t.1∈K↔t.2.1∈K)){many:Nat}{hs:Hs}(hg:rV many ts s hs){v:Int}(v0:0<=v)(v1:v<(many:Int)) :
  match o5 hs v with | .none=>fY kvs [v]=.none | .some c=>∃es ps,um ts s v es ps c/\fY kvs [v]=some (.tuple [.int c,dI (sortI es)]):=by
 by_cases hv:v∈K
 .obtain⟨es,ps,c,h1,_,h3,h4⟩:=h.val v hv
  obtain⟨vs,w⟩:=h1.wk;obtain⟨c',e,h5⟩:=hg.low w;obtain⟨Vi,w',_⟩:=hg.way v c' v0 v1 e;have:=h4 _ _ w';have ec:c'=c:=by omega
  rw[e];exact⟨es,ps,ec ▸ h1,ec ▸ h3⟩
 .cases e:o5 hs v with
  | none=>exact h.none hv
  | some c =>
   exfalso;obtain⟨vs,w,_⟩:=hg.way v c v0 v1 e;obtain⟨x,y,t,_,_,h1,h2,h3,h4,_⟩:=w.Oh hp h.st hv;rcases h4 with⟨rfl,rfl⟩ | ⟨rfl,rfl⟩
   .exact h2 ((hc t h3).mp h1)
   .exact h2 ((hc t h3).mpr h1)
end
noncomputable abbrev D1:=Int × Int × List Int
noncomputable def iW (e:D1):ae:=.tuple [.int e.1,.int e.2.1,dI (sortI e.2.2)]
theorem we (g:Bool):∀a b:List Int,(jx g (a.map .int) (b.map .int)).isSome=true
 | [],[]=>by simp[jx]
 | [],_::_=>by simp[jx]
 | _::_,[]=>by simp[jx]
 | x::a,y::b=>by
  rw[ai,ai,jx];split
  .exact we g a b
  .rfl
theorem Ff (x b:D1):∃r,iF false (iW x) (iW b)=some r/\(r=true->x.1<=b.1)/\(r=false->b.1<=x.1):=by
 have e0:∀i j:Int,ae.eqv (.int i) (.int j)=decide (i=j):=λi j=>by simp only[ae.eqv];rfl
 rw[iW,iW,iF,jx,e0];by_cases h:x.1=b.1
 .rw[if_pos (decide_eq_true h)]
  have hs:(jx false [.int x.2.1,dI (sortI x.2.2)] [.int b.2.1,dI (sortI b.2.2)]).isSome=true:=by
   rw[jx];split
   .rw[jx]
    split
    .rfl
    .exact we false _ _
   .rfl
  obtain⟨r,hr⟩:=bX.mp hs;exact⟨r,hr,λ_=>by omega,λ_=>by omega⟩
 .rw[if_neg (by simpa using h),iF]
  exact⟨_,rfl,λz=>by have:=of_decide_eq_true z;omega,λz=>by have:=of_decide_eq_false z;omega⟩
theorem wg:∀(l:List D1) (a:D1),∃e∈a::l,jc false (iW a) (l.map iW)=iW e/\∀x∈a::l,e.1<=x.1
 | [],a=>⟨a,!4,rfl,λx hx=>by rw[ap.mp hx];omega⟩
 | b::l,a=>by
  obtain⟨r,hr,h1,h2⟩:=Ff b a;rw[ai,jc,hr,cw]
  cases r with
  | true =>
   rw[if_pos rfl];obtain⟨e,he,h3,h4⟩:=wg l b;refine⟨e,ag _ he,h3,λx hx=>?_⟩;(rcases ax.mp hx with rfl | hx)
   .have:=h4 b (ao ..)
    have:=h1 rfl;omega
   .exact h4 x hx
  | false =>
   rw[if_neg (!2)];obtain⟨e,he,h3,h4⟩:=wg l a;refine⟨e,?_,h3,λx hx=>?_⟩
   .rcases ax.mp he with rfl | he
    .simp
    .exact ag _ (ag _ he)
   .skip;(rcases ax.mp hx with rfl | hx)
    .exact h4 x (ao ..)
    .skip;(rcases ax.mp hx with rfl | hx)
     .have:=h4 a (ao ..)
      have:=h2 rfl;omega
     .exact h4 x (ag _ hx)
theorem Cc:∀ns:List Int,ae.canLayAll0 (ns.map .int)=true
 | []=>rfl
 | a::ns=>by simpa [ae.canLayAll0,ae.canLay0] using Cc ns
theorem Cd:∀ns:List Int,ae.depthAll (ns.map .int)=0
 | []=>rfl
 | a::ns=>by simp[ae.depthAll,ae.depth,Cd ns]
theorem Ka (l:List D1):xr false (l.map iW):=λx hx=>by
 obtain⟨e,_,rfl⟩:=aU.mp hx;refine⟨⟨?_,?_⟩,λy hy=>?_⟩
 .simp only[iW,dI,ae.canLay0,ae.canLayAll0,Cc,Bool.and_self]
 .simp only[iW,dI,ae.depth,ae.depthAll,Cd]
  omega
 .obtain⟨f,_,rfl⟩:=aU.mp hy
  obtain⟨r,hr,_⟩:=Ff e f;rw[hr];rfl
structure yU (many:Int) (ts:List eE) (s:Int) (K:List Int) (e:D1):Prop where
 ex:∃ps,um ts s e.2.1 e.2.2 ps e.1/\∀x∈ps,x=e.2.1\/x∈K
 nk:e.2.1 ∉ K
 v0:0<=e.2.1
 v1:e.2.1<many
theorem GY {many:Int}{ts:List eE}{s:Int}{K:List Int}{kvs:jn}(h:yT ts s K kvs)(hp:Plain ts){l:List D1}(u4:∀t∈ts,∀x y,(x=t.1/\y=t.2.1\/x=t.2.1/\y=t.1)->x∈K->y ∉ K->∀(c:Int) (es:List Int),fY kvs [x]=some (.tuple [.int c,dI es])->∃e∈l,e.1=c+t.2.2)
  {e:D1} (hk:e.2.1 ∉ K) (hm:∀x∈l,e.1<=x.1) {vs:List Int} {c':Int} (w:Wk ts s e.2.1 vs c'):e.1<=c':=by
 obtain⟨x,y,t,SU,c0,h1,h2,h3,h4,h5,h6⟩:=w.Oh hp h.st hk;obtain⟨es,ps,c,g1,_,g3,g4⟩:=h.val x h1;obtain⟨f,hf,ef⟩:=u4 t h3 x y h4 h1 h2 c (sortI es) g3;have:=hm f hf;have:=g4 _ _ h5;omega
theorem D3 {es:List Int}{k:Int}(hn:(k::es).Nodup):ee (sortI es++[k])=sortI (k::es):=by
 obtain⟨h1,h2⟩:=bj.mp hn;have hp:=sortI_perm es;have Pq:(sortI es++[k]).Nodup:=cj.mpr ⟨hp.nodup_iff.mpr h2,!4,λa ha b hb=>by rw[ap.mp hb];exact λz=>h1 (hp.mem_iff.mp (z ▸ ha))⟩;refine vz (gW _) (lH (kC _) ((sortI_perm _).nodup_iff.mpr hn)) λx=>?_;have hm:x∈sortI es++[k]↔x∈k::es:=by rw[aX,hp.mem_iff,ap,ax];exact Or.comm
 rw[fb,(sortI_perm (k::es)).mem_iff,lu Pq x];by_cases hx:x∈sortI es++[k]
 .rw[if_pos hx]
  exact⟨λ_=>hm.mp hx,λ_=>rfl⟩
 .rw[if_neg hx]
  exact⟨λz=>by omega,λz=>absurd (hm.mpr z) hx⟩
theorem rX {ts:List eE}{k:Int}(h:0<=k/\k<(ts.length:Int)):gw ts k∈ts:=by
 obtain⟨t,h1,h2,_⟩:=nQ (ts:=ts) h.1 h.2;unfold gw;rw[au,h1];exact h2
theorem Am (i:Int):qb false (.int i)=some [i]:=rfl
theorem wj {env:fC}{n:Int}{Q:ae->Int->Prop}{uk ud:UX}{v:Int}{kvs:jn}(h1:∀n Q,uk env n Q=Q (.int v) n)(h2:∀n Q,ud env n Q=Q (f6 false kvs) n):Ab uk ud env n Q=Q (.bool (fY kvs [v]).isSome) n:=by
 rw[Ab,h1,h2,Aa,dB];simp only[Am,dB]
theorem An {env:fC}{n:Int}{Q:ae->Int->Prop}{uk ud:UX}{v:Int}{kvs:jn}{d:ae}(h1:∀n Q,uk env n Q=Q (.int v) n)(h2:∀n Q,ud env n Q=Q (f6 false kvs) n)(h3:fY kvs [v]=some d):tK ud uk env n Q=Q d n:=by
 rw[tK,h2,Aa,dB];simp only[h1,Am,dB,h3]
section
variable {n:Int}{X:XQ}{Q:ae->Int->Prop}
theorem tj {many s:Int}{ts:List eE}{K:List Int}{kvs:jn}(w:B7 many ts)(oo:Plain ts)(Kb:ts.length<=16)(hT:yT ts s K kvs)
  (h1:(∀t∈ts,(t.1∈K↔t.2.1∈K))->Q .none n)
  (h2:∀e:D1,yU many ts s K e->(∀vs c',Wk ts s e.2.1 vs c'->e.1<=c')->Q (iW e) n):gy [eM many ts,f6 false kvs] n Q X:=by
 (have e0:eM many ts=.tuple [.int many,.tuple (ts.map eO)]:=rfl);have TK:ko (ts.map eO)=(fW 0 ts.length).map λk=>.tuple [.int k,eO (gw ts k)]:=v9 eO (0,0,0) ts;unfold gy kg;(simp only[iC,gV,envOf,ai,aI,ak,aL,Nat.reduceSub,Nat.reduceAdd,aE,aK,aN,ay]);with_reducible generalize Ao:eJ _=tr
 with_reducible generalize hb:fw _ _ _=b
 rw[true_and,dJ,oJ,dC];rw[3];rw[dJ,jV,Wt,dN,dA];rw[2];rw[uC,e0,dU,d9,dB];simp only[kf,dB];rw[TK,<- e0]
 refine mL (λpre post env n'=>n'=n/\pre++post=((fW 0 ts.length).map λk=>ae.tuple [.int k,eO (gw ts k)])/\∃(l:List D1) (x3 x4 x5:Option Ent),env=[some (!20),some (.s (f6 false kvs)),some (.o (l.map iW)),x3,x4,x5]/\(∀e∈l,yU many ts s K e)/\l.length<=pre.length /\
  ∀i:Int,0<=i->i<pre.length->∀x y,(x=(gw ts i).1/\y=(gw ts i).2.1\/x=(gw ts i).2.1/\y=(gw ts i).1)->x∈K->y ∉ K->∀(c:Int) (es:List Int),fY kvs [x]=some (.tuple [.int c,dI es])->∃e∈l,e.1=c+(gw ts i).2.2) _ [] _ _ ?_ ⟨rfl,rfl,[],none,none,none,rfl,!4,!4,λi h0 h1=>by simp at h1;omega⟩ ?_
 .rintro pre d post env n' E' hE ⟨rfl,hp,l,x3,x4,x5,rfl,hl,hlen,u4⟩ JG
  have Oi:pre.length<ts.length:=by
   have:=congrArg List.length hp;rw[aQ,ak,ar,e8] at this;omega
  have hd:d=.tuple [.int (pre.length:Nat),eO (gw ts (pre.length:Nat))]:=by
   have h1:=congrArg (λl=>l[pre.length]?) hp;simp only[bP (aw _),Nat.sub_self,aa,az] at h1;unfold fW at h1;rw[az,cK Oi] at h1;simpa using h1
  subst hd;obtain⟨k,hk⟩:∃k:Int,k=(pre.length:Nat):=⟨_,rfl⟩;have hm:=rX (ts:=ts) (k:=k) (!1)
  have D4:ts[k.toNat]? = some (gw ts k):=by
   unfold gw;rw[au,aM (!1)];rfl
  rw[<- hk];have hw:=w _ hm;generalize ht:gw ts k=t at hm D4 hw;simp only[Bs,Gu,fQ,av,aq];rw[<- hb];have Xr:∀n Q,dN eY (dA 4) (uC (ae.int 0)) [some (!20),some (.s (f6 false kvs)),some (.o (l.map iW)),some (.s (.int k)),some (.s (eO t)),x5] n Q=Q (.int t.1) n:=λn Q=>by simp! [eO,d8]
  have Y6:∀n Q,dN eY (dA 4) (uC (ae.int 1)) [some (!20),some (.s (f6 false kvs)),some (.o (l.map iW)),some (.s (.int k)),some (.s (eO t)),x5] n Q=Q (.int t.2.1) n:=λn Q=>by simp! [eO,d9]
  have Xs:∀n Q,dA 1 [some (!20),some (.s (f6 false kvs)),some (.o (l.map iW)),some (.s (.int k)),some (.s (eO t)),x5] n Q=Q (f6 false kvs) n:=λn Q=>by simp only[dA,aa,ac]
  rw[fw,eC,dN,wj Xr Xs,wj Y6 Xs,hT.has,hT.has,Jj,dB,dR]
  have LK:∀(l':List D1) (x5:Option Ent),(∀e∈l',yU many ts s K e)->l'.length<=pre.length+1->(∀e∈l,e∈l')->(∀x y,(x=t.1/\y=t.2.1\/x=t.2.1/\y=t.1)->x∈K->y ∉ K->∀(c:Int) (es:List Int),fY kvs [x]=some (.tuple [.int c,dI es])->∃e∈l',e.1=c+t.2.2) ->
    E'.nx [some (!20),some (.s (f6 false kvs)),some (.o (l'.map iW)),some (.s (.int k)),some (.s (eO t)),x5] n':=λl' x5 g1 g2 g3 g4=>by
   refine JG _ _ ⟨rfl,by rw[bu];exact hp,l',_,_,_,rfl,g1,by simpa using g2,λi i0 i1=>?_⟩;rw[aQ,bA] at i1;by_cases hi:i<(pre.length:Int)
   .intro x y Hr hx hy c es hv
    obtain⟨e,he,e1⟩:=u4 i i0 hi x y Hr hx hy c es hv;exact⟨e,g3 e he,e1⟩
   .have:i=k:=by omega
    rw[this,ht];exact g4
  by_cases hx:decide (t.1∈K)=decide (t.2.1∈K)
  .have hf:(!(decide (t.1∈K) == decide (t.2.1∈K)))=false:=by simp[hx]
   rw[hf,if_neg (!2),fq];have Up:=decide_eq_decide.mp hx;refine LK l _ hl (!1) (λe he=>he) λx y Hr Uq Xt=>?_;exfalso;rcases Hr with⟨rfl,rfl⟩ | ⟨rfl,rfl⟩
   .exact Xt (Up.mp Uq)
   .exact Xt (Up.mpr Uq)
  .have hf:(!(decide (t.1∈K) == decide (t.2.1∈K)))=true:=by simp[hx]
   rw[hf,if_pos rfl,dJ,d7,tV,eC,wj Xr Xs,hT.has,dR]
   obtain⟨near,Fg,hnr,Y7,Ur,gX⟩:∃near Fg:Int,(if decide (t.1∈K)=true then t.1 else t.2.1)=near/\near∈K/\Fg ∉ K/\(near=t.1/\Fg=t.2.1\/near=t.2.1/\Fg=t.1):=by
    by_cases h1:t.1∈K
    .have h2:t.2.1 ∉ K:=λz=>hx (by rw[decide_eq_true h1,decide_eq_true z])
     exact⟨t.1,t.2.1,by rw[decide_eq_true h1];rfl,h1,h2,.inl ⟨rfl,rfl⟩⟩
    .have h2:t.2.1∈K:=Classical.byContradiction λz=>hx (by rw[decide_eq_false h1,decide_eq_false z])
     exact⟨t.2.1,t.1,by rw[decide_eq_false h1];rfl,h2,h1,.inr ⟨rfl,rfl⟩⟩
   have Vj:∀(K':ae->Int->Prop),(if decide (t.1∈K)=true then dN eY (dA 4) (uC (ae.int 0)) [some (!20),some (.s (f6 false kvs)),some (.o (l.map iW)),some (.s (.int k)),some (.s (eO t)),x5] n' K' else dN eY (dA 4) (uC (ae.int 1)) [some (!20),some (.s (f6 false kvs)),some (.o (l.map iW)),some (.s (.int k)),some (.s (eO t)),x5] n' K')=K' (.int near) n':=λK'=>by
    rw[Xr,Y6,<- hnr];split<;>rfl
   rw[Vj];rw[3];obtain⟨es,ps,c,g1,g2,g3,g4⟩:=hT.val near Y7;have hvn:Fg ∉ ps:=λz=>Ur (g2 Fg z);have Us:0<=Fg/\Fg<many:=by rcases gX with⟨_,rfl⟩ | ⟨_,rfl⟩<;>omega
   have SR:um ts s Fg (k::es) (Fg::ps) (c+t.2.2):=g1.step k t Fg (!1) D4 gX hvn
   have hoe:pC t near=Fg:=by
    unfold pC;rcases gX with⟨rfl,rfl⟩ | ⟨rfl,rfl⟩
    .rw[if_pos rfl]
    .rw[if_neg (λz:t.1=t.2.1=>Ur (by rw[z];exact Y7))]
   have aaa:es.length<=16:=by
    have:=gk g1.QY (ns:=fW 0 ts.length) λv hv=>fy.mpr (by have:=g1.num v hv;omega);rw[e8] at this;omega
   have MU:(sortI es).length=es.length:=(sortI_perm es).length_eq;have tX:∀n Q,tK (dA 1) (dA 5) [some (!20),some (.s (f6 false kvs)),some (.o (l.map iW)),some (.s (.int k)),some (.s (eO t)),some (.s (.int near))] n Q=Q (.tuple [.int c,dI (sortI es)]) n:=λn Q=>An (λn Q=>by simp only[dA,aa,ac]) (λn Q=>by simp only[dA,aa,ac]) g3;have htd:eY (eO t) (.int 2)=some (.int t.2.2):=by rw[eO,dU,eN]
   rw[ku];rw[2];rw[dz,d5,dz,dN,dN,tX,uC,dU,d8,dB,dN,dA];rw[2];rw[uC,htd,dB,yJ,dB,dz,dE,dz,dD];rw[25];rw[dC,Al,hoe,dz,dE,dz,dN,tX,uC,dU,d9,dB,dz,d5,dz,dD];rw[2];rw[dC,dC,show ae.tuple [.int k]=dI [k] from rfl,f' (by rw[MU];simp;omega),D3 SR.QY,dC,dC];rw[kQ (by rw[ar];omega),dB]
   have:=LK (l++[(c+t.2.2,Fg,k::es)]) (some (.s (.int near))) (λe he=>by
    rcases aX.mp he with he | he
    .exact hl e he
    .rw[ap.mp he]
     exact⟨⟨Fg::ps,SR,λx hx=>by rcases ax.mp hx with hx | hx;exact .inl hx;exact .inr (g2 x hx)⟩,Ur,Us.1,Us.2⟩) (by simp;omega) (λe he=>br _ he) (λx y Hr Uq Xt c' j7 hv=>by
    have hxn:x=near:=by
     rcases gX with⟨rfl,rfl⟩ | ⟨rfl,rfl⟩
     .rcases Hr with⟨rfl,rfl⟩ | ⟨rfl,rfl⟩
      .rfl
      .exact absurd Uq Ur
     .rcases Hr with⟨rfl,rfl⟩ | ⟨rfl,rfl⟩
      .exact absurd Uq Ur
      .rfl
    rw[hxn,g3] at hv;injection hv with hv;injection hv with hv;injection hv with hv _;injection hv with hv;exact⟨_,be _ (ap.mpr rfl),by rw[<- hv]⟩)
   rw[aW] at this;exact this
 .rintro pre env n' ⟨rfl,hp,l,x3,x4,x5,rfl,hl,hlen,u4⟩
  rw[bY] at hp;have Oi:pre.length=ts.length:=by rw[hp,ar,e8]
  have Oj:∀t∈ts,∀x y,(x=t.1/\y=t.2.1\/x=t.2.1/\y=t.1)->x∈K->y ∉ K->∀(c:Int) (es:List Int),fY kvs [x]=some (.tuple [.int c,dI es])->∃e∈l,e.1=c+t.2.2:=λt ht=>by
   obtain⟨i,hi,rfl⟩:=cZ ht
   have e:gw ts (i:Nat)=ts[i]:=by
    unfold gw;rw[a9,au,aM hi];rfl
   have:=u4 (i:Nat) (!1) (!1);rwa [e] at this
  show tr _ _ n';rw[<- Ao,eJ,JB,dA];rw[2]
  cases l with
  | nil =>
   refine h1 λt ht=>?_
   have key:∀x y,(x=t.1/\y=t.2.1\/x=t.2.1/\y=t.1)->x∈K->y∈K:=λx y Hr hx=>Classical.byContradiction λhy=>by
    obtain⟨es,ps,c,_,_,g3,_⟩:=hT.val x hx;obtain⟨e,he,_⟩:=Oj t ht x y Hr hx hy c _ g3;cases he
   exact⟨key _ _ (.inl ⟨rfl,rfl⟩),key _ _ (.inr ⟨rfl,rfl⟩)⟩
  | cons a l =>
   obtain⟨e,he,h3,h4⟩:=wg l a;refine⟨Ka (a::l),?_⟩;rw[h3];exact h2 e (hl e he) λvs c' wk=>GY (many:=many) hT oo Oj (hl e he).nk h4 wk
theorem rY {many s:Int}{ts:List eE}(w:B7 many ts)(oo:Plain ts)(Kb:ts.length<=16)(m1:many<=60)(s0:0<=s)(s1:s<many)
  (h:∀(K:List Int) (kvs:jn),yT ts s K kvs->(∀t∈ts,(t.1∈K↔t.2.1∈K))->Q (f6 false kvs) n):jZ [eM many ts,.int s] n Q X:=by
 (have hsz:aC=16777216:=by decide);unfold jZ oR;(simp only[iC,gV,envOf,ai,aI,ak,aL,Nat.reduceSub,Nat.reduceAdd,aE,aK,aN,ay]);with_reducible generalize Ao:oI 2=tr
 with_reducible generalize hwb:dJ (vJ 2 _ _) _=wb
 rw[true_and,dJ,DF,dD];rw[2];rw[d5,dz,uC,dz,d5,dC,dC];simp only[Am,dB];intro a ha;rw[3];rw[dJ,d7,p8,dz,dA];rw[2];rw[dz,dA];rw[2];rw[dC]
 have nls:∀e:D1,kx (iW e)=true:=λe=>by
  have:=wa (sortI e.2.2);simp only[iW,kx,kP,this,Bool.and_self]
 have hW:∀(K:List Int) (kvs:jn) (x3:Option Ent) (E:rA) (P:ae->Int->Prop),yT ts s K kvs->((∀t∈ts,(t.1∈K↔t.2.1∈K))->P .none n)->(∀e:D1,yU many ts s K e->(∀vs c',Wk ts s e.2.1 vs c'->e.1<=c')->P (iW e) n)->gy [eM many ts,f6 false kvs] n (λd n'=>kx d=true/\P d n') Gx:=λK kvs x3 E P hT g1 g2 =>
  tj w oo Kb hT (λhc=>⟨rfl,g1 hc⟩) λe he hl=>⟨nls e,g2 e he hl⟩
 have Vj:∀d n',n'=n->(d=.none/\(∀t∈ts,(t.1∈[s]↔t.2.1∈[s]))\/∃e:D1,d=iW e/\yU many ts s [s] e/\∀vs c',Wk ts s e.2.1 vs c'->e.1<=c')->dJ (sG (eC (dN oH (dA 3) (uC ae.none))) wb) tr { nx:=λx n'=>Q ae.none n',rt:=Q } [some (!20),some (.s (.int s)),some (.d a false [([s],.tuple [.int 0,.tuple []])]),some (.s d)] n':=λd n' en hd=>by
  subst en;rw[dJ];unfold sG;refine⟨λm env Xu=>Xu=n'/\∃(K:List Int) (kvs:jn) (d:ae),env=[some (!20),some (.s (.int s)),some (.d a false kvs),some (.s d)]/\yT ts s K kvs/\(∀v∈K,0<=v/\v<many)/\m+K.length=60/\(d=.none/\(∀t∈ts,(t.1∈K↔t.2.1∈K))\/∃e:D1,d=iW e/\yU many ts s K e/\∀vs c',Wk ts s e.2.1 vs c'->e.1<=c'),⟨59,rfl,[s],_,d,rfl,yT.one oo s,λv hv=>by rw[ap.mp hv];exact⟨s0,s1⟩,rfl,hd⟩,?_⟩;rintro m env Xu ⟨rfl,K,kvs,d,rfl,hT,hK,hm,hd⟩;rw[eC,dN,dA];rw[2];rcases hd with⟨rfl,Dn⟩ | ⟨e,rfl,he,hl⟩
  .have e1:oH .none .none=some (.bool false):=rfl
   rw[uC,e1,dB,dR,if_neg (!2)];show tr _ _ Xu;rw[<- Ao,oI];rw[2];exact h K kvs hT Dn
  .have e1:oH (iW e) .none=some (!37):=rfl
   obtain⟨ps,hp,QZ⟩:=he.ex;have Vk:=hT.add hp he.nk QZ hl
   have Xv:∀v∈K++[e.2.1],0<=v/\v<many:=λv hv=>by
    rcases aX.mp hv with hv | hv
    .exact hK v hv
    .rw[ap.mp hv];exact⟨he.v0,he.v1⟩
   have hlen:(K++[e.2.1]).length<=60:=by
    have:=gk Vk.nd (ns:=fW 0 many.toNat) λv hv=>fy.mpr (by have:=Xv v hv;omega);rw[e8] at this;omega
   rw[aQ,bA] at hlen;have i0:eY (iW e) (.int 0)=some (.int e.1):=by rw[iW,dU,d8]
   have i1:eY (iW e) (.int 1)=some (.int e.2.1):=by rw[iW,dU,d9]
   have i2:eY (iW e) (.int 2)=some (dI (sortI e.2.2)):=by rw[iW,dU,eN]
   rw[uC,e1,dB,dR,if_pos rfl,<- hwb,dJ,vJ,d5,dz,dN,dA];rw[2];rw[uC,i0,dB,dz,dN,dA];rw[2];rw[uC,i2,dB,dC];simp only[dN,dA,uC,aa,ac,i1,dB,Am];refine⟨⟨by rw[hT.len];omega,λj t' kv hj z=>?_⟩,?_⟩
   .match j,hj,z with
    | 0,_,z=>simp at z
    | 1,_,z=>simp at z
    | 2,hj,_=>exact hj rfl
    | 3,_,z=>simp at z
    | j+4,_,z=>simp at z
   rw[3];rw[d7,p8,dz,dA];rw[2];rw[dz,dA];rw[2];rw[dC];refine hW (K++[e.2.1]) _ none { nx:=λ_ _=>True,rt:=Q } _ Vk (λDn=>?_) λe' Gw hl'=>?_
   .exact⟨m - 1,!1,rfl,K++[e.2.1],_,_,rfl,Vk,Xv,by simp;omega,.inl ⟨rfl,Dn⟩⟩
   .exact⟨m - 1,!1,rfl,K++[e.2.1],_,_,rfl,Vk,Xv,by simp;omega,.inr ⟨e',rfl,Gw,hl'⟩⟩
 refine hW [s] _ none { nx:=λ_ _=>True,rt:=Q } _ (yT.one oo s) (λDn=>?_) λe he hl=>?_
 .exact Vj _ _ rfl (.inl ⟨rfl,Dn⟩)
 .exact Vj _ _ rfl (.inr ⟨e,rfl,he,hl⟩)
end
structure MV (many:Int) (t:eE):Prop where
 a0:0<=t.1
 ab:t.1<t.2.1
 bm:t.2.1<many
 pl:t.2.2.natAbs<=99
structure gI (many:Int) (ts:List eE):Prop where
 m0:1<=many
 m1:many<=9
 ok:∀t∈ts,MV many t
structure Xw (ts:List eE) (a:List Int):Prop where
 lt:a.Pairwise (· < ·)
 ok:ff ts a
 len:a.length<=16
theorem Ap {many:Int}{ts:List eE}(w:gI many ts):B8 ts:=λt ht=>(w.ok t ht).pl
theorem yV (x:Str):GB (.str x) (.str x)=some (.bool false):=by simp[GB]
theorem Aq {ts:List eE}(hp:B8 ts):∀{ks:List Int},ff ts ks->(cost ts ks).natAbs<=99 * ks.length
 | [],_=>aw _
 | k::ks,h=>by
  have ih:=Aq hp (ks:=ks) λi hi=>h i (ag _ hi);have h1:=JZ hp (h k (ao ..));have e:cost ts (k::ks)=jr ts k+cost ts ks:=rfl;rw[e,ak];omega
theorem pE {uc:UT}{Q:List ae->Int->Prop}(hc:∀(d:ae) (n:Int) (Q:Bool->Int->Prop),n+1<=mK->(∀b,Q b (n+1))->uc [some (.s d),none] n Q):∀(xs acc:List Int) (x:Option Ent) (n:Int),n+xs.length<=mK->(∀sub:List Int,sub.Sublist xs->Q ((acc++sub).map .int) (n+xs.length))->fm (fQ 0) uc (dD 0) Q (xs.map .int) (acc.map .int) [x,none] n
 | [],acc,x,n,hn,h=>by
  have:=h [] (List.Sublist.refl _);rw[bY] at this;simpa [fm] using this
 | k::xs,acc,x,n,hn,h=>by
  rw[ak] at hn;simp only[ai,fm,fQ,aq];refine hc _ _ _ (!1) λb=>?_;have e1:n+1+(xs.length:Int)=n+((xs.length+1:Nat):Int):=by omega
  cases b with
  | true =>
   simp only[if_true,dD,aa];have e2:acc.map ae.int++[.int k]=(acc++[k]).map .int:=by rw[aW];rfl
   rw[e2];refine pE hc xs (acc++[k]) _ (n+1) (!1) λsub hs=>?_;have:=h (k::sub) (hs.cons_cons k);rw[bu,e1];exact this
  | false =>
   simp only[bQ,if_false];refine pE hc xs acc _ (n+1) (!1) λsub hs=>?_;have:=h sub (hs.cons k);rw[e1];exact this
theorem pF (m:Nat):(fW 0 m).Pairwise (· < ·):=by
 unfold fW;exact dg.mpr (List.pairwise_lt_range.imp λh=>by omega)
theorem Kc {ts:List eE}{sub:List Int}(hl:ts.length<=16)(h:sub.Sublist (fW 0 ts.length)):Xw ts sub:=by
 refine⟨(pF _).sublist h,λk hk=>?_,?_⟩
 .have:=fy.mp (h.subset hk)
  omega
 .have:=h.length_le
  rw[e8] at this;omega
theorem GZ (a b:List Int):ee (b++a)=ee (a++b):=by
 refine J1 (gW _) ((gW _).imp λh=>by omega) ((bb (fM _) (fM _)).mpr λk=>?_);rw[fb,fb,bp,bp,Nat.add_comm]
noncomputable def nV:Nat->List (List Int)
 | 0=>[[]]
 | k+1=>nV k++(nV k).map (·++[(k:Int)])
theorem wm:∀k,(nV k).length=2 ^ k
 | 0=>rfl
 | k+1=>by
  rw[nV,aQ,ar,wm k,Nat.pow_succ];omega
theorem G0 (k:Nat):fW 0 (k+1)=fW 0 k++[(k:Int)]:=by
 unfold fW;rw[List.range_succ,aW];simp
theorem j5:∀{k:Nat} {s:List Int},s∈nV k↔s.Sublist (fW 0 k)
 | 0,s=>by
  show s∈[[]]↔s.Sublist [];simp
 | k+1,s=>by
  rw[nV,G0,aX,j5 (k:=k),List.sublist_append_iff];constructor
  .rintro (h | h)
   .exact⟨s,[],!4,h,!4⟩
   .obtain⟨r,hr,rfl⟩:=aU.mp h
    exact⟨r,[(k:Int)],rfl,j5.mp hr,List.Sublist.refl _⟩
  .rintro⟨a,b,rfl,ha,hb⟩
   rcases List.sublist_cons_iff.mp hb with hb | ⟨r,rfl,hr⟩
   .have:=List.sublist_nil.mp hb
    subst this;left;simpa using ha
   .have:=List.sublist_nil.mp hr
    subst this;right;exact aU.mpr ⟨a,j5.mpr ha,rfl⟩
theorem Ce (row:List Int)(v:Int):(ee row).count v % 2=row.count v % 2:=by
 rw[lu (fM row)];by_cases h:v∈ee row
 .rw[if_pos h,fb.mp h]
 .rw[if_neg h]
  have:¬ row.count v % 2=1:=λz=>h (fb.mpr z);omega
theorem Kd {a b:List Int}(h:∀v,a.count v % 2=b.count v % 2):ee a=ee b :=
 J1 (gW b) ((gW a).imp λh=>by omega) ((bb (fM a) (fM b)).mpr λv=>by rw[fb,fb,h v])
theorem tm {many:Int}{ts:List eE}(w:gI many ts){k:Int}(h:0<=k/\k<(ts.length:Int)):MV many (!18):=by
 obtain⟨t,h1,h2,_⟩:=nQ h.1 h.2;rw[au,h1];exact w.ok t h2
theorem Fh {many:Int}{ts:List eE}(w:gI many ts):∀{s:List Int},ff ts s->∀v∈eB ts s,0<=v/\v<many
 | [],_,v,hv=>by simp[eB] at hv
 | k::s,h,v,hv=>by
  rw[iU] at hv;have ht:=tm w (h k (ao ..));have a0:=ht.a0;have ab:=ht.ab;have bm:=ht.bm;rcases aX.mp hv with hv | hv
  .unfold ij at hv
   rcases ax.mp hv with rfl | hv
   .omega
   .rw[ap.mp hv];omega
  .exact Fh w (λi hi=>h i (ag _ hi)) v hv
theorem Ar {many:Int}{ts:List eE}(w:gI many ts){s:List Int}(h:ff ts s):∀v∈ee (eB ts s),0<=v/\v<many:=λv hv =>
 Fh w h v (bR.mp (by have:=fb.mp hv;omega))
theorem Cf {many:Int}{ts:List eE}(w:gI many ts){s:List Int}(h:ff ts s):(ee (eB ts s)).length<=9:=by
 have:=gk (fM (eB ts s)) (ns:=fW 0 many.toNat) λv hv=>fy.mpr (by have:=Ar w h v hv;omega);rw[e8] at this;have:=w.m1;omega
structure eF (ts:List eE) (told s:List Int):Prop where
 num:ff ts s
 nd:s.Nodup
 odd:∀v,(eB ts s).count v % 2=1↔v∈told
noncomputable def ix (ts:List eE)(told:List Int)(c:Int):Prop:=(∃s,eF ts told s/\cost ts s=c)/\∀s,eF ts told s->c<=cost ts s
theorem ix.one {ts:List eE}{told:List Int}{c d:Int}(h:ix ts told c)(k:ix ts told d):c=d:=by
 obtain⟨⟨s,hs,rfl⟩,h2⟩:=h;obtain⟨⟨t,ht,rfl⟩,k2⟩:=k;exact Int.le_antisymm (h2 t ht) (k2 s hs)
theorem j6 {ts:List eE}(hp:Plain ts):∀{s:List Int},ff ts s->0<=cost ts s
 | [],_=>bM _
 | k::s,h=>by
  have h1:=j6 hp (s:=s) λj hj=>h j (ag _ hj);have h2:=hp _ (rX (h k (ao ..)));have e:cost ts (k::s)=jr ts k+cost ts s:=rfl;have h3:0<=jr ts k:=h2;omega
theorem Cg {ts:List eE}{told:List Int}(hp:Plain ts)(h:∃s,eF ts told s):∃c,ix ts told c:=by
 have key:∀(m:Nat) (s:List Int),eF ts told s->(cost ts s).toNat<=m->∃c,ix ts told c:=by
  intro m
  induction m with
  | zero =>
   intro s hs hm;have h0:=j6 hp hs.num;exact⟨cost ts s,⟨s,hs,rfl⟩,λt ht=>by have:=j6 hp ht.num;omega⟩
  | succ m ih =>
   intro s hs hm;by_cases hz:∃t,eF ts told t/\cost ts t<cost ts s
   .obtain⟨t,ht,lB⟩:=hz
    have h0:=j6 hp ht.num;exact ih t ht (!1)
   .exact⟨cost ts s,⟨s,hs,rfl⟩,λt ht=>Int.not_lt.mp λz=>hz ⟨t,ht,z⟩⟩
 obtain⟨s,hs⟩:=h;exact key _ s hs (aw _)
theorem rZ {l:List Int}(hl:l.Nodup){a b:Int}(pM:a≠b){v:Int}:v∈ee (l++[a,b])↔¬ (v∈l↔(v=a\/v=b)):=by
 rw[gh hl (by simp[pM])];simp
theorem eF.turns {ts:List eE}{A B C s t:List Int}(h:eF ts A s)(k:eF ts B t)(hC:∀v,v∈C↔¬ (v∈A↔v∈B)):eF ts C (ee (s++t)):=by
 refine⟨MT h.num k.num,fM _,λv=>?_⟩;have hp:=iV (ts:=ts) (qL h.nd k.nd);have e1:=sZ (ts:=ts) (r:=s.filter λj=>decide (j∈t)) h.nd (h.nd.filter _) (λj hj=>(aJ.mp hj).1) v;have e2:=sZ (ts:=ts) (r:=t.filter λj=>decide (j∈s)) k.nd (k.nd.filter _) (λj hj=>(aJ.mp hj).1) v;have e3:=(iV (ts:=ts) (yM h.nd k.nd)).count_eq v;have e4:=hp.count_eq v;rw[rT,bp] at e4;have f1:(s.filter λj=>!decide (j∈s.filter λj=>decide (j∈t)))=s.filter λj=>!decide (j∈t):=List.filter_congr λj hj=>by simp[hj]
 have f2:(t.filter λj=>!decide (j∈t.filter λj=>decide (j∈s)))=t.filter λj=>!decide (j∈s):=List.filter_congr λj hj=>by simp[hj]
 rw[f1] at e1;rw[f2] at e2;have o1:=h.odd v;have o2:=k.odd v;rw[hC v,<- o1,<- o2];omega
theorem wo {ts:List eE}(hp:Plain ts){s t:List Int}(hs:ff ts s)(ht:ff ts t)(ns:s.Nodup)(nt:t.Nodup):cost ts (ee (s++t))<=cost ts s+cost ts t:=by
 rw[gA (qL ns nt),j4];have e1:=nR ts (λk=>decide (k∈t)) s;have e2:=nR ts (λk=>decide (k∈s)) t;have l1:=j6 hp (s:=s.filter λk=>decide (k∈t)) λj hj=>hs j (aJ.mp hj).1;have l2:=j6 hp (s:=t.filter λk=>decide (k∈s)) λj hj=>ht j (aJ.mp hj).1;omega
noncomputable def wq (b:Bool):Nat:=if b=true then 1 else 0
theorem Ke {ts:List eE}(rest:List Int){a:Int}:∀(m:Nat) (s:List Int) (x:Int) (vs:List Int) (c:Int),s.length<=m->ff ts s->s.Nodup->Wk ts a x vs c->(∀v,(eB ts s).count v % 2=(wq (decide (v∈rest))+wq (decide (v=x))) % 2) ->
  ∃b∈rest,∃Vi c' s',Wk ts a b Vi c'/\ff ts s'/\s'.Nodup/\(∀v,(eB ts s').count v % 2=(wq (decide (v∈rest))+wq (decide (v=b))) % 2)/\c' + cost ts s'<=c+cost ts s:=by
 intro m
 induction m with
 | zero =>
  intro s x vs c hl hn hd hw ho;have e:s=[]:=ci (!1);subst e;by_cases hx:x∈rest
  .exact⟨x,hx,vs,c,[],hw,hn,hd,ho,bM _⟩
  .have:=ho x
   simp[eB,wq,hx] at this
 | succ m ih =>
  intro s x vs c hl hn hd hw ho;by_cases hx:x∈rest
  .exact⟨x,hx,vs,c,s,hw,hn,hd,ho,bM _⟩
  .have h1:(eB ts s).count x % 2=1:=by rw[ho x];simp[wq,hx]
   have xB:x∈eB ts s:=bR.mp (!1);obtain⟨l,Mz,zq⟩:=List.mem_flatten.mp xB;obtain⟨k,hk,rfl⟩:=aU.mp Mz;have Va:=hn k hk;have htm:=rX (ts:=ts) Va;have Vh:ij ts k=[(gw ts k).1,(gw ts k).2.1]:=rfl;rw[Vh] at zq
   obtain⟨y,hy⟩:∃y,x=(gw ts k).1/\y=(gw ts k).2.1\/x=(gw ts k).2.1/\y=(gw ts k).1:=by
    simp only[ax,bw,or_false] at zq;rcases zq with e | e
    .exact⟨_,.inl ⟨e,rfl⟩⟩
    .exact⟨_,.inr ⟨e,rfl⟩⟩
   have TJ:=Wk.step hw (gw ts k) htm y hy;have JI:=sZ (ts:=ts) (r:=[k]) hd (!4) (by simpa using hk);have hp:=vY hd (by simp:([k]:List Int).Nodup) (by simpa using hk)
   have hlen:(s.filter λj=>!decide (j∈[k])).length<=m:=by
    have:=hp.length_eq;rw[aQ,bA] at this;omega
   have Ol:cost ts s=jr ts k+cost ts (s.filter λj=>!decide (j∈[k])):=by
    rw[gA hp,j4];simp[cost]
   have Xx:∀v,(eB ts [k]).count v=wq (decide (v=x))+wq (decide (v=y)):=λv=>by
    have e:eB ts [k]=[(gw ts k).1,(gw ts k).2.1]:=by rw[iU,Vh];rfl
    have c1:∀z:Int,[z].count v=wq (decide (v=z)):=λz=>by
     rw[bS];unfold wq;by_cases h:v=z
     .subst h;simp
     .have h2:¬ z=v:=λq=>h q.symm
      simp[h,h2]
    have c2:∀z w:Int,[z,w].count v=wq (decide (v=z))+wq (decide (v=w)):=λz w=>by
     rw[show ([z,w]:List Int)=[z]++[w] from rfl,bp,c1,c1]
    rw[e,c2];rcases hy with⟨rfl,rfl⟩ | ⟨rfl,rfl⟩<;>omega
   obtain⟨b,hb,Vi,c',s',w',n',d',o',le'⟩:=ih (s.filter λj=>!decide (j∈[k])) y _ _ hlen (λj hj=>hn j (aJ.mp hj).1) (hd.filter _) TJ λv=>by
    have h2:=JI v;have h3:=Xx v;have h4:=ho v;omega
   refine⟨b,hb,Vi,c',s',w',n',d',o',?_⟩;have e:(gw ts k).2.2=jr ts k:=rfl;rw[Ol];omega
theorem wu {many:Nat}{ts:List eE}{a:Int}{rest s:List Int}{hs:Hs}(hg:rV many ts a hs)(hn:(a::rest).Nodup)(h:eF ts (a::rest) s) :
  ∃b∈rest,∃d s',o5 hs b=some d/\eF ts (ee ((a::rest)++[a,b])) s'/\d+cost ts s'<=cost ts s:=by
 obtain⟨na,nr⟩:=bj.mp hn
 obtain⟨b,hb,vs,c,s',w,n',d',o',le⟩:=Ke (ts:=ts) rest _ s a [] 0 (aw _) h.num h.nd .nil λv=>by
  have:=h.odd v;rw[ax] at this;by_cases z:v=a
  .subst z
   rw[this.mpr (.inl rfl)];simp[wq,na]
  .by_cases zr:v∈rest
   .rw[this.mpr (.inr zr)]
    simp[wq,z,zr]
   .have h0:¬ (eB ts s).count v % 2=1:=λq=>by rcases this.mp q with q | q;exact z q;exact zr q
    simp[wq,z,zr];omega
 have pM:a≠b:=λz=>na (z ▸ hb);obtain⟨d,hd,Ml⟩:=hg.low w;refine⟨b,hb,d,s',hd,⟨n',d',λv=>?_⟩,!1⟩;rw[rZ hn pM,o' v];by_cases z:v=a
 .subst z
  simp[wq,na,pM]
 .by_cases zb:v=b
  .subst zb
   simp[wq,hb]
  .by_cases zr:v∈rest<;>simp[wq,z,zb,zr]
theorem yW {many:Nat}{ts:List eE}{a b d:Int}{rest s':List Int}{hs:Hs}(hp:Plain ts)(hg:rV many ts a hs)(hn:(a::rest).Nodup)(hb:b∈rest)(b0:0<=b)(b1:b<(many:Int))(hd:o5 hs b=some d)(h:eF ts (ee ((a::rest)++[a,b])) s') :
  ∃s,eF ts (a::rest) s/\cost ts s<=d+cost ts s':=by
 obtain⟨na,nr⟩:=bj.mp hn;have pM:a≠b:=λz=>na (z ▸ hb);obtain⟨ks,k1,k2,k3,k4⟩:=hg.set b0 b1 hd
 have hk:eF ts [a,b] ks:=⟨k1,iw k2,λv=>by
  have:=congrArg (λl=>v∈l) k3;simp only[eq_iff_iff] at this;rw[<- fb,this,fb,bp,bS,bS];by_cases z1:v=a
  .subst z1;simp[pM.symm]
  .by_cases z2:v=b
   .subst z2;simp[Ne.symm z1]
   .simp[z1,z2,Ne.symm z1,Ne.symm z2]⟩
 refine⟨ee (ks++s'),hk.turns h λv=>?_,by rw[<- k4];exact wo hp k1 h.num (iw k2) h.nd⟩;rw[rZ hn pM];by_cases z1:v=a
 .subst z1;simp
 .by_cases z2:v=b
  .subst z2;simp[hb]
  .simp[z1,z2]
noncomputable def D5 (ts:List eE)(told:List Int)(d:ae):Prop:=(∃c,d=.int c/\ix ts told c)\/(d=.none/\¬ ∃s,eF ts told s)
structure Rg (many:Int) (told:List Int):Prop where
 lt:told.Pairwise (· < ·)
 rg:∀v∈told,0<=v/\v<many
theorem Q0 {m:Nat}(h:m<=9):2 ^ m<100000:=cA (cW (n:=2) (!2) h) (!2)
noncomputable def Kf (many:Int)(hm:many<=9)(ts:List eE):lZ:=⟨D5 ts,nV many.toNat,[],by rw[wm];exact Q0 (!1)⟩
theorem Rg.sub {many:Int}{told:List Int}(h:Rg many told):told∈nV many.toNat:=by
 rw[j5]
 have e:told=(fW 0 many.toNat).filter λk=>decide (k∈told):=vz h.lt ((pF _).sublist cv) λk=>by
  rw[aJ,fy];exact⟨λhk=>⟨by have:=h.rg k hk;omega,decide_eq_true hk⟩,λhk=>of_decide_eq_true hk.2⟩
 rw[e];exact cv
theorem Rg.len {many:Int}{told:List Int}(h:Rg many told)(hm:many<=9):told.length<=9:=by
 have:=gk (iw h.lt) (ns:=fW 0 many.toNat) λk hk=>fy.mpr (by have:=h.rg k hk;omega);rw[e8] at this;omega
theorem Rg.less {many a b:Int}{rest:List Int}(h:Rg many (a::rest))(hb:b∈rest):Rg many (ee ((a::rest)++[a,b]))/\(ee ((a::rest)++[a,b])).length+2=(a::rest).length:=by
 have hn:=iw h.lt;obtain⟨na,nr⟩:=bj.mp hn;have pM:a≠b:=λz=>na (z ▸ hb)
 have key:∀v,v∈ee ((a::rest)++[a,b])↔v∈rest.erase b:=λv=>by
  rw[rZ hn pM,List.Nodup.mem_erase_iff nr];by_cases z1:v=a
  .subst z1;simp[na]
  .by_cases z2:v=b
   .subst z2;simp[hb]
   .simp[z1,z2]
 have hp:(ee ((a::rest)++[a,b])).Perm (rest.erase b):=(bb (fM _) (nr.erase b)).mpr key;refine⟨⟨gW _,λv hv=>h.rg v (ag _ (List.mem_of_mem_erase ((key v).mp hv)))⟩,?_⟩;rw[hp.length_eq,dh hb,ak];have:=dn hb;omega
theorem Rg.perm {many a b:Int}{rest:List Int}(h:Rg many (a::rest))(hb:b∈rest):([a,b]++ee ((a::rest)++[a,b])).Perm (a::rest):=by
 have hn:=iw h.lt;obtain⟨na,nr⟩:=bj.mp hn;have pM:a≠b:=λz=>na (z ▸ hb);refine (bb (cj.mpr ⟨by simp[pM],fM _,λx hx y hy z=>?_⟩) hn).mpr λv=>?_
 .subst z
  have:=(rZ hn pM).mp hy;simp only[ax,bw,or_false] at hx;rcases hx with rfl | rfl
  .simp at this
  .simp[hb] at this
 .rw[aX,rZ hn pM]
  by_cases z1:v=a
  .subst z1;simp
  .by_cases z2:v=b
   .subst z2;simp[hb]
   .simp[z1,z2]
noncomputable def K2 (many:Int)(ts:List eE)(u v:Int):Option Int:=o5 (gR many.toNat ts u) v
noncomputable def uo (many:Int)(ts:List eE):ae:=.list ((fW 0 many.toNat).map λu=>GX (gR many.toNat ts u))
noncomputable def jL (o:Int × Int):ae:=.tuple [.int o.1,.int o.2]
structure Off (many:Int) (ts:List eE) (a:Int) (rest some:List Int) (O:List (Int × Int)):Prop where
 snd:∀o∈O,o.2∈some/\∃d r,K2 many ts a o.2=Option.some d/\ix ts (ee ((a::rest)++[a,o.2])) r/\o.1=d+r
 cmp:∀b∈some,∀d r,K2 many ts a b=Option.some d->ix ts (ee ((a::rest)++[a,b])) r->(d+r,b)∈O
structure mw (many:Int) (ts:List eE):Prop where
 m1:many<=9
 w:B7 many ts
 hp:Plain ts
 pr:B8 ts
 len:ts.length<=16
theorem mw.MW {many:Int}{ts:List eE}(w:mw many ts){a:Int}(a0:0<=a)(a1:a<many):rV many.toNat ts a (gR many.toNat ts a) :=
 DY (λt ht=>by have:=w.w t ht;omega) w.hp a0 (!1)
section
variable {many a:Int}{ts:List eE}{rest:List Int}{O:List (Int × Int)}
theorem Off.none (w:mw many ts)(hr:Rg many (a::rest))(h:Off many ts a rest rest O)(h0:O=[]):¬ ∃s,eF ts (a::rest) s:=λ⟨s,hs⟩=>by
 have ha:=hr.rg a (ao ..);obtain⟨b,hb,d,s',hd,hj,_⟩:=wu (w.MW ha.1 ha.2) (iw hr.lt) hs;obtain⟨r,hl⟩:=Cg w.hp ⟨s',hj⟩;have:=h.cmp b hb d r hd hl;rw[h0] at this;cases this
theorem Off.least (w:mw many ts)(hr:Rg many (a::rest))(h:Off many ts a rest rest O){o:Int × Int}(ho:o∈O)(hm:∀q∈O,o.1<=q.1):ix ts (a::rest) o.1:=by
 have ha:=hr.rg a (ao ..)
 have low:∀s,eF ts (a::rest) s->o.1<=cost ts s:=λs hs=>by
  obtain⟨b,hb,d,s',hd,hj,Ml⟩:=wu (w.MW ha.1 ha.2) (iw hr.lt) hs;obtain⟨r,hl⟩:=Cg w.hp ⟨s',hj⟩;have h1:=hm _ (h.cmp b hb d r hd hl);have h2:=hl.2 s' hj;simp only at h1;omega
 obtain⟨hb,d,r,hd,⟨⟨s',hj,rfl⟩,hl⟩,e⟩:=h.snd o ho;have Fi:=hr.rg _ (ag _ hb);obtain⟨s,hs,hc⟩:=yW w.hp (w.MW ha.1 ha.2) (iw hr.lt) hb Fi.1 (!1) hd hj;have:=low s hs;exact⟨⟨s,hs,!1⟩,low⟩
end
theorem MX (x:Option Int):oH (mr x) .none=some (.bool x.isSome):=by cases x<;>rfl
theorem G1 {ts:List eE}{told:List Int}{d:ae}(h:D5 ts told d):(∃c,d=.int c/\ix ts told c/\oH d .none=some (!37))\/(d=.none/\(¬ ∃s,eF ts told s)/\oH d .none=some (.bool false)):=by
 rcases h with⟨c,rfl,h⟩ | ⟨rfl,h⟩
 .exact .inl ⟨c,rfl,h,rfl⟩
 .exact .inr ⟨rfl,h,rfl⟩
theorem Kg {many:Int}{ts:List eE}{a:Int}(a0:0<=a)(a1:a<many):eY (uo many ts) (.int a)=some (GX (gR many.toNat ts a)):=by
 unfold uo;rw[eP,oM a0 (by rw[ar,e8];omega),az]
 have:(fW 0 many.toNat)[a.toNat]? = some a:=by
  unfold fW;rw[az,cK (!1)];simp;omega
 rw[this];rfl
theorem Kh {many:Int}{ts:List eE}(w:mw many ts){a b:Int}(a0:0<=a)(a1:a<many)(b0:0<=b)(b1:b<many):eY (GX (gR many.toNat ts a)) (.int b)=some (mr (K2 many ts a b)):=by
 unfold GX;rw[dU];exact MS b0 (by have:=(w.MW a0 a1).len;omega)
noncomputable def As (many:Int)(ts:List eE)(Y:lZ)(Rc:lZ->UF)(len:Nat):Prop:=∀told,Rg many told->told.length<=len->∀(n:Int) (Q:ae->Int->Prop),(∀d,D5 ts told d->Q d n)->Rc Y [uo many ts,dI told] n Q Gx
section
variable {n:Int}{X:XQ}{Q:ae->Int->Prop}{many a:Int}{ts:List eE}{rest:List Int}{Y:lZ}{Rc:lZ->UF}
noncomputable def Ki (Y:lZ)(Rc:lZ->UF):US:=(dJ (d7 6 (dE (Rc Y) (dz (dD 0) (dz (dE fi (dz (dD 1) (dz (d5 (dz (dD 3) (dz (dD 5) dC))) dC))) dC))))
 (fw (IU (eC (dN oH (dN eY (dN eY (dA 0) (dA 3)) (dA 5)) (uC .none))) (eC (dN oH (dA 6) (uC .none)))) (ku 4 ja (dz (d5 (dz (dN ip (dN eY (dN eY (dA 0) (dA 3)) (dA 5)) (dA 6)) (dz (dD 5) dC))) dC)) fq))
theorem yX (w:mw many ts)(hr:Rg many (a::rest))(hR:rest≠[]->As many ts Y Rc (rest.length - 1)){E:rA}:∀(post pre:List Int) (O:List (Int × Int)) (x5 x6:Option Ent),pre++post=rest->Off many ts a rest pre O->O.length<=pre.length->(∀O x5 x6,Off many ts a rest rest O->O.length<=rest.length->E.nx [some (.s (uo many ts)),some (.s (dI (a::rest))),none,some (.s (.int a)),some (.o (O.map jL)),x5,x6] n) ->
  gU (fQ 5) (Ki Y Rc) E (post.map .int) [some (.s (uo many ts)),some (.s (dI (a::rest))),none,some (.s (.int a)),some (.o (O.map jL)),x5,x6] n
 | [],pre,O,x5,x6,hp,hO,hl,h=>by
  rw[bY] at hp;subst hp;exact h O x5 x6 hO hl
 | b::post,pre,O,x5,x6,hp,hO,hl,h=>by
  have hb:b∈rest:=by rw[<- hp];simp
  have ha:=hr.rg a (ao ..);have Fi:=hr.rg b (ag _ hb)
  have oo:pre.length<=9:=by
   have h1:=hr.len w.m1;have h2:=congrArg List.length hp;rw[aQ,ak] at h2;rw[ak] at h1;omega
  have h9:=hr.len w.m1;obtain⟨wx,hlen⟩:=hr.less hb;rw[ai,gU,fQ];rw[3];unfold Ki;with_reducible generalize ht:fw _ _ _=t
  rw[dJ,d7,dE,dz,dD];rw[2];rw[dz,dE,dz,dD];rw[2];rw[dz,d5,dz,dD];rw[25];rw[dC,dC,show ae.tuple [.int a,.int b]=dI [a,b] from rfl,f' (by rw[ak] at h9 ⊢;simp;omega),dC];refine hR (List.ne_nil_of_mem hb) _ wx (by rw[ak] at hlen;omega) _ _ λd hd=>?_;rw[3];subst ht
  have go:∀O':List (Int × Int),Off many ts a rest (pre++[b]) O'->O'.length<=pre.length+1->gU (fQ 5) (Ki Y Rc) E (post.map .int) [some (.s (uo many ts)),some (.s (dI (a::rest))),none,some (.s (.int a)),some (.o (O'.map jL)),some (.s (.int b)),some (.s d)] n:=λO' hO' hl' =>
   yX w hr hR post (pre++[b]) O' _ _ (by rw[bu];exact hp) hO' (by rw[aQ,bA];exact hl') h
  rw[fw,IU,eC,dN,dN,dN,dA];rw[2];rw[dA];rw[2];rw[Kg ha.1 ha.2,dB,dA];rw[2];rw[Kh w ha.1 ha.2 Fi.1 Fi.2,dB,uC,MX,dB,dR]
  have skip:(∀c r,K2 many ts a b=some c->¬ ix ts (ee ((a::rest)++[a,b])) r)->Off many ts a rest (pre++[b]) O:=λkz=>⟨λo ho=>by obtain⟨h1,h2⟩:=hO.snd o ho;exact⟨br _ h1,h2⟩,λq hq c r hc hl=>by
   rcases aX.mp hq with hq | hq
   .exact hO.cmp q hq c r hc hl
   .have e:=ap.mp hq
    subst e;exact absurd hl (kz c r hc)⟩
  cases hh:K2 many ts a b with
  | none =>
   rw[show (none:Option Int).isSome=false from rfl,if_neg (!2),if_neg (!2),fq];exact go O (skip λc r hc=>by rw[hh] at hc;cases hc) (!1)
  | some c =>
   rw[show (some c).isSome=true from rfl,if_pos rfl,eC,dN,dA];rw[2];rw[uC];rcases G1 hd with⟨r,rfl,hl',e⟩ | ⟨rfl,kz,e⟩
   .rw[e,dB,dR,if_pos rfl,ku]
    rw[2];rw[dz,d5,dz,dN,dN,dN,dA];rw[2];rw[dA];rw[2];rw[Kg ha.1 ha.2,dB,dA];rw[2];rw[Kh w ha.1 ha.2 Fi.1 Fi.2,dB,hh,dA];rw[2];rw[show mr (some c)=.int c from rfl,yJ,dB,dz,dD];rw[2];rw[dC,dC,kQ (by rw[ar];omega),dB];rw[3];have e2:O.map jL++[ae.tuple [.int (c+r),.int b]]=(O++[(c+r,b)]).map jL:=by rw[aW];rfl
    rw[e2];refine go _ ⟨λo ho=>?_,λq hq c' r' hc Y8=>?_⟩ (by rw[aQ,bA];omega)
    .rcases aX.mp ho with ho | ho
     .obtain⟨h1,h2⟩:=hO.snd o ho
      exact⟨br _ h1,h2⟩
     .rw[ap.mp ho]
      exact⟨!4,c,r,hh,hl',rfl⟩
    .rcases aX.mp hq with hq | hq
     .exact br _ (hO.cmp q hq c' r' hc Y8)
     .have e:=ap.mp hq
      subst e;rw[hh] at hc;cases hc;rw[Y8.one hl'];simp
   .rw[e,dB,dR,if_neg (!2),fq]
    exact go O (skip λc r hc hl=>kz ⟨hl.1.choose,hl.1.choose_spec.1⟩) (!1)
theorem wy (w:mw many ts)(hr:Rg many (a::rest))(hR:rest≠[]->As many ts Y Rc (rest.length - 1))(h:∀O,Off many ts a rest rest O->O.length<=rest.length->Q (.list (O.map jL)) n):gO Rc Y [uo many ts,dI (a::rest)] n Q X:=by
 have h9:=hr.len w.m1;unfold gO JD;refine⟨rfl,?_⟩;unfold jD;(simp only[iC,gV,envOf,ai,aI,ak,aL,Nat.reduceSub,Nat.reduceAdd,aE,aK,aN,ay]);with_reducible generalize hl:oI 4=l
 with_reducible generalize hb:dJ (d7 6 _) _=b
 rw[dJ,d7,dN,dA];rw[2];rw[uC,show eY (dI (a::rest)) (.int 0)=some (.int a) by unfold dI;rw[dU,ai,d8],dB];rw[3];rw[dJ,oJ,dC];rw[3];rw[dJ,jV,EV]
 have MU:∀(e:fC) n Q,e[1]? = some (some (.s (dI (a::rest))))->zQ (dA 1) (zO (!13)) zN e n Q=Q (.tuple (rest.map .int)) n:=λe n Q he=>by
  simp only[zQ,dA,he,zN,zO,uC,dI,I9,sL _ 1 (!2),dB];rfl
 rw[MU _ _ _ rfl];simp only[kf,dB];subst hb;refine yX w hr hR rest [] [] _ _ rfl ⟨!4,!4⟩ (aw _) λO x5 x6 hO hlen=>?_;show l _ _ _;subst hl;rw[oI];rw[2];exact h O hO hlen
end
theorem Fj (x b:Int × Int):∃r,iF false (jL x) (jL b)=some r/\(r=true->x.1<=b.1)/\(r=false->b.1<=x.1):=by
 have e0:∀i j:Int,ae.eqv (.int i) (.int j)=decide (i=j):=λi j=>by simp only[ae.eqv];rfl
 rw[jL,jL,iF,jx,e0];by_cases h:x.1=b.1
 .rw[if_pos (decide_eq_true h)]
  obtain⟨r,hr⟩:=bX.mp (we false [x.2] [b.2]);exact⟨r,hr,λ_=>by omega,λ_=>by omega⟩
 .rw[if_neg (by simpa using h),iF]
  exact⟨_,rfl,λz=>by have:=of_decide_eq_true z;omega,λz=>by have:=of_decide_eq_false z;omega⟩
theorem wz:∀(l:List (Int × Int)) (a:Int × Int),∃e∈a::l,jc false (jL a) (l.map jL)=jL e/\∀x∈a::l,e.1<=x.1
 | [],a=>⟨a,!4,rfl,λx hx=>by rw[ap.mp hx];omega⟩
 | b::l,a=>by
  obtain⟨r,hr,h1,h2⟩:=Fj b a;rw[ai,jc,hr,cw]
  cases r with
  | true =>
   rw[if_pos rfl];obtain⟨e,he,h3,h4⟩:=wz l b;refine⟨e,ag _ he,h3,λx hx=>?_⟩;(rcases ax.mp hx with rfl | hx)
   .have:=h4 b (ao ..)
    have:=h1 rfl;omega
   .exact h4 x hx
  | false =>
   rw[if_neg (!2)];obtain⟨e,he,h3,h4⟩:=wz l a;refine⟨e,?_,h3,λx hx=>?_⟩
   .rcases ax.mp he with rfl | he
    .simp
    .exact ag _ (ag _ he)
   .skip;(rcases ax.mp hx with rfl | hx)
    .exact h4 x (ao ..)
    .skip;(rcases ax.mp hx with rfl | hx)
     .have:=h4 a (ao ..)
      have:=h2 rfl;omega
     .exact h4 x (ag _ hx)
theorem Fl {O:List (Int × Int)}(h:O≠[]):∃e∈O,tJ [.list (O.map jL)]=some (jL e)/\∀x∈O,e.1<=x.1:=by
 cases O with
 | nil=>exact absurd rfl h
 | cons a l =>
  have hc:xr false ((a::l).map jL):=λx hx=>by
   obtain⟨e,_,rfl⟩:=aU.mp hx;refine⟨⟨rfl,by simp[jL,ae.depth,ae.depthAll]⟩,λy hy=>?_⟩;obtain⟨f,_,rfl⟩:=aU.mp hy;obtain⟨r,hr,_⟩:=Fj e f;rw[hr];rfl
  obtain⟨e,h1,h2,h3⟩:=wz l a;refine⟨e,h1,?_,h3⟩;rw[ai] at hc ⊢;rw[show tJ=oN false from rfl];unfold oN;simp only[];rw[if_pos hc,h2]
theorem Fm (f:Int->ae){i:Nat}{ue:UX}{Q:List ae->Int->Prop}{n:Int}:∀(ns:List Int) (acc:List ae) (env:fC),(∀k∈ns,∀Q:ae->Int->Prop,Q (f k) n->ue (env.set i (some (.s (.int k)))) n Q)->Q (acc++ns.map f) n->fm (fQ i) kB ue Q (ns.map .int) acc env n
 | [],acc,env,_,h=>by simpa [fm] using h
 | k::ns,acc,env,he,h=>by
  rw[ai,fm,fQ,kB,if_pos rfl];refine he k (ao ..) _ (Fm f ns _ _ (λj hj Q hq=>by rw[dq];exact he j (ag _ hj) Q hq) ?_);rw[bu];exact h
theorem As.mono {many:Int}{ts:List eE}{Y:lZ}{Rc:lZ->UF}{l m:Nat}(h:As many ts Y Rc m)(hl:l<=m):As many ts Y Rc l:=λtold hr hm=>h told hr (!1)
section
variable {n:Int}{X:XQ}{Q:ae->Int->Prop}{many a:Int}{ts:List eE}{rest:List Int}
theorem qN (w:mw many ts):∀d,As many ts (Kf many w.m1 ts) (gP (d+1)) (2 * d+1):=λd told hr hl n Q h=>by
 rw[gP];unfold ki JD;refine⟨rfl,?_⟩;unfold kh JE;(simp only[iC,gV,envOf,ai,aI,ak,aL,Nat.reduceSub,Nat.reduceAdd,aE,aK,aN,ay]);refine⟨told,rfl,hr.sub,λd hd=>h d hd,λgX=>?_⟩
 cases told with
 | nil=>exact absurd rfl gX
 | cons a rest =>
  rw[d7,dE,dz,dD];rw[25];rw[dC];rw[ak] at hl;refine wy w hr (λhn=>?_) λO hO hlO=>?_
  .cases d with
   | zero=>exact absurd (ci (!1)) hn
   | succ d=>exact (qN w d).mono (!1)
  .rw[3]
   refine⟨rfl,?_⟩;rw[tV,eC,dN,i9,dz,dA];rw[2];rw[dC];simp only[jU,ar,dB];rw[uC,show Hi (.int (O.length:Int)) (.int 0)=some (.bool (decide ((O.length:Int) > 0))) from rfl,dB,dR];by_cases h0:O=[]
   .subst h0
    rw[if_neg (!2),uC];exact⟨rfl,.inr ⟨rfl,hO.none w hr rfl⟩,h _ (.inr ⟨rfl,hO.none w hr rfl⟩)⟩
   .obtain⟨e,he,hm,Ml⟩:=Fl h0
    rw[if_pos (by have:=List.length_pos_iff.mpr h0;exact decide_eq_true (!1)),dN,i9,dz,dA];rw[2];rw[dC,hm,dB,uC,jL,dU,d8,dB];have hL:=hO.least w hr he Ml;exact⟨rfl,.inl ⟨_,rfl,hL⟩,h _ (.inl ⟨_,rfl,hL⟩)⟩
theorem Ci {place:Int}(wp:mw many ts)(p0:0<=place)(p1:place<many)(h:Q (GX (gR many.toNat ts place)) n):je [eM many ts,.int place] n Q X:=by
 (have e0:eM many ts=.tuple [.int many,.tuple (ts.map eO)]:=rfl);have m1:=wp.m1;have oo:=wp.hp;have hg:=wp.MW p0 p1;generalize gR many.toNat ts place=hs at hg h;have hl:=hg.len;unfold je kT;(simp only[iC,gV,envOf,ai,aI,ak,aL,Nat.reduceSub,Nat.reduceAdd,aE,aK,aN,ay]);with_reducible generalize Ao:eJ _=tr
 (rw[true_and,dJ,d7,dE,dz,dD]);rw[25];rw[dC];refine rY wp.w oo wp.len (!1) p0 p1 λK kvs hT hc=>?_;rw[3];rw[<- Ao,eJ,i9,dz,uL,e9,Mk,dN,dA];rw[2];rw[uC,e0,dU,d8,dB,<- e0];refine⟨⟨!1,!1⟩,?_⟩;simp only[jw,ai,aI,bW,aa,ac]
 rw[lP,gc (λv=>mr (o5 hs v)) (λ_=>true) _ _ _ _ (λv hv n Q=>by
  have hv:=fy.mp hv;have hH:=hT.J2 oo hc hg (v:=v) hv.1 (!1);have k1:∀n Q,dA 0 [some (.s (.int v)),some (.s (f6 false kvs))] n Q=Q (.int v) n:=λn Q=>by simp only[dA,aa]
  have k2:∀n Q,dA 1 [some (.s (.int v)),some (.s (f6 false kvs))] n Q=Q (f6 false kvs) n:=λn Q=>by simp only[dA,aa,ac]
  rw[aq,tV,eC,wj k1 k2,dR]
  cases hv:o5 hs v with
  | none =>
   rw[hv] at hH;have hH:fY kvs [v]=none:=hH;rw[hH];rfl
  | some c =>
   rw[hv] at hH;obtain⟨es,ps,_,e⟩:=hH;rw[e,c8,if_pos rfl,dN,An k1 k2 e,uC,dU,d8,dB];rfl) (λv _ n Q=>by simp! [dJ]),ay]
 have e1:((fW 0 many.toNat).filter λ_=>true).map (λv=>mr (o5 hs v))=hs.map mr:=by
  rw[List.filter_eq_self.mpr (!4)];refine List.ext_getElem? λi=>?_;unfold fW;rw[az,az,az];by_cases hi:i<many.toNat
  .rw[cK hi,aM (!1)]
   simp only[bo,o5];rw[show (0+(i:Int)).toNat=i by omega,au,aM (!1)];rfl
  .rw[bi (by simp;omega),bi (!1)]
   rfl
 rw[dC,e1];simp only[fu,dB];exact h
theorem o7 (wp:mw many ts)(m0:1<=many)(h:Q (uo many ts) n):iL [eM many ts] n Q X:=by
 (have e0:eM many ts=.tuple [.int many,.tuple (ts.map eO)]:=rfl);have m1:=wp.m1;unfold iL l7;(simp only[iC,gV,envOf,ai,aI,ak,aL,Nat.reduceSub,Nat.reduceAdd,aE,aK,aN,ay]);rw[true_and,eJ,uL,e9,Mk,dN,dA];rw[2];rw[uC,e0,dU,d8,dB,<- e0];refine⟨⟨!1,!1⟩,?_⟩;simp only[jw,ai,aI,bW,aa,ac];rw[lP];refine Fm (λu=>GX (gR many.toNat ts u)) _ [] _ (λk hk Q hq=>?_) h;have hk:=fy.mp hk;simp only[aq];rw[dE,dz,dD];rw[25];rw[dC];exact Ci wp hk.1 (!1) hq
inductive Q1 (many:Int) (ts:List eE):List Int->List (Int × Int)->Int->Prop
 | nil:Q1 many ts [] [] 0
 | cons {a b d c:Int} {rest:List Int} {ps:List (Int × Int)} (hb:b∈rest) (hd:K2 many ts a b=some d) (h:Q1 many ts (ee ((a::rest)++[a,b])) ps c):Q1 many ts (a::rest) ((a,b)::ps) (d+c)
theorem tp (hp:Plain ts):ix ts [] 0:=⟨⟨[],⟨λk hk=>(nomatch hk),cg,λv=>by simp[eB]⟩,rfl⟩,λs hs=>j6 hp hs.num⟩
theorem wA {told:List Int}(w:mw many ts)(m0:1<=many)(hr:Rg many told)(h1:(¬ ∃s,eF ts told s)->Q .none n)(h2:∀ps c,Q1 many ts told ps c->ix ts told c->Q (.tuple (ps.map jL)) n):jN [eM many ts,dI told] n Q X:=by
 have h9:=hr.len w.m1;unfold jN l8;(simp only[iC,gV,envOf,ai,aI,ak,aL,Nat.reduceSub,Nat.reduceAdd,aE,aK,aN,ay]);with_reducible generalize Xy:qf _ _ _ _=lk
 (rw[true_and,dJ,d7,dE,dz,dD]);rw[2];rw[dC];refine o7 w m0 ?_;rw[3];subst Xy;unfold qf;refine⟨!4,?_⟩;rw[d5,dC,uC,show qb true (.tuple [])=some [] from rfl,dB];refine⟨Kf many w.m1 ts,.inl ⟨0,rfl,tp w.hp⟩,rfl,(Rg.sub (many:=many) (told:=[]) ⟨!4,!4⟩),rfl,?_⟩;simp only[ai,aI,JH,av,aq];generalize hY:Kf many w.m1 ts=Y;have hP:As many ts Y fo 9:=by rw[<- hY];exact qN w 4
 with_reducible generalize ht:dJ (oJ 4 dC) _=t
 rw[dJ,fw,eC,dN,dE,dz,dD];rw[25];rw[dC];refine hP told hr h9 _ _ λd hd=>?_;rw[uC];rcases hd with⟨c,rfl,hc⟩ | ⟨rfl,kz⟩
 .rw[show yp (.int c) .none=some (.bool false) from rfl,dB,dR,if_neg (!2),fq]
  show t _ _ _;subst ht;with_reducible generalize Ao:eJ _=tr
  rw[dJ,oJ,dC];rw[3];rw[dJ,d7,dD];simp only[aa,ac,av,aq];rw[dJ];unfold sG
  refine⟨λm env n'=>n'=n/\∃(left:List Int) (ps:List (Int × Int)) (e:Int) (x6:Option Ent),env=[some (!20),some (.s (dI told)),some (.s (uo many ts)),none,some (.o (ps.map jL)),some (.s (dI left)),x6]/\Rg many left/\left.length=m/\left.length+ps.length<=9/\(∃c,ix ts left c)/\(∀qs c,Q1 many ts left qs c->Q1 many ts told (ps++qs) (e+c))/\∀c,ix ts left c->ix ts told (e+c),
   ⟨told.length,rfl,told,[],0,_,rfl,hr,rfl,h9,⟨c,hc⟩,λqs c hq=>by rw[Int.zero_add];exact hq,λc hq=>by rw[Int.zero_add];exact hq⟩,?_⟩
  rintro m env n' ⟨rfl,left,ps,e,x6,rfl,Of,hm,hlp,⟨c',xM⟩,hA,hB⟩;rw[eC,dN,dA];rw[2];rw[d5,dC]
  cases left with
  | nil =>
   rw[show Hj (dI []) (.tuple [])=some (.bool false) from BK (ns:=[]),dB,dR,if_neg (!2)];show tr _ _ _;rw[<- Ao,eJ,i9,dz,dA];rw[2];rw[dC];simp only[fu,dB];have:=h2 _ _ (hA [] 0 .nil) (hB 0 (tp w.hp));rw[bY] at this;exact this
  | cons a rest =>
   have gX:Hj (dI (a::rest)) (.tuple [])=some (!37):=BK (ns:=a::rest);rw[gX,dB,dR,if_pos rfl];have Mz:=Of.len w.m1;rw[ak] at Mz hm hlp;with_reducible generalize hta:dJ (ku 4 _ _) _=ta
   rw[dJ,d7,d5,dz,dN,dA];rw[2];rw[uC,show eY (dI (a::rest)) (.int 0)=some (.int a) by unfold dI;rw[dU,ai,d8],dB,dz,dN,i9,dz,dE,dz,dD];rw[25];rw[dC];unfold jE;refine wy w Of (λ_=>hP.mono (!1)) λO hO hlO=>?_;have hO0:O≠[]:=λz=>hO.none w Of z ⟨xM.1.choose,xM.1.choose_spec.1⟩;obtain⟨o,ho,Xz,Ml⟩:=Fl hO0;have hL:=hO.least w Of ho Ml;obtain⟨hb,d,r,hd,Y9,eo⟩:=hO.snd o ho;obtain⟨wx,hlen⟩:=Of.less hb;rw[dC,Xz,dB,uC,jL,dU,d9,dB,dC];rw[3];subst hta;rw[dJ,ku];rw[25];rw[dC,kQ (by rw[ar];omega),dB];rw[3];rw[d7,dE,dz,dD];rw[25];rw[dC,show ae.tuple [.int a,.int o.2]=dI [a,o.2] from rfl,f' (by simp;omega)];rw[3];rw[ak] at hlen;refine⟨(ee ((a::rest)++[a,o.2])).length,!1,trivial,_,ps++[(a,o.2)],e+d,_,by rw[aW];rfl,wx,rfl,by rw[aQ,bA];omega,⟨r,Y9⟩,λqs c hq=>?_,λc hq=>?_⟩
   .have:=hA ((a,o.2)::qs) (d+c) (.cons hb hd hq)
    rw[bu,Int.add_assoc];exact this
   .rw[hq.one Y9,Int.add_assoc,<- eo]
    exact hB _ hL
 .rw[show yp .none .none=some (!37) from rfl,dB,dR,if_pos rfl,eJ,uC]
  exact h1 kz
end
theorem Fn (m:Nat)(p:Int->Bool):(JY m p).length<=m:=by have:=bN p (fW 0 m);rwa [e8] at this
theorem Q2 (m:Nat)(p:Int->Bool):(JY m p).Pairwise (· < ·):=(pF m).sublist cv
noncomputable def fG (ts:List eE):List Int:=JY ts.length λk=>decide (jr ts k<0)
noncomputable def kH (t:eE):eE:=(t.1,t.2.1,if t.2.2<0 then -t.2.2 else t.2.2)
noncomputable def D6 (ts:List eE)(told:List Int):List Int:=ee (told++ee (eB ts (fG ts)))
theorem pG (ts:List eE):ff ts (fG ts):=λk hk=>QX hk
theorem wB (ts:List eE):(fG ts).Nodup:=iw (Q2 _ _)
theorem yY {ts:List eE}{k:Int}(h:0<=k/\k<(ts.length:Int)):k∈fG ts↔jr ts k<0:=by
 unfold fG JY;rw[aJ,fy];exact⟨λz=>of_decide_eq_true z.2,λz=>⟨!1,decide_eq_true z⟩⟩
theorem Fo (ts:List eE)(k:Int):(ts.map kH).getD k.toNat (0,0,0)=kH (!18):=by
 rw[au,au,az];cases ts[k.toNat]?<;>rfl
theorem Kj (ts:List eE):ij (ts.map kH)=ij ts:=funext λk=>by unfold ij;rw[Fo];rfl
theorem yZ (ts:List eE)(ks:List Int):eB (ts.map kH) ks=eB ts ks:=by unfold eB;rw[Kj]
theorem Fp (ts:List eE)(k:Int):jr (ts.map kH) k=if jr ts k<0 then -jr ts k else jr ts k:=by unfold jr;rw[Fo];rfl
theorem r6 {ts:List eE}{s:List Int}:ff (ts.map kH) s↔ff ts s:=by unfold ff;rw[ar]
theorem G2 (ts:List eE):Plain (ts.map kH):=λt ht=>by
 obtain⟨u,_,rfl⟩:=aU.mp ht;show (0:Int)<=if u.2.2<0 then -u.2.2 else u.2.2;split<;>omega
theorem Au {many:Int}{ts:List eE}(w:gI many ts)(hl:ts.length<=16):mw many (ts.map kH):=by
 refine⟨w.m1,λt ht=>?_,G2 ts,λt ht=>?_,by rw[ar];exact hl⟩
 .obtain⟨u,hu,rfl⟩:=aU.mp ht
  have:=w.ok u hu;have a0:=this.a0;have ab:=this.ab;have bm:=this.bm;exact⟨a0,by show u.1<many;omega,by show (0:Int)<=u.2.1;omega,bm⟩
 .obtain⟨u,hu,rfl⟩:=aU.mp ht
  have:=(w.ok u hu).pl;show (if u.2.2<0 then -u.2.2 else u.2.2).natAbs<=99;split<;>omega
theorem G3 {ts us:List eE}{s:List Int}(h:∀k∈s,jr ts k=jr us k):cost ts s=cost us s:=by unfold cost;rw[bL h]
theorem Cj {ts us:List eE}:∀{s:List Int},(∀k∈s,jr ts k=-jr us k)->cost ts s=-cost us s
 | [],_=>rfl
 | k::s,h=>by
  have e1:cost ts (k::s)=jr ts k+cost ts s:=rfl;have e2:cost us (k::s)=jr us k+cost us s:=rfl;rw[e1,e2,h k (ao ..),Cj λj hj=>h j (ag _ hj)];omega
theorem wC {ts:List eE}{s:List Int}(hs:ff ts s)(hn:s.Nodup):cost ts (ee (s++fG ts))=cost (ts.map kH) s+cost ts (fG ts):=by
 have h1:=QP (ts:=ts) (wB ts) hn;rw[GZ (fG ts) s];unfold Xm at h1;have h2:=nR (ts.map kH) (λk=>decide (k∈fG ts)) s
 have h3:cost (ts.map kH) (s.filter λk=>decide (k∈fG ts))=-cost ts (s.filter λk=>decide (k∈fG ts)):=Cj λk hk=>by
  obtain⟨a,b⟩:=aJ.mp hk;have:=(yY (hs k a)).mp (of_decide_eq_true b);rw[Fp,if_pos this]
 have h4:cost (ts.map kH) (s.filter λk=>!decide (k∈fG ts))=cost ts (s.filter λk=>!decide (k∈fG ts)):=G3 λk hk=>by
  obtain⟨a,b⟩:=aJ.mp hk;have:¬ jr ts k<0:=λz=>by have:=(yY (hs k a)).mpr z;simp[this] at b
  rw[Fp,if_neg this]
 omega
theorem wD (ts:List eE):eF ts (ee (eB ts (fG ts))) (fG ts):=⟨pG ts,wB ts,λv=>fb.symm⟩
theorem wF {ts:List eE}{T s:List Int}:eF (ts.map kH) T s↔eF ts T s:=⟨λh=>⟨r6.mp h.num,h.nd,λv=>by rw[<- yZ];exact h.odd v⟩,λh=>⟨r6.mpr h.num,h.nd,λv=>by rw[yZ];exact h.odd v⟩⟩
theorem Ck {ts:List eE}{told:List Int}(h:told.Nodup){v:Int}:v∈D6 ts told↔¬ (v∈told↔v∈ee (eB ts (fG ts))):=gh h (fM _)
theorem tq {ts:List eE}{T s:List Int}(hT:T.Nodup)(h:eF ts T s):eF (ts.map kH) (D6 ts T) (ee (s++fG ts)):=wF.mpr (h.turns (wD ts) λv=>Ck hT)
theorem y0 {ts:List eE}{T s:List Int}(hT:T.Nodup)(h:eF (ts.map kH) (D6 ts T) s):eF ts T (ee (s++fG ts)):=(wF.mp h).turns (wD ts) λv=>by
 rw[Ck hT];by_cases a:v∈T<;>by_cases b:v∈ee (eB ts (fG ts))<;>simp[a,b]
theorem D7 {a b:List Int}(ha:a.Nodup)(hb:b.Nodup):(ee (ee (a++b)++b)).Perm a:=(bb (fM _) ha).mpr λv=>by
 rw[gh (fM _) hb,gh ha hb];by_cases x:v∈a<;>by_cases y:v∈b<;>simp[x,y]
theorem MY {ts:List eE}{T:List Int}(hT:T.Nodup)(h:¬ ∃s,eF (ts.map kH) (D6 ts T) s):¬ ∃s,eF ts T s:=λ⟨s,hs⟩=>h ⟨_,tq hT hs⟩
theorem D8 {ts:List eE}{T:List Int}{c:Int}(hT:T.Nodup)(h:ix (ts.map kH) (D6 ts T) c):ix ts T (c+cost ts (fG ts)):=by
 obtain⟨⟨s,hs,rfl⟩,hl⟩:=h;refine⟨⟨_,y0 hT hs,wC (r6.mp hs.num) hs.nd⟩,λs' pV=>?_⟩;have h1:=tq hT pV;have h2:=hl _ h1;have h3:=wC (ts:=ts) (s:=ee (s'++fG ts)) (r6.mp h1.num) h1.nd;rw[gA (D7 pV.nd (wB ts))] at h3;omega
theorem Fq {many:Int}{ts:List eE}{told:List Int}(w:gI many ts)(h:Rg many told):Rg many (D6 ts told):=⟨gW _,λv hv=>by
 have h1:=fb.mp hv;have h2:v∈told++ee (eB ts (fG ts)):=bR.mp (!1);rcases aX.mp h2 with h2 | h2
 .exact h.rg v h2
 .exact Ar w (pG ts) v h2⟩
section
variable {n:Int}{X:XQ}{Q:ae->Int->Prop}
theorem Cm {many:Int}{ts:List eE}:rO [eM many ts] n Q X=Q (dI (fG ts)) n:=by
 rw[eM];simp! [rO,Ae,d9,Rr,v9 eO (0,0,0)]
 rw[g6 (λenv=>∃x y,env=[x,y]) _ (λk=>.int k) (λk=>decide (jr ts k<0)) _ _ _ (λk hk env ⟨x,y,he⟩=>by
  subst he;exact⟨[some (.s (.int k)),some (.s (eO (!18)))],⟨_,_,rfl⟩,λK=>by simp! [dJ],λn Q=>by rw[eO];simp! [eN,U6];rfl,λn Q=>by simp! [dJ]⟩) ⟨_,_,rfl⟩]
 simp! [fu];rfl
theorem y3 {many:Int}{ts:List eE}:oP [eM many ts] n Q X=Q (eM many (ts.map kH)) n:=by
 (have e0:eM many ts=.tuple [.int many,.tuple (ts.map eO)]:=rfl);rw[e0];simp! [oP,vO,d8,d9]
 rw[g6 (λenv=>∃x y z,env=[x,y,z]) eO (λt=>eO (kH t)) (λ_=>true) _ _ _ (λt ht env ⟨x,y,z,he⟩=>by
  subst he;refine⟨[some (.s (.int t.2.1)),some (.s (.int t.1)),some (.s (.int t.2.2))],⟨_,_,_,rfl⟩,λK=>by rw[eO];simp! [dJ],λn Q=>by simp! [dJ],λn Q=>by simp! [zR,kH,eO]⟩) ⟨_,_,_,rfl⟩]
 rw[fK,ay];simp! [fu];rw[eM,bc];rfl
theorem o8 {many:Int}{ts:List eE}(w:gI many ts)(hl:ts.length<=16){told:List Int}(ht:told.length<=20):iJ [eM many ts,dI told] n Q X=Q (dI (D6 ts told)) n:=by
 have hb:=Fn ts.length λk=>decide (jr ts k<0);have h9:=Cf w (pG ts);unfold iJ l5;(simp only[iC,gV,envOf,ai,aI,ak,aL,Nat.reduceSub,Nat.reduceAdd,aE,aK,aN,ay]);simp only[eJ,dE,dz,dD,dC,true_and,aa,ac];rw[Cm,wc (pG ts) (show 2 * (fG ts).length<=60 by unfold fG;omega),f' (show told.length+(ee (eB ts (fG ts))).length<=60 by omega)];rfl
theorem xC {many:Int}{ts:List eE}(hl:ts.length<=16){s:List Int}(hs:s.length<=20):jd [eM many ts,dI s] n Q X=Q (dI (ee (s++fG ts))) n:=by
 have hb:=Fn ts.length λk=>decide (jr ts k<0);unfold jd nq;(simp only[iC,gV,envOf,ai,aI,ak,aL,Nat.reduceSub,Nat.reduceAdd,aE,aK,aN,ay]);simp only[eJ,dE,dz,dD,dC,true_and,aa,ac];rw[Cm,f' (show s.length+(fG ts).length<=60 by unfold fG;omega)]
end
theorem um.par {ts:List eE}{s v:Int}{es ps:List Int}{c:Int}(h:um ts s v es ps c)(x:Int):(eB ts es).count x % 2=(wq (decide (x=s))+wq (decide (x=v))) % 2:=by
 induction h with
 | nil=>simp[eB];omega
 | @step u es ps c w k t v k0 ht h hv ih =>
  have AK:Y4 ts u k v:=⟨t,k0,ht,by rcases h with⟨a,b⟩ | ⟨a,b⟩;exact .inl ⟨a.symm,b.symm⟩;exact .inr ⟨a.symm,b.symm⟩⟩;have:=GU AK x;rw[iU,bp,this];have c1:∀z:Int,(if x=z then 1 else 0)=wq (decide (x=z)):=λz=>by unfold wq;by_cases h:x=z<;>simp[h]
  rw[c1,c1];omega
theorem um.join {ts:List eE}{a b:Int}{es ps:List Int}{c:Int}(h:um ts a b es ps c)(pM:a≠b):eF ts [a,b] (sortI es):=by
 have hp:=sortI_perm es;refine⟨λk hk=>h.num k (hp.mem_iff.mp hk),hp.nodup_iff.mpr h.QY,λv=>?_⟩;rw[(iV hp).count_eq,h.par v];unfold wq;by_cases z1:v=a
 .subst z1;simp[pM]
 .by_cases z2:v=b
  .subst z2;simp[z1]
  .simp[z1,z2]
theorem r9 {ts:List eE}{s:List Int}(h:ff ts s)(hn:s.Nodup):s.length<=ts.length:=by
 have:=gk hn (ns:=fW 0 ts.length) λk hk=>fy.mpr (by have:=h k hk;omega);rwa [e8] at this
section
variable {n:Int}{X:XQ}{Q:ae->Int->Prop}{many:Int}{ts:List eE}
theorem uq {one other c:Int}(w:mw many ts)(u0:0<=one)(u1:one<many)(v0:0<=other)(v1:other<many)(hv:K2 many ts one other=some c)
  (h2:∀(es ps:List Int),um ts one other es ps c->Q (dI (sortI es)) n):iK [eM many ts,.int one,.int other] n Q X:=by
 have m1:=w.m1;have oo:=w.hp;have hg:=w.MW u0 u1;unfold K2 at hv;generalize gR many.toNat ts one=hs at hg hv;unfold iK l6;(simp only[iC,gV,envOf,ai,aI,ak,aL,Nat.reduceSub,Nat.reduceAdd,aE,aK,aN,ay]);with_reducible generalize Ao:eJ _=tr
 (rw[true_and,dJ,d7,dE,dz,dD]);rw[25];rw[dC];refine rY w.w oo w.len (!1) u0 u1 λK kvs hT hc=>?_;rw[3];have hH:=hT.J2 oo hc hg (v:=other) v0 (!1);have k1:∀n Q,dA 2 [some (!20),some (.s (.int one)),some (.s (.int other)),some (.s (f6 false kvs))] n Q=Q (.int other) n:=λn Q=>by simp only[dA,aa,ac]
 have k2:∀n Q,dA 3 [some (!20),some (.s (.int one)),some (.s (.int other)),some (.s (f6 false kvs))] n Q=Q (f6 false kvs) n:=λn Q=>by simp only[dA,aa,ac]
 rw[<- Ao,eJ,tV,eC,wj k1 k2,dR];rw[hv] at hH;obtain⟨es,ps,hp,e⟩:=hH;rw[e,c8,if_pos rfl,dN,An k1 k2 e,uC,dU,d9,dB];exact h2 es ps hp
theorem join_loop (w:mw many ts){x0 x1 x3:Option Ent}{E:rA}:∀{left:List Int} {ps:List (Int × Int)} {c:Int},Q1 many ts left ps c->Rg many left->∀(T A:List Int) (x5:Option Ent),T.Nodup->eF ts T A ->
  (∀(A':List Int) x5,eF ts (ee (T++left)) A'->cost ts A'<=cost ts A+c->(ps=[]/\A'=A\/A'.Pairwise (· < ·))->E.nx [x0,x1,some (!20),x3,some (.s (dI A')),x5] n) ->
  gU (fQ 5) (d7 4 (dE fi (dz (dD 4) (dz (dE iK (dz (dD 2) (dz (dN eY (dA 5) (!16)) (dz (dN eY (dA 5) (!13)) dC)))) dC)))) E (ps.map jL) [x0,x1,some (!20),x3,some (.s (dI A)),x5] n:=λ{left ps c} h=>by
 induction h with
 | nil =>
  intro _ T A x5 hT hA h;refine h A x5 ⟨hA.num,hA.nd,λv=>?_⟩ (!1) (.inl ⟨rfl,rfl⟩);rw[hA.odd v,bY,fb,lu hT];split<;>simp[*]
 | @cons a b d c rest ps hb hd hp ih =>
  intro hr T A x5 hT hA h;have ha:=hr.rg a (ao ..);have Fi:=hr.rg b (ag _ hb);have pM:a<b:=(bJ.mp hr.lt).1 b hb;obtain⟨wx,_⟩:=hr.less hb;rw[ai,gU,fQ];rw[3];have i1:eY (jL (a,b)) (.int 0)=some (.int a):=by rw[jL,dU,d8]
  have i2:eY (jL (a,b)) (.int 1)=some (.int b):=by rw[jL,dU,d9]
  rw[d7,dE,dz,dD];rw[2];rw[dz,dE,dz,dD];rw[2];rw[dz,dN,dA];rw[2];rw[uC,i1,dB,dz,dN,dA];rw[2];rw[uC,i2,dB,dC];refine uq w ha.1 ha.2 Fi.1 Fi.2 hd λes qs Ut=>?_;have hj:=Ut.join (!1);have Ol:cost ts (sortI es)=d:=by rw[gA (sortI_perm es)];exact Ut.cost
  have Mz:=r9 hA.num hA.nd;have zq:=r9 hj.num hj.nd;have XA:=w.len;rw[dC,f' (!1)];rw[3];have hT1:(ee (T++[a,b])).Nodup:=fM _;have hJ:eF ts (ee (T++[a,b])) (ee (A++sortI es)):=hA.turns hj λv=>gh hT (by simp;omega);have Se:=wo w.hp hA.num hj.num hA.nd hj.nd
  have XB:ee (ee (T++[a,b])++ee ((a::rest)++[a,b]))=ee (T++(a::rest)):=Kd λv=>by
   have h1:=Ce (T++[a,b]) v;have h2:=Ce ((a::rest)++[a,b]) v;rw[bp] at h1 h2;rw[bp,bp];omega
  refine ih wx (ee (T++[a,b])) (ee (A++sortI es)) _ hT1 hJ λA' y5 hA' xM pV=>h A' y5 (by rw[<- XB];exact hA') (!1) (.inr ?_);rcases pV with⟨_,rfl⟩ | pV
  .exact gW _
  .exact pV
theorem uR {l:List Int}(h:l.Pairwise (· < ·)):ee l=l:=vz (gW _) h λv=>by
 rw[fb,lu (iw h)];split<;>simp[*]
theorem xD {told:List Int}(w:gI many ts)(hl:ts.length<=16)(hr:Rg many told)(h1:(¬ ∃s,eF ts told s)->Q .none n)(h2:∀s c,s.Pairwise (· < ·)->eF ts told s->ix ts told c->cost ts s=c->Q (dI s) n):kE [eM many ts,dI told] n Q X:=by
 have wp:=Au w hl;have m0:=w.m0;have h9:=hr.len w.m1;have NG:=Fq w hr;have QN:=iw hr.lt;unfold kE nu;(simp only[iC,gV,envOf,ai,aI,ak,aL,Nat.reduceSub,Nat.reduceAdd,aE,aK,aN,ay]);with_reducible generalize Fs:dJ (d7 3 _) _=t1
 (rw[true_and,dJ,d7,dE,dz,dD]);rw[2];rw[dC,y3];rw[3];subst Fs;with_reducible generalize xE:dJ (fw _ _ _) _=t2
 rw[dJ,d7,dE,dz,dD];rw[2];rw[dz,dE,dz,dD];rw[25];rw[dC,o8 w hl (!1),dC];refine wA wp m0 NG (λkz=>?_) λps c hP hL=>?_
 .rw[3]
  subst xE;rw[dJ,fw,eC,dN,dA];rw[2];rw[uC,show yp .none .none=some (!37) from rfl,dB,dR,if_pos rfl,eJ,uC];exact h1 (MY QN kz)
 .rw[3]
  subst xE;with_reducible generalize Ao:eJ (dE jd _)=tr
  rw[dJ,fw,eC,dN,dA];rw[2];rw[uC,show yp (.tuple (ps.map jL)) .none=some (.bool false) from rfl,dB,dR,if_neg (!2),fq];dsimp only;rw[dJ,d7,d5,dC];rw[3];rw[dJ,jV,Jc];simp only[aa,ac,kf,dB];have hj0:eF (ts.map kH) [] []:=⟨λk hk=>(nomatch hk),cg,λv=>by simp[eB]⟩;refine join_loop wp hP NG [] [] _ cg hj0 λA x5 hA hc _=>?_;rw[ay,uR NG.lt] at hA;have hlen:=r9 hA.num hA.nd;rw[ar] at hlen;show tr _ _ _;rw[<- Ao,eJ,dE,dz,dD];rw[25];rw[dC,xC hl (!1)];refine h2 _ _ (gW _) (y0 QN hA) (D8 QN hL) ?_;rw[wC (r6.mp hA.num) hA.nd];have h3:=hL.2 A hA;have h4:cost (ts.map kH) []=0:=rfl;omega
end
noncomputable def iG (ls:List Int)(t:eE):List Int:=match ls[t.1.toNat]?,ls[t.2.1.toNat]? with
 | some a,some b=>ls.map λl=>if l=(if a<b then b else a) then (if b<a then b else a) else l
 | _,_=>ls
structure Kl (many:Nat) (ts:List eE) (ls:List Int):Prop where
 len:ls.length=many
 join:∀t∈ts,ls[t.1.toNat]? = ls[t.2.1.toNat]?
 G4:∀C:Nat->Prop,(∀t∈ts,(C t.1.toNat↔C t.2.1.toNat))->∀p q l,ls[p]? = some l->ls[q]? = some l->(C p↔C q)
theorem Kl.begin (many:Nat):Kl many [] (fW 0 many):=by
 refine⟨by rw[e8],!4,λC _ p q l h1 h2=>?_⟩
 have e:∀(p:Nat) (l:Int),(fW 0 many)[p]? = some l->l=(p:Int):=λp l h=>by
  unfold fW at h;rw[az] at h
  cases hr:(List.range many)[p]? with
  | none=>rw[hr] at h;cases h
  | some x =>
   rw[hr] at h;have:=aG.mp hr;obtain⟨hl,hx⟩:=this;rw[List.getElem_range] at hx;cases h;show 0+(x:Int)=p;omega
 have a:=e p l h1;have b:=e q l h2;have:p=q:=by omega
 rw[this]
theorem G5 {x y M m:Int}(gX:¬ x=y)(h:(if x=M then m else x)=(if y=M then m else y)):(x=M/\y=m)\/(x=m/\y=M):=by
 by_cases h1:x=M
 .by_cases h2:y=M
  .exact absurd (h1.trans h2.symm) gX
  .rw[if_pos h1,if_neg h2] at h
   exact .inl ⟨h1,h.symm⟩
 .by_cases h2:y=M
  .rw[if_neg h1,if_pos h2] at h
   exact .inr ⟨h,h2⟩
  .rw[if_neg h1,if_neg h2] at h
   exact absurd h gX
theorem Kl.step {many:Nat}{ts:List eE}{ls:List Int}(k:Kl many ts ls){t:eE}(h1:t.1.toNat<many)(h2:t.2.1.toNat<many):Kl many (ts++[t]) (iG ls t):=by
 have l1:t.1.toNat<ls.length:=by rw[k.len];exact h1
 have l2:t.2.1.toNat<ls.length:=by rw[k.len];exact h2
 obtain⟨a,ha⟩:∃a,ls[t.1.toNat]? = some a:=⟨ls[t.1.toNat],by simp[l1]⟩;obtain⟨b,hb⟩:∃b,ls[t.2.1.toNat]? = some b:=⟨ls[t.2.1.toNat],by simp[l2]⟩
 have e:iG ls t=ls.map λl=>if l=(if a<b then b else a) then (if b<a then b else a) else l:=by
  unfold iG;rw[ha,hb]
 rw[e];refine⟨by rw[ar];exact k.len,λu hu=>?_,λC hC p q l hp hq=>?_⟩
 .rw[az,az]
  rcases aX.mp hu with hu | hu
  .rw[k.join u hu]
  .have eu:=ap.mp hu
   subst eu;rw[ha,hb];simp only[bo,Option.some.injEq];by_cases pM:a<b
   .have:¬ b<a:=by omega
    simp only[pM,this,if_true,if_false];by_cases h:a=b<;>simp[h]
   .simp only[pM,if_false,if_true]
    by_cases h:b<a
    .have:b≠a:=by omega
     simp[h,this]
    .have:a=b:=by omega
     simp[this]
 .rw[az] at hp hq
  have Uu:∀u∈ts,(C u.1.toNat↔C u.2.1.toNat):=λu hu=>hC u (br _ hu);have pM:=hC t (be _ (ap.mpr rfl))
  cases Fc:ls[p]? with
  | none=>rw[Fc] at hp;cases hp
  | some x =>
   cases Uv:ls[q]? with
   | none=>rw[Uv] at hq;cases hq
   | some y =>
    rw[Fc] at hp;rw[Uv] at hq;simp only[bo,Option.some.injEq] at hp hq;by_cases Hr:x=y
    .subst Hr
     exact k.G4 C Uu p q x Fc Uv
    .have hM:(if a<b then b else a)=a\/(if a<b then b else a)=b:=by
      split
      .exact .inr rfl
      .exact .inl rfl
     have hm:(if b<a then b else a)=a\/(if b<a then b else a)=b:=by
      split
      .exact .inr rfl
      .exact .inl rfl
     have Uw:=G5 Hr (hp.trans hq.symm)
     have hx:x=a\/x=b:=by
      rcases Uw with⟨z,_⟩ | ⟨z,_⟩
      .rw[z];exact hM
      .rw[z];exact hm
     have hy:y=a\/y=b:=by
      rcases Uw with⟨_,z⟩ | ⟨_,z⟩
      .rw[z];exact hm
      .rw[z];exact hM
     have px:C p↔C t.1.toNat:=by
      rcases hx with rfl | rfl
      .exact k.G4 C Uu p _ x Fc ha
      .exact (k.G4 C Uu p _ x Fc hb).trans pM.symm
     have py:C q↔C t.1.toNat:=by
      rcases hy with rfl | rfl
      .exact k.G4 C Uu q _ y Uv ha
      .exact (k.G4 C Uu q _ y Uv hb).trans pM.symm
     exact px.trans py.symm
theorem Kl.fold {many:Nat}:∀{us ts:List eE} {ls:List Int},Kl many ts ls->(∀t∈us,t.1.toNat<many/\t.2.1.toNat<many)->Kl many (ts++us) (us.foldl iG ls)
 | [],ts,ls,k,_=>by simpa using k
 | t::us,ts,ls,k,h=>by
  have:=Kl.fold (us:=us) (k.step (h t (ao ..)).1 (h t (ao ..)).2) λu hu=>h u (ag _ hu);rw[bu] at this;exact this
noncomputable def lE (p:Int->Bool):Nat->List Int->List Int
 | _,[]=>[]
 | k,x::xs=>if p x=true then (k:Int)::lE p (k+1) xs else lE p (k+1) xs
theorem mS {p:Int->Bool}{i:Int}:∀{xs:List Int} {k:Nat},i∈lE p k xs↔∃j x,i=((k+j:Nat):Int)/\xs[j]? = some x/\p x=true
 | [],k=>by simp[lE]
 | x::xs,k=>by
  have ih:=mS (p:=p) (i:=i) (xs:=xs) (k:=k+1)
  have key:(∃j y,i=((k+1+j:Nat):Int)/\xs[j]? = some y/\p y=true)↔∃j y,i=((k+(j+1):Nat):Int)/\(x::xs)[j+1]? = some y/\p y=true:=by
   constructor
   .rintro⟨j,y,e,h⟩
    exact⟨j,y,!1,h⟩
   .rintro⟨j,y,e,h⟩
    exact⟨j,y,!1,h⟩
  unfold lE;constructor
  .intro h
   split at h
   .rename_i hp
    rcases ax.mp h with rfl | h
    .exact⟨0,x,rfl,rfl,hp⟩
    .obtain⟨j,y,h⟩:=key.mp (ih.mp h)
     exact⟨j+1,y,h⟩
   .obtain⟨j,y,h⟩:=key.mp (ih.mp h)
    exact⟨j+1,y,h⟩
  .rintro⟨j,y,e,h1,h2⟩
   cases j with
   | zero =>
    simp only[aa,Option.some.injEq] at h1;subst h1;rw[if_pos h2];exact ax.mpr (.inl e)
   | succ j =>
    have:=ih.mpr (key.mpr ⟨j,y,e,h1,h2⟩);split
    .exact ag _ this
    .exact this
theorem sd {p:Int->Bool}:∀(xs:List Int) (k:Nat),(lE p k xs).Pairwise (· < ·)
 | [],k=>by simp[lE]
 | x::xs,k=>by
  have ih:=sd (p:=p) xs (k+1);unfold lE;split
  .refine bJ.mpr ⟨λi hi=>?_,ih⟩
   obtain⟨j,y,e,_⟩:=mS.mp hi;omega
  .exact ih
section
variable {n:Int}{X:XQ}
theorem Cn {p:Int->Bool}{uc:UT}{Q:List ae->Int->Prop}{rest:fC}:∀(xs:List Int) (k:Nat) (acc:List ae) (x y:Option Ent),(∀a∈xs,∀(b:Int) n Q,uc (some (.s (.int a))::some (.s (.int b))::rest) n Q=Q (p a) n) ->
  fm (Bs [fQ 1,fQ 0]) uc (dD 1) Q (((xs.map ae.int).zipIdx k).map λq=>ae.tuple [.int (q.2:Nat),q.1]) acc (x::y::rest) n=Q (acc++(lE p k xs).map .int) n
 | [],k,acc,x,y,_=>by simp[fm,lE]
 | a::xs,k,acc,x,y,h=>by
  have ih:=λacc x y=>Cn (Q:=Q) xs (k+1) acc x y λb hb=>h b (ag _ hb);simp only[ai,List.zipIdx_cons,fm,Bs,Gu,fQ,aq,av,h a (ao ..)];unfold lE;by_cases hp:p a=true
  .simp! [hp,if_true]
   rw[ih];simp
  .have Fc:p a=false:=by simpa using hp
   simp only[Fc,bQ,if_false];rw[ih]
variable {Q:ae->Int->Prop}
theorem Av (ls:List Int)(l:Int):jY [.list (ls.map .int),.int l] n Q X=Q (dI (lE (λa=>decide (a=l)) 0 ls)) n:=by
 simp! [jY,oO,ko];rw[Cn (p:=λa=>decide (a=l)) _ _ _ _ _ λa _ b n Q=>by simp! [iN]];simp! [fu,dI]
noncomputable def dY (many:Int)(ts:List eE):List Int:=ts.foldl iG (fW 0 many.toNat)
theorem wG (ls:List Int)(t:eE):(iG ls t).length=ls.length:=by
 unfold iG;split<;>simp
theorem lX {many:Int}{ts:List eE}(h0:0<=many)(h1:many<60)(ok:∀t∈ts,0<=t.1/\t.1<many/\0<=t.2.1/\t.2.1<many) :
  iu [eM many ts] n Q X=Q (.tuple ((hZ (!28)).map λl=>dI (lE (λa=>decide (a=l)) 0 (!28)))) n:=by
 simp! [iu,qj,eM,d8,d9];have hd:(-(2 ^ 62)<=many/\many<=16777216):=⟨!1,!1⟩;simp only[hd,true_and]
 have key:∀(us:List eE) (ls:List Int) (w:ae) (x2 x3 x4:Option Ent),ls.length=many.toNat->(∀t∈us,t∈ts)->gU (fQ 2) (dJ (d7 3 (i9 tF (dz (dN eY (dA 1) (dN eY (dA 2) (uC (ae.int 0)))) (dz (dN eY (dA 1) (dN eY (dA 2) (uC (ae.int 1)))) dC))))
   (dJ (d7 4 (i9 yr (dz (dN eY (dA 1) (dN eY (dA 2) (uC (ae.int 0)))) (dz (dN eY (dA 1) (dN eY (dA 2) (uC (ae.int 1)))) dC))))
    (d7 1 (uL (e9 (ph (dA 1)) [none,some 3,some 4] (fQ 0) kB (tV (eC (dN oj (dA 0) (dA 2))) (dD 1) (dD 0)))))))
   { nx:=eJ (i9 fu (dz (uL (e9 (ph (uL (vA (dA 1)))) [none,some 1] (fQ 0) kB (dE jY (dz (dD 1) (dz (dD 0) dC))))) dC)) { nx:=λx n'=>Q ae.none n',rt:=Q },rt:=Q }
   (us.map eO) [some (.s w),some (.s (.list (ls.map .int))),x2,x3,x4] n=Q (.tuple ((hZ (us.foldl iG ls)).map λl=>dI (lE (λa=>decide (a=l)) 0 (us.foldl iG ls)))) n:=by
  intro us
  induction us with
  | nil =>
   intro ls w x2 x3 x4 hl _;have U1:ls.length<64:=by omega
   simp! [gU,aI,ir,U1];rw[gc (λl=>dI (lE (λa=>decide (a=l)) 0 ls)) (λ_=>true) _ _ _ _ (λk _ n Q=>by simp! [Av]) (λk _ n Q=>by simp! [dJ])];simp! [fu,fK,List.foldl_nil]
  | cons t us ih =>
   intro ls w x2 x3 x4 hl Kb;have ht:=ok t (Kb t (ao ..));obtain⟨a,ha,_,lL⟩:=mM (ns:=ls) (i:=t.1) ht.1 (!1);obtain⟨b,hb,_,yt⟩:=mM (ns:=ls) (i:=t.2.1) ht.2.2.1 (!1)
   have e:iG ls t=ls.map λl=>if l=(if a<b then b else a) then (if b<a then b else a) else l:=by
    unfold iG;rw[lL,yt]
   simp! [gU,eO,d8,d9,ha,hb,tF,yr]
   rw[gc (λl=>.int (if l=(if a<b then b else a) then (if b<a then b else a) else l)) (λ_=>true) _ _ _ _ (λk _ n Q=>by
    simp! [iN,gt_iff_lt];by_cases hk:k=(if a<b then b else a)<;>simp[hk]) (λk _ n Q=>by simp! [dJ])]
   have e2:(ls.map λl=>ae.int (if l=(if a<b then b else a) then (if b<a then b else a) else l))=(iG ls t).map .int:=by rw[e,bc];rfl
   simp! [fK,e2];rw[ck];exact ih (iG ls t) _ _ _ _ (by rw[wG];exact hl) λu hu=>Kb u (ag _ hu)
 rw[lP];exact key ts _ _ _ _ _ (e8 _ _) (λ_ h=>h)
end
theorem nW (many:Int)(ts:List eE):(!28).length=many.toNat:=by
 have:∀(us:List eE) (ls:List Int),(us.foldl iG ls).length=ls.length:=by
  intro us
  induction us with
  | nil=>intro ls;rfl
  | cons t us ih=>intro ls;rw[ck,ih,wG]
 unfold dY;rw[this,e8]
theorem D9 {many:Int}{ts:List eE}(ok:B7 many ts):Kl many.toNat ts (!28):=by
 have:=Kl.fold (us:=ts) (Kl.begin many.toNat) λt ht=>by
  have:=ok t ht;omega
 rwa [ay] at this
theorem Co {many a b l:Int}{ts:List eE}(w:mw many ts)(a0:0<=a)(a1:a<many)(b0:0<=b)(ha:(!28)[a.toNat]? = some l)(hb:(!28)[b.toNat]? = some l):∃d,K2 many ts a b=some d:=by
 have hm:=(D9 w.w).G4 (λi=>∃vs c,Wk ts a (i:Int) vs c) (λt ht=>by
  have:=w.w t ht;rw[show ((t.1.toNat:Nat):Int)=t.1 by omega,show ((t.2.1.toNat:Nat):Int)=t.2.1 by omega];exact⟨λ⟨vs,c,h⟩=>⟨_,_,h.step t ht _ (.inl ⟨rfl,rfl⟩)⟩,λ⟨vs,c,h⟩=>⟨_,_,h.step t ht _ (.inr ⟨rfl,rfl⟩)⟩⟩) a.toNat b.toNat l ha hb
 rw[show ((a.toNat:Nat):Int)=a by omega,show ((b.toNat:Nat):Int)=b by omega] at hm;obtain⟨vs,c,h⟩:=hm.mp ⟨_,_,.nil⟩;obtain⟨d,hd,_⟩:=(w.MW a0 a1).low h;exact⟨d,hd⟩
theorem G6 {many a b d:Int}{ts:List eE}{told s:List Int}(w:mw many ts)(hn:told.Nodup)(hj:eF ts told s)(pM:a≠b)(a0:0<=a)(a1:a<many)(b0:0<=b)(b1:b<many)(hd:K2 many ts a b=some d):∃s',eF ts (ee (told++[a,b])) s':=by
 obtain⟨ks,k1,k2,k3,k4⟩:=(w.MW a0 a1).set b0 (!1) hd
 have hk:eF ts [a,b] ks:=⟨k1,iw k2,λv=>by
  have:=congrArg (λl=>v∈l) k3;simp only[eq_iff_iff] at this;rw[<- fb,this,fb,bp,bS,bS];by_cases z1:v=a
  .subst z1;simp[pM.symm]
  .by_cases z2:v=b
   .subst z2;simp[Ne.symm z1]
   .simp[z1,z2,Ne.symm z1,Ne.symm z2]⟩
 exact⟨_,hj.turns hk λv=>gh hn (by simp[pM])⟩
theorem Cp {many:Int}{ts:List eE}{T:List Int}{c:Int}(w:mw many ts)(h:ix ts T c):0<=c/\c<=1584:=by
 obtain⟨⟨s,hs,rfl⟩,_⟩:=h;have h1:=j6 w.hp hs.num;have h2:=Aq w.pr hs.num;have h3:=r9 hs.num hs.nd;have h4:=w.len;omega
theorem wH {ls:List Int}{l i:Int}(h:i∈lE (λa=>decide (a=l)) 0 ls):0<=i/\i<(ls.length:Int)/\ls[i.toNat]? = some l:=by
 obtain⟨j,x,rfl,h1,h2⟩:=mS.mp h;have h3:x=l:=of_decide_eq_true h2;subst h3;have h4:=(aG.mp h1).1;have e:(((0+j:Nat):Int)).toNat=j:=by omega
 exact⟨!1,!1,by rw[e];exact h1⟩
section
variable {n:Int}{X:XQ}{Q:ae->Int->Prop}{many:Int}{ts:List eE}{Y:lZ}
structure G7 (many:Int) (hs:List Int):Prop where
 len:hs.length=many.toNat
 bd:∀x∈hs,-1584<=x/\x<=1584
noncomputable def XD (Y:lZ):US:=(tG 5 (dD 7) (dN jz (dE (fo Y) (dz (dD 2) (dz (dE fi (dz (dD 1) (dz (d5 (dz (dN eY (dA 6) (!16)) (dz (dD 7) dC))) dC))) dC))) (dA 4)))
theorem Cq {told:List Int}{jl a l:Int}{rest:List Int}(w:mw many ts)(hr:Rg many told)(hj:∃s,eF ts told s)(hL:ix ts told jl)(hP:As many ts Y fo 9)(ha:0<=a/\a<many/\(!28)[a.toNat]? = some l){E:rA}:∀(ps hs:List Int) (x7:Option Ent),G7 many hs->(∀b∈ps,a≠b/\0<=b/\b<many/\(!28)[b.toNat]? = some l) ->
  (∀hs x7,G7 many hs->E.nx [some (!20),some (.s (dI told)),some (.s (uo many ts)),none,some (.s (.int jl)),some (.o (hs.map .int)),some (.s (dI (a::rest))),x7] n) ->
  gU (fQ 7) (XD Y) E (ps.map .int) [some (!20),some (.s (dI told)),some (.s (uo many ts)),none,some (.s (.int jl)),some (.o (hs.map .int)),some (.s (dI (a::rest))),x7] n
 | [],hs,x7,ok,_,h=>h hs x7 ok
 | b::ps,hs,x7,ok,hb,h=>by
  obtain⟨pM,b0,b1,hl⟩:=hb b (ao ..);obtain⟨d,hd⟩:=Co w ha.1 ha.2.1 b0 ha.2.2 hl;obtain⟨s,Y'⟩:=hj;have X4:=G6 w (iw hr.lt) Y' pM ha.1 ha.2.1 b0 b1 hd;have h9:=hr.len w.m1
  have Qy:Rg many (ee (told++[a,b])):=⟨gW _,λv hv=>by
   have h1:=fb.mp hv;have h2:v∈told++[a,b]:=bR.mp (!1);rcases aX.mp h2 with h2 | h2
   .exact hr.rg v h2
   .simp only[ax,bw,or_false] at h2
    rcases h2 with rfl | rfl
    .exact⟨ha.1,ha.2.1⟩
    .exact⟨b0,b1⟩⟩
  rw[ai,gU,fQ];rw[3];unfold XD;rw[tG];rw[2];rw[dN,dE,dz,dD];rw[2];rw[dz,dE,dz,dD];rw[2];rw[dz,d5,dz,dN,dA];rw[2];rw[uC,show eY (dI (a::rest)) (.int 0)=some (.int a) by unfold dI;rw[dU,ai,d8],dB,dz,dD];rw[2];rw[dC,dC,show ae.tuple [.int a,.int b]=dI [a,b] from rfl,f' (by simp;omega),dC];refine hP _ Qy (Qy.len w.m1) _ _ λr NG=>?_;rcases NG with⟨c,rfl,hc⟩ | ⟨_,kz⟩
  .rw[dA]
   rw[2];rw[B3,dB,dD];rw[2];rw[QV b0 (by rw[ar,ok.len];omega),dB];rw[3];have e:(hs.map ae.int).set b.toNat (.int (c - jl))=(hs.set b.toNat (c - jl)).map .int:=by rw[List.map_set]
   rw[e];have c1:=Cp w hc;have c2:=Cp w hL
   exact Cq w hr ⟨s,Y'⟩ hL hP ha ps _ _ ⟨by rw[aZ];exact ok.len,λx hx=>by
    rcases df hx with hx | hx
    .exact ok.bd x hx
    .omega⟩ (λq hq=>hb q (ag _ hq)) h
  .exact absurd X4 kz
theorem uu {told:List Int}(w:mw many ts)(m0:1<=many)(hr:Rg many told)(hj:∃s,eF ts told s)(h:∀hs,G7 many hs->Q (.list (hs.map .int)) n):jf [eM many ts,dI told] n Q X:=by
 (have e0:eM many ts=.tuple [.int many,.tuple (ts.map eO)]:=rfl);have h9:=hr.len w.m1;have m1:=w.m1;(have hsz:aC=16777216:=by decide);unfold jf kU;(simp only[iC,gV,envOf,ai,aI,ak,aL,Nat.reduceSub,Nat.reduceAdd,aE,aK,aN,ay]);with_reducible generalize Xy:qf _ _ _ _=lk
 (rw[true_and,dJ,d7,dE,dz,dD]);rw[2];rw[dC];refine o7 w m0 ?_;rw[3];subst Xy;unfold qf;refine⟨!4,?_⟩;rw[d5,dC,uC,show qb true (.tuple [])=some [] from rfl,dB];refine⟨Kf many w.m1 ts,.inl ⟨0,rfl,tp w.hp⟩,rfl,(Rg.sub (many:=many) (told:=[]) ⟨!4,!4⟩),rfl,?_⟩;simp only[ai,aI,JH,av,aq];generalize hY:Kf many w.m1 ts=Y;have hP:As many ts Y fo 9:=by rw[<- hY];exact qN w 4
 with_reducible generalize ht:dJ (oJ 5 _) _=t
 rw[dJ,d7,dE,dz,dD];rw[25];rw[dC];refine hP told hr h9 _ _ λd hd=>?_;rcases hd with⟨jl,rfl,hL⟩ | ⟨_,kz⟩
 .rw[3]
  subst ht;with_reducible generalize Ao:oI 5=tr
  rw[dJ,oJ,Qj];simp only[uL,dz,uC,dC,dN,dA,aa,ac];rw[e0,dU,d8,dB,<- e0];refine⟨⟨!1,!1,by simp;omega⟩,?_⟩;rw[3];have hz:(List.replicate many.toNat [ae.int 0]).flatten=(List.replicate many.toNat (0:Int)).map .int:=by rw[List.map_replicate];simp
  rw[hz,dJ];show jV (EV (dE iu (dz (dD 0) dC))) (fQ 6) (jV (EV (zQ (dA 6) (zO (!13)) zN)) (fQ 7) (XD Y)) _ _ _;rw[jV,EV,dE,dz,dD];rw[2];rw[dC,lX (!1) (!1) w.w];simp only[kf,dB];refine mL (λpre post env n'=>n'=n/\∃(hs:List Int) (x6 x7:Option Ent),env=[some (!20),some (.s (dI told)),some (.s (uo many ts)),none,some (.s (.int jl)),some (.o (hs.map .int)),x6,x7]/\G7 many hs/\∀d∈post,∃l,d=dI (lE (λa=>decide (a=l)) 0 (!28))/\l∈dY many ts) _ [] _ _ ?_ ⟨rfl,_,_,_,rfl,⟨!4,λx hx=>by rw[(List.mem_replicate.mp hx).2];omega⟩,λd hd=>?_⟩ ?_
  .rintro pre d post env n' E' hE ⟨rfl,hs,x6,x7,rfl,ok,hp⟩ JG
   obtain⟨l,rfl,hl⟩:=hp d (ao ..);rw[fQ];rw[3];have hlen:=nW many ts
   have xB:∀i∈lE (λa=>decide (a=l)) 0 (!28),0<=i/\i<many/\(!28)[i.toNat]? = some l:=λi hi=>by
    obtain⟨q1,q2,q3⟩:=wH hi;exact⟨q1,!1,q3⟩
   have lB:=sd (p:=λa=>decide (a=l)) (!28) 0
   have gX:lE (λa=>decide (a=l)) 0 (!28)≠[]:=λz=>by
    obtain⟨j,hj⟩:=List.mem_iff_getElem?.mp hl;have:((0+j:Nat):Int)∈lE (λa=>decide (a=l)) 0 (!28):=mS.mpr ⟨j,l,rfl,hj,!4⟩;rw[z] at this;cases this
   generalize lE (λa=>decide (a=l)) 0 (!28)=part at *
   cases part with
   | nil=>exact absurd rfl gX
   | cons a rest =>
    have MU:∀(e:fC) n Q,e[6]? = some (some (.s (dI (a::rest))))->zQ (dA 6) (zO (!13)) zN e n Q=Q (.tuple (rest.map .int)) n:=λe n Q he=>by
     simp only[zQ,dA,he,zN,zO,uC,dI,I9,sL _ 1 (!2),dB];rfl
    rw[jV,EV,MU _ _ _ rfl];simp only[kf,dB];refine Cq w hr hj hL hP (xB a (ao ..)) rest hs _ ok (λb hb=>⟨Int.ne_of_lt ((bJ.mp lB).1 b hb),xB b (ag _ hb)⟩) λpV y7 lA=>?_;exact JG _ _ ⟨rfl,pV,_,y7,rfl,lA,λd hd=>hp d (ag _ hd)⟩
  .obtain⟨l,hl,rfl⟩:=aU.mp hd
   exact⟨l,rfl,fV.mp hl⟩
  .rintro pre env n' ⟨rfl,hs,x6,x7,rfl,ok,_⟩
   show tr _ _ _;rw[<- Ao,oI];rw[2];exact h hs ok
 .exact absurd hj kz
end
noncomputable def ft (many:Int)(ts:List eE)(l:Int):List Int:=lE (λa=>decide (a=l)) 0 (!28)
theorem MZ {many l:Int}{ts:List eE}(hl:l∈dY many ts):ft many ts l≠[]:=λz=>by
 obtain⟨j,hj⟩:=List.mem_iff_getElem?.mp hl;have:((0+j:Nat):Int)∈ft many ts l:=mS.mpr ⟨j,l,rfl,hj,!4⟩;rw[z] at this;cases this
theorem Aw {many l:Int}{ts:List eE}:∀i∈ft many ts l,0<=i/\i<many:=λi hi=>by
 obtain⟨q1,q2,q3⟩:=wH hi;have:=nW many ts;omega
theorem y4 {many l:Int}{ts:List eE}(hl:l∈dY many ts):eY (dI (ft many ts l)) (.int 0)=some (.int ((ft many ts l).headD 0))/\0<=(ft many ts l).headD 0/\(ft many ts l).headD 0<many:=by
 have gX:=MZ hl;have W2:=Aw (many:=many) (ts:=ts) (l:=l);generalize ft many ts l=p at *
 cases p with
 | nil=>exact absurd rfl gX
 | cons a r=>exact⟨by unfold dI;rw[dU,ai,d8];rfl,W2 a (ao ..)⟩
theorem G8 (many:Int)(ts:List eE):(hZ (!28)).length<=many.toNat:=by
 rw[<- nW many ts];exact gk (iw (jC _)) λk hk=>fV.mp hk
section
variable {n:Int}{X:XQ}{Q:ae->Int->Prop}{many:Int}{ts:List eE}
theorem Kk {hs ms:List Int}{jl:Int}(m0:1<=many)(m1:many<=9)(ok:B7 many ts)(hh:G7 many hs)(hm:ms.length=ts.length)(h:∀ps:List (List Int),ps.length<=9->(∀p∈ps,p.Pairwise (· < ·)/\∀v∈p,0<=v/\v<many)->Q (.list (ps.map dI)) n) :
  jF [eM many ts,.list (hs.map .int),.list (ms.map .int),.int jl] n Q X:=by
 (have e0:eM many ts=.tuple [.int many,.tuple (ts.map eO)]:=rfl);unfold jF qk;(simp only[iC,gV,envOf,ai,aI,ak,aL,Nat.reduceSub,Nat.reduceAdd,aE,aK,aN,ay]);with_reducible generalize M0:eJ _=t3
 with_reducible generalize xE:dJ (d7 6 _) t3=t2
 with_reducible generalize Fs:dJ (d7 5 _) t2=t1
 rw[true_and,dJ,d7,d5,dz,dN,dA];rw[2];rw[uC,e0,dU,d8,dB,dz,i9,dz,uL,e9,Rr,dN,dA];rw[2];rw[uC,dU,d9,dB];simp only[kf,dB,jw,ai,aI,bW,aa,ac]
 rw[v9 eO (0,0,0),g6 (λenv=>∃x y,env=[x,y,some (.s (.int jl)),some (.s (.list (ms.map .int)))]) _ (λk=>eO (!18)) (λk=>decide (ms.getD k.toNat 0<=jl)) _ _ _ (λk hk env ⟨x,y,he⟩=>by
  subst he;have hk:=fy.mp hk
  have D4:eY (.list (ms.map .int)) (.int k)=some (.int (ms.getD k.toNat 0)):=by
   rw[eP];obtain⟨a,ha,_,lL⟩:=mM (ns:=ms) (i:=k) hk.1 (!1);rw[ha,au,lL];rfl
  exact⟨[some (.s (.int k)),some (.s (eO (!18))),some (.s (.int jl)),some (.s (.list (ms.map .int)))],⟨_,_,rfl⟩,λK=>by simp! [dJ],λn Q=>by simp only[eC,dN,dA,aa,ac,D4,Rq,dB,dR],λn Q=>by simp! [dJ]⟩) ⟨_,_,rfl⟩]
 rw[ay,dC];simp only[fu,dB];rw[dC];rw[3];generalize Ru:((fW 0 ts.length).filter λk=>decide (ms.getD k.toNat 0<=jl)).map (λk=>ts.getD k.toNat (0,0,0))=us
 have XE:B7 many us:=λt ht=>by
  rw[<- Ru] at ht;obtain⟨k,hk,rfl⟩:=aU.mp ht;have hk:=fy.mp (aJ.mp hk).1;exact ok _ (by rw[au,aM (!1)];exact bU _)
 have e1:ae.tuple [.int many,.tuple (((fW 0 ts.length).filter λk=>decide (ms.getD k.toNat 0<=jl)).map λk=>eO (!18))]=eM many us:=by
  rw[<- Ru,eM,bc];rfl
 rw[e1,<- e0];subst Fs;rw[dJ,d7,uL,e9,ph,dE,dz,dD];rw[2];rw[dC,lX (!1) (!1) ok];simp only[kf,dB,jw,ai,aI]
 rw[g6 (λenv=>∃x,env=[x]) _ (λl=>.int ((ft many ts l).headD 0)) (λ_=>true) _ _ _ (λl hl env ⟨x,he⟩=>by
  subst he
  exact⟨[some (.s (dI (ft many ts l)))],⟨_,rfl⟩,λK=>by rw[fQ];rfl,λn Q=>by simp! [dJ],λn Q=>by
   rw[dN,dA];simp only[aa];rw[uC,(y4 (fV.mp hl)).1,dB]⟩) ⟨_,rfl⟩]
 rw[fK,ay];rw[3];subst xE;rw[dJ,d7,uL,e9,ph,dE,dz,dD];rw[2];rw[dC,lX (!1) (!1) XE];simp only[kf,dB,jw,ai,aI,bW,aa,ac]
 rw[g6 (λenv=>∃x,env=[x,some (.s (.int jl)),some (.s (.list (hs.map .int)))]) _ (λl=>dI (ft many us l)) (λl=>decide (2 * hs.getD ((ft many us l).headD 0).toNat 0<=jl)) _ _ _ (λl hl env ⟨x,he⟩=>by
  subst he;obtain⟨p1,p2,p3⟩:=y4 (fV.mp hl);have zq:=hh.len
  have D4:eY (.list (hs.map .int)) (.int ((ft many us l).headD 0))=some (.int (hs.getD ((ft many us l).headD 0).toNat 0)):=by
   rw[eP];obtain⟨a,ha,_,lL⟩:=mM (ns:=hs) (i:=(ft many us l).headD 0) p2 (!1);rw[ha,au,lL];rfl
  have Vl:-1584<=hs.getD ((ft many us l).headD 0).toNat 0/\hs.getD ((ft many us l).headD 0).toNat 0<=1584:=hh.bd _ (by rw[au,aM (!1)];exact bU _);refine⟨[some (.s (dI (ft many us l))),some (.s (.int jl)),some (.s (.list (hs.map .int)))],⟨_,rfl⟩,λK=>by rw[fQ];rfl,λn Q=>?_,λn Q=>by simp! [dJ]⟩;simp only[eC,dN,uC,dA,aa,ac,p1,D4,dB];rw[ni (.inl ⟨!2,!2⟩)];simp only[Rq,dB,dR]) ⟨_,rfl⟩]
 rw[ay];rw[3];generalize Q3:(hZ (!28)).map (λl=>(ft many ts l).headD 0)=roots;have er:(hZ (!28)).map (λl=>ae.int ((ft many ts l).headD 0))=roots.map .int:=by rw[<- Q3,bc];rfl
 rw[er];generalize hls:(hZ (dY many us)).filter (λl=>decide (2 * hs.getD ((ft many us l).headD 0).toNat 0<=jl))=ls;subst M0;rw[eJ,uL,e9,ph,dA];simp only[aa,ac,kf,dB,jw,ai,aI,bW]
 rw[g6 (λenv=>∃x,env=[x,some (.s (.list (roots.map .int)))]) _ (λl=>dI (ft many us l)) (λl=>!((roots.map λv=>decide (v∈ft many us l)).any id)) _ _ _ (λl hl env ⟨x,he⟩=>by
  subst he;refine⟨[some (.s (dI (ft many us l))),some (.s (.list (roots.map .int)))],⟨_,rfl⟩,λK=>by rw[fQ];rfl,λn Q=>?_,λn Q=>by simp! [dJ]⟩;rw[Gm,eC,i9,dz,uL,e9,ph,dA];simp only[aa,ac,kf,dB,jw,ai,aI,bW]
  rw[gc (λv=>.bool (decide (v∈ft many us l))) (λ_=>true) _ _ _ _ (λv _ n Q=>by
   simp only[aq,dN,dA,aa,ac,dI,pk,dB]) (λv _ n Q=>by simp! [dJ])]
  rw[fK,ay,dC];have eb:roots.map (λv=>ae.bool (decide (v∈ft many us l)))=(roots.map λv=>decide (v∈ft many us l)).map .bool:=by rw[bc];rfl
  rw[eb];simp only[JM,BC,bo,dB,dR]) ⟨_,rfl⟩]
 rw[ay];have e2:(ls.filter λl=>!((roots.map λv=>decide (v∈ft many us l)).any id)).map (λl=>dI (ft many us l))=((ls.filter λl=>!((roots.map λv=>decide (v∈ft many us l)).any id)).map (ft many us)).map dI:=by rw[bc];rfl
 rw[e2];refine h _ ?_ λp hp=>?_
 .have h1:=G8 many us
  have h2:=bN (λl=>decide (2 * hs.getD ((ft many us l).headD 0).toNat 0<=jl)) (hZ (dY many us));have h3:=bN (λl=>!((roots.map λv=>decide (v∈ft many us l)).any id)) ls;rw[hls] at h2;rw[ar];omega
 .obtain⟨l,_,rfl⟩:=aU.mp hp
  exact⟨sd _ _,Aw⟩
end
theorem XF (i j:Nat)(x y:ae)(env:fC)(Q:fC->Prop):Bs [fQ i,fQ j] (.tuple [x,y]) env Q=Q ((env.set i (some (.s x))).set j (some (.s y))):=rfl
structure qO (many:Int) (m:Nat) (kvs:jn):Prop where
 len:kvs.length<=m
 row:∀p∈kvs,(p.1.Pairwise (· < ·)/\∀v∈p.1,0<=v/\v<many)/\∃v:Int,p.2=.int v/\-(10000 * (m:Int))<=v/\v<=10000 * (m:Int)
theorem M1 (kvs:jn)(k:List Int)(d:ae):(jq kvs k d).length<=kvs.length+1:=by
 unfold jq;split
 .simp
 .simp
theorem qO.put {many:Int}{m:Nat}{kvs:jn}(h:qO many m kvs){k:List Int}{v lo hi:Int}(hk:k.Pairwise (· < ·)/\∀x∈k,0<=x/\x<many)(hv:(fY kvs k).getD (.int 0)=.int v)(hb:-10000<=hi - lo/\hi - lo<=10000):qO many (m+1) (jq kvs k (.int (v+hi - lo))):=by
 have AA:-(10000 * (m:Int))<=v/\v<=10000 * (m:Int):=by
  cases e:fY kvs k with
  | none=>rw[e] at hv;cases hv;omega
  | some d =>
   rw[e] at hv;obtain⟨_,v',e2,h2⟩:=h.row _ (vL e);have e3:d=.int v:=hv;have e4:d=.int v':=e2;rw[e3] at e4;cases e4;exact h2
 have XG:∀p∈jq kvs k (.int (v+hi - lo)),(p.1.Pairwise (· < ·)/\∀v∈p.1,0<=v/\v<many)/\∃v:Int,p.2=.int v/\-(10000 * ((m+1:Nat):Int))<=v/\v<=10000 * ((m+1:Nat):Int):=λp hp=>by
  unfold jq at hp
  have old:∀q∈kvs,(q.1.Pairwise (· < ·)/\∀v∈q.1,0<=v/\v<many)/\∃v:Int,q.2=.int v/\-(10000 * ((m+1:Nat):Int))<=v/\v<=10000 * ((m+1:Nat):Int):=λq hq=>by
   obtain⟨h1,v',e,h2⟩:=h.row q hq;exact⟨h1,v',e,!1,!1⟩
  split at hp
  .obtain⟨q,hq,rfl⟩:=aU.mp hp
   split
   .rename_i e
    exact⟨by rw[e];exact hk,_,rfl,!1,!1⟩
   .exact old q hq
  .rcases aX.mp hp with hp | hp
   .exact old p hp
   .rw[ap.mp hp]
    exact⟨hk,_,rfl,!1,!1⟩
 exact⟨by have:=M1 kvs k (.int (v+hi - lo));have:=h.len;omega,XG⟩
section
variable {n:Int}{X:XQ}{Q:ae->Int->Prop}{many:Int}{ts:List eE}
noncomputable def M3:US:=(vJ 5 (dA 8) (dN jz (dN ip (vK 5 (dD 8) (!16)) (dA 7)) (dA 6)))
noncomputable abbrev Dat (x:Option Ent):Prop:=∀e,x=some e->∃d,e=.s d
theorem y6 {d0 d1 d2 d3 d4:ae}{a:Addr}{lo hi:Int}(hb:-10000<=hi - lo/\hi - lo<=10000){E:rA}:∀(ps:List (List Int)) (m:Nat) (kvs:jn) (x8:Option Ent),qO many m kvs->m+ps.length<10000->(∀p∈ps,p.Pairwise (· < ·)/\∀v∈p,0<=v/\v<many)->Dat x8 ->
  (∀kvs x8,qO many (m+ps.length) kvs->Dat x8->E.nx [some (.s d0),some (.s d1),some (.s d2),some (.s d3),some (.s d4),some (.d a true kvs),some (.s (.int lo)),some (.s (.int hi)),x8] n) ->
  gU (fQ 8) M3 E (ps.map dI) [some (.s d0),some (.s d1),some (.s d2),some (.s d3),some (.s d4),some (.d a true kvs),some (.s (.int lo)),some (.s (.int hi)),x8] n
 | [],m,kvs,x8,ok,_,_,hx,h=>h kvs x8 ok hx
 | p::ps,m,kvs,x8,ok,hm,hp,hx,h=>by
  have hk:=hp p (ao ..);rw[ak] at hm h
  obtain⟨v,hv⟩:∃v:Int,(fY kvs p).getD (.int 0)=.int v:=by
   cases e:fY kvs p with
   | none=>exact⟨0,rfl⟩
   | some d=>obtain⟨_,v,e2,_⟩:=ok.row _ (vL e);exact⟨v,e2⟩
  have Mb:qb true (dI p)=some p:=by simp only[qb,dI,ir]
  rw[ai,gU,fQ];rw[3];unfold M3;rw[vJ,dN,dN,vK];rw[2];rw[dD];rw[2];rw[uC,Mb,dB,hv,dA];rw[2];rw[yJ,dB,dA];rw[2];rw[B3,dB,dA];rw[2];rw[Mb,dB];refine⟨⟨by have:=ok.len;rw[show aC=16777216 by decide];omega,λj t' kv hj z=>?_⟩,?_⟩
  .match j,hj,z with
   | 0,_,z=>simp at z
   | 1,_,z=>simp at z
   | 2,_,z=>simp at z
   | 3,_,z=>simp at z
   | 4,_,z=>simp at z
   | 5,hj,_=>exact hj rfl
   | 6,_,z=>simp at z
   | 7,_,z=>simp at z
   | 8,_,z=>simp at z
   | j+9,_,z=>simp at z
  .rw[3]
   exact y6 hb ps (m+1) _ _ (ok.put hk hv hb) (!1) (λq hq=>hp q (ag _ hq)) (λe he=>⟨_,(Option.some.inj he).symm⟩) λkvs x8 lA VY=>h kvs x8 (by rw[show m+(ps.length+1)=m+1+ps.length by omega];exact lA) VY
theorem y9 {hs ms lv:List Int}{d1:ae}{a:Addr}(m0:1<=many)(m1:many<=9)(ok:B7 many ts)(hh:G7 many hs)(hm:ms.length=ts.length){E:rA}:∀(zs:List (Int × Int)) (m:Nat) (kvs:jn) (x6 x7 x8:Option Ent),qO many m kvs->m+9 * zs.length<10000->(∀z∈zs,-10000<=z.2 - z.1/\z.2 - z.1<=10000)->Dat x6->Dat x7->Dat x8 ->
  (∀kvs m' x6 x7 x8,m'<=m+9 * zs.length->qO many m' kvs->Dat x6->Dat x7->Dat x8->E.nx [some (!20),some (.s d1),some (.s (.list (hs.map .int))),some (.s (.list (ms.map .int))),some (.s (.list (lv.map .int))),some (.d a true kvs),x6,x7,x8] n) ->
  gU (Bs [(fQ 6),(fQ 7)]) (jV (EV (dE jF (dz (dD 0) (dz (dD 2) (dz (dD 3) (dz (dD 6) dC)))))) (fQ 8) M3) E (zs.map λz=>.tuple [.int z.1,.int z.2]) [some (!20),some (.s d1),some (.s (.list (hs.map .int))),some (.s (.list (ms.map .int))),some (.s (.list (lv.map .int))),some (.d a true kvs),x6,x7,x8] n
 | [],m,kvs,x6,x7,x8,rk,_,_,q6,q7,q8,h=>h kvs m x6 x7 x8 (!4) rk q6 q7 q8
 | z::zs,m,kvs,x6,x7,x8,rk,hb,hz,q6,q7,q8,h=>by
  rw[ak] at hb h;rw[ai,gU,XF];rw[3];rw[jV,EV,dE,dz,dD];rw[25];rw[dz,dD];rw[25];rw[dC];refine Kk m0 m1 ok hh hm λps hp QZ=>?_;simp only[kf,dB];refine y6 (hz z (ao ..)) ps m kvs x8 rk (!1) QZ q8 λkvs' y8 rk' q8'=>?_;exact y9 m0 m1 ok hh hm zs _ kvs' _ _ y8 rk' (!1) (λy hy=>hz y (ag _ hy)) (λe he=>⟨_,(Option.some.inj he).symm⟩) (λe he=>⟨_,(Option.some.inj he).symm⟩) q8' λkvs m' x6 x7 x8 Pw=>h kvs m' x6 x7 x8 (!1)
end
theorem qO.mono {many:Int}{m m':Nat}{kvs:jn}(h:qO many m kvs)(hm:m<=m'):qO many m' kvs:=⟨by have:=h.len;omega,λp hp=>by
 obtain⟨h1,v,e,h2,h3⟩:=h.row p hp;exact⟨h1,v,e,!1,!1⟩⟩
section
variable {n:Int}{X:XQ}{Q:ae->Int->Prop}{many:Int}{ts:List eE}
theorem xF {told:List Int}(w:mw many ts)(m0:1<=many)(hr:Rg many told)(hj:∃s,eF ts told s)(h:∀kvs,qO many 300 kvs->Q (.tuple (l3 kvs)) n):kF [eM many ts,dI told] n Q X:=by
 (have e0:eM many ts=.tuple [.int many,.tuple (ts.map eO)]:=rfl);have m1:=w.m1;have XA:=w.len;unfold kF nv;(simp only[iC,gV,envOf,ai,aI,ak,aL,Nat.reduceSub,Nat.reduceAdd,aE,aK,aN,ay]);with_reducible generalize Ao:eJ (rN 5)=tr
 with_reducible generalize xE:dJ (E6 5 true) _=t2
 with_reducible generalize Fs:dJ (d7 4 _) t2=t1
 with_reducible generalize ht0:dJ (d7 3 _) t1=t0
 (rw[true_and,dJ,d7,dE,dz,dD]);rw[25];rw[dC];refine uu w m0 hr hj λhs hh=>?_;rw[3];have hl:=hh.len
 have D4:∀v:Int,0<=v->v<many->eY (.list (hs.map .int)) (.int v)=some (.int (hs.getD v.toNat 0))/\-1584<=hs.getD v.toNat 0/\hs.getD v.toNat 0<=1584:=λv v0 v1=>by
  obtain⟨a,ha,hm,lL⟩:=mM (ns:=hs) (i:=v) v0 (!1);have e:hs.getD v.toNat 0=a:=by rw[au,lL];rfl
  rw[eP,ha,e];exact⟨rfl,hh.bd a hm⟩
 subst ht0;rw[dJ,d7,uL,e9,ph,dN,dA];rw[2];rw[uC,e0,dU,d9,dB,<- e0];simp only[kf,dB,jw,ai,aI,bW,aa,ac]
 rw[g6 (λenv=>∃x,env=[x,some (.s (.list (hs.map .int)))]) eO (λt=>.int (hs.getD t.1.toNat 0+hs.getD t.2.1.toNat 0+t.2.2)) (λ_=>true) _ _ _ (λt ht env ⟨x,he⟩=>by
  subst he;have hw:=w.w t ht;have g1:=(D4 t.1 hw.1 hw.2.1).1;have g2:=(D4 t.2.1 hw.2.2.1 hw.2.2.2).1;have i0:eY (eO t) (.int 0)=some (.int t.1):=by rw[eO,dU,d8]
  have i1:eY (eO t) (.int 1)=some (.int t.2.1):=by rw[eO,dU,d9]
  have i2:eY (eO t) (.int 2)=some (.int t.2.2):=by rw[eO,dU,eN]
  refine⟨[some (.s (eO t)),some (.s (.list (hs.map .int)))],⟨_,rfl⟩,λK=>by rw[fQ];rfl,λn Q=>by simp! [dJ],λn Q=>?_⟩;simp only[dN,dA,uC,aa,ac,i0,i1,i2,g1,g2,yJ,dB]) ⟨_,rfl⟩]
 rw[fK,ay];rw[3];generalize XH:ts.map (λt=>hs.getD t.1.toNat 0+hs.getD t.2.1.toNat 0+t.2.2)=ms;have em:ts.map (λt=>ae.int (hs.getD t.1.toNat 0+hs.getD t.2.1.toNat 0+t.2.2))=ms.map .int:=by rw[<- XH,bc];rfl
 have hml:ms.length=ts.length:=by rw[<- XH,ar]
 have hmb:∀x∈ms,-3300<=x/\x<=3300:=λx hx=>by
  rw[<- XH] at hx;obtain⟨t,ht,rfl⟩:=aU.mp hx;have hw:=w.w t ht;have g1:=(D4 t.1 hw.1 hw.2.1).2;have g2:=(D4 t.2.1 hw.2.2.1 hw.2.2.2).2;have g3:=w.pr t ht;omega
 rw[em];subst Fs;rw[dJ,d7,uL,vA,dN,uL,e9,ph,dA];simp only[aa,ac,kf,dB,jw,ai,aI]
 rw[gc (λh=>.int (2 * h)) (λ_=>true) _ _ _ _ (λv _ n Q=>by
  simp only[aq,dN,uC,dA,aa,dB];rw[ni (.inl ⟨!2,!2⟩),dB]) (λv _ n Q=>by simp! [dJ])]
 rw[fK,ay,dA];rw[2]
 have ea:ip (.list (hs.map λh=>ae.int (2 * h))) (.list (ms.map .int))=some (.list ((hs.map (λh=>2 * h)++ms).map .int)):=by
  rw[Jm (by rw[ar,ar];omega),aW,bc];rfl
 rw[ea,dB];simp only[kf,dB,ir];refine⟨by rw[aQ,ar];omega,?_⟩
 have Za:∀x∈hZ (hs.map (λh=>2 * h)++ms),-3300<=x/\x<=3300:=λx hx=>by
  rcases aX.mp (fV.mp hx) with hx | hx
  .obtain⟨y,hy,rfl⟩:=aU.mp hx
   have:=hh.bd y hy;omega
  .exact hmb x hx
 have Zb:(hZ (hs.map (λh=>2 * h)++ms)).length<=25:=by
  have:=gk (iw (jC (hs.map (λh=>2 * h)++ms))) (ns:=hs.map (λh=>2 * h)++ms) λk hk=>fV.mp hk;rw[aQ,ar] at this;omega
 generalize hZ (hs.map (λh=>2 * h)++ms)=lv at *;rw[3];subst xE;rw[dJ,E6];intro a ha;rw[3];rw[dJ];show jV (Vd (dD 4) (zQ (dA 4) (zO (!13)) zN)) (Bs [(fQ 6),(fQ 7)]) (jV (EV (dE jF (dz (dD 0) (dz (dD 2) (dz (dD 3) (dz (dD 6) dC)))))) (fQ 8) M3) _ _ _;rw[jV,Vd,dD];rw[2]
 have MU:∀(e:fC) n Q,e[4]? = some (some (.s (.list (lv.map .int))))->zQ (dA 4) (zO (!13)) zN e n Q=Q (.list ((lv.drop 1).map .int)) n:=λe n Q he=>by
  simp only[zQ,dA,he,zN,zO,uC,I9,sL _ 1 (!2),dB];rw[List.map_drop];rfl
 rw[MU _ _ _ rfl]
 have ez:DI (lv.map .int) ((lv.drop 1).map .int)=(lv.zip (lv.drop 1)).map λz=>.tuple [.int z.1,.int z.2]:=by
  unfold DI;rw[List.zip_map,bc];rfl
 simp only[ez];refine y9 m0 m1 w.w hh hml (lv.zip (lv.drop 1)) 0 [] _ _ _ ⟨!4,!4⟩ (by rw[List.length_zip];omega) (λz hz=>?_) (λe he=>by cases he) (λe he=>by cases he) (λe he=>by cases he) λkvs m' x6 x7 x8 Pw rk _ _ _=>?_
 .have h1:=du (a:=z.1) (b:=z.2) hz
  have h2:=Za _ h1.1;have h3:=Za _ (List.mem_of_mem_drop h1.2);omega
 .show tr _ _ _
  rw[<- Ao,eJ,rN];rw[2];exact h kvs (rk.mono (by rw[List.length_zip] at Pw;omega))
end
theorem D' (many:Int)(ts:List eE):dY many (ts.map kH)=dY many ts:=by
 unfold dY;generalize fW 0 many.toNat=ls
 induction ts generalizing ls with
 | nil=>rfl
 | cons t ts ih =>
  rw[ai,ck,ck,show iG ls (kH t)=iG ls t from rfl];exact ih _
noncomputable def iX (ls:List Int)(l v:Int):Bool:=decide (ls[v.toNat]? = some l)
theorem G9 {many:Int}{ts:List eE}(w:mw many ts):∀(m:Nat) (told:List Int),told.length<=m->Rg many told->(∀l,(told.filter (iX (!28) l)).length % 2=0)->∃s,eF ts told s:=by
 intro m
 induction m with
 | zero =>
  intro told hl _ _;have:told=[]:=ci (!1);subst this;exact⟨[],λk hk=>(nomatch hk),cg,λv=>by simp[eB]⟩
 | succ m ih =>
  intro told hl hr he
  cases told with
  | nil=>exact⟨[],λk hk=>(nomatch hk),cg,λv=>by simp[eB]⟩
  | cons a rest =>
   have ha:=hr.rg a (ao ..);have hlen:=nW many ts;obtain⟨l,Hh⟩:∃l,(!28)[a.toNat]? = some l:=⟨_,aM (!1)⟩;have h1:=he l;rw[cb (by simp[iX,Hh]),ak] at h1;obtain⟨b,hb⟩:∃b,b∈rest.filter (iX (!28) l):=List.exists_mem_of_length_pos (!1);obtain⟨Fi,Vm⟩:=aJ.mp hb;have Vm:(!28)[b.toNat]? = some l:=by simpa [iX] using Vm
   have Zc:=hr.rg b (ag _ Fi);obtain⟨d,hd⟩:=Co w ha.1 ha.2 Zc.1 Hh Vm;obtain⟨wx,Zb⟩:=hr.less Fi;have hp:=hr.perm Fi;rw[ak] at hl Zb
   obtain⟨s',pV⟩:=ih _ (!1) wx λk=>by
    have h2:=(hp.filter (iX (!28) k)).length_eq;rw[cL,aQ] at h2;have h3:=he k
    have h4:([a,b].filter (iX (!28) k)).length % 2=0:=by
     have e1:iX (!28) k a=decide (l=k):=by simp[iX,Hh]
     have e2:iX (!28) k b=decide (l=k):=by simp[iX,Vm]
     rw[cJ,cJ,e1,e2];by_cases z:l=k<;>simp[z]
    omega
   obtain⟨s,hs,_⟩:=yW w.hp (w.MW ha.1 ha.2) (iw hr.lt) Fi Zc.1 (!1) hd pV;exact⟨s,hs⟩
noncomputable def nX (told side:List Int):Bool:=decide ((side.filter λv=>decide (v∈told)).length % 2=1)
theorem Km {many:Int}{ts:List eE}{told:List Int}(w:gI many ts)(hl:ts.length<=16)(hr:Rg many told)(kz:¬ ∃s,eF ts told s):∃l∈hZ (!28),nX told (ft many ts l)=true:=Classical.byContradiction λhc=>by
 refine kz ?_
 obtain⟨s,hs⟩:=G9 (Au w hl) told.length told (aw _) hr λl=>by
  rw[D'];by_cases hm:l∈dY many ts
  .have h1:¬ nX told (ft many ts l)=true:=λz=>hc ⟨l,fV.mpr hm,z⟩
   have hp:(told.filter (iX (!28) l)).Perm ((ft many ts l).filter λv=>decide (v∈told)):=by
    refine (bb ((iw hr.lt).filter _) ((iw (sd _ _)).filter _)).mpr λv=>?_;rw[aJ,aJ];constructor
    .rintro⟨h2,h3⟩
     have h3:(!28)[v.toNat]? = some l:=by simpa [iX] using h3
     have h4:=hr.rg v h2;exact⟨mS.mpr ⟨v.toNat,l,!1,h3,!4⟩,decide_eq_true h2⟩
    .rintro⟨h2,h3⟩
     obtain⟨_,_,h4⟩:=wH h2;exact⟨of_decide_eq_true h3,by simp[iX,h4]⟩
   rw[hp.length_eq];unfold nX at h1;have h1:¬ ((ft many ts l).filter λv=>decide (v∈told)).length % 2=1:=λz=>h1 (decide_eq_true z);omega
  .have e:told.filter (iX (!28) l)=[]:=List.filter_eq_nil_iff.mpr λv _ z=>by
    have z:(!28)[v.toNat]? = some l:=by simpa [iX] using z
    exact hm (bG z)
   rw[e];rfl
 exact⟨s,wF.mp hs⟩
section
variable {n:Int}{X:XQ}{Q:ae->Int->Prop}{many:Int}{ts:List eE}
theorem xG {told side:List Int}:kD [dI told,dI side] n Q X=Q (.bool (nX told side)) n:=by
 rw[dI,dI];simp! [kD,nj];rw[gc (λk=>.int k) (λk=>decide (k∈told)) _ _ _ _ (λk _ n Q=>by simp! [dJ]) (λk _ n Q=>by simp! [pk])];simp! [jU,ay,ar,E2 (show (0:Int)<2 by decide),iN];have e:decide (((side.filter λk=>decide (k∈told)).length:Int) % 2=1)=nX told side:=by unfold nX;exact decide_eq_decide.mpr (!1)
 rw[e]
theorem xH {told:List Int}(w:gI many ts)(hl:ts.length<=16)(hr:Rg many told)
  (h1:∀p:List Int,(¬ ∃s,eF ts told s)->p.Pairwise (· < ·)->(∀v∈p,0<=v/\v<many)->Q (.tuple [.str "none",dI p]) n)
  (h2:∀s c kvs,s.Pairwise (· < ·)->eF ts told s->ix ts told c->cost ts s=c->qO many 300 kvs->Q (.tuple [.str "least",dI s,.int 2,.tuple (l3 kvs)]) n):kG [eM many ts,dI told] n Q X:=by
 have m0:=w.m0;have m1:=w.m1;have h9:=hr.len w.m1
 have ok:B7 many ts:=λt ht=>by
  have:=w.ok t ht;have a0:=this.a0;have ab:=this.ab;have bm:=this.bm;exact⟨!1,!1,!1,!1⟩
 unfold kG ny;(simp only[iC,gV,envOf,ai,aI,ak,aL,Nat.reduceSub,Nat.reduceAdd,aE,aK,aN,ay]);with_reducible generalize Fs:dJ (fw _ _ _) _=t1
 (rw[true_and,dJ,d7,dE,dz,dD]);rw[25];rw[dC];refine xD w hl hr (λkz=>?_) λs c lB hj hL hc=>?_
 .rw[3]
  subst Fs;rw[dJ,fw,eC,dN,dA];rw[2];rw[uC,show yp .none .none=some (!37) from rfl,dB,dR,if_pos rfl,eJ,d5,dz,uC,dz,dN,uL,e9,ph,dE,dz,dD];rw[2];rw[dC,lX (!1) (!1) ok];simp only[kf,dB,jw,ai,aI,bW,aa,ac]
  rw[g6 (λenv=>∃x,env=[x,some (.s (dI told))]) _ (λl=>dI (ft many ts l)) (λl=>nX told (ft many ts l)) _ _ _ (λl hl env ⟨x,he⟩=>by
   subst he;refine⟨[some (.s (dI (ft many ts l))),some (.s (dI told))],⟨_,rfl⟩,λK=>by rw[fQ];rfl,λn Q=>?_,λn Q=>by simp! [dJ]⟩;rw[eC,dE,dz,dD];rw[25];rw[dC,xG,dR]) ⟨_,rfl⟩]
  rw[ay,uC];obtain⟨l,hlm,JX⟩:=Km w hl hr kz;have hm:l∈(hZ (!28)).filter λl=>nX told (ft many ts l):=aJ.mpr ⟨hlm,JX⟩;generalize (hZ (!28)).filter (λl=>nX told (ft many ts l))=ls at hm ⊢
  cases ls with
  | nil=>cases hm
  | cons l0 ls =>
   rw[ai,eP,d8,dB,dC];exact h1 _ kz (sd _ _) Aw
 .rw[3]
  subst Fs;have QN:=iw hr.lt;rw[dJ,fw,eC,dN,dA];rw[2];rw[uC,show yp (dI s) .none=some (.bool false) from rfl,dB,dR,if_neg (!2),fq];dsimp only;rw[eJ,d5,dz,uC,dz,dD];rw[2];rw[dz,uC,dz,dE,dz,dE,dz,dD];rw[2];rw[dC,y3,dz,dE,dz,dD];rw[25];rw[dC,o8 w hl (!1),dC];refine xF (Au w hl) m0 (Fq w hr) ⟨_,tq QN hj⟩ λkvs hk=>?_;rw[dC];exact h2 s c kvs lB hj hL hc hk
end
noncomputable def gn (m:Nat)(out:List Int):List Int:=(fW 0 m).filter λk=>!decide (k∈out)
noncomputable def iD (ts:List eE)(out:List Int):List eE:=(!31).map (gw ts)
noncomputable def se (ns J:List Int):List Int:=J.map λi=>ns.getD i.toNat 0
theorem o9 {m:Nat}{out:List Int}{k:Int}:k∈gn m out↔(0<=k/\k<(m:Int))/\k ∉ out:=by
 unfold gn;rw[aJ,fy];simp
theorem Kn (m:Nat)(out:List Int):(gn m out).Pairwise (· < ·):=(pF m).sublist cv
theorem uT {ns:List Int}{i:Int}(h:0<=i/\i<(ns.length:Int)):ns[i.toNat]? = some (ns.getD i.toNat 0)/\ns.getD i.toNat 0∈ns:=by
 have hi:i.toNat<ns.length:=by omega
 rw[au,aM hi];exact⟨rfl,bU hi⟩
section
variable {ts:List eE}{out:List Int}
theorem mT:(iD ts out).length=(!31).length:=by unfold iD;rw[ar]
theorem Cr {i:Int}(h:0<=i/\i<((iD ts out).length:Int)):(iD ts out).getD i.toNat (0,0,0)=gw ts ((!31).getD i.toNat 0):=by
 rw[mT] at h;have:=(uT h).1;unfold iD;rw[au,az,this];rfl
theorem y' {J:List Int}(h:ff (iD ts out) J):eB (iD ts out) J=eB ts (se (!31) J):=by
 unfold eB se;rw[bc];congr 1;refine bL λi hi=>?_;simp only[Function.comp,ij];rw[Cr (h i hi)];rfl
theorem tu {J:List Int}(h:ff (iD ts out) J):cost (iD ts out) J=cost ts (se (!31) J):=by
 unfold cost se;rw[bc];congr 1;refine bL λi hi=>?_;simp only[Function.comp,jr];rw[Cr (h i hi)];rfl
theorem wI {J:List Int}(h:ff (iD ts out) J):ff ts (se (!31) J)/\∀k∈se (!31) J,k ∉ out:=by
 have key:∀k∈se (!31) J,k∈gn ts.length out:=λk hk=>by
  obtain⟨i,hi,rfl⟩:=aU.mp hk;have:=h i hi;rw[mT] at this;exact (uT this).2
 exact⟨λk hk=>(o9.mp (key k hk)).1,λk hk=>(o9.mp (key k hk)).2⟩
theorem Q4 {ns:List Int}(hn:ns.Nodup){i j:Int}(hi:0<=i/\i<(ns.length:Int))(hj:0<=j/\j<(ns.length:Int))(e:ns.getD i.toNat 0=ns.getD j.toNat 0):i=j:=by
 have h1:=(uT hi).1;have h2:=(uT hj).1;rw[e,<- h2] at h1;have:=(List.getElem?_inj (!1) hn).mp h1;omega
theorem Ft {J:List Int}(h:ff (iD ts out) J)(hn:J.Nodup):(se (!31) J).Nodup:=by
 unfold se;refine dg.mpr (hn.imp_of_mem λ{a b} ha hb gX z=>gX ?_);have h1:=h a ha;have h2:=h b hb;rw[mT] at h1 h2;exact Q4 (iw (Kn _ _)) h1 h2 z
theorem za {T J:List Int}(h:eF (iD ts out) T J):eF ts T (se (!31) J):=⟨(wI h.num).1,Ft h.num h.nd,λv=>by rw[<- y' h.num];exact h.odd v⟩
theorem zc {T S:List Int}(h:eF ts T S)(ho:∀k∈S,k ∉ out):∃J,eF (iD ts out) T J/\cost (iD ts out) J=cost ts S:=by
 have xB:∀k∈S,k∈gn ts.length out:=λk hk=>o9.mpr ⟨h.num k hk,ho k hk⟩
 have Q5:∀k∈S,(!31).getD (((!31).idxOf k:Nat):Int).toNat 0=k:=λk hk=>by
  have h1:=List.idxOf_lt_length_of_mem (xB k hk);rw[a9,au,aM h1];exact List.getElem_idxOf h1
 have hJ:ff (iD ts out) (S.map λk=>(((!31).idxOf k:Nat):Int)):=λi hi=>by
  obtain⟨k,hk,rfl⟩:=aU.mp hi;have h1:=List.idxOf_lt_length_of_mem (xB k hk);rw[mT];omega
 have e:se (!31) (S.map λk=>(((!31).idxOf k:Nat):Int))=S:=by
  unfold se;rw[bc]
  conv=>rhs;rw[<- List.map_id S]
  exact bL λk hk=>Q5 k hk
 refine⟨_,⟨hJ,?_,λv=>by rw[y' hJ,e];exact h.odd v⟩,by rw[tu hJ,e]⟩;refine dg.mpr (h.nd.imp_of_mem λ{a b} ha hb gX z=>gX ?_);rw[<- Q5 a ha,<- Q5 b hb,z]
theorem Ea {T:List Int}{c:Int}(h:ix (iD ts out) T c):(∃S,eF ts T S/\(∀k∈S,k ∉ out)/\cost ts S=c)/\∀S,eF ts T S->(∀k∈S,k ∉ out)->c<=cost ts S:=by
 obtain⟨⟨J,hJ,rfl⟩,hl⟩:=h;refine⟨⟨_,za hJ,(wI hJ.num).2,(tu hJ.num).symm⟩,λS hS ho=>?_⟩;obtain⟨J',hJ',e⟩:=zc hS ho;rw[<- e];exact hl J' hJ'
theorem Ko {many:Int}(w:gI many ts):gI many (iD ts out):=⟨w.m0,w.m1,λt ht=>by
 obtain⟨k,hk,rfl⟩:=aU.mp ht;exact w.ok _ (rX (o9.mp hk).1)⟩
end
section
variable {n:Int}{X:XQ}{Q:ae->Int->Prop}{many:Int}{ts:List eE}
theorem Eb {out:List Int}(hl:ts.length<=16):pw [eM many ts,dI out] n Q X=Q (.tuple [eM many (iD ts out),dI (!31)]) n:=by
 (have e0:eM many ts=.tuple [.int many,.tuple (ts.map eO)]:=rfl);have i0:eY (!24) (.int 0)=some (.int many):=by rw[e0,dU,d8]
 have i1:eY (!24) (.int 1)=some (.tuple (ts.map eO)):=by rw[e0,dU,d9]
 unfold pw sQ;(simp only[iC,gV,envOf,ai,aI,ak,aL,Nat.reduceSub,Nat.reduceAdd,aE,aK,aN,ay]);with_reducible generalize ht:eJ _=t
 rw[true_and,dJ,d7,i9,dz,uL,e9,Mk,i9,dz,dN,dA];rw[2];rw[uC,i1,dB,dC];simp only[jU,ar,dB,jw,ai,aI,bW,aa,ac];rw[show ((-(2 ^ 62)<=(ts.length:Int)/\(ts.length:Int)<=16777216))=True from eq_true ⟨!1,!1⟩,true_and,a9,lP]
 rw[gc (λk=>.int k) (λk=>!decide (k∈out)) _ _ _ _ (λk _ n Q=>by simp! [dJ]) (λk _ n Q=>by
  simp only[aq,eC,dN,dA,aa,ac,dI,DB,dB,dR])]
 rw[ay,dC];simp only[fu,dB,av,aq];have en:ae.tuple (((fW 0 ts.length).filter λk=>!decide (k∈out)).map λk=>.int k)=dI (!31):=rfl;rw[en];subst ht;rw[eJ,d5,dz,d5,dz,dN,dA];rw[2];rw[uC,i0,dB,dz,i9,dz,uL,e9,ph,dA];simp only[aa,ac,dI,kf,dB,jw,ai,aI,bW]
 rw[gc (λk=>eO (gw ts k)) (λ_=>true) _ _ _ _ (λk hk n Q=>by
  have D4:eY (.tuple (ts.map eO)) (.int k)=some (eO (gw ts k)):=by rw[dU];exact rW (o9.mp hk).1
  simp only[aq,dN,uC,dA,aa,ac,i1,D4,dB]) (λk _ n Q=>by simp! [dJ])]
 rw[fK,ay,dC];simp only[fu,dB];rw[dC,dz,dD];rw[2];rw[dC]
 have ew:ae.tuple [.int many,.tuple ((!31).map λk=>eO (gw ts k))]=eM many (iD ts out):=by
  unfold iD eM;rw[bc];rfl
 rw[ew]
theorem wJ {told ins outs:List Int}(w:gI many ts)(hl:ts.length<=16)(ht:told.length<=9)(hi:ff ts ins)(Hk:ins.length<=16)(S6:outs.length<=16) :
  jM [eM many ts,dI told,dI ins,dI outs] n Q X=Q (.tuple [eM many (iD ts (ee (ins++outs))),dI (gn ts.length (ee (ins++outs))),dI (ee (told++ee (eB ts ins)))]) n:=by
 have h9:=Cf w hi;unfold jM l4;(simp only[iC,gV,envOf,ai,aI,ak,aL,Nat.reduceSub,Nat.reduceAdd,aE,aK,aN,ay]);rw[true_and,eJ,dN,dE,dz,dD];rw[2];rw[dz,dE,dz,dD];rw[25];rw[dC,f' (!1),dC,Eb hl,d5,dz,dE,dz,dD];rw[2];rw[dz,dE,dz,dD];rw[25];rw[dC,wc hi (!1),dC,f' (!1),dC,vE (!4),dB];rfl
end
theorem Ax {x:Str}(h:(ae.str x).canLay0=true):oj (.str x) (.str x)=some (!37):=by
 rw[sJ h h (by simp[ae.depth]),PySem.SeqAt.eqv_refl _ h]
theorem Kp:oj (.str "least") (.str "none")=some (.bool false):=by
 rw[sJ (!3) (!3) (by simp[ae.depth])];congr 2
theorem M4:(ae.str "none").canLay0=true:=by decide +kernel
section
variable {n:Int}{X:XQ}{Q:ae->Int->Prop}{many:Int}{ts:List eE}
theorem n9 {told ins outs:List Int}(w:gI many ts)(hl:ts.length<=16)(hr:Rg many told)(hi:ff ts ins)(Hk:ins.length<=16)(S6:outs.length<=16)
  (h1:∀p:List Int,(¬ ∃S,eF ts (ee (told++ee (eB ts ins))) S/\∀k∈S,k ∉ ee (ins++outs))->p.Pairwise (· < ·)->(∀v∈p,0<=v/\v<many)->Q (.tuple [.str "none",dI p]) n)
  (h2:∀(S:List Int) (kvs:jn),eF ts (ee (told++ee (eB ts ins))) S->(∀k∈S,k ∉ ee (ins++outs))->(∀S',eF ts (ee (told++ee (eB ts ins))) S'->(∀k∈S',k ∉ ee (ins++outs))->cost ts S<=cost ts S')->qO many 300 kvs->Q (.tuple [.str "least",dI (ee (ins++S)),.int 2,.tuple (l3 kvs)]) n) :
  gm [eM many ts,dI told,dI ins,dI outs] n Q X:=by
 have h9:=hr.len w.m1
 have Of:(iD ts (ee (ins++outs))).length<=16:=by
  rw[mT];have:=bN (λk=>!decide (k∈ee (ins++outs))) (fW 0 ts.length);rw[e8] at this;unfold gn;omega
 have hrT:Rg many (ee (told++ee (eB ts ins))):=⟨gW _,λv hv=>by
  have q1:=fb.mp hv;have q2:v∈told++ee (eB ts ins):=bR.mp (!1);rcases aX.mp q2 with q2 | q2
  .exact hr.rg v q2
  .exact Ar w hi v q2⟩
 unfold gm kW;(simp only[iC,gV,envOf,ai,aI,ak,aL,Nat.reduceSub,Nat.reduceAdd,aE,aK,aN,ay]);with_reducible generalize xE:dJ (fw _ _ _) _=t2
 with_reducible generalize Fs:dJ (d7 5 _) t2=t1
 (rw[true_and,dJ,d7,dE,dz,dD]);rw[25];rw[dz,dD];rw[25];rw[dC,wJ w hl h9 hi Hk S6];rw[3];generalize hT:ee (told++ee (eB ts ins))=T at *;generalize hO:ee (ins++outs)=O at *;subst Fs;rw[dJ,d7,dE,dz,dN,dA];rw[2];rw[uC,dU,d8,dB,dz,dN,dA];rw[2];rw[uC,dU,eN,dB,dC];refine xH (Ko w) Of hrT (λp kz hp Ux=>?_) λJ c kvs lB hJ hL hc hk=>?_
 .rw[3]
  subst xE;rw[dJ,fw,eC,dN,dN,dA];rw[2];rw[uC,dU,d8,dB,uC,Ax M4,dB,dR,if_pos rfl,eJ,dD];rw[2];exact h1 p (λ⟨S,hS,ho⟩=>by obtain⟨J,hJ,_⟩:=zc hS ho;exact kz ⟨J,hJ⟩) hp Ux
 .rw[3]
  subst xE;have hn:=wI hJ.num;have Ub:=r9 hn.1 (Ft hJ.num hJ.nd);have i3:∀a b c d:ae,sx [a,b,c,d] 3=some d:=λ_ _ _ _=>rfl;rw[dJ,fw,eC,dN,dN,dA];rw[2];rw[uC,dU,d8,dB,uC,Kp,dB,dR,if_neg (!2),fq];dsimp only;rw[eJ,d5,dz,uC,dz,dE,dz,dD];rw[2];rw[dz,i9,dz,uL,e9,ph,dN,dA];rw[2];rw[uC,dU,d9,dB,dI];simp only[kf,dB,jw,ai,aI,bW,aa,ac]
  rw[gc (λi=>.int ((gn ts.length O).getD i.toNat 0)) (λ_=>true) _ _ _ _ (λi hi n Q=>by
   have q:=hJ.num i hi;rw[mT] at q
   have D4:eY (dI (gn ts.length O)) (.int i)=some (.int ((gn ts.length O).getD i.toNat 0)):=by
    unfold dI;rw[dU];obtain⟨a,ha,_,lL⟩:=mM (ns:=gn ts.length O) (i:=i) q.1 q.2;rw[ha,au,lL];rfl
   simp only[aq];rw[dN,dN,dA];rw[2];rw[uC,dU,d9,dB,dA];simp only[aa];rw[D4,dB]) (λi _ n Q=>by simp! [dJ])]
  rw[fK,ay,dC];simp only[fu,dB];have em:ae.tuple (J.map λi=>.int ((gn ts.length O).getD i.toNat 0))=dI (se (gn ts.length O) J):=by unfold dI se;rw[bc];rfl
  rw[em,dC,f' (!1),dz,dN,dA];rw[2];rw[uC,dU,eN,dB,dz,dN,dA];rw[2];rw[uC,dU,i3,dB,dC];obtain⟨_,Cs⟩:=Ea hL;exact h2 _ kvs (za hJ) hn.2 (λS' KZ ho=>by rw[<- tu hJ.num,hc];exact Cs S' KZ ho) hk
end
section
variable {ts:List eE}{told:List Int}{k:Int}
theorem join_one (h:0<=k/\k<(ts.length:Int)):eF ts (ee (eB ts [k])) [k]:=⟨λj hj=>by rw[ap.mp hj];exact h,!4,λv=>fb.symm⟩
theorem wK {S:List Int}(hn:S.Nodup)(hk:k ∉ S):(ee ([k]++S)).Perm ([k]++S):=(bb (fM _) (bj.mpr ⟨hk,hn⟩)).mpr λv=>by
 rw[gh (!4) hn];by_cases z:v=k
 .subst z;simp[hk]
 .simp[z]
theorem Q6 (hT:told.Nodup)(h:0<=k/\k<(ts.length:Int)){S:List Int}(hS:eF ts (ee (told++ee (eB ts [k]))) S)(hk:k ∉ S):eF ts told (ee ([k]++S))/\k∈ee ([k]++S)/\cost ts (ee ([k]++S))=jr ts k+cost ts S:=by
 refine⟨(join_one h).turns hS λv=>?_,(wK hS.nd hk).mem_iff.mpr (!4),?_⟩
 .rw[gh hT (fM _)]
  by_cases a:v∈told<;>by_cases b:v∈ee (eB ts [k])<;>simp[a,b]
 .rw[gA (wK hS.nd hk),j4]
  simp[cost]
theorem Kq (hT:told.Nodup)(h:0<=k/\k<(ts.length:Int)){S:List Int}(hS:eF ts told S)(hk:k∈S):∃S',eF ts (ee (told++ee (eB ts [k]))) S'/\k ∉ S'/\cost ts S=jr ts k+cost ts S':=by
 have hj:eF ts (ee (told++ee (eB ts [k]))) (ee ([k]++S)):=(join_one h).turns hS λv=>by
  rw[gh hT (fM _)];by_cases a:v∈told<;>by_cases b:v∈ee (eB ts [k])<;>simp[a,b]
 have kz:k ∉ ee ([k]++S):=λz=>by
  have:=(gh (!4) hS.nd).mp z;simp[hk] at this
 have hp:(ee ([k]++ee ([k]++S))).Perm S:=(bb (fM _) hS.nd).mpr λv=>by
  rw[gh (!4) (fM _),gh (!4) hS.nd];by_cases a:v∈[k]<;>by_cases b:v∈S<;>simp[a,b]
 refine⟨_,hj,kz,?_⟩;rw[<- gA hp,gA (wK hj.nd kz),j4];simp[cost]
structure Kr (ts:List eE) (told:List Int) (k:Int) (b:Bool) (D:List Int):Prop where
 join:eF ts told D
 has:(k∈D)↔b=true
 low:∀S,eF ts told S->((k∈S)↔b=true)->cost ts D<=cost ts S
inductive zd (many:Int) (ts:List eE) (told:List Int) (k:Int) (b:Bool):ae->Prop
 | none (p:List Int) (kz:¬ ∃S,eF ts told S/\((k∈S)↔b=true)) (hp:p.Pairwise (· < ·)) (hr:∀v∈p,0<=v/\v<many):zd many ts told k b (.tuple [.str "none",dI p])
 | least (D:List Int) (kvs:jn) (hD:Kr ts told k b D) (lB:D.Pairwise (· < ·)) (hk:qO many 300 kvs):zd many ts told k b (.tuple [.str "least",dI D,.int 2,.tuple (l3 kvs)])
end
section
variable {n:Int}{X:XQ}{Q:ae->Int->Prop}{many k:Int}{ts:List eE}{told:List Int}
theorem sf (k:Int):ee ([k]++[])=[k]/\ee ([]++[k])=[k]:=⟨uR (!4),uR (!4)⟩
theorem G' (w:gI many ts)(hl:ts.length<=16)(hr:Rg many told)(hk:0<=k/\k<(ts.length:Int))(h:∀d,zd many ts told k true d->Q d n):gm [eM many ts,dI told,dI [k],dI []] n Q X:=by
 have hT:=iw hr.lt;refine n9 w hl hr (λj hj=>by rw[ap.mp hj];exact hk) (!4) (!4) (λp kz hp Ux=>?_) λS kvs hS ho Cs Ks=>?_
 .refine h _ (.none p (λ⟨S,hS,hb⟩=>?_) hp Ux)
  obtain⟨S',g1,g2,_⟩:=Kq hT hk hS (hb.mpr rfl);exact kz ⟨S',g1,λj hj=>by rw[(sf k).1,ap];exact λz=>g2 (z ▸ hj)⟩
 .have hkS:k ∉ S:=λz=>ho k z (by rw[(sf k).1];simp)
  obtain⟨g1,g2,g3⟩:=Q6 hT hk hS hkS;refine h _ (.least _ kvs ⟨g1,⟨λ_=>rfl,λ_=>g2⟩,λS' KZ hb=>?_⟩ (gW _) Ks);obtain⟨S2,q1,q2,q3⟩:=Kq hT hk KZ (hb.mpr rfl);have:=Cs S2 q1 λj hj=>by rw[(sf k).1,ap];exact λz=>q2 (z ▸ hj)
  omega
theorem Ec (w:gI many ts)(hl:ts.length<=16)(hr:Rg many told)(hk:0<=k/\k<(ts.length:Int))(h:∀d,zd many ts told k false d->Q d n):gm [eM many ts,dI told,dI [],dI [k]] n Q X:=by
 have eT:ee (told++ee (eB ts []))=told:=by
  have e:ee (eB ts [])=[]:=cz.mpr λv hv=>by have:=fb.mp hv;simp[eB] at this
  rw[e,bY];exact uR hr.lt
 have key:∀S:List Int,((k∈S)↔false=true)↔∀j∈S,j ∉ ee ([]++[k]):=λS=>by
  rw[(sf k).2];constructor
  .exact λhb j hj z=>by have e:=ap.mp z;subst e;cases hb.mp hj
  .exact λhb=>⟨λz=>absurd (ap.mpr rfl) (hb k z),λz=>by cases z⟩
 refine n9 w hl hr (λj hj=>(nomatch hj)) (!4) (!4) (λp kz hp Ux=>?_) λS kvs hS ho Cs Ks=>?_
 .rw[eT] at kz
  exact h _ (.none p (λ⟨S,hS,hb⟩=>kz ⟨S,hS,(key S).mp hb⟩) hp Ux)
 .rw[eT] at hS Cs
  have hp:(ee ([]++S)).Perm S:=(bb (fM _) hS.nd).mpr λv=>by rw[ay,fb,lu hS.nd];split<;>simp[*]
  have xB:∀v,v∈ee ([]++S)↔v∈S:=λv=>hp.mem_iff;refine h _ (.least _ kvs ⟨⟨λj hj=>hS.num j ((xB j).mp hj),fM _,λv=>by rw[(iV hp).count_eq];exact hS.odd v⟩,by rw[xB];exact (key S).mpr ho,λS' KZ hb=>?_⟩ (gW _) Ks);rw[gA hp];exact Cs S' KZ ((key S').mp hb)
end
inductive qP (many:Int) (ts:List eE) (told:List Int) (k:Int) (b:Bool):ae->Option Int->Prop
 | none (p:List Int) (kz:¬ ∃S,eF ts told S/\((k∈S)↔b=true)) (hp:p.Pairwise (· < ·)) (hr:∀v∈p,0<=v/\v<many):qP many ts told k b (.tuple [.str "none",dI p]) none
 | least (D:List Int) (kvs:jn) (hD:Kr ts told k b D) (lB:D.Pairwise (· < ·)) (hk:qO many 300 kvs):qP many ts told k b (.tuple [.str "least",dI D,.int 2,.tuple (l3 kvs)]) (some (cost ts D))
theorem zd.o {many k:Int}{ts:List eE}{told:List Int}{b:Bool}{d:ae}(h:zd many ts told k b d):∃o,qP many ts told k b d o:=by
 cases h with
 | none p kz hp hr=>exact⟨_,.none p kz hp hr⟩
 | least D kvs hD lB hk=>exact⟨_,.least D kvs hD lB hk⟩
noncomputable def Uy:Option Int->Option Int->Option Int | some a,some b=>some (b - a) | _,_=>none
section
variable {n:Int}{X:XQ}{Q:ae->Int->Prop}{many k:Int}{ts:List eE}{told:List Int}{b1 b2:Bool}{d1 d2:ae}{o1 o2:Option Int}
theorem pH (h:qP many ts told k b1 d1 o1):∃x,eY d1 (.int 0)=some x/\oj x (.str "none")=some (.bool o1.isNone):=by
 cases h with
 | none p kz hp hr=>exact⟨_,by rw[dU,d8],Ax M4⟩
 | least D kvs hD lB hk=>exact⟨_,by rw[dU,d8],Kp⟩
theorem pd (w:gI many ts)(h1:qP many ts told k b1 d1 o1)(h2:qP many ts told k b2 d2 o2)(h:Q (mr (Uy o1 o2)) n):iM [eM many ts,d1,d2] n Q X:=by
 obtain⟨x1,e1,f1⟩:=pH h1;obtain⟨x2,e2,f2⟩:=pH h2;unfold iM l9;(simp only[iC,gV,envOf,ai,aI,ak,aL,Nat.reduceSub,Nat.reduceAdd,aE,aK,aN,ay]);with_reducible generalize ht:eJ (dN jz _ _)=t
 rw[true_and,dJ,fw,Gk,eC,dN,dN,dA];rw[2];rw[uC,e1,dB,uC,f1,dB,dR]
 cases h1 with
 | none p kz hp hr =>
  rw[show (none:Option Int).isNone=true from rfl,if_pos rfl,if_pos trivial,eJ,uC];exact h
 | least D kvs hD lB hk =>
  rw[show (some (cost ts D)).isNone=false from rfl,if_neg (!2),eC,dN,dN,dA];rw[2];rw[uC,e2,dB,uC,f2,dB,dR]
  cases h2 with
  | none p kz hp hr =>
   rw[show (none:Option Int).isNone=true from rfl,if_pos rfl,eJ,uC];exact h
  | least D2 aab hD2 Ug Nt =>
   rw[show (some (cost ts D2)).isNone=false from rfl,if_neg (!2),fq];show t _ _ _;rw[<- ht,eJ,dN,dE,dz,dD];rw[2];rw[dz,dN,dA];rw[2];rw[uC,dU,d9,dB,dC,tN (Ap w) hD2.join.num,dE,dz,dD];rw[2];rw[dz,dN,dA];rw[2];rw[uC,dU,d9,dB,dC,tN (Ap w) hD.join.num,B3,dB];exact h
end
noncomputable def g7 (o1 o2:Option Int):Str:=match o1,o2 with
 | none,none => "none"
 | none,some _ => "never"
 | some _,none => "always"
 | some a,some b=>if b - a=0 then "sometimes" else if 0<b - a then "always" else "never"
theorem Kt:oj .none (.int 0)=some (.bool false):=by
 rw[sJ rfl rfl (by simp[ae.depth])];congr 2
section
variable {n:Int}{X:XQ}{Q:ae->Int->Prop}{many k:Int}{ts:List eE}{told:List Int}{b1 b2:Bool}{d1 d2:ae}{o1 o2:Option Int}
theorem Ct (w:gI many ts)(h1:qP many ts told k b1 d1 o1)(h2:qP many ts told k b2 d2 o2)(h:Q (.str (g7 o1 o2)) n):nz [eM many ts,d1,d2] n Q X:=by
 obtain⟨x1,e1,f1⟩:=pH h1;obtain⟨x2,e2,f2⟩:=pH h2;unfold nz ql;(simp only[iC,gV,envOf,ai,aI,ak,aL,Nat.reduceSub,Nat.reduceAdd,aE,aK,aN,ay]);with_reducible generalize xE:dJ (fw (eC (dN oj (dA 3) _)) _ _) _=t2
 with_reducible generalize ht:dJ (d7 3 _) t2=t
 rw[true_and,dJ,fw,eC,dN,dN,dA];rw[2];rw[uC,e1,dB,uC,f1,dB,dR]
 cases o1 with
 | none =>
  rw[show (none:Option Int).isNone=true from rfl,if_pos rfl,eJ,tV,eC,dN,dN,dA];rw[2];rw[uC,e2,dB,uC,f2,dB,dR]
  cases o2 with
  | none=>rw[show (none:Option Int).isNone=true from rfl,if_pos rfl,uC];exact h
  | some b=>rw[show (some b).isNone=false from rfl,if_neg (!2),uC];exact h
 | some a =>
  rw[show (some a).isNone=false from rfl,if_neg (!2),fq];show t _ _ _;rw[<- ht,dJ,d7,dE,dz,dD];rw[25];rw[dz,dD];rw[2];rw[dC];refine pd w h1 h2 ?_;rw[3];rw[<- xE]
  cases o2 with
  | none =>
   rw[show mr (Uy (some a) none)=.none from rfl,dJ,fw,eC,dN,dA];rw[2];rw[uC,Kt,dB,dR,if_neg (!2),fq];dsimp only;rw[eJ,tV,Gk,eC,dN,dA];rw[2];rw[uC,show yp .none .none=some (!37) from rfl,dB,dR,if_pos rfl,if_pos trivial,uC];exact h
  | some b =>
   rw[show mr (Uy (some a) (some b))=.int (b - a) from rfl,dJ,fw,eC,dN,dA];rw[2];rw[uC,iN,dB,dR];by_cases z:b - a=0
   .rw[if_pos (decide_eq_true z),eJ,uC]
    have e:g7 (some a) (some b) = "sometimes" := if_pos z;rw[e] at h;exact h
   .rw[if_neg (by simpa using z),fq]
    dsimp only;rw[eJ,tV,Gk,eC,dN,dA];rw[2];rw[uC,show yp (.int (b - a)) .none=some (.bool false) from rfl,dB,dR,if_neg (!2),eC,dN,dA];rw[2];rw[uC,Hi,dB,dR];by_cases y:0<b - a
    .rw[if_pos (decide_eq_true y),uC]
     have e:g7 (some a) (some b) = "always" := by show (if b - a=0 then _ else _)=_;rw[if_neg z,if_pos y]
     rw[e] at h;exact h
    .rw[if_neg (by simpa using y),uC]
     have e:g7 (some a) (some b) = "never" := by show (if b - a=0 then _ else _)=_;rw[if_neg z,if_neg y]
     rw[e] at h;exact h
theorem sg (w:gI many ts)(hl:ts.length<=16)(hr:Rg many told)(hk:0<=k/\k<(ts.length:Int))(h:∀d1 d2 o1 o2,qP many ts told k true d1 o1->qP many ts told k false d2 o2->Q (.tuple [.str (g7 o1 o2),d1,d2]) n):iY [eM many ts,dI told,.int k] n Q X:=by
 unfold iY oS;(simp only[iC,gV,envOf,ai,aI,ak,aL,Nat.reduceSub,Nat.reduceAdd,aE,aK,aN,ay]);with_reducible generalize Ao:eJ _=tr
 (rw[true_and,dJ,d7,dE,dz,dD]);rw[25];rw[dz,d5,dz,dD];rw[2];rw[dC,dz,d5,dC,dC];refine G' w hl hr hk λd1 p1=>?_;obtain⟨o1,p1⟩:=p1.o;rw[3];rw[dJ,d7,dE,dz,dD];rw[25];rw[dz,d5,dC,dz,d5,dz,dD];rw[2];rw[dC,dC];refine Ec w hl hr hk λd2 p2=>?_;obtain⟨o2,p2⟩:=p2.o;rw[3];rw[<- Ao,eJ,d5,dz,dE,dz,dD];rw[25];rw[dz,dD];rw[2];rw[dC];refine Ct w p1 p2 ?_;rw[dz,dD];rw[25];rw[dC];exact h d1 d2 o1 o2 p1 p2
end
section
variable {n:Int}{X:XQ}{Q:ae->Int->Prop}{many k:Int}{ts:List eE}{told:List Int}{b1 b2:Bool}{d0 d1 d2:ae}{o1 o2:Option Int}
noncomputable def nY (o1 o2:Option Int):Option Int:=(Uy o1 o2).map λc=>if c<0 then -c else c
theorem Cu (w:gI many ts)(h1:qP many ts told k b1 d1 o1)(h2:qP many ts told k b2 d2 o2)(h:Q (mr (nY o1 o2)) n):nA [eM many ts,.tuple [d0,d1,d2]] n Q X:=by
 unfold nA qm;(simp only[iC,gV,envOf,ai,aI,ak,aL,Nat.reduceSub,Nat.reduceAdd,aE,aK,aN,ay]);with_reducible generalize Ao:eJ _=tr
 (rw[true_and,dJ,d7,dE,dz,dD]);rw[2];rw[dz,dN,dA];rw[2];rw[uC,dU,d9,dB,dz,dN,dA];rw[2];rw[uC,dU,eN,dB,dC];refine pd w h1 h2 ?_;rw[3];rw[<- Ao,eJ,tV,eC,dN,dA];rw[2];unfold nY at h;generalize Uy o1 o2=o at h ⊢
 cases o with
 | none =>
  rw[uC,show yp (mr none) .none=some (!37) from rfl,dB,dR,if_pos rfl,uC];exact h
 | some c =>
  rw[uC,show yp (mr (some c)) .none=some (.bool false) from rfl,dB,dR,if_neg (!2),i9,dz,dA];rw[2];rw[dC,show zR [mr (some c)]=some (.int (if c<0 then -c else c)) from rfl,dB];exact h
end
section
variable {n:Int}{Q:ae->Int->Prop}{X:XQ}
theorem sh {s:Int}(hn:n+1<=mK)(h:∀p:Int,p.natAbs<=99->Q (.int p) (n+1)):j3 [.int s] n Q X:=by
 simp! [j3,oT,iN];split
 .exact gB (!2) (!2) (!1) λr h0 h1=>h r (!1)
 .split
  .refine gB (!2) (!2) (!1) λr h0 h1=>?_
   simp! [jz];exact h _ (!1)
  .split
   .refine gB (!2) (!2) (!1) λr h0 h1=>?_
    simp! [jz];exact h _ (!1)
   .simp! [Gn]
    refine gB (!2) (!2) (!1) λr h0 h1=>?_;obtain⟨x,hx,hm⟩:=BI (xs:=[ae.int (-1),.int 1,.int 0,.int 1,.int 2]) h0 (by simpa using h1);simp! [hx];simp only[ax,bw,or_false] at hm;rcases hm with rfl | rfl | rfl | rfl | rfl<;>exact h _ (!2)
theorem Cv {m8:Int}(Zd:0<=m8)(h81:m8<=12)(hn:n+100<=mK)(h:∀(many:Int) (ts:List eE) (n':Int),gI many ts->many<=5->(ts.length:Int)<=m8->n<=n'->n'<=n+100->Q (!24) n'):pz [.int 5,.int m8] n Q X:=by
 simp! [pz,sR];refine gB (!2) (!2) (!1) λr h0 h1=>?_;obtain⟨x,hx,hm⟩:=BI (xs:=[ae.int 3,.int 1,.int 2,.int 4,.int 4,.int 5,.int 3,.int 5]) h0 (by simpa using h1);simp! [hx]
 obtain⟨many,rfl,k0,k1⟩:∃many:Int,x=.int many/\1<=many/\many<=5:=by
  simp only[ax,bw,or_false] at hm;rcases hm with rfl | rfl | rfl | rfl | rfl | rfl | rfl | rfl<;>exact⟨_,rfl,!2,!2⟩
 have e5:(if many<5 then many else 5)=many:=by split<;>omega
 simp! [tF,e5];refine gB (!2) (!2) (!1) λs s0 s1=>?_;refine⟨λeL n'=>∃c:Int,0<=c/\c<=m8/\n<=n'/\n'<=n+4/\eL=[none,some (.s (.int 5)),some (.s (.int m8)),some (.s (.int many)),some (.s (.int s)),some (.s (.int c)),none,none,none],?_,?_⟩
 .simp! [dJ]
  refine gB (!2) (!2) (!1) λc c0 c1=>?_;simp! [iN,ip];split
  .exact⟨m8,Zd,bM _,!1,!1,rfl⟩
  .refine gB (!1) (!1) (!1) λc c0 c1=>?_
   exact⟨c,c0,!1,!1,!1,rfl⟩
 .rintro eL n1 ⟨c,c0,c1,Ze,Pq,rfl⟩
  simp! [Hi,intD,Jl];have hj:0<=(if decide (1<many)=true then c else 0)/\(if decide (1<many)=true then c else 0)<=m8:=by split<;>omega
  have VW:0<(if decide (1<many)=true then c else 0)->1<many:=by
   split
   .rename_i hh;intro _;exact of_decide_eq_true hh
   .intro z;omega
  generalize (if decide (1<many)=true then c else 0)=j at hj VW ⊢;refine⟨!1,!1,mL (λpre post env n'=>∃ts x7 x8,env=[none,some (.s (.int 5)),some (.s (.int m8)),some (.s (.int many)),some (.s (.int s)),some (.s (.int c)),some (.o (ts.map eO)),x7,x8]/\(∀t∈ts,MV many t)/\ts.length=pre.length/\n1<=n'/\n'<=n1+3 * pre.length/\pre.length+post.length=j.toNat) _ [] _ _ ?_ ⟨[],none,none,rfl,!4,rfl,!1,!4,by simp[rD]⟩ ?_⟩
  .rintro pre d post env n' E' hE ⟨ts,x7,x8,rfl,Kb,hl,XI,Zf,hp⟩ JG
   rw[ak] at hp;have Uz:1<many:=VW (!1);simp! [jz,ip];refine gB (!1) (!1) (!1) λa a0 a1=>?_;simp! [jz,ip];refine gB (!1) (!1) (!1) λb b0 b1=>?_;simp! [jz,ip];refine sh (!1) λp Fc=>?_;rw[kQ (by rw[ar];omega)];simp! [dJ];refine JG _ _ ⟨ts++[(a,a+1+b,p)],_,_,(by rw[aW];rfl),λt ht=>?_,by simp[hl],!1,by simp;omega,by simp;omega⟩;rcases aX.mp ht with ht | ht
   .exact Kb t ht
   .have e:=ap.mp ht
    subst e;exact⟨a0,by show a<a+1+b;omega,by show a+1+b<many;omega,Fc⟩
  .rintro pre env n' ⟨ts,x7,x8,rfl,Kb,hl,XI,Zf,hp⟩
   rw[aL] at hp;simp only[];refine⟨λeL n2=>∃us:List eE,eL=[none,some (.s (.int 5)),some (.s (.int m8)),some (.s (.int many)),some (.s (.int s)),some (.s (.int c)),some (.o (us.map eO)),x7,x8]/\(∀t∈us,MV many t)/\(us.length:Int)<=m8/\n<=n2/\n2<=n+100,?_,?_⟩
   .simp! [dJ]
    rw[z5 (x:=.list (ts.map eO)) (y:=.list []) (JT ts) rfl (B2 ts)]
    cases ts with
    | nil =>
     simp! [aI,ae.eqv,ae.eqvAll];exact⟨[],rfl,!4,by simpa using Zd,!1,by simp only[aL] at hl;omega⟩
    | cons t ts =>
     simp! [ai,ae.eqv,ae.eqvAll];refine gB (!2) (!2) (!1) λc' c0' c1'=>?_;simp! [iN];split
     .simp! [d8,eO,I9,rJ _ 2 (!2)]
      refine sh (!1) λp Fc=>?_;simp! [show Int.toNat 2=2 from rfl,c5,List.take_zero,Gn,vE (xs:=[.int t.1,.int t.2.1]) (ys:=[.int p]) (!4)]
      have LN:CV (ts.length+1) (-1)=some ts.length:=by
       unfold CV;rw[if_neg (!2),if_pos (!1)];congr 1;omega
      have e:∀u:eE,(eO t::ts.map eO).set ts.length (eO u)=((t::ts).set ts.length u).map eO:=λu=>by rw[<- ai,List.map_set]
      simp! [ar,LN];refine⟨(t::ts).set ts.length (t.1,t.2.1,p),(by rw[<- e];rfl),λu hu=>?_,by rw[aZ,ak];simp only[ak] at hl;omega,!1,by simp only[ak] at hl;omega⟩;rcases df hu with hu | rfl
      .exact Kb u hu
      .have:=Kb t (ao ..)
       exact⟨this.a0,this.ab,this.bm,Fc⟩
     .exact⟨t::ts,rfl,Kb,!1,!1,by simp only[ak] at hl;omega⟩
   .rintro eL n2 ⟨us,rfl,Ru,hul,Zg,Zh⟩
    simp! [fu];exact h many us n2 ⟨k0,!1,Ru⟩ k1 hul Zg Zh
end
noncomputable def Cw (ts:List eE)(m:Nat)(k:Int):Nat:=(m ^^^ 2 ^ (!18).1.toNat) ^^^ 2 ^ (!18).2.1.toNat
noncomputable def Cy (ts:List eE)(s:List Int):Nat:=s.foldl (Cw ts) 0
theorem Ku (ts:List eE)(s:List Int)(k:Int):Cy ts (s++[k])=Cw ts (Cy ts s) k:=by
 unfold Cy;rw[List.foldl_append];rfl
theorem Fu {a:Int}(h:0<=a)(v:Nat):decide (a.toNat=v)=decide ((v:Int)=a):=by
 rw[decide_eq_decide];omega
theorem XJ (x p q:Bool)(a b c:Nat)(hp:p=decide (a=1))(hq:q=decide (b=1))(ha:a<=1)(hb:b<=1):((x ^^ p ^^ q) ^^ decide (c % 2=1))=(x ^^ decide ((a+b+c) % 2=1)):=by
 have h1:a=0\/a=1:=by omega
 have h2:b=0\/b=1:=by omega
 have h3:c % 2=0\/c % 2=1:=by omega
 have h4:(1+c) % 2=1 - c % 2:=by omega
 have h5:(2+c) % 2=c % 2:=by omega
 rcases h1 with rfl | rfl<;>rcases h2 with rfl | rfl<;>rcases h3 with h3 | h3<;>subst hp hq<;>simp[h3,h4,h5]
theorem Cz {many:Int}{ts:List eE}(w:gI many ts)(v:Nat):∀(s:List Int) (m:Nat),ff ts s->(s.foldl (Cw ts) m).testBit v=(m.testBit v ^^ decide ((eB ts s).count (v:Int) % 2=1))
 | [],m,_=>by simp[eB]
 | k::s,m,h=>by
  have hk:=h k (ao ..);have ht:=tm w hk;have a0:=ht.a0;have ab:=ht.ab;rw[ck,Cz w v s _ λi hi=>h i (ag _ hi),iU,bp];unfold Cw ij;generalize ts.getD k.toNat (0,0,0)=t at a0 ab ⊢;rw[Nat.testBit_xor,Nat.testBit_xor,Nat.testBit_two_pow,Nat.testBit_two_pow,Fu a0,Fu (by omega:0<=t.2.1)]
  have e:[t.1,t.2.1].count (v:Int)=(if (v:Int)=t.1 then 1 else 0)+(if (v:Int)=t.2.1 then 1 else 0):=by
   rw[cB,cB,cR]
   have b1:∀a:Int,(if (a == (v:Int))=true then 1 else 0)=(if (v:Int)=a then 1 else (0:Nat)):=λa=>by
    by_cases h:(v:Int)=a
    .rw[if_pos h,if_pos (by simpa using h.symm)]
    .rw[if_neg h,if_neg (by simpa using λz=>h z.symm)]
   rw[b1,b1];omega
  rw[e];refine XJ _ _ _ _ _ _ ?_ ?_ ?_ ?_
  .split<;>simp_all
  .split<;>simp_all
  .split<;>omega
  .split<;>omega
theorem Fv {many:Int}{ts:List eE}(w:gI many ts){s:List Int}(h:ff ts s)(v:Nat):(Cy ts s).testBit v=decide ((eB ts s).count (v:Int) % 2=1):=by
 unfold Cy;rw[Cz w v s 0 h];simp
theorem M5 {many:Int}{ts:List eE}(w:gI many ts){m:Nat}{k:Int}(hk:0<=k/\k<(ts.length:Int))(h:m<2 ^ many.toNat):Cw ts m k<2 ^ many.toNat:=by
 have ht:=tm w hk;have a0:=ht.a0;have ab:=ht.ab;have bm:=ht.bm;unfold Cw;generalize ts.getD k.toNat (0,0,0)=t at a0 ab bm ⊢;exact Nat.xor_lt_two_pow (Nat.xor_lt_two_pow h (cF (!2) (!1))) (cF (!2) (!1))
theorem Fw {many:Int}{ts:List eE}(w:gI many ts):∀(s:List Int) (m:Nat),ff ts s->m<2 ^ many.toNat->s.foldl (Cw ts) m<2 ^ many.toNat
 | [],m,_,h=>h
 | k::s,m,hs,h=>Fw w s _ (λi hi=>hs i (ag _ hi)) (M5 w (hs k (ao ..)) h)
theorem Q7 {many:Int}{ts:List eE}(w:gI many ts){s:List Int}(h:ff ts s):Cy ts s<2 ^ many.toNat:=Fw w s 0 h (Nat.two_pow_pos _)
theorem UB:∀x y:Fin 32,Builtin.bitXor (x.val:Int) (y.val:Int)=((x.val ^^^ y.val:Nat):Int):=by decide +kernel
noncomputable def mU (told:List Int):Nat:=(told.map λp=>2 ^ p.toNat).sum
theorem wL:∀{told:List Int} {m:Nat},told.Pairwise (· < ·)->(∀v∈told,0<=v/\v<(m:Int))->mU told.reverse<2 ^ m/\∀v:Nat,(mU told.reverse).testBit v=decide ((v:Int)∈told)
 | told,0,_,h=>by
  have e:told=[]:=cz.mpr λv hv=>by have:=h v hv;omega
  subst e;exact⟨!2,λv=>by simp[mU]⟩
 | told,m+1,hp,h=>by
  by_cases hm:(m:Int)∈told
  .obtain⟨a,b,e⟩:=List.append_of_mem hm
   subst e
   have hb:b=[]:=cz.mpr λv hv=>by
    have h1:=(bJ.mp (cE.mp hp).2.1).1 v hv;have h2:=h v (be _ (ag _ hv));omega
   subst hb;have hp1:=(cE.mp hp).1;have lB:∀v∈a,v<(m:Int):=λv hv=>(cE.mp hp).2.2 v hv _ (ap.mpr rfl);obtain⟨i1,i2⟩:=wL (m:=m) hp1 λv hv=>⟨(h v (br _ hv)).1,lB v hv⟩
   have e:mU (a++[(m:Int)]).reverse=2 ^ m+mU a.reverse:=by
    rw[List.reverse_append];simp[mU]
   rw[e];refine⟨by rw[Nat.pow_succ];omega,λv=>?_⟩;rcases Nat.lt_trichotomy v m with z | z | z
   .rw[Nat.testBit_two_pow_add_gt z,i2,decide_eq_decide,aX,ap]
    exact⟨.inl,λy=>y.resolve_right (!1)⟩
   .subst z
    rw[Nat.testBit_two_pow_add_eq,Nat.testBit_lt_two_pow i1];simp
   .rw[Nat.testBit_lt_two_pow (aP (show 2 ^ m+mU a.reverse<2 ^ (m+1) by rw[Nat.pow_succ];omega) (cW (!2) z))]
    refine (decide_eq_false λy=>?_).symm;have:=h _ y;omega
  .obtain⟨i1,i2⟩:=wL (m:=m) hp λv hv=>by
    have:=h v hv;have:v≠(m:Int):=λz=>hm (z ▸ hv);omega
   exact⟨by rw[Nat.pow_succ];omega,i2⟩
theorem Kv (told:List Int):mU told.reverse=mU told:=by
 unfold mU;rw[List.map_reverse,List.sum_reverse]
theorem CA {many:Int}{ts:List eE}(w:gI many ts){told s:List Int}(hr:Rg many told)(h:ff ts s)(hn:s.Nodup):Cy ts s=mU told↔eF ts told s:=by
 have m0:=w.m0;obtain⟨_,hb⟩:=wL (m:=many.toNat) hr.lt λv hv=>by have:=hr.rg v hv;omega
 rw[Kv] at hb;constructor
 .intro e
  refine⟨h,hn,λv=>?_⟩;by_cases hv:0<=v
  .have h1:=Fv w h v.toNat
   have h2:=hb v.toNat;rw[e] at h1;rw[h1,decide_eq_decide] at h2;have e2:((v.toNat:Nat):Int)=v:=by omega
   rw[e2] at h2;exact h2
  .refine⟨λz=>absurd z ?_,λz=>absurd (hr.rg v z).1 hv⟩
   rw[List.count_eq_zero.mpr λhm=>by
    obtain⟨l,hl,hl'⟩:=List.mem_flatten.mp hm;obtain⟨k,hk,rfl⟩:=aU.mp hl;have ht:=tm w (h k hk);have a0:=ht.a0;have ab:=ht.ab;simp only[ij,ax,bw,or_false] at hl';omega]
   decide
 .intro j
  refine Nat.eq_of_testBit_eq λv=>?_;rw[Fv w h,hb,decide_eq_decide];exact j.odd _
noncomputable def qQ (ts:List eE)(x i:Int):Bool:=match ts[i.toNat]? with | some t=>decide (x=t.1\/x=t.2.1) | none=>false
noncomputable def UC (many:Int)(ts:List eE)(d:List Int):List Int:=(fW 0 many.toNat).filter λv=>decide ((eB ts d).count v % 2=1)
theorem CB {many:Int}{ts:List eE}(w:gI many ts)(v:Int):∀{d:List Int},ff ts d->(d.filter λk=>qQ ts v k).length=(eB ts d).count v
 | [],_=>rfl
 | k::d,h=>by
  have ih:=CB w v (d:=d) λi hi=>h i (ag _ hi);obtain⟨t,h1,h2,_⟩:=nQ (h k (ao ..)).1 (h k (ao ..)).2;have ht:=w.ok t h2;have ab:=ht.ab
  have e:ij ts k=[t.1,t.2.1]:=by
   unfold ij;rw[au,h1];rfl
  have ea:qQ ts v k=decide (v=t.1\/v=t.2.1):=by
   unfold qQ;rw[h1]
  rw[iU,bp,<- ih,e];by_cases c1:v=t.1
  .have c2:¬ v=t.2.1:=by omega
   rw[cb (by rw[ea];simp[c1])];subst c1;rw[ak,List.count_cons_self,cT (!1),cR];omega
  .by_cases c2:v=t.2.1
   .rw[cb (by rw[ea];simp[c2])]
    subst c2;rw[ak,cT (!1),List.count_cons_self,cR];omega
   .rw[cy (by rw[ea];simp[c1,c2]),cT (λz=>c1 z.symm),cT (λz=>c2 z.symm),cR]
    omega
theorem Q8 {a:Int}(h0:0<=a)(h1:a<9):zL (.int 1) (.int a)=some (.int ((2 ^ a.toNat:Nat):Int)):=by
 have:FO 1 a:=⟨h0,!1,!2⟩;simp only[zL,if_pos this,Int.one_mul];rw[Int.natCast_pow];rfl
theorem UD {x y:Nat}(hx:x<32)(hy:y<32):BF (.int (x:Int)) (.int (y:Int))=some (.int ((x ^^^ y:Nat):Int)):=by
 simp only[BF];rw[UB ⟨x,hx⟩ ⟨y,hy⟩]
noncomputable def uw (ts:List eE)(s:List Int):ae:=.tuple [dI s,.int ((Cy ts s:Nat):Int)]
section
variable {n:Int}{X:XQ}{Q:ae->Int->Prop}
theorem CC {many:Int}{ts:List eE}(w:gI many ts){d:List Int}(hd:ff ts d)(hl:d.length<=1000):nB [eM many ts,.list (d.map .int)] n Q X=Q (dI (UC many ts d)) n:=by
 (have hsz:aC=16777216:=by decide);have m0:=w.m0;have m1:=w.m1;unfold nB qo;(simp only[iC,gV,envOf,ai,aI,ak,aL,Nat.reduceSub,Nat.reduceAdd,aE,aK,aN,ay]);generalize Vl:fw _ _ _=bd;generalize ht:eJ _=t;(have e0:eM many ts=.tuple [.int many,.tuple (ts.map eO)]:=rfl);rw[e0];simp! [d8];rw[<- e0];have h1:-2 ^ 62<=many:=by omega
 have h2:many<2 ^ 62:=by omega
 simp only[h1,h2,true_and];subst Vl
 have key:∀(ps acc:List Int) (x3:Option Ent),acc.length+ps.length<=9->gU (fQ 3) (fw (eC (dN oj (dN Gp (i9 jU (dz (uL (e9 (ph (dA 1)) [none,some 3,some 0] (fQ 0) (eC (dN inD (dA 1) (zQ (dN eY (dN eY (dA 2) (!13)) (dA 0)) zN (zO (!32))))) (dD 0))) dC)) (!32)) (!13))) (ku 2 ja (dz (dD 3) dC)) fq)
   { nx:=t { nx:=λx n'=>Q ae.none n',rt:=Q },rt:=Q } (ps.map .int) [some (!20),some (.s (.list (d.map .int))),some (.o (acc.map .int)),x3] n=Q (dI (acc++ps.filter λv=>decide ((eB ts d).count v % 2=1))) n:=by
  intro ps
  induction ps with
  | nil =>
   intro acc x3 _;subst ht;rw[aI,gU];simp! [fu];rw[List.filter_nil,bY];rfl
  | cons v ps ih =>
   intro acc x3 QZ;rw[ak] at QZ;rw[ai,gU,fQ];simp only[aq,av];generalize hm:ku 2 _ _=mt;simp! [dJ]
   rw[gc (λk=>.int k) (λk=>qQ ts v k) _ _ _ _ (λk _ n Q=>by simp! [dJ]) (λk hk n Q=>by
    obtain⟨t,ht,_,ha⟩:=nQ (ts:=ts) (hd k hk).1 (hd k hk).2;rw[e0];simp! [d9,ha,eO,I9,rJ _ 2 (!2),show Int.toNat 2=2 from rfl,c5,List.take_zero,Jk,qQ,ht])]
   have hlen:(([]++(d.filter λk=>qQ ts v k).map λk=>ae.int k).length:Int)=(((eB ts d).count v:Nat):Int):=by rw[ay,ar,CB w v hd]
   generalize []++(d.filter λk=>qQ ts v k).map (λk=>ae.int k)=l at hlen ⊢
   have e2:decide ((((eB ts d).count v:Nat):Int) % 2=1)=decide ((eB ts d).count v % 2=1):=by
    rw[decide_eq_decide];omega
   simp only[jU,hlen,E2 (show (0:Int)<2 by decide),iN,e2,dB,dR];by_cases hc:(eB ts d).count v % 2=1
   .rw[cb (by simpa using hc),if_pos (by simpa using hc)]
    subst hm;have ea:acc.map ae.int++[.int v]=(acc++[v]).map .int:=by rw[aW];rfl
    simp! [kQ (ds:=acc.map ae.int) (d:=.int v) (by rw[ar];omega),ea];rw[ih (acc++[v]) _ (by rw[aQ,bA];omega),bu];rfl
   .rw[cy (by simpa using hc),if_neg (by simpa using hc)]
    subst hm;exact ih acc _ (!1)
 rw[lP];have:=key (fW 0 many.toNat) [] none (by rw[e8,aL];omega);rw[ay] at this;exact this
end
theorem Fy:∀told:List Int,(told.map λp=>((2 ^ p.toNat:Nat):Int)).sum=((mU told:Nat):Int)
 | []=>rfl
 | v::l=>by
  have:=Fy l;unfold mU at this ⊢;rw[ai,ai,cC,cC,this];omega
theorem Kw {ns:List Int}(h:∀i∈ns,0<=i/\i<=512):rK [.list (ns.map .int)]=some (.int ns.sum):=by
 simp only[rK,BB,ir,cU]
 rw[if_pos λn hn=>by
  have:=h n hn;omega]
section
variable {n:Int}{X:XQ}{Q:ae->Int->Prop}
theorem Ha {many:Int}{ts:List eE}(w:gI many ts)(hm:many<=5)(hl:ts.length<=12){k:Nat}(hk:k<ts.length){Q:List ae->Int->Prop}{t:eE}(ht:ts.getD k (0,0,0)=t)(x y:Option Ent) :
  fm (Bs [fQ 1,fQ 0]) kB (d5 (dz (dN ip (dA 1) (d5 (dz (dD 2) dC))) (dz (dN BF (dN BF (dA 0) (dN zL (!13) (dA 4))) (dN zL (!13) (dA 3))) dC))) Q
   ((nV k).map (uw ts)) [] [x,y,some (.s (.int (k:Int))),some (.s (.int t.2.1)),some (.s (.int t.1))] n=Q (((nV k).map (·++[(k:Int)])).map (uw ts)) n:=by
 have Vn:=tm w (k:=(k:Int)) ⟨!1,!1⟩;rw[a9,ht] at Vn;have a0:=Vn.a0;have ab:=Vn.ab;have bm:=Vn.bm
 have p1:2 ^ t.1.toNat<32:=by
  have:2 ^ t.1.toNat<2 ^ 5:=cF (!2) (!1);omega
 have p2:2 ^ t.2.1.toNat<32:=by
  have:2 ^ t.2.1.toNat<2 ^ 5:=cF (!2) (!1);omega
 (have hsz:aC=16777216:=by decide);rw[g6 (λenv=>∃x y,env=[x,y,some (.s (.int (k:Int))),some (.s (.int t.2.1)),some (.s (.int t.1))]) (uw ts) (λs=>uw ts (s++[(k:Int)])) (λ_=>true) _ _ _ (λs hs env ⟨x,y,he⟩=>?_) ⟨x,y,rfl⟩]
 .rw[fK,ay,bc]
  rfl
 .subst he
  have IH:=j5.mp hs;have hok:ff ts s:=λi hi=>by have:=fy.mp (IH.subset hi);omega
  have hlen:=IH.length_le;rw[e8] at hlen;have Uz:Cy ts s<32:=aP (Q7 w hok) (show 2 ^ many.toNat<=2 ^ 5 from cW (!2) (!1));have EG:Cy ts s ^^^ 2 ^ t.1.toNat<32:=Nat.xor_lt_two_pow (n:=5) Uz p1;refine⟨[some (.s (.int ((Cy ts s:Nat):Int))),some (.s (dI s)),some (.s (.int (k:Int))),some (.s (.int t.2.1)),some (.s (.int t.1))],⟨_,_,rfl⟩,λK=>?_,λn Q=>?_,λn Q=>?_⟩
  .rw[uw]
   simp! [dJ]
  .simp! [dJ]
  .have ea:ip (dI s) (.tuple [.int (k:Int)])=some (dI (s++[(k:Int)])):=by
    rw[dI,vE (by rw[ar,bA];omega),dI,aW];rfl
   simp! [ea,Q8 a0 (!1),Q8 (by omega:0<=t.2.1) (!1),UD Uz p1,UD EG p2];rw[uw,Ku,Cw,a9,ht]
theorem Ay {many:Int}{ts:List eE}(w:gI many ts)(hm:many<=5)(hl:ts.length<=12){told:List Int}(hr:Rg many told)(h:Q (.list (((nV ts.length).filter λs=>decide (Cy ts s=mU told)).map dI)) n):lS [eM many ts,dI told] n Q X:=by
 (have hsz:aC=16777216:=by decide);(have e0:eM many ts=.tuple [.int many,.tuple (ts.map eO)]:=rfl);unfold lS oU;(simp only[iC,gV,envOf,ai,aI,ak,aL,Nat.reduceSub,Nat.reduceAdd,aE,aK,aN,ay]);generalize Vl:dJ (Qg _ _) _=bd;generalize ht:dJ (d7 6 _) _=t;rw[e0];simp! [d9,jU,ar];rw[<- e0];refine⟨!1,!1,?_⟩;rw[lP,a9];subst Vl;refine mL (λpre post env n'=>∃x3 x4 x5,env=[some (!20),some (.s (dI told)),some (.s (.list ((nV pre.length).map (uw ts)))),x3,x4,x5,none]/\pre++post=(fW 0 ts.length).map .int/\n'=n) _ [] _ _ ?_ ⟨_,_,_,rfl,rfl,rfl⟩ ?_
 .rintro pre e post env n' E' hE ⟨x3,x4,x5,rfl,Rw,rfl⟩ JG
  have hlen:=congrArg List.length Rw;rw[aQ,ak,ar,e8] at hlen;have hk:pre.length<ts.length:=by omega
  have he:e=.int (pre.length:Int):=by
   have h1:(pre++e::post)[pre.length]? = some e:=by simp
   rw[Rw,az] at h1;unfold fW at h1;rw[az,cK hk] at h1;simp only[bo,Option.some.injEq,Int.zero_add] at h1;exact h1.symm
  subst he;have Rx:=rW (ts:=ts) (k:=(pre.length:Int)) ⟨!1,!1⟩;rw[a9] at Rx;generalize htt:ts.getD pre.length (0,0,0)=t' at Rx;generalize sm:d7 2 _=s2;rw[e0];simp! [d9,Rx,eO,I9,rJ _ 2 (!2),show Int.toNat 2=2 from rfl,c5,List.take_zero];rw[<- e0];subst sm;simp! [dJ];rw[Ha w hm hl hk htt];have zq:=wm pre.length;have SR:2 ^ pre.length<=2 ^ 12:=cW (!2) (!1)
  have ea:ip (.list ((nV pre.length).map (uw ts))) (.list (((nV pre.length).map (·++[(pre.length:Int)])).map (uw ts)))=some (.list ((nV (pre++[ae.int (pre.length:Int)]).length).map (uw ts))):=by
   rw[Jm (by rw[ar,ar,ar];omega),aQ,bA,nV,aW]
  simp! [ea];exact JG _ _ ⟨_,_,_,rfl,by rw[bu];exact Rw,rfl⟩
 .rintro pre env n' ⟨x3,x4,x5,rfl,Rw,rfl⟩
  rw[bY] at Rw;have hlen:=congrArg List.length Rw;rw[ar,e8] at hlen;rw[hlen];subst ht;have m0:=w.m0
  have Om:∀p∈told,0<=p/\p<5:=λp hp=>by
   have:=hr.rg p hp;omega
  have e1:dI told=.tuple (told.map .int):=rfl;rw[e1];simp! [dJ]
  rw[gc (λp=>.int ((2 ^ p.toNat:Nat):Int)) (λ_=>true) _ _ _ _ (λk hk n Q=>by
   have:=Om k hk;simp! [Q8 (a:=k) (!1) (!1)]) (λk _ n Q=>by simp! [dJ])]
  have e2:([]++(told.filter λ_=>true).map λp=>ae.int ((2 ^ p.toNat:Nat):Int))=(told.map λp=>((2 ^ p.toNat:Nat):Int)).map .int:=by rw[fK,ay,bc];rfl
  rw[e2]
  have Vo:=Kw (ns:=told.map λp=>((2 ^ p.toNat:Nat):Int)) λi hi=>by
   obtain⟨p,hp,rfl⟩:=aU.mp hi;have:=Om p hp;have:2 ^ p.toNat<2 ^ 5:=cF (!2) (!1);generalize 2 ^ p.toNat=z at this ⊢;omega
  simp! [Vo,Fy told];rw[g6 (λenv=>∃x y,env=[x,y,some (.s (.int ((mU told:Nat):Int)))]) (uw ts) dI (λs=>decide (Cy ts s=mU told)) _ _ _ (λs hs env ⟨x,y,he⟩=>?_) ⟨_,_,rfl⟩]
  .rw[ay]
   exact h
  .subst he
   refine⟨[some (.s (.int ((Cy ts s:Nat):Int))),some (.s (dI s)),some (.s (.int ((mU told:Nat):Int)))],⟨_,_,rfl⟩,λK=>?_,λn Q=>?_,λn Q=>?_⟩
   .rw[uw]
    simp! [dJ]
   .have:decide (((Cy ts s:Nat):Int)=((mU told:Nat):Int))=decide (Cy ts s=mU told):=by
     rw[decide_eq_decide];omega
    simp! [iN,this]
   .simp! [dJ]
end
theorem Ed:∀(l:List Int) (a:Int),∃e∈a::l,jc false (.int a) (l.map .int)=.int e/\∀x∈a::l,e<=x
 | [],a=>⟨a,!4,rfl,λx hx=>by rw[ap.mp hx];omega⟩
 | b::l,a=>by
  rw[ai,jc,show iF false (.int b) (.int a)=some (decide (b<a)) from rfl,cw];by_cases hr:b<a
  .rw[if_pos (decide_eq_true hr)]
   obtain⟨e,he,h3,h4⟩:=Ed l b;refine⟨e,ag _ he,h3,λx hx=>?_⟩;(rcases ax.mp hx with rfl | hx)
   .have:=h4 b (ao ..)
    omega
   .exact h4 x hx
  .rw[if_neg (by simpa using hr)]
   obtain⟨e,he,h3,h4⟩:=Ed l a;have h5:=h4 a (ao ..);refine⟨e,by rcases ax.mp he with rfl | he;exact ao ..;exact ag _ (ag _ he),h3,λx hx=>?_⟩;simp only[ax] at hx h4;rcases hx with rfl | rfl | hx
   .exact h5
   .omega
   .exact h4 x (.inr hx)
theorem wM {xs:List Int}(h:xs≠[]):∃m∈xs,oN false [.list (xs.map .int)]=some (.int m)/\∀x∈xs,m<=x:=by
 cases xs with
 | nil=>exact absurd rfl h
 | cons a xs =>
  have hc:xr false ((a::xs).map .int):=λx hx=>by
   obtain⟨i,_,rfl⟩:=aU.mp hx;refine⟨⟨rfl,by simp[ae.depth]⟩,λy hy=>?_⟩;obtain⟨j,_,rfl⟩:=aU.mp hy;rfl
  obtain⟨m,Uz,e,EG⟩:=Ed xs a;refine⟨m,Uz,?_,EG⟩;rw[ai] at hc ⊢;unfold oN;simp only[];rw[if_pos hc,<- e]
theorem Fz {many:Int}(m0:1<=many){s:List Int}(h:s.Sublist (fW 0 many.toNat)):Rg many s:=⟨(pF _).sublist h,λv hv=>by have:=fy.mp (h.subset hv);omega⟩
section
variable {n:Int}{X:XQ}{Q:ae->Int->Prop}{many:Int}{ts:List eE}
theorem CD (w:gI many ts)(hl:ts.length<=16)(hn:n+40<=mK)(h:∀(told:List Int) (n':Int),Rg many told->n<=n'->n'<=n+30->Q (dI told) n'):nC [eM many ts] n Q X:=by
 have m0:=w.m0;have m1:=w.m1;unfold nC qt;(simp only[iC,gV,envOf,ai,aI,ak,aL,Nat.reduceSub,Nat.reduceAdd,aE,aK,aN,ay]);generalize M0:eJ (i9 fu _)=t3;generalize xE:dJ (fw _ _ _) t3=t2;have ew:eY (!24) (.int 1)=some (.tuple (ts.map eO)):=rfl;have e0:eY (!24) (.int 0)=some (.int many):=rfl;simp! [ew,jU,ar];refine⟨⟨!1,!1⟩,?_⟩;rw[a9,lP];refine pE (λd n Q hn hq=>?_) _ [] _ _ (by rw[e8];omega) λa ha=>?_
 .simp! [dJ]
  (refine gB (!2) (!2) (!1) λr r0 r1=>?_);simp! [iN];exact hq _
 have lL:=Kc (!1) ha;have la:=lL.len;rw[ay,e8];subst xE;simp! [dJ];(refine gB (!2) (!2) (!1) λr r0 r1=>?_);simp! [Hi];split
 .rw[CC w lL.ok (!1)]
  exact h _ _ (Fz m0 cv) (!1) (!1)
 .subst M0
  simp! [e0];refine⟨⟨!1,!1⟩,?_⟩;rw[lP];refine pE (λd n Q hn hq=>?_) _ [] _ _ (by rw[e8];omega) λb hb=>?_
  .simp! [dJ]
   (refine gB (!2) (!2) (!1) λr r0 r1=>?_);simp! [iN];exact hq _
  rw[ay,e8];simp! [fu];exact h b _ (Fz m0 hb) (!1) (!1)
theorem ux (hn:n+110<=mK)(h:∀(many:Int) (ts:List eE) (n':Int),gI many ts->many<=5->ts≠[]->ts.length<=6->n<=n'->n'<=n+101->Q (!24) n'):jg [.int 5,.int 6] n Q X:=by
 unfold jg kY;(simp only[iC,gV,envOf,ai,aI,ak,aL,Nat.reduceSub,Nat.reduceAdd,aE,aK,aN,ay]);generalize xE:eJ _=t2;simp! [dJ];refine Cv (!2) (!2) (!1) λmany ts n1 w hm hl Pq XI=>?_;subst xE;have ew:eY (!24) (.int 1)=some (.tuple (ts.map eO)):=rfl;simp! [ew];rw[z5 (x:=.tuple (ts.map eO)) (y:=.tuple []) (sY ts) rfl (B2 ts)]
 cases ts with
 | nil =>
  simp! [aI,ae.eqv,ae.eqvAll];(refine gB (!2) (!2) (!1) λr r0 r1=>?_);simp! [jz];exact h 2 [(0,1,r - 3)] _ ⟨!2,!2,λt ht=>by rw[ap.mp ht];exact⟨by show (0:Int)<=0;decide,by show (0:Int)<1;decide,by show (1:Int)<2;decide,by show (r - 3).natAbs<=99;omega⟩⟩ (!2) (!4) (!4) (!1) (!1)
 | cons t ts =>
  simp! [ai,ae.eqv,ae.eqvAll];exact h many (t::ts) n1 w hm (!4) (!1) Pq (!1)
noncomputable def mV (ts:List eE)(told:List Int)(k:Int)(b:Bool)(o:Option Int):Prop:=match o with
 | none=>¬ ∃S,eF ts told S/\((k∈S)↔b=true)
 | some c=>(∃S,eF ts told S/\((k∈S)↔b=true)/\cost ts S=c)/\∀S,eF ts told S->((k∈S)↔b=true)->c<=cost ts S
theorem qP.low {told:List Int}{k:Int}{b:Bool}{d:ae}{o:Option Int}(h:qP many ts told k b d o):mV ts told k b o:=by
 cases h with
 | none p kz hp hr=>exact kz
 | least D kvs hD lB hk=>exact⟨⟨D,hD.join,hD.has,rfl⟩,hD.low⟩
theorem mV.one {told:List Int}{k:Int}{b:Bool}{o o':Option Int}(h:mV ts told k b o)(h':mV ts told k b o'):o=o':=by
 cases o with
 | none =>
  cases o' with
  | none=>rfl
  | some c=>obtain⟨⟨S,a,b,_⟩,_⟩:=h';exact absurd ⟨S,a,b⟩ h
 | some c =>
  cases o' with
  | none=>obtain⟨⟨S,a,b,_⟩,_⟩:=h;exact absurd ⟨S,a,b⟩ h'
  | some c' =>
   obtain⟨⟨S,a1,a2,a3⟩,a4⟩:=h;obtain⟨⟨T,b1,b2,b3⟩,b4⟩:=h';have:=a4 T b1 b2;have:=b4 S a1 a2;congr 1;omega
structure Q9 (ts:List eE) (told:List Int) (js:List (List Int)):Prop where
 ok:∀s∈js,eF ts told s
 all:∀S,eF ts told S->∃s∈js,s.Perm S
noncomputable def pf (ts:List eE)(js:List (List Int))(k:Int)(b:Bool):List Int:=(js.filter λs=>decide (decide (k∈s)=b)).map (cost ts)
theorem CF {told:List Int}{js:List (List Int)}{k:Int}{b:Bool}{o:Option Int}(hj:Q9 ts told js)(h:mV ts told k b o):(o=none↔pf ts js k b=[])/\∀m∈pf ts js k b,(∀x∈pf ts js k b,m<=x)->o=some m:=by
 have mem:∀c,c∈pf ts js k b↔∃s∈js,((k∈s)↔b=true)/\cost ts s=c:=λc=>by
  unfold pf;rw[aU]
  have e:∀s:List Int,(decide (decide (k∈s)=b)=true)↔((k∈s)↔b=true):=λs=>by
   by_cases z:k∈s<;>cases b<;>simp[z]
  exact⟨λ⟨s,hs,ec⟩=>⟨s,(aJ.mp hs).1,(e s).mp (aJ.mp hs).2,ec⟩,λ⟨s,h1,h2,h3⟩=>⟨s,aJ.mpr ⟨h1,(e s).mpr h2⟩,h3⟩⟩
 have put:∀S,eF ts told S->((k∈S)↔b=true)->cost ts S∈pf ts js k b:=λS hS hb=>by
  obtain⟨s,hs,hp⟩:=hj.all S hS;exact (mem _).mpr ⟨s,hs,by rw[hp.mem_iff];exact hb,gA hp⟩
 constructor
 .constructor
  .rintro rfl
   refine cz.mpr λc hc=>?_;obtain⟨s,h1,h2,_⟩:=(mem c).mp hc;exact h ⟨s,hj.ok s h1,h2⟩
  .intro e
   cases o with
   | none=>rfl
   | some c =>
    obtain⟨⟨S,h1,h2,_⟩,_⟩:=h;have:=put S h1 h2;rw[e] at this;cases this
 .intro m hm Cs
  refine h.one (o':=some m) ⟨?_,λS hS hb=>Cs _ (put S hS hb)⟩;obtain⟨s,h1,h2,h3⟩:=(mem m).mp hm;exact⟨s,hj.ok s h1,h2,h3⟩
theorem Kx {a b:List Int}:inD (.list []) (.list [.list (a.map .int),.list (b.map .int)])=some (.bool (decide (a=[]\/b=[]))):=by
 have e:∀l:List Int,ae.eqv (.list (l.map .int)) (.list [])=decide (l=[]):=λl=>by
  cases l<;>simp[ae.eqv,ae.eqvAll]
 simp only[inD];unfold Bm;rw[if_pos ⟨rfl,by simp only[ae.canLayAll0,ae.canLay0,rH,Bool.and_self],by simp[ae.depth,ae.depthAll]⟩];simp only[bF,List.any_nil,e,Bool.or_false,bo];congr 2;simp
theorem tw (w:gI many ts){told:List Int}{js:List (List Int)}{k:Int}{o1 o2:Option Int}(hj:Q9 ts told js)(h1:mV ts told k true o1)(h2:mV ts told k false o2)(h:Q (mr (nY o1 o2)) n):iO [eM many ts,.list (js.map dI),.int k] n Q X:=by
 unfold iO kj;(simp only[iC,gV,envOf,ai,aI,ak,aL,Nat.reduceSub,Nat.reduceAdd,aE,aK,aN,ay]);generalize xE:dJ (fw _ _ _) _=t2
 have hc:∀(b:Bool) (x:Option Ent) (n:Int) (Q:List ae->Int->Prop),fm (fQ 0) (eC (dN oj (dN inD (dA 3) (dA 0)) (dA 2))) (dE kX (dz (dD 1) (dz (dD 0) dC))) Q (js.map dI) [] [x,some (!20),some (.s (.bool b)),some (.s (.int k))] n=Q ((pf ts js k b).map .int) n:=λb x n Q=>by
  rw[g6 (λenv=>∃x,env=[x,some (!20),some (.s (.bool b)),some (.s (.int k))]) dI (λs=>.int (cost ts s)) (λs=>decide (decide (k∈s)=b)) _ _ _ (λs hs env ⟨x,he⟩=>?_) ⟨_,rfl⟩]
  .rw[ay,pf,bc]
   rfl
  .subst he
   refine⟨[some (.s (dI s)),some (!20),some (.s (.bool b)),some (.s (.int k))],⟨_,rfl⟩,λK=>by simp! [dJ],λn Q=>?_,λn Q=>?_⟩
   .have e1:inD (.int k) (dI s)=some (.bool (decide (k∈s))):=pk
    have e2:oj (.bool (decide (k∈s))) (.bool b)=some (.bool (decide (decide (k∈s)=b))):=by
     rw[sJ rfl rfl (by simp[ae.depth])];cases decide (k∈s)<;>cases b<;>simp[ae.eqv]
    simp! [e1,e2]
   .rw[dE,dz,dD]
    rw[25];rw[dC,Ca (Ap w) (hj.ok s hs).num]
 simp! [dJ]
 rw[comp_map (λd=>match d with | .bool b=>.list ((pf ts js k b).map .int) | _=>.none) _ _ _ _ (λd hd n Q=>by
  simp only[ax,bw,or_false] at hd;rcases hd with rfl | rfl<;>simp! [hc])]
 subst xE;simp only[ai,aI,ay];obtain⟨a1,a2⟩:=CF hj h1;obtain⟨b1,b2⟩:=CF hj h2;generalize pf ts js k true=A at a1 a2 ⊢;generalize pf ts js k false=B at b1 b2 ⊢;simp! [Kx,ay,aN];by_cases z:A=[]\/B=[]
 .rw[if_pos (decide_eq_true z)]
  have e:nY o1 o2=none:=by
   rcases z with z | z
   .rw[a1.mpr z];rfl
   .rw[b1.mpr z];cases o1<;>rfl
  rw[e] at h;exact h
 .rw[if_neg (by simpa using z)]
  obtain⟨zA,zB⟩:=not_or.mp z;obtain⟨x,hx,ex,lx⟩:=wM zA;obtain⟨y,hy,ey,ly⟩:=wM zB;rw[a2 x hx lx,b2 y hy ly] at h;simp! [d8,d9,show tJ=oN false from rfl,ex,ey,jz,zR]
  have e:mr (nY (some x) (some y))=.int (if x - y<0 then -(x - y) else x - y):=by
   show ae.int (if y - x<0 then -(y - x) else y - x)=_;congr 1;split<;>split<;>omega
  rw[e] at h;exact h
end
noncomputable def si (ts:List eE)(k e:Int):List eE:=ts.set k.toNat ((!18).1,(!18).2.1,jr ts k+e)
section
variable {n:Int}{X:XQ}{Q:ae->Int->Prop}{many k e:Int}{ts:List eE}{told:List Int}{b:Bool}{o o' o1 o2:Option Int}
theorem FA:(si ts k e).length=ts.length:=by unfold si;rw[aZ]
theorem CG (j:Int):ij (si ts k e) j=ij ts j/\(0<=j->0<=k->k<(ts.length:Int)->jr (si ts k e) j=jr ts j+if j=k then e else 0):=by
 unfold ij jr si;rw[au,au,List.getElem?_set];by_cases z:k.toNat=j.toNat
 .by_cases y:k.toNat<ts.length
  .rw[if_pos z,if_pos y,z]
   refine⟨by simp[au],λh0 h1 _=>?_⟩;rw[if_pos (!1)];simp[jr,au,z]
  .have e1:=bi (l:=ts) (i:=j.toNat) (!1)
   rw[if_pos z,if_neg y];exact⟨by rw[au,e1],λ_ _ _=>by omega⟩
 .rw[if_neg z]
  exact⟨rfl,λh0 h1 _=>by rw[if_neg (λy=>z (by rw[y]))];simp⟩
theorem ze (S:List Int):eB (si ts k e) S=eB ts S:=by
 unfold eB;rw[bL λj _=>(CG j).1]
theorem wN {S:List Int}:eF (si ts k e) told S↔eF ts told S :=
 ⟨λh=>⟨λj hj=>by have:=h.num j hj;rwa [FA] at this,h.nd,λv=>by have:=h.odd v;rwa [ze] at this⟩,λh=>⟨λj hj=>by have:=h.num j hj;rwa [FA],h.nd,λv=>by have:=h.odd v;rwa [ze]⟩⟩
theorem CH (hk:0<=k/\k<(ts.length:Int)):∀{S:List Int},ff ts S->S.Nodup->cost (si ts k e) S=cost ts S+if k∈S then e else 0
 | [],_,_=>by simp[cost]
 | j::S,h,hn=>by
  obtain⟨n1,n2⟩:=bj.mp hn;have ih:=CH hk (S:=S) (λi hi=>h i (ag _ hi)) n2;have h1:=(CG (ts:=ts) (k:=k) (e:=e) j).2 (h j (ao ..)).1 hk.1 hk.2;have e1:cost (si ts k e) (j::S)=jr (si ts k e) j+cost (si ts k e) S:=rfl;have e2:cost ts (j::S)=jr ts j+cost ts S:=rfl;rw[e1,e2,ih,h1];by_cases z:j=k
  .subst z
   rw[if_pos rfl,if_neg n1,if_pos (ao ..)];omega
  .rw[if_neg z]
   by_cases y:k∈S
   .rw[if_pos y,if_pos (ag _ y)];omega
   .rw[if_neg y,if_neg (by simp only[ax,y,or_false];exact λq=>z q.symm)];omega
theorem M6 (w:gI many ts)(hk:0<=k/\k<(ts.length:Int))(hp:(jr ts k+e).natAbs<=99):gI many (si ts k e):=⟨w.m0,w.m1,λt ht=>by
 rcases df ht with ht | rfl
 .exact w.ok t ht
 .have:=tm w hk
  exact⟨this.a0,this.ab,this.bm,hp⟩⟩
noncomputable def xI (b:Bool)(e:Int)(o:Option Int):Option Int:=o.map λc=>if b=true then c+e else c
theorem FC (hk:0<=k/\k<(ts.length:Int))(h:mV ts told k b o):mV (si ts k e) told k b (xI b e o):=by
 have hc:∀S,eF ts told S->((k∈S)↔b=true)->cost (si ts k e) S=if b=true then cost ts S+e else cost ts S:=λS hS hb=>by
  rw[CH hk hS.num hS.nd];by_cases z:b=true
  .rw[if_pos z,if_pos (hb.mpr z)]
  .rw[if_neg z,if_neg (λy=>z (hb.mp y))];omega
 cases o with
 | none=>exact λ⟨S,hS,hb⟩=>h ⟨S,wN.mp hS,hb⟩
 | some c =>
  obtain⟨⟨S,h1,h2,h3⟩,h4⟩:=h;refine⟨⟨S,wN.mpr h1,h2,by rw[hc S h1 h2,h3]⟩,λT hT hb=>?_⟩;have h5:=wN.mp hT;have:=h4 T h5 hb;rw[hc T h5 hb];show (if b=true then c+e else c)<=_;split<;>omega
theorem sj (w:gI many ts)(hl:ts.length<=16)(hr:Rg many told)(hk:0<=k/\k<(ts.length:Int))(h1:mV ts told k true o1)(h2:mV ts told k false o2)(hq1:Q (.str "") n)(hq:Q (.str (g7 (xI true e o1) o2)) n):eW [eM many ts,dI told,.int k,.int e] n Q X:=by
 unfold eW jG;(simp only[iC,gV,envOf,ai,aI,ak,aL,Nat.reduceSub,Nat.reduceAdd,aE,aK,aN,ay]);generalize UE:eJ (dN eY (dE iY _) _)=t4;generalize M0:dJ (tG 4 _ _) t4=t3;have ew:eY (!24) (.int 1)=some (.tuple (ts.map eO)):=rfl;have e0:eY (!24) (.int 0)=some (.int many):=rfl;have Rx:sx (ts.map eO) k=some (eO (!18)):=rW hk;have htp:eY (eO (!18)) (.int 2)=some (.int (jr ts k)):=rfl
 have ed:decide (99<(if jr ts k+e<0 then -(jr ts k+e) else jr ts k+e))=decide (99<(jr ts k+e).natAbs):=by
  rw[decide_eq_decide];split<;>omega
 simp! [ew,eP,Rx,htp,yJ,zR,Hi,ed];by_cases hp:99<(jr ts k+e).natAbs
 .rw[if_pos (decide_eq_true hp)]
  exact hq1
 .rw[if_neg (by simpa using hp)]
  have hp:(jr ts k+e).natAbs<=99:=by omega
  subst M0
  have MU:I9 (eO (!18)) none (some 2)=some (.tuple [.int (!18).1,.int (!18).2.1]):=by
   simp only[eO,I9,rJ _ 2 (!2),show Int.toNat 2=2 from rfl,c5,List.take_zero]
  have LN:CV ts.length k=some k.toNat:=by
   unfold CV;rw[if_pos hk.1,if_pos hk.2]
  have em:∀a b c:Int,(ts.map eO).set k.toNat (.tuple [.int a,.int b,.int c])=(ts.set k.toNat (a,b,c)).map eO:=λa b c=>by rw[List.map_set];rfl
  simp! [eP,Rx,MU,vE (xs:=[.int (!18).1,.int (!18).2.1]) (ys:=[.int (jr ts k+e)]) (!4),ar,LN];subst UE;rw[em,eJ];(repeat first | rw[dz] | rw[uC] | rw[d5] | rw[dC] | rw[uL] | rw[dE] | rw[dN] | rw[dB] | rw[dU] | rw[eP] | rw[d8] | rw[d9] | rw[eN] | (rw[dD];simp only[aa,ac]) | (rw[dA];simp only[aa,ac]));rw[e0];(repeat first | rw[dz] | rw[uC] | rw[d5] | rw[dC] | rw[uL] | rw[dE] | rw[dN] | rw[dB] | rw[dU] | rw[eP] | rw[d8] | rw[d9] | rw[eN] | (rw[dD];simp only[aa,ac]) | (rw[dA];simp only[aa,ac]));rw[i9];(repeat first | rw[dz] | rw[uC] | rw[d5] | rw[dC] | rw[uL] | rw[dE] | rw[dN] | rw[dB] | rw[dU] | rw[eP] | rw[d8] | rw[d9] | rw[eN] | (rw[dD];simp only[aa,ac]) | (rw[dA];simp only[aa,ac]));rw[fu];(repeat first | rw[dz] | rw[uC] | rw[d5] | rw[dC] | rw[uL] | rw[dE] | rw[dN] | rw[dB] | rw[dU] | rw[eP] | rw[d8] | rw[d9] | rw[eN] | (rw[dD];simp only[aa,ac]) | (rw[dA];simp only[aa,ac]));refine sg (M6 w hk hp) (by rw[aZ];exact hl) hr (by rw[aZ];exact hk) λd1 d2 a1 a2 p1 p2=>?_;rw[p1.low.one (FC hk h1),p2.low.one (FC hk h2)];rw[show xI false e o2=o2 by unfold xI;cases o2<;>rfl];(repeat first | rw[dz] | rw[uC] | rw[d5] | rw[dC] | rw[uL] | rw[dE] | rw[dN] | rw[dB] | rw[dU] | rw[eP] | rw[d8] | rw[d9] | rw[eN] | (rw[dD];simp only[aa,ac]) | (rw[dA];simp only[aa,ac]));exact hq
end
theorem layW:(ae.str "").canLay0=true/\(ae.str "always").canLay0=true/\(ae.str "never").canLay0=true/\(ae.str "sometimes").canLay0=true:=by decide +kernel
theorem Oo (o1 o2:Option Int):(ae.str (g7 o1 o2)).canLay0=true:=by
 cases o1 with
 | none=>cases o2 with
  | none=>exact M4
  | some b=>exact layW.2.2.1
 | some a=>cases o2 with
  | none=>exact layW.2.1
  | some b =>
   unfold g7;simp only[];split
   .exact layW.2.2.2
   .split
    .exact layW.2.1
    .exact layW.2.2.1
theorem Oq {x y z:Str}(h:x=y\/x=z)(hy:(ae.str y).canLay0=true)(hz:(ae.str z).canLay0=true):Bm (.str x) [.str y,.str z]=some true:=by
 have hx:(ae.str x).canLay0=true:=by rcases h with rfl | rfl<;>assumption
 unfold Bm;rw[if_pos ⟨hx,by simp[ae.canLayAll0,hy,hz],by simp[ae.depth]⟩,bF,bF];rcases h with rfl | rfl
 .rw[PySem.SeqAt.eqv_refl _ hx];rfl
 .rw[PySem.SeqAt.eqv_refl _ hx];simp
theorem Ky {x y z:Str}(h:x=y\/x=z)(hy:(ae.str y).canLay0=true)(hz:(ae.str z).canLay0=true):inD (.str x) (.tuple [.str y,.str z])=some (!37):=by simp only[inD,Oq h hy hz,bo]
theorem wO {x y z:Str}(h:x=y\/x=z)(hy:(ae.str y).canLay0=true)(hz:(ae.str z).canLay0=true):p6 (.str x) (.tuple [.str y,.str z])=some (.bool false):=by simp only[p6,Oq h hy hz,bo,Bool.not_true]
theorem CI:p6 (.str "sometimes") (.tuple [.str "always",.str "never"])=some (!37)/\p6 (.str "none") (.tuple [.str "always",.str "never"])=some (!37):=by
 constructor
 .simp only[p6];unfold Bm;rw[if_pos ⟨layW.2.2.2,!3,by simp[ae.depth]⟩];rfl
 .simp only[p6];unfold Bm;rw[if_pos ⟨M4,!3,by simp[ae.depth]⟩];rfl
theorem FD:oj (.str "always") (.str "always")=some (!37)/\oj (.str "never") (.str "always")=some (.bool false):=⟨Ax layW.2.1,by
 rw[sJ layW.2.2.1 layW.2.1 (by simp[ae.depth])];rfl⟩
section
variable {n:Int}{X:XQ}{Q:ae->Int->Prop}{many k:Int}{ts:List eE}{told:List Int}{o1 o2:Option Int}
theorem wQ (w:gI many ts)(hl:ts.length<=16)(hr:Rg many told)(hk:0<=k/\k<(ts.length:Int))(h1:mV ts told k true o1)(h2:mV ts told k false o2)(hs:nY o1 o2=none)(hn:n+2<=mK)(h:Q (!37) (n+1)):fj [eM many ts,dI told,.int k,.str (g7 o1 o2),.none] n Q X:=by
 have hw:∀e,g7 (xI true e o1) o2=g7 o1 o2:=λe=>by
  cases o1<;>cases o2<;>first | rfl | (cases hs)
 unfold fj gD;(simp only[iC,gV,envOf,ai,aI,ak,aL,Nat.reduceSub,Nat.reduceAdd,aE,aK,aN,ay]);generalize htB:Bz (d7 6 _) _=tB;generalize Zi:dJ (fw (eC (dN oH _ _)) _ _) _=tA;generalize hO:Gk _ _=tO
 have hor:∀Q:Bool->Int->Prop,tO [none,some (!20),some (.s (dI told)),some (.s (.int k)),some (.s (.str (g7 o1 o2))),some (.s .none),none,none] n Q=Q true n:=λQ=>by
  subst hO;rw[Gk,eC];(repeat first | rw[dz] | rw[uC] | rw[d5] | rw[dC] | rw[uL] | rw[dE] | rw[dN] | rw[dB] | rw[dU] | rw[eP] | rw[d8] | rw[d9] | rw[eN] | (rw[dD];simp only[aa,ac]) | (rw[dA];simp only[aa,ac]));rw[eC];(repeat first | rw[dz] | rw[uC] | rw[d5] | rw[dC] | rw[uL] | rw[dE] | rw[dN] | rw[dB] | rw[dU] | rw[eP] | rw[d8] | rw[d9] | rw[eN] | (rw[dD];simp only[aa,ac]) | (rw[dA];simp only[aa,ac]))
  cases o1 with
  | none =>
   cases o2 with
   | none=>rw[show g7 none none = "none" from rfl,CI.2];simp
   | some b=>rw[show g7 none (some b) = "never" from rfl,wO (.inr rfl) layW.2.1 layW.2.2.1];simp[yp,pg]
  | some a =>
   cases o2 with
   | none=>rw[show g7 (some a) none = "always" from rfl,wO (.inl rfl) layW.2.1 layW.2.2.1];simp[yp,pg]
   | some b=>cases hs
 rw[true_and,dJ,fw,hor,if_pos rfl];subst Zi;rw[dJ,fw,eC];(repeat first | rw[dz] | rw[uC] | rw[d5] | rw[dC] | rw[uL] | rw[dE] | rw[dN] | rw[dB] | rw[dU] | rw[eP] | rw[d8] | rw[d9] | rw[eN] | (rw[dD];simp only[aa,ac]) | (rw[dA];simp only[aa,ac]));rw[show oH .none .none=some (.bool false) from rfl,dB,dR,if_neg (!2),fq];dsimp only;rw[eJ];(repeat first | rw[dz] | rw[uC] | rw[d5] | rw[dC] | rw[uL] | rw[dE] | rw[dN] | rw[dB] | rw[dU] | rw[eP] | rw[d8] | rw[d9] | rw[eN] | (rw[dD];simp only[aa,ac]) | (rw[dA];simp only[aa,ac]));(refine gB (!2) (!2) (!1) λr r0 r1=>?_);(repeat first | rw[dz] | rw[uC] | rw[d5] | rw[dC] | rw[uL] | rw[dE] | rw[dN] | rw[dB] | rw[dU] | rw[eP] | rw[d8] | rw[d9] | rw[eN] | (rw[dD];simp only[aa,ac]) | (rw[dA];simp only[aa,ac]));rw[B3];(repeat first | rw[dz] | rw[uC] | rw[d5] | rw[dC] | rw[uL] | rw[dE] | rw[dN] | rw[dB] | rw[dU] | rw[eP] | rw[d8] | rw[d9] | rw[eN] | (rw[dD];simp only[aa,ac]) | (rw[dA];simp only[aa,ac]));refine sj w hl hr hk h1 h2 ?_ ?_
 .skip;(repeat first | rw[dz] | rw[uC] | rw[d5] | rw[dC] | rw[uL] | rw[dE] | rw[dN] | rw[dB] | rw[dU] | rw[eP] | rw[d8] | rw[d9] | rw[eN] | (rw[dD];simp only[aa,ac]) | (rw[dA];simp only[aa,ac]))
  rw[Ky (.inl rfl) layW.1 (Oo o1 o2),dB];exact h
 .skip;(repeat first | rw[dz] | rw[uC] | rw[d5] | rw[dC] | rw[uL] | rw[dE] | rw[dN] | rw[dB] | rw[dU] | rw[eP] | rw[d8] | rw[d9] | rw[eN] | (rw[dD];simp only[aa,ac]) | (rw[dA];simp only[aa,ac]))
  rw[hw,Ky (.inr rfl) layW.1 (Oo o1 o2),dB];exact h
theorem wR (w:gI many ts)(hl:ts.length<=16)(hr:Rg many told)(hk:0<=k/\k<(ts.length:Int))(h1:mV ts told k true o1)(h2:mV ts told k false o2){x y:Str}{s c:Int}(hx:(x = "always" /\ y = "never" /\ s=1)\/(x = "never" /\ y = "always" /\ s=-1))
  (w1:g7 (xI true (s * c) o1) o2 = "sometimes") (w2:g7 (xI true (s * (c - 1)) o1) o2=x) (w3:g7 (xI true (s * (c+1)) o1) o2=y) (h:Q (!37) n):fj [eM many ts,dI told,.int k,.str x,.int c] n Q X:=by
 have hm:∀d:Int,AO s d:=λd=>.inl (by rcases hx with⟨_,_,rfl⟩ | ⟨_,_,rfl⟩<;>decide);have lx:(ae.str x).canLay0=true:=by rcases hx with⟨rfl,_⟩ | ⟨rfl,_⟩<;>first | exact layW.2.1 | exact layW.2.2.1
 have ly:(ae.str y).canLay0=true:=by rcases hx with⟨_,rfl,_⟩ | ⟨_,rfl,_⟩<;>first | exact layW.2.1 | exact layW.2.2.1
 unfold fj gD;(simp only[iC,gV,envOf,ai,aI,ak,aL,Nat.reduceSub,Nat.reduceAdd,aE,aK,aN,ay]);generalize UE:eJ (dN inD (dE eW (dz _ (dz _ (dz _ (dz (dN rB (dA 6) _) dC))))) _)=t4;generalize M0:Bz (d7 7 _) t4=t3;generalize xE:dJ (fw (eC (dN p6 (dE eW (dz _ (dz _ (dz _ (dz (dN rB (dA 6) (dN jz _ _)) dC))))) _)) _ _) t3=t2;generalize Fs:dJ (fw (eC (dN p6 (dE eW _) _)) _ _) t2=t1;generalize Zi:dJ (fw (eC (dN oH _ _)) _ _) _=tA;rw[true_and,dJ,fw,Gk,eC];(repeat first | rw[dz] | rw[uC] | rw[d5] | rw[dC] | rw[uL] | rw[dE] | rw[dN] | rw[dB] | rw[dU] | rw[eP] | rw[d8] | rw[d9] | rw[eN] | (rw[dD];simp only[aa,ac]) | (rw[dA];simp only[aa,ac]));rw[wO (by rcases hx with⟨rfl,_⟩ | ⟨rfl,_⟩<;>simp) layW.2.1 layW.2.2.1,dB,dR,if_neg (!2),eC];(repeat first | rw[dz] | rw[uC] | rw[d5] | rw[dC] | rw[uL] | rw[dE] | rw[dN] | rw[dB] | rw[dU] | rw[eP] | rw[d8] | rw[d9] | rw[eN] | (rw[dD];simp only[aa,ac]) | (rw[dA];simp only[aa,ac]));rw[show yp (.int c) .none=some (.bool false) from rfl,dB,dR,if_neg (!2),fq];dsimp only;refine⟨λeL n'=>n'=n/\eL=[none,some (!20),some (.s (dI told)),some (.s (.int k)),some (.s (.str x)),some (.s (.int c)),some (.s (.int s)),none],?_,?_⟩
 .rw[d7,tV,eC]
  (repeat first | rw[dz] | rw[uC] | rw[d5] | rw[dC] | rw[uL] | rw[dE] | rw[dN] | rw[dB] | rw[dU] | rw[eP] | rw[d8] | rw[d9] | rw[eN] | (rw[dD];simp only[aa,ac]) | (rw[dA];simp only[aa,ac]));rcases hx with⟨rfl,rfl,rfl⟩ | ⟨rfl,rfl,rfl⟩
  .rw[FD.1,dB,dR,if_pos rfl]
   (repeat first | rw[dz] | rw[uC] | rw[d5] | rw[dC] | rw[uL] | rw[dE] | rw[dN] | rw[dB] | rw[dU] | rw[eP] | rw[d8] | rw[d9] | rw[eN] | (rw[dD];simp only[aa,ac]) | (rw[dA];simp only[aa,ac]));exact⟨rfl,rfl⟩
  .rw[FD.2,dB,dR,if_neg (!2),Tp]
   (repeat first | rw[dz] | rw[uC] | rw[d5] | rw[dC] | rw[uL] | rw[dE] | rw[dN] | rw[dB] | rw[dU] | rw[eP] | rw[d8] | rw[d9] | rw[eN] | (rw[dD];simp only[aa,ac]) | (rw[dA];simp only[aa,ac]));exact⟨_,rfl,rfl,rfl⟩
 .rintro eL n' ⟨rfl,rfl⟩
  subst Fs;rw[dJ,fw,eC];(repeat first | rw[dz] | rw[uC] | rw[d5] | rw[dC] | rw[uL] | rw[dE] | rw[dN] | rw[dB] | rw[dU] | rw[eP] | rw[d8] | rw[d9] | rw[eN] | (rw[dD];simp only[aa,ac]) | (rw[dA];simp only[aa,ac]));rw[ni (hm c)];(repeat first | rw[dz] | rw[uC] | rw[d5] | rw[dC] | rw[uL] | rw[dE] | rw[dN] | rw[dB] | rw[dU] | rw[eP] | rw[d8] | rw[d9] | rw[eN] | (rw[dD];simp only[aa,ac]) | (rw[dA];simp only[aa,ac]));have step:∀(e:Int) (K:ae->Int->Prop),(∀z:Str,(z = "" \/ z=g7 (xI true e o1) o2)->K (.str z) n')->eW [eM many ts,dI told,.int k,.int e] n' K Gx:=λe K hz=>sj w hl hr hk h1 h2 (hz _ (.inl rfl)) (hz _ (.inr rfl));refine step _ _ λz hz=>?_;rw[w1] at hz;(repeat first | rw[dz] | rw[uC] | rw[d5] | rw[dC] | rw[uL] | rw[dE] | rw[dN] | rw[dB] | rw[dU] | rw[eP] | rw[d8] | rw[d9] | rw[eN] | (rw[dD];simp only[aa,ac]) | (rw[dA];simp only[aa,ac]));rw[wO hz layW.1 layW.2.2.2,dB,dR,if_neg (!2),fq];dsimp only;subst xE;rw[dJ,fw,eC];(repeat first | rw[dz] | rw[uC] | rw[d5] | rw[dC] | rw[uL] | rw[dE] | rw[dN] | rw[dB] | rw[dU] | rw[eP] | rw[d8] | rw[d9] | rw[eN] | (rw[dD];simp only[aa,ac]) | (rw[dA];simp only[aa,ac]));rw[B3];(repeat first | rw[dz] | rw[uC] | rw[d5] | rw[dC] | rw[uL] | rw[dE] | rw[dN] | rw[dB] | rw[dU] | rw[eP] | rw[d8] | rw[d9] | rw[eN] | (rw[dD];simp only[aa,ac]) | (rw[dA];simp only[aa,ac]));rw[ni (hm (c - 1))];(repeat first | rw[dz] | rw[uC] | rw[d5] | rw[dC] | rw[uL] | rw[dE] | rw[dN] | rw[dB] | rw[dU] | rw[eP] | rw[d8] | rw[d9] | rw[eN] | (rw[dD];simp only[aa,ac]) | (rw[dA];simp only[aa,ac]));refine step _ _ λz hz=>?_;rw[w2] at hz;(repeat first | rw[dz] | rw[uC] | rw[d5] | rw[dC] | rw[uL] | rw[dE] | rw[dN] | rw[dB] | rw[dU] | rw[eP] | rw[d8] | rw[d9] | rw[eN] | (rw[dD];simp only[aa,ac]) | (rw[dA];simp only[aa,ac]));rw[wO hz layW.1 lx,dB,dR,if_neg (!2),fq];dsimp only;subst M0;refine⟨λeL m=>m=n'/\eL=[none,some (!20),some (.s (dI told)),some (.s (.int k)),some (.s (.str x)),some (.s (.int c)),some (.s (.int s)),some (.s (.str y))],?_,?_⟩
  .rw[d7,tV,eC]
   (repeat first | rw[dz] | rw[uC] | rw[d5] | rw[dC] | rw[uL] | rw[dE] | rw[dN] | rw[dB] | rw[dU] | rw[eP] | rw[d8] | rw[d9] | rw[eN] | (rw[dD];simp only[aa,ac]) | (rw[dA];simp only[aa,ac]));rcases hx with⟨rfl,rfl,rfl⟩ | ⟨rfl,rfl,rfl⟩
   .rw[FD.1,dB,dR,if_pos rfl]
    (repeat first | rw[dz] | rw[uC] | rw[d5] | rw[dC] | rw[uL] | rw[dE] | rw[dN] | rw[dB] | rw[dU] | rw[eP] | rw[d8] | rw[d9] | rw[eN] | (rw[dD];simp only[aa,ac]) | (rw[dA];simp only[aa,ac]));exact⟨rfl,rfl⟩
   .rw[FD.2,dB,dR,if_neg (!2)]
    (repeat first | rw[dz] | rw[uC] | rw[d5] | rw[dC] | rw[uL] | rw[dE] | rw[dN] | rw[dB] | rw[dU] | rw[eP] | rw[d8] | rw[d9] | rw[eN] | (rw[dD];simp only[aa,ac]) | (rw[dA];simp only[aa,ac]));exact⟨rfl,rfl⟩
  .rintro eL n' ⟨rfl,rfl⟩
   subst UE;rw[eJ];(repeat first | rw[dz] | rw[uC] | rw[d5] | rw[dC] | rw[uL] | rw[dE] | rw[dN] | rw[dB] | rw[dU] | rw[eP] | rw[d8] | rw[d9] | rw[eN] | (rw[dD];simp only[aa,ac]) | (rw[dA];simp only[aa,ac]));rw[yJ];(repeat first | rw[dz] | rw[uC] | rw[d5] | rw[dC] | rw[uL] | rw[dE] | rw[dN] | rw[dB] | rw[dU] | rw[eP] | rw[d8] | rw[d9] | rw[eN] | (rw[dD];simp only[aa,ac]) | (rw[dA];simp only[aa,ac]));rw[ni (hm (c+1))];(repeat first | rw[dz] | rw[uC] | rw[d5] | rw[dC] | rw[uL] | rw[dE] | rw[dN] | rw[dB] | rw[dU] | rw[eP] | rw[d8] | rw[d9] | rw[eN] | (rw[dD];simp only[aa,ac]) | (rw[dA];simp only[aa,ac]));refine step _ _ λz hz=>?_;rw[w3] at hz;(repeat first | rw[dz] | rw[uC] | rw[d5] | rw[dC] | rw[uL] | rw[dE] | rw[dN] | rw[dB] | rw[dU] | rw[eP] | rw[d8] | rw[d9] | rw[eN] | (rw[dD];simp only[aa,ac]) | (rw[dA];simp only[aa,ac]));rw[Ky hz layW.1 ly,dB];exact h
theorem Kz (w:gI many ts)(hl:ts.length<=16)(hr:Rg many told)(hk:0<=k/\k<(ts.length:Int))(h1:mV ts told k true o1)(h2:mV ts told k false o2)(hn:n+2<=mK)(h:∀n',n<=n'->n'<=n+1->Q (!37) n'):fj [eM many ts,dI told,.int k,.str (g7 o1 o2),mr (nY o1 o2)] n Q X:=by
 cases o1 with
 | none=>exact wQ w hl hr hk h1 h2 rfl hn (h _ (!1) (!1))
 | some a =>
  cases o2 with
  | none=>exact wQ w hl hr hk h1 h2 rfl hn (h _ (!1) (!1))
  | some b =>
   have wd:∀e:Int,g7 (xI true e (some a)) (some b)=(if b - (a+e)=0 then ("sometimes" : Str) else if 0<b - (a+e) then "always" else "never"):=λe=>rfl;have w0:g7 (some a) (some b)=(if b - a=0 then ("sometimes" : Str) else if 0<b - a then "always" else "never"):=rfl;rw[w0,show mr (nY (some a) (some b))=.int (if b - a<0 then -(b - a) else b - a) from rfl];by_cases z:b - a=0
   .rw[if_pos z]
    unfold fj gD;(simp only[iC,gV,envOf,ai,aI,ak,aL,Nat.reduceSub,Nat.reduceAdd,aE,aK,aN,ay]);generalize htB:Bz (d7 6 _) _=tB;rw[true_and,dJ,fw,Gk,eC];(repeat first | rw[dz] | rw[uC] | rw[d5] | rw[dC] | rw[uL] | rw[dE] | rw[dN] | rw[dB] | rw[dU] | rw[eP] | rw[d8] | rw[d9] | rw[eN] | (rw[dD];simp only[aa,ac]) | (rw[dA];simp only[aa,ac]));rw[CI.1,dB,dR,if_pos rfl,if_pos trivial,dJ,fw,eC];(repeat first | rw[dz] | rw[uC] | rw[d5] | rw[dC] | rw[uL] | rw[dE] | rw[dN] | rw[dB] | rw[dU] | rw[eP] | rw[d8] | rw[d9] | rw[eN] | (rw[dD];simp only[aa,ac]) | (rw[dA];simp only[aa,ac]));rw[show ∀i:Int,oH (.int i) .none=some (!37) from λ_=>rfl,dB,dR,if_pos rfl,eJ,uC];exact h _ (!1) (!1)
   .rw[if_neg z]
    by_cases y:0<b - a
    .rw[if_pos y,if_neg (!1)]
     exact wR w hl hr hk h1 h2 (.inl ⟨rfl,rfl,rfl⟩) (by rw[wd,if_pos (!1)]) (by rw[wd,if_neg (!1),if_pos (!1)]) (by rw[wd,if_neg (!1),if_neg (!1)]) (h _ (!1) (!1))
    .rw[if_neg y,if_pos (!1)]
     exact wR w hl hr hk h1 h2 (.inr ⟨rfl,rfl,rfl⟩) (by rw[wd,if_pos (!1)]) (by rw[wd,if_neg (!1),if_neg (!1)]) (by rw[wd,if_neg (!1),if_pos (!1)]) (h _ (!1) (!1))
end
theorem Ee {many:Int}{p:List Int}(h:Rg many p):p.length<=many.toNat:=by
 have:=(j5.mp h.sub).length_le;rwa [e8] at this
theorem wU {many:Int}{p:List Int}(hm:many<=16)(h:Rg many p):om (10 ^ 7) 11 (11 * p.length) 0 (p.map .int):=om.ints (!2) λi hi=>by have:=h.rg i hi;omega
theorem FE (o1 o2:Option Int):Sz (10 ^ 7) 11 11 0 (.str (g7 o1 o2)):=by
 have hw:(Str.cps "always").toList.all (λc=>decide (c<1114112)) && decide ((Str.cps "always").size<=11) && ((Str.cps "never").toList.all (λc=>decide (c<1114112)) && decide ((Str.cps "never").size<=11)) && ((Str.cps "sometimes").toList.all (λc=>decide (c<1114112)) && decide ((Str.cps "sometimes").size<=11)) && ((Str.cps "none").toList.all (λc=>decide (c<1114112)) && decide ((Str.cps "none").size<=11))=true:=by decide +kernel
 rw[bn,bn,bn] at hw;obtain⟨⟨⟨a1,a2⟩,a3⟩,a4⟩:=hw;refine Sz.str ?_
 cases o1 with
 | none=>cases o2 with
  | none=>exact a4
  | some b=>exact a2
 | some a=>cases o2 with
  | none=>exact a1
  | some b =>
   unfold g7;simp only[];split
   .exact a3
   .split
    .exact a1
    .exact a2
theorem FF {many k:Int}{ts:List eE}{told:List Int}{b:Bool}{d:ae}{o:Option Int}(w:gI many ts)(hl:ts.length<=16)(h:qP many ts told k b d o):Sz (10 ^ 7) 11 82000 4 d:=by
 have m1:=w.m1
 cases h with
 | none p kz hp hr =>
  have hlen:=Ee ⟨hp,hr⟩;exact (Sz.tup (om.cons (FE none none) (om.cons (Sz.tup (wU (!1) ⟨hp,hr⟩)) om.nil))).mono (aw _) (aw _) (!1) (!2)
 | least D kvs hD lB hk =>
  have Zj:Rg (ts.length:Int) D:=⟨lB,λv hv=>hD.join.num v hv⟩;have hlen:=Ee Zj
  have Ks:∀d∈l3 kvs,Sz (10 ^ 7) 11 269 2 d:=λd hd=>by
   obtain⟨p,hp,rfl⟩:=aU.mp hd;obtain⟨⟨r1,r2⟩,v,e,v1,v2⟩:=hk.row p hp;have oo:=Ee ⟨r1,r2⟩;rw[e];exact (Sz.tup (om.cons (Sz.tup (wU (!1) ⟨r1,r2⟩)) (om.cons (Sz.int (!1) (!2)) om.nil))).mono (aw _) (aw _) (!1) (!2)
  have h2:=om.all Ks;have Hk:(l3 kvs).length=kvs.length:=by unfold l3;rw[ar]
  have hkl:=hk.len;have hs:Sz (10 ^ 7) 11 11 0 (.str "least"):=Sz.str (!3);exact (Sz.tup (om.cons hs (om.cons (Sz.tup (wU (!1) Zj)) (om.cons (Sz.small (by decide:(2:Int).natAbs<1024) (!2)) (om.cons (Sz.tup h2) om.nil))))).mono (aw _) (aw _) (by rw[Hk];omega) (!2)
theorem Hb {many:Int}{ts:List eE}{told:List Int}(w:gI many ts)(hr:Rg many told):Q9 ts told ((nV ts.length).filter λs=>decide (Cy ts s=mU told)):=by
 have sub:∀{s:List Int},s∈nV ts.length->ff ts s/\s.Nodup:=λ{s} hs=>by
  have h:=j5.mp hs;exact⟨λi hi=>by have:=fy.mp (h.subset hi);omega,iw ((pF _).sublist h)⟩
 refine⟨λs hs=>?_,λS hS=>?_⟩
 .obtain⟨h1,h2⟩:=aJ.mp hs
  exact (CA w hr (sub h1).1 (sub h1).2).mp (of_decide_eq_true h2)
 .have hm:(fW 0 ts.length).filter (λk=>decide (k∈S))∈nV ts.length:=j5.mpr cv
  have hp:((fW 0 ts.length).filter λk=>decide (k∈S)).Perm S:=(bb (sub hm).2 hS.nd).mpr λk=>by
   rw[aJ,fy];exact⟨λz=>of_decide_eq_true z.2,λz=>⟨by have:=hS.num k z;omega,decide_eq_true z⟩⟩
  refine⟨_,aJ.mpr ⟨hm,decide_eq_true ((CA w hr (sub hm).1 (sub hm).2).mpr ⟨(sub hm).1,(sub hm).2,λv=>?_⟩)⟩,hp⟩;rw[(iV hp).count_eq];exact hS.odd v
theorem Ef {ts:List eE}{told:List Int}{k:Int}{o1 o2:Option Int}(hp:B8 ts)(hl:ts.length<=16)(h1:mV ts told k true o1)(h2:mV ts told k false o2):Good (mr (nY o1 o2)):=by
 have hc:∀{b:Bool} {c:Int},mV ts told k b (some c)->c.natAbs<=1584:=λ{b c} h=>by
  obtain⟨⟨S,hS,_,rfl⟩,_⟩:=h;have h1:=Aq hp hS.num
  have h2:S.length<=16:=by
   have:=hS.nd.length_le_of_subset (l₂:=fW 0 ts.length) λv hv=>fy.mpr (by have:=hS.num v hv;omega);rw[e8] at this;omega
  omega
 have hn:Good .none:=(Sz.jm (B:=1) (L:=1)).good (!2) (!2) (!2) (!2)
 cases o1 with
 | none=>exact hn
 | some a =>
  cases o2 with
  | none=>exact hn
  | some b =>
   have:=hc h1;have:=hc h2;exact (Sz.int (B:=10000) (L:=1) (i:=if b - a<0 then -(b - a) else b - a) (by split<;>omega) (!2)).good (!2) (!2) (!2) (!2)
theorem KC:BS { nx:=λ_ _=>False,rt:=λd _=>d=.bool true } (List.replicate 10 none) 0:=by
 have Zk:mK=1099511627776:=by decide
 unfold BS;(simp only[iC,gV,envOf,ai,aI,ak,aL,Nat.reduceSub,Nat.reduceAdd,aE,aK,aN,ay]);generalize ht9:fw (Gm _) _ _=t9;generalize ht8:dJ (fw _ _ _) t9=t8;generalize ht7:dJ (d7 9 _) t8=t7;generalize ht6:dJ (d7 8 _) t7=t6;generalize ht5:dJ (d7 7 _) t6=t5;generalize UE:dJ (d7 6 _) t5=t4;generalize M0:dJ (d7 5 _) t4=t3;generalize xE:dJ (d7 4 _) t3=t2;generalize Fs:dJ (d7 3 _) t2=t1;simp! [dJ];refine⟨!2,!2,?_⟩;refine mL (λpre post env n'=>∃x2 x3 x4 x5 x6 x7 x8 x9,env=[none,none,x2,x3,x4,x5,x6,x7,x8,x9]/\0<=n'/\n'<=200 * pre.length/\pre.length+post.length=3) _ [] _ _ ?_ ⟨_,_,_,_,_,_,_,_,rfl,!2,!4,by rfl⟩ ?_
 .rintro pre d post env n E' hE ⟨x2,x3,x4,x5,x6,x7,x8,x9,rfl,hn0,Ze,hp⟩ JG
  rw[ak] at hp;subst Fs;rw[fQ];rw[3];rw[dJ,d7];(repeat first | rw[dz] | rw[uC] | rw[d5] | rw[dC] | rw[uL] | rw[dE] | rw[dN] | rw[dB] | rw[dU] | rw[eP] | rw[d8] | rw[d9] | rw[eN] | (rw[dD];simp only[aa,ac]) | (rw[dA];simp only[aa,ac]));refine ux (!1) λmany ts n1 w hm gX hl Pq XI=>?_;rw[3];subst xE;rw[dJ,d7];(repeat first | rw[dz] | rw[uC] | rw[d5] | rw[dC] | rw[uL] | rw[dE] | rw[dN] | rw[dB] | rw[dU] | rw[eP] | rw[d8] | rw[d9] | rw[eN] | (rw[dD];simp only[aa,ac]) | (rw[dA];simp only[aa,ac]));refine CD w (!1) (!1) λtold n2 hr Zf Zg=>?_;rw[3];subst M0;have Y2:0<ts.length:=List.length_pos_iff.mpr gX;have ew:eY (!24) (.int 1)=some (.tuple (ts.map eO)):=rfl;rw[dJ,d7];(repeat first | rw[dz] | rw[uC] | rw[d5] | rw[dC] | rw[uL] | rw[dE] | rw[dN] | rw[dB] | rw[dU] | rw[eP] | rw[d8] | rw[d9] | rw[eN] | (rw[dD];simp only[aa,ac]) | (rw[dA];simp only[aa,ac]));rw[i9];(repeat first | rw[dz] | rw[uC] | rw[d5] | rw[dC] | rw[uL] | rw[dE] | rw[dN] | rw[dB] | rw[dU] | rw[eP] | rw[d8] | rw[d9] | rw[eN] | (rw[dD];simp only[aa,ac]) | (rw[dA];simp only[aa,ac]));rw[ew];(repeat first | rw[dz] | rw[uC] | rw[d5] | rw[dC] | rw[uL] | rw[dE] | rw[dN] | rw[dB] | rw[dU] | rw[eP] | rw[d8] | rw[d9] | rw[eN] | (rw[dD];simp only[aa,ac]) | (rw[dA];simp only[aa,ac]));rw[show jU [.tuple (ts.map eO)]=some (.int (ts.length:Int)) by simp only[jU,ar]];(repeat first | rw[dz] | rw[uC] | rw[d5] | rw[dC] | rw[uL] | rw[dE] | rw[dN] | rw[dB] | rw[dU] | rw[eP] | rw[d8] | rw[d9] | rw[eN] | (rw[dD];simp only[aa,ac]) | (rw[dA];simp only[aa,ac]));refine gB (!1) (!1) (!1) λk k0 k1=>?_;have hk:0<=k/\k<(ts.length:Int):=⟨k0,k1⟩;rw[3];subst UE;rw[dJ,d7];(repeat first | rw[dz] | rw[uC] | rw[d5] | rw[dC] | rw[uL] | rw[dE] | rw[dN] | rw[dB] | rw[dU] | rw[eP] | rw[d8] | rw[d9] | rw[eN] | (rw[dD];simp only[aa,ac]) | (rw[dA];simp only[aa,ac]));refine sg w (!1) hr hk λd1 d2 o1 o2 p1 p2=>?_;rw[3];have hg:Good (.tuple [.str (g7 o1 o2),d1,d2]):=(Sz.tup (om.cons (FE o1 o2) (om.cons (FF w (!1) p1) (om.cons (FF w (!1) p2) om.nil)))).good (!3) (!2) (!2) (!2);have Vo:=Ef (Ap w) (!1) p1.low p2.low;subst ht5;rw[dJ,d7,rF];(repeat first | rw[dz] | rw[uC] | rw[d5] | rw[dC] | rw[uL] | rw[dE] | rw[dN] | rw[dB] | rw[dU] | rw[eP] | rw[d8] | rw[d9] | rw[eN] | (rw[dD];simp only[aa,ac]) | (rw[dA];simp only[aa,ac]));refine⟨hg,?_⟩;rw[3];subst ht6;rw[dJ,d7];(repeat first | rw[dz] | rw[uC] | rw[d5] | rw[dC] | rw[uL] | rw[dE] | rw[dN] | rw[dB] | rw[dU] | rw[eP] | rw[d8] | rw[d9] | rw[eN] | (rw[dD];simp only[aa,ac]) | (rw[dA];simp only[aa,ac]));refine Cu w p1 p2 ?_;rw[3];subst ht7;rw[dJ,d7];(repeat first | rw[dz] | rw[uC] | rw[d5] | rw[dC] | rw[uL] | rw[dE] | rw[dN] | rw[dB] | rw[dU] | rw[eP] | rw[d8] | rw[d9] | rw[eN] | (rw[dD];simp only[aa,ac]) | (rw[dA];simp only[aa,ac]));refine Ay w hm (!1) hr ?_;(repeat first | rw[dz] | rw[uC] | rw[d5] | rw[dC] | rw[uL] | rw[dE] | rw[dN] | rw[dB] | rw[dU] | rw[eP] | rw[d8] | rw[d9] | rw[eN] | (rw[dD];simp only[aa,ac]) | (rw[dA];simp only[aa,ac]));refine tw w (Hb w hr) p1.low p2.low ?_;rw[3];subst ht8;rw[dJ,fw,Gk,eC];(repeat first | rw[dz] | rw[uC] | rw[d5] | rw[dC] | rw[uL] | rw[dE] | rw[dN] | rw[dB] | rw[dU] | rw[eP] | rw[d8] | rw[d9] | rw[eN] | (rw[dD];simp only[aa,ac]) | (rw[dA];simp only[aa,ac]));rw[rF];(repeat first | rw[dz] | rw[uC] | rw[d5] | rw[dC] | rw[uL] | rw[dE] | rw[dN] | rw[dB] | rw[dU] | rw[eP] | rw[d8] | rw[d9] | rw[eN] | (rw[dD];simp only[aa,ac]) | (rw[dA];simp only[aa,ac]));refine⟨Vo,?_⟩;(repeat first | rw[dz] | rw[uC] | rw[d5] | rw[dC] | rw[uL] | rw[dE] | rw[dN] | rw[dB] | rw[dU] | rw[eP] | rw[d8] | rw[d9] | rw[eN] | (rw[dD];simp only[aa,ac]) | (rw[dA];simp only[aa,ac]));rw[rF];(repeat first | rw[dz] | rw[uC] | rw[d5] | rw[dC] | rw[uL] | rw[dE] | rw[dN] | rw[dB] | rw[dU] | rw[eP] | rw[d8] | rw[d9] | rw[eN] | (rw[dD];simp only[aa,ac]) | (rw[dA];simp only[aa,ac]));refine⟨Vo,?_⟩;rw[yV,dB,dR,if_neg (!2),eC];(repeat first | rw[dz] | rw[uC] | rw[d5] | rw[dC] | rw[uL] | rw[dE] | rw[dN] | rw[dB] | rw[dU] | rw[eP] | rw[d8] | rw[d9] | rw[eN] | (rw[dD];simp only[aa,ac]) | (rw[dA];simp only[aa,ac]));rw[rF];(repeat first | rw[dz] | rw[uC] | rw[d5] | rw[dC] | rw[uL] | rw[dE] | rw[dN] | rw[dB] | rw[dU] | rw[eP] | rw[d8] | rw[d9] | rw[eN] | (rw[dD];simp only[aa,ac]) | (rw[dA];simp only[aa,ac]));refine⟨hg,?_⟩;(repeat first | rw[dz] | rw[uC] | rw[d5] | rw[dC] | rw[uL] | rw[dE] | rw[dN] | rw[dB] | rw[dU] | rw[eP] | rw[d8] | rw[d9] | rw[eN] | (rw[dD];simp only[aa,ac]) | (rw[dA];simp only[aa,ac]));rw[yV,dB,dR,if_neg (!2),fq];dsimp only;subst ht9;rw[fw,Gm,eC];(repeat first | rw[dz] | rw[uC] | rw[d5] | rw[dC] | rw[uL] | rw[dE] | rw[dN] | rw[dB] | rw[dU] | rw[eP] | rw[d8] | rw[d9] | rw[eN] | (rw[dD];simp only[aa,ac]) | (rw[dA];simp only[aa,ac]));refine Kz w (!1) hr hk p1.low p2.low (!1) λn' Zh hn7=>?_;rw[dR];simp! [dJ];exact JG _ _ ⟨_,_,_,_,_,_,_,_,rfl,!1,by simp;omega,by simp;omega⟩
 .rintro pre env n ⟨x2,x3,x4,x5,x6,x7,x8,x9,rfl,hn0,Ze,hp⟩
  simp! [dJ]
theorem all_mk {l:W.OpenLaw}{w:World}{K:W.Frag}{h:Heap}{mg:Str->Option ah}{fa:Addr}{XM:Addr}{XN UH:Option Addr}{XO:Array (Option ah)}{XR UK UL UM Ra UN:ah}{Hc:Tok}(X:K.In h)(G:h.Ns bh mg)(AB:mg "law" = some (.ref fa))
  (a57:W.nsIn K bh "law" = some (some (.ref XM)))
  (l57:K.lookup XM=some ⟨XR,XN,.func (W.fnOf "law" "law" (lF (top 57)) (gK (top 57)) (dM (top 57)) .none UK UL UM UH Ra UN),XO⟩)
  (c57:W.codeIn K Ra "law" = true)
  (k57:W.keepIn K (.ref XM)=true)
  (AF0:GH K top [("odd_ones",1),("by_turns",3),("odds_of",4),("price_of",5),("is_odd_for",6),("parts_of",7),("places_of",8),("rest_of",10),("forced_rest",11),("below",13),("turned",14),("turned_told",15),("turned_set",16),("other_end",18),("ways_from",20),("cheapest_step",21),("way_between",22),("heights_from",23),("all_heights",25),("pairing_price",26),("partner_offers",27),("least_pairs",28),("least_join",29),("join_paper",32),("share_rows",33),("join_heights",34),("pools_at",35),("forced_paper",37),("tie_word",39),("extra_price",40)])
  (AF1:GH K top [("tie_paper",42),("slack_of",43),("_law_feed",45),("_law_draw",46),("_law_price",47),("_law_web",48),("_law_odds",49),("_law_cost",50),("_law_told",51),("_law_joins",52),("_law_web_with",53),("_law_slack_due",54),("_law_moved_word",55),("_law_moves_right",56)])
  (g_HALVES:W.nsIn K bh "HALVES" = some (some (.int 2 Hc)))
  (z_abs:W.nsIn K bh "abs" = some none)
  (z_any:W.nsIn K bh "any" = some none)
  (z_enumerate:W.nsIn K bh "enumerate" = some none)
  (z_int:W.nsIn K bh "int" = some none)
  (z_len:W.nsIn K bh "len" = some none)
  (z_list:W.nsIn K bh "list" = some none)
  (z_max:W.nsIn K bh "max" = some none)
  (z_min:W.nsIn K bh "min" = some none)
  (z_range:W.nsIn K bh "range" = some none)
  (z_repr:W.nsIn K bh "repr" = some none)
  (z_set:W.nsIn K bh "set" = some none)
  (z_sorted:W.nsIn K bh "sorted" = some none)
  (z_sum:W.nsIn K bh "sum" = some none)
  (z_tuple:W.nsIn K bh "tuple" = some none)
  (z_zip:W.nsIn K bh "zip" = some none) :
  ∃fd:bE,(∀(s:aA) (v:ah),BindsTo s fd ⟨[v],[]⟩ [("_law_script",v)])/\∀base:Heap,K.In base->base.Ns bh mg->og l.prog w K mg base zt 40 fa fd ["_law_script"] (BE K):=by
 have e:=AB.symm.trans (W.mg_of X G a57);cases e;have F57:=HZ (st:=top 57) l57 c57 k57;obtain⟨a1,a3,a4,a5,a6,a7,a8,a10,a11,a13,a14,a15,a16,a18,a20,a21,a22,a23,a25,a26,Zl,a28,a29,a32,a33,a34,a35,a37,a39,a40,_⟩:=AF0;obtain⟨a42,a43,a45,a46,a47,a48,a49,a50,a51,a52,a53,a54,a55,a56,_⟩:=AF1;refine⟨W.fnOf "law" "law" (lF (top 57)) (gK (top 57)) (dM (top 57)) .none UK UL UM UH Ra UN,λs v=>.of_eq rfl,λbase _ _=>?_⟩;let cl:Str->Addr:=λ_=>0;have ji:∃t,mg "HALVES" = some (.int 2 t):=⟨_,W.mg_of X G g_HALVES⟩;have B:ky mg:=⟨W.mg_none_of X G z_abs,W.mg_none_of X G z_any,W.mg_none_of X G z_enumerate,W.mg_none_of X G z_int,W.mg_none_of X G z_len,W.mg_none_of X G z_list,W.mg_none_of X G z_max,W.mg_none_of X G z_min,W.mg_none_of X G z_range,W.mg_none_of X G z_repr,W.mg_none_of X G z_set,W.mg_none_of X G z_sorted,W.mg_none_of X G z_sum,W.mg_none_of X G z_tuple,W.mg_none_of X G z_zip⟩;obtain⟨_,_,F45,m45⟩:=(a45.m X G).ex;have qI:eD l.prog w K mg base 1 "_law_feed" ["_law_script"] (uJ Af K):=QL F45 m45 B;have qH:qB l.prog w K mg base cl:=DW (a50.m X G) B;obtain⟨_,_,F46,m46⟩:=(a46.m X G).ex;have eA:iT l.prog w K mg base Af:=(QM F46 m46 B).draw.up (!2);have o4:oY l.prog w K mg base cl:=B1 (a52.m X G) B;have nP:qw l.prog w K mg base cl:=DQ (a5.m X G) B;have hU:jQ l.prog w K mg base cl:=xA (a40.m X G) B nP;have qF:qy l.prog w K mg base cl:=DT (a39.m X G) B hU;obtain⟨_,_,F1,m1⟩:=(a1.m X G).ex;have jJ:qu l.prog w K mg base cl:=DO F1 m1 B;have dS:fx l.prog w K mg base cl:=DP (a3.m X G) B jJ;have oZ:oV l.prog w K mg base cl:=BW (a8.m X G) B;have gH:kZ l.prog w K mg base cl:=DR (a7.m X G) B oZ;have qE:qx l.prog w K mg base cl:=DS (a35.m X G) B ji gH;have eV:gZ l.prog w K mg base  := uf (a26.m X G) (Zl.m X G) B dS;have o3:oW l.prog w K mg base cl:=BX (a18.m X G) B;have iP:kl l.prog w K mg base cl:=tY (a21.m X G) B dS o3;have iZ:lT l.prog w K mg base cl:=BY (a20.m X G) B iP;have lj:k8 l.prog w K mg base cl:=vT (a23.m X G) B iZ;have g8:jP l.prog w K mg base cl:=xw (a25.m X G) B lj;have lp:k9 l.prog w K mg base cl:=vU (a34.m X G) B gH eV dS g8;have nL:nH l.prog w K mg base cl:=Ak (a33.m X G) B ji qE lp;have kL:pA l.prog w K mg base cl:=GQ (a4.m X G) B jJ;have pB:uP l.prog w K mg base cl:=MQ (a13.m X G) B;have g9:jO l.prog w K mg base cl:=xu (a15.m X G) B dS kL pB;have mQ:rP l.prog w K mg base cl:=JS (a14.m X G) B;have nM:nD l.prog w K mg base cl:=Ag (a6.m X G) B;have nK:nE l.prog w K mg base cl:=Ah (a16.m X G) B dS pB;have mh:me l.prog w K mg base cl:=xv (a22.m X G) B iZ;have gQ:jH l.prog w K mg base  := sV (Zl.m X G) B dS eV;have mn:mf l.prog w K mg base cl:=xy (a28.m X G) B dS gQ eV g8;have nN:nF l.prog w K mg base cl:=Ai (a29.m X G) B nK dS mh mn g9 mQ;have nO:nG l.prog w K mg base cl:=Aj (a32.m X G) B ji nL g9 mQ gH nM nN;have sU:sS l.prog w K mg base cl:=GR (a10.m X G) B;have mq:ma l.prog w K mg base cl:=xt (a11.m X G) B sU dS kL;have jj:lg l.prog w K mg base cl:=vV (a37.m X G) B dS nO mq;have i5:lU l.prog w K mg base cl:=BZ (a42.m X G) B qF jj;have gf:jI l.prog w K mg base cl:=sX (a55.m X G) B i5;have jk:jh l.prog w K mg base Af:=rS (a56.m X G) B gf eA;have qG:qA l.prog w K mg base cl:=DV (a49.m X G) B;have lV:oX l.prog w K mg base Af:=B0 (a47.m X G) B eA;have kn:km l.prog w K mg base cl:=uj (a54.m X G) B qH;have qK:qC l.prog w K mg base Af:=DX (a51.m X G) B eA qG;have sW:sT l.prog w K mg base Af:=GS (a48.m X G) B eA lV;have lq:lh l.prog w K mg base Af:=vW (a53.m X G) B eA sW;have qJ:qz l.prog w K mg base cl:=DU (a43.m X G) B hU;exact Uo F57 B qI jk kn o4 qJ i5 eA qK lq KC
theorem walk {l:W.OpenLaw}{q:bf}{loose:List Str}{XP:(Str->Option ah)->Heap->Prop}{YP:World->Heap->Prop}{d:DefRec}{K:Params->W.Frag}(hn:l.most=some 63)(Sq:d.params.defaults=[])
  (hY:∀(w:World) (h:Heap),YP w h->(K w.params).In h)
  (F:∀(w:World) (mg:Str->Option ah) (fa:Addr) (h:Heap),(K w.params).In h->h.Ns bh mg->mg d.name=some (.ref fa) ->
   ∃fd:bE,(∀(s:aA) (u:ah),BindsTo s fd ⟨[u],[]⟩ [("_law_script",u)])/\∀base:Heap,(K w.params).In base->base.Ns bh mg->og l.prog w (K w.params) mg base zt 40 fa fd ["_law_script"] (BE (K w.params))) :
  W.WalkO q loose XP YP l.row.toRowW d [] (λf vs=>PySem.call f vs) :=
 L2.LF (n:=63) (k:=40) (x := "_law_script") (CX:=λ_=>zt) (sp:=λw=>BE (K w.params)) hn (!2) Sq ⟨rfl,!2,!2,rfl⟩ hY F (λ_ _ a ns hl _ hS=>⟨a,ns,rfl,hS,hl,λ_=>rfl⟩) λ_ _ _ _ _ z=>z
end Odj
theorem PySem.W.Fast.tw12897953591971717270:True:=⟨⟩
theorem PySem.W.Fast.tw2184606819870139288:True:=⟨⟩
theorem PySem.W.Fast.tw3242884207742579627:True:=⟨⟩
theorem PySem.W.Fast.tw12804012364343906815:True:=⟨⟩
theorem PySem.W.Fast.tw6459621737655478912:True:=⟨⟩
theorem PySem.W.Fast.tw9888713866384176736:True:=⟨⟩
theorem PySem.W.Fast.tw2074353953806120899:True:=⟨⟩
theorem PySem.W.Fast.tw10247898357983161898:True:=⟨⟩
theorem PySem.W.Fast.tw11252673872982228492:True:=⟨⟩
theorem PySem.W.Fast.tw8118053172948245639:True:=⟨⟩
theorem PySem.W.Fast.tw14107874778646234513:True:=⟨⟩
theorem PySem.W.Fast.tw3386702152554505332:True:=⟨⟩
theorem PySem.W.Fast.tw5788454568217404842:True:=⟨⟩
theorem PySem.W.Fast.tw10157737879891530438:True:=⟨⟩
theorem PySem.W.Fast.tw4285480209605218626:True:=⟨⟩
theorem PySem.W.Fast.tw3929667961853055055:True:=⟨⟩
theorem PySem.W.Fast.tw926112903275698623:True:=⟨⟩
theorem PySem.W.Fast.tw4945304129229697925:True:=⟨⟩
theorem PySem.W.Fast.tw18135603930822456021:True:=⟨⟩
theorem PySem.W.Fast.tw5953366237973702367:True:=⟨⟩
theorem PySem.W.Fast.tw12901836675613171075:True:=⟨⟩
theorem PySem.W.Fast.tw3344489204109695962:True:=⟨⟩
theorem PySem.W.Fast.tw16168904065285768166:True:=⟨⟩
theorem PySem.W.Fast.tw4371174656316823383:True:=⟨⟩
theorem PySem.W.Fast.tw9105636045577503247:True:=⟨⟩
theorem PySem.W.Fast.tw6852097529684167066:True:=⟨⟩
theorem PySem.W.Fast.tw14938502150701129246:True:=⟨⟩
theorem PySem.W.Fast.tw4995514909829556666:True:=⟨⟩
theorem PySem.W.Fast.tw18075027550547450069:True:=⟨⟩
theorem PySem.W.Fast.tw9020012681222338355:True:=⟨⟩
theorem PySem.W.Fast.tw16355697298444277935:True:=⟨⟩
theorem PySem.W.Fast.tw14264358685224156455:True:=⟨⟩
theorem PySem.W.Fast.tw2283582329918322769:True:=⟨⟩
theorem PySem.W.Fast.tw2286908780814604682:True:=⟨⟩
theorem PySem.W.Fast.tw7397326508866275801:True:=⟨⟩
theorem PySem.W.Fast.tw14408522514240015414:True:=⟨⟩
theorem PySem.W.Fast.tw16452401439495548727:True:=⟨⟩
theorem PySem.W.Fast.tw2412366277791928749:True:=⟨⟩
theorem PySem.W.Fast.tw1498653894284610713:True:=⟨⟩
theorem PySem.W.Fast.tw1014944450472748058:True:=⟨⟩
theorem PySem.W.Fast.tw7581496718830895934:True:=⟨⟩
theorem PySem.W.Fast.tw3870916168427300924:True:=⟨⟩
theorem PySem.W.Fast.tw3939591994849235473:True:=⟨⟩
theorem PySem.W.Fast.tw8638662552671243946:True:=⟨⟩
theorem PySem.W.Fast.tw4295930309517616873:True:=⟨⟩
theorem PySem.W.Fast.tw6722505843062382321:True:=⟨⟩
theorem PySem.W.Fast.tw1625611928184460983:True:=⟨⟩
theorem PySem.W.Fast.tw11286176263418842648:True:=⟨⟩
theorem PySem.W.Fast.tw1690396515959610162:True:=⟨⟩
theorem PySem.W.Fast.tw14597623627132957798:True:=⟨⟩
theorem PySem.W.Fast.tw7465588333351597939:True:=⟨⟩
theorem PySem.W.Fast.tw18214252407050191089:True:=⟨⟩
theorem PySem.W.Fast.tw15577158251460713372:True:=⟨⟩
theorem PySem.W.Fast.tw12902985160805765078:True:=⟨⟩
theorem PySem.W.Fast.tw5489610749414078009:True:=⟨⟩
theorem PySem.W.Fast.tw4587338108984881838:True:=⟨⟩
theorem PySem.W.Fast.tw12679196336987231371:True:=⟨⟩
theorem PySem.W.Fast.tw1120596781367315900:True:=⟨⟩
theorem PySem.W.Fast.tw16134591544409910907:True:=⟨⟩
theorem PySem.W.Fast.tw10187284388522493660:True:=⟨⟩
theorem PySem.W.Fast.tw7868074926797157469:True:=⟨⟩
theorem PySem.W.Fast.tw16444274842143027738:True:=⟨⟩
theorem PySem.W.Fast.tw12073578870865162554:True:=⟨⟩
theorem PySem.W.Fast.tw14509705996341317209:True:=⟨⟩
theorem PySem.W.Fast.tw12783719843803262093:True:=⟨⟩
theorem PySem.W.Fast.tw1329346895105011323:True:=⟨⟩
theorem PySem.W.Fast.tw6488185877636132833:True:=⟨⟩
theorem PySem.W.Fast.tw250327925058024916:True:=⟨⟩
theorem PySem.W.Fast.tw4224455396550478298:True:=⟨⟩
theorem PySem.W.Fast.tw2893375164476447753:True:=⟨⟩
theorem PySem.W.Fast.tw10447445889526369828:True:=⟨⟩
theorem PySem.W.Fast.tw8701106593621890322:True:=⟨⟩
theorem PySem.W.Fast.tw5628047677640540359:True:=⟨⟩
theorem PySem.W.Fast.tw746801063848147381:True:=⟨⟩
theorem PySem.W.Fast.tw11709519452128635909:True:=⟨⟩
theorem PySem.W.Fast.tw8740348212278993996:True:=⟨⟩
theorem PySem.W.Fast.tw4959907017628178403:True:=⟨⟩
theorem PySem.W.Fast.tw6491964266362606623:True:=⟨⟩
theorem PySem.W.Fast.tw12340414586918334371:True:=⟨⟩
theorem PySem.W.Fast.tw6672297035315093631:True:=⟨⟩
theorem PySem.W.Fast.tw247230113904009581:True:=⟨⟩
theorem PySem.W.Fast.tw11469394487691767990:True:=⟨⟩
theorem PySem.W.Fast.tw7384601507251470349:True:=⟨⟩
theorem PySem.W.Fast.tw18408010247414425972:True:=⟨⟩
theorem PySem.W.Fast.tw17680653559365765798:True:=⟨⟩
theorem PySem.W.Fast.tw15403876831553042485:True:=⟨⟩
theorem PySem.W.Fast.tw852233080601643598:True:=⟨⟩
theorem PySem.W.Fast.tw9396900378064348813:True:=⟨⟩
theorem PySem.W.Fast.tw8705724549969273963:True:=⟨⟩
theorem PySem.W.Fast.tw3114986132872384119:True:=⟨⟩
theorem PySem.W.Fast.tw13259799934115314878:True:=⟨⟩
theorem PySem.W.Fast.tw13242283631358332125:True:=⟨⟩
theorem PySem.W.Fast.tw5316182832941572447:True:=⟨⟩
theorem PySem.W.Fast.tw5540649460784427138:True:=⟨⟩
theorem PySem.W.Fast.tw15675665926308282090:True:=⟨⟩
theorem PySem.W.Fast.tw3937646429227115807:True:=⟨⟩
theorem PySem.W.Fast.tw8177172454511048393:True:=⟨⟩
theorem PySem.W.Fast.tw16385463937898592754:True:=⟨⟩
theorem PySem.W.Fast.tw10114229687267282750:True:=⟨⟩
theorem PySem.W.Fast.tw315508989723670131:True:=⟨⟩
theorem PySem.W.Fast.tw1745359425362743196:True:=⟨⟩
theorem PySem.W.Fast.tw18308171295941911319:True:=⟨⟩
theorem PySem.W.Fast.tw4382733698622221274:True:=⟨⟩
theorem PySem.W.Fast.tw804787057653357076:True:=⟨⟩
theorem PySem.W.Fast.tw674050575760282867:True:=⟨⟩
theorem PySem.W.Fast.tw7950222421106701937:True:=⟨⟩
theorem PySem.W.Fast.tw12583995747663876224:True:=⟨⟩
theorem PySem.W.Fast.tw16426693227199538671:True:=⟨⟩
theorem PySem.W.Fast.tw9742858897571134399:True:=⟨⟩
theorem PySem.W.Fast.tw17052052685640102688:True:=⟨⟩
theorem PySem.W.Fast.tw11392169743781345163:True:=⟨⟩
theorem PySem.W.Fast.tw3901273898787909285:True:=⟨⟩
theorem PySem.W.Fast.tw1832008465846658030:True:=⟨⟩
theorem PySem.W.Fast.tw16894675260851100409:True:=⟨⟩
theorem PySem.W.Fast.tw2412136495952826351:True:=⟨⟩
theorem PySem.W.Fast.tw17327727713891020704:True:=⟨⟩
open PySem PySem.W PyProof.Rows
set_option maxRecDepth 100000 in
set_option maxHeartbeats 0 in
theorem PySem.Challenge.cw_oddjoins_k46_whole_slack_of_a_tie_holds : PySem.Challenge.rw_oddjoins_k46_whole_slack_of_a_tie.Holds := by
 w_on; o_law; k_head; (case hw=>w_witness2)
 k_fill
 refine Odj.walk (l:=PySem.Challenge.rw_oddjoins_k46_whole_slack_of_a_tie) rfl rfl (fun w h Y=>W.kIn_of Y) ?F
 case F =>
  intro w mg fa h KX G Sr
  refine' Odj.all_mk KX G Sr ?a57 ?l57 ?c57 ?k57 ?AF0 ?AF1 ?g_HALVES ?z_abs ?z_any ?z_enumerate ?z_int ?z_len ?z_list ?z_max ?z_min ?z_range ?z_repr ?z_set ?z_sorted ?z_sum ?z_tuple ?z_zip
  (case a57=>k_is); (case l57=>k_is); (case c57=>k_is); (case k57=>k_is)
  (case AF0=>repeat' first | exact L2.BM | (refine L2.Ju ?_ ?_) | (apply L2.NY.of <;> k_is)); (case AF1=>repeat' first | exact L2.BM | (refine L2.Ju ?_ ?_) | (apply L2.NY.of <;> k_is)); (case g_HALVES=>k_is); (case z_abs=>k_is)
  (case z_any=>k_is); (case z_enumerate=>k_is); (case z_int=>k_is); (case z_len=>k_is)
  (case z_list=>k_is); (case z_max=>k_is); (case z_min=>k_is); (case z_range=>k_is)
  (case z_repr=>k_is); (case z_set=>k_is); (case z_sorted=>k_is); (case z_sum=>k_is)
  (case z_tuple=>k_is); (case z_zip=>k_is)
