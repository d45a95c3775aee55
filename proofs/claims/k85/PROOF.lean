import PyProof.Rows.All
import Wide.All
import OpenK.AllK
import Wide.FinOn
import Lean
import PyProof.EqAt
import PyProof.EqKinds
import PyProof.TupleCall
import KE.KTryMore
import KE.KRevIter
import PyProof.CollectIter
import PyProof.P3Eq
import PyProof.MinMaxWalk
import PyProof.StrCalls2
import PyProof.FactsAll.set_2
import KE.KSortTup
import PyProof.Rows.CallKwBuiltin
import PyProof.P3Statements
import PySem.Challenge.RW_oddjoins_k85_halves_told
set_option compiler.extract_closed false
set_option Elab.async false
set_option linter.all false
set_option maxRecDepth 100000
set_option maxHeartbeats 8000000
open List renaming getElem?_cons_zero→aa, getElem?_cons_succ→ac, map_cons→ah, length_map→ai, length_cons→aj, mem_cons_of_mem→am, mem_cons_self→ao, mem_cons→ap, getD_eq_getElem?_getD→ar, mem_singleton→av, nil_append→aw, getElem?_map→az, size_toArray→aB, set_cons_zero→aC, set_cons_succ→aD, mem_filter→aE, replicate_succ→aF, getElem?_eq_some_iff→aG, length_nil→aJ, getElem?_eq_getElem→aL, cons_append→aM, mem_append_right→aN, length_append→aO, replicate_zero→aP, map_append→aU, getElem?_set_ne→aW, map_nil→ba, mem_map→bb, mem_append→bc, map_map→bf, getElem?_eq_none→bi, append_nil→bj, length_set→bn, count_append→bo, not_mem_nil→br, length_singleton→bu, lookup_cons→bv, filter_cons_of_pos→bw, filter_cons_of_neg→bA, mem_of_getElem?→bB, mem_append_left→bC, nodup_cons→bF, find?_cons→bG, length_take→bH, any_cons→bK, append_assoc→bL, nodup_append→bM, take_of_length_le→bN, filterMap_cons→bO, getElem?_append_left→bP, length_filter_le→bQ, getElem_of_mem→bT, getElem?_append_right→bW, pairwise_cons→bX, perm_ext_iff_of_nodup→bY, filter_append→bZ, flatten_cons→b8, map_congr_left→ca, getElem?_replicate→cb, getElem_mem→cc, count_pos_iff→cg, idxOf_lt_length_of_mem→ck, pairwise_iff_getElem→cq, count_cons→cr, getElem?_set_self→cv, take_add_one→cw, pairwise_map→cy, drop_of_length_le→cz, mapM_cons→cA, length_replicate→cB, all_cons→cC, map_drop→cD, lookup→cE, foldl_cons→cF, mem_range→cG, mem_filterMap→cH, drop_eq_getElem_cons→cK, length_range→cL, length_drop→cM, all_eq_true→cN, any_eq_true→cO, filter_cons→cP, countP_cons→cQ, foldl→cS, pairwise_lt_range→cU, filter_nil→cZ
open PySem renaming PyData→ad, wpAny_bind→ae, Value→af, wpAny_pure→ak, Shared→aq, sizeLine→au, wpAny→ay, NameKind→aH, mainGlobals→aS, Program→aV, wpAny_newObj_type→aY, FuncData→bt, wpAny_mono→bD
open PySem.Heap renaming get?_push_of_some→ag, lt_size→ax, get?_push_size→aA, get?_update_other→aI, get?_update_self→be, size_push→bE
open Nat renaming le_refl→al, lt_of_lt_of_le→aK, ne_of_lt→aQ, le_trans→aT, lt_irrefl→bh, zero_le→bU, ne_of_gt→b4, le_succ→b9, lt_succ_of_lt→cj, lt_succ_self→cm, lt_or_ge→cp, lt_of_le_of_lt→cu, le_of_lt→cR, lt_trans→cT, not_lt→cV
open Bool renaming false_ne_true→aR, and_eq_true→aZ, false_eq_true→bR, not_true→bS, eq_iff_iff→cW
open Int renaming toNat_natCast→aX, emod_lt_of_pos→cJ, emod_nonneg→cY
open Option renaming map_some→bg, isSome_iff_exists→bJ, bind_some→bV, map_eq_some_iff→ce
open Array renaming getElem?_toList→bp, length_toList→bq, getElem?_eq_none→cf, getElem?_eq_some_iff→cI
set_option hygiene false
local macro_rules |`(tactic|rw[$n:num])=>match n.getNat with
|3=>`(tactic|(intro _;rfl))
|999=>`(tactic|(intro _ _ _ _ _ _ us hl;first | (obtain⟨_,rfl⟩:=Dx hl;rfl) | (obtain⟨_,_,rfl⟩:=GH hl;rfl) | (obtain⟨_,_,_,rfl⟩:=NF hl;rfl) | (obtain⟨_,_,_,_,rfl⟩:=len4 hl;rfl) | (obtain⟨_,_,_,_,_,rfl⟩:=len5 hl;rfl) | (obtain⟨_,_,_,_,_,_,rfl⟩:=len6 hl;rfl) | (cases us<;>first | rfl | cases hl)))
|_=>Lean.Macro.throwUnsupported
local macro_rules |`(!$n:num)=>match n.getNat with
|1=>`(by omega)
|2=>`(by decide)
|3=>`(by decide +kernel)
|4=>`(by simp)
|_=>Lean.Macro.throwUnsupported
noncomputable section
namespace L2
open PySem PySem.Spec PyProof.Rows
abbrev Key:=Sum Int Str
noncomputable def rT:Key->af->Bool
 | .inl k,v=>af.isInt k v
 | .inr x,v=>af.isStrOf x v
noncomputable def Sq (w:World):Key->Int
 | .inl k=>hashInt k
 | .inr x=>hashStr w x
theorem fi:∀{k:Key} {v:af},rT k v=true->(∃i t,k=Sum.inl i/\v=af.int i t)\/(∃x t,k=Sum.inr x/\v=af.str x t)
 | .inl i,v,h=>by
  obtain⟨t,e⟩:=af.isInt_shape (k:=i) (v:=v) h;exact .inl ⟨i,t,rfl,e⟩
 | .inr x,v,h=>by
  obtain⟨t,e⟩:=af.isStrOf_shape (x:=x) (v:=v) h;exact .inr ⟨x,t,rfl,e⟩
theorem Cy (i:Int)(t:Tok):rT (.inl i) (.int i t)=true:=by simp[rT,af.isInt]
theorem Cz (x:Str)(t:Tok):rT (.inr x) (.str x t)=true:=by simp[rT,af.isStrOf]
theorem Lw (a b:Int):decide ((Sum.inl a:Key)=Sum.inl b)=(a == b):=by
 by_cases e:a=b
 .subst e;simp
 .have h:¬ (Sum.inl a:Key)=Sum.inl b:=λq=>e (Sum.inl.inj q)
  rw[decide_eq_false h];exact (beq_eq_false_iff_ne.mpr e).symm
theorem Lx (a b:Str):decide ((Sum.inr a:Key)=Sum.inr b)=decide (a=b):=by
 by_cases e:a=b
 .subst e;simp
 .have h:¬ (Sum.inr a:Key)=Sum.inr b:=λq=>e (Sum.inr.inj q)
  rw[decide_eq_false h,decide_eq_false e]
theorem Ly (a:Int)(b:Str):decide ((Sum.inl a:Key)=Sum.inr b)=false:=decide_eq_false (λq=>nomatch q)
theorem Lz (a:Str)(b:Int):decide ((Sum.inr a:Key)=Sum.inl b)=false:=decide_eq_false (λq=>nomatch q)
noncomputable def eW (prog:aV)(w:World):PySem.KeyKind prog w Key where
 is:=rT
 hash:=Sq w
 inj:=λv a b ha hb=>by
  rcases fi ha with⟨i,t,rfl,rfl⟩ | ⟨x,t,rfl,rfl⟩
  .rcases fi hb with⟨j,u,rfl,e⟩ | ⟨y,u,rfl,e⟩
   .injection e with e1 _;rw[e1]
   .exact nomatch e
  .rcases fi hb with⟨j,u,rfl,e⟩ | ⟨y,u,rfl,e⟩
   .exact nomatch e
   .injection e with e1 _;rw[e1]
 byValue:=λk v h=>by
  rcases fi h with⟨i,t,rfl,rfl⟩ | ⟨x,t,rfl,rfl⟩<;>rfl
 pyHash:=λhv h=>by
  rcases fi hv with⟨i,t,rfl,rfl⟩ | ⟨x,t,rfl,rfl⟩
  .exact wpAny_pyHash_int h
  .exact wpAny_pyHash_str h
 eqBool:=λhu hv h=>by
  rcases fi hu with⟨i,t,rfl,rfl⟩ | ⟨x,t,rfl,rfl⟩
  .rcases fi hv with⟨j,u,rfl,rfl⟩ | ⟨y,u,rfl,rfl⟩
   .rw[Lw] at h;exact wpAny_eqBool_int h
   .rw[Ly] at h;exact SeqAt.EqAt.int_str i t y u _ _ _ _ h
  .rcases fi hv with⟨j,u,rfl,rfl⟩ | ⟨y,u,rfl,rfl⟩
   .rw[Lz] at h;exact SeqAt.EqAt.str_int x t j u _ _ _ _ h
   .rw[Lx] at h;exact wpAny_eqBool_str h
 «strs»:=λk x t v h=>by
  rcases fi h with⟨i,u,rfl,e⟩ | ⟨y,u,rfl,e⟩
  .exact nomatch e
  .injection e with e1 _
   subst e1;cases v<;>rfl
theorem xD (prog:aV)(w:World)(i:Int)(t:Tok):(eW prog w).is (.inl i) (.int i t)=true:=Cy i t
theorem xE (prog:aV)(w:World)(x:Str)(t:Tok):(eW prog w).is (.inr x) (.str x t)=true:=Cz x t
inductive V where
 | h8 | bl (b:Bool) | int (i:Int) | str (x:Str) | ED (b:Array UInt8) | Ob (b:UInt64) | ref (a:Addr) | ty (n:String)
 deriving DecidableEq
noncomputable def RelV:V->af->Prop
 | .h8,u=>u=af.none
 | .bl b,u=>u=af.bool b
 | .int i,u=>∃t,u=af.int i t
 | .str x,u=>∃t,u=af.str x t
 | .ED b,u=>∃t,u=af.bytes b t
 | .Ob b,u=>∃t,u=af.float b t
 | .ref a,u=>u=af.ref a
 | .ty n,u=>u=af.type n
abbrev dO:List V->List af->Prop:=Paired RelV
theorem dO.length (r:dO xs us):xs.length=us.length:=Paired.length r
theorem dO.get:∀{xs:List V} {us:List af} {i:Nat} {x:V},dO xs us->xs[i]? = some x->∃u,us[i]? = some u/\RelV x u
 | _,_,_,_,.nil,e=>by simp at e
 | _,_,0,_,.cons r _,e=>by simp at e;subst e;exact⟨_,rfl,r⟩
 | _,_,i+1,x,.cons _ t,e=>by
  obtain⟨u,h1,h2⟩:=dO.get (i:=i) (x:=x) t (by simpa using e);exact⟨u,by simpa using h1,h2⟩
theorem dO.append:∀{xs ys:List V} {us ws:List af},dO xs us->dO ys ws->dO (xs++ys) (us++ws)
 | _,_,_,_,.nil,s=>s
 | _,_,_,_,.cons r t,s=>.cons r (dO.append t s)
theorem dO.take:∀{xs:List V} {us:List af} (n:Nat),dO xs us->dO (xs.take n) (us.take n)
 | _,_,0,_=>.nil
 | _,_,_+1,.nil=>.nil
 | _,_,n+1,.cons r t=>.cons r (dO.take n t)
theorem dO.drop:∀{xs:List V} {us:List af} (n:Nat),dO xs us->dO (xs.drop n) (us.drop n)
 | _,_,0,r=>r
 | _,_,_+1,.nil=>.nil
 | _,_,n+1,.cons _ t=>dO.drop n t
noncomputable def oh:Option V->Option af->Prop
 | some v,some u=>RelV v u
 | none,none=>True
 | _,_=>False
noncomputable def KV {κ:Type}:List (κ × V)->List (κ × af)->Prop:=Paired λ(p:κ × V) (q:κ × af)=>p.1=q.1/\RelV p.2 q.2
noncomputable def kV:Key->V
 | .inl i=>.int i
 | .inr x=>.str x
inductive HO where
 | lst (xs:List V)
 | tup (xs:List V)
 | dK (kvs:List (Key × V)) | dT (kvs:List (List Key × V))
 | set (S:Int->Bool) (n:Nat)
 | ins (C dx:Addr) (fs:List (Str × V))
 | own (x:Addr)
 | xd (fs:List (Str × V))
 | met (f x:Addr)
 | EE (lo hi:Int)
 | rV (o:Obj) (u:HO)
 | LA (ps:Array af)
 | ext (φ:Heap->Prop)
abbrev Hp:=Addr->Option HO
noncomputable def d0 (H:Hp)(a:Addr)(o:HO):Hp:=λb=>if b=a then some o else H b
theorem dg:d0 H a o a=some o:=by unfold d0;rw[if_pos rfl]
theorem du (h:b≠a):d0 H a o b=H b:=by unfold d0;rw[if_neg h]
theorem OG {H:Hp}{a b:Addr}{o u:HO}(h:H a=some o)(h':H b=some u)(d:o≠u):a≠b:=by
 intro e;subst e;rw[h] at h';exact d (Option.some.inj h')
theorem dN {H:Hp}{a b:Addr}{o:HO}(h:H a=some o)(h':H b=none):a≠b:=by
 intro e;subst e;rw[h] at h';cases h'
section
variable (P:aV)(w:World)
noncomputable def uy (h:Heap)(a:Addr)(items:Array af):Prop:=∃o,h.get? a=some o/\o.cls=.type "tuple" /\ ∃n,o.data=.seq items n/\o.dict=none
omit P w in
theorem uy.tup (p:uy h a items):IsTup h a items:=let ⟨o,e,c,n,d,_⟩:=p;⟨o,e,c,n,d⟩
omit P w in
theorem uy.new (h:Heap)(items:Array af):uy (h.push { cls:=.type "tuple",data:=.seq items }) h.objs.size items:=⟨_,aA _ rfl,rfl,_,rfl,rfl⟩
noncomputable def eQ (H:Hp)(h:Heap)(a:Addr):HO->Prop
 | .lst xs=>xs.length<=au/\∃(its:List af) (n:Nat),dO xs its/\h.get? a=some { cls:=.type "list",data:=.seq its.toArray n }
 | .tup xs=>xs.length<=au/\∃its:List af,dO xs its/\uy h a its.toArray
 | .dK kvs=>kvs.length<=au/\(a == sysModules)=false/\∃vs,KV kvs vs/\h.DictOf (eW P w) a vs
 | .dT kvs=>kvs.length<=au/\(a == sysModules)=false/\∃xs:List (List Key × Addr × af),
   Paired (λ(p:List Key × V) (q:List Key × Addr × af)=>p.1=q.1/\H q.2.1=some (.tup (p.1.map kV))/\RelV p.2 q.2.2) kvs xs /\
   ∃o es ep,h.get? a=some o/\o.ExactDict/\o.data=.dict es ep/\es.toList=xs.map (entryOfKey (tupleKind (eW P w)))/\(xs.map (·.1)).Nodup
 | .set S n=>h.SetOf (intKind P w) a S n
 | .ins C dx fs=>H dx=some (.own a)/\fs.length<=1000/\dx≠a/\h.get? a=some (W.instObj C dx) /\
   ∃mA,h.Ns1 dx mA/\(∀f,oh (fs.lookup f) (mA f))/\PySem.Within mA (fs.map (·.1))
 | .own _=>∃o,h.get? a=some o
 | .xd fs=>∃mA,h.Ns1 a mA/\∀f,oh (fs.lookup f) (mA f)
 | .EE lo hi=>∃t u v,h.get? a=some { cls:=.type "range",data:=.fields #[.int lo t,.int hi u,.int 1 v] }
 | .rV o u=>h.get? a=some o/\eQ H h a u
 | .LA ps=>h.get? a=some { cls:=.none,data:=.fields ps }
 | .met f x=>h.get? a=some (W.methodObj (.ref f) (.ref x))
 | .ext φ=>φ h/\(∃o,h.get? a=some o)/\∀h1 h2:Heap,φ h1->(∀o,h1.get? a=some o->h2.get? a=some o)->φ h2
noncomputable def ka (H:Hp)(h:Heap):Prop:=∀a o,H a=some o->eQ P w H h a o
end
section
variable {P:aV}{w:World}{H H':Hp}{h h':Heap}{a:Addr}{o:HO}
theorem eQ.lt (x:eQ P w H h a o):a<h.objs.size:=by
 cases o with
 | lst xs=>obtain⟨_,_,_,_,e⟩:=x;exact ax e
 | tup xs=>obtain⟨_,_,_,p⟩:=x;exact p.tup.lt
 | dK kvs=>obtain⟨_,_,_,_,o,_,_,e,_⟩:=x;exact ax e
 | dT kvs=>obtain⟨_,_,_,_,o,_,_,e,_⟩:=x;exact ax e
 | set S n=>obtain⟨o,_,_,_,e,_⟩:=x;exact ax e
 | ins C dx fs=>obtain⟨_,_,_,e,_⟩:=x;exact ax e
 | own y=>obtain⟨_,e⟩:=x;exact ax e
 | xd fs=>obtain⟨_,⟨_,_,_,e,_⟩,_⟩:=x;exact ax e
 | EE lo hi=>obtain⟨_,_,_,e⟩:=x;exact ax e
 | rV ob u=>obtain⟨e,_⟩:=x;exact ax e
 | LA ps=>exact ax (show h.get? a=some _ from x)
 | met f y=>exact ax (show h.get? a=some _ from x)
 | ext φ=>obtain⟨_,⟨_,e⟩,_⟩:=x;exact ax e
theorem Paired.LB {α β:Type}{F G:α->β->Prop}:∀{l₁:List α} {l₂:List β},Paired F l₁ l₂->(∀a b,F a b->G a b)->Paired G l₁ l₂
 | _,_,.nil,_=>.nil
 | _,_,.cons r t,f=>.cons (f _ _ r) (Paired.LB t f)
theorem eQ.zL (x:eQ P w H h a o)(k:∀b u,(b=a\/H b=some (.own a))->h.get? b=some u->h'.get? b=some u)
  (ho:∀b,H b=some (.own a)->H' b=some (.own a)) (ht:∀b xs,H b=some (.tup xs)->H' b=some (.tup xs)):eQ P w H' h' a o:=by
 induction o with
 | lst xs=>obtain⟨z,its,n,r,e⟩:=x;exact⟨z,its,n,r,k _ _ (.inl rfl) e⟩
 | tup xs=>obtain⟨z,its,r,ob,e,c⟩:=x;exact⟨z,its,r,ob,k _ _ (.inl rfl) e,c⟩
 | dK kvs=>obtain⟨z,y,vs,r,ob,es,ep,e,c⟩:=x;exact⟨z,y,vs,r,ob,es,ep,k _ _ (.inl rfl) e,c⟩
 | dT kvs =>
  obtain⟨z,y,xs,r,ob,es,ep,e,c⟩:=x;exact⟨z,y,xs,Paired.LB r λp q z=>⟨z.1,ht _ _ z.2.1,z.2.2⟩,ob,es,ep,k _ _ (.inl rfl) e,c⟩
 | set S n=>obtain⟨ob,es,ep,t,e,c⟩:=x;exact⟨ob,es,ep,t,k _ _ (.inl rfl) e,c⟩
 | ins C dx fs =>
  obtain⟨d,z,ne,e,mA,⟨od,es,ep,e2,c⟩,r⟩:=x;exact⟨ho _ d,z,ne,k _ _ (.inl rfl) e,mA,⟨od,es,ep,k _ _ (.inr d) e2,c⟩,r⟩
 | own y=>obtain⟨ob,e⟩:=x;exact⟨ob,k _ _ (.inl rfl) e⟩
 | xd fs=>obtain⟨mA,⟨od,es,ep,e,c⟩,r⟩:=x;exact⟨mA,⟨od,es,ep,k _ _ (.inl rfl) e,c⟩,r⟩
 | EE lo hi=>obtain⟨t,u,v,e⟩:=x;exact⟨t,u,v,k _ _ (.inl rfl) e⟩
 | rV ob u ih=>obtain⟨e,q⟩:=x;exact⟨k _ _ (.inl rfl) e,ih q⟩
 | LA ps =>
  have e:h.get? a=some { cls:=.none,data:=.fields ps }:=x;show h'.get? a=some { cls:=.none,data:=.fields ps };exact k a _ (.inl rfl) e
 | met f y =>
  have e:h.get? a=some (W.methodObj (.ref f) (.ref y)):=x;show h'.get? a=some (W.methodObj (.ref f) (.ref y));exact k a _ (.inl rfl) e
 | ext φ=>obtain⟨p,⟨o,e⟩,st⟩:=x;exact⟨st _ _ p λo q=>k _ _ (.inl rfl) q,⟨o,k _ _ (.inl rfl) e⟩,st⟩
theorem ka.lt (x:ka P w H h)(e:H a=some o):a<h.objs.size:=(x a o e).lt
theorem ka.fresh (x:ka P w H h)(e:h.objs.size<=a):H a=none:=by
 cases q:H a with
 | none=>rfl
 | some u=>exact absurd (aK (x.lt q) e) (bh _)
theorem ka.kept (x:ka P w H h)(k:∀b u,h.get? b=some u->h'.get? b=some u):ka P w H h':=λa o e =>
 (x a o e).zL (λb u _ q=>k b u q) (λ_ q=>q) λ_ _ q=>q
theorem ka.laid (x:ka P w H h)(k:∀b u,h.get? b=some u->h'.get? b=some u)(hp:h.objs.size<=a)(new:eQ P w (d0 H a o) h' a o):ka P w (d0 H a o) h':=λb u e=>by
 have hn:=x.fresh hp;by_cases hb:b=a
 .subst hb;rw[dg] at e;cases e;exact new
 .rw[du hb] at e
  exact (x b u e).zL (λc v _ q=>k c v q) (λc q=>by rw[du (dN q hn)];exact q) λc xs q=>by rw[du (dN q hn)];exact q
end
noncomputable def Rd (H:Hp)(a:Addr)(u:HO):Prop:=H a=some u\/∃o,H a=some (.rV o u)
theorem Rd.ok (r:Rd H a u)(x:ka P w H h):eQ P w H h a u:=by
 rcases r with r | ⟨o,r⟩
 .exact x a u r
 .obtain⟨_,q⟩:=x a _ r
  exact q
def OH:Option HO->Prop
 | some (.lst _)=>True
 | some (.dK _)=>True
 | some (.dT _)=>True
 | some (.set _ _)=>True
 | some (.ins _ _ _)=>True
 | some (.ext _)=>True
 | _=>False
section
theorem ka.write (ok:ka P w H h)(mu:OH (H x))(he:e=x\/H e=some (.own x))(k:∀b u,b≠e->h.get? b=some u->h'.get? b=some u)(Oc:∃u,h'.get? e=some u)
  (new:eQ P w (d0 H x o') h' x o'):ka P w (d0 H x o') h':=λb u q=>by
 have OI:∀c y,H c=some (.own y)->c≠x:=λc y r z=>by subst z;rw[r] at mu;exact mu
 have Sr:∀c xs,H c=some (.tup xs)->c≠x:=λc xs r z=>by subst z;rw[r] at mu;exact mu
 by_cases hb:b=x
 .subst hb;rw[dg] at q;cases q;exact new
 .rw[du hb] at q
  by_cases LC:b=e
  .have q':H b=some (.own x):=by
    rcases he with z | z
    .exact absurd (LC.trans z) hb
    .rw[LC];exact z
   rw[q] at q';cases q';obtain⟨v,hv⟩:=Oc;exact⟨v,by rw[LC];exact hv⟩
  .refine (ok b u q).zL (λc v hc r=>k c v ?_ r) (λc r=>by rw[du (OI c b r)];exact r) λc xs r=>by rw[du (Sr c xs r)];exact r
   rcases hc with rfl | hc
   .exact LC
   .rintro rfl
    rcases he with z | z
    .exact OI c b hc z
    .rw[hc] at z;cases z;exact hb rfl
end
structure Un (fs ex:List Addr) (H H':Hp) (h h':Heap):Prop where
 keep:∀b o,h.get? b=some o->H b=none->b ∉ fs->b ∉ ex->h'.get? b=some o
 slot:∀b o,h.get? b=some o->H b=none->b∈fs->b ∉ ex->∃sl,h'.get? b=some { o with slots:=sl }
 free:∀b o,h.get? b=some o->H b=none->b ∉ ex->H' b=none
 there:∀b o,h.get? b=some o->b ∉ ex->∃o',h'.get? b=some o'
 wk:∀b xs,H b=some (.tup xs)->H' b=some (.tup xs)
 uz:∀b o u,H b=some (.rV o u)->H' b=some (.rV o u)
 wm:∀b ps,H b=some (.LA ps)->∃more,H' b=some (.LA (ps++more))
section
variable {fs ZP ex ZQ:List Addr}{H H1 H2:Hp}{h h1 h2 h':Heap}{a x e:Addr}{o:HO}
theorem Un.any (u:Un fs ex H H1 h h1)(q:h.get? b=some ob)(n:H b=none)(hx:b ∉ ex):∃sl,h1.get? b=some { ob with slots:=sl }:=by
 by_cases hb:b∈fs
 .exact u.slot b ob q n hb hx
 .exact⟨ob.slots,u.keep b ob q n hb hx⟩
theorem Un.kept (k:∀b u,h.get? b=some u->h'.get? b=some u):Un fs ex H H h h' :=
 ⟨λb ob q _ _ _=>k b ob q,λb ob q _ _ _=>⟨ob.slots,k b ob q⟩,λ_ _ _ n _=>n,λb ob q _=>⟨ob,k b ob q⟩,λ_ _ q=>q,λ_ _ _ q=>q,λ_ ps q=>⟨#[],by rw[q];simp⟩⟩
theorem Un.refl:Un fs ex H H h h:=Un.kept λ_ _ q=>q
theorem Un.laid (k:∀b u,h.get? b=some u->h'.get? b=some u)(hp:h.objs.size<=a)(hn:H a=none):Un fs ex H (d0 H a o) h h' where
 keep:=λb u q _ _ _=>k b u q
 slot:=λb u q _ _ _=>⟨u.slots,k b u q⟩
 free:=λb u q n _=>by rw[du (aQ (aK (ax q) hp))];exact n
 there:=λb u q _=>⟨u,k b u q⟩
 wk:=λb xs q=>by rw[du (dN q hn)];exact q
 uz:=λb u xs q=>by rw[du (dN q hn)];exact q
 wm:=λb ps q=>⟨#[],by rw[du (dN q hn),q];simp⟩
theorem Un.write (mu:OH (H x))(he:e=x\/H e=some (.own x))(k:∀b u,b≠e->h.get? b=some u->h'.get? b=some u)(Oc:∃u,h'.get? e=some u):Un fs ex H (d0 H x o) h h':=by
 have hx:∀b,H b=none->b≠x:=λb n z=>by subst z;rw[n] at mu;exact mu
 have hb:∀b,H b=none->b≠e:=λb n z=>by
  subst z;rcases he with r | r
  .exact hx b n r
  .rw[n] at r;cases r
 have hm:∀b u,H b=some u->¬ OH (some u)->b≠x:=λb u q nm z=>by subst z;rw[q] at mu;exact nm mu
 refine⟨λb u q n _ _=>k b u (hb b n) q,λb u q n _ _=>⟨u.slots,k b u (hb b n) q⟩,λb u q n _=>by rw[du (hx b n)];exact n,λb u q _=>?_,
  λb xs q=>by rw[du (hm b _ q λz=>z)];exact q,λb u xs q=>by rw[du (hm b _ q λz=>z)];exact q,λb ps q=>⟨#[],by rw[du (hm b _ q λz=>z),q];simp⟩⟩
 by_cases LC:b=e
 .subst LC;exact Oc
 .exact⟨u,k b u LC q⟩
end
noncomputable def RS (h:Heap)(H:Hp):List Addr:=(List.range h.objs.size).filter λa=>(H a).isSome
def wo (h:Heap)(H:Hp):Heap:=W.hideAll h (RS h H)
theorem CA (h:Heap)(H:Hp):(wo h H).objs.size=h.objs.size:=W.hideAll_size _ _
theorem EF (e:h.get? b=some o)(n:H b=none):(wo h H).get? b=some o :=
 W.hideAll_get _ e λhm=>by
  have q:(H b).isSome=true:=(aE.mp hm).2;rw[n] at q;simp at q
theorem HR (e:(wo h H).get? b=some o):h.get? b=some o/\H b=none:=by
 have e':h.get? b=some o:=W.of_hideAll (RS h H) e;refine⟨e',?_⟩
 cases q:H b with
 | none=>rfl
 | some x =>
  have hm:b∈RS h H:=aE.mpr ⟨cG.mpr (ax e'),by simp[q]⟩;have z:(wo h H).get? b=none:=W.hideAll_none (RS h H) hm;rw[z] at e;cases e
structure Mod (K:W.Frag) (mg:Str->Option af) (base:Heap):Prop where
 OJ:K.In base
 glob:base.Ns aS mg
 blt:∃mb,base.Ns builtinsNs mb/\∀x:Str,x ≠ "__name__" -> mb x=bootBuiltins x
 nolimit:base.NoLimit
structure Cx where
 prog:aV
 w:World
 K:W.Frag
 mg:Str->Option af
 base:Heap
 A:Around
 N:List Str
 s₀:aq
 H₀:Hp
 env:Env
 outer:List Env
 stack:List Env
 ex:List Addr
 fn:Str->Bool
 calm:Bool
 pn:List (Addr × Obj)
 xe:af->aq->Prop
noncomputable def nk (l:List Env):List Addr:=l.filterMap (·.frame)
abbrev Cx.fs (X:Cx):List Addr:=nk X.outer
def Bq (sc:Scope)(x:Str):Prop:=sc.names.lookup x=some .local\/sc.names.lookup x=some .cell\/sc.names.lookup x=some .free
def Loc (sc:Scope)(x:Str):Prop:=sc.names.lookup x=some .local\/sc.names.lookup x=some .cell
def Look (env:Env)(h:Heap)(m:Str->Option af)(x:Str)(u:af):Prop :=
 (env.kindOf x=some .local/\m x=some u)\/((env.kindOf x=some .cell\/env.kindOf x=some .free)/\∃c,env.cells.lookup x=some c/\h.IsCell c (some u))
structure Cx.Ok (X:Cx):Prop where
 mod:Mod X.K X.mg X.base
 kind:X.env.scope.kind=.function
 glob:X.env.globals=aS
 blt:X.env.builtins=builtinsNs
 above:X.s₀.heap.objs.size<=X.env.locals
 inj:∀x y c,X.env.cells.lookup x=some c->X.env.cells.lookup y=some c->x=y
 has:∀x,(X.env.kindOf x=some .cell\/X.env.kindOf x=some .free)->∃c,X.env.cells.lookup x=some c
 Od:∀x c,X.fn x=true->X.env.cells.lookup x=some c->X.s₀.heap.objs.size<=c
 hd:X.calm=true->X.A.handled=none
 frames:X.A.frames=some X.stack
 OK:X.stack=X.outer\/(X.stack=X.env::X.outer/\X.env.frame=some X.env.locals)
 Ss:∀b∈X.ex,b≠X.env.locals/\∀x c,X.env.cells.lookup x=some c->c≠b
 bs:∀b o,X.base.get? b=some o->X.s₀.heap.get? b=some o/\X.H₀ b=none
 HS:X.base.objs.size<=X.s₀.heap.objs.size
 CB:∀b o,X.base.get? b=some o->b ∉ X.ex
 EG:∀b∈X.ex,b ∉ X.fs
 pI:X.s₀.heap.FunFrames X.base X.outer
 Kc:∀b∈X.fs,X.H₀ b=none
structure Inv (X:Cx) (pins:List (Addr × Obj)) (σ:List (Option V)) (H:Hp) (s:aq):Prop where
 ok:X.Ok
 os:s.os=X.s₀.os
 bare:AllBare s.gens
 base:Un X.fs X.ex X.H₀ H X.s₀.heap s.heap
 loc:∃m,s.heap.Ns X.env.locals m/\∀(i:Nat) (x:Str) (v:V),X.N[i]? = some x->σ[i]? = some (some v)->Bq X.env.scope x->∃u,RelV v u/\Look X.env s.heap m x u
 cell:∀x c,X.env.cells.lookup x=some c->∃v,s.heap.IsCell c v
 free:H X.env.locals=none
 freeC:∀x c,X.env.cells.lookup x=some c->H c=none
 pin:∀p∈X.pn++pins,s.heap.get? p.1=some p.2/\H p.1=none/\p.1≠X.env.locals/\p.1 ∉ X.fs/\∀v,p.2.data≠.cell v
 hok:ka X.prog X.w H s.heap
 len:σ.length=X.N.length
section
variable {X:Cx}{pins:List (Addr × Obj)}{σ:List (Option V)}{H H':Hp}{s:aq}{h':Heap}
theorem Cx.Ok.Su (ok:X.Ok){b:Addr}{o:Obj}(e:X.base.get? b=some o):b ∉ X.fs:=λhb=>by
 have:=(ok.pI.mem hb).1;rw[e] at this;cases this
theorem Inv.bs (I:Inv X pins σ H s):∀b o,X.base.get? b=some o->s.heap.get? b=some o/\H b=none:=λb o e =>
 ⟨I.base.keep b o (I.ok.bs b o e).1 (I.ok.bs b o e).2 (I.ok.Su e) (I.ok.CB b o e),I.base.free b o (I.ok.bs b o e).1 (I.ok.bs b o e).2 (I.ok.CB b o e)⟩
theorem Inv.bk (I:Inv X pins σ H s):∀b o,X.base.get? b=some o->s.heap.get? b=some o:=λb o e=>(I.bs b o e).1
theorem Inv.mod (I:Inv X pins σ H s):Mod X.K X.mg X.base:=I.ok.mod
theorem Inv.pJ (I:Inv X pins σ H s):X.K.In s.heap:=I.ok.mod.OJ.keeps I.bk
theorem Inv.lt (I:Inv X pins σ H s):X.env.locals<s.heap.objs.size:=let ⟨_,hn,_⟩:=I.loc;hn.lt
theorem Inv.sz (I:Inv X pins σ H s):X.s₀.heap.objs.size<=s.heap.objs.size:=aT I.ok.above (cR I.lt)
theorem Inv.OL (I:Inv X pins σ H s)(h:s.heap.objs.size<=a):a ∉ X.fs:=λhb=>by
 obtain⟨_,o,ho,_⟩:=I.ok.pI.mem hb;exact absurd (aK (ax ho) (aT I.sz h)) (bh _)
theorem Inv.LD (I:Inv X pins σ H s):∀x c,X.env.cells.lookup x=some c->c≠X.env.locals:=λx c e z=>by
 obtain⟨v,o,ho,hd⟩:=I.cell x c e;obtain⟨m,⟨o',es,ep,Hy,Es,_⟩,_⟩:=I.loc;rw[z,Hy] at ho;cases ho;rw[Es] at hd;cases hd
theorem Inv.pI (I:Inv X pins σ H s):s.heap.FunFrames X.base X.outer:=by
 have all:∀(l:List Env),(∀b∈nk l,b∈X.fs)->X.s₀.heap.FunFrames X.base l->s.heap.FunFrames X.base l:=by
  intro l
  induction l with
  | nil=>intro _ _;trivial
  | cons env r ih =>
   intro hs hl;obtain⟨hk,⟨L,o,hf,hn,ho,hd⟩,hr⟩:=hl;have hL:L∈X.fs:=hs L (by unfold nk;rw[bO,hf];exact ao);obtain⟨sl,e⟩:=I.base.slot L o ho (I.ok.Kc L hL) hL λz=>I.ok.EG L z hL;exact⟨hk,⟨L,_,hf,hn,e,hd⟩,ih (λb hb=>hs b (by unfold nk;rw[bO,hf];exact am _ hb)) hr⟩
 exact all X.outer (λ_ hb=>hb) I.ok.pI
theorem Inv.stack (I:Inv X pins σ H s):s.heap.FunFrames X.base X.stack:=by
 rcases I.ok.OK with e | ⟨e,hf⟩
 .rw[e];exact I.pI
 .rw[e]
  obtain⟨m,hn,_⟩:=I.loc;refine .cons (by rw[I.ok.kind];decide) hf hn ?_ I.pI;exact Heap.get?_none_of_le (aT I.ok.HS I.ok.above)
theorem Inv.rW (I:Inv X pins σ H s):∀b∈nk X.stack,b∈X.env.locals::X.fs:=λb hb=>by
 rcases I.ok.OK with e | ⟨e,hf⟩
 .rw[e] at hb;exact am _ hb
 .rw[e] at hb
  unfold nk at hb;rw[bO,hf] at hb;exact hb
theorem Inv.rE (I:Inv X pins σ H s):∀b∈nk X.stack,H b=none:=λb hb=>by
 rcases ap.mp (I.rW b hb) with e | hb
 .rw[e];exact I.free
 .obtain⟨_,o,ho,_⟩:=I.ok.pI.mem hb
  exact I.base.free b o ho (I.ok.Kc b hb) λz=>I.ok.EG b z hb
theorem Inv.step {g':Array GenState}{t':Nat}{d':Drawn}{ch:List Addr}(I:Inv X pins σ H s)
  (Hz:∀b∈ch,(b∈X.ex\/X.s₀.heap.objs.size<=b)/\b≠X.env.locals/\(∀x c,X.env.cells.lookup x=some c->c≠b)/\∀p∈X.pn++pins,p.1≠b)
  (keep:∀b o,b≠X.env.locals->b ∉ X.fs->b ∉ ch->s.heap.get? b=some o->H b=none->h'.get? b=some o)
  (slot:∀b o,b≠X.env.locals->b∈X.fs->b ∉ ch->s.heap.get? b=some o->H b=none->∃sl,h'.get? b=some { o with slots:=sl }) (free:∀b o,b ∉ ch->s.heap.get? b=some o->H b=none->H' b=none)
  (there:∀b o,b ∉ ch->s.heap.get? b=some o->∃o',h'.get? b=some o')
  (wk:∀b xs,H b=some (.tup xs)->H' b=some (.tup xs)) (uz:∀b o u,H b=some (.rV o u)->H' b=some (.rV o u)) (wm:∀b ps,H b=some (.LA ps)->∃more,H' b=some (.LA (ps++more)))
  (ns:∀m,s.heap.Ns X.env.locals m->h'.Ns X.env.locals m) (hok:ka X.prog X.w H' h') (hg:AllBare g') :
  Inv X pins σ H' { s with heap:=h',gens:=g',drawn:=d',toks:=t' }:=by
 have Vv:∀b o,X.s₀.heap.get? b=some o->b≠X.env.locals:=λb o e=>aQ (aK (ax e) I.ok.above)
 have RT:∀b o,X.s₀.heap.get? b=some o->b ∉ X.ex->b ∉ ch:=λb o e hx hb=>by
  rcases (Hz b hb).1 with z | z
  .exact hx z
  .exact absurd (aK (ax e) z) (bh _)
 have Kd:∀x c,X.env.cells.lookup x=some c->∀v,s.heap.IsCell c v->h'.IsCell c v:=λx c e v ⟨o,ho,hd⟩=>by
  have OM:c ∉ ch:=λz=>(Hz c z).2.2.1 x c e rfl;by_cases hc:c∈X.fs
  .obtain⟨sl,q⟩:=slot c o (I.LD x c e) hc OM ho (I.freeC x c e)
   exact⟨_,q,hd⟩
  .exact⟨o,keep c o (I.LD x c e) hc OM ho (I.freeC x c e),hd⟩
 refine⟨I.ok,I.os,hg,⟨λb o e n hb hx=>?_,λb o e n hb hx=>?_,λb o e n hx=>?_,λb o e hx=>?_,λb xs e=>wk b xs (I.base.wk b xs e),λb o xs e=>uz b o xs (I.base.uz b o xs e),λb ps e=>?_⟩,?_,λx c e=>?_,?_,λx c e=>?_,λp hp=>?_,hok,I.len⟩
 .exact keep b o (Vv b o e) hb (RT b o e hx) (I.base.keep b o e n hb hx) (I.base.free b o e n hx)
 .obtain⟨sl,e1⟩:=I.base.slot b o e n hb hx
  obtain⟨Sv,e2⟩:=slot b _ (Vv b o e) hb (RT b o e hx) e1 (I.base.free b o e n hx);exact⟨Sv,e2⟩
 .obtain⟨o',e1⟩:=I.base.there b o e hx
  exact free b o' (RT b o e hx) e1 (I.base.free b o e n hx)
 .obtain⟨o',e1⟩:=I.base.there b o e hx
  exact there b o' (RT b o e hx) e1
 .obtain⟨m1,e1⟩:=I.base.wm b ps e
  obtain⟨m2,e2⟩:=wm b _ e1;exact⟨m1++m2,by rw[e2,Array.append_assoc]⟩
 .obtain⟨m,hn,hl⟩:=I.loc
  refine⟨m,ns m hn,λi x v e1 e2 e3=>?_⟩;obtain⟨u,r,l⟩:=hl i x v e1 e2 e3;refine⟨u,r,?_⟩;rcases l with l | ⟨k,c,e,z⟩
  .exact .inl l
  .exact .inr ⟨k,c,e,Kd x c e _ z⟩
 .obtain⟨v,z⟩:=I.cell x c e
  exact⟨v,Kd x c e v z⟩
 .obtain⟨m,⟨o,_,_,ho,_⟩,_⟩:=I.loc
  exact free _ o (λz=>(Hz _ z).2.1 rfl) ho I.free
 .obtain⟨v,o,ho,hd⟩:=I.cell x c e
  exact free c o (λz=>(Hz c z).2.2.1 x c e rfl) ho (I.freeC x c e)
 .obtain⟨e,n,ne,nf,d⟩:=I.pin p hp
  have OM:p.1 ∉ ch:=λz=>(Hz p.1 z).2.2.2 p hp rfl;exact⟨keep p.1 p.2 ne nf OM e n,free p.1 p.2 OM e n,ne,nf,d⟩
theorem Inv.un {t':Nat}(I:Inv X pins σ H s)(u:Un X.fs [] H H' s.heap h')(hok:ka X.prog X.w H' h'):Inv X pins σ H' { s with heap:=h',toks:=t' }:=by
 obtain⟨m,⟨o,es,ep,ho,r⟩,_⟩:=id I.loc;obtain⟨sl,hL⟩:=u.any ho I.free (!4)
 exact I.step (g':=s.gens) (d':=s.drawn) (ch:=[]) (λ_ z=>nomatch z) (λb o _ hb _ e n=>u.keep b o e n hb (!4)) (λb o _ hb _ e n=>u.slot b o e n hb (!4)) (λb o _ e n=>u.free b o e n (!4)) (λb o _ e=>u.there b o e (!4)) u.wk u.uz u.wm (λm' hm=>by
  obtain⟨o',jk,RU,Hy,r'⟩:=hm;rw[ho] at Hy;cases Hy;exact⟨_,jk,RU,hL,r'⟩) hok I.bare
theorem Inv.call {g':Array GenState}{t':Nat}{d':Drawn}{ch:List Addr}(I:Inv X pins σ H s)(u:Un (nk X.stack) ch H H' s.heap h')(hok:ka X.prog X.w H' h')(hg:AllBare g')
  (Hz:∀b∈ch,(b∈X.ex\/X.s₀.heap.objs.size<=b)/\b≠X.env.locals/\(∀x c,X.env.cells.lookup x=some c->c≠b)/\∀p∈X.pn++pins,p.1≠b) :
  Inv X pins σ H' { s with heap:=h',gens:=g',drawn:=d',toks:=t' }:=by
 obtain⟨m,⟨o,es,ep,ho,r⟩,_⟩:=id I.loc;obtain⟨sl,hL⟩:=u.any ho I.free λz=>(Hz _ z).2.1 rfl
 exact I.step (ch:=ch) Hz (λb o hL hb hc e n=>u.keep b o e n (λz=>(ap.mp (I.rW b z)).elim hL hb) hc) (λb o _ _ hc e n=>u.any e n hc) (λb o hc e n=>u.free b o e n hc) (λb o hc e=>u.there b o e hc) u.wk u.uz u.wm (λm' hm=>by
  obtain⟨o',jk,RU,Hy,r'⟩:=hm;rw[ho] at Hy;cases Hy;exact⟨_,jk,RU,hL,r'⟩) hok hg
theorem Inv.turned {t':Nat}{it:Addr}(I:Inv X pins σ H s)(k:∀b o,b≠it->s.heap.get? b=some o->h'.get? b=some o)(hn:H it=none)(hL:it≠X.env.locals)
  (h1:it∈X.ex\/X.s₀.heap.objs.size<=it) (h2:∀x c,X.env.cells.lookup x=some c->c≠it) (h3:∀p∈X.pn++pins,p.1≠it):Inv X pins σ H { s with heap:=h',toks:=t' }:=by
 have Ke:∀b u,H b=some u->b≠it:=λb u e z=>by rw[z,hn] at e;cases e
 refine I.step (g':=s.gens) (d':=s.drawn) (ch:=[it]) (λb hb=>?_) (λb o _ _ hc e _=>k b o (λz=>hc (by simp[z])) e) (λb o _ _ hc e _=>⟨o.slots,k b o (λz=>hc (by simp[z])) e⟩) (λ_ _ _ _ n=>n)
  (λb o hc e=>⟨o,k b o (λz=>hc (by simp[z])) e⟩) (λ_ _ e=>e) (λ_ _ _ e=>e) (λb ps e=>⟨#[],by rw[e];simp⟩) (λm hm=>?_) (λb u e=>?_) I.bare
 .have e:b=it:=by simpa using hb
  subst e;exact⟨h1,hL,h2,h3⟩
 .obtain⟨o,es,ep,ho,r⟩:=hm
  exact⟨o,es,ep,k _ o (Ne.symm hL) ho,r⟩
 .refine (I.hok b u e).zL (λc v hc q=>k c v ?_ q) (λ_ q=>q) λ_ _ q=>q
  rcases hc with z | z
  .rw[z];exact Ke b u e
  .exact Ke c _ z
theorem Inv.tok (I:Inv X pins σ H s)(t:Nat):Inv X pins σ H { s with toks:=t }:=I.un (h':=s.heap) (t':=t) Un.refl I.hok
theorem Inv.kept {t':Nat}(I:Inv X pins σ H s)(k:∀b u,s.heap.get? b=some u->h'.get? b=some u):Inv X pins σ H { s with heap:=h',toks:=t' }:=I.un (Un.kept k) (I.hok.kept k)
theorem Inv.laid {a:Addr}{o:HO}{t':Nat}(I:Inv X pins σ H s)(k:∀b u,s.heap.get? b=some u->h'.get? b=some u)(hp:s.heap.objs.size<=a)(new:eQ X.prog X.w (d0 H a o) h' a o) :
  Inv X pins σ (d0 H a o) { s with heap:=h',toks:=t' }:=I.un (Un.laid k hp (I.hok.fresh hp)) (I.hok.laid k hp new)
theorem Inv.write {x e:Addr}{o:HO}{t':Nat}(I:Inv X pins σ H s)(mu:OH (H x))(he:e=x\/H e=some (.own x))(k:∀b u,b≠e->s.heap.get? b=some u->h'.get? b=some u)(Oc:∃u,h'.get? e=some u)
  (new:eQ X.prog X.w (d0 H x o) h' x o):Inv X pins σ (d0 H x o) { s with heap:=h',toks:=t' }:=I.un (Un.write mu he k Oc) (I.hok.write mu he k Oc new)
theorem Inv.rF (I:Inv X pins σ H s)(h:∀p∈ON,s.heap.get? p.1=some p.2/\H p.1=none/\p.1≠X.env.locals/\p.1 ∉ X.fs/\∀v,p.2.data≠.cell v):Inv X ON σ H s :=
 ⟨I.ok,I.os,I.bare,I.base,I.loc,I.cell,I.free,I.freeC,λp hp=>(bc.mp hp).elim (λz=>I.pin p (bC _ z)) (h p),I.hok,I.len⟩
theorem xF {N:List Str}(hN:N.Nodup){i j:Nat}{x:Str}(a:N[i]? = some x)(b:N[j]? = some x):i=j:=by
 obtain⟨h1,e1⟩:=aG.mp a;obtain⟨h2,e2⟩:=aG.mp b;exact (List.getElem_inj hN).mp (e1.trans e2.symm)
theorem u1 {M:Model}{A:Around}{E:af->aq->Prop}{i:Nat}{x:Str}{v:V}{u:af}{Q:Unit->aq->Prop}(I:Inv X pins σ H s)(hN:X.N.Nodup)(hi:X.N[i]? = some x)(hx:Loc X.env.scope x)(r:RelV v u)
  (h:∀s',Inv X pins (σ.set i (some v)) H s'->(∃a,Heap.SameBut a s.heap s'.heap/\(a=X.env.locals\/X.env.cells.lookup x=some a))->Q () s') (hf:X.fn x=true\/X.env.scope.names.lookup x=some .local:=by (first | exact .inl rfl | exact .inr rfl | assumption)):ay M A (storeName X.env x u) Q E s:=by
 obtain⟨m,hn,hl⟩:=id I.loc;have Sw:(X.env.scope.kind == .class || (X.env.scope.kind == .module && X.env.locals != X.env.globals))=false:=by rw[I.ok.kind];rfl
 have OO:i<σ.length:=by rw[I.len];exact (aG.mp hi).1
 have LD:=I.LD
 have Br:∀{a:Addr} {h':Heap},(∃o,s.heap.get? a=some o/\H a=none)->Heap.SameBut a s.heap h'->ka X.prog X.w H h':=λ{a h'} ha hs b ob e=>by
  obtain⟨_,_,Bs⟩:=ha;refine (I.hok b ob e).zL (λc w' hc q=>(hs.2 c ?_).trans q) (λ_ q=>q) λ_ _ q=>q;rintro rfl;rcases hc with rfl | hc
  .rw[Bs] at e;cases e
  .rw[Bs] at hc;cases hc
 rcases hx with hk | hk
 .refine wpAny_storeName_local hk hn (λh' CC hs=>?_) Sw
  obtain⟨oL,_,_,OP,_⟩:=id hn;refine h _ ⟨I.ok,I.os,I.bare,⟨λb o e n hb hx=>?_,λb o e n hb hx=>?_,I.base.free,λb o e hx=>?_,I.base.wk,I.base.uz,I.base.wm⟩,⟨_,CC,λj y v' e1 e2 e3=>?_⟩,λy c e=>?_,I.free,I.freeC,λp hp=>?_,Br ⟨oL,OP,I.free⟩ hs,by simpa using I.len⟩ ⟨_,hs,.inl rfl⟩
  .exact (hs.2 b (aQ (aK (ax e) I.ok.above))).trans (I.base.keep b o e n hb hx)
  .obtain⟨sl,e1⟩:=I.base.slot b o e n hb hx
   exact⟨sl,(hs.2 b (aQ (aK (ax e) I.ok.above))).trans e1⟩
  .obtain⟨o',e1⟩:=I.base.there b o e hx
   exact⟨o',(hs.2 b (aQ (aK (ax e) I.ok.above))).trans e1⟩
  .by_cases hj:j=i
   .subst hj
    rw[hi] at e1;cases e1;rw[cv OO] at e2;cases e2;exact⟨u,r,.inl ⟨hk,!4⟩⟩
   .rw[aW (Ne.symm hj)] at e2
    obtain⟨u',r',q⟩:=hl j y v' e1 e2 e3;refine⟨u',r',?_⟩;rcases q with⟨k,e⟩ | ⟨k,c,e,z⟩
    .refine .inl ⟨k,?_⟩
     have:y≠x:=λe=>hj (xF hN e1 (e ▸ hi));simp[this,e]
    .exact .inr ⟨k,c,e,z.sameBut hs (LD y c e)⟩
  .obtain⟨w',z⟩:=I.cell y c e
   exact⟨w',z.sameBut hs (LD y c e)⟩
  .obtain⟨e,n,ne,nf,d⟩:=I.pin p hp
   exact⟨(hs.2 p.1 ne).trans e,n,ne,nf,d⟩
 .have Sx:X.fn x=true:=by
   rcases hf with z | z
   .exact z
   .rw[z] at hk;cases hk
  obtain⟨c,hc⟩:=I.ok.has x (.inl hk);obtain⟨w',z⟩:=I.cell x c hc;refine wpAny_storeName_cell I.ok.kind hk hc z (λh' CD hs=>?_);obtain⟨oc,Vw,Sy⟩:=id z;refine h { s with heap:=h' } ⟨I.ok,I.os,I.bare,⟨λb o e n hb hx=>?_,λb o e n hb hx=>?_,I.base.free,λb o e hx=>?_,I.base.wk,I.base.uz,I.base.wm⟩,⟨m,hn.sameBut hs (Ne.symm (LD x c hc)),λj y v' e1 e2 e3=>?_⟩,λy c' e=>?_,I.free,I.freeC,λp hp=>?_,Br ⟨oc,Vw,I.freeC x c hc⟩ hs,by simpa using I.len⟩ ⟨c,hs,.inr hc⟩
  .exact (hs.2 b (aQ (aK (ax e) (I.ok.Od x c Sx hc)))).trans (I.base.keep b o e n hb hx)
  .obtain⟨sl,e1⟩:=I.base.slot b o e n hb hx
   exact⟨sl,(hs.2 b (aQ (aK (ax e) (I.ok.Od x c Sx hc)))).trans e1⟩
  .obtain⟨o',e1⟩:=I.base.there b o e hx
   exact⟨o',(hs.2 b (aQ (aK (ax e) (I.ok.Od x c Sx hc)))).trans e1⟩
  .by_cases hj:j=i
   .subst hj
    rw[hi] at e1;cases e1;rw[cv OO] at e2;cases e2;exact⟨u,r,.inr ⟨.inl hk,c,hc,CD⟩⟩
   .rw[aW (Ne.symm hj)] at e2
    obtain⟨u',r',q⟩:=hl j y v' e1 e2 e3;refine⟨u',r',?_⟩;rcases q with q | ⟨k,c',e,z'⟩
    .exact .inl q
    .refine .inr ⟨k,c',e,z'.sameBut hs ?_⟩
     rintro rfl;exact hj (xF hN e1 (I.ok.inj _ _ _ e hc ▸ hi))
  .by_cases OQ:c'=c
   .subst OQ;exact⟨_,CD⟩
   .obtain⟨w2,z2⟩:=I.cell y c' e
    exact⟨w2,z2.sameBut hs OQ⟩
  .obtain⟨e,n,ne,nf,d⟩:=I.pin p hp
   refine⟨(hs.2 p.1 ?_).trans e,n,ne,nf,d⟩;intro q;rw[q,Vw] at e;have q':oc=p.2:=Option.some.inj e;exact d w' (by rw[<- q'];exact Sy)
theorem rX (I:Inv X pins σ H s)(hN:X.N.Nodup)(hi:X.N[i]? = some x)(hx:Loc X.env.scope x)(r:RelV v u)
  (h:∀s',Inv X pins (σ.set i (some v)) H s'->Q () s') (hf:X.fn x=true\/X.env.scope.names.lookup x=some .local:=by (first | exact .inl rfl | exact .inr rfl | assumption)):ay M A (storeName X.env x u) Q E s :=
 u1 I hN hi hx r (λs' I' _=>h s' I') hf
theorem Inv.Kf {s':aq}{ch:List Addr}(I:Inv X pins σ H s)(ho:s'.os=s.os)(u:Un (nk X.stack) ch H H' s.heap s'.heap)(hok:ka X.prog X.w H' s'.heap)(hg:AllBare s'.gens)
  (Hz:∀b∈ch,(b∈X.ex\/X.s₀.heap.objs.size<=b)/\b≠X.env.locals/\(∀x c,X.env.cells.lookup x=some c->c≠b)/\∀p∈X.pn++pins,p.1≠b):Inv X pins σ H' s':=by
 obtain⟨h',g',d',t',o'⟩:=s';have e:o'=s.os:=ho;subst e;exact I.call (g':=g') (t':=t') (d':=d') u hok hg Hz
end
abbrev XK:=af->Option Addr->Hp->Prop
abbrev St:=List (Option V)
abbrev VK:=V->Hp->Prop
abbrev TE:=St->Hp->VK->Prop
abbrev TT:=St->Hp->(Bool->Hp->Prop)->Prop
abbrev TA:=St->Hp->(List V->Hp->Prop)->Prop
structure Ends where
 nx:St->Hp->Prop
 rt:VK
 bk:St->Hp->Prop:=λ_ _=>False
 ct:St->Hp->Prop:=λ_ _=>False
abbrev TS:=Ends->St->Hp->Prop
noncomputable def EP (X:Cx)(pins:List (Addr × Obj))(σ:St)(Q:VK)(u:af)(s':aq):Prop:=∃v H',Inv X pins σ H' s'/\RelV v u/\Q v H'
noncomputable def TP (X:Cx)(pins:List (Addr × Obj))(σ:St)(Q:Bool->Hp->Prop)(b:Bool)(s':aq):Prop:=∃H',Inv X pins σ H' s'/\Q b H'
noncomputable def AP (X:Cx)(pins:List (Addr × Obj))(σ:St)(Q:List V->Hp->Prop)(us:List af)(s':aq):Prop:=∃vs H',Inv X pins σ H' s'/\dO vs us/\Q vs H'
noncomputable def SP (X:Cx)(pins:List (Addr × Obj))(D:Ends)(f:Flow)(s':aq):Prop :=
 match f with
 | .next=>∃σ' H',Inv X pins σ' H' s'/\D.nx σ' H'
 | .brk=>∃σ' H',Inv X pins σ' H' s'/\D.bk σ' H'
 | .cont=>∃σ' H',Inv X pins σ' H' s'/\D.ct σ' H'
 | .ret u=>∃v σ' H',Inv X pins σ' H' s'/\RelV v u/\D.rt v H'
def PE (X:Cx)(e:Expr)(t:TE):Prop :=
 ∀(pins:List (Addr × Obj)) (s:aq) (σ:St) (H:Hp) (Q:VK),Inv X pins σ H s->t σ H Q->ay (model X.prog X.w) X.A (eval e X.env) (EP X pins σ Q) X.xe s
def PT (X:Cx)(e:Expr)(t:TT):Prop :=
 ∀(pins:List (Addr × Obj)) (s:aq) (σ:St) (H:Hp) (Q:Bool->Hp->Prop),Inv X pins σ H s->t σ H Q->ay (model X.prog X.w) X.A (isTrue e X.env (eval e X.env)) (TP X pins σ Q) X.xe s
def PW (X:Cx)(e:Expr)(t:TT):Prop :=
 ∀(m6:Sem af) (pins:List (Addr × Obj)) (s:aq) (σ:St) (H:Hp) (Q:Bool->Hp->Prop),Inv X pins σ H s->t σ H Q->ay (model X.prog X.w) X.A (isTrue e X.env m6) (TP X pins σ Q) X.xe s
theorem PW.pt (h:PW X e t):PT X e t:=h _
def PA (X:Cx)(es:List Expr)(t:TA):Prop :=
 ∀(pos:Pos) (pins:List (Addr × Obj)) (s:aq) (σ:St) (H:Hp) (Q:List V->Hp->Prop),Inv X pins σ H s->t σ H Q->ay (model X.prog X.w) X.A (spliced (backTo pos (starEach es X.env))) (AP X pins σ Q) X.xe s
def PS (X:Cx)(st:Stmt)(t:TS):Prop :=
 ∀(pins:List (Addr × Obj)) (s:aq) (σ:St) (H:Hp) (D:Ends),Inv X pins σ H s->t D σ H->ay (model X.prog X.w) X.A (exec st X.env) (SP X pins D) X.xe s
def zF (X:Cx)(st:List Stmt)(t:TS):Prop :=
 ∀(pins:List (Addr × Obj)) (s:aq) (σ:St) (H:Hp) (D:Ends),Inv X pins σ H s->t D σ H->ay (model X.prog X.w) X.A (execs st X.env) (SP X pins D) X.xe s
theorem fy {α:Type}{t:Sem α}{Q Q':α->aq->Prop}{M:Model}{A:Around}{E:af->aq->Prop}{s:aq}(h:ay M A t Q E s)(hQ:∀a s,Q a s->Q' a s):ay M A t Q' E s:=bD h hQ λ_ _ x=>x
section
variable {X:Cx}
def LG (i:Nat):TE:=λσ H Q=>∃v,σ[i]? = some (some v)/\Q v H
def tC (v:V):TE:=λ_ H Q=>Q v H
theorem LH (hN:X.N[i]? = some x)(hv:Bq X.env.scope x)(hd:(x == ("__debug__" : Str))=false:=by decide)(jl:(x == ("__classdict__" : Str))=false:=by decide):PE X (.Name x pos) (LG i):=by
 intro pins s σ H Q I h;obtain⟨v,e,h⟩:=h;obtain⟨m,hn,hl⟩:=I.loc;obtain⟨u,r,l⟩:=hl i x v hN e hv;have gG:EP X pins σ Q u s:=⟨v,H,I,r,h⟩;rcases l with⟨hk,hm⟩ | ⟨hk,c,hc,Kg⟩
 .exact wpAny_Name (wpAny_loadName_local I.ok.kind hk hn hm gG) hd
 .rcases hk with hk | hk
  .exact wpAny_Name (wpAny_loadName_cell I.ok.kind hk hc Kg gG) hd
  .exact wpAny_Name (wpAny_loadName_free I.ok.kind hk hc Kg gG jl) hd
theorem LJ {i j pos}:PE X (.Constant (.int i) j pos) (tC (.int i)):=λ_ _ _ H _ I h=>wpAny_Constant_int ⟨.int i,H,I.tok _,⟨_,rfl⟩,h⟩
theorem OR {b j pos}:PE X (.Constant (.bool b) j pos) (tC (.bl b)):=λ_ _ _ H _ I h=>Constant_bool ⟨.bl b,H,I,rfl,h⟩
theorem LK {j pos}:PE X (.Constant .none j pos) (tC .h8):=λ_ _ _ H _ I h=>Constant_none ⟨.h8,H,I,rfl,h⟩
theorem LL {x j pos}:PE X (.Constant (.str x) j pos) (tC (.str x)):=λ_ _ _ H _ I h=>Calls.Constant_str ⟨.str x,H,I.tok _,⟨_,rfl⟩,h⟩
def Gl (X:Cx)(x:Str):Prop:=X.env.kindOf x=some .globalImplicit
theorem rG (I:Inv X pins σ H s)(hg:Gl X x)(hm:X.mg x=some u)(h:Q u s)
  (hd:(x == ("__debug__" : Str))=false:=by decide):ay (model X.prog X.w) X.A (eval (.Name x pos) X.env) Q E s :=
 Calls.Name_function_global I.ok.kind hg (Calls.loadGlobal_global (by rw[I.ok.glob];exact I.mod.glob.keeps I.bk) hm h) hd
theorem rY (I:Inv X pins σ H s)(hg:Gl X x)(hm:X.mg x=none)(hv:bootBuiltins x=some u)(h:Q u s)
  (hn:x ≠ "__name__" := by decide) (hd:(x == ("__debug__" : Str))=false:=by decide):ay (model X.prog X.w) X.A (eval (.Name x pos) X.env) Q E s:=by
 obtain⟨mb,h1,h2⟩:=I.mod.blt;exact Calls.Name_function_global I.ok.kind hg (Calls.loadGlobal_builtin (by rw[I.ok.glob];exact I.mod.glob.keeps I.bk) hm (by rw[I.ok.blt];exact h1.keeps I.bk) ((h2 x hn).trans hv) h) hd
theorem HU (hg:Gl X x)(hm:X.mg x=none)(hv:bootBuiltins x=some u)(r:RelV v u)(hn:x ≠ "__name__" := by decide)(hd:(x == ("__debug__" : Str))=false:=by decide):PE X (.Name x pos) (tC v) :=
 λ_ _ _ H _ I h=>rY I hg hm hv ⟨v,H,I,r,h⟩ hn hd
variable {a b:Expr}{ta tb:TE}{pos:Pos}
def PC (X:Cx)(op:CmpOp)(a b:Expr)(t:TE):Prop :=
 ∀(pins:List (Addr × Obj)) (s:aq) (σ:St) (H:Hp) (Q:VK),Inv X pins σ H s->t σ H Q ->
  ay (model X.prog X.w) X.A (eval a X.env) (λv s₁=>ay (model X.prog X.w) X.A (eval b X.env) (λu s₂=>ay (model X.prog X.w) X.A (compareOp op v u) (EP X pins σ Q) X.xe s₂) X.xe s₁) X.xe s
def tB (t:TE):TT:=λσ H Q=>t σ H λx H1=>∃c,x=.bl c/\Q c H1
theorem LM (h:PC X op a b t)(h1:behindInMarks op b=false:=by first | exact EH _ (!2) (!2) | rfl):PE X (.Compare a [op] [b] pos) t:=λpins s σ H Q I hw=>wpAny_Compare1 (h pins s σ H Q I hw) h1
theorem LN (h:PC X op a b t)(h1:behindInMarks op b=false:=by first | exact EH _ (!2) (!2) | rfl):PT X (.Compare a [op] [b] pos) (tB t):=by
 intro pins s σ H Q I hw;refine wpAny_isTrue_Compare1 (fy (h pins s σ H _ I hw) λv s1 h1=>fy h1 λu s2 h2=>fy h2 λc s3 ⟨x,H1,I1,r1,q1⟩=>?_) h1;obtain⟨d,rfl,q⟩:=q1;cases r1;exact wpAny_truthy_bool ⟨H1,I1,q⟩
theorem LO {e:Expr}{t:TE}(h:PE X e t)(he:∀m6,isTrue e X.env m6=(do let v <- m6;standAt e.pos;holding [v] (truthy v)):=by rw[3]):PT X e (tB t):=by
 intro pins s σ H Q I hw;refine isTrue_plain (fy (h pins s σ H _ I hw) λv s1 ⟨x,H1,I1,r1,q1⟩=>?_) (he _);obtain⟨d,rfl,q⟩:=q1;cases r1;exact wpAny_truthy_bool ⟨H1,I1,q⟩
variable {tA HV:TT}{rest:List Expr}
def OS (t u:TT):TT:=λσ H Q=>t σ H λc H1=>if c=true then u σ H1 Q else Q false H1
def Vx (t u:TT):TT:=λσ H Q=>t σ H λc H1=>if c=true then Q true H1 else u σ H1 Q
def OT (t:TT):TT:=λσ H Q=>t σ H λc H1=>Q (!c) H1
theorem pw_and1 (ha:PT X a tA):PW X (.BoolOp .And [a] pos) tA:=by
 intro wh pins s σ H Q I h;refine isTrue_and (fy (ha pins s σ H Q I h) λc s1 e=>?_)
 cases c with
 | true=>exact isTrue_and_nil e
 | false=>exact e
theorem pw_or1 (ha:PT X a tA):PW X (.BoolOp .Or [a] pos) tA:=by
 intro wh pins s σ H Q I h;refine isTrue_or (fy (ha pins s σ H Q I h) λc s1 e=>?_)
 cases c with
 | false=>exact isTrue_or_nil e
 | true=>exact e
theorem pw_and (ha:PT X a tA)(hb:PW X (.BoolOp .And (b::rest) pos) HV):PW X (.BoolOp .And (a::b::rest) pos) (OS tA HV):=by
 intro wh pins s σ H Q I h;refine isTrue_and (fy (ha pins s σ H _ I h) λc s1 ⟨H1,I1,q1⟩=>?_)
 cases c with
 | true=>exact hb wh pins s1 σ H1 Q I1 q1
 | false=>exact⟨H1,I1,q1⟩
theorem pw_or (ha:PT X a tA)(hb:PW X (.BoolOp .Or (b::rest) pos) HV):PW X (.BoolOp .Or (a::b::rest) pos) (Vx tA HV):=by
 intro wh pins s σ H Q I h;refine isTrue_or (fy (ha pins s σ H _ I h) λc s1 ⟨H1,I1,q1⟩=>?_)
 cases c with
 | true=>exact⟨H1,I1,q1⟩
 | false=>exact hb wh pins s1 σ H1 Q I1 q1
theorem LP (ha:PT X a tA):PT X (.UnaryOp .Not a pos) (OT tA):=by
 intro pins s σ H Q I h;exact isTrue_not (ha pins s σ H (λc H1=>Q (!c) H1) I h)
def Kh (ta tb:TE):TE:=λσ H Q=>ta σ H λx H1=>∃c,x=.bl c/\if c=true then tb σ H1 Q else Q (.bl false) H1
def OU (ta tb:TE):TE:=λσ H Q=>ta σ H λx H1=>∃c,x=.bl c/\if c=true then Q (.bl true) H1 else tb σ H1 Q
def Ki (ta:TE):TE:=λσ H Q=>ta σ H λx H1=>∃c,x=.bl c/\Q (.bl (!c)) H1
theorem LQ {op}(h:PE X a t):PE X (.BoolOp op [a] pos) t:=λpins s σ H Q I hw=>BoolOp_one (h pins s σ H Q I hw)
theorem LR (ha:PE X a ta)(hb:PE X (.BoolOp .And (b::rest) pos) tb):PE X (.BoolOp .And (a::b::rest) pos) (Kh ta tb):=by
 intro pins s σ H Q I h;refine BoolOp_and (fy (ha pins s σ H _ I h) λv s1 ⟨x,H1,I1,r1,q1⟩=>?_);obtain⟨c,rfl,q1⟩:=q1;cases r1;refine wpAny_truthy_bool ?_
 cases c with
 | true=>exact hb pins s1 σ H1 Q I1 q1
 | false=>exact⟨.bl false,H1,I1,rfl,q1⟩
theorem OV (ha:PE X a ta)(hb:PE X (.BoolOp .Or (b::rest) pos) tb):PE X (.BoolOp .Or (a::b::rest) pos) (OU ta tb):=by
 intro pins s σ H Q I h;refine BoolOp_or (fy (ha pins s σ H _ I h) λv s1 ⟨x,H1,I1,r1,q1⟩=>?_);obtain⟨c,rfl,q1⟩:=q1;cases r1;refine wpAny_truthy_bool ?_
 cases c with
 | false=>exact hb pins s1 σ H1 Q I1 q1
 | true=>exact⟨.bl true,H1,I1,rfl,q1⟩
theorem LS (ha:PE X a ta):PE X (.UnaryOp .Not a pos) (Ki ta):=by
 intro pins s σ H Q I h;refine UnaryOp_ (fy (ha pins s σ H _ I h) λv s1 ⟨x,H1,I1,r1,q1⟩=>?_);obtain⟨c,rfl,q1⟩:=q1;cases r1;exact not_of (wpAny_truthy_bool ⟨.bl (!c),H1,I1,rfl,q1⟩)
def Vy (t:TT)(ta tb:TE):TE:=λσ H Q=>t σ H λc H1=>if c=true then ta σ H1 Q else tb σ H1 Q
theorem EI (hc:PT X c tA)(ha:PE X a ta)(hb:PE X b tb):PE X (.IfExp c a b pos) (Vy tA ta tb):=by
 intro pins s σ H Q I h;refine wpAny_IfExp (fy (hc pins s σ H _ I h) λd s1 ⟨H1,I1,q1⟩=>?_)
 cases d with
 | true=>exact ha pins s1 σ H1 Q I1 q1
 | false=>exact hb pins s1 σ H1 Q I1 q1
end
noncomputable def gp (K:W.Frag)(H:Hp)(a:Addr)(xs:List V):Prop :=
 Rd H a (.lst xs) \/
  ∃(o:Obj) (its:Array af) (n:Nat),K.lookup a=some o/\o.cls=.type "list" /\ o.dict=none/\o.data=.seq its n/\its.size<=au/\dO xs its.toList
noncomputable def iz (K:W.Frag)(H:Hp)(a:Addr)(xs:List V):Prop :=
 Rd H a (.tup xs) \/
  ∃(o:Obj) (its:Array af) (n:Nat),K.lookup a=some o/\o.cls=.type "tuple" /\ o.data=.seq its n/\its.size<=au/\dO xs its.toList
def SA:af->Option V
 | .none=>some .h8
 | .bool b=>some (.bl b)
 | .int i _=>some (.int i)
 | .str x _=>some (.str x)
 | .bytes b _=>some (.ED b)
 | .float b _=>some (.Ob b)
 | .ref a=>some (.ref a)
 | .type n=>some (.ty n)
 | _=>none
theorem RelV.abs (r:RelV x u):SA u=some x:=by
 cases x with
 | h8=>cases r;rfl
 | bl _=>cases r;rfl
 | int _=>obtain⟨t,rfl⟩:=r;rfl
 | str _=>obtain⟨t,rfl⟩:=r;rfl
 | ED _=>obtain⟨t,rfl⟩:=r;rfl
 | Ob _=>obtain⟨t,rfl⟩:=r;rfl
 | ref _=>cases r;rfl
 | ty _=>cases r;rfl
theorem RelV.inj (r:RelV x u)(q:RelV y u):x=y:=Option.some.inj (r.abs.symm.trans q.abs)
theorem dO.inj:∀{xs ys:List V} {us:List af},dO xs us->dO ys us->xs=ys
 | _,_,_,.nil,.nil=>rfl
 | _,_,_,.cons r t,.cons r' t'=>by rw[r.inj r',dO.inj t t']
section
theorem gp.of {K:W.Frag}(h:H a=some (.lst xs)):gp K H a xs:=.inl (.inl h)
theorem iz.of {K:W.Frag}(h:H a=some (.tup xs)):iz K H a xs:=.inl (.inl h)
theorem Inv.list (I:Inv X pins σ H s)(h:gp X.K H a xs):∃its:List af,dO xs its/\PlainL s.heap a its.toArray/\xs.length<=au:=by
 rcases h with h | ⟨o,its,n,hk,hc,hd,hs,hz,r⟩
 .obtain⟨z,its,n,r,e⟩:=h.ok I.hok
  exact⟨its,r,⟨_,n,e,rfl,rfl,rfl⟩,z⟩
 .refine⟨its.toList,r,⟨o,n,I.pJ a o hk,hc,hd,by simpa using hs⟩,?_⟩
  have e:=r.length;simp only[bq] at e;omega
theorem Inv.tuple (I:Inv X pins σ H s)(h:iz X.K H a xs):∃its:List af,dO xs its/\IsTup s.heap a its.toArray/\xs.length<=au:=by
 rcases h with h | ⟨o,its,n,hk,hc,hs,hz,r⟩
 .obtain⟨z,its,r,p⟩:=h.ok I.hok
  exact⟨its,r,p.tup,z⟩
 .refine⟨its.toList,r,⟨o,I.pJ a o hk,hc,n,by simpa using hs⟩,?_⟩
  have e:=r.length;simp only[bq] at e;omega
theorem Inv.xG (I:Inv X pins σ H s)(h:gp X.K H a xs)(h':gp X.K H a ys):xs=ys:=by
 obtain⟨its,r,⟨o,n,e,_,_,d⟩,_⟩:=I.list h;obtain⟨its',r',⟨o',n',e',_,_,d'⟩,_⟩:=I.list h';rw[e] at e';cases e';rw[d] at d';injection d' with d1 _;have:its=its':=by simpa using congrArg Array.toList d1
 subst this;exact r.inj r'
theorem Inv.u4 (I:Inv X pins σ H s)(h:iz X.K H a xs)(h':iz X.K H a ys):xs=ys:=by
 obtain⟨its,r,⟨o,e,_,n,d⟩,_⟩:=I.tuple h;obtain⟨its',r',⟨o',e',_,n',d'⟩,_⟩:=I.tuple h';rw[e] at e';cases e';rw[d] at d';injection d' with d1 _;have:its=its':=by simpa using congrArg Array.toList d1
 subst this;exact r.inj r'
end
abbrev Cx.pK (X:Cx)(E:af->aq->Prop):Cx:={ X with xe:=E }
abbrev Cx.Et (X:Cx):Cx:=X.pK λ_ _=>False
theorem Cx.Ok.pK {X:Cx}(ok:X.Ok)(E:af->aq->Prop):(X.pK E).Ok :=
 ⟨ok.mod,ok.kind,ok.glob,ok.blt,ok.above,ok.inj,ok.has,ok.Od,ok.hd,ok.frames,ok.OK,ok.Ss,ok.bs,ok.HS,ok.CB,ok.EG,ok.pI,ok.Kc⟩
theorem Cx.Ok.jU {X:Cx}{E:af->aq->Prop}(ok:(X.pK E).Ok):X.Ok :=
 ⟨ok.mod,ok.kind,ok.glob,ok.blt,ok.above,ok.inj,ok.has,ok.Od,ok.hd,ok.frames,ok.OK,ok.Ss,ok.bs,ok.HS,ok.CB,ok.EG,ok.pI,ok.Kc⟩
section
variable {X:Cx}{pins:List (Addr × Obj)}{σ:St}{H:Hp}{s:aq}{E:af->aq->Prop}
theorem Inv.pK (I:Inv X pins σ H s)(E:af->aq->Prop):Inv (X.pK E) pins σ H s:=⟨I.ok.pK E,I.os,I.bare,I.base,I.loc,I.cell,I.free,I.freeC,I.pin,I.hok,I.len⟩
theorem Inv.jU (I:Inv (X.pK E) pins σ H s):Inv X pins σ H s:=⟨I.ok.jU,I.os,I.bare,I.base,I.loc,I.cell,I.free,I.freeC,I.pin,I.hok,I.len⟩
theorem SP.jU (h:SP (X.pK E) pins D f s'):SP X pins D f s':=by
 cases f with
 | next=>obtain⟨σ',H',I,q⟩:=h;exact⟨σ',H',I.jU,q⟩
 | brk=>obtain⟨σ',H',I,q⟩:=h;exact⟨σ',H',I.jU,q⟩
 | cont=>obtain⟨σ',H',I,q⟩:=h;exact⟨σ',H',I.jU,q⟩
 | ret u=>obtain⟨v,σ',H',I,r,q⟩:=h;exact⟨v,σ',H',I.jU,r,q⟩
theorem zF.Et {st:List Stmt}{t:TS}(h:zF X.Et st t):zF X st t:=λpins s σ H D I hw =>
 bD (h pins s σ H D (I.pK _) hw) (λ_ _ q=>q.jU) λ_ _ z=>False.elim z
end
section
variable {X:Cx}{st:Stmt}{rest:List Stmt}{t u:TS}{e:Expr}{te:TE}{pos:Pos}
def Kj:TS:=λD σ H=>D.nx σ H
def OW (t u:TS):TS:=λD σ H=>t { D with nx:=u D } σ H
theorem HW:zF X [] Kj:=λ_ _ σ H _ I h=>wpAny_execs_nil ⟨σ,H,I,h⟩
theorem EJ (h1:PS X st t)(h2:zF X rest u):zF X (st::rest) (OW t u):=by
 intro pins s σ H D I h;refine wpAny_execs_cons (fy (h1 pins s σ H { D with nx:=u D } I h) λf s1 q=>?_)
 cases f with
 | next =>
  obtain⟨σ',H',I',q⟩:=q;exact h2 pins s1 σ' H' D I' q
 | ret v=>exact q
 | brk=>exact q
 | cont=>exact q
theorem HX (h1:PS X st t):zF X [st] t:=by
 intro pins s σ H D I h;refine wpAny_execs_cons (fy (h1 pins s σ H D I h) λf s1 q=>?_)
 cases f with
 | next=>exact wpAny_execs_nil q
 | ret v=>exact q
 | brk=>exact q
 | cont=>exact q
theorem Inv.quiet {pins:List (Addr × Obj)}{σ:St}{H:Hp}{s:aq}(I:Inv X pins σ H s):interactive X.env=false:=by simp[interactive,I.ok.kind]
def Kk (te:TE):TS:=λD σ H=>te σ H λ_ H1=>D.nx σ H1
theorem HY (he:PE X e te)(hs:swapsWith e none pos.line X.env=pure false:=by rfl):PS X (.Expr e pos) (Kk te):=by
 intro pins s σ H D I h;exact wpAny_Expr_any (fy (he pins s σ H _ I h) λv s1 ⟨x,H1,I1,r1,q1⟩=>⟨σ,H1,I1,q1⟩) I.quiet hs
def OX (te:TE):TS:=λD σ H=>te σ H D.rt
theorem LU (he:PE X e te):PS X (.Return (some e) pos) (OX te):=by
 intro pins s σ H D I h;exact wpAny_Return_some (fy (he pins s σ H _ I h) λv s1 ⟨x,H1,I1,r1,q1⟩=>⟨x,σ,H1,I1,r1,q1⟩)
def OY (c:TT)(t u:TS):TS:=λD σ H=>c σ H λb H1=>if b=true then t D σ H1 else u D σ H1
theorem OZ (hc:PT X c tc)(ha:zF X a t)(hb:zF X b u):PS X (.If c a b pos) (OY tc t u):=by
 intro pins s σ H D I h;refine wpAny_If (fy (hc pins s σ H _ I h) λd s1 ⟨H1,I1,q1⟩=>?_)
 cases d with
 | true=>exact ha pins s1 σ H1 D I1 q1
 | false=>exact hb pins s1 σ H1 D I1 q1
end
abbrev TG:=V->St->Hp->(St->Hp->Prop)->Prop
abbrev LV:=List V->St->Hp->(St->Hp->Prop)->Prop
def PG (X:Cx)(target:Expr)(t:TG):Prop :=
 ∀(pins:List (Addr × Obj)) (s:aq) (σ:St) (H:Hp) (v:V) (u:af) (Q:St->Hp->Prop),Inv X pins σ H s->RelV v u->t v σ H Q ->
  ay (model X.prog X.w) X.A (assign target X.env u) (λ_ s'=>∃σ' H',Inv X pins σ' H' s'/\Q σ' H') X.xe s
def O0 (X:Cx)(ts:List Expr)(t:LV):Prop :=
 ∀(pins:List (Addr × Obj)) (s:aq) (σ:St) (H:Hp) (vs:List V) (us:List af) (Q:St->Hp->Prop),Inv X pins σ H s->dO vs us->t vs σ H Q ->
  ay (model X.prog X.w) X.A (assignInOrder ((assignEach ts X.env).map (·.2)) us) (λ_ s'=>∃σ' H',Inv X pins σ' H' s'/\Q σ' H') X.xe s
section
variable {X:Cx}{pos:Pos}
def xH (i:Nat):TG:=λv σ H Q=>Q (σ.set i (some v)) H
theorem HZ (hN:X.N.Nodup)(hi:X.N[i]? = some x)(hx:Loc X.env.scope x)(hf:X.fn x=true\/X.env.scope.names.lookup x=some .local:=by (first | exact .inl rfl | exact .inr rfl | assumption)):PG X (.Name x pos) (xH i):=by
 intro pins s σ H v u Q I r h;exact wpAny_assign_Name (rX I hN hi hx r (λs' I'=>⟨_,H,I',h⟩) hf)
def O1:LV:=λvs σ H Q=>vs=[]/\Q σ H
def Km (t:TG)(u:LV):LV:=λvs σ H Q=>∃v r,vs=v::r/\t v σ H λσ' H'=>u r σ' H' Q
theorem H9:O0 X [] O1:=by
 intro pins s σ H vs us Q I r h;obtain⟨e,h⟩:=h;subst e;cases r;exact assignInOrder_nil ⟨σ,H,I,h⟩
theorem EK (h1:PG X e t)(h2:O0 X es u)
  (hs:(assignEach (e::es) X.env).map (·.2)=assign e X.env::(assignEach es X.env).map (·.2):=by rfl):O0 X (e::es) (Km t u):=by
 intro pins s σ H vs us Q I r h;obtain⟨v,vr,e1,h⟩:=h;subst e1
 cases r with
 | cons r rr =>
  rw[hs];refine assignInOrder_cons (fy (h1 pins s σ H _ _ _ I r h) λ_ s1 ⟨σ1,H1,I1,q1⟩=>?_);exact h2 pins s1 σ1 H1 _ _ Q I1 rr q1
def O2 (K:W.Frag)(n:Nat)(t:LV):TG:=λv σ H Q=>∃a xs,v=.ref a/\iz K H a xs/\xs.length=n/\t xs σ H Q
theorem LW (hc:X.calm=true)(h:O0 X es t)
  (hn:(assignEach es X.env).length=n:=by rfl) (u5:(assignEach es X.env).findIdx? (·.1)=none:=by rfl):PG X (.Tuple es k pos) (O2 X.K n t):=by
 intro pins s σ H v u Q I r hw;obtain⟨a,xs,e1,hq,hl,hw⟩:=hw;subst e1;cases r;obtain⟨its,rv,ht,hz⟩:=I.tuple hq;refine assign_Tuple_tuple (I.ok.hd hc) ht (by simp[hn,<- hl,rv.length]) u5 λh' hx=>?_;have I1:Inv X pins σ H { s with heap:=h' }:=I.kept (t':=s.toks) λb o e=>hx b o (aQ (ax e)) e;exact h pins _ σ H xs _ Q I1 (by simpa using rv) hw
def LX (te:TE)(g:TG):TS:=λD σ H=>te σ H λx H1=>g x σ H1 D.nx
theorem LY {i:Nat}{x:Str}{e:Expr}{te:TE}{ij:Pos}(hN:X.N.Nodup)(hi:X.N[i]? = some x)(hx:Loc X.env.scope x)(he:PE X e te)(hs:swapsWith e (some (.Name x ij)) pos.line X.env=pure false:=by rfl)(hf:X.fn x=true\/X.env.scope.names.lookup x=some .local:=by (first | exact .inl rfl | exact .inr rfl | assumption)) :
  PS X (.Assign [.Name x ij] e pos) (LX te (xH i)):=by
 intro pins s σ H D I h;refine wpAny_Assign_Name (fy (he pins s σ H _ I h) λv s1 ⟨y,H1,I1,r1,q1⟩=>?_) hs;exact rX I1 hN hi hx r1 (λs2 I2=>⟨_,H1,I2,q1⟩) hf
end
section
def rZ (c:TT)(tb:TS):TS:=λD σ H=>∃W:Nat->St->Hp->Prop,(∃m,W m σ H)/\∀m σ H,W m σ H ->
 c σ H λb H1=>if b=true then ∃N:St->Hp->Prop,(∀σ' H',N σ' H'->∃m',m' < m/\W m' σ' H')/\tb { D with nx:=N,ct:=N,bk:=D.nx } σ H1 else D.nx σ H1
theorem EL (hp:PassesOwn (model X.prog X.w) X.A X.env X.xe)(hc:PT X c tc)(hb:zF X body tb):PS X (.While c body [] pos) (rZ tc tb):=by
 intro pins s σ H D I h;obtain⟨W,⟨m0,w0⟩,turn⟩:=h;refine wpAny_While (codeAny_whileLoop (λn s'=>∃σ' H',Inv X pins σ' H' s'/\W n σ' H') ?_ m0 ⟨σ,H,I,w0⟩);rintro n s1 ⟨σ1,H1,I1,w1⟩;refine wpAny_passesOwn hp (fy (hc pins s1 σ1 H1 _ I1 (turn n σ1 H1 w1)) λb s2 ⟨H2,I2,q2⟩=>?_)
 cases b with
 | true =>
  obtain⟨N,hN,q2⟩:=q2;rw[if_pos rfl];refine wpAny_passesOwn hp (fy (hb pins s2 σ1 H2 _ I2 q2) λf s3 q3=>?_)
  cases f with
  | next =>
   obtain⟨σ3,H3,I3,n3⟩:=q3;obtain⟨m',hm,w3⟩:=hN σ3 H3 n3;exact⟨m',hm,σ3,H3,I3,w3⟩
  | cont =>
   obtain⟨σ3,H3,I3,n3⟩:=q3;obtain⟨m',hm,w3⟩:=hN σ3 H3 n3;exact⟨m',hm,σ3,H3,I3,w3⟩
  | brk=>exact q3
  | ret v=>exact q3
 | false =>
  rw[if_neg aR];exact wpAny_execs_nil ⟨σ1,H2,I2,q2⟩
end
structure It where
 go:Nat->Hp->Prop
 HA:Nat->Hp->V->Hp->Prop
 stop:Nat->Hp->Prop
noncomputable def rf (X:Cx)(pins:List (Addr × Obj))(H:Hp)(b:Addr):Prop :=
 H b=none/\b≠X.env.locals/\b ∉ X.fs/\(b∈X.ex\/X.s₀.heap.objs.size<=b)/\(∀x c,X.env.cells.lookup x=some c->c≠b)/\∀p∈X.pn++pins,p.1≠b
theorem Inv.r6 (I:Inv X pins σ H s)(hb:s.heap.objs.size<=b)(hn:H' b=none):rf X pins H' b:=by
 refine⟨hn,b4 (aK I.lt hb),I.OL hb,.inr (aT I.sz hb),λx c e z=>?_,λp hp z=>?_⟩
 .obtain⟨v,q⟩:=I.cell x c e
  exact absurd (aK q.lt (by rw[z];exact hb)) (bh _)
 .exact absurd (aK (ax (I.pin p hp).1) (by rw[z];exact hb)) (bh _)
structure zM (P:aV) (w:World) (K:W.Frag) (tg:Expr) (J:It) (fp:List Addr) (it:Addr) (tn:Nat->Heap->Prop):Prop where
 mem:it∈fp
 obj:∀i h,tn i h->∀b∈fp,∃o,h.get? b=some o/\∀v,o.data≠.cell v
 keep:∀i h h',tn i h->(∀b∈fp,∀o,h.get? b=some o->h'.get? b=some o)->tn i h'
 item:∀(X:Cx),X.prog=P->X.w=w->X.K=K->X.calm=true->∀(i:Nat) (pins:List (Addr × Obj)) (s:aq) (σ:St) (H:Hp) (E:af->aq->Prop),Inv X pins σ H s->(∀b∈fp,rf X pins H b)->tn i s.heap->J.go i H ->
  ay (model P w) X.A (pyNext (.ref it)) (λr s1=>∃u,r=some u /\
   ay (model P w) X.A (letOwnedTupleGo tg (.ref it) u) (λ_ s2=>∃x H',Inv X pins σ H' s2/\RelV x u/\J.HA i H x H'/\tn (i+1) s2.heap/\∀b∈fp,H' b=none) E s1) E s
 done:∀(X:Cx),X.prog=P->X.w=w->X.K=K->X.calm=true->∀(i:Nat) (pins:List (Addr × Obj)) (s:aq) (σ:St) (H:Hp) (E:af->aq->Prop),Inv X pins σ H s->(∀b∈fp,rf X pins H b)->tn i s.heap->J.stop i H ->
  ay (model P w) X.A (pyNext (.ref it)) (λr s1=>r=none/\Inv X pins σ H s1) E s
 self:∀(A:Around) (i:Nat) (s:aq) (Q:af->aq->Prop) (E:af->aq->Prop),tn i s.heap->Q (.ref it) s->ay (model P w) A (pyIter (.ref it)) Q E s
abbrev TI:=St->Hp->(It->Hp->Prop)->Prop
noncomputable def Vz (X:Cx)(pins:List (Addr × Obj))(σ:St)(tg:Expr)(R:It->Hp->Prop)(SD:af)(s2:aq):Prop :=
 ∃(it:Addr) (fp:List Addr) (tn:Nat->Heap->Prop) (J:It) (H':Hp),SD=.ref it/\Inv X pins σ H' s2/\zM X.prog X.w X.K tg J fp it tn/\tn 0 s2.heap/\(∀b∈fp,rf X pins H' b)/\R J H'
def PI (X:Cx)(tg iter:Expr)(wi:TI):Prop :=
 ∀(pins:List (Addr × Obj)) (s:aq) (σ:St) (H:Hp) (R:It->Hp->Prop),Inv X pins σ H s->wi σ H R ->
  ay (model X.prog X.w) X.A (eval iter X.env) (λv s1=>ay (model X.prog X.w) X.A (pyIter v) (Vz X pins σ tg R) X.xe s1) X.xe s
theorem Bt {M:Model}{A:Around}{E:af->aq->Prop}{s:aq}{tg:Expr}{it:Addr}{u:af}{o:Obj}{n:String}{vs:Array af}{Q:Unit->aq->Prop}(ho:s.heap.get? it=some o)(hc:o.cls=.type n)(hd:o.data=.fields vs)
  (hn:["enumerate", "zip", "dict_itemiterator", "dict_reverseitemiterator", "odict_iterator", "itertools.zip_longest", "itertools.pairwise"].contains n=false) (hQ:Q () s):ay M A (letOwnedTupleGo tg (.ref it) u) Q E s:=by
 unfold letOwnedTupleGo
 cases tg<;>first
  | exact ak hQ
  | (cases u<;>first
    | exact ak hQ
    | (refine ae (wpAny_load ho ?_);rw[hc,hd];show ay M A (if (["enumerate", "zip", "dict_itemiterator", "dict_reverseitemiterator", "odict_iterator", "itertools.zip_longest", "itertools.pairwise"].contains n && vs[0]? == some (rawInt _))=true then _ else _) Q E s;rw[if_neg (by intro h;rw[hn,Bool.false_and] at h;cases h)];exact ak hQ))
noncomputable def Ia (K:W.Frag)(a:Addr):It :=
 ⟨λi H=>∃xs x,gp K H a xs/\xs[i]? = some x,λi H x H'=>H'=H/\∀xs,gp K H a xs->xs[i]? = some x,λi H=>∃xs,gp K H a xs/\xs.length<=i⟩
noncomputable def Ib (K:W.Frag)(a:Addr):It :=
 ⟨λi H=>∃xs x,iz K H a xs/\xs[i]? = some x,λi H x H'=>H'=H/\∀xs,iz K H a xs->xs[i]? = some x,λi H=>∃xs,iz K H a xs/\xs.length<=i⟩
noncomputable def RV (lo:Int)(n:Nat):It:=⟨λi _=>i<n,λi H x H'=>H'=H/\x=.int (lo+i),λi _=>n<=i⟩
theorem u6 {P:aV}{w:World}{K:W.Frag}{tg:Expr}(a it:Addr):zM P w K tg (Ia K a) [it] it (λi h=>h.IsListIter it a i) where
 mem:=by simp
 obj:=λi h st b hb=>by
  have e:b=it:=by simpa using hb
  subst e;obtain⟨o,e,c,d⟩:=st;exact⟨o,e,λv z=>by rw[d] at z;cases z⟩
 keep:=λi h h' st k=>st.at λo e=>k it (!4) o e
 item:=by
  intro X hP hw hK hc i pins s σ H E I hf st hg;subst hP hw hK;obtain⟨xs,x,hq,hx⟩:=hg;obtain⟨its,rv,p,hz⟩:=I.list hq;obtain⟨u,hu,ru⟩:=rv.get hx;obtain⟨f0,f1,f2,f3,f4,f5⟩:=hf it (!4);refine wpAny_pyNext_list_item st p.isList (x:=u) (by simpa using hu) λh' zN sb=>?_;have I1:Inv X pins σ H { s with heap:=h' }:=I.turned (t':=s.toks) (λb o hb e=>(sb.2 b hb).trans e) f0 f1 f3 f4 f5;obtain⟨o,e,c,d⟩:=id zN;exact⟨u,rfl,Bt (s:={ s with heap:=h' }) e c d (!2) ⟨x,H,I1,ru,⟨rfl,λys hy=>by rw[I.xG hy hq];exact hx⟩,zN,λb hb=>(hf b hb).1⟩⟩
 done:=by
  intro X hP hw hK hc i pins s σ H E I hf st hg;subst hP hw hK;obtain⟨xs,hq,hx⟩:=hg;obtain⟨its,rv,p,hz⟩:=I.list hq;obtain⟨f0,f1,f2,f3,f4,f5⟩:=hf it (!4);have hl:=rv.length;exact wpAny_pyNext_list_end (I.ok.hd hc) st p.isList (by simp;omega) λh' eb=>⟨rfl,I.turned (t':=s.toks) (λb o hb e=>eb b o hb e) f0 f1 f3 f4 f5⟩
 self:=λ_ _ _ _ _ st h=>wpAny_pyIter_listiter st h
theorem r9 {P:aV}{w:World}{K:W.Frag}{tg:Expr}(a it:Addr):zM P w K tg (Ib K a) [it] it (λi h=>h.IsTupleIter it a i) where
 mem:=by simp
 obj:=λi h st b hb=>by
  have e:b=it:=by simpa using hb
  subst e;obtain⟨o,e,c,d⟩:=st;exact⟨o,e,λv z=>by rw[d] at z;cases z⟩
 keep:=λi h h' st k=>st.at λo e=>k it (!4) o e
 item:=by
  intro X hP hw hK hc i pins s σ H E I hf st hg;subst hP hw hK;obtain⟨xs,x,hq,hx⟩:=hg;obtain⟨its,rv,p,hz⟩:=I.tuple hq;obtain⟨u,hu,ru⟩:=rv.get hx;obtain⟨f0,f1,f2,f3,f4,f5⟩:=hf it (!4);refine wpAny_pyNext_tuple_item st (show s.heap.IsTuple a its.toArray from p) (x:=u) (by simpa using hu) λh' zN sb=>?_;have I1:Inv X pins σ H { s with heap:=h' }:=I.turned (t':=s.toks) (λb o hb e=>(sb.2 b hb).trans e) f0 f1 f3 f4 f5;obtain⟨o,e,c,d⟩:=id zN;exact⟨u,rfl,Bt (s:={ s with heap:=h' }) e c d (!2) ⟨x,H,I1,ru,⟨rfl,λys hy=>by rw[I.u4 hy hq];exact hx⟩,zN,λb hb=>(hf b hb).1⟩⟩
 done:=by
  intro X hP hw hK hc i pins s σ H E I hf st hg;subst hP hw hK;obtain⟨xs,hq,hx⟩:=hg;obtain⟨its,rv,p,hz⟩:=I.tuple hq;obtain⟨f0,f1,f2,f3,f4,f5⟩:=hf it (!4);have hl:=rv.length;exact wpAny_pyNext_tuple_end (I.ok.hd hc) st (show s.heap.IsTuple a its.toArray from p) (by simp;omega) λh' eb=>⟨rfl,I.turned (t':=s.toks) (λb o hb e=>eb b o hb e) f0 f1 f3 f4 f5⟩
 self:=λ_ _ _ _ _ st h=>wpAny_pyIter_tupleiter st h
theorem zO {P:aV}{w:World}{K:PySem.W.Frag}{tg:Expr}(it:Addr)(lo:Int)(n:Nat):zM P w K tg (RV lo n) [it] it (λi h=>IsRangeIter h it (lo+(i:Nat) * 1) ((n:Int) - (i:Nat)) 1) where
 mem:=by simp
 obj:=λi h st b hb=>by
  have e:b=it:=by simpa using hb
  subst e
  exact⟨_,st,λv z=>by
   have z':Data.fields _=Data.cell v:=z;cases z'⟩
 keep:=λi h h' st k=>k it (!4) _ st
 item:=by
  intro X hP hw hK hc i pins s σ H E I hf st hg;subst hP hw hK;obtain⟨f0,f1,f2,f3,f4,f5⟩:=hf it (!4);have W:=Walks.range (prog:=X.prog) (w:=X.w) (I.ok.hd hc) it lo 1 n;refine W.item i s _ _ hg st λv h' tk hv zN kk=>?_;obtain⟨t,rfl⟩:=hv;have I1:Inv X pins σ H { s with heap:=h',toks:=tk }:=I.turned (λb o hb e=>kk b o (by simpa using hb) e) f0 f1 f3 f4 f5;refine⟨_,rfl,Bt (s:={ s with heap:=h',toks:=tk }) (n := "range_iterator") zN rfl rfl (!2) ⟨.int (lo+i),H,I1,⟨t,?_⟩,⟨rfl,rfl⟩,zN,λb hb=>(hf b hb).1⟩⟩;rw[Int.mul_one]
 done:=by
  intro X hP hw hK hc i pins s σ H E I hf st hg;subst hP hw hK;obtain⟨f0,f1,f2,f3,f4,f5⟩:=hf it (!4);exact wpAny_pyNext_range_end (I.ok.hd hc) st (by have:n<=i:=hg;omega) λh' eb=>⟨rfl,I.turned (t':=s.toks) (λb o hb e=>eb b o hb e) f0 f1 f3 f4 f5⟩
 self:=λ_ _ _ _ _ st h=>wpAny_pyIter_rangeiter st h
section
variable {X:Cx}{tg:Expr}
def EM (K:W.Frag)(tl:TE):TI:=λσ H R=>tl σ H λx H1=>∃a,x=.ref a/\(∃xs,gp K H1 a xs)/\R (Ia K a) H1
def LZ (K:W.Frag)(tl:TE):TI:=λσ H R=>tl σ H λx H1=>∃a,x=.ref a/\(∃xs,iz K H1 a xs)/\R (Ib K a) H1
theorem Ic {l:Expr}{tl:TE}(hl:PE X l tl):PI X tg l (EM X.K tl):=by
 intro pins s σ H R I h;refine fy (hl pins s σ H _ I h) λv s1 ⟨x,H1,I1,r1,q1⟩=>?_;obtain⟨a,e,⟨xs,hq⟩,q⟩:=q1;subst e;cases r1;obtain⟨its,rv,p,hz⟩:=I1.list hq;refine wpAny_pyIter_list p.isList ?_;refine⟨s1.heap.objs.size,[s1.heap.objs.size],_,_,H1,rfl,I1.kept (t':=s1.toks) λb o e=>ag _ e,u6 a _,⟨_,aA _ rfl,rfl,rfl⟩,λb hb=>?_,q⟩;have e:b=s1.heap.objs.size:=by simpa using hb
 subst e;exact I1.r6 (al _) (I1.hok.fresh (al _))
theorem L1 {l:Expr}{tl:TE}(hl:PE X l tl):PI X tg l (LZ X.K tl):=by
 intro pins s σ H R I h;refine fy (hl pins s σ H _ I h) λv s1 ⟨x,H1,I1,r1,q1⟩=>?_;obtain⟨a,e,⟨xs,hq⟩,q⟩:=q1;subst e;cases r1;obtain⟨its,rv,p,hz⟩:=I1.tuple hq;refine wpAny_pyIter_tuple (show s1.heap.IsTuple a its.toArray from p) ?_;refine⟨s1.heap.objs.size,[s1.heap.objs.size],_,_,H1,rfl,I1.kept (t':=s1.toks) λb o e=>ag _ e,r9 a _,⟨_,aA _ rfl,rfl,rfl⟩,λb hb=>?_,q⟩;have e:b=s1.heap.objs.size:=by simpa using hb
 subst e;exact I1.r6 (al _) (I1.hok.fresh (al _))
theorem EN {pins:List (Addr × Obj)}{σ:St}{H:Hp}{s:aq}{R:It->Hp->Prop}{E:af->aq->Prop}{lo hi:Int}{t u v:Tok}{tk:Nat}(I:Inv X pins σ H s)(h1:-(2 ^ 62)<=lo)(h2:lo<2 ^ 62)(h3:-(2 ^ 62)<=hi)(h4:hi<2 ^ 62)
  (q:R (RV lo (hi - lo).toNat) H):ay (model X.prog X.w) X.A (pyIter (.ref s.heap.objs.size)) (Vz X pins σ tg R) E { s with heap:=s.heap.push { cls:=.type "range",data:=.fields #[.int lo t,.int hi u,.int 1 v] },toks:=tk }:=by
 refine wpAny_pyIter_range (IsRange.new ..) (small_one h1 h2 h3 h4) ?_;have I1:Inv X pins σ H { s with heap:=s.heap.push { cls:=.type "range",data:=.fields #[.int lo t,.int hi u,.int 1 v] },toks:=tk }:=I.kept λb o e=>ag _ e
 refine⟨(s.heap.push { cls:=.type "range",data:=.fields #[.int lo t,.int hi u,.int 1 v] }).objs.size,[(s.heap.push { cls:=.type "range",data:=.fields #[.int lo t,.int hi u,.int 1 v] }).objs.size],_,_,H,rfl,
  I1.kept (t':=tk) λb o e=>ag _ e,zO _ lo (hi - lo).toNat,?_,λb hb=>?_,q⟩
 .have e1:lo+((0:Nat):Int) * 1=lo:=by simp
  have e2:(((hi - lo).toNat:Nat):Int) - ((0:Nat):Int)=Builtin.Range.rangeSize lo hi 1:=by rw[rangeSize_one];split<;>omega
  show IsRangeIter _ _ (lo+((0:Nat):Int) * 1) ((((hi - lo).toNat:Nat):Int) - ((0:Nat):Int)) 1;rw[e1,e2];exact aA _ rfl
 .have e:b=(s.heap.push { cls:=.type "range",data:=.fields #[.int lo t,.int hi u,.int 1 v] }).objs.size:=by simpa using hb
  subst e;exact I1.r6 (al _) (I1.hok.fresh (al _))
def Kn (ta:TA):TI:=λσ H R=>ta σ H λvs H1=>∃j:Int,vs=[.int j]/\-(2 ^ 62)<=j/\j<2 ^ 62/\R (RV 0 j.toNat) H1
theorem CF (hg:Gl X "range")(hm:X.mg "range" = none)(ha:PA X [a] ta)(hs:starEach [a] X.env=[(false,eval a X.env)]:=by rfl):PI X tg (.Call (.Name "range" p) [a] [] pos) (Kn ta):=by
 intro pins s σ H R I h;refine Call_ (rY I hg hm boot_range (PyProof.Rows.callWith_type1 (fy (ha pos pins s σ H _ I h) λus s1 ⟨vs,H1,I1,r1,q1⟩=>?_) hs rfl));obtain⟨j,e,q1,q2,q⟩:=q1;subst e
 cases r1 with
 | cons r rr =>
  cases rr;obtain⟨t,rfl⟩:=r;exact call_range_1 (EN I1 (!1) (!1) q1 q2 (by simpa using q))
def O3 (wi:TI)(g:TG)(tb:TS):TS:=λD σ H=>wi σ H λJ H1=>∃W:Nat->Nat->St->Hp->Prop,(∃m,W 0 m σ H1)/\∀i m σ H,W i m σ H ->
 (J.stop i H/\D.nx σ H)\/(J.go i H/\∃N:St->Hp->Prop,(∀σ' H',N σ' H'->∃m',m' < m/\W (i+1) m' σ' H')/\∀x H',J.HA i H x H'->g x σ H' λσ2 H2=>tb { D with nx:=N,ct:=N,bk:=D.nx } σ2 H2)
def sd (fp:List Addr)(h:Heap):List (Addr × Obj):=fp.filterMap λb=>(h.get? b).map λo=>(b,o)
theorem kD (hb:b∈fp)(e:h.get? b=some o):(b,o)∈sd fp h:=cH.mpr ⟨b,hb,by rw[e];rfl⟩
theorem CG (hp:p∈sd fp h):p.1∈fp/\h.get? p.1=some p.2:=by
 obtain⟨b,hb,e⟩:=cH.mp hp
 cases q:h.get? b with
 | none=>rw[q] at e;cases e
 | some o =>
  rw[q] at e;have e':(b,o)=p:=Option.some.inj e;subst e';exact⟨hb,q⟩
theorem Inv.pinned (I:Inv X pins σ H s)(hf:∀b∈fp,rf X pins H b)(ho:∀b∈fp,∃o,s.heap.get? b=some o/\∀v,o.data≠.cell v):Inv X (pins++sd fp s.heap) σ H s :=
 I.rF λp hp=>(bc.mp hp).elim (λz=>I.pin p (aN _ z)) λz=>by
  obtain⟨hb,e⟩:=CG z;obtain⟨f0,f1,f2,_⟩:=hf p.1 hb;obtain⟨o,e',d⟩:=ho p.1 hb;rw[e] at e';cases e';exact⟨e,f0,f1,f2,d⟩
theorem Inv.lS (I:Inv X (pins++pl) σ H s):Inv X pins σ H s:=I.rF λp hp=>I.pin p (aN _ (bC _ hp))
theorem L5 (hp:PassesOwn (model X.prog X.w) X.A X.env X.xe)(hc:X.calm=true)(hi:PI X tg iter wi)(hg:PG X tg g)(hb:zF X body tb)
  (hs:∀x,foldedSetIterable iter X.env x=pure x:=by rw[3]):PS X (.For tg iter body [] pos) (O3 wi g tb):=by
 intro pins s σ H D I h;refine wpAny_For (fy (hi pins s σ H _ I h) λv s1 h1=>fy h1 λSD s2 h2=>?_) hs;obtain⟨it,fp,tn,J,H2,e,I2,T,O4,f2,W,⟨m0,w0⟩,turn⟩:=h2;subst e;have L7:∀{H':Hp},(∀b∈fp,H' b=none)->∀b∈fp,rf X pins H' b:=λhn b hb=>⟨hn b hb,(f2 b hb).2⟩;refine codeAny_forLoop_any (λn s'=>∃i σ' H',Inv X pins σ' H' s'/\tn i s'.heap/\(∀b∈fp,H' b=none)/\W i n σ' H') ?_ m0 ⟨0,σ,H2,I2,O4,λb hb=>(f2 b hb).1,w0⟩;rintro n s3 ⟨i,σ3,H3,I3,O5,O6,w3⟩;rcases turn i n σ3 H3 w3 with⟨stop,qn⟩ | ⟨go,N,hN,step⟩
 .refine wpAny_passesOwn hp (fy (T.done X rfl rfl rfl hc i pins s3 σ3 H3 X.xe I3 (L7 O6) O5 stop) λr s4 ⟨hr,I4⟩=>?_)
  subst hr;exact wpAny_execs_nil ⟨σ3,H3,I4,qn⟩
 .refine wpAny_passesOwn hp (fy (T.item X rfl rfl rfl hc i pins s3 σ3 H3 X.xe I3 (L7 O6) O5 go) λr s4 ⟨u,hr,h4⟩=>?_)
  subst hr;refine wpAny_passesOwn hp (fy h4 λ_ s5 ⟨x,H5,I5,r5,y5,L8,SE⟩=>?_);have WO:=I5.pinned (L7 SE) (T.obj _ _ L8);refine wpAny_passesOwn hp (fy (hg _ s5 σ3 H5 x u _ WO r5 (step x H5 y5)) λ_ s6 ⟨σ6,H6,I6,q6⟩=>?_);refine wpAny_passesOwn hp (fy (hb _ s6 σ6 H6 _ I6 q6) λf s7 q7=>?_)
  have again:∀{σ7:St} {H7:Hp},Inv X (pins++sd fp s5.heap) σ7 H7 s7->N σ7 H7->∃m,m<n/\∃i σ' H',Inv X pins σ' H' s7/\tn i s7.heap/\(∀b∈fp,H' b=none)/\W i m σ' H':=λ{σ7 H7} I7 n7=>by
   obtain⟨m',hm,w7⟩:=hN σ7 H7 n7;refine⟨m',hm,i+1,σ7,H7,I7.lS,T.keep _ _ _ L8 λb hb o e=>(I7.pin (b,o) (aN _ (aN _ (kD hb e)))).1,λb hb=>?_,w7⟩;obtain⟨o,e,d⟩:=T.obj _ _ L8 b hb;exact (I7.pin (b,o) (aN _ (aN _ (kD hb e)))).2.1
  cases f with
  | next=>obtain⟨σ7,H7,I7,n7⟩:=q7;exact again I7 n7
  | cont=>obtain⟨σ7,H7,I7,n7⟩:=q7;exact again I7 n7
  | brk=>obtain⟨σ7,H7,I7,q7⟩:=q7;exact⟨σ7,H7,I7.lS,q7⟩
  | ret v=>obtain⟨x7,σ7,H7,I7,r7,q7⟩:=q7;exact⟨x7,σ7,H7,I7.lS,r7,q7⟩
end
theorem EO {K:PySem.W.Frag}{a:Addr}{xs:List V}{g:TG}{tb:TS}{D:Ends}{σ:St}{H:Hp}(Pv:Nat->St->Hp->Prop)(h0:Pv 0 σ H)(hl:∀i σ H,i<=xs.length->Pv i σ H->gp K H a xs)
  (hs:∀i x σ H,xs[i]? = some x->Pv i σ H->g x σ H λσ2 H2=>tb { D with nx:=Pv (i+1),ct:=Pv (i+1),bk:=D.nx } σ2 H2) (hd:∀σ H,Pv xs.length σ H->D.nx σ H) :
  ∃W:Nat->Nat->St->Hp->Prop,(∃m,W 0 m σ H)/\∀i m σ H,W i m σ H ->
   ((Ia K a).stop i H/\D.nx σ H)\/((Ia K a).go i H/\∃N:St->Hp->Prop,(∀σ' H',N σ' H'->∃m',m' < m/\W (i+1) m' σ' H')/\∀x H',(Ia K a).HA i H x H'->g x σ H' λσ2 H2=>tb { D with nx:=N,ct:=N,bk:=D.nx } σ2 H2):=by
 refine⟨λi m σ H=>m=xs.length - i/\i<=xs.length/\Pv i σ H,⟨xs.length,!4,bU _,h0⟩,?_⟩;rintro i m σ H ⟨rfl,hi,p⟩;have q:=hl i σ H hi p;by_cases og:i<xs.length
 .refine .inr ⟨⟨xs,xs[i],q,by simp[og]⟩,Pv (i+1),λσ' H' p'=>⟨xs.length - (i+1),!1,rfl,og,p'⟩,λx H' y=>?_⟩
  obtain⟨e,y⟩:=y;subst e;exact hs i x σ _ (y xs q) p
 .have e:i=xs.length:=by omega
  subst e;exact .inl ⟨⟨xs,q,al _⟩,hd σ H p⟩
theorem Ie {K:PySem.W.Frag}{a:Addr}{xs:List V}{g:TG}{tb:TS}{D:Ends}{σ:St}{H:Hp}(Pv:Nat->St->Hp->Prop)(h0:Pv 0 σ H)(hl:∀i σ H,i<=xs.length->Pv i σ H->iz K H a xs)
  (hs:∀i x σ H,xs[i]? = some x->Pv i σ H->g x σ H λσ2 H2=>tb { D with nx:=Pv (i+1),ct:=Pv (i+1),bk:=D.nx } σ2 H2) (hd:∀σ H,Pv xs.length σ H->D.nx σ H) :
  ∃W:Nat->Nat->St->Hp->Prop,(∃m,W 0 m σ H)/\∀i m σ H,W i m σ H ->
   ((Ib K a).stop i H/\D.nx σ H)\/((Ib K a).go i H/\∃N:St->Hp->Prop,(∀σ' H',N σ' H'->∃m',m' < m/\W (i+1) m' σ' H')/\∀x H',(Ib K a).HA i H x H'->g x σ H' λσ2 H2=>tb { D with nx:=N,ct:=N,bk:=D.nx } σ2 H2):=by
 refine⟨λi m σ H=>m=xs.length - i/\i<=xs.length/\Pv i σ H,⟨xs.length,!4,bU _,h0⟩,?_⟩;rintro i m σ H ⟨rfl,hi,p⟩;have q:=hl i σ H hi p;by_cases og:i<xs.length
 .refine .inr ⟨⟨xs,xs[i],q,by simp[og]⟩,Pv (i+1),λσ' H' p'=>⟨xs.length - (i+1),!1,rfl,og,p'⟩,λx H' y=>?_⟩
  obtain⟨e,y⟩:=y;subst e;exact hs i x σ _ (y xs q) p
 .have e:i=xs.length:=by omega
  subst e;exact .inl ⟨⟨xs,q,al _⟩,hd σ H p⟩
theorem ER {c:TT}{tb:TS}{D:Ends}{σ:St}{H:Hp}(Pv:St->Hp->Prop)(μ:St->Hp->Nat)(h0:Pv σ H)
  (hs:∀σ H,Pv σ H->c σ H λb H1=>if b=true then tb { D with nx:=λσ' H'=>Pv σ' H'/\μ σ' H' < μ σ H,ct:=λσ' H'=>Pv σ' H'/\μ σ' H' < μ σ H,bk:=D.nx } σ H1 else D.nx σ H1)
  (mono:∀σ H Q Q',(∀b H1,Q b H1->Q' b H1)->c σ H Q->c σ H Q'):rZ c tb D σ H:=by
 refine⟨λm σ H=>m=μ σ H/\Pv σ H,⟨_,rfl,h0⟩,?_⟩;rintro m σ H ⟨rfl,p⟩;refine mono σ H _ _ (λb H1 q=>?_) (hs σ H p)
 cases b with
 | true=>exact⟨_,λσ' H' ⟨p',l⟩=>⟨_,l,rfl,p'⟩,q⟩
 | false=>exact q
abbrev R2:=V->V->Hp->VK->Prop
def jF (X:Cx)(f:af->af->Sem af)(r:R2):Prop :=
 ∀(pins:List (Addr × Obj)) (s:aq) (σ:St) (H:Hp) (x y:V) (v u:af) (Q:VK),Inv X pins σ H s->RelV x v->RelV y u->r x y H Q ->
  ay (model X.prog X.w) X.A (f v u) (EP X pins σ Q) X.xe s
def RW (X:Cx)(f:af->Sem af)(r:V->Hp->VK->Prop):Prop :=
 ∀(pins:List (Addr × Obj)) (s:aq) (σ:St) (H:Hp) (x:V) (v:af) (Q:VK),Inv X pins σ H s->RelV x v->r x H Q ->
  ay (model X.prog X.w) X.A (f v) (EP X pins σ Q) X.xe s
def fL (X:Cx)(f:af)(r:List V->Hp->VK->Prop):Prop :=
 ∀(pins:List (Addr × Obj)) (s:aq) (σ:St) (H:Hp) (xs:List V) (us:List af) (Q:VK),Inv X pins σ H s->dO xs us->r xs H Q ->
  ay (model X.prog X.w) X.A (call f us) (EP X pins σ Q) X.xe s
def Ig (r:R2)(ta tb:TE):TE:=λσ H Q=>ta σ H λx H1=>tb σ H1 λy H2=>r x y H2 Q
def VA (r:V->Hp->VK->Prop)(ta:TE):TE:=λσ H Q=>ta σ H λx H1=>r x H1 Q
def rI (C:Int->Int->Prop)(g:Int->Int->V):R2:=λx y H Q=>∃i j,x=.int i/\y=.int j/\C i j/\Q (g i j) H
def HB (g:Int->Int->V):R2:=λx y H Q=>∃i j,x=.int i/\y=.int j/\Q (g i j) H
def rU (g:Int->V):V->Hp->VK->Prop:=λx H Q=>∃i,x=.int i/\Q (g i) H
section
variable {X:Cx}{a b c:Expr}{ta tb tc:TE}{pos:Pos}
theorem L9 (ha:PE X a ta)(hb:PE X b tb){pins:List (Addr × Obj)}{s:aq}{σ:St}{H:Hp}{R:V->V->Hp->Prop}(I:Inv X pins σ H s)
  (h:ta σ H λx H1=>tb σ H1 λy H2=>R x y H2) {Q:af->aq->Prop} {f:af->af->Sem af}
  (hf:∀v u s2 x y H2,Inv X pins σ H2 s2->RelV x v->RelV y u->R x y H2->ay (model X.prog X.w) X.A (f v u) Q X.xe s2) :
  ay (model X.prog X.w) X.A (eval a X.env) (λv s₁=>ay (model X.prog X.w) X.A (eval b X.env) (λu s₂=>ay (model X.prog X.w) X.A (f v u) Q X.xe s₂) X.xe s₁) X.xe s:=by
 refine fy (ha pins s σ H _ I h) λv s1 ⟨x,H1,I1,r1,q1⟩=>?_;refine fy (hb pins s1 σ H1 _ I1 q1) λu s2 ⟨y,H2,I2,r2,q2⟩=>?_;exact hf v u s2 x y H2 I2 r1 r2 q2
theorem O7 {op:Operator}{r:R2}(ho:jF X (binaryOp op) r)(ha:PE X a ta)(hb:PE X b tb):PE X (.BinOp a op b pos) (Ig r ta tb):=by
 intro pins s σ H Q I h;exact wpAny_BinOp (L9 ha hb I h λv u s2 x y H2 I2 rx ry q=>ho pins s2 σ H2 x y v u Q I2 rx ry q)
theorem O8 (ho:RW X (unaryOp op) r)(ha:PE X a ta):PE X (.UnaryOp op a pos) (VA r ta):=by
 intro pins s σ H Q I h;exact UnaryOp_ (fy (ha pins s σ H _ I h) λv s1 ⟨x,H1,I1,r1,q1⟩=>ho pins s1 σ H1 x v Q I1 r1 q1)
theorem Oe {f:af->af->Sem af}{C:Int->Int->Prop}{g:Int->Int->Int}
  (rule:∀(i j:Int) (t u:Tok) (s:aq) (Q:af->aq->Prop) (E:af->aq->Prop),C i j->Q (.int (g i j) s.toks) { s with toks:=s.toks+1 }->ay (model X.prog X.w) X.A (f (.int i t) (.int j u)) Q E s) :
  jF X f (rI C λi j=>.int (g i j)):=by
 intro pins s σ H x y v u Q I rx ry h;obtain⟨i,j,rfl,rfl,hc,q⟩:=h;obtain⟨t,rfl⟩:=rx;obtain⟨t',rfl⟩:=ry;exact rule i j t t' s _ _ hc ⟨.int (g i j),H,I.tok _,⟨_,rfl⟩,q⟩
theorem Ma {f:af->af->Sem af}{g:Int->Int->Int}
  (rule:∀(i j:Int) (t u:Tok) (s:aq) (Q:af->aq->Prop) (E:af->aq->Prop),Q (.int (g i j) s.toks) { s with toks:=s.toks+1 }->ay (model X.prog X.w) X.A (f (.int i t) (.int j u)) Q E s) :
  jF X f (HB λi j=>.int (g i j)):=by
 intro pins s σ H x y v u Q I rx ry h;obtain⟨i,j,rfl,rfl,q⟩:=h;obtain⟨t,rfl⟩:=rx;obtain⟨t',rfl⟩:=ry;exact rule i j t t' s _ _ ⟨.int (g i j),H,I.tok _,⟨_,rfl⟩,q⟩
theorem Ih {f:af->af->Sem af}{g:Int->Int->Bool}
  (rule:∀(i j:Int) (t u:Tok) (s:aq) (Q:af->aq->Prop) (E:af->aq->Prop),Q (.bool (g i j)) s->ay (model X.prog X.w) X.A (f (.int i t) (.int j u)) Q E s) :
  jF X f (HB λi j=>.bl (g i j)):=by
 intro pins s σ H x y v u Q I rx ry h;obtain⟨i,j,rfl,rfl,q⟩:=h;obtain⟨t,rfl⟩:=rx;obtain⟨t',rfl⟩:=ry;exact rule i j t t' s _ _ ⟨.bl (g i j),H,I,rfl,q⟩
def Mb (i j:Int):Prop:=0<j/\j<1073741824
noncomputable def ES (i j:Int):Prop:=0<=j/\j<=1000000/\i.natAbs<2 ^ 64
noncomputable def zP (i j:Int):Prop:=(-(2 ^ 64)<i/\i<2 ^ 64)\/(-(2 ^ 64)<j/\j<2 ^ 64)
theorem zP.ok (h:zP i j):IntMulOk i j:=by
 rcases h with⟨h1,h2⟩ | ⟨h1,h2⟩
 .exact .of_left (intBits_le_64 h1 h2)
 .exact .of_right (intBits_le_64 h1 h2)
theorem zQ (k:Nat):(0:Int)<=2 ^ k:=by
 rw[two_pow_cast];exact Int.natCast_nonneg _
theorem se:jF X (binaryOp .Add) (HB λi j=>.int (i+j)):=Ma λ_ _ _ _ _ _ _ q=>add_int q
theorem Mc:jF X (binaryOp .Sub) (HB λi j=>.int (i - j)):=Ma λ_ _ _ _ _ _ _ q=>sub_int q
theorem pL:jF X (binaryOp .Mult) (rI zP λi j=>.int (i * j)):=Oe λ_ _ _ _ _ _ _ hc q=>mul_int q hc.ok
theorem wq:jF X (binaryOp .FloorDiv) (rI Mb λi j=>.int (i / j)):=Oe λi j _ _ _ _ _ hc q=>by
 have h1:(0:Int)<j:=hc.1;have h2:j<1073741824:=hc.2;exact floordiv_int (!1) (by rw[Int.fdiv_eq_ediv_of_nonneg i (!1)];exact q) (.inl (PyProof.noPylong_small (!1)))
theorem nq:jF X (binaryOp .Mod) (rI (λ_ j=>0<j) λi j=>.int (i % j)):=Oe λi j _ _ _ _ _ hc q=>by
 have h1:(0:Int)<j:=hc;exact mod_int' (!1) (by rw[Int.fmod_eq_emod_of_nonneg i (!1)];exact q)
theorem Md:jF X (binaryOp .Pow) (rI ES λi j=>.int (i ^ j.toNat)):=Oe λ_ _ _ _ _ _ _ hc q=>pow_int_small hc.1 hc.2.1 hc.2.2 q
theorem Me:jF X (binaryOp .LShift) (rI ES λi j=>.int (i * 2 ^ j.toNat)):=Oe λ_ _ _ _ _ _ _ hc q=>lshift_int_small hc.1 hc.2.1 hc.2.2 q
theorem Mf:jF X (binaryOp .RShift) (rI (λ_ j=>0<=j) λi j=>.int (i / 2 ^ j.toNat)):=Oe λi j _ _ _ _ _ hc q =>
 rshift_int hc (by rw[Int.fdiv_eq_ediv_of_nonneg i (zQ _)];exact q)
theorem Mg:jF X (binaryOp .BitAnd) (HB λi j=>.int (Builtin.bitAnd i j)):=Ma λ_ _ _ _ _ _ _ q=>and_int q
theorem WQ {f:af->Sem af}{g:Int->Int}
  (rule:∀(i:Int) (t:Tok) (s:aq) (Q:af->aq->Prop) (E:af->aq->Prop),Q (.int (g i) s.toks) { s with toks:=s.toks+1 }->ay (model X.prog X.w) X.A (f (.int i t)) Q E s) :
  RW X f (rU λi=>.int (g i)):=by
 intro pins s σ H x v Q I rx h;obtain⟨i,rfl,q⟩:=h;obtain⟨t,rfl⟩:=rx;exact rule i t s _ _ ⟨.int (g i),H,I.tok _,⟨_,rfl⟩,q⟩
theorem Mh:RW X (unaryOp .USub) (rU λi=>.int (-i)):=WQ λ_ _ _ _ _ q=>neg_int q
end
noncomputable def O9:V->V->Bool
 | .h8,.h8=>true | .h8,.int _=>true | .int _,.h8=>true | .h8,.bl _=>true | .bl _,.h8=>true | .h8,.str _=>true | .str _,.h8=>true
 | .int _,.int _=>true | .bl _,.bl _=>true | .str _,.str _=>true | .ED _,.ED _=>true
 | .int _,.str _=>true | .str _,.int _=>true | .bl _,.str _=>true | .str _,.bl _=>true
 | _,_=>false
def WR:R2:=λx y H Q=>O9 x y=true/\Q (.bl (decide (x=y))) H
def WS:R2:=λx y H Q=>O9 x y=true/\Q (.bl (!decide (x=y))) H
theorem Bu:decide (V.int i=V.int j)=(i == j):=by
 rw[cW];simp
theorem ET:decide (V.bl i=V.bl j)=(i == j):=by
 rw[cW];simp
theorem Bv:decide (V.str i=V.str j)=(i == j):=by
 rw[cW];simp
theorem Bw:decide (V.ED i=V.ED j)=(i.toList == j.toList):=by
 rw[cW];cases i;cases j;simp
section
variable {X:Cx}{a b c:Expr}{ta tb tc:TE}{pos:Pos}
theorem d6 (I:Inv X pins σ H s)(q:Q (.bl k) H)(e:k=k'):EP X pins σ Q (.bool k') s:=by
 subst e;exact⟨.bl k,H,I,rfl,q⟩
theorem O':jF X (compareOp .Eq) WR:=by
 intro pins s σ H x y v u Q I rx ry h;obtain⟨hs,q⟩:=h
 cases x with
 | h8 =>
  cases rx
  cases y with
  | h8=>cases ry;exact PySem.EqNone.eq_none_none (d6 I q (!4))
  | bl j=>cases ry;exact PySem.EqNone.eq_none_bool (d6 I q (!4))
  | int j=>obtain⟨t',rfl⟩:=ry;exact PySem.EqNone.eq_none_int (d6 I q (!4))
  | str j=>obtain⟨t',rfl⟩:=ry;exact PySem.EqNone.eq_none_str (d6 I q (!4))
  | _=>exact absurd (show false=true from hs) aR
 | bl i =>
  cases rx
  cases y with
  | h8=>cases ry;exact PySem.EqNone.eq_bool_none (d6 I q (!4))
  | bl j=>cases ry;exact eq_bool (d6 I q ET)
  | str j=>obtain⟨t',rfl⟩:=ry;exact PySem.EqMixed.eq_bool_str (d6 I q (!4))
  | _=>exact absurd (show false=true from hs) aR
 | int i =>
  obtain⟨t,rfl⟩:=rx
  cases y with
  | h8=>cases ry;exact PySem.EqNone.eq_int_none (d6 I q (!4))
  | int j=>obtain⟨t',rfl⟩:=ry;exact eq_int (d6 I q Bu)
  | str j=>obtain⟨t',rfl⟩:=ry;exact PySem.EqMixed.eq_int_str (d6 I q (!4))
  | _=>exact absurd (show false=true from hs) aR
 | str i =>
  obtain⟨t,rfl⟩:=rx
  cases y with
  | h8=>cases ry;exact PySem.EqNone.eq_str_none (d6 I q (!4))
  | bl j=>cases ry;exact PySem.EqMixed.eq_str_bool (d6 I q (!4))
  | int j=>obtain⟨t',rfl⟩:=ry;exact PySem.EqMixed.eq_str_int (d6 I q (!4))
  | str j=>obtain⟨t',rfl⟩:=ry;exact eq_str (d6 I q Bv)
  | _=>exact absurd (show false=true from hs) aR
 | ED i =>
  obtain⟨t,rfl⟩:=rx
  cases y with
  | ED j=>obtain⟨t',rfl⟩:=ry;exact W.eq_bytes (d6 I q Bw)
  | _=>exact absurd (show false=true from hs) aR
 | _=>cases y<;>exact absurd (show false=true from hs) aR
theorem Pa:jF X (compareOp .NotEq) WS:=by
 intro pins s σ H x y v u Q I rx ry h;obtain⟨hs,q⟩:=h
 cases x with
 | h8 =>
  cases rx
  cases y with
  | h8=>cases ry;exact PySem.EqNone.ne_none_none (d6 I q (!4))
  | bl j=>cases ry;exact PySem.EqNone.ne_none_bool (d6 I q (!4))
  | int j=>obtain⟨t',rfl⟩:=ry;exact PySem.EqNone.ne_none_int (d6 I q (!4))
  | str j=>obtain⟨t',rfl⟩:=ry;exact PySem.EqNone.ne_none_str (d6 I q (!4))
  | _=>exact absurd (show false=true from hs) aR
 | bl i =>
  cases rx
  cases y with
  | h8=>cases ry;exact PySem.EqNone.ne_bool_none (d6 I q (!4))
  | bl j=>cases ry;exact ne_bool (d6 I q (congrArg not ET))
  | str j=>obtain⟨t',rfl⟩:=ry;exact PySem.EqMixed.ne_bool_str (d6 I q (!4))
  | _=>exact absurd (show false=true from hs) aR
 | int i =>
  obtain⟨t,rfl⟩:=rx
  cases y with
  | h8=>cases ry;exact PySem.EqNone.ne_int_none (d6 I q (!4))
  | int j=>obtain⟨t',rfl⟩:=ry;exact ne_int (d6 I q (congrArg not Bu))
  | str j=>obtain⟨t',rfl⟩:=ry;exact PySem.EqMixed.ne_int_str (d6 I q (!4))
  | _=>exact absurd (show false=true from hs) aR
 | str i =>
  obtain⟨t,rfl⟩:=rx
  cases y with
  | h8=>cases ry;exact PySem.EqNone.ne_str_none (d6 I q (!4))
  | bl j=>cases ry;exact PySem.EqMixed.ne_str_bool (d6 I q (!4))
  | int j=>obtain⟨t',rfl⟩:=ry;exact PySem.EqMixed.ne_str_int (d6 I q (!4))
  | str j=>obtain⟨t',rfl⟩:=ry;exact ne_str (d6 I q (congrArg not Bv))
  | _=>exact absurd (show false=true from hs) aR
 | ED i =>
  obtain⟨t,rfl⟩:=rx
  cases y with
  | ED j=>obtain⟨t',rfl⟩:=ry;exact W.ne_bytes (d6 I q (congrArg not Bw))
  | _=>exact absurd (show false=true from hs) aR
 | _=>cases y<;>exact absurd (show false=true from hs) aR
theorem Ko:jF X (compareOp .Lt) (HB λi j=>.bl (decide (i<j))):=Ih λ_ _ _ _ _ _ _ q=>lt_int q
theorem Pb:jF X (compareOp .LtE) (HB λi j=>.bl (decide (i<=j))):=Ih λ_ _ _ _ _ _ _ q=>le_int q
theorem Kp:jF X (compareOp .Gt) (HB λi j=>.bl (decide (j<i))):=Ih λ_ _ _ _ _ _ _ q=>gt_int q
theorem Pc:jF X (compareOp .GtE) (HB λi j=>.bl (decide (j<=i))):=Ih λ_ _ _ _ _ _ _ q=>ge_int q
theorem Ii:jF X (compareOp .IsNot) (λx y H Q=>y=.h8/\Q (.bl (!decide (x=.h8))) H):=by
 intro pins s σ H x y v u Q I rx ry h;obtain⟨rfl,q⟩:=h;cases ry;refine isnot_none_gen (d6 I q ?_)
 cases x<;>first
  | (cases rx;rfl)
  | (obtain⟨t,rfl⟩:=rx;rfl)
theorem jF.or {f:af->af->Sem af}{r r':R2}(h:jF X f r)(h':jF X f r'):jF X f (λx y H Q=>r x y H Q\/r' x y H Q):=by
 intro pins s σ H x y v u Q I rx ry q;rcases q with q | q
 .exact h pins s σ H x y v u Q I rx ry q
 .exact h' pins s σ H x y v u Q I rx ry q
theorem kE (b:Expr)(h:op≠.In:=by decide)(h2:op≠.NotIn:=by decide):behindInMarks op b=false:=by
 have e1:(op == CmpOp.In)=false:=by cases op<;>first | rfl | exact absurd rfl h
 have e2:(op == CmpOp.NotIn)=false:=by cases op<;>first | rfl | exact absurd rfl h2
 cases b<;>simp[behindInMarks,e1,e2]
theorem Ij {op:CmpOp}{r:R2}(ho:jF X (compareOp op) r)(ha:PE X a ta)(hb:PE X b tb)(hm:behindInMarks op b=false):PE X (.Compare a [op] [b] pos) (Ig r ta tb):=by
 intro pins s σ H Q I h;exact wpAny_Compare1 (L9 ha hb I h λv u s2 x y H2 I2 rx ry q=>ho pins s2 σ H2 x y v u Q I2 rx ry q) hm
def Kq (t:TE):TT:=λσ H Q=>t σ H λx H'=>∃k,x=.bl k/\Q k H'
theorem Ik (ho:jF X (compareOp op) r)(ha:PE X a ta)(hb:PE X b tb)(hm:behindInMarks op b=false):PT X (.Compare a [op] [b] pos) (Kq (Ig r ta tb)):=by
 intro pins s σ H Q I h
 refine wpAny_isTrue_Compare1 (fy (ha pins s σ H _ I h) λv s1 ⟨x,H1,I1,r1,q1⟩=>fy (hb pins s1 σ H1 _ I1 q1) λu s2 ⟨y,H2,I2,r2,q2⟩ =>
  fy (ho pins s2 σ H2 x y v u _ I2 r1 r2 q2) λc s3 ⟨z,H3,I3,r3,k,e,q3⟩=>?_) hm
 subst e;cases r3;exact wpAny_truthy_bool ⟨H3,I3,q3⟩
theorem zR:(au:Nat)<2 ^ 63:=by rw[sizeLine_eq];decide
theorem zS:jF X (binaryOp .Add) (λx y H Q=>∃i j,x=.str i/\y=.str j/\i.length+j.length<=au/\Q (.str (i++j)) H):=by
 intro pins s σ H x y v u Q I rx ry h;obtain⟨i,j,rfl,rfl,hz,q⟩:=h;obtain⟨t,rfl⟩:=rx;obtain⟨t',rfl⟩:=ry;exact add_str (λt' tk=>⟨.str (i++j),H,I.tok _,⟨_,rfl⟩,q⟩) hz
theorem vals1 (r:dO [x] us):∃u,us=[u]/\RelV x u:=by
 cases r with
 | cons r1 r2=>cases r2;exact⟨_,rfl,r1⟩
theorem vals2 (r:dO [x,y] us):∃u w',us=[u,w']/\RelV x u/\RelV y w':=by
 cases r with
 | cons r1 r2 =>
  cases r2 with
  | cons r3 r4=>cases r4;exact⟨_,_,rfl,r1,r3⟩
theorem CH (hc:X.calm=true):fL X (.builtin "max") (λxs H Q=>∃i j,xs=[.int i,.int j]/\Q (.int (if j > i then j else i)) H):=by
 intro pins s σ H xs us Q I r h;obtain⟨i,j,rfl,q⟩:=h;obtain⟨u,w',rfl,⟨t,rfl⟩,⟨t',rfl⟩⟩:=vals2 r;refine max_two_ints (I.ok.hd hc) λh' tk k=>⟨_,H,I.kept k,?_,q⟩;by_cases hj:j > i
 .rw[if_pos hj,if_pos hj];exact⟨_,rfl⟩
 .rw[if_neg hj,if_neg hj];exact⟨_,rfl⟩
theorem CI (hc:X.calm=true):fL X (.builtin "min") (λxs H Q=>∃i j,xs=[.int i,.int j]/\Q (.int (if j<i then j else i)) H):=by
 intro pins s σ H xs us Q I r h;obtain⟨i,j,rfl,q⟩:=h;obtain⟨u,w',rfl,⟨t,rfl⟩,⟨t',rfl⟩⟩:=vals2 r;refine min_two_ints (I.ok.hd hc) λh' tk k=>⟨_,H,I.kept k,?_,q⟩;by_cases hj:j<i
 .rw[if_pos hj,if_pos hj];exact⟨_,rfl⟩
 .rw[if_neg hj,if_neg hj];exact⟨_,rfl⟩
theorem pM:fL X (.type "int") (λxs H Q=>(∃i,xs=[.int i]/\Q (.int i) H)\/∃k,xs=[.bl k]/\Q (.int (if k then 1 else 0)) H):=by
 intro pins s σ H xs us Q I r h;rcases h with⟨i,rfl,q⟩ | ⟨k,rfl,q⟩
 .obtain⟨u,rfl,t,rfl⟩:=vals1 r
  exact call_int_int ⟨.int i,H,I,⟨_,rfl⟩,q⟩
 .obtain⟨u,rfl,r1⟩:=vals1 r
  cases r1;exact call_int_bool ⟨.int (if k then 1 else 0),H,I.tok _,⟨_,rfl⟩,q⟩
end
structure Mi (h:Heap) (x dx C:Addr) (mA:Str->Option af):Prop where
 obj:h.get? x=some (W.instObj C dx)
 ns:h.Ns1 dx mA
 ne:dx≠x
theorem u7 {h:Heap}{dx:Addr}{mA:Str->Option af}(n:h.Ns1 dx mA):∃od,h.get? dx=some od/\∀name,W.lookIn name od=some (mA name):=by
 obtain⟨o,es,ep,ho,hd,hk,_,hm⟩:=n;refine⟨o,ho,λname=>?_⟩;have e:=hm name;unfold nsFind findBy at e;rw[<- Array.find?_toList] at e;unfold W.lookIn;rw[hd];dsimp only;split
 .rename_i y q
  rw[q] at e;exact congrArg some e
 .rename_i q
  rw[q] at e
  have a:es.toList.any (·.refKey)=false:=by
   rw[List.any_eq_false];intro y hy;obtain⟨z,t,Mj⟩:=hk y (Array.mem_toList_iff.mp hy);simp[DictEntry.refKey,Mj]
  have a':¬ es.toList.any (·.refKey)=true:=by rw[a];exact aR
  rw[if_neg a'];exact congrArg some e
theorem Mi.look (I:Mi h x dx C mA):∃od,W.InstAt h x (W.instObj C dx) C (some od)/\∀name,W.lookIn name od=some (mA name) :=
 let ⟨od,ho,hl⟩:=u7 I.ns
 ⟨od,⟨I.obj,rfl,rfl,ho⟩,hl⟩
noncomputable def CJ (f:Str)(v:V):List (Str × V)->List (Str × V)
 | []=>[(f,v)]
 | (g,x)::r=>if g=f then (g,v)::r else (g,x)::CJ f v r
theorem qF (f g:Str)(v:V):∀fs:List (Str × V),(CJ f v fs).lookup g=if g=f then some v else fs.lookup g
 | []=>by
  show cE g [(f,v)]=_;by_cases h:g=f
  .have hb:(g == f)=true:=beq_iff_eq.mpr h
   simp only[cE,hb,if_pos h]
  .have hb:(g == f)=false:=beq_eq_false_iff_ne.mpr h
   simp only[cE,hb,if_neg h]
 | (k,x)::r=>by
  have ih:=qF f g v r;rw[show CJ f v ((k,x)::r)=(if k=f then (k,v)::r else (k,x)::CJ f v r) from rfl];by_cases hk:k=f
  .rw[if_pos hk]
   by_cases h:g=k
   .have hb:(g == k)=true:=beq_iff_eq.mpr h
    simp only[cE,hb,if_pos (h.trans hk)]
   .have hb:(g == k)=false:=beq_eq_false_iff_ne.mpr h
    simp only[cE,hb,if_neg (λe:g=f=>h (e.trans hk.symm))]
  .rw[if_neg hk]
   by_cases h:g=k
   .have hb:(g == k)=true:=beq_iff_eq.mpr h
    simp only[cE,hb,if_neg (λe:g=f=>hk (h.symm.trans e))]
   .have hb:(g == k)=false:=beq_eq_false_iff_ne.mpr h
    simp only[cE,hb];exact ih
theorem oh.some_of (r:oh (some v) o):∃u,o=some u/\RelV v u:=by
 cases o with
 | none=>exact (show False from r).elim
 | some u=>exact⟨u,rfl,r⟩
section
theorem Il (hok:ka P w H h)(e:H a=some (.ins C dx fs)):∃mA,Mi h a dx C mA/\(∀f,oh (fs.lookup f) (mA f))/\PySem.Within mA (fs.map (·.1))/\fs.length<=1000/\H dx=some (.own a):=by
 obtain⟨d,z,ne,ob,mA,n,r,q⟩:=(show eQ P w H h a (.ins C dx fs) from hok a _ e);exact⟨mA,⟨ob,n,ne⟩,r,q,z,d⟩
end
structure SG (K:W.Frag) (C:Addr):Prop where
 pg:W.plainGet K C Str.empty=true
 hd:W.hasDictIn K C=true
 po:W.plainOver K C=true
 sa:W.findIn K (.ref C) "__setattr__" = some (some (.builtin "object.__setattr__"))
theorem SG.get {K:W.Frag}{C:Addr}(c:SG K C)(f:Str):W.plainGet K C f=true:=c.pg
section
inductive mU (K:W.Frag) (H:Hp):V->af->Prop where
 | h8:mU K H .h8 (.type "NoneType")
 | bl (x:Bool):mU K H (.bl x) (.type "bool")
 | int (i:Int):mU K H (.int i) (.type "int")
 | str (x:Str):mU K H (.str x) (.type "str")
 | Ob (x:UInt64):mU K H (.Ob x) (.type "float")
 | lst {a:Addr} {xs:List V} (e:H a=some (.lst xs)):mU K H (.ref a) (.type "list")
 | rV {a:Addr} {o:Obj} {xs:List V} (e:H a=some (.rV o (.lst xs))):mU K H (.ref a) (.type "list")
 | tup {a:Addr} {xs:List V} (e:H a=some (.tup xs)):mU K H (.ref a) (.type "tuple")
 | dK {a:Addr} {kvs:List (Key × V)} (e:H a=some (.dK kvs)):mU K H (.ref a) (.type "dict")
 | dT {a:Addr} {kvs:List (List Key × V)} (e:H a=some (.dT kvs)):mU K H (.ref a) (.type "dict")
 | ins {a C dx:Addr} {fs:List (Str × V)} (e:H a=some (.ins C dx fs)) (cl:SG K C) (ha:W.findIn K (.ref C) "__class__" = some (some (.builtin "object.__class__")))
   (hn:W.specialIn K (.builtin "object.__class__") "__get__" = some (some (.builtin "getset_descriptor.__get__"))) (VB:W.takesIn K (.builtin "object.__class__")=some true)
   (hm:W.mroIn K C (.type "object")=some true):mU K H (.ref a) (.ref C)
theorem CK {x:V}{u t:af}(I:Inv X pins σ H s)(rx:RelV x u)(ty:mU X.K H x t)(e:W.kitOne X.K t c=some b)(h:∀tk,Q (.bool b) { s with toks:=tk }) :
  ay (model X.prog X.w) A (call (.builtin "isinstance") [u,c]) Q E s:=by
 cases ty with
 | h8=>cases (show u=af.none from rx);exact W.kia_one W.kitx_none I.pJ True.intro e (λz=>nomatch z) h
 | bl y=>cases (show u=af.bool y from rx);exact W.kia_one W.kitx_bool I.pJ True.intro e (λz=>nomatch z) h
 | int i=>obtain⟨t,q⟩:=(show ∃t,u=af.int i t from rx);cases q;exact W.kia_one W.kitx_int I.pJ True.intro e (λz=>nomatch z) h
 | str y=>obtain⟨t,q⟩:=(show ∃t,u=af.str y t from rx);cases q;exact W.kia_one W.kitx_str I.pJ True.intro e (λz=>nomatch z) h
 | Ob y=>obtain⟨t,q⟩:=(show ∃t,u=af.float y t from rx);cases q;exact W.kia_one W.kitx_float I.pJ True.intro e (λz=>nomatch z) h
 | @lst a xs ea =>
  cases (show u=af.ref a from rx);obtain⟨_,_,n,_,h1⟩:=(show eQ X.prog X.w H s.heap a (.lst xs) from I.hok a _ ea);exact W.kia_one W.kitx_list I.pJ ⟨_,h1,rfl⟩ e (λz=>nomatch z) h
 | @rV a ob xs ea =>
  cases (show u=af.ref a from rx);obtain⟨_,_,_,n,_,h1⟩:=(show eQ X.prog X.w H s.heap a (.rV ob (.lst xs)) from I.hok a _ ea);exact W.kia_one W.kitx_list I.pJ ⟨_,h1,rfl⟩ e (λz=>nomatch z) h
 | @tup a xs ea =>
  cases (show u=af.ref a from rx);obtain⟨_,_,_,p⟩:=(show eQ X.prog X.w H s.heap a (.tup xs) from I.hok a _ ea);obtain⟨o,h1,h2,_⟩:=p;exact W.kia_one W.kitx_tuple I.pJ ⟨o,h1,h2⟩ e (λz=>nomatch z) h
 | @dK a kvs ea =>
  cases (show u=af.ref a from rx);obtain⟨_,_,vs,_,p⟩:=(show eQ X.prog X.w H s.heap a (.dK kvs) from I.hok a _ ea);obtain⟨o,es,ep,h1,h2,_⟩:=p;exact W.kia_one W.kitx_dict I.pJ ⟨o,h1,h2.1⟩ e (λz=>nomatch z) h
 | @dT a kvs ea =>
  cases (show u=af.ref a from rx);obtain⟨_,_,xs,_,o,es,ep,h1,h2,_⟩:=(show eQ X.prog X.w H s.heap a (.dT kvs) from I.hok a _ ea);exact W.kia_one W.kitx_dict I.pJ ⟨o,h1,h2.1⟩ e (λz=>nomatch z) h
 | @ins a C dx fs ea cl ha hn VB hm =>
  cases (show u=af.ref a from rx);obtain⟨mA,O,_⟩:=Il I.hok ea;obtain⟨od,J,_⟩:=O.look;exact W.kia_one (W.kitx_own (cl.get _) cl.hd ha hn VB hm) I.pJ J e (λz=>nomatch z) h
end
structure fu (k:Nat) (A:Around):Prop where
 hd:A.handled=none
 dp:A.depth+3 * k+5<recursionLimit
 un:A.units+16 * k+200<cLine
 gd:A.guards=some []
theorem fu.mono (r:fu k A)(h:j<=k):fu j A:=⟨r.hd,by have:=r.dp;omega,by have:=r.un;omega,r.gd⟩
theorem fu.deeper (r:fu (k+1) A)(env:Env):fu k (A.deeper env) :=
 ⟨r.hd,by have:=r.dp;show A.depth+1+3 * k+5<_;omega,by have:=r.un;show A.units+3+16 * k+200<_;omega,r.gd⟩
theorem zT {A:Around}{C:Addr}{us:List af}{kw:List (Str × af)}:(A.under (.builtin "type.__call__" ⟨.ref C::us,kw⟩)).depth=A.depth+1:=by
 first | rfl | simp[Around.under,Code.weight,Code.isCreation,Code.isGuard,Code.isCaller,Code.frames,Code.isFrame,guardIds]
theorem zU {A:Around}{C:Addr}{us:List af}{kw:List (Str × af)}:(A.under (.builtin "type.__call__" ⟨.ref C::us,kw⟩)).units=A.units+1:=by
 first | rfl | simp[Around.under,Code.cUnits,Code.frames,Code.isFrame]
theorem fu.make (r:fu (k+1) A)(C:Addr)(us:List af)(kw:List (Str × af)):fu k (A.under (.builtin "type.__call__" ⟨.ref C::us,kw⟩)) :=
 ⟨r.hd,by have:=r.dp;rw[zT];omega,by have:=r.un;rw[zU];omega,by first | exact r.gd | (have:=r.gd;simpa [Around.under,Code.isGuard,guardIds] using this)⟩
theorem fu.depth (r:fu k A):A.depth<recursionLimit:=by have:=r.dp;omega
theorem fu.units (r:fu k A):A.units+64<cLine:=by have:=r.un;omega
def Mk:TA:=λ_ H Q=>Q [] H
def EU (ta:TE)(tr:TA):TA:=λσ H Q=>ta σ H λx H1=>tr σ H1 λxs H2=>Q (x::xs) H2
section
variable {X:Cx}{e:Expr}{es:List Expr}{te:TE}{t:TA}{pos:Pos}
theorem Ml:PA X [] Mk:=λ_ _ _ _ H Q I h=>Calls.spliced_nil ⟨[],H,I,.nil,h⟩
theorem Im (ha:PE X e te)(hr:PA X es t)(hs:starEach (e::es) X.env=(false,eval e X.env)::starEach es X.env:=by rfl):PA X (e::es) (EU te t):=by
 intro pos pins s σ H Q I h;rw[hs];show ay _ _ (spliced ((false,eval e X.env)::backTo pos (starEach es X.env))) _ _ s;refine Calls.spliced_cons (fy (ha pins s σ H _ I h) λu s1 ⟨x,H1,I1,r1,q1⟩=>?_);exact fy (hr pos pins s1 σ H1 _ I1 q1) λus s2 ⟨xs,H2,I2,r2,q2⟩=>⟨x::xs,H2,I2,.cons r1 r2,q2⟩
def Pd (t:TA):TE:=λσ H Q=>t σ H λxs H1=>xs.length<=au/\∀p,H1 p=none->Q (.ref p) (d0 H1 p (.tup xs))
def Pe (t:TA):TE:=λσ H Q=>t σ H λxs H1=>xs.length<=au/\∀p,H1 p=none->Q (.ref p) (d0 H1 p (.lst xs))
theorem Mm {x1}(h:PA X es t):PE X (.Tuple es x1 pos) (Pd t):=by
 intro pins s σ H Q I hq;refine wpAny_Tuple_spliced (fy (h pos pins s σ H _ I hq) λus s1 ⟨xs,H1,I1,r,z,q⟩=>⟨by rw[<- r.length];exact z,?_⟩);have hf:H1 s1.heap.objs.size=none:=I1.hok.fresh (al _);refine⟨.ref s1.heap.objs.size,d0 H1 s1.heap.objs.size (.tup xs),I1.laid (t':=s1.toks) (λb u e=>ag _ e) (al _) ?_,rfl,q _ hf⟩;exact⟨z,us,r,⟨_,aA _ rfl,rfl,_,rfl,rfl⟩⟩
theorem Mn (h:PA X es t):PE X (.List es pos) (Pe t):=by
 intro pins s σ H Q I hq;refine wpAny_List_spliced (fy (h pos pins s σ H _ I hq) λus s1 ⟨xs,H1,I1,r,z,q⟩=>⟨by rw[<- r.length];exact z,?_⟩);have hf:H1 s1.heap.objs.size=none:=I1.hok.fresh (al _);refine⟨.ref s1.heap.objs.size,d0 H1 s1.heap.objs.size (.lst xs),I1.laid (t':=s1.toks) (λb u e=>ag _ e) (al _) ?_,rfl,q _ hf⟩;exact⟨z,us,0,r,aA _ rfl⟩
end
abbrev Sp:=List V->Hp->VK->XK->Prop
abbrev Eu:=List Env->Hp->aq->XK->af->aq->Prop
structure zV (P:aV) (w:World) (K:W.Frag) (mg:Str->Option af) (base:Heap) (A:Around) (outer:List Env) (s:aq) (H:Hp):Prop where
 frames:A.frames=some outer
 mod:Mod K mg base
 bs:∀b o,base.get? b=some o->s.heap.get? b=some o/\H b=none
 HS:base.objs.size<=s.heap.objs.size
 pI:s.heap.FunFrames base outer
 Kc:∀b∈nk outer,H b=none
 hok:ka P w H s.heap
 bare:AllBare s.gens
noncomputable def CE (outer:List Env)(P:aV)(w:World)(H:Hp)(s:aq)(Q:VK)(u:af)(s':aq):Prop :=
 ∃v H',s'.os=s.os/\AllBare s'.gens/\Un (nk outer) [] H H' s.heap s'.heap/\ka P w H' s'.heap/\RelV v u/\Q v H'
def CR (CX:Eu)(outer:List Env)(P:aV)(w:World)(H:Hp)(s:aq)(Q:VK)(E:XK)(r:Result)(s':aq):Prop :=
 match r with
 | .ok (.ret u)=>CE outer P w H s Q u s'
 | .ok _=>False
 | .error e=>CX outer H s E e s'
structure iO (P:aV) (w:World) (K:W.Frag) (mg:Str->Option af) (base:Heap) (CX:Eu) (k:Nat) (f:Addr) (fd:bt) (ps:List Str) (sp:Sp):Prop where
 len:∀vs H Q E,sp vs H Q E->vs.length=ps.length
 run:∀(A:Around) (outer:List Env) (s:aq) (H:Hp) (args:Args) (us:List af) (vs:List V) (Q:VK) (E:XK),fu k A->zV P w K mg base A outer s H->BindsTo s fd args (ps.zip us)->dO vs us->sp vs H Q E ->
  codeAny (model P w) A (.call (.ref f) args) (CR CX outer P w H s Q E) s
theorem iO.mono {P:aV}{w:World}{K:W.Frag}{mg:Str->Option af}{base:Heap}{CX:Eu}{j k:Nat}{f:Addr}{fd:bt}{ps:List Str}{sp:Sp}(F:iO P w K mg base CX j f fd ps sp)(h:j<=k) :
  iO P w K mg base CX k f fd ps sp:=⟨F.len,λA outer s H args us vs Q E hr=>F.run A outer s H args us vs Q E (hr.mono h)⟩
theorem iO.imp {P:aV}{w:World}{K:W.Frag}{mg:Str->Option af}{base:Heap}{CX:Eu}{k:Nat}{f:Addr}{fd:bt}{ps:List Str}{sp Pf:Sp}(F:iO P w K mg base CX k f fd ps sp)
  (h:∀vs H Q E,Pf vs H Q E->sp vs H Q E):iO P w K mg base CX k f fd ps Pf :=
 ⟨λvs H Q E q=>F.len vs H Q E (h _ _ _ _ q),λA outer s H args us vs Q E hr he hb hv hs=>F.run A outer s H args us vs Q E hr he hb hv (h _ _ _ _ hs)⟩
theorem zV.make {P:aV}{w:World}{K:W.Frag}{mg:Str->Option af}{base:Heap}{A:Around}{outer:List Env}{s:aq}{H:Hp}(e:zV P w K mg base A outer s H)(C:Addr)(us:List af)(kw:List (Str × af)) :
  zV P w K mg base (A.under (.builtin "type.__call__" ⟨.ref C::us,kw⟩)) outer s H:=⟨by first | exact e.frames | (simpa [Around.under,Code.envs,Code.isFrame,pushEnvs] using e.frames),e.mod,e.bs,e.HS,e.pI,e.Kc,e.hok,e.bare⟩
section
theorem Inv.Mo (I:Inv X pins σ H s):zV X.prog X.w X.K X.mg X.base X.A X.stack s H :=
 ⟨I.ok.frames,I.ok.mod,I.bs,aT I.ok.HS I.sz,I.stack,I.rE,I.hok,I.bare⟩
theorem Inv.after {Q:VK}{u:af}(I:Inv X pins σ H s)(h:CE X.stack X.prog X.w H s Q u s'):EP X pins σ Q u s':=by
 obtain⟨v,H',os,bare,un,hok,r,q⟩:=h;obtain⟨hh,g,d,t,SH⟩:=s';obtain rfl:SH=s.os:=os;exact⟨v,H',I.call (h':=hh) (g':=g) (d':=d) (t':=t) (ch:=[]) un hok bare (λb z=>absurd z (!4)),r,q⟩
end
def EV (sp:Sp)(Mp:List V)(E:XK)(t:TA):TE:=λσ H Q=>t σ H λvs H1=>sp (vs++Mp) H1 Q E
def Binds (K:W.Frag)(fd:bt)(ps:List Str)(ds:List af):Prop :=
 ∀(s:aq) (us:List af),K.In s.heap->(us++ds).length=ps.length->BindsTo s fd ⟨us,[]⟩ (ps.zip (us++ds))
theorem Binds.all {K:W.Frag}{fd:bt}{ps:List Str}(h:∀us:List af,us.length=ps.length->bindArgs fd ⟨us,[]⟩=pure (ps.zip us)):Binds K fd ps []:=λs us _ hl=>by
 rw[bj] at hl ⊢;exact .of_eq (h us hl)
def zW (CX:Eu)(X:Cx)(E:XK):Prop:=∀(pins:List (Addr × Obj)) (σ:St) (H:Hp) (s:aq) (e:af) (s':aq),Inv X pins σ H s->CX X.stack H s E e s'->X.xe e s'
section
theorem Mq {pins:List (Addr × Obj)}{σ:St}{H:Hp}{s:aq}{Q:VK}{us:List af}{vs:List V}(F:iO X.prog X.w X.K X.mg X.base CX k f fd ps sp)(hr:fu k X.A)(hb:Binds X.K fd ps ds)(hd:dO Mp ds)(hx:zW CX X E)
  (I:Inv X pins σ H s) (r:dO vs us) (h:sp (vs++Mp) H Q E):ay (model X.prog X.w) X.A (call (.ref f) us) (EP X pins σ Q) X.xe s:=by
 have r2:dO (vs++Mp) (us++ds):=r.append hd;have hl:(us++ds).length=ps.length:=by rw[<- r2.length];exact F.len _ _ _ _ h
 refine wpAny_call (codeAny_mono (F.run X.A X.stack s H ⟨us,[]⟩ (us++ds) (vs++Mp) Q E hr I.Mo (hb s us I.pJ hl) r2 h) λr s' hq=>?_)
 cases r with
 | error e=>exact hx pins σ H s e s' I hq
 | ok fl =>
  cases fl with
  | ret u=>exact I.after hq
  | next=>exact False.elim hq
  | brk=>exact False.elim hq
  | cont=>exact False.elim hq
theorem Io (F:iO X.prog X.w X.K X.mg X.base CX k f fd ps sp)(hr:fu k X.A)(hg:Gl X x)(hm:X.mg x=some (.ref f))(hk:W.keepIn X.K (.ref f)=true)(hb:Binds X.K fd ps ds)(hd:dO Mp ds)(hx:zW CX X E)
  (ha:PA X (e::es) t) (lK:(x == ("__debug__" : Str))=false:=by decide) (he:starEach (e::es) X.env=(false,eval e X.env)::starEach es X.env:=by rfl) (m7:(backTo pos (starEach es X.env)).any (·.1)=false:=by rfl) :
  PE X (.Call (.Name x p) (e::es) [] pos) (EV sp Mp E t):=by
 intro pins s σ H Q I h;refine wpAny_Call_Name_kw (rG I hg hm ?_ lK);refine W.callWith_K (h₀:=X.base) I.ok.mod.OJ hk (fy (ha pos pins s σ H _ I h) λus s1 ⟨vs,H1,I1,r,q⟩=>⟨I1.pJ,?_⟩) he m7;exact Mq F hr hb hd hx I1 r q
end
structure eO (N P:List Str) (sc:Scope):Prop where
 kind:sc.kind=.function
 co:sc.isCoroutine=false
 gen:sc.isGenerator=false
 nd:N.Nodup
 pre:N.take P.length=P
 par:∀x∈P,sc.names.lookup x=some .local\/sc.names.lookup x=some .cell
 Mr:∀y∈sc.names,y.2≠.free
theorem u9 {kindOf:Str->Option aH}{x:Str}:∀{binds:List (Str × af)} {m:Str->Option af},(∀v,(x,v) ∉ binds)->bindL kindOf binds m x=m x
 | [],_,_=>rfl
 | (n,v)::r,m,h=>by
  unfold bindL;rw[u9 λw hw=>h w (am _ hw)];split
  .have:x≠n:=by rintro rfl;exact h v ao
   simp[this]
  .rfl
theorem vc {kindOf:Str->Option aH}{x:Str}:∀{binds:List (Str × af)} {m:Str->Option af},(∀v,(x,v) ∉ binds)->bindC kindOf binds m x=m x
 | [],_,_=>rfl
 | (n,v)::r,m,h=>by
  unfold bindC;rw[vc λw hw=>h w (am _ hw)];split
  .rfl
  .have:x≠n:=by rintro rfl;exact h v ao
   simp[this]
theorem vd {kindOf:Str->Option aH}{x:Str}{v:af}:∀{P:List Str} {vs:List af} {i:Nat} {m:Str->Option af},P.Nodup->P[i]? = some x->vs[i]? = some v->kindOf x=some .local ->
  bindL kindOf (P.zip vs) m x=some v
 | [],_,_,_,_,h,_,_=>by simp at h
 | _::_,[],_,_,_,_,h,_=>by simp at h
 | p::P,w::vs,0,m,nd,h1,h2,hk=>by
  simp at h1 h2;subst h1;subst h2;show bindL kindOf ((p,w)::P.zip vs) m p=_;unfold bindL;rw[u9 λv hv=>(bF.mp nd).1 (List.of_mem_zip hv).1,if_pos hk];simp
 | p::P,w::vs,i+1,m,nd,h1,h2,hk=>by
  show bindL kindOf ((p,w)::P.zip vs) m x=_;unfold bindL;exact vd (i:=i) (bF.mp nd).2 (by simpa using h1) (by simpa using h2) hk
theorem vf {kindOf:Str->Option aH}{x:Str}{v:af}:∀{P:List Str} {vs:List af} {i:Nat} {m:Str->Option af},P.Nodup->P[i]? = some x->vs[i]? = some v->kindOf x≠some .local ->
  bindC kindOf (P.zip vs) m x=some v
 | [],_,_,_,_,h,_,_=>by simp at h
 | _::_,[],_,_,_,_,h,_=>by simp at h
 | p::P,w::vs,0,m,nd,h1,h2,hk=>by
  simp at h1 h2;subst h1;subst h2;show bindC kindOf ((p,w)::P.zip vs) m p=_;unfold bindC;rw[vc λv hv=>(bF.mp nd).1 (List.of_mem_zip hv).1,if_neg hk];simp
 | p::P,w::vs,i+1,m,nd,h1,h2,hk=>by
  show bindC kindOf ((p,w)::P.zip vs) m x=_;unfold bindC;exact vf (i:=i) (bF.mp nd).2 (by simpa using h1) (by simpa using h2) hk
def start (N:List Str)(vs:List V):St:=vs.map some++List.replicate (N.length - vs.length) none
def kF (CX:Eu)(P:aV)(w:World)(K:W.Frag)(mg:Str->Option af)(base:Heap)(N:List Str)(eK:Str)(scope:Scope)(f:Addr)(cd:af)(A:Around)(outer:List Env)(s:aq)(H:Hp)(E:XK):Cx where
 prog:=P
 w:=w
 K:=K
 mg:=mg
 base:=base
 A:=A.deeper (envOfC eK scope s.heap.objs.size f cd)
 N:=N
 s₀:=s
 H₀:=H
 env:=envOfC eK scope s.heap.objs.size f cd
 outer:=outer
 stack:=envOfC eK scope s.heap.objs.size f cd::outer
 ex:=[]
 calm:=true
 fn:=λ_=>true
 pn:=[]
 xe:=λe s'=>ay (model P w) (A.deeper (envOfC eK scope s.heap.objs.size f cd)) (leaving (envOfC eK scope s.heap.objs.size f cd) e) (λ_ Ms=>CX outer H s E e Ms) (λe' Ms=>CX outer H s E e' Ms) s'
theorem xI {sc:Scope}{n:Nat}{x:Str}(h:sc.names.lookup x=some .cell):∃c,(cellsFrom n sc.names []).lookup x=some c:=by
 have q:=W.cellsFrom_some sc.names n [] (.inl h);exact bJ.mp q
theorem CL {CX:Eu}{P:aV}{w:World}{K:W.Frag}{mg:Str->Option af}{base:Heap}{N ps:List Str}{eK:Str}{scope:Scope}{f:Addr}{cd:af}{A:Around}{outer:List Env}{s s1:aq}{H:Hp}{E:XK}{us:List af}{vs:List V}
  (S:eO N ps scope) (hd:A.handled=none) (e0:zV P w K mg base A outer s H) (hl:vs.length=ps.length) (r:dO vs us)
  (x:InCallC s s.heap.objs.size (bindL (envOfC eK scope s.heap.objs.size f cd).kindOf (ps.zip us) λ_=>none) (cellsFrom (s.heap.objs.size+1) scope.names []) (bindC (envOfC eK scope s.heap.objs.size f cd).kindOf (ps.zip us) λ_=>none) s1) :
  Inv (kF CX P w K mg base N eK scope f cd A outer s H E) [] (start N vs) H s1:=by
 have m7:ps.length<=N.length:=by have:=congrArg List.length S.pre;rw[bH] at this;omega
 obtain⟨h1,tk,rfl,hk⟩:=x.done;have Pg:∀b:Addr,b ∉ (kF CX P w K mg base N eK scope f cd A outer s H E).ex:=λb z=>absurd (show b∈([]:List Addr) from z) (!4)
 refine⟨⟨e0.mod,S.kind,rfl,rfl,al _,λy z c h1 h2=>?_,λy hy=>?_,λy c _ h=>?_,λ_=>hd,Around.frames_deeper e0.frames,.inr ⟨rfl,rfl⟩,λb z=>absurd z (Pg b),e0.bs,e0.HS,λb _ _=>Pg b,λb z=>absurd z (Pg b),e0.pI,e0.Kc⟩,
  rfl,e0.bare,Un.kept hk,⟨_,x.toInCall.ns,λi y v h1 h2 h3=>?_⟩,λy c h=>⟨_,x.cell y c h⟩,e0.hok.fresh (al _),λy c h=>?_,λp hp=>absurd (show p∈([]:List (Addr × Obj)) from hp) (!4),e0.hok.kept hk,?_⟩
 .exact name_of_addr x.apart (PySem.mem_of_lookup h1) (PySem.mem_of_lookup h2)
 .have hy:scope.names.lookup y=some .cell\/scope.names.lookup y=some .free:=hy
  rcases hy with hy | hy
  .exact xI hy
  .exact absurd rfl (S.Mr _ (PySem.mem_of_lookup hy))
 .exact cR (x.above y c (PySem.mem_of_lookup h))
 .have hi:i<vs.length:=by
   unfold start at h2;by_cases hi:i<vs.length
   .exact hi
   .rw[bW (by simpa using hi)] at h2
    rw[cb] at h2;split at h2<;>cases h2
  have ha:vs[i]? = some v:=by
   unfold start at h2;rw[bP (by simpa using hi),az] at h2
   cases e:vs[i]? with
   | none=>rw[e] at h2;cases h2
   | some a=>rw[e] at h2;cases h2;rfl
  obtain⟨u,hu,rv⟩:=r.get ha
  have hp:ps[i]? = some y:=by
   rw[<- S.pre,List.getElem?_take_of_lt (!1)];exact h1
  have VC:ps.Nodup:=by rw[<- S.pre];exact S.nd.sublist (List.take_sublist _ _)
  refine⟨u,rv,?_⟩;rcases S.par y (bB hp) with k | k
  .exact .inl ⟨k,vd VC hp hu k⟩
  .obtain⟨c,e⟩:=xI (n:=s.heap.objs.size+1) k
   refine .inr ⟨.inl k,c,e,?_⟩;have q:=x.cell y c e;rw[vf VC hp hu (by show scope.names.lookup y≠_;rw[k];decide)] at q;exact q
 .exact e0.hok.fresh (cR (x.above y c (PySem.mem_of_lookup h)))
 .unfold start
  show _=N.length;rw[aO,ai,cB];omega
theorem Kr {CX:Eu}{P:aV}{w:World}{K:W.Frag}{mg:Str->Option af}{base:Heap}{k:Nat}{f:Addr}{name eK:Str}{params:Arguments}{body:List Stmt}{scope:Scope}{dV kV sf pm d8 ct oc:af}{an od:Option Addr}
  {Bx:Array (Option af)} {N ps:List Str} {sp:Sp} (lk:K.lookup f=some ⟨oc,od,.func (W.fnOf name eK params body scope dV kV sf pm an d8 ct),Bx⟩) (jl:W.codeIn K d8 eK=true) (S:eO N ps scope)
  (len:∀vs H Q E,sp vs H Q E->vs.length=ps.length)
  (sg:∀(A:Around) (outer:List Env) (s:aq) (H:Hp) (vs:List V) (Q:VK) (E:XK),fu k (A.deeper (envOfC eK scope s.heap.objs.size f d8))->sp vs H Q E ->
   ∃t,zF (kF CX P w K mg base N eK scope f d8 A outer s H E) body t/\t { nx:=λ_ H'=>Q .h8 H',rt:=Q } (start N vs) H) :
  iO P w K mg base CX (k+1) f (W.fnOf name eK params body scope dV kV sf pm an d8 ct) ps sp:=by
 refine⟨len,λA outer s H args us vs Q E hr e0 hb r xB=>?_⟩;have hl:=len _ _ _ _ xB;have KX:K.In s.heap:=e0.mod.OJ.keeps λb o e=>(e0.bs b o e).1;have WT:s.heap.NoLimit:=e0.mod.nolimit.keeps λb o e=>(e0.bs b o e).1
 have Ph:∀y∈ps.zip us,scope.names.lookup y.1=some .local\/(scope.names.lookup y.1=some .cell/\((cellsFrom (s.heap.objs.size+1) scope.names []).lookup y.1).isSome=true):=λ⟨n,v⟩ hy=>by
  rcases S.par n (List.of_mem_zip hy).1 with q | q
  .exact .inl q
  .exact .inr ⟨q,W.cellsFrom_some _ _ _ (.inl q)⟩
 refine codeAny_call_function hr.depth (KX _ _ lk) rfl S.co S.gen rfl (W.codeRec_of KX jl) (hb _ _ _ _ ?_);refine wpAny_newFunctionEnv_cells S.kind Ph λenv he s1 x=>?_;subst he;refine⟨WT.keeps x.toInCall.keep,codeAny_func ?_⟩;obtain⟨t,ht,hq⟩:=sg A outer s H vs Q E (hr.deeper _) xB;have I:Inv (kF CX P w K mg base N eK scope f d8 A outer s H E) [] (start N vs) H s1:=CL S hr.hd e0 hl r x;refine bD (ht [] s1 (start N vs) H _ I hq) (λfl s' hs=>?_) λe s' hs=>hs
 have gG:∀{σ':St} {H':Hp} {v:V} {u:af},Inv (kF CX P w K mg base N eK scope f d8 A outer s H E) [] σ' H' s'->RelV v u->Q v H'->CE outer P w H s Q u s' :=
  λ{σ' H' v u} J rv q=>⟨v,H',J.os,J.bare,J.base,J.hok,rv,q⟩
 cases fl with
 | ret u =>
  obtain⟨v,σ',H',J,rv,q⟩:=hs;exact gG J rv q
 | next =>
  obtain⟨σ',H',J,q⟩:=hs;exact gG (v:=V.h8) (u:=af.none) J rfl q
 | brk =>
  obtain⟨_,_,_,q⟩:=hs;exact False.elim q
 | cont =>
  obtain⟨_,_,_,q⟩:=hs;exact False.elim q
section
variable {X:Cx}{x:Str}{p pos:Pos}{e:Expr}{es:List Expr}{t:TA}{id T:String}{r:List V->Hp->VK->Prop}
def Pj (r:List V->Hp->VK->Prop)(t:TA):TE:=λσ H Q=>t σ H λvs H1=>r vs H1 Q
theorem EW (hc:fL X (.builtin id) r)(hg:Gl X x)(hm:X.mg x=none)(hv:bootBuiltins x=some (.builtin id))(ha:PA X (e::es) t)(hn:x ≠ "__name__" := by decide)(lK:(x == ("__debug__" : Str))=false:=by decide)
  (he:starEach (e::es) X.env=(false,eval e X.env)::starEach es X.env:=by rfl) (m7:(backTo pos (starEach es X.env)).any (·.1)=false:=by rfl):PE X (.Call (.Name x p) (e::es) [] pos) (Pj r t):=by
 intro pins s σ H Q I h;refine wpAny_Call_Name_kw (rY I hg hm hv ?_ hn lK);exact PyProof.Rows.callWith_builtin1 (fy (ha pos pins s σ H _ I h) λus s1 ⟨vs,H1,I1,r1,q1⟩=>hc pins s1 σ H1 vs us Q I1 r1 q1) he m7
theorem CM (hc:fL X (.type T) r)(hg:Gl X x)(hm:X.mg x=none)(hv:bootBuiltins x=some (.type T))(ha:PA X (e::es) t)(hn:x ≠ "__name__" := by decide)(lK:(x == ("__debug__" : Str))=false:=by decide)
  (he:starEach (e::es) X.env=(false,eval e X.env)::starEach es X.env:=by rfl) (m7:(backTo pos (starEach es X.env)).any (·.1)=false:=by rfl):PE X (.Call (.Name x p) (e::es) [] pos) (Pj r t):=by
 intro pins s σ H Q I h;refine wpAny_Call_Name_kw (rY I hg hm hv ?_ hn lK);exact PyProof.Rows.callWith_type1 (fy (ha pos pins s σ H _ I h) λus s1 ⟨vs,H1,I1,r1,q1⟩=>hc pins s1 σ H1 vs us Q I1 r1 q1) he m7
end
end L2
namespace HT
open PySem PyProof.Rows
section
theorem Ip {t b:Addr}{vs ws:List af}{Q:af->aq->Prop}(ht:IsTup s.heap t vs.toArray)(hb:IsTup s.heap b ws.toArray)(hv:vs≠[])
  (h1:ws=[]->Q (.ref t) s) (h2:ws≠[]->Q (.ref s.heap.objs.size) { s with heap:=s.heap.push { cls:=.type "tuple",data:=.seq (vs++ws).toArray } })
  (hsz:vs.length+ws.length<=au):ay (model prog w) A (binaryOp .Add (.ref t) (.ref b)) Q E s:=by
 obtain⟨⟨cls,dd,data,sl⟩,ho,hc,n,hd⟩:=id ht;obtain⟨⟨SI,RX,data2,Of⟩,Mt,Mu,n2,Mv⟩:=id hb;simp only at hc hd Mu Mv;subst hc hd Mu Mv;have e:vs.toArray++ws.toArray=(vs++ws).toArray:=by simp
 by_cases hw:ws=[]
 .exact concat_meets ⟨_,ho,rfl⟩ ⟨_,Mt,rfl⟩ noFill_tuple_add seq_tuple_add PySem.F.slot_tuple_add PySem.F.entry_tuple_add (PySem.F.args_tuple_add_2 _ _)
   (tuple_addW1 t b vs.toArray ws.toArray n n2 dd RX sl Of (by simpa using hv) (by simp[hw])) ⟨ho,Mt,h1 hw⟩
 .refine concat_meets ⟨_,ho,rfl⟩ ⟨_,Mt,rfl⟩ noFill_tuple_add seq_tuple_add PySem.F.slot_tuple_add PySem.F.entry_tuple_add (PySem.F.args_tuple_add_2 _ _)
   (tuple_addW2 t b vs.toArray ws.toArray n n2 dd RX sl Of (by simpa using hv) (by simpa using hw) (by rw[aB,aB];exact hsz)) ⟨ho,Mt,?_⟩
  rw[e];exact h2 hw
noncomputable def gj (n d:Nat):Option Int->Nat
 | none=>d
 | some v=>if v<0 then (v+(n:Int)).toNat else min v.toNat n
theorem oj (n d:Nat):gj n d none=d:=rfl
theorem rH (n d k:Nat):gj n d (some (k:Int))=min k n:=by
 show (if (k:Int)<0 then ((k:Int)+(n:Int)).toNat else min (k:Int).toNat n)=min k n;rw[if_neg (!1),aX]
theorem Mw (n d:Nat)(hd:d<=n)(o:Option Int):gj n d o<=n:=by
 cases o with
 | none=>exact hd
 | some v =>
  show (if v<0 then (v+(n:Int)).toNat else min v.toNat n)<=n;by_cases hv:v<0
  .rw[if_pos hv];omega
  .rw[if_neg hv];exact Nat.min_le_right _ _
theorem By (v:Int)(n d:Nat):(if v<0 then max (v+(n:Int)) 0 else min v (n:Int))=((gj n d (some v):Nat):Int):=by
 show (if v<0 then max (v+(n:Int)) 0 else min v (n:Int))=(((if v<0 then (v+(n:Int)).toNat else min v.toNat n):Nat):Int);by_cases hv:v<0
 .simp only[if_pos hv];omega
 .simp only[if_neg hv];omega
theorem zX (lo hi:Option Int)(n:Nat):Builtin.Slice.sliceAdjust lo hi 1 (n:Int)=(((gj n 0 lo:Nat):Int),((gj n n hi:Nat):Int)):=by
 have h1:¬ ((1:Int)<0):=by omega
 unfold Builtin.Slice.sliceAdjust;simp only[h1,if_false];refine Prod.ext ?_ ?_
 .cases lo with
  | none=>rfl
  | some v=>exact By v n 0
 .cases hi with
  | none=>rfl
  | some v=>exact By v n n
theorem zY (i j:Nat):Builtin.Slice.slicePlaces (i:Int) (j:Int) 1=j - i:=by
 unfold Builtin.Slice.slicePlaces;have h1:(1:Int) > 0:=by omega
 simp only[h1,if_true,Int.ediv_one];split<;>omega
theorem sh (p:IsPart v o)(h:Q o s):ay (model prog w) A (Builtin.Slice.slicePartIndex v) Q E s:=by
 cases p with
 | none=>exact slicePart_none h
 | int i t=>exact slicePart_int h
theorem kc {sl:Addr}{vl vu:af}{lo hi:Option Int}{n:Nat}{Q:Int × Int × Nat->aq->Prop}(hs:s.heap.IsSliceOf sl vl vu .none)(pl:IsPart vl lo)(pu:IsPart vu hi)
  (h:Q (((gj n 0 lo:Nat):Int),1,gj n n hi - gj n 0 lo) s):ay (model prog w) A (Builtin.Slice.sliceApplied (.ref sl) (pure (n:Int))) Q E s:=by
 obtain⟨os,Mx,Og,Pk⟩:=id hs;unfold Builtin.Slice.sliceApplied Builtin.Slice.sliceFields;refine ae (ae (wpAny_field Mx Pk (x:=vl) rfl (ae (wpAny_field Mx Pk (x:=vu) rfl (ae (wpAny_field Mx Pk (x:=.none) rfl (ak ?_)))))));refine ae (slicePart_none ?_);show ay _ _ (if ((1:Int) == 0)=true then _ else _) _ _ s;rw[if_neg (!2)];refine ae (sh pl (ae (sh pu (ae (ak ?_)))));show ay _ _ (match Builtin.Slice.sliceAdjust lo hi 1 (n:Int) with | (lo,hi)=>pure (lo,(1:Int),Builtin.Slice.slicePlaces lo hi 1)) _ _ s;rw[zX lo hi n];show ay _ _ (pure (((gj n 0 lo:Nat):Int),(1:Int),Builtin.Slice.slicePlaces ((gj n 0 lo:Nat):Int) ((gj n n hi:Nat):Int) 1)) _ _ s;rw[zY];exact ak h
theorem EX (xs:Array af)(i k:Nat):((List.range k).filterMap λ(m:Nat)=>xs[((i:Int)+(m:Int) * 1).toNat]?).toArray=((xs.toList.drop i).take k).toArray:=by
 have e:(λ(m:Nat)=>xs[((i:Int)+(m:Int) * 1).toNat]?)=λm=>xs[i+m]? := by
  funext m;have:((i:Int)+(m:Int) * 1).toNat=i+m:=by omega
  rw[this]
 rw[e];have:=pick_run xs i k;rw[List.filterMap_map] at this;have e2:((λx=>xs[x]?) ∘ λx=>i+x)=λm=>xs[i+m]? := rfl;rw[e2] at this;rw[this]
theorem om {t sl:Addr}{items:Array af}{vl vu:af}{lo hi:Option Int}{Q:af->aq->Prop}(ht:IsTup s.heap t items)(hs:s.heap.IsSliceOf sl vl vu .none)(pl:IsPart vl lo)(pu:IsPart vu hi)
  (hw:¬ (gj items.size 0 lo=0/\gj items.size items.size hi=items.size))
  (h:Q (.ref s.heap.objs.size) { s with heap:=s.heap.push { cls:=.type "tuple",data:=.seq ((items.toList.drop (gj items.size 0 lo)).take (gj items.size items.size hi - gj items.size 0 lo)).toArray } })
  (hsz:items.size<=au):ay (model prog w) A (getItem (.ref t) (.ref sl)) Q E s:=by
 have Bz:sizeOk (.seq ((items.toList.drop (gj items.size 0 lo)).take (gj items.size items.size hi - gj items.size 0 lo)).toArray):=by
  show ((items.toList.drop (gj items.size 0 lo)).take (gj items.size items.size hi - gj items.size 0 lo)).toArray.size<=au;rw[aB,bH,cM,bq];omega
 have hj:gj items.size items.size hi<=items.size:=Mw _ _ (al _) hi;obtain⟨os,Mx,Og,Pk⟩:=id hs;have SJ:s.TypeIs (.ref sl) "slice" := ⟨os,Mx,Og⟩;unfold getItem;try with_reducible refine wpAny_holding ?_
 first | refine ae (ak ?_) | skip
 refine ae (wpAny_sequenceKey ht.typeIs (!2) ?_)
 refine ae (wpAny_callSpecial?_slot (name:=Str.ofString "__getitem__") ht.typeIs PyProof.Rows.slot_tuple_getitem
  (wpAny_call_entry PyProof.Rows.slot_tuple_getitem ht.typeIs entry_tuple_getitem ?_ (args_tuple_getitem _ _)))
 show ay _ _ (Builtin.Tuple.tupleItemsOf (.ref t) >>= _) _ _ s;refine ae (tupleItemsOf_ ht ?_);refine ae (wpAny_typeOf SJ ?_);rw[if_pos (!2)];refine ae (kc hs pl pu ?_)
 have SK:¬ ((((gj items.size 0 lo:Nat):Int) == 0 && (1:Int) == 1 && (gj items.size items.size hi - gj items.size 0 lo) == items.size)=true):=by
  intro q;rw[aZ,aZ] at q;have q1:((gj items.size 0 lo:Nat):Int)=0:=eq_of_beq q.1.1;have q2:gj items.size items.size hi - gj items.size 0 lo=items.size:=eq_of_beq q.2;exact hw ⟨!1,!1⟩
 show ay _ _ (if (((gj items.size 0 lo:Nat):Int) == 0 && (1:Int) == 1 && (gj items.size items.size hi - gj items.size 0 lo) == items.size)=true then _ else _) _ _ s;rw[if_neg SK,EX]
 first
  | exact ae (m:=Builtin.Tuple.tupleExact _) (aY (ak ⟨_,rfl,ak h⟩) Bz)
  | exact ae (m:=Builtin.Tuple.tupleExact _) (aY (ae (ak (ak ⟨_,rfl,ak h⟩))) Bz)
  | exact ae (ae (m:=Builtin.Tuple.tupleExact _) (aY (ak (ak ⟨_,rfl,ak h⟩)) Bz))
  | exact ae (ae (m:=Builtin.Tuple.tupleExact _) (aY (ak ⟨_,rfl,ak h⟩) Bz))
end
end HT
namespace L2
open PySem PySem.Spec PyProof.Rows
abbrev TO:=St->Hp->(Option Int->Hp->Prop)->Prop
def PO (X:Cx)(e:Option Expr)(t:TO):Prop :=
 ∀(pins:List (Addr × Obj)) (s:aq) (σ:St) (H:Hp) (Q:Option Int->Hp->Prop),Inv X pins σ H s->t σ H Q ->
  ay (model X.prog X.w) X.A (evalPart e X.env) (λu s'=>∃o H',Inv X pins σ H' s'/\IsPart u o/\Q o H') X.xe s
def BA:TO:=λ_ H Q=>Q none H
def Ks (t:TE):TO:=λσ H Q=>t σ H λx H1=>∃i,x=.int i/\Q (some i) H1
section
variable {X:Cx}{e:Expr}{te:TE}{lo hi:Option Expr}{tl th:TO}{pos p2:Pos}
theorem Iq:PO X none BA:=by
 intro pins s σ H Q I h;rw[evalPart_none];exact ak ⟨none,H,I,.none,h⟩
theorem Ir (h:PE X e te):PO X (some e) (Ks te):=by
 intro pins s σ H Q I hw;rw[evalPart_some];refine fy (h pins s σ H _ I hw) λu s1 ⟨x,H1,I1,r1,q1⟩=>?_;obtain⟨i,rfl,q⟩:=q1;obtain⟨t,rfl⟩:=r1;exact⟨some i,H1,I1,.int i t,q⟩
def HC (X:Cx)(r:V->Option Int->Option Int->Hp->VK->Prop):Prop :=
 ∀(pins:List (Addr × Obj)) (s:aq) (σ:St) (H:Hp) (x:V) (v vl vu:af) (lo hi:Option Int) (sl:Addr) (Q:VK),Inv X pins σ H s->RelV x v->s.heap.IsSliceOf sl vl vu .none->IsPart vl lo->IsPart vu hi->r x lo hi H Q ->
  ∃T id,typeLookup (.type T) "__getitem__" = pure (some (.builtin id))/\s.TypeIs v T/\ay (model X.prog X.w) X.A (getItem v (.ref sl)) (EP X pins σ Q) X.xe s
theorem HC.or (h:HC X r)(h':HC X r'):HC X (λx lo hi H Q=>r x lo hi H Q\/r' x lo hi H Q):=by
 intro pins s σ H x v vl vu lo hi sl Q I rx hs pl pu q;rcases q with q | q
 .exact h pins s σ H x v vl vu lo hi sl Q I rx hs pl pu q
 .exact h' pins s σ H x v vl vu lo hi sl Q I rx hs pl pu q
def VD (r:V->Option Int->Option Int->Hp->VK->Prop)(te:TE)(tl th:TO):TE:=λσ H Q=>te σ H λx H1=>tl σ H1 λl H2=>th σ H2 λu H3=>r x l u H3 Q
theorem EY {r:V->Option Int->Option Int->Hp->VK->Prop}(hr:HC X r)(he:PE X e te)(hl:PO X lo tl)(hu:PO X hi th):PE X (.Subscript e (.Slice lo hi none p2) pos) (VD r te tl th):=by
 intro pins s σ H Q I h;refine Subscript_ (fy (he pins s σ H _ I h) λv s1 ⟨x,H1,I1,r1,q1⟩=>?_);refine wpAny_Slice (fy (hl pins s1 σ H1 _ I1 q1) λvl s2 ⟨l,H2,I2,pl,q2⟩=>fy (hu pins s2 σ H2 _ I2 q2) λvu s3 ⟨u,H3,I3,pu,q3⟩=>?_);rw[evalPart_none];refine ak ?_;have I4:Inv X pins σ H3 { s3 with heap:=s3.heap.push { cls:=.type "slice",data:=.fields #[vl,vu,.none] } }:=I3.kept (t':=s3.toks) λb ob q=>ag _ q;obtain⟨T,id,hT,ht,hg⟩:=hr pins { s3 with heap:=s3.heap.push { cls:=.type "slice",data:=.fields #[vl,vu,.none] } } σ H3 x v vl vu l u s3.heap.objs.size Q I4 r1 (Heap.IsSliceOf.new ..) pl pu q3;show ay (model X.prog X.w) X.A (subscriptTail e (.Slice lo hi none p2) v (.ref s3.heap.objs.size)) (EP X pins σ Q) X.xe { s3 with heap:=s3.heap.push { cls:=.type "slice",data:=.fields #[vl,vu,.none] } };exact tail_any (ops:=[.ref s3.heap.objs.size,v]) ht hT hg (by with_unfolding_all rfl)
noncomputable def oo (xs:List V)(lo hi:Option Int):List V:=(xs.drop (HT.gj xs.length 0 lo)).take (HT.gj xs.length xs.length hi - HT.gj xs.length 0 lo)
theorem qG (xs:List V)(lo hi:Option Int):(oo xs lo hi).length<=xs.length:=by
 unfold oo;rw[bH,cM];omega
def SM (K:W.Frag):V->Option Int->Option Int->Hp->VK->Prop:=λx lo hi H Q=>∃a xs,x=.ref a/\iz K H a xs /\
 ¬ (HT.gj xs.length 0 lo=0/\HT.gj xs.length xs.length hi=xs.length)/\∀p,H p=none->Q (.ref p) (d0 H p (.tup (oo xs lo hi)))
theorem My:HC X (SM X.K):=by
 intro pins s σ H x v vl vu lo hi sl Q I rx hs pl pu h;obtain⟨a,xs,rfl,hx,hw,q⟩:=h;cases rx;obtain⟨its,r,ht,hz⟩:=I.tuple hx;have eF:its.toArray.size=xs.length:=by rw[aB];exact r.length.symm
 refine⟨"tuple",_,PyProof.Rows.slot_tuple_getitem.lookup,ht.typeIs,?_⟩;refine HT.om ht hs pl pu (by rw[eF];exact hw) ?_ (by rw[eF];exact hz);rw[eF];refine⟨.ref s.heap.objs.size,_,I.laid (t':=s.toks) (o:=.tup (oo xs lo hi)) (λb ob q=>ag _ q) (al _) ?_,rfl,q _ (I.hok.fresh (al _))⟩;exact⟨aT (qG xs lo hi) hz,_,(r.drop (HT.gj xs.length 0 lo)).take (HT.gj xs.length xs.length hi - HT.gj xs.length 0 lo),uy.new _ _⟩
def Pm (K:W.Frag):R2:=λx y H Q=>∃a b xs ys,x=.ref a/\y=.ref b/\iz K H a xs/\iz K H b ys/\xs≠[]/\xs.length+ys.length<=au /\
 (ys=[]->Q (.ref a) H)/\(ys≠[]->∀p,H p=none->Q (.ref p) (d0 H p (.tup (xs++ys))))
theorem dO.oq (r:dO xs us):us=[]↔xs=[]:=by
 cases r with
 | nil=>simp
 | cons _ _=>simp
theorem Iu:jF X (binaryOp .Add) (Pm X.K):=by
 intro pins s σ H x y v u Q I rx ry h;obtain⟨a,b,xs,ys,rfl,rfl,ha,hb,hx,hz,q1,q2⟩:=h;cases rx;cases ry;obtain⟨its,r1,p1,_⟩:=I.tuple ha;obtain⟨EZ,r2,p2,_⟩:=I.tuple hb;refine HT.Ip p1 p2 (λz=>hx (r1.oq.mp z)) (λz=>⟨.ref a,H,I,rfl,q1 (r2.oq.mp z)⟩) (λz=>?_) (by rw[<- r1.length,<- r2.length];exact hz);refine⟨.ref s.heap.objs.size,_,I.laid (t':=s.toks) (o:=.tup (xs++ys)) (λb ob q=>ag _ q) (al _) ?_,rfl,q2 (λw=>z (r2.oq.mpr w)) _ (I.hok.fresh (al _))⟩;exact⟨by rw[aO];exact hz,_,r1.append r2,uy.new _ _⟩
end
noncomputable def Iv (n:Nat)(i:Int):Option Nat:=if 0<=i then (if i<n then some i.toNat else none) else if -(n:Int)<=i then some (i+n).toNat else none
noncomputable def lQ {α:Type}(xs:List α)(i:Int):Option α:=(Iv xs.length i).bind λj=>xs[j]?
theorem Iw (h:Iv n i=some j):seqIndex? i n=some j/\j<n/\-(n:Int)<=i/\i<n:=by
 unfold Iv at h;by_cases h0:0<=i
 .rw[if_pos h0] at h
  by_cases h1:i<n
  .rw[if_pos h1] at h
   have e:i.toNat=j:=Option.some.inj h;exact⟨by rw[seqIndex_of h0 h1,e],!1,!1,h1⟩
  .rw[if_neg h1] at h;cases h
 .rw[if_neg h0] at h
  by_cases h1:-(n:Int)<=i
  .rw[if_pos h1] at h
   have e:(i+n).toNat=j:=Option.some.inj h;exact⟨by rw[seqIndex_neg (!1) h1,e],!1,h1,!1⟩
  .rw[if_neg h1] at h;cases h
theorem BB {α:Type}{xs:List α}{i:Int}{v:α}(h:lQ xs i=some v):∃j,seqIndex? i xs.length=some j/\xs[j]? = some v/\j<xs.length/\-(xs.length:Int)<=i/\i<xs.length:=by
 unfold lQ at h
 cases e:Iv xs.length i with
 | none=>rw[e] at h;cases h
 | some j =>
  rw[e] at h;obtain⟨h1,h2,h3,h4⟩:=Iw e;exact⟨j,h1,h,h2,h3,h4⟩
def wu (b:Expr):Prop:=∀o i,subscripted b false o i=operate [o,i] (getItem o i)
def HD (X:Cx)(r:R2):Prop :=
 ∀(value slice:Expr) (pins:List (Addr × Obj)) (s:aq) (σ:St) (H:Hp) (x y:V) (v u:af) (Q:VK),Inv X pins σ H s->RelV x v->RelV y u->r x y H Q ->
  subscripted slice false v u=operate [v,u] (getItem v u)->ay (model X.prog X.w) X.A (subscriptTail value slice v u) (EP X pins σ Q) X.xe s
def RY (X:Cx)(id:String)(r:V->List V->Hp->VK->Prop):Prop :=
 ∀(pins:List (Addr × Obj)) (s:aq) (σ:St) (H:Hp) (x:V) (xs:List V) (v:af) (us:List af) (Q:VK),Inv X pins σ H s->RelV x v->dO xs us->r x xs H Q ->
  ay (model X.prog X.w) X.A (call (.builtin id) (v::us)) (EP X pins σ Q) X.xe s
section
variable {X:Cx}{a b:Expr}{ta tb:TE}{pos:Pos}
theorem HD.or (h:HD X r)(h':HD X r'):HD X (λx y H Q=>r x y H Q\/r' x y H Q):=by
 intro value slice pins s σ H x y v u Q I rx ry q hs;rcases q with q | q
 .exact h value slice pins s σ H x y v u Q I rx ry q hs
 .exact h' value slice pins s σ H x y v u Q I rx ry q hs
theorem Pn {r:R2}(hr:HD X r)(ha:PE X a ta)(hb:PE X b tb)(hs:wu b):PE X (.Subscript a b pos) (Ig r ta tb):=by
 intro pins s σ H Q I h;exact Subscript_ (L9 ha hb I h λv u s2 x y H2 I2 rx ry q=>hr a b pins s2 σ H2 x y v u Q I2 rx ry q (hs _ _))
def Po (K:W.Frag):R2:=λx y H Q=>∃p xs i v,x=.ref p/\y=.int i/\gp K H p xs/\lQ xs i=some v/\Q v H
def Pp (K:W.Frag):R2:=λx y H Q=>∃p xs i v,x=.ref p/\y=.int i/\iz K H p xs/\lQ xs i=some v/\Q v H
theorem Iy:HD X (Po X.K):=by
 intro value slice pins s σ H x y v u Q I rx ry h hs;obtain⟨p,xs,i,z,rfl,rfl,hq,he,q⟩:=h;cases rx;obtain⟨t,rfl⟩:=ry;obtain⟨its,r,pl,hz⟩:=I.list hq;obtain⟨j,h1,h2,h3,h4,h5⟩:=BB he;obtain⟨w,ew,pD⟩:=r.get h2;have hl:=r.length;have hn:=zR;have gG:EP X pins σ Q w s:=⟨z,H,I,pD,q⟩;by_cases h0:0<=i
 .have hj:i.toNat=j:=by
   rw[seqIndex_of h0 h5] at h1;exact Option.some.inj h1
  exact item_listR pl.isList h0 (!1) (by rw[hj];simpa using ew) gG hs
 .have hj:(i+(its.toArray.size:Int)).toNat=j:=by
   rw[seqIndex_neg (!1) h4] at h1;rw[aB,<- hl];exact Option.some.inj h1
  exact subscriptTail_builtinR (x:=w) pl.isList.typeIs slot_list_getitem.lookup
   (wpAny_getItem_list_neg (Q:=λr s'=>r=w/\EP X pins σ Q r s') pl.isList (!1) (by rw[aB]<;>omega) (!1) (by rw[hj];simpa using ew) ⟨rfl,gG⟩) hs
theorem Mz:HD X (Pp X.K):=by
 intro value slice pins s σ H x y v u Q I rx ry h hs;obtain⟨p,xs,i,z,rfl,rfl,hq,he,q⟩:=h;cases rx;obtain⟨t,rfl⟩:=ry;obtain⟨its,r,pl,hz⟩:=I.tuple hq;obtain⟨j,h1,h2,h3,h4,h5⟩:=BB he;obtain⟨w,ew,pD⟩:=r.get h2;have hl:=r.length;have hn:=zR;have gG:EP X pins σ Q w s:=⟨z,H,I,pD,q⟩
 exact subscriptTail_builtinR (x:=w) pl.typeIs slot_tuple_getitem.lookup
  (getItem_tuple (j:=j) (Q:=λr s'=>r=w/\EP X pins σ Q r s') pl (!1) (!1) (by rw[aB,<- hl];exact h1) (by simpa using ew) ⟨rfl,gG⟩) hs
theorem wx (lo hi:Option Int)(n:Nat):(sliceBounds lo hi none n).1=((HT.gj n 0 lo:Nat):Int)/\(sliceBounds lo hi none n).2.1=((HT.gj n n hi:Nat):Int)/\(sliceBounds lo hi none n).2.2=1:=by
 refine⟨?_,?_,rfl⟩
 .cases lo with
  | none=>simp[sliceBounds,HT.gj]
  | some i =>
   simp only[sliceBounds,HT.gj,Option.getD_none,show (1:Int) > 0 by decide,if_true];by_cases h:i<0
   .simp only[h,if_true]<;>omega
   .simp only[h,if_false]<;>omega
 .cases hi with
  | none=>simp[sliceBounds,HT.gj]
  | some i =>
   simp only[sliceBounds,HT.gj,Option.getD_none,show (1:Int) > 0 by decide,if_true];by_cases h:i<0
   .simp only[h,if_true]<;>omega
   .simp only[h,if_false]<;>omega
theorem uA (its:List af)(lo hi:Option Int):slicePick its.toArray lo hi none=((its.drop (HT.gj its.length 0 lo)).take (HT.gj its.length its.length hi - HT.gj its.length 0 lo)).toArray:=by
 obtain⟨h1,h2,h3⟩:=wx lo hi its.toArray.size;unfold slicePick;rw[h1,h2,h3];simp only[sliceRange_one,pick_run,aB]<;>rfl
def Pq (K:W.Frag):V->Option Int->Option Int->Hp->VK->Prop:=λx lo hi H Q=>∃a xs,x=.ref a/\gp K H a xs/\∀p,H p=none->Q (.ref p) (d0 H p (.lst (oo xs lo hi)))
theorem Iz:HC X (Pq X.K):=by
 intro pins s σ H x v vl vu lo hi sl Q I rx hs pl pu h;obtain⟨a,xs,rfl,hx,q⟩:=h;cases rx;obtain⟨its,r,ht,hz⟩:=I.list hx;have eF:=r.length;refine⟨"list",_,slot_list_getitem.lookup,ht.isList.typeIs,?_⟩;refine wpAny_getItem_list_slice ht.isList hs pl pu .none (!4) ?_ (by rw[aB]<;>omega);rw[uA,<- eF];refine⟨.ref s.heap.objs.size,_,I.laid (t':=s.toks) (o:=.lst (oo xs lo hi)) (λb ob q=>ag _ q) (al _) ?_,rfl,q _ (I.hok.fresh (al _))⟩;exact⟨aT (qG xs lo hi) hz,_,0,(r.drop (HT.gj xs.length 0 lo)).take (HT.gj xs.length xs.length hi - HT.gj xs.length 0 lo),aA _ rfl⟩
theorem wy:fL X (.builtin "len") (λxs H Q=>∃p ys,xs=[.ref p]/\(gp X.K H p ys\/iz X.K H p ys)/\Q (.int ys.length) H):=by
 intro pins s σ H xs us Q I r h;obtain⟨p,ys,rfl,hq,q⟩:=h;obtain⟨u,rfl,rx⟩:=vals1 r;cases rx;have hn:=zR;rcases hq with hq | hq
 .obtain⟨its,r',pl,hz⟩:=I.list hq
  have eF:=r'.length;exact Calls.call_len_list pl.isList (by simp only[aB]<;>omega) ⟨.int ys.length,H,I.tok _,⟨s.toks+1,by rw[aB,eF]⟩,q⟩
 .obtain⟨its,r',pl,hz⟩:=I.tuple hq
  have eF:=r'.length;exact len_tuple pl (by simp only[aB]<;>omega) ⟨.int ys.length,H,I.tok _,⟨s.toks+1,by rw[aB,eF]⟩,q⟩
theorem wz:fL X (.type "list") (λxs H Q=>∃p ys,xs=[.ref p]/\(gp X.K H p ys\/iz X.K H p ys)/\∀l,H l=none->Q (.ref l) (d0 H l (.lst ys))):=by
 intro pins s σ H xs us Q I r h;obtain⟨p,ys,rfl,hq,q⟩:=h;obtain⟨u,rfl,rx⟩:=vals1 r;cases rx
 have gG:∀(its:List af),dO ys its->ys.length<=au->∀(h':Heap) (c':Nat),(∀b o',s.heap.get? b=some o'->h'.get? b=some o') ->
   h'.get? s.heap.objs.size=some { cls:=.type "list",dict:=none,data:=.seq its.toArray c',slots:=#[] }->EP X pins σ Q (.ref s.heap.objs.size) { s with heap:=h' }:=λits r' hz h' c' kp e =>
  ⟨.ref s.heap.objs.size,_,I.laid (t':=s.toks) kp (al _) (show eQ X.prog X.w _ h' _ (.lst ys) from ⟨hz,its,c',r',e⟩),rfl,q _ (I.hok.fresh (al _))⟩
 rcases hq with hq | hq
 .obtain⟨its,r',pl,hz⟩:=I.list hq
  have eF:=r'.length;obtain⟨o,ho,hc,n,hd⟩:=pl.isList;exact call_list_seq p (.inl rfl) ho hc hd (λh' c' kp e=>gG its r' hz h' c' kp e) (by simp only[aB]<;>omega)
 .obtain⟨its,r',pl,hz⟩:=I.tuple hq
  have eF:=r'.length;obtain⟨o,ho,hc,n,hd⟩:=pl;exact call_list_seq p (.inr rfl) ho hc hd (λh' c' kp e=>gG its r' hz h' c' kp e) (by simp only[aB]<;>omega)
theorem uB:fL X (.type "tuple") (λxs H Q=>∃p ys,xs=[.ref p]/\((gp X.K H p ys/\∀l,H l=none->Q (.ref l) (d0 H l (.tup ys)))\/(iz X.K H p ys/\Q (.ref p) H))):=by
 intro pins s σ H xs us Q I r h;obtain⟨p,ys,rfl,h⟩:=h;obtain⟨u,rfl,rx⟩:=vals1 r;cases rx;rcases h with⟨hq,q⟩ | ⟨hq,q⟩
 .obtain⟨its,r',pl,hz⟩:=I.list hq
  have eF:=r'.length;refine call_tuple_list pl.isList (λh' kp=>?_) (by simp only[aB]<;>omega);have I1:Inv X pins σ H { s with heap:=h' }:=I.kept (t':=s.toks) kp
  have I2:Inv X pins σ (d0 H h'.objs.size (.tup ys)) { s with heap:=h'.push { cls:=.type "tuple",data:=.seq its.toArray } } :=
   I1.laid (t':=s.toks) (λb o e=>ag _ e) (al _) (show eQ X.prog X.w _ _ _ (.tup ys) from ⟨hz,its,r',uy.new _ _⟩)
  exact⟨.ref h'.objs.size,_,I2,rfl,q _ (I1.hok.fresh (al _))⟩
 .obtain⟨its,r',pl,hz⟩:=I.tuple hq
  exact call_tuple_same pl ⟨.ref p,H,I,rfl,q⟩
noncomputable def VE (K:W.Frag)(T:String)(x:V)(H:Hp):Prop:=match x with
 | .str _=>T = "str"
 | .int _=>T = "int"
 | .ref p=>(T = "list" /\ ∃xs,gp K H p xs)\/(T = "tuple" /\ ∃o,K.lookup p=some o/\o.cls=.type "tuple" /\ o.dict=none) \/
   (T = "dict" /\ ((∃kvs,H p=some (.dK kvs))\/∃kvs,H p=some (.dT kvs)))\/(T = "set" /\ ∃S n,H p=some (.set S n))
 | _=>False
theorem MA (I:Inv X pins σ H s)(r:RelV x v)(ty:VE X.K T x H) :
  s.TypeIs v T/\∀a,v=.ref a->∃ob,s.heap.get? a=some ob/\ob.dict=none:=by
 cases x with
 | str z =>
  obtain⟨t,rfl⟩:=r;cases (show T = "str" from ty);exact⟨typeIs_str s z t,λ_ e=>nomatch e⟩
 | int i =>
  obtain⟨t,rfl⟩:=r;cases (show T = "int" from ty);exact⟨typeIs_int s i t,λ_ e=>nomatch e⟩
 | ref p =>
  cases r;rcases ty with⟨rfl,xs,hq⟩ | ⟨rfl,o,hk,hc,hd⟩ | ⟨rfl,hk⟩ | ⟨rfl,S,n,hk⟩
  .obtain⟨its,_,pl,_⟩:=I.list hq
   refine⟨pl.isList.typeIs,λa e=>?_⟩;cases e;obtain⟨o,n,e,c,hd,_⟩:=pl;exact⟨o,e,hd⟩
  .refine⟨⟨o,I.pJ p o hk,hc⟩,λa e=>?_⟩
   cases e;exact⟨o,I.pJ _ o hk,hd⟩
  .have z:∃o,s.heap.get? p=some o/\o.ExactDict:=by
    rcases hk with⟨kvs,hk⟩ | ⟨kvs,hk⟩
    .obtain⟨_,_,_,_,o,_,_,e,ex,_⟩:=I.hok p _ hk
     exact⟨o,e,ex⟩
    .obtain⟨_,_,_,_,o,_,_,e,ex,_⟩:=I.hok p _ hk
     exact⟨o,e,ex⟩
   obtain⟨o,e,ex⟩:=z;refine⟨⟨o,e,ex.1⟩,λa e2=>?_⟩;cases e2;exact⟨o,e,ex.2.1⟩
  .obtain⟨o,_,_,_,e,ex,_⟩:=I.hok p _ hk
   refine⟨⟨o,e,ex.1⟩,λa e2=>?_⟩;cases e2;exact⟨o,e,ex.2.1⟩
 | _=>exact False.elim ty
def SN (K:W.Frag)(T:String)(r:V->List V->Hp->VK->Prop)(to:TE)(t:TA):TE:=λσ H Q=>to σ H λx H1=>VE K T x H1/\t σ H1 λxs H2=>r x xs H2 Q
variable {o e:Expr}{es:List Expr}{to:TE}{t:TA}{name:Str}{iF f6:Pos}{T id:String}{r:V->List V->Hp->VK->Prop}
theorem Pr (pa:PlainAttrs T)(slot:Slot T name id)(MB:typeOf (.builtin id)=pure (.type "method_descriptor"))(hm:RY X id r)(ho:PE X o to)(ha:PA X (e::es) t)
  (ou:attributeBase o name X.env (eval o X.env)=eval o X.env:=by rfl)
  (SO:((backTo f6 (starEach (e::es) X.env)).all (λx=>!x.1) && (backToKw f6 (keywordEach [] X.env)).all (λx=>x.1.isSome)
   && decide ((e::es).length+([]:List Keyword).length+(if ([]:List Keyword).isEmpty then 0 else 1)<30))=true:=by rfl)
  (ox:(iF.endLine == f6.line)=true:=by rfl) (hs:starEach (e::es) X.env=(false,eval e X.env)::starEach es X.env:=by rfl) (MC:(backTo f6 (starEach es X.env)).any (·.1)=false:=by rfl) :
  PE X (.Call (.Attribute o name iF) (e::es) [] f6) (SN X.K T r to t):=by
 intro pins s σ H Q I h;refine wpAny_Call_method_late ou SO ox rfl (fy (ho pins s σ H _ I h) λv s1 ⟨x,H1,I1,r1,ty,q1⟩=>?_);obtain⟨h1,h2⟩:=MA I1 r1 ty;refine⟨T,id,pa,slot,MB,h1,h2,?_⟩;have hA:=ha f6 pins s1 σ H1 _ I1 q1;rw[hs] at hA ⊢;refine Calls.callWith_builtin (by show (false || (backTo f6 (starEach es X.env)).any (·.1))=false;rw[MC]<;>rfl) (Calls.evalArgs_plain ?_);exact fy hA λus s2 ⟨vs,H2,I2,r2,q2⟩=>hm pins s2 σ H2 x vs v us Q I2 r1 r2 q2
end
def VF (X:Cx)(id:String)(r:V->List V->Hp->VK->Prop):Prop :=
 ∀(pins:List (Addr × Obj)) (s:aq) (σ:St) (H:Hp) (x:V) (xs:List V) (v:af) (us:List af) (Q:VK),Inv X pins σ H s->RelV x v->dO xs us->r x xs H Q ->
  ay (model X.prog X.w) X.A (call (.builtin id) (v::us)) (EP X pins σ Q) X.xe s
theorem dO.one (h:dO [x] us):∃u,us=[u]/\RelV x u:=by
 cases h with
 | cons r t =>
  cases t;exact⟨_,rfl,r⟩
theorem dO.rep (h:dO xs us):∀k:Nat,dO (List.replicate k xs).flatten (List.replicate k us).flatten
 | 0=>.nil
 | k+1=>by
  rw[aF,aF,b8,b8];exact dO.append h (dO.rep h k)
theorem foldl_rep (its:List af):∀(k:Nat) (acc:List af),
  cS (λx1 x2=>x1++x2) acc.toArray (List.replicate k its.toArray)=(acc++(List.replicate k its).flatten).toArray
 | 0,acc=>by simp
 | k+1,acc=>by
  have e:acc.toArray++its.toArray=(acc++its).toArray:=by simp
  have e2:(acc++its)++(List.replicate k its).flatten=acc++(List.replicate (k+1) its).flatten:=by
   rw[aF,b8,bL]
  rw[<- e2,<- foldl_rep its k (acc++its),<- e,aF,cF]
section
theorem Inv.SQ {its its':List af}{n:Nat}{f:Array af->Array af}{t':Nat}(I:Inv X pins σ H s)(hH:H l=some (.lst xs))
  (e:s.heap.get? l=some { cls:=.type "list",data:=.seq its.toArray n }) (hf:f its.toArray=its'.toArray) (hv:dO ys its') (hz:ys.length<=au) :
  Inv X pins σ (d0 H l (.lst ys)) { s with heap:=s.heap.update l (Obj.mapSeq f),toks:=t' }:=by
 have q:=PySem.IsL.update e f;rw[hf] at q;refine I.write (x:=l) (e:=l) (by rw[hH];exact trivial) (.inl rfl) (λb' u hb hu=>(aI s.heap (Obj.mapSeq f) (Ne.symm hb)).trans hu) ⟨_,q⟩ ?_;exact⟨hz,its',_,hv,q⟩
theorem Inv.Pt (I:Inv X pins σ H s)(hv:dO ys its)(hz:ys.length<=au) :
  Inv X pins σ (d0 H s.heap.objs.size (.lst ys)) { s with heap:=s.heap.push { cls:=.type "list",data:=.seq its.toArray },toks:=t' } :=
 I.laid (λ_ _ q=>ag _ q) (al _) ⟨hz,its,0,hv,aA _ rfl⟩
theorem Inv.fresh (I:Inv X pins σ H s):H s.heap.objs.size=none:=I.hok.fresh (al _)
theorem Inv.E1 (I:Inv X pins σ H s)(hH:H l=some (.lst xs)):xs.length<=au/\∃(its:List af) (n:Nat),dO xs its/\xs.length=its.length/\s.heap.get? l=some { cls:=.type "list",data:=.seq its.toArray n }:=by
 obtain⟨z,its,n,r,e⟩:=I.hok l _ hH;exact⟨z,its,n,r,r.length,e⟩
theorem E2 (h:n<=au):Builtin.List.listTooLong n=false:=by
 unfold Builtin.List.listTooLong;exact decide_eq_false (!1)
end
section
variable {X:Cx}
def IA:V->List V->Hp->VK->Prop:=λx vs H Q=>∃l xs y,x=.ref l/\vs=[y]/\H l=some (.lst xs)/\xs.length<au/\Q .h8 (d0 H l (.lst (xs++[y])))
theorem CN:VF X "list.append" IA:=by
 intro pins s σ H x vs v us Q I rx rv h;obtain⟨l,xs,y,rfl,rfl,hH,hz,q⟩:=h;cases rx;obtain⟨u,rfl,ru⟩:=rv.one;obtain⟨z,its,n,r,hl,e⟩:=I.E1 hH;refine call_meets F.slot_list_append ⟨_,e,rfl⟩ F.entry_list_append (F.args_list_append_2 _ _) (PySem.list_append l its.toArray n u (by rw[aB];omega)) ⟨e,?_⟩;refine⟨.h8,_,I.SQ (its':=its++[u]) hH e (!4) (r.append (.cons ru .nil)) ?_,rfl,q⟩;rw[aO,bu];omega
def SR:R2:=λx y H Q=>∃l b xs zs,x=.ref l/\y=.ref b/\H l=some (.lst xs)/\H b=some (.lst zs)/\xs.length+zs.length<=au/\∀p,H p=none->Q (.ref p) (d0 H p (.lst (xs++zs)))
theorem E3:jF X (binaryOp .Add) SR:=by
 intro pins s σ H x y v u Q I rx ry h;obtain⟨l,b,xs,zs,rfl,rfl,hH,hB,hz,q⟩:=h;cases rx;cases ry;obtain⟨z,its,n,r,hl,e⟩:=I.E1 hH;obtain⟨z2,EZ,n2,r2,Pu,e2⟩:=I.E1 hB;refine PySem.P.add_list e e2 ?_ (by rw[aB,aB];omega);have ea:its.toArray++EZ.toArray=(its++EZ).toArray:=by simp
 rw[ea];exact⟨.ref _,_,I.Pt (t':=s.toks) (r.append r2) (by rw[aO];omega),rfl,q _ I.fresh⟩
def SS:R2:=λx y H Q=>∃l k xs,x=.ref l/\y=.int k/\H l=some (.lst xs)/\-(2 ^ 63)<=k/\k<2 ^ 63/\xs.length * k.toNat<=au /\
 ∀p,H p=none->Q (.ref p) (d0 H p (.lst (List.replicate k.toNat xs).flatten))
theorem wA {α:Type}(xs:List α)(k:Nat):(List.replicate k xs).flatten.length=k * xs.length:=by
 induction k with
 | zero=>simp
 | succ k ih=>rw[aF,b8,aO,ih,Nat.succ_mul,Nat.add_comm]
theorem E4:jF X (binaryOp .Mult) SS:=by
 intro pins s σ H x y v u Q I rx ry h;obtain⟨l,k,xs,rfl,rfl,hH,h1,h2,hz,q⟩:=h;cases rx;obtain⟨t,rfl⟩:=ry;obtain⟨z,its,n,r,hl,e⟩:=I.E1 hH;have eF:its.toArray.size * k.toNat<=au:=by rw[aB,<- hl];exact hz
 have SU:¬ its.toArray.size * k.toNat > (2 ^ 63 - 1) / 8:=by
  have:(au:Nat)<=(2 ^ 63 - 1) / 8:=by decide
  omega
 have SV:¬ (!Builtin.List.listFitsIndex k)=true:=by
  rw[fitsIndex_both h1 h2];exact aR
 have Pw:¬ Builtin.List.listTooLong (its.toArray.size * k.toNat)=true:=by
  rw[E2 eF];exact aR
 have xK:cS (λx1 x2=>x1++x2) #[] (List.replicate (if its.toArray.isEmpty=true then 0 else k.toNat) its.toArray)=(List.replicate k.toNat its).flatten.toArray:=by
  have f0:∀m:Nat,cS (λx1 x2=>x1++x2) #[] (List.replicate m its.toArray)=(List.replicate m its).flatten.toArray:=λm=>by
   have:=foldl_rep its m [];rw[aw] at this;exact this
  rw[f0]
  cases its with
  | nil=>simp
  | cons a r'=>rw[if_neg (!4)]
 refine wpAny_binaryOp_repeat_ref (T := "list") (U := "int") (!2) ⟨_,e,rfl⟩ (λs'=>typeIs_int s' k t) noFill_list_mul F.fills_int_mul F.slot_int_rmul repeat_list F.slot_int_index.lookup
  (call_meets F.slot_int_rmul (typeIs_int s k t) F.entry_int_rmul (F.args_int_rmul_2 _ _) (int___rmul___int_list k t l its.toArray n)
   ⟨e,rfl,⟨_,e,rfl⟩,call_meets F.slot_list_mul ⟨_,e,rfl⟩ F.entry_list_mul (F.args_list_mul_2 _ _) (AutoListH.list___mul___list_int_3 l its.toArray n k t SV SU Pw) ⟨e,?_⟩⟩)
 rw[xK];exact⟨.ref _,_,I.Pt (t':=s.toks) (r.rep k.toNat) (by rw[wA,Nat.mul_comm];exact hz),rfl,q _ I.fresh⟩
end
end L2
namespace Att
open PySem PySem.W PySem.Calls PyProof.Rows
theorem rg:∀(ns:List Int) (vs:List af),WellAll P h vs (ns.map WData.int)->IntsAre vs ns:=by
 intro ns
 induction ns with
 | nil =>
  intro vs w;rw[ba] at w;cases w;exact .nil
 | cons n ns ih =>
  intro vs w;rw[ah] at w
  cases w with
  | cons a b =>
   cases a;exact .cons _ _ (ih _ b)
theorem CO {l:OpenLaw}{n:Nat}(hn:l.most=some n){P:Params}{h:Heap}{args:List WData}{MD:List af}
  (IB:l.row.toRowW.claim.pre args=true) (RZ:WellAll P h MD args) :
  ∃a vs ns,MD=[af.ref a]/\args=[WData.list (ns.map WData.int)]/\h.get? a=some { cls:=.type "list",data:=.seq vs.toArray }/\IntsAre vs ns/\ns.length<=n:=by
 have WU:WShape.hasAll [] args [.list .int]=true:=(pre_splitW IB).1;have hc:l.pre.holds [] { args:=args }=true:=(pre_splitW IB).2;obtain⟨d,r,rfl,h1,h2⟩:=hasAllW_cons WU;obtain rfl:=hasAllW_nil h2;obtain⟨xs,rfl,h3⟩:=hasW_list h1;obtain⟨ns,rfl⟩:=items_int h3
 have eF:ns.length<=n:=by
  unfold OpenLaw.pre at hc
  have h4:(WTm.not (.lt (.lit (.int (n:Int))) (.len (.arg 0)))).holds [] { args:=[.list (ns.map .int)] }=true:=by
   have h4:=(holds_andW hc).1;rw[hn] at h4;exact h4
  have h5:=condW_of h4 (w_not (w_lt w_lit (w_len_list (w_arg rfl))));rw[ai] at h5;refine Nat.le_of_not_lt λq=>?_;have q':(n:Int)<((ns.length:Nat):Int):=by omega
  first
   | (rw[decide_eq_true q'] at h5;exact absurd h5 (!2))
   | (simp at h5;omega)
 cases RZ with
 | cons w1 w2 =>
  cases w2
  cases w1 with
  | list ho zZ=>exact⟨_,_,ns,rfl,rfl,ho,rg ns _ zZ,eF⟩
theorem CP (l:OpenLaw)(args:List WData):l.row.toRowW.claim.post args (.bool true) args=true :=
 postW_of (r:=l.row.toRowW) (X:=(true == true))
  (show WShape.has [] (.bool true) .bool=true by first | rfl | decide | simp[WShape.has,WShape.arms,WShape.armsAll])
  (show (WTm.eq .res (.lit (.bool true))).value [] { args:=args,res:=some (.bool true),after:=args }=some (.bool (true == true)) from w_eq_bool (w_res rfl) w_lit) rfl
theorem xM {l:OpenLaw}{n:Nat}{q:aV}{loose:List Str}{XP:(Str->Option af)->Heap->Prop}{YP:World->Heap->Prop}{d:DefRec}
  (hn:l.most=some n) (ME:d.params.defaults=[])
  (call:∀(w:World) (s₀ s₁:aq) (mg mb:Str->Option af) (fa:Addr) (o:Obj) (pm cd sf:af) (a:Addr) (vs:List af) (ns:List Int),
   Ground q loose [] XP w s₀ mg mb s₁.heap->YP w s₁.heap ->
   s₁.heap.get? fa=some o->o.data=.func (docDef d.name d.params d.body d.scope pm cd sf)->s₁.heap.CodeRec cd d.name->mg d.name=some (.ref fa) ->
   s₁.heap.get? a=some { cls:=.type "list",data:=.seq vs.toArray }->IntsAre vs ns->ns.length<=n->s₁.gens=#[] ->
   codeAny (model l.prog w) callerA (.call (.ref fa) ⟨[.ref a],[]⟩) (λr s'=>r=.ok (.ret (.bool true))/\OldK s₁.heap s'.heap/\s'.os=s₁.os/\AllBare s'.gens) s₁) :
  WalkO q loose XP YP l.row.toRowW d [] (λf vs=>PySem.call f vs):=by
 intro w s₀ s₁ mg mb G Y fa o pm cd sf dV kV ho hd jl hD Px hg args MD as IB WV ZR RZ ZS;obtain rfl:dV=.none:=Dflts.none hD ME;obtain rfl:kV=.none:=Dflts.noKw hD;obtain⟨a,vs,ns,rfl,rfl,MF,E5,eF⟩:=CO hn IB RZ;refine enter_call (codeAny_mono (call w s₀ s₁ mg mb fa o pm cd sf a vs ns G Y ho (fd_plain hd) jl Px MF E5 eF hg) λr s' hq=>?_);obtain⟨rfl,h2,h3,h4⟩:=hq;exact⟨.inl ⟨.bool true,.bool true,[],rfl,λ_=>rfl,.bool true,CP l _,λ_=>⟨List.Pairwise.nil,λ_ hm=>(nomatch hm)⟩⟩,h2,h3,h4⟩
end Att
namespace L2
open PySem PySem.Spec PyProof.Rows
theorem vg:∀{vs:List af} {ns:List Int},IntsAre vs ns->dO (ns.map V.int) vs
 | _,_,.nil=>.nil
 | _,_,.cons n t h=>.cons ⟨t,rfl⟩ (vg h)
def MG (H:Hp):Prop:=∀b,H b=none\/∃o xs,H b=some (.rV o (.lst xs))
theorem E6 {P:aV}{w:World}{K:W.Frag}{mg mb:Str->Option af}{CX:Eu}{k:Nat}{fa a:Addr}{fd:bt}{x:Str}{sp:Sp}{s₁:aq}{vs:List af}{ns:List Int}
  (KX:K.In s₁.heap) (VG:s₁.heap.Ns aS mg) (hb:s₁.heap.Ns builtinsNs mb) (WW:∀x:Str,x ≠ "__name__" -> mb x=bootBuiltins x) (SW:s₁.heap.NoLimit) (hg:s₁.gens=#[])
  (ha:s₁.heap.get? a=some { cls:=.type "list",data:=.seq vs.toArray }) (hi:IntsAre vs ns) (hl:ns.length<=au) (hr:fu k callerA)
  (F:∀base:Heap,K.In base->base.Ns aS mg->iO P w K mg base CX k fa fd [x] sp) (Py:∀(s:aq) (u:af),BindsTo s fd ⟨[u],[]⟩ [(x,u)])
  (xB:∀H:Hp,MG H->gp K H a (ns.map V.int)->sp [.ref a] H (λv _=>v=.bl true) λ_ _ _=>False)
  (SX:∀H e s',CX [] H s₁ (λ_ _ _=>False) e s'->False) :
  codeAny (model P w) callerA (.call (.ref fa) ⟨[.ref a],[]⟩) (λr s'=>r=.ok (.ret (.bool true))/\OldK s₁.heap s'.heap/\s'.os=s₁.os/\AllBare s'.gens) s₁:=by
 have rv:=vg hi;have SY:=hi.length
 have Pz:∀H:Hp,MG H->gp K H a (ns.map V.int)->ka P w H s₁.heap->(∀b,H b≠none->b=a)->(H a≠none->K.lookup a=none) ->
   codeAny (model P w) callerA (.call (.ref fa) ⟨[.ref a],[]⟩) (λr s'=>r=.ok (.ret (.bool true))/\OldK s₁.heap s'.heap/\s'.os=s₁.os/\AllBare s'.gens) s₁:=by
  intro H hO hS hok hA hK;have BC:∀{b:Addr} {o:Obj},s₁.heap.get? b=some o->H b=none->(wo s₁.heap H).get? b=some o:=λe n=>EF e n
  have Pg:∀{b:Addr} {o:Obj} {es:Array DictEntry} {ep:Nat},s₁.heap.get? b=some o->o.data=.dict es ep->H b=none:=λ{b o es ep} e d=>by
   cases q:H b with
   | none=>rfl
   | some u =>
    have e':b=a:=hA b (by rw[q];simp);subst e';rw[ha] at e;cases e;have d':Data.seq vs.toArray _=Data.dict es ep:=d;cases d'
  have R0:∀{b:Addr} {m:Str->Option af},s₁.heap.Ns b m->(wo s₁.heap H).Ns b m:=λ{b m} ⟨o,es,ep,e,d,r⟩=>⟨o,es,ep,BC e (Pg e d),d,r⟩
  have VH:K.In (wo s₁.heap H):=λb o e=>BC (KX b o e) (by
   cases q:H b with
   | none=>rfl
   | some u =>
    have e':b=a:=hA b (by rw[q];simp);subst e';rw[hK (by rw[q];simp)] at e;cases e)
  have hM:Mod K mg (wo s₁.heap H):=⟨VH,R0 VG,⟨mb,R0 hb,WW⟩,let ⟨mc,h1,h2⟩:=SW;⟨mc,R0 h1,h2⟩⟩;have e0:zV P w K mg (wo s₁.heap H) callerA [] s₁ H:=⟨rfl,hM,λb o e=>HR e,Nat.le_of_eq (CA _ _),trivial,λb hb=>absurd (show b∈([]:List Addr) from hb) (!4),hok,.of_eq hg⟩;refine codeAny_mono ((F _ VH (R0 VG)).run callerA [] s₁ H ⟨[.ref a],[]⟩ [.ref a] [.ref a] _ _ hr e0 (Py s₁ (.ref a)) (.cons rfl .nil) (xB H hO hS)) λr s' h=>?_
  cases r with
  | error e=>exact (SX H e s' h).elim
  | ok fl =>
   cases fl with
   | next=>exact False.elim h
   | brk=>exact False.elim h
   | cont=>exact False.elim h
   | ret u =>
    obtain⟨v,H',os,bare,un,S3,r',q⟩:=h;have q':v=.bl true:=q;subst q';obtain rfl:u=af.bool true:=r';refine⟨rfl,OldK.of_keep λb o e=>?_,os,bare⟩
    cases q:H b with
    | none=>exact un.keep b o e q (by intro z;exact absurd (show b∈([]:List Addr) from z) (!4)) (!4)
    | some u =>
     rcases hO b with z | ⟨ob,xs,z⟩
     .rw[q] at z;cases z
     .have z2:=un.uz b ob _ z
      obtain⟨e1,_⟩:=hok b _ z;obtain⟨e2,_⟩:=S3 b _ z2;rw[e] at e1;cases e1;exact e2
 cases hk:K.lookup a with
 | some o =>
  have e:=KX a o hk;rw[ha] at e;cases e;refine Pz (λ_=>none) (λ_=>.inl rfl) (.inr ⟨_,vs.toArray,_,hk,rfl,rfl,rfl,by rw[aB,SY];exact hl,by simpa using rv⟩) (λb u z=>by have z':(none:Option HO)=some u:=z;cases z') (λb z=>absurd rfl z) λz=>absurd rfl z
 | none =>
  refine Pz (λb=>if b=a then some (.rV { cls:=.type "list",data:=.seq vs.toArray } (.lst (ns.map V.int))) else none) (λb=>?_) (.inl (.inr ⟨{ cls:=.type "list",data:=.seq vs.toArray },if_pos rfl⟩)) (λb u z=>?_) (λb z=>?_) λ_=>hk
  .by_cases hb:b=a
   .exact .inr ⟨_,_,if_pos hb⟩
   .exact .inl (if_neg hb)
  .by_cases hb:b=a
   .have z':=(if_pos hb).symm.trans z
    cases z';subst hb;exact⟨ha,by rw[ai];exact hl,vs,_,rv,ha⟩
   .have z':=(if_neg hb).symm.trans z
    cases z'
  .by_cases hb:b=a
   .exact hb
   .exact absurd (if_neg hb) z
abbrev ZT {K:W.Frag}{h:Heap}(_:K.In h):W.Frag:=K
theorem IC {l:W.OpenLaw}{n k:Nat}{q:aV}{loose:List Str}{XP:(Str->Option af)->Heap->Prop}{YP:World->Heap->Prop}{d:DefRec}{K:Params->W.Frag}{CX:World->Eu}{sp:World->Sp}{x:Str}
  (hn:l.most=some n) (WX:n<=au) (ME:d.params.defaults=[]) (hr:fu k callerA)
  (hY:∀(w:World) (h:Heap),YP w h->(K w.params).In h)
  (F:∀(w:World) (mg:Str->Option af) (fa:Addr) (h:Heap),(K w.params).In h->h.Ns aS mg->mg d.name=some (.ref fa) ->
   ∃fd:bt,(∀(s:aq) (u:af),BindsTo s fd ⟨[u],[]⟩ [(x,u)]) /\
    ∀base:Heap,(K w.params).In base->base.Ns aS mg->iO l.prog w (K w.params) mg base (CX w) k fa fd [x] (sp w))
  (xB:∀(w:World) (H:Hp) (a:Addr) (ns:List Int),ns.length<=n->MG H->gp (K w.params) H a (ns.map V.int)->sp w [.ref a] H (λv _=>v=.bl true) λ_ _ _=>False)
  (SX:∀(w:World) (H:Hp) (s:aq) (e:af) (s':aq),CX w [] H s (λ_ _ _=>False) e s'->False) :
  W.WalkO q loose XP YP l.row.toRowW d [] (λf vs=>PySem.call f vs):=by
 refine Att.xM hn ME λw s₀ s₁ mg mb fa o pm cd sf a vs ns G Y ho hd jl Px MF E5 eF hg=>?_;have KX:=hY w _ Y;obtain⟨fd,hb,hF⟩:=F w mg fa _ KX G.T.g Px;exact E6 KX G.T.g G.T.b G.T.builtins G.T.nolimit hg MF E5 (aT eF WX) hr hF hb (λH hO hS=>xB w H a ns eF hO hS) λH e s'=>SX w H s₁ e s'
noncomputable def i7 (s:Stmt):Arguments:=match s with
 | .FunctionDef _ a _ _ _ _ _ _ _ _=>a
 | _=>{ posonlyargs:=[],args:=[],vararg:=none,kwonlyargs:=[],kw_defaults:=[],kwarg:=none,defaults:=[] }
noncomputable def fc (s:Stmt):List Stmt:=match s with
 | .FunctionDef _ _ b _ _ _ _ _ _ _=>b
 | _=>[]
noncomputable def c8 (s:Stmt):Scope:=match s with
 | .FunctionDef _ _ _ _ _ _ sc _ _ _=>sc
 | _=>{ kind:=.function,names:=[],isGenerator:=false,isCoroutine:=false }
abbrev uj:Eu:=λ_ _ _ _ _ _=>False
abbrev E0:XK:=λ_ _ _=>False
theorem PB:zW uj X E0:=λ_ _ _ _ _ _ _ h=>h.elim
structure uD (K:W.Frag) (x eK:Str) (st:Stmt) (f:Addr) (fd:bt):Prop where
 ex:∃(oc:af) (od:Option Addr) (kV sf pm:af) (an:Option Addr) (d8 ct:af) (Bx:Array (Option af)),
  fd=W.fnOf x eK (i7 st) (fc st) (c8 st) .none kV sf pm an d8 ct/\K.lookup f=some ⟨oc,od,.func fd,Bx⟩/\W.codeIn K d8 eK=true
 kp:W.keepIn K (.ref f)=true
section
variable {P:aV}{w:World}{K:W.Frag}{mg:Str->Option af}{base:Heap}
theorem uD.ok {x eK:Str}{st:Stmt}{f:Addr}{fd:bt}{N ps:List Str}{k:Nat}{sp:Sp}(F:uD K x eK st f fd)(S:eO N ps (c8 st))(len:∀vs H Q E,sp vs H Q E->vs.length=ps.length)
  (sg:∀(d8:af) (A:Around) (outer:List Env) (s:aq) (H:Hp) (vs:List V) (Q:VK) (E:XK),fu k (A.deeper (envOfC eK (c8 st) s.heap.objs.size f d8))->sp vs H Q E ->
   ∃t,zF (kF uj P w K mg base N eK (c8 st) f d8 A outer s H E).Et (fc st) t/\t { nx:=λ_ H'=>Q .h8 H',rt:=Q } (start N vs) H):iO P w K mg base uj (k+1) f fd ps sp:=by
 obtain⟨oc,od,kV,sf,pm,an,d8,ct,Bx,rfl,lk,jl⟩:=F.ex;refine Kr lk jl S len λA outer s H vs Q E hr xB=>?_;obtain⟨t,h,q⟩:=sg d8 A outer s H vs Q E hr xB;exact⟨t,h.Et,q⟩
theorem uD.binds {x eK:Str}{st:Stmt}{f:Addr}{fd:bt}{ps:List Str}(F:uD K x eK st f fd)
  (h:∀(kV sf pm:af) (an:Option Addr) (d8 ct:af) (us:List af),us.length=ps.length->bindArgs (W.fnOf x eK (i7 st) (fc st) (c8 st) .none kV sf pm an d8 ct) ⟨us,[]⟩=pure (ps.zip us)):Binds K fd ps []:=by
 obtain⟨oc,od,kV,sf,pm,an,d8,ct,Bx,rfl,lk,jl⟩:=F.ex;exact .all (h kV sf pm an d8 ct)
theorem z5 {x eK:Str}{st:Stmt}{f:Addr}{oc:af}{od an:Option Addr}{Bx:Array (Option af)}{kV sf pm d8 ct:af}(l:K.lookup f=some ⟨oc,od,.func (W.fnOf x eK (i7 st) (fc st) (c8 st) .none kV sf pm an d8 ct),Bx⟩)
  (c:W.codeIn K d8 eK=true) (k:W.keepIn K (.ref f)=true):uD K x eK st f (W.fnOf x eK (i7 st) (fc st) (c8 st) .none kV sf pm an d8 ct):=⟨⟨oc,od,kV,sf,pm,an,d8,ct,Bx,rfl,l,c⟩,k⟩
end
theorem PD (hr:fu k A):A.units+1<cLine:=cu (Nat.add_le_add_left (by decide:1<=64) _) hr.units
theorem MH {A B:Prop}(h:B):if false=true then A else B:=by
 rw[if_neg aR];exact h
theorem PF {A B:Prop}(h:A):if true=true then A else B:=by
 rw[if_pos rfl];exact h
theorem MI {c A B:Prop}[Decidable c](h1:c->A)(h2:¬ c->B):if c then A else B:=by
 by_cases h:c
 .rw[if_pos h]
  exact h1 h
 .rw[if_neg h]
  exact h2 h
structure dF (P:aV) (w:World) (K:W.Frag) (mg:Str->Option af) (base:Heap) (k:Nat) (x:Str) (ps:List Str) (sp:Sp):Prop where
 ex:∃(f:Addr) (fd:bt),iO P w K mg base uj k f fd ps sp/\mg x=some (.ref f)/\W.keepIn K (.ref f)=true/\Binds K fd ps []
def si (sp:Sp)(t:TA):TE:=λσ H Q=>t σ H λvs H1=>sp vs H1 Q E0
theorem CQ (sp:Sp)(t:TA):EV sp [] E0 t=si sp t:=by
 funext σ H Q;unfold EV si;congr;funext vs H1;rw[bj]
section
theorem E7 (D:dF X.prog X.w X.K X.mg X.base k x ps sp)(hr:fu k X.A)(ha:PA X (e::es) t)(hg:Gl X x:=by rfl)
  (lK:(x == ("__debug__" : Str))=false:=by decide) (he:starEach (e::es) X.env=(false,eval e X.env)::starEach es X.env:=by rfl) (m7:(backTo pos (starEach es X.env)).any (·.1)=false:=by rfl) :
  PE X (.Call (.Name x p) (e::es) [] pos) (si sp t):=by
 obtain⟨f,fd,F,hm,hk,hb⟩:=D.ex;rw[<- CQ];exact Io F hr hg hm hk hb .nil PB ha lK he m7
end
def mV (cells:List (Str × Addr)):List (Str × aH)->List (Str × Addr)->List (Str × Addr)
 | [],acc=>acc
 | (n,k)::r,acc=>mV cells r (if (k == aH.free)=true then (n,(cells.lookup n).getD 0)::acc else acc)
theorem vh (cells:List (Str × Addr))(n:Str)(k:aH)(r:List (Str × aH))(acc:List (Str × Addr)):mV cells ((n,k)::r) acc=mV cells r (if (k == aH.free)=true then (n,(cells.lookup n).getD 0)::acc else acc):=rfl
theorem xN:∀{l:List (Str × aH)} {acc:List (Str × Addr)},(x,c)∈mV cells l acc->(x,c)∈acc\/((x,aH.free)∈l/\c=(cells.lookup x).getD 0)
 | [],acc,h=>.inl h
 | (n,k)::r,acc,h=>by
  unfold mV at h;rcases xN h with h | ⟨h1,h2⟩
  .by_cases hk:(k == aH.free)=true
   .rw[if_pos hk] at h
    rcases ap.mp h with h | h
    .cases h
     have:k=aH.free:=by simpa using hk
     subst this;exact .inr ⟨ao,rfl⟩
    .exact .inl h
   .rw[if_neg hk] at h
    exact .inl h
  .exact .inr ⟨am _ h1,h2⟩
theorem xO:∀{l:List (Str × aH)} {acc:List (Str × Addr)},q∈acc->q∈mV cells l acc
 | [],_,h=>h
 | (n,k)::r,acc,h=>by
  unfold mV;refine xO ?_;split
  .exact am _ h
  .exact h
theorem BE:∀{l:List (Str × aH)} {acc:List (Str × Addr)},(x,aH.free)∈l->(x,(cells.lookup x).getD 0)∈mV cells l acc
 | [],_,h=>by cases h
 | (n,k)::r,acc,h=>by
  unfold mV;rcases ap.mp h with h | h
  .cases h
   refine xO ?_;simp
  .exact BE h
theorem nr {β:Type}{x:Str}{b:β}:∀{l:List (Str × β)},(x,b)∈l->∃c,l.lookup x=some c
 | [],h=>by cases h
 | (n,k)::r,h=>by
  rw[bv]
  cases e:x == n with
  | true=>exact⟨k,rfl⟩
  | false =>
   rcases ap.mp h with h | h
   .cases h
    simp at e
   .exact nr h
theorem lT:∀(l:List (Str × aH)) (acc:List (Str × Addr)),(∀x∈l,x.2=aH.free->∃c,env.cells.lookup x.1=some c) ->
  (forIn l acc λx r=>if (x.2 == aH.free)=true then (do let c <- cellOf env x.1;pure (ForInStep.yield ((x.1,c)::r))) else pure (ForInStep.yield r):Sem (List (Str × Addr)))=pure (mV env.cells l acc)
 | [],acc,_=>rfl
 | (n,k)::r,acc,h=>by
  rw[List.forIn_cons];by_cases hk:(k == aH.free)=true
  .obtain⟨c,hc⟩:=h (n,k) ao (by simpa using hk)
   have e:cellOf env n=pure c:=by unfold cellOf;rw[hc]
   show (if (k == aH.free)=true then _ else _) >>= _=_;rw[if_pos hk,e];show (forIn r ((n,c)::acc) _:Sem _)=_;rw[lT r _ λx hx=>h x (am _ hx)];rw[vh,if_pos hk,show env.cells.lookup n=some c from hc];rfl
  .show (if (k == aH.free)=true then _ else _) >>= _=_
   rw[if_neg hk];show (forIn r acc _:Sem _)=_;rw[lT r _ λx hx=>h x (am _ hx)];rw[vh,if_neg hk]
theorem uE (h:∀x∈scope.names,x.2=aH.free->∃c,env.cells.lookup x.1=some c):closureFor scope env=pure (mV env.cells scope.names []):=by
 have e:=lT scope.names [] h;unfold closureFor
 first
  | exact (congrArg (λm=>m >>= λr=>pure r) e).trans rfl
  | (simp only[bind_pure];exact e)
  | (rw[<- e];rfl)
def e9 (X:Cx)(sc:Scope)(N:List Str)(cl:List (Str × Addr))(C:Addr)(s₂:aq)(H₂:Hp)(fp:List Addr):Cx where
 prog:=X.prog
 w:=X.w
 K:=X.K
 mg:=X.mg
 base:=X.base
 A:=X.A
 N:=N
 s₀:=s₂
 H₀:=H₂
 env:=compEnvC sc cl C X.env
 outer:=X.stack
 stack:=X.stack
 ex:=fp
 fn:=λx=>sc.names.lookup x == some aH.cell
 calm:=true
 pn:=[]
 xe:=λ_ _=>False
def gH (NX:List Str)(MJ sc:Scope)(N:List Str)(mp:List (Option Nat)):Bool :=
 sc.names.all (λp=>p.2 != aH.cell || sc.names.lookup p.1 == some aH.cell) && sc.names.all (λp=>p.2 != aH.local || sc.names.lookup p.1 == some aH.local) &&
 sc.names.all (λp=>p.2 != aH.free || (MJ.names.lookup p.1 == some aH.cell || MJ.names.lookup p.1 == some aH.free)) && sc.names.all (λp=>p.2 != aH.free || sc.names.lookup p.1 == some aH.free) &&
 mp.length == N.length && (N.zip mp).all (λq=>match q.2 with | none=>true | some i=>NX[i]? == some q.1 && sc.names.lookup q.1 == some aH.free)
noncomputable def lU (mp:List (Option Nat))(σ:St):St:=mp.map λo=>match o with | none=>none | some i=>(σ[i]?).join
structure sj (NX:List Str) (MJ sc:Scope) (N:List Str) (mp:List (Option Nat)):Prop where
 cell:∀x∈sc.names,x.2=aH.cell->sc.names.lookup x.1=some aH.cell
 loc:∀x∈sc.names,x.2=aH.local->sc.names.lookup x.1=some aH.local
 free:∀x∈sc.names,x.2=aH.free->MJ.names.lookup x.1=some aH.cell\/MJ.names.lookup x.1=some aH.free
 fr:∀x∈sc.names,x.2=aH.free->sc.names.lookup x.1=some aH.free
 len:mp.length=N.length
 map:∀(j:Nat) (x:Str) (i:Nat),N[j]? = some x->mp[j]? = some (some i)->NX[i]? = some x/\sc.names.lookup x=some aH.free
theorem vi (h:gH NX MJ sc N mp=true):sj NX MJ sc N mp:=by
 unfold gH at h;simp only[aZ,cN] at h;obtain⟨⟨⟨⟨⟨h1,h2⟩,h3⟩,h6⟩,h4⟩,h5⟩:=h;have hl:mp.length=N.length:=by simpa using h4
 refine⟨λx hx e=>?_,λx hx e=>?_,λx hx e=>?_,λx hx e=>?_,hl,λj x i e1 e2=>?_⟩
 .have:=h1 x hx
  rw[e] at this;simpa using this
 .have:=h2 x hx
  rw[e] at this;simpa using this
 .have:=h3 x hx
  rw[e] at this;simpa using this
 .have:=h6 x hx
  rw[e] at this;simpa using this
 .have S5:j<N.length:=(aG.mp e1).1
  have VI:j<mp.length:=(aG.mp e2).1
  have hm:(x,some i)∈N.zip mp:=by
   refine bB (i:=j) ?_;rw[List.getElem?_zip_eq_some];exact⟨e1,e2⟩
  have:=h5 _ hm;simpa using this
theorem lV (h:(relabel sc env).names.lookup x=some k):∃k',(x,k')∈sc.names/\(k=k'\/(k'=aH.free/\k=aH.cell)):=by
 have hm:=PySem.mem_of_lookup h;obtain⟨⟨n,k'⟩,R1,e⟩:=bb.mp hm;refine⟨k',?_⟩;dsimp only at e;split at e
 .rename_i hc
  cases e;rw[aZ,aZ] at hc;have:k'=aH.free:=by simpa using hc.1.1
  exact⟨R1,.inr ⟨this,rfl⟩⟩
 .cases e
  exact⟨R1,.inl rfl⟩
theorem oy (h:sc.names.lookup x=some aH.free):(relabel sc env).names.lookup x=some aH.cell\/(relabel sc env).names.lookup x=some aH.free:=by
 show (sc.names.map _).lookup x=_\/(sc.names.map _).lookup x=_;generalize sc.names=l at h
 induction l with
 | nil=>cases h
 | cons p r ih =>
  obtain⟨n,k⟩:=p;rw[ah];dsimp only;by_cases hc:(k == aH.free && env.scope.kind == .function && env.kindOf n == some .cell)=true
  .rw[if_pos hc,bv]
   cases e:x == n with
   | true=>exact .inl rfl
   | false =>
    rw[bv,e] at h;exact ih h
  .rw[if_neg hc,bv]
   cases e:x == n with
   | true =>
    rw[bv,e] at h;exact .inr h
   | false =>
    rw[bv,e] at h;exact ih h
theorem wB:∀{l:List (Str × aH)} {n:Nat} {acc:List (Str × Addr)},q∈acc->q∈cellsFrom n l acc
 | [],_,_,h=>h
 | (m,k)::r,n,acc,h=>by
  unfold cellsFrom;split
  .exact wB (am _ h)
  .exact wB h
theorem E8:∀{l:List (Str × aH)} {n:Nat} {acc:List (Str × Addr)},(x,aH.cell)∈l->∃c,(x,c)∈cellsFrom n l acc
 | (m,k)::r,n,acc,h=>by
  unfold cellsFrom;rcases ap.mp h with h | h
  .cases h
   exact⟨n,wB (n:=n+1) (l:=r) (acc:=(x,n)::acc) ao⟩
  .split
   .exact E8 h
   .exact E8 h
theorem z6:∀{l:List (Str × aH)} {h:Heap} {n:Nat} {acc:List (Str × Addr)},h.objs.size=n->q∈cellsFrom n l acc->q∈acc\/(n<=q.2/\(q.1,aH.cell)∈l/\(pushCells h l).IsCell q.2 none)
 | [],_,_,_,_,h=>.inl h
 | (m,k)::r,hp,n,acc,hn,h=>by
  unfold cellsFrom at h;unfold pushCells;by_cases hk:(k == aH.cell)=true
  .rw[if_pos hk] at h ⊢
   have e:k=aH.cell:=by simpa using hk
   subst e;rcases z6 (h:=hp.push { cls:=.type "cell",data:=.cell none }) (by rw[bE,hn]) h with h | ⟨h1,h2,h3⟩
   .rcases ap.mp h with h | h
    .subst h
     subst hn;exact .inr ⟨al _,ao,⟨_,pushCells_keeps _ _ _ _ (aA _ rfl),rfl⟩⟩
    .exact .inl h
   .exact .inr ⟨!1,am _ h2,h3⟩
  .rw[if_neg hk] at h ⊢
   rcases z6 hn h with h | ⟨h1,h2,h3⟩
   .exact .inl h
   .exact .inr ⟨h1,am _ h2,h3⟩
theorem z7:∀{l:List (Str × aH)} {n:Nat} {acc:List (Str × Addr)},(∀q∈acc,q.2<n)->(∀x y c,(x,c)∈acc->(y,c)∈acc->x=y)->∀x y c,(x,c)∈cellsFrom n l acc->(y,c)∈cellsFrom n l acc->x=y
 | [],_,_,_,h=>h
 | (m,k)::r,n,acc,hn,h=>by
  unfold cellsFrom;split
  .refine z7 (λq hq=>?_) λx y c hx hy=>?_
   .rcases ap.mp hq with e | e
    .subst e;exact cm _
    .exact cj (hn q e)
   .rcases ap.mp hx with e | e<;>rcases ap.mp hy with e' | e'
    .cases e;cases e';rfl
    .cases e;exact absurd (hn _ e') (bh _)
    .cases e';exact absurd (hn _ e) (bh _)
    .exact h x y c e e'
  .exact z7 hn h
theorem z8
  (hQ:(pushCells (s.heap.push { cls:=.type "dict",data:=.dict #[] }) scope.names).Ns s.heap.objs.size (λ_=>none) ->
   Q (newEnv scope s.heap.objs.size globals (cellsFrom (s.heap.objs.size+1) scope.names closure) eK none .none (some env) 0) { s with heap:=pushCells (s.heap.push { cls:=.type "dict",data:=.dict #[] }) scope.names }) :
  ay M A (newFunctionEnv scope globals closure [] eK none .none (some env)) Q E s:=by
 simp only[newFunctionEnv,Option.isSome_some,if_true];refine ae (wpAny_alloc ?_);refine ae (wpAny_layCells _ (λname kind cells=>by cases WY:kind == aH.cell<;>simp[WY]) _ _ _ _ ?_);rw[show ({ s with heap:=s.heap.push { cls:=.type "dict",data:=.dict #[] } }:aq).heap.objs.size=s.heap.objs.size+1 from bE ..];rw[List.forIn_nil];exact ae (ak (ak (hQ ((Heap.Ns.new s.heap (.type "dict")).keeps (pushCells_keeps _ _)))))
structure PH (X:Cx) (sc:Scope) (C:Addr) (h:Heap) (cl:List (Str × Addr)):Prop where
 has:∀x,(x,aH.cell)∈sc.names\/(x,aH.free)∈sc.names->∃c,cl.lookup x=some c
 sub:∀x c,cl.lookup x=some c->(X.env.cells.lookup x=some c/\(x,aH.free)∈sc.names)\/(C<c/\(x,aH.cell)∈sc.names/\h.IsCell c none)
 inj:∀x y c,cl.lookup x=some c->cl.lookup y=some c->x=y
section
variable {X:Cx}{sc:Scope}{N:List Str}{mp:List (Option Nat)}{pins:List (Addr × Obj)}{σ:St}{H:Hp}{s:aq}{fp:List Addr}{C:Addr}{h₁:Heap}{cl:List (Str × Addr)}
theorem xP (O:sj X.N X.env.scope sc N mp)(ok:X.Ok):∀x∈sc.names,x.2=aH.free->∃c,X.env.cells.lookup x.1=some c:=λx hx e=>ok.has x.1 (O.free x hx e)
theorem ID (O:sj X.N X.env.scope sc N mp)(I:Inv X pins σ H s){hp:Heap}(hs:s.heap.objs.size<=hp.objs.size)(e:hp.objs.size=C+1):PH X sc C (pushCells hp sc.names) (cellsFrom (C+1) sc.names (mV X.env.cells sc.names [])):=by
 have ok:=I.ok
 have old:∀q∈mV X.env.cells sc.names [],X.env.cells.lookup q.1=some q.2/\(q.1,aH.free)∈sc.names:=λq hq=>by
  rcases xN (x:=q.1) (c:=q.2) hq with h | ⟨h1,h2⟩
  .cases h
  .obtain⟨c',hc⟩:=xP O ok _ h1 rfl
   have CD:X.env.cells.lookup q.1=some c':=hc;rw[CD] at h2;rw[CD,h2];exact⟨rfl,h1⟩
 have lt:∀q∈mV X.env.cells sc.names [],q.2<C+1:=λq hq=>by
  obtain⟨v,o,ho,_⟩:=I.cell _ _ (old q hq).1;exact e ▸ aK (ax ho) hs
 refine⟨λx hx=>?_,λx c h=>?_,λx y c h1 h2=>z7 lt (λx y c h1 h2=>ok.inj x y c (old _ h1).1 (old _ h2).1) x y c (PySem.mem_of_lookup h1) (PySem.mem_of_lookup h2)⟩
 .rcases hx with h | h
  .obtain⟨c,hc⟩:=E8 (n:=C+1) (acc:=mV X.env.cells sc.names []) h
   exact nr hc
  .exact nr (wB (BE h))
 .rcases z6 (h:=hp) e (PySem.mem_of_lookup h) with h | ⟨h1,h2,h3⟩
  .exact .inl (old _ h)
  .exact .inr ⟨h1,h2,h3⟩
theorem E9 (hc:X.calm=true)(O:sj X.N X.env.scope sc N mp)(hk:sc.kind=.function)(I:Inv X pins σ H s)(hC:s.heap.objs.size<=C)(kp:∀b o,s.heap.get? b=some o->h₁.get? b=some o){m:Str->Option af}
  (hn:h₁.Ns C m) (Kt:∀b∈fp,rf X pins H b) (MK:∀b∈fp,b<s.heap.objs.size) {t':Nat} (L:PH X sc C h₁ cl) :
  Inv (e9 X sc N cl C s H fp) [] (lU mp σ) H { s with heap:=h₁,toks:=t' }:=by
 have ok:=I.ok
 have S6:∀b∈fp,b ∉ nk X.stack:=λb hb z=>by
  rcases ap.mp (I.rW b z) with e | e
  .exact (Kt b hb).2.1 e
  .exact (Kt b hb).2.2.1 e
 refine⟨⟨ok.mod,hk,ok.glob,ok.blt,hC,?_,?_,?_,λ_=>ok.hd hc,ok.frames,.inl rfl,?_,I.bs,aT ok.HS I.sz,?_,S6,I.stack,I.rE⟩,rfl,I.bare,Un.kept kp,?_,?_,I.hok.fresh hC,?_,?_,I.hok.kept kp,?_⟩
 .exact L.inj
 .intro x hx
  have R3:(relabel sc X.env).names.lookup x=some .cell\/(relabel sc X.env).names.lookup x=some .free:=hx;refine L.has x ?_;rcases R3 with h | h
  .obtain⟨k',hm,e⟩:=lV h
   rcases e with e | ⟨e,_⟩
   .subst e
    exact .inl hm
   .subst e
    exact .inr hm
  .obtain⟨k',hm,e⟩:=lV h
   rcases e with e | ⟨_,e⟩
   .subst e
    exact .inr hm
   .cases e
 .intro x c hf hc
  have WZ:sc.names.lookup x=some aH.cell:=by simpa [e9] using hf
  rcases L.sub x c hc with h | h
  .have:=O.fr _ h.2 rfl
   rw[WZ] at this;cases this
  .exact aT hC (cR h.1)
 .intro b hb
  refine⟨aQ (aK (MK b hb) hC),λx c h=>?_⟩;rcases L.sub x c h with h | h
  .exact (Kt b hb).2.2.2.2.1 x c h.1
  .exact λz=>bh _ (cT (aK (MK b hb) hC) (z ▸ h.1))
 .intro b o e hb
  rcases (Kt b hb).2.2.2.1 with z | z
  .exact ok.CB b o e z
  .exact absurd (aK (ax (ok.bs b o e).1) z) (bh _)
 .refine⟨m,hn,λj x v e1 e2 e3=>?_⟩
  have VJ:N[j]? = some x:=e1
  have hj:j<mp.length:=by
   rw[O.len];exact (aG.mp VJ).1
  obtain⟨i,hi,hv⟩:∃i,mp[j]? = some (some i)/\σ[i]? = some (some v):=by
   unfold lU at e2;rw[az] at e2
   cases e:mp[j]? with
   | none=>rw[e] at e2;cases e2
   | some o =>
    rw[e] at e2
    cases o with
    | none=>cases e2
    | some i =>
     refine⟨i,rfl,?_⟩;have Oh:(σ[i]?).join=some v:=Option.some.inj e2
     cases q:σ[i]? with
     | none=>rw[q] at Oh;cases Oh
     | some z =>
      rw[q] at Oh;have:z=some v:=Oh;rw[this]
  obtain⟨hx,hf⟩:=O.map j x i VJ hi;have S7:=PySem.mem_of_lookup hf;obtain⟨mX,ZU,hl⟩:=I.loc
  have W0:Bq X.env.scope x:=by
   rcases O.free _ S7 rfl with z | z
   .exact .inr (.inl z)
   .exact .inr (.inr z)
  obtain⟨u,r,q⟩:=hl i x v hx hv W0;refine⟨u,r,?_⟩;rcases q with⟨z,_⟩ | ⟨_,c,ec,PJ⟩
  .exfalso
   have z':X.env.scope.names.lookup x=some .local:=z;rcases O.free _ S7 rfl with y | y
   .rw[show X.env.scope.names.lookup x=some .cell from y] at z';cases z'
   .rw[show X.env.scope.names.lookup x=some .free from y] at z';cases z'
  .obtain⟨c',CD⟩:=L.has x (.inr S7)
   have OQ:X.env.cells.lookup x=some c':=by
    rcases L.sub x c' CD with h | h
    .exact h.1
    .have:=O.cell _ h.2.1 rfl
     rw[hf] at this;cases this
   rw[ec] at OQ;cases OQ;refine .inr ⟨oy hf,c,CD,?_⟩;obtain⟨o,ho,hd⟩:=PJ;exact⟨o,kp _ _ ho,hd⟩
 .intro x c h
  rcases L.sub x c h with h | h
  .obtain⟨v,o,ho,hd⟩:=I.cell x c h.1
   exact⟨v,o,kp _ _ ho,hd⟩
  .exact⟨none,h.2.2⟩
 .intro x c h
  rcases L.sub x c h with h | h
  .exact I.freeC x c h.1
  .exact I.hok.fresh (aT hC (cR h.1))
 .intro p hp
  cases hp
 .show (lU mp σ).length=N.length
  unfold lU;rw[ai,O.len]
theorem Inv.BF {a:Addr}{o:HO}{ob:Obj}(I:Inv X pins σ H s)(ho:s.heap.get? a=some ob)(hn:H a=none)(hL:a≠X.env.locals)(h1:a∈X.ex\/X.s₀.heap.objs.size<=a)(h2:∀x c,X.env.cells.lookup x=some c->c≠a)
  (h3:∀p∈X.pn++pins,p.1≠a) (new:eQ X.prog X.w (d0 H a o) s.heap a o):Inv X pins σ (d0 H a o) s:=by
 have Ke:∀b u,H b=some u->b≠a:=λb u e z=>by rw[z,hn] at e;cases e
 have:=I.step (g':=s.gens) (d':=s.drawn) (t':=s.toks) (h':=s.heap) (H':=d0 H a o) (ch:=[a]) (λb hb=>?_) (λb o _ _ _ e _=>e) (λb o _ _ _ e _=>⟨o.slots,e⟩) (λb o hc _ n=>?_)
  (λb o _ e=>⟨o,e⟩) (λb xs e=>?_) (λb u xs e=>?_) (λb ps e=>⟨#[],?_⟩) (λm hm=>hm) (λb u e=>?_) I.bare
 .exact this
 .have e:b=a:=by simpa using hb
  subst e;exact⟨h1,hL,h2,h3⟩
 .rw[du (λz=>hc (by simp[z]))];exact n
 .rw[du (Ke _ _ e)];exact e
 .rw[du (Ke _ _ e)];exact e
 .rw[du (Ke _ _ e),e];simp
 .by_cases hb:b=a
  .subst hb;rw[dg] at e;cases e;exact new
  .rw[du hb] at e
   exact (I.hok b u e).zL (λc v _ q=>q) (λc q=>by rw[du (Ke _ _ q)];exact q) λc xs q=>by rw[du (Ke _ _ q)];exact q
end
theorem wC (I:Nat->aq->Prop)
  (turn:∀n s,I n s->ay (model prog w) A (pyNext it) (λr s₁=>match r with
   | none=>R (.ok .next) s₁
   | some v=>ay (model prog w) A (letOwnedTupleGo target it v) (λ_ s'=>ay (model prog w) A (assign target env v) (λ_ s₂ =>
     ay (model prog w) A (forIn oz true λc r=>if r=true then do let ok <- isTrue c env (eval c env);pure (ForInStep.yield ok) else pure (ForInStep.yield r)) (λok s₃ =>
      if ok=true then ay (model prog w) A (eval pE env) (λx s₄ =>
       ay (model prog w) A (call (.builtin "list.append") [acc,x]) (λ_ s₅=>∃m,m<n/\I m s₅) (λ_ _=>False) s₄) (λ_ _=>False) s₃
      else ∃m,m<n/\I m s₃) (λ_ _=>False) s₂) (λ_ _=>False) s') (λ_ _=>False) s₁) (λ_ _=>False) s)
  (n:Nat) (h:I n s) :
  codeAny (model prog w) A (.compLoop (.ListComp pE [⟨target,iter,oz,0⟩] scope pos) 0 it acc env) R s:=by
 refine codeAny_loop rfl I (λn s hI=>?_) n h;show ay _ A ((compTurn (.ListComp pE [⟨target,iter,oz,0⟩] scope pos) 0 it acc env).onRaise (λx=>do noteFrame x env;theTreesLotGoes x)) _ _ s;refine wpAny_noted ?_;rw[compTurn_list];refine ae (wpAny_standAt (ae (bD (turn n s hI) (λr s₁ h₁=>?_) λ_ _ h'=>h'.elim)))
 cases r with
 | none=>exact ak h₁
 | some v =>
  refine ae (bD h₁ (λ_ s' h'=>ae (bD h' (λ_ s₂ h₂=>ae (bD h₂ (λok s₃ h₃=>?_) λ_ _ h'=>h'.elim)) λ_ _ h'=>h'.elim)) λ_ _ h'=>h'.elim)
  cases ok with
  | false=>exact ak ⟨rfl,h₃⟩
  | true =>
   exact ae (ae (bD h₃ (λx s₄ h₄=>ae (bD h₄ (λ_ s₅ h₅=>ak (ak ⟨rfl,h₅⟩)) λ_ _ h'=>h'.elim)) λ_ _ h'=>h'.elim))
def Oi (X:Cx)(oz:List Expr)(t:TT):Prop :=
 ∀(pins:List (Addr × Obj)) (s:aq) (σ:St) (H:Hp) (Q:Bool->Hp->Prop),Inv X pins σ H s->t σ H Q ->
  ay (model X.prog X.w) X.A (forIn oz true λc r=>if r=true then do let ok <- isTrue c X.env (eval c X.env);pure (ForInStep.yield ok) else pure (ForInStep.yield r)) (TP X pins σ Q) X.xe s
def Ku:TT:=λ_ H Q=>Q true H
theorem IE:Oi X [] Ku:=λ_ _ _ H _ I h=>wpAny_tests_nil ⟨H,I,h⟩
theorem IF (h:PT X c t):Oi X [c] t:=λpins s σ H Q I hw=>wpAny_tests_one (h pins s σ H Q I hw)
abbrev TC:=St->Hp->(List V->Hp->Prop)->Prop
def vj (wi:TI)(mp:List (Option Nat))(g:TG)(tc:TT)(te:TE):TC:=λσ H R=>wi σ H λJ H1=>∃W:Nat->Nat->List V->St->Hp->Prop,(∃m,W 0 m [] (lU mp σ) H1)/\∀i m ys σ' H',W i m ys σ' H' ->
 (J.stop i H'/\ys.length<=au/\R ys H') \/
 (J.go i H'/\ys.length<au/\∀x Oj,J.HA i H' x Oj->g x σ' Oj λσ2 H2=>tc σ2 H2 λb H3 =>
  if b=true then te σ2 H3 λy H4=>∃m',m' < m/\W (i+1) m' (ys++[y]) σ2 H4 else ∃m',m' < m/\W (i+1) m' ys σ2 H3)
section
theorem vk {use:Option (af->Sem Unit)}{Q:af->aq->Prop}(hc:X.calm=true)(hi:PI X tg iter wi)(hk:sc.kind=.function)(O:sj X.N X.env.scope sc N mp)
  (hb:∀(cl:List (Str × Addr)) (C:Addr) (s₂:aq) (H₂:Hp) (fp:List Addr),PG (e9 X sc N cl C s₂ H₂ fp) tg g/\Oi (e9 X sc N cl C s₂ H₂ fp) oz tc/\PE (e9 X sc N cl C s₂ H₂ fp) pE te)
  {pins:List (Addr × Obj)} {s:aq} {σ:St} {H:Hp} {R:List V->Hp->Prop} (I:Inv X pins σ H s) (h:vj wi mp g tc te σ H R)
  (hs:∀x,foldedSetIterable iter X.env x=pure x)
  (S8:∀(D C:Addr) (ys:List V) (H':Hp) (s':aq) (m:Str->Option af),Inv X pins σ (d0 H' D (.lst ys)) s'->s'.heap.Ns C m->rf X pins (d0 H' D (.lst ys)) C->H' D=none->R ys H' ->
   compPost (model X.prog X.w) X.A X.xe use Q (.ref D) C (.ok .next) s') :
  ay (model X.prog X.w) X.A (comprehension (.ListComp pE [⟨tg,iter,oz,0⟩] sc pos) sc X.env ij (newList []) false (eval iter X.env) use) Q X.xe s:=by
 have ok:=I.ok;refine wpAny_comprehension_free (g:=⟨tg,iter,oz,0⟩) (gs:=[]) rfl hs (uE (xP O ok)) hk O.loc (fy (hi pins s σ H _ I h) λv s1 h1=>fy h1 λSD s2 h2=>?_);obtain⟨it,fp,tn,J,H2,e,I2,T,O4,f2,W,⟨m0,w0⟩,turn⟩:=h2;subst e;refine aY (z8 λwD=>?_);dsimp only at wD ⊢;generalize hP:s2.heap.push { cls:=.type "list",dict:=none,data:=.seq ([]:List af).toArray }=P2 at wD ⊢;have VL:P2.objs.size=s2.heap.objs.size+1:=by rw[<- hP,bE]
 have S9:s2.heap.objs.size≠P2.objs.size:=by rw[VL];exact aQ (cm _)
 have Fb:s2.heap.objs.size<=P2.objs.size:=by rw[VL];exact b9 _
 have L:=ID (C:=P2.objs.size) O I2 (hp:=P2.push { cls:=.type "dict",data:=.dict #[] }) (by rw[bE];omega) (bE ..);generalize Kv:pushCells (P2.push { cls:=.type "dict",data:=.dict #[] }) sc.names=h₁ at wD L ⊢;generalize cellsFrom (P2.objs.size+1) sc.names (mV X.env.cells sc.names [])=cl at L ⊢
 have old:∀b o,s2.heap.get? b=some o->h₁.get? b=some o:=λb o e =>
  Kv ▸ pushCells_keeps _ _ b o (ag _ (hP ▸ ag _ e))
 have IG:h₁.get? s2.heap.objs.size=some { cls:=.type "list",dict:=none,data:=.seq ([]:List af).toArray } :=
  Kv ▸ pushCells_keeps _ _ _ _ (ag _ (hP ▸ aA _ rfl))
 have MK:∀b∈fp,b<s2.heap.objs.size:=λb hb=>by
  obtain⟨o,e,_⟩:=T.obj _ _ O4 b hb;exact ax e
 have VM:s2.heap.objs.size ∉ fp:=λz=>bh _ (MK _ z)
 have I3:Inv (e9 X sc N cl P2.objs.size s2 H2 fp) [] (lU mp σ) H2 { s2 with heap:=h₁ } :=
  E9 hc O hk I2 Fb old wD f2 MK L
 obtain⟨hg,ht,he⟩:=hb cl P2.objs.size s2 H2 fp;generalize hX:e9 X sc N cl P2.objs.size s2 H2 fp=Y at I3 hg ht he;have yP:Y.prog=X.prog:=by rw[<- hX];rfl
 have yw:Y.w=X.w:=by rw[<- hX];rfl
 have yK:Y.K=X.K:=by rw[<- hX];rfl
 have yA:Y.A=X.A:=by rw[<- hX];rfl
 have yc:Y.calm=true:=by rw[<- hX];rfl
 have yx:Y.xe=λ_ _=>False:=by rw[<- hX];rfl
 have yl:Y.env.locals=P2.objs.size:=by rw[<- hX];rfl
 have VN:Y.ex=fp:=by rw[<- hX];rfl
 have Ta:Y.s₀=s2:=by rw[<- hX];rfl
 have W2:Y.H₀=H2:=by rw[<- hX];rfl
 have VO:Y.pn=[]:=by rw[<- hX];rfl
 have Tb:Y.fs=nk X.stack:=by rw[<- hX];rfl
 have PK:Y.env=compEnvC sc cl P2.objs.size X.env:=by rw[<- hX];rfl
 have VP:∀x c,Y.env.cells.lookup x=some c->X.env.cells.lookup x=some c\/P2.objs.size<c:=λx c e=>by
  rw[PK] at e;rcases L.sub x c e with h | h
  .exact .inl h.1
  .exact .inr h.1
 have W3:∀x c,Y.env.cells.lookup x=some c->c≠s2.heap.objs.size:=λx c e z=>by
  rcases VP x c e with h | h
  .obtain⟨v,o,ho,_⟩:=I2.cell x c h
   exact absurd (ax ho) (by rw[z];exact bh _)
  .exact absurd (cu Fb h) (by rw[z];exact bh _)
 have S6:∀b∈fp,b ∉ nk X.stack:=λb hb z=>by
  rcases ap.mp (I2.rW b z) with e | e
  .exact (f2 b hb).2.1 e
  .exact (f2 b hb).2.2.1 e
 have W4:s2.heap.objs.size ∉ nk X.stack:=λz=>by
  rcases ap.mp (I2.rW _ z) with e | e
  .exact absurd I2.lt (by rw[<- e];exact bh _)
  .exact I2.OL (al _) e
 have Kt:∀{H':Hp} {o:Obj},(∀b∈fp,H' b=none)->∀b∈fp,rf Y [(s2.heap.objs.size,o)] H' b:=λ{H' o} hn b hb=>by
  refine⟨hn b hb,?_,?_,?_,?_,?_⟩
  .rw[yl];exact aQ (aK (MK b hb) Fb)
  .rw[Tb];exact S6 b hb
  .rw[VN];exact .inl hb
  .intro x c e
   rcases VP x c e with h | h
   .exact (f2 b hb).2.2.2.2.1 x c h
   .exact λz=>bh _ (cT (aK (MK b hb) Fb) (z ▸ h))
  .intro p hp
   rw[VO] at hp;have:p=(s2.heap.objs.size,o):=by simpa using hp
   subst this;exact λz=>VM (by have z':s2.heap.objs.size=b:=z;rw[z'];exact hb)
 have PL:∀{σ':St} {H':Hp} {s':aq} {o:Obj},Inv Y [] σ' H' s'->s'.heap.get? s2.heap.objs.size=some o->(∀v,o.data≠.cell v)->H' s2.heap.objs.size=none->Inv Y [(s2.heap.objs.size,o)] σ' H' s' :=
  λ{σ' H' s' o} J e d hn=>J.rF λp hp=>by
   have:p=(s2.heap.objs.size,o):=by simpa using hp
   subst this;exact⟨e,hn,by rw[yl];exact S9,by rw[Tb];exact W4,d⟩
 have loop:∀s₃:aq,s₃={ s2 with heap:=h₁ } ->
   codeAny (model X.prog X.w) X.A (.compLoop (.ListComp pE [⟨tg,iter,oz,0⟩] sc pos) 0 (.ref it) (.ref s2.heap.objs.size) Y.env)
    (compPost (model X.prog X.w) X.A X.xe use Q (.ref s2.heap.objs.size) P2.objs.size) s₃:=by
  rintro s₃ rfl
  refine wC (λn s'=>∃i ys its c σ' H',Inv Y [(s2.heap.objs.size,({ cls:=.type "list",data:=.seq its.toArray c }:Obj))] σ' H' s'/\dO ys its/\tn i s'.heap/\(∀b∈fp,H' b=none)/\ys.length<=au/\W i n ys σ' H') ?_ m0
   ⟨0,[],[],0,lU mp σ,H2,PL I3 IG (λv z=>by cases z) (I2.hok.fresh (al _)),.nil,T.keep _ _ _ O4 (λb _ o e=>old b o e),λb hb=>(f2 b hb).1,bU _,w0⟩
  rintro n s3 ⟨i,ys,its,c,σ3,H3,J3,rv,O5,O6,hz,w3⟩;have W5:=J3.pin _ (aN _ (av.mpr rfl));rcases turn i n ys σ3 H3 w3 with⟨stop,hl,qn⟩ | ⟨go,hl,step⟩
  .have:=T.done Y yP yw yK yc i _ s3 σ3 H3 (λ_ _=>False) J3 (Kt O6) O5 stop
   rw[yA] at this;refine fy this λr s4 ⟨hr,J4⟩=>?_;subst hr;obtain⟨pe,pn,_,_,_⟩:=J4.pin _ (aN _ (av.mpr rfl));dsimp only at pe pn;have un:=J4.base;rw[Tb,VN,Ta,W2] at un;have W6:s4.os=s2.os:=by have:=J4.os;rw[Ta] at this;exact this
   have PM:=J4.hok;rw[yP,yw] at PM;have IX:Inv X pins σ H3 s4:=I2.Kf W6 un PM J4.bare λb hb=>⟨(f2 b hb).2.2.2.1,(f2 b hb).2.1,(f2 b hb).2.2.2.2.1,(f2 b hb).2.2.2.2.2⟩;obtain⟨mC,VQ,_⟩:=J4.loc;rw[yl] at VQ;have dX:rf X pins H3 s2.heap.objs.size:=I2.r6 (al _) pn;have IT:Inv X pins σ (d0 H3 s2.heap.objs.size (.lst ys)) s4:=IX.BF (o:=.lst ys) pe pn dX.2.1 dX.2.2.2.1 dX.2.2.2.2.1 dX.2.2.2.2.2 ⟨hl,its,c,rv,pe⟩;have cn:H3 P2.objs.size=none:=by have:=J4.free;rw[yl] at this;exact this
   have cX:rf X pins (d0 H3 s2.heap.objs.size (.lst ys)) P2.objs.size:=I2.r6 Fb (by rw[du S9.symm];exact cn);exact S8 _ _ ys H3 s4 mC IT VQ cX pn qn
  .have:=T.item Y yP yw yK yc i _ s3 σ3 H3 (λ_ _=>False) J3 (Kt O6) O5 go
   rw[yA] at this;refine fy this λr s4 ⟨u,hr,h4⟩=>?_;subst hr;refine fy h4 λ_ s5 ⟨x,H5,J5,r5,y5,L8,SE⟩=>?_;have W7:=J5.pinned (Kt SE) (T.obj _ _ L8);have ga:=hg _ s5 σ3 H5 x u _ W7 r5 (step x H5 y5);rw[yP,yw,yA,yx] at ga;refine fy ga λ_ s6 ⟨σ6,H6,J6,q6⟩=>?_;have gt:=ht _ s6 σ6 H6 _ J6 q6;rw[yP,yw,yA,yx] at gt;refine fy gt λb s7 ⟨H7,J7,q7⟩=>?_
   have Kw:∀{σ':St} {H':Hp} {s':aq},Inv Y ([(s2.heap.objs.size,({ cls:=.type "list",data:=.seq its.toArray c }:Obj))]++sd fp s5.heap) σ' H' s'->tn (i+1) s'.heap/\(∀b∈fp,H' b=none):=λ{σ' H' s'} J=>by
    refine⟨T.keep _ _ _ L8 λb hb o e=>(J.pin (b,o) (aN _ (aN _ (kD hb e)))).1,λb hb=>?_⟩;obtain⟨o,e,d⟩:=T.obj _ _ L8 b hb;exact (J.pin (b,o) (aN _ (aN _ (kD hb e)))).2.1
   cases b with
   | false =>
    have Tc:∃m',m' < n/\W (i+1) m' ys σ6 H7:=by simpa using q7
    obtain⟨m',hm,w7⟩:=Tc;obtain⟨t7,f7⟩:=Kw J7;rw[if_neg aR];exact⟨m',hm,i+1,ys,its,c,σ6,H7,J7.lS,rv,t7,f7,hz,w7⟩
   | true =>
    rw[if_pos rfl];have Tc:te σ6 H7 λy H4=>∃m',m' < n/\W (i+1) m' (ys++[y]) σ6 H4:=by simpa using q7
    have ge:=he _ s7 σ6 H7 _ J7 Tc;rw[yP,yw,yA,yx] at ge;refine fy ge λu8 s8 ⟨y,H8,J8,r8,m',hm,w8⟩=>?_;obtain⟨t8,f8⟩:=Kw J8;have VR:=J8.lS;obtain⟨pe,pn,_,_,_⟩:=VR.pin _ (aN _ (av.mpr rfl));dsimp only at pe pn;have eF:=rv.length;refine call_meets F.slot_list_append ⟨_,pe,rfl⟩ F.entry_list_append (F.args_list_append_2 _ _) (PySem.list_append s2.heap.objs.size its.toArray c u8 (by rw[aB];omega)) ⟨pe,?_⟩;have qe:=PySem.IsL.update pe (λa=>a.push u8)
    have W8:(s8.heap.update s2.heap.objs.size (Obj.mapSeq λa=>a.push u8)).get? s2.heap.objs.size=some { cls:=.type "list",data:=.seq (its++[u8]).toArray (c+1) }:=by
     simpa using qe
    have J9:Inv Y [] σ6 H8 { s8 with heap:=s8.heap.update s2.heap.objs.size (Obj.mapSeq λa=>a.push u8),toks:=s8.toks }:=by
     have J0:Inv Y [] σ6 H8 s8:=VR.rF λp hp=>by cases hp
     refine J0.turned (it:=s2.heap.objs.size) (λb o hb e=>(aI s8.heap _ (Ne.symm hb)).trans e) pn (by rw[yl];exact S9) (.inr (by rw[Ta];exact al _)) W3 (λp hp=>?_);rw[VO] at hp;cases hp
    refine⟨m',hm,i+1,ys++[y],its++[u8],c+1,σ6,H8,PL J9 W8 (λv z=>by cases z) pn,rv.append (.cons r8 .nil),?_,f8,by rw[aO,bu];omega,w8⟩;exact T.keep _ _ _ t8 λb hb o e=>(aI s8.heap _ (λ(z:s2.heap.objs.size=b)=>VM (by rw[z];exact hb))).trans e
 have PN:compEnvC sc cl P2.objs.size X.env=Y.env:=PK.symm;show codeAny _ _ (.compStart _ 0 (.ref it) (.ref s2.heap.objs.size) (compEnvC sc cl P2.objs.size X.env)) _ _;rw[PN];exact codeAny_compStart_list (loop _ rfl) (T.self _ 0 _ _ _ (T.keep _ _ _ O4 λb _ o e=>old b o e) (loop _ rfl))
def Fc (t:TC):TE:=λσ H Q=>t σ H λys H'=>∀D,H' D=none->Q (.ref D) (d0 H' D (.lst ys))
theorem IH (hc:X.calm=true)(hi:PI X tg iter wi)(hk:sc.kind=.function)(hm:gH X.N X.env.scope sc N mp=true)
  (hb:∀(cl:List (Str × Addr)) (C:Addr) (s₂:aq) (H₂:Hp) (fp:List Addr),PG (e9 X sc N cl C s₂ H₂ fp) tg g/\Oi (e9 X sc N cl C s₂ H₂ fp) oz tc/\PE (e9 X sc N cl C s₂ H₂ fp) pE te)
  (hs:∀x,foldedSetIterable iter X.env x=pure x:=by rw[3]):PE X (.ListComp pE [⟨tg,iter,oz,0⟩] sc pos) (Fc (vj wi mp g tc te)):=by
 intro pins s σ H Q I h;rw[eval_ListComp];refine vk (use:=none) hc hi hk (vi hm) hb I h hs λD C ys H' s' m I' hn f hD q=>?_;refine⟨m,hn,λh' Td=>?_⟩;obtain⟨f0,f1,_,f3,f4,f5⟩:=f;exact⟨.ref D,_,I'.turned (t':=s'.toks) (it:=C) (λb o hb e=>(Td.2 b hb).trans e) f0 f1 f3 f4 f5,rfl,q D hD⟩
def Fd (i:Nat)(t:TC):TS:=λD σ H=>t σ H λys H'=>∀l,H' l=none->D.nx (σ.set i (some (.ref l))) (d0 H' l (.lst ys))
theorem II (hN:X.N.Nodup)(ML:X.N[i]? = some x)(hx:X.env.scope.names.lookup x=some .local)(hc:X.calm=true)(hi:PI X tg iter wi)(hk:sc.kind=.function)(hm:gH X.N X.env.scope sc N mp=true)
  (hb:∀(cl:List (Str × Addr)) (C:Addr) (s₂:aq) (H₂:Hp) (fp:List Addr),PG (e9 X sc N cl C s₂ H₂ fp) tg g/\Oi (e9 X sc N cl C s₂ H₂ fp) oz tc/\PE (e9 X sc N cl C s₂ H₂ fp) pE te)
  (IJ:swapsWith (.ListComp pE [⟨tg,iter,oz,0⟩] sc pos) (some (.Name x py)) spos.line X.env=pure true:=by rfl)
  (hs:∀x,foldedSetIterable iter X.env x=pure x:=by rw[3]):PS X (.Assign [.Name x py] (.ListComp pE [⟨tg,iter,oz,0⟩] sc pos) spos) (Fd i (vj wi mp g tc te)):=by
 intro pins s σ H D I h;rw[exec_Assign_Name_used _ _ _ _ IJ];refine ae (wpAny_standAt (ae ?_));show ay _ X.A (do let _ <- comprehension (.ListComp pE [⟨tg,iter,oz,0⟩] sc pos) sc X.env _ (newList []) false (eval iter X.env) (some (assign (.Name x py) X.env))) _ _ s;refine ae (fy (vk (use:=some (assign (.Name x py) X.env)) (Q:=λ_ s'=>SP X pins D .next s') hc hi hk (vi hm) hb I h hs λl C ys H' s' m I' hn f hD q=>?_) λ_ s' hq=>ak (ak hq));obtain⟨f0,f1,f2,f3,f4,f5⟩:=f;show ay _ _ (assign (.Name x py) X.env (.ref l)) _ _ s';refine wpAny_assign_Name (u1 (v:=.ref l) I' hN ML (.inl hx) rfl (λMs W9 ⟨a,sb,ea⟩=>?_) (.inr hx))
 have W':C≠a:=by
  rcases ea with e | e
  .rw[e];exact f1
  .exact λz=>f4 x a e z.symm
 refine⟨m,hn.sameBut sb W',λh' Td=>?_⟩;exact⟨_,_,W9.turned (t':=Ms.toks) (it:=C) (λb o hb e=>(Td.2 b hb).trans e) f0 f1 f3 f4 f5,q l hD⟩
end
noncomputable def HE:List (List Int × ad)->List V->List (Key × V)
 | p::kvs,x::xs=>(.inl (p.1.headD 0),x)::HE kvs xs
 | _,_=>[]
noncomputable def HF:List (List Int × ad)->List V->List (List Key × V)
 | p::kvs,x::xs=>(p.1.map .inl,x)::HF kvs xs
 | _,_=>[]
noncomputable def xC (t:Bool)(kvs:List (List Int × ad))(xs:List V):HO:=match t with | true=>.dT (HF kvs xs) | false=>.dK (HE kvs xs)
theorem oA (h:some (HO.lst ys)=some (xC t kvs xs)):False:=by cases t<;>cases h
theorem BG (h:some (HO.tup ys)=some (xC t kvs xs)):False:=by cases t<;>cases h
noncomputable def m8 (t:Bool)(kvs:List (List Int × ad)):List (ad × ad):=(.bool t,.none)::kvs.map λp=>(.tuple (p.1.map .int),p.2)
noncomputable def gT (t:Bool)(kvs:List (List Int × ad)):ad:=.dict (m8 t kvs)
mutual
def dP (S:List Addr)(H:Hp):ad->V->Prop
 | .none,v=>v=.h8
 | .bool b,v=>v=.bl b
 | .int i,v=>v=.int i
 | .str x,v=>v=.str x
 | .tuple ds,v=>∃a xs,v=.ref a/\H a=some (.tup xs)/\dm S H ds xs
 | .list ds,v=>∃a xs,v=.ref a/\H a=some (.lst xs)/\a ∉ S/\dm S H ds xs
 | .dict l,v=>∃a t kvs xs,v=.ref a/\l=m8 t kvs/\H a=some (xC t kvs xs)/\a ∉ S/\(t=false->∀p∈kvs,p.1.length=1)/\fV S H l (.h8::xs)
def dm (S:List Addr)(H:Hp):List ad->List V->Prop
 | [],xs=>xs=[]
 | d::ds,xs=>∃x r,xs=x::r/\dP S H d x/\dm S H ds r
def fV (S:List Addr)(H:Hp):List (ad × ad)->List V->Prop
 | [],xs=>xs=[]
 | p::l,xs=>∃x r,xs=x::r/\z9 S H p x/\fV S H l r
def z9 (S:List Addr)(H:Hp):ad × ad->V->Prop
 | (_,d),x=>dP S H d x
end
structure Ext (S:List Addr) (H H':Hp):Prop where
 keep:∀b o,b ∉ S->H b=some o->H' b=some o
 tup:∀b xs,H b=some (.tup xs)->H' b=some (.tup xs)
theorem Ext.refl (S:List Addr)(H:Hp):Ext S H H:=⟨λ_ _ _ e=>e,λ_ _ e=>e⟩
theorem Ext.trans (a:Ext S H H1)(b:Ext S H1 H2):Ext S H H2:=⟨λc o hc e=>b.keep c o hc (a.keep c o hc e),λc xs e=>b.tup c xs (a.tup c xs e)⟩
theorem Ext.mono (a:Ext S H H')(h:∀b∈S,b∈S'):Ext S' H H':=⟨λb o hb e=>a.keep b o (λz=>hb (h b z)) e,a.tup⟩
theorem Ext.new (h:H p=none):Ext S H (d0 H p o):=⟨λb u _ e=>by rw[du (dN e h)];exact e,λb xs e=>by rw[du (dN e h)];exact e⟩
theorem Ext.set (hp:p∈S)(h:H p=some (.lst xs)):Ext S H (d0 H p o) :=
 ⟨λb u hb e=>by rw[du (λ(z:b=p)=>hb (by rw[z];exact hp))];exact e,λb ys e=>by rw[du (λz=>by rw[z,h] at e;cases e)];exact e⟩
theorem Ext.Te {S:List Addr}{H0 H:Hp}{p:Addr}{o:HO}{xs:List V}(a:Ext S H0 H)(h0:H0 p=none)(h:H p=some (.lst xs)):Ext S H0 (d0 H p o) :=
 ⟨λb u hb e=>by rw[du (λz=>by rw[z,h0] at e;cases e)];exact a.keep b u hb e,λb ys e=>by rw[du (λz=>by rw[z,h0] at e;cases e)];exact a.tup b ys e⟩
theorem Ext.fresh (a:Ext S H0 H)(hp:p ∉ S)(h:H p=none):H0 p=none:=by
 cases e:H0 p with
 | none=>rfl
 | some o=>rw[a.keep p o hp e] at h;cases h
mutual
theorem dP.ext {S:List Addr}{H H':Hp}(x:Ext S H H'):∀{d:ad} {v:V},dP S H d v->dP S H' d v
 | .none,_,h=>h
 | .bool _,_,h=>h
 | .int _,_,h=>h
 | .str _,_,h=>h
 | .tuple ds,_,h=>by
  unfold dP at h ⊢;obtain⟨a,xs,e,ha,hr⟩:=h;exact⟨a,xs,e,x.tup a xs ha,dm.ext x hr⟩
 | .list ds,_,h=>by
  unfold dP at h ⊢;obtain⟨a,xs,e,ha,hs,hr⟩:=h;exact⟨a,xs,e,x.keep a _ hs ha,hs,dm.ext x hr⟩
 | .dict l,_,h=>by
  unfold dP at h ⊢;obtain⟨a,t,kvs,xs,e,el,ha,hs,hk,hr⟩:=h;exact⟨a,t,kvs,xs,e,el,x.keep a _ hs ha,hs,hk,fV.ext x hr⟩
theorem dm.ext {S:List Addr}{H H':Hp}(x:Ext S H H'):∀{ds:List ad} {vs:List V},dm S H ds vs->dm S H' ds vs
 | [],_,h=>h
 | d::ds,_,h=>by
  unfold dm at h ⊢;obtain⟨y,r,e,h1,h2⟩:=h;exact⟨y,r,e,dP.ext x h1,dm.ext x h2⟩
theorem fV.ext {S:List Addr}{H H':Hp}(x:Ext S H H'):∀{l:List (ad × ad)} {vs:List V},fV S H l vs->fV S H' l vs
 | [],_,h=>h
 | (_,d)::l,_,h=>by
  unfold fV z9 at h ⊢;obtain⟨y,r,e,h1,h2⟩:=h;exact⟨y,r,e,dP.ext x h1,fV.ext x h2⟩
end
mutual
theorem dP.less {S S':List Addr}{H:Hp}(x:∀b∈S',b∈S):∀{d:ad} {v:V},dP S H d v->dP S' H d v
 | .none,_,h=>h
 | .bool _,_,h=>h
 | .int _,_,h=>h
 | .str _,_,h=>h
 | .tuple ds,_,h=>by
  unfold dP at h ⊢;obtain⟨a,xs,e,ha,hr⟩:=h;exact⟨a,xs,e,ha,dm.less x hr⟩
 | .list ds,_,h=>by
  unfold dP at h ⊢;obtain⟨a,xs,e,ha,hs,hr⟩:=h;exact⟨a,xs,e,ha,λz=>hs (x a z),dm.less x hr⟩
 | .dict l,_,h=>by
  unfold dP at h ⊢;obtain⟨a,t,kvs,xs,e,el,ha,hs,hk,hr⟩:=h;exact⟨a,t,kvs,xs,e,el,ha,λz=>hs (x a z),hk,fV.less x hr⟩
theorem dm.less {S S':List Addr}{H:Hp}(x:∀b∈S',b∈S):∀{ds:List ad} {vs:List V},dm S H ds vs->dm S' H ds vs
 | [],_,h=>h
 | d::ds,_,h=>by
  unfold dm at h ⊢;obtain⟨y,r,e,h1,h2⟩:=h;exact⟨y,r,e,dP.less x h1,dm.less x h2⟩
theorem fV.less {S S':List Addr}{H:Hp}(x:∀b∈S',b∈S):∀{l:List (ad × ad)} {vs:List V},fV S H l vs->fV S' H l vs
 | [],_,h=>h
 | (_,d)::l,_,h=>by
  unfold fV z9 at h ⊢;obtain⟨y,r,e,h1,h2⟩:=h;exact⟨y,r,e,dP.less x h1,fV.less x h2⟩
end
section
theorem dm.nil:dm S H [] []:=by unfold dm;rfl
theorem dm.cons (h:dP S H d x)(t:dm S H ds xs):dm S H (d::ds) (x::xs):=by unfold dm;exact⟨x,xs,rfl,h,t⟩
theorem dm.of_cons (h:dm S H (d::ds) xs):∃x r,xs=x::r/\dP S H d x/\dm S H ds r:=by unfold dm at h;exact h
theorem dm.fw (h:dm S H [] xs):xs=[]:=by unfold dm at h;exact h
theorem dm.length:∀{ds:List ad} {xs:List V},dm S H ds xs->xs.length=ds.length
 | [],_,h=>by rw[h.fw];rfl
 | _::_,_,h=>by
  obtain⟨x,r,e,_,h2⟩:=h.of_cons;subst e;simp[h2.length]
theorem dm.get:∀{ds:List ad} {xs:List V} {i:Nat} {x:V},dm S H ds xs->xs[i]? = some x->∃d,ds[i]? = some d/\dP S H d x
 | [],_,i,x,h,e=>by rw[h.fw] at e;cases e
 | d::ds,_,0,x,h,e=>by
  obtain⟨y,r,e1,h1,h2⟩:=h.of_cons;subst e1;cases e;exact⟨d,rfl,h1⟩
 | d::ds,_,i+1,x,h,e=>by
  obtain⟨y,r,e1,h1,h2⟩:=h.of_cons;subst e1;obtain⟨d',q,h3⟩:=dm.get (i:=i) h2 (by simpa using e);exact⟨d',by simpa using q,h3⟩
theorem dm.at:∀{ds:List ad} {xs:List V} {i:Nat} {d:ad},dm S H ds xs->ds[i]? = some d->∃x,xs[i]? = some x/\dP S H d x
 | [],_,i,d,h,e=>by cases e
 | d::ds,_,0,d',h,e=>by
  obtain⟨y,r,e1,h1,h2⟩:=h.of_cons;subst e1;cases e;exact⟨y,rfl,h1⟩
 | d::ds,_,i+1,d',h,e=>by
  obtain⟨y,r,e1,h1,h2⟩:=h.of_cons;subst e1;obtain⟨x,q,h3⟩:=dm.at (i:=i) h2 (by simpa using e);exact⟨x,by simpa using q,h3⟩
theorem dm.append:∀{ds es:List ad} {xs ys:List V},dm S H ds xs->dm S H es ys->dm S H (ds++es) (xs++ys)
 | [],_,_,_,h,k=>by rw[h.fw];exact k
 | d::ds,_,_,_,h,k=>by
  obtain⟨y,r,e1,h1,h2⟩:=h.of_cons;subst e1;exact .cons h1 (dm.append h2 k)
theorem dm.take:∀{ds:List ad} {xs:List V} (n:Nat),dm S H ds xs->dm S H (ds.take n) (xs.take n)
 | _,_,0,_=>.nil
 | [],_,n+1,h=>by rw[h.fw];exact .nil
 | d::ds,_,n+1,h=>by
  obtain⟨y,r,e1,h1,h2⟩:=h.of_cons;subst e1;exact .cons h1 (dm.take n h2)
theorem dm.drop:∀{ds:List ad} {xs:List V} (n:Nat),dm S H ds xs->dm S H (ds.drop n) (xs.drop n)
 | _,_,0,h=>h
 | [],_,n+1,h=>by rw[h.fw];exact .nil
 | d::ds,_,n+1,h=>by
  obtain⟨y,r,e1,h1,h2⟩:=h.of_cons;subst e1;exact dm.drop n h2
theorem dm.ints:∀(ns:List Int),dm S H (ns.map ad.int) (ns.map V.int)
 | []=>.nil
 | n::ns=>.cons (by unfold dP;rfl) (dm.ints ns)
theorem dP.tup (h:H a=some (.tup xs))(r:dm S H ds xs):dP S H (.tuple ds) (.ref a):=by unfold dP;exact⟨a,xs,rfl,h,r⟩
theorem dP.lst (h:H a=some (.lst xs))(hs:a ∉ S)(r:dm S H ds xs):dP S H (.list ds) (.ref a):=by unfold dP;exact⟨a,xs,rfl,h,hs,r⟩
theorem dP.int (i:Int):dP S H (.int i) (.int i):=by unfold dP;rfl
theorem dP.bl (b:Bool):dP S H (.bool b) (.bl b):=by unfold dP;rfl
theorem dP.h8:dP S H .none .h8:=by unfold dP;rfl
theorem dP.str (x:Str):dP S H (.str x) (.str x):=by unfold dP;rfl
theorem dP.fm (h:dP S H (.tuple ds) v):∃a xs,v=.ref a/\H a=some (.tup xs)/\dm S H ds xs:=by unfold dP at h;exact h
theorem dP.eG (h:dP S H (.list ds) v):∃a xs,v=.ref a/\H a=some (.lst xs)/\a ∉ S/\dm S H ds xs:=by unfold dP at h;exact h
theorem fV.CS:∀{l:List (ad × ad)} {xs:List V},fV S H l xs↔dm S H (l.map (·.2)) xs
 | [],xs=>by unfold fV;simp[dm]
 | (_,d)::l,xs=>by
  unfold fV z9;rw[ah,dm];exact⟨λ⟨x,r,e,h1,h2⟩=>⟨x,r,e,h1,fV.CS.mp h2⟩,λ⟨x,r,e,h1,h2⟩=>⟨x,r,e,h1,fV.CS.mpr h2⟩⟩
theorem ik (t:Bool)(kvs:List (List Int × ad)):(m8 t kvs).map (·.2)=.none::kvs.map (·.2):=by unfold m8;rw[ah,bf];rfl
theorem dP.PQ (h:H a=some (xC t kvs xs))(hs:a ∉ S)(hk:t=false->∀p∈kvs,p.1.length=1)(r:dm S H (kvs.map (·.2)) xs):dP S H (gT t kvs) (.ref a):=by
 unfold gT dP;exact⟨a,t,kvs,xs,rfl,rfl,h,hs,hk,fV.CS.mpr (by rw[ik];exact .cons .h8 r)⟩
theorem dP.lW (h:dP S H (.dict l) v):∃a t kvs xs,v=.ref a/\l=m8 t kvs/\H a=some (xC t kvs xs)/\a ∉ S/\(t=false->∀p∈kvs,p.1.length=1)/\dm S H (kvs.map (·.2)) xs:=by
 unfold dP at h;obtain⟨a,t,kvs,xs,e,rfl,ha,hs,hk,hr⟩:=h;have:=fV.CS.mp hr;rw[ik] at this;obtain⟨x,r,e2,_,h2⟩:=this.of_cons;injection e2 with _ e3;subst e3;exact⟨a,t,kvs,xs,e,rfl,ha,hs,hk,h2⟩
theorem dP.dY (h:dP S H (.int i) v):v=.int i:=by unfold dP at h;exact h
theorem dP.iG (h:dP S H (.bool b) v):v=.bl b:=by unfold dP at h;exact h
theorem dP.jm (h:dP S H (.str x) v):v=.str x:=by unfold dP at h;exact h
theorem dP.kG (h:dP S H .none v):v=.h8:=by unfold dP at h;exact h
end
mutual
theorem dP.reads {P:aV}{w:World}{S:List Addr}{H:Hp}{h:Heap}(ok:ka P w H h):∀{d:ad} {v:V} {u:af},d.canLay0=true->dP S H d v->RelV v u->∃as,Reads h u d as
 | .none,v,u,_,r,q=>by cases r.kG;cases (show u=af.none from q);exact⟨_,.none⟩
 | .bool b,v,u,_,r,q=>by cases r.iG;cases (show u=af.bool b from q);exact⟨_,.bool b⟩
 | .int i,v,u,_,r,q=>by cases r.dY;obtain⟨t,e⟩:=(show ∃t,u=af.int i t from q);cases e;exact⟨_,.int i t⟩
 | .str x,v,u,_,r,q=>by cases r.jm;obtain⟨t,e⟩:=(show ∃t,u=af.str x t from q);cases e;exact⟨_,.str x t⟩
 | .tuple ds,v,u,c0,r,q=>by
  obtain⟨a,xs,rfl,ha,hr⟩:=r.fm;cases (show u=af.ref a from q);obtain⟨_,its,rv,o,e,c,n,d,_⟩:=ok a _ ha;obtain⟨as,ra⟩:=dm.reads ok (by simpa [ad.canLay0] using c0) hr rv;exact⟨_,.tuple e c d (by simpa using ra)⟩
 | .list ds,v,u,c0,r,q=>by
  obtain⟨a,xs,rfl,ha,_,hr⟩:=r.eG;cases (show u=af.ref a from q);obtain⟨_,its,n,rv,e⟩:=ok a _ ha;obtain⟨as,ra⟩:=dm.reads ok (by simpa [ad.canLay0] using c0) hr rv;exact⟨_,.list e rfl rfl (by simpa using ra)⟩
 | .dict _,v,u,c0,r,q=>by simp[ad.canLay0] at c0
theorem dm.reads {P:aV}{w:World}{S:List Addr}{H:Hp}{h:Heap}(ok:ka P w H h):∀{ds:List ad} {xs:List V} {us:List af},ad.canLayAll0 ds=true->dm S H ds xs->dO xs us->∃as,ReadsAll h us ds as
 | [],xs,us,_,r,q=>by
  cases r.fw;cases q;exact⟨_,.nil⟩
 | d::ds,xs,us,c0,r,q=>by
  simp only[ad.canLayAll0,aZ] at c0;obtain⟨x,t,rfl,h1,h2⟩:=r.of_cons
  cases q with
  | cons q1 q2 =>
   obtain⟨as,a1⟩:=dP.reads ok c0.1 h1 q1;obtain⟨bs,b1⟩:=dm.reads ok c0.2 h2 q2;exact⟨_,.cons a1 b1⟩
end
structure Good (d:ad):Prop where
 lay:d.canLay0=true
 Fe:d.showable=true
 short:d.leavesShort 60=true
 deep:d.depth<=60
 PR:d.weight<=200000
theorem Good.nodict (g:Good d):d.hasDict=false:=ad.hasDict_of_canLay d g.lay
theorem Good.fits (g:Good d):d.shown.length<=au:=by
 have h:=ad.shown_le 60 (!2) d g.short;have h2:=g.PR;rw[sizeLine_eq];omega
section
theorem Aa (hr:fu k X.A):fL X (.builtin "repr") (λxs H Q=>∃S d v,xs=[v]/\dP S H d v/\Good d/\Q (.str d.shown) H):=by
 intro pins s σ H xs us Q I r h;obtain⟨S,d,v,rfl,rp,g,q⟩:=h;obtain⟨u,rfl,ru⟩:=vals1 r;have CT:=hr.units;have gG:∀(h':Heap) (t:Tok) (tk:Nat),(∀b o,s.heap.get? b=some o->h'.get? b=some o)->EP X pins σ Q (.str d.shown t) { s with heap:=h',toks:=tk }:=λh' t tk kp=>⟨.str d.shown,H,I.kept kp,⟨t,rfl⟩,q⟩;have IK:∀(t:Tok) (tk:Nat),EP X pins σ Q (.str d.shown t) { s with toks:=tk }:=λt tk=>gG s.heap t tk λ_ _ e=>e
 cases d with
 | none=>cases rp.kG;cases (show u=af.none from ru);exact P.repr_of_none (IK _ _)
 | bool b=>cases rp.iG;cases (show u=af.bool b from ru);exact P.repr_of_bool (IK _ _)
 | int i=>cases rp.dY;obtain⟨t,e⟩:=(show ∃t,u=af.int i t from ru);cases e;exact P.repr_of_int (by simpa [ad.showable] using g.Fe) (IK _ _)
 | str x=>cases rp.jm;obtain⟨t,e⟩:=(show ∃t,u=af.str x t from ru);cases e;exact P.repr_of_str (IK _ _) g.fits
 | tuple ds =>
  obtain⟨as,ra⟩:=dP.reads I.hok g.lay rp ru;obtain⟨a,xs,rfl,_⟩:=rp.fm;cases (show u=af.ref a from ru);exact repr_of_reads' ra g.Fe (ad.noDict_hsm g.nodict) hr.gd (by have:=g.deep;omega) (λ_ _ e=>e) (λh' t tk kp=>gG h' t tk kp) g.fits
 | list ds =>
  obtain⟨as,ra⟩:=dP.reads I.hok g.lay rp ru;obtain⟨a,xs,rfl,_⟩:=rp.eG;cases (show u=af.ref a from ru);exact repr_of_reads' ra g.Fe (ad.noDict_hsm g.nodict) hr.gd (by have:=g.deep;omega) (λ_ _ e=>e) (λh' t tk kp=>gG h' t tk kp) g.fits
 | dict _=>have z:=g.lay;simp[ad.canLay0] at z
theorem Ff:fL X (.builtin "isinstance") (λxs H Q=>∃x t c b,xs=[x,.ty c]/\mU X.K H x (.type t)/\W.kitOne X.K (.type t) (.type c)=some b/\Q (.bl b) H):=by
 intro pins s σ H xs us Q I r h;obtain⟨x,t,c,b,rfl,ty,e,q⟩:=h;obtain⟨u,u2,rfl,rx,rc⟩:=vals2 r;cases (show u2=af.type c from rc);exact CK I rx ty e λtk=>⟨.bl b,H,I.tok tk,rfl,q⟩
end
def Tf:ad->String
 | .none => "NoneType"
 | .bool _ => "bool"
 | .int _ => "int"
 | .str _ => "str"
 | .list _ => "list"
 | .tuple _ => "tuple"
 | .dict _ => "dict"
theorem dP.ty {K:W.Frag}{S:List Addr}{H:Hp}{d:ad}{v:V}(h:dP S H d v):mU K H v (.type (Tf d)):=by
 cases d with
 | none=>cases h.kG;exact .h8
 | bool b=>cases h.iG;exact .bl b
 | int i=>cases h.dY;exact .int i
 | str x=>cases h.jm;exact .str x
 | tuple ds=>obtain⟨a,xs,rfl,ha,_⟩:=h.fm;exact .tup ha
 | list ds=>obtain⟨a,xs,rfl,ha,_⟩:=h.eG;exact .lst ha
 | dict _ =>
  obtain⟨a,t,kvs,xs,rfl,_,ha,_⟩:=h.lW
  cases t with
  | true=>exact .dT ha
  | false=>exact .dK ha
end L2
namespace PySem
open Sem (wp)
open AutoSeq1 (wpAny_loadPart')
section
theorem oB {Q:List af->aq->Prop}{r:Addr}{a b c:Int}{t u v:Tok}{n:Nat}(hh:A.handled=none)(hr:IsRange s.heap r a b c t u v)(MM:Builtin.Range.small a b c=true)
  (hn:Builtin.Range.rangeSize a b c=n) (eF:n<=2 ^ 24)
  (hQ:∀h' tk (acc:Array af),(∀b o,s.heap.get? b=some o->h'.get? b=some o)->ItemsOf (λi v=>∃t,v=.int (a+i * c) t) acc n->Q acc.toList { s with heap:=h',toks:=tk }) :
  ay (model prog w) A (collect (.ref r)) Q E s:=by
 unfold collect;refine ae (wpAny_runValue (codeAny_builtin F.entry_proto_collect ?_));rw[Around.under_plainId F.plain_proto_collect _];show ay _ A.in1 (newList [] >>= λl=>again (.builtin "list.__iadd__" ⟨[l,.ref r],[]⟩)) _ _ s;refine ae (aY ?_);refine ak ⟨plainId_quiet F.plain_list_iadd _,codeAny_builtin F.entry_list_iadd ?_⟩;rw[Around.under_plainId F.plain_list_iadd _];show ay _ A.in1 (Builtin.List.listExtendWith (.ref s.heap.objs.size) (.ref r) (.ref s.heap.objs.size)) _ _ _;have hS:(s.heap.push { cls:=.type "list",data:=.seq ([]:List af).toArray }).get? s.heap.objs.size=some { cls:=.type "list",data:=.seq #[] 0 }:=aA _ rfl
 have Fg:∀(h':Heap) (tk:Nat) (acc:Array af) (c':Nat),(∀b o,b≠s.heap.objs.size->(s.heap.push { cls:=.type "list",data:=.seq ([]:List af).toArray }).get? b=some o->h'.get? b=some o) ->
   h'.get? s.heap.objs.size=some { cls:=.type "list",dict:=none,data:=.seq acc c',slots:=#[] }->ItemsOf (λi v=>∃t,v=.int (a+i * c) t) acc n ->
   ay (model prog w) A (match af.ref s.heap.objs.size with
   | af.ref a=>do
    match (<- load a).data with
     | Data.seq xs _=>pure xs.toList
     | _=>unsupported "internal:collect"
   | _=>unsupported "internal:collect") Q E { s with heap:=h',toks:=tk }:=λh' tk acc c' kp e hi=>by
  show ay _ A (load s.heap.objs.size >>= _) _ _ _;refine ae (wpAny_load e ?_);exact ak (hQ h' tk acc (λb o hb=>kp b o (aQ (ax hb)) (ag _ hb)) hi)
 refine bD (wpAny_extend_range (A:=A) (R:=λr' s'=>r'=.ok (.ret (.ref s.heap.objs.size))/\∃h' tk acc c',s'={ s with heap:=h',toks:=tk }/\(∀b o,b≠s.heap.objs.size->(s.heap.push { cls:=.type "list",data:=.seq ([]:List af).toArray }).get? b=some o->h'.get? b=some o) /\
   h'.get? s.heap.objs.size=some { cls:=.type "list",dict:=none,data:=.seq acc c',slots:=#[] }/\ItemsOf (λi v=>∃t,v=.int (a+i * c) t) acc n)
  (s:={ s with heap:=s.heap.push { cls:=.type "list",data:=.seq ([]:List af).toArray } }) hh (ag _ hr) MM hn eF s.heap.objs.size (.ref s.heap.objs.size) 0 hS
  λh' tk acc c' kp e hi=>⟨rfl,h',tk,acc,c',rfl,kp,e,hi⟩) (λgG s' h=>?_) (λe s' h=>?_)
 .cases gG with
  | done f =>
   obtain⟨e,h',tk,acc,c',rfl,kp,q,hi⟩:=h;cases e;exact Fg h' tk acc c' kp q hi
  | again c'=>exact⟨h.1,codeAny_mono h.2 λr Ms hr=>by obtain⟨rfl,h',tk,acc,c',rfl,kp,q,hi⟩:=hr;exact Fg h' tk acc c' kp q hi⟩
 .exact absurd h.1 (!4)
end
end PySem
namespace L2
open PySem PySem.Spec PyProof.Rows
def nu (lo hi:Int):List V:=(List.range (hi - lo).toNat).map λ(k:Nat)=>V.int (lo+k)
section
variable {X:Cx}
theorem xQ:fL X (.type "range") (λxs H Q=>∃j:Int,xs=[.int j]/\∀p,H p=none->Q (.ref p) (d0 H p (.EE 0 j))):=by
 intro pins s σ H xs us Q I r h;obtain⟨j,rfl,q⟩:=h;obtain⟨u,rfl,ru⟩:=vals1 r;obtain⟨t,rfl⟩:=ru;refine call_range_1 ?_;refine⟨.ref s.heap.objs.size,_,I.laid (o:=.EE 0 j) (λb o e=>ag _ e) (al _) ⟨_,_,_,aA _ rfl⟩,rfl,q _ (I.hok.fresh (al _))⟩
theorem pN {lo hi:Int}{acc:Array af}(h:ItemsOf (λi v=>∃t,v=af.int (lo+i * 1) t) acc (hi - lo).toNat):dO (nu lo hi) acc.toList:=by
 obtain⟨hs,BH⟩:=h;unfold nu
 have:∀(l:List af) (k:Nat),(∀j v,l[j]? = some v->∃t,v=af.int (lo+((k+j:Nat):Int)) t)->dO ((List.range' k l.length).map λ(k:Nat)=>V.int (lo+k)) l:=by
  intro l
  induction l with
  | nil=>intro k _;exact .nil
  | cons v l ih =>
   intro k hv;rw[aj,List.range'_succ,ah];refine .cons (hv 0 v rfl) (ih (k+1) λj w hw=>?_);obtain⟨t,e⟩:=hv (j+1) w (by simpa using hw);exact⟨t,by rw[e];congr 2;omega⟩
 have q:=this acc.toList 0 λj v hv=>by
  obtain⟨t,e⟩:=BH j v (by simpa using hv);exact⟨t,by rw[e,Int.mul_one,Nat.zero_add]⟩
 rw[List.range_eq_range',<- hs];simpa using q
theorem xR (lo hi:Int):Builtin.Range.rangeSize lo hi 1=((hi - lo).toNat:Int):=by rw[rangeSize_one];split<;>omega
theorem uF (hc:X.calm=true):fL X (.type "list") (λxs H Q=>∃p lo hi,xs=[.ref p]/\H p=some (.EE lo hi)/\(-(2 ^ 62)<=lo/\lo<2 ^ 62/\-(2 ^ 62)<=hi/\hi<2 ^ 62)/\(hi - lo).toNat<=2 ^ 24/\∀l,H l=none->Q (.ref l) (d0 H l (.lst (nu lo hi)))):=by
 intro pins s σ H xs us Q I r h;obtain⟨p,lo,hi,rfl,hp,⟨h1,h2,h3,h4⟩,hl,q⟩:=h;obtain⟨u,rfl,ru⟩:=vals1 r;cases ru;obtain⟨t,u,v,e⟩:=I.hok p _ hp;refine call_list_range (I.ok.hd hc) e (small_one h1 h2 h3 h4) (xR lo hi) hl λh' tk uG c' kp e' BH=>?_;have hv:=pN BH;have eF:=hv.length
 have hr:(nu lo hi).length<=au:=by
  unfold nu;rw[ai,cL,sizeLine_eq];omega
 refine⟨.ref s.heap.objs.size,_,I.laid kp (al _) (show eQ X.prog X.w _ h' _ (.lst (nu lo hi)) from ⟨hr,uG.toList,c',hv,by simpa using e'⟩),rfl,q _ (I.hok.fresh (al _))⟩
theorem sk (hc:X.calm=true):fL X (.type "tuple") (λxs H Q=>∃p lo hi,xs=[.ref p]/\H p=some (.EE lo hi)/\(-(2 ^ 62)<=lo/\lo<2 ^ 62/\-(2 ^ 62)<=hi/\hi<2 ^ 62)/\(hi - lo).toNat<=2 ^ 24/\∀l,H l=none->Q (.ref l) (d0 H l (.tup (nu lo hi)))):=by
 intro pins s σ H xs us Q I r h;obtain⟨p,lo,hi,rfl,hp,⟨h1,h2,h3,h4⟩,hl,q⟩:=h;obtain⟨u,rfl,ru⟩:=vals1 r;cases ru;obtain⟨t,u,v,e⟩:=I.hok p _ hp;have hd:=I.ok.hd hc
 have hr:(nu lo hi).length<=au:=by
  unfold nu;rw[ai,cL,sizeLine_eq];omega
 refine callType_new F.called_tuple (!2) (F.typeCall_tuple_1 _) (F.newCall_tuple_1 _) (λobj=>F.args_object_init_2 obj _) F.entry_tuple_new
  (S:=λA' R s'=>A'.handled=none/\s'.heap.get? p=some { cls:=.type "range",data:=.fields #[.int lo t,.int hi u,.int 1 v] }/\∀(h':Heap) (tk:Nat) (acc:Array af),(∀b o',s'.heap.get? b=some o'->h'.get? b=some o')->ItemsOf (λi v=>∃t,v=.int (lo+i * 1) t) acc (hi - lo).toNat->R (.ok (.ret (.ref h'.objs.size))) { s' with heap:=h'.push { cls:=.type "tuple",data:=.seq acc },toks:=tk })
  (.of_wp λprog w A R s h=>?_) ⟨hd,e,λh' tk acc kp BH=>?_⟩
 .obtain⟨hp,g,d,tk,os⟩:=s
  obtain⟨Es,ht,h⟩:=h;have jG:=sub_tuple_self;have VS:=init_tuple_lookup;have ZV:=madeHere_tuple;have hT:aq.TypeIs ⟨hp,g,d,tk,os⟩ (.ref p) "range" := ⟨_,ht,rfl⟩
  wp_walk using AutoSeq1.wpAny_loadPart' ht,wpAny_typeOf hT,oB (A:=A.in1) (show A.in1.handled=none from Es) ht (small_one h1 h2 h3 h4) (xR lo hi) hl
  intro h' Tg acc kp BH;show ay _ _ (Builtin.Tuple.tupleExact acc.toList.toArray >>= λv=>ret v) _ _ _;unfold Builtin.Tuple.tupleExact
  have hsz:acc.toList.toArray.size<=au:=by
   have:=(pN BH).length;simp at this ⊢;omega
  refine ae (aY ?_ hsz);refine ak ⟨_,rfl,?_⟩;have ea:acc.toList.toArray=acc:=by simp
  rw[ea];exact h h' Tg acc kp BH
 .have hv:=pN BH
  have I1:Inv X pins σ H { s with heap:=h',toks:=tk }:=I.kept kp
  have I2:Inv X pins σ (d0 H h'.objs.size (.tup (nu lo hi))) { s with heap:=h'.push { cls:=.type "tuple",data:=.seq acc },toks:=tk } :=
   I1.laid (λb o e=>ag _ e) (al _) (show eQ X.prog X.w _ _ _ (.tup (nu lo hi)) from ⟨hr,acc.toList,hv,by simpa using uy.new _ _⟩)
  exact⟨⟨_,aA _ rfl,rfl⟩,⟨.ref h'.objs.size,_,I2,rfl,q _ (I1.hok.fresh (al _))⟩⟩
end
section
theorem PU (T:String)(hg:Gl X x)(hm:X.mg x=none)(hv:bootBuiltins x=some (.type T))(hn:x ≠ "__name__" := by decide)(hd:(x == ("__debug__" : Str))=false:=by decide):PE X (.Name x pos) (tC (.ty T)):=HU hg hm hv rfl hn hd
def PV (t u:TS):TS:=λD σ H=>∃M:St->Hp->Prop,t { D with nx:=M } σ H/\∀σ' H',M σ' H'->u D σ' H'
theorem IL {st:Stmt}{rest:List Stmt}{t u:TS}(h1:PS X st t)(h2:zF X rest u):zF X (st::rest) (PV t u):=by
 intro pins s σ H D I h;obtain⟨M,q,k⟩:=h;refine wpAny_execs_cons (fy (h1 pins s σ H { D with nx:=M } I q) λf s1 e=>?_)
 cases f with
 | next=>obtain⟨σ1,H1,I1,m1⟩:=e;exact h2 pins s1 σ1 H1 D I1 (k σ1 H1 m1)
 | brk=>exact e
 | cont=>exact e
 | ret u=>exact e
theorem MN {α:Type}{xs:List α}{i:Int}(h0:0<=i)(h1:i<xs.length):∃v,lQ xs i=some v/\xs[i.toNat]? = some v:=by
 have og:i.toNat<xs.length:=by omega
 refine⟨xs[i.toNat],?_,by simp[og]⟩;unfold lQ Iv;rw[if_pos h0,if_pos h1];simp[og]
end
def d9:Expr->Bool
 | .Starred ..=>false
 | _=>true
theorem eR (h:d9 e=true):starEach (e::es) env=(false,eval e env)::starEach es env:=by
 cases e<;>first | rfl | cases h
theorem il:∀{es:List Expr},es.all d9=true->(backTo pos (starEach es env)).any (·.1)=false
 | [],_=>rfl
 | e::es,h=>by
  rw[cC,aZ] at h;rw[eR h.1];show (backTo pos ((false,eval e env)::starEach es env)).any (·.1)=false;have ih:=il (pos:=pos) (env:=env) h.2;show (false || (backTo pos (starEach es env)).any (·.1))=false;rw[ih];rfl
theorem sm:∀{es:List Expr},es.all d9=true->(backTo pos (starEach es env)).all (λx=>!x.1)=true
 | [],_=>rfl
 | e::es,h=>by
  rw[cC,aZ] at h;rw[eR h.1];have ih:=sm (pos:=pos) (env:=env) h.2;show (true && (backTo pos (starEach es env)).all (λx=>!x.1))=true;rw[ih];rfl
theorem jI (h:(e::es).all d9=true):d9 e=true/\es.all d9=true:=by
 rw[cC,aZ] at h;exact h
structure QE (X:Cx) (e:Expr) (t:TE):Prop where run:PE X e t
structure QT (X:Cx) (e:Expr) (t:TT):Prop where run:PT X e t
structure QW (X:Cx) (e:Expr) (t:TT):Prop where run:PW X e t
structure QA (X:Cx) (es:List Expr) (t:TA):Prop where
 run:PA X es t
 ns:es.all d9=true
structure QS (X:Cx) (st:Stmt) (t:TS):Prop where run:PS X st t
structure vm (X:Cx) (st:List Stmt) (t:TS):Prop where run:zF X st t
structure QG (X:Cx) (e:Expr) (t:TG):Prop where run:PG X e t
structure Kx (X:Cx) (es:List Expr) (t:LV):Prop where run:O0 X es t
structure QI (X:Cx) (tg iter:Expr) (t:TI):Prop where run:PI X tg iter t
structure QO (X:Cx) (e:Option Expr) (t:TO):Prop where run:PO X e t
structure QK (X:Cx) (oz:List Expr) (t:TT):Prop where run:Oi X oz t
section
variable {X:Cx}{a b c e o i' tg iter pE:Expr}{es:List Expr}{ta tb tc te to ti:TE}{tA HV:TT}{t:TA}{pos p iF f6 p2:Pos}{k:Nat}{x name:Str}{ps:List Str}{sp:Sp}{id T:String}{rest:List Expr}
theorem qv (i:Nat)(hN:X.N[i]? = some x:=by rfl)(hv:Bq X.env.scope x:=by (first | exact Or.inl rfl | exact Or.inr (Or.inl rfl) | exact Or.inr (Or.inr rfl)))(hd:(x == ("__debug__" : Str))=false:=by decide)
  (jl:(x == ("__classdict__" : Str))=false:=by decide):QE X (.Name x pos) (LG i):=⟨LH hN hv hd jl⟩
theorem fG {i j pos}:QE X (.Constant (.int i) j pos) (tC (.int i)):=⟨LJ⟩
theorem Fh {b j pos}:QE X (.Constant (.bool b) j pos) (tC (.bl b)):=⟨OR⟩
theorem MO {j pos}:QE X (.Constant .none j pos) (tC .h8):=⟨LK⟩
theorem fM {x j pos}:QE X (.Constant (.str x) j pos) (tC (.str x)):=⟨LL⟩
theorem PX (T:String)(hg:Gl X x)(hm:X.mg x=none)(hv:bootBuiltins x=some (.type T))(hn:x ≠ "__name__" := by decide)(hd:(x == ("__debug__" : Str))=false:=by decide):QE X (.Name x pos) (tC (.ty T)):=⟨PU T hg hm hv hn hd⟩
theorem gw (ho:jF X (binaryOp op) r)(ha:QE X a ta)(hb:QE X b tb):QE X (.BinOp a op b pos) (Ig r ta tb):=⟨O7 ho ha.run hb.run⟩
theorem PY (ho:RW X (unaryOp op) r)(ha:QE X a ta):QE X (.UnaryOp op a pos) (VA r ta):=⟨O8 ho ha.run⟩
theorem wF (ho:jF X (compareOp op) r)(ha:QE X a ta)(hb:QE X b tb)(hm:behindInMarks op b=false):QE X (.Compare a [op] [b] pos) (Ig r ta tb):=⟨Ij ho ha.run hb.run hm⟩
theorem rJ (ho:jF X (compareOp op) r)(ha:QE X a ta)(hb:QE X b tb)(hm:behindInMarks op b=false):QT X (.Compare a [op] [b] pos) (Kq (Ig r ta tb)):=⟨Ik ho ha.run hb.run hm⟩
theorem Ab (h:QE X e te)(he:∀m6,isTrue e X.env m6=(do let v <- m6;standAt e.pos;holding [v] (truthy v)):=by rw[3]):QT X e (tB te):=⟨LO h.run he⟩
theorem BI (ha:QT X a tA):QW X (.BoolOp .And [a] pos) tA:=⟨pw_and1 ha.run⟩
theorem MP (ha:QT X a tA):QW X (.BoolOp .Or [a] pos) tA:=⟨pw_or1 ha.run⟩
theorem Fi (ha:QT X a tA)(hb:QW X (.BoolOp .And (b::rest) pos) HV):QW X (.BoolOp .And (a::b::rest) pos) (OS tA HV):=⟨pw_and ha.run hb.run⟩
theorem PZ (ha:QT X a tA)(hb:QW X (.BoolOp .Or (b::rest) pos) HV):QW X (.BoolOp .Or (a::b::rest) pos) (Vx tA HV):=⟨pw_or ha.run hb.run⟩
theorem QW.pt (h:QW X e tA):QT X e tA:=⟨h.run.pt⟩
theorem MQ (ha:QT X a tA):QT X (.UnaryOp .Not a pos) (OT tA):=⟨LP ha.run⟩
theorem MR {op}(h:QE X a ta):QE X (.BoolOp op [a] pos) ta:=⟨LQ h.run⟩
theorem MS (ha:QE X a ta)(hb:QE X (.BoolOp .And (b::rest) pos) tb):QE X (.BoolOp .And (a::b::rest) pos) (Kh ta tb):=⟨LR ha.run hb.run⟩
theorem P0 (ha:QE X a ta)(hb:QE X (.BoolOp .Or (b::rest) pos) tb):QE X (.BoolOp .Or (a::b::rest) pos) (OU ta tb):=⟨OV ha.run hb.run⟩
theorem Ac (ha:QE X a ta):QE X (.UnaryOp .Not a pos) (Ki ta):=⟨LS ha.run⟩
theorem Fj (hc:QT X c tA)(ha:QE X a ta)(hb:QE X b tb):QE X (.IfExp c a b pos) (Vy tA ta tb):=⟨EI hc.run ha.run hb.run⟩
theorem d7:QA X [] Mk:=⟨Ml,rfl⟩
theorem gI (ha:QE X e te)(hr:QA X es t)(hs:d9 e=true:=by rfl):QA X (e::es) (EU te t):=⟨Im ha.run hr.run (eR hs),by rw[cC,hs,hr.ns];rfl⟩
theorem Ad (h:QA X es t):QE X (.List es pos) (Pe t):=⟨Mn h.run⟩
theorem MT {x1}(h:QA X es t):QE X (.Tuple es x1 pos) (Pd t):=⟨Mm h.run⟩
theorem BJ (hr:HD X r)(ha:QE X a ta)(hb:QE X b tb)(hs:wu b):QE X (.Subscript a b pos) (Ig r ta tb):=⟨Pn hr ha.run hb.run hs⟩
theorem BK:QO X none BA:=⟨Iq⟩
theorem BL (h:QE X e te):QO X (some e) (Ks te):=⟨Ir h.run⟩
theorem xT {r:V->Option Int->Option Int->Hp->VK->Prop}{lo hi:Option Expr}{tl th:TO}(hr:HC X r)(he:QE X e te)(hl:QO X lo tl)(hu:QO X hi th):QE X (.Subscript e (.Slice lo hi none p2) pos) (VD r te tl th):=⟨EY hr he.run hl.run hu.run⟩
theorem so (D:dF X.prog X.w X.K X.mg X.base k x ps sp)(hr:fu k X.A)(ha:QA X (e::es) t)(hg:Gl X x:=by rfl)(lK:(x == ("__debug__" : Str))=false:=by decide) :
  QE X (.Call (.Name x p) (e::es) [] pos) (si sp t):=⟨E7 D hr ha.run hg lK (eR (jI ha.ns).1) (il (jI ha.ns).2)⟩
theorem gU {r:List V->Hp->VK->Prop}(hc:fL X (.builtin id) r)(hg:Gl X x)(hm:X.mg x=none)(hv:bootBuiltins x=some (.builtin id))(ha:QA X (e::es) t)(hn:x ≠ "__name__" := by decide)(lK:(x == ("__debug__" : Str))=false:=by decide) :
  QE X (.Call (.Name x p) (e::es) [] pos) (Pj r t):=⟨EW hc hg hm hv ha.run hn lK (eR (jI ha.ns).1) (il (jI ha.ns).2)⟩
theorem fk (hc:fL X (.type T) r)(hg:Gl X x)(hm:X.mg x=none)(hv:bootBuiltins x=some (.type T))(ha:QA X (e::es) t)(hn:x ≠ "__name__" := by decide)(lK:(x == ("__debug__" : Str))=false:=by decide) :
  QE X (.Call (.Name x p) (e::es) [] pos) (Pj r t):=⟨CM hc hg hm hv ha.run hn lK (eR (jI ha.ns).1) (il (jI ha.ns).2)⟩
theorem Ky {r:V->List V->Hp->VK->Prop}(pa:PlainAttrs T)(slot:Slot T name id)(MB:typeOf (.builtin id)=pure (.type "method_descriptor"))(hm:RY X id r)(ho:QE X o to)(ha:QA X (e::es) t)
  (ou:attributeBase o name X.env (eval o X.env)=eval o X.env:=by rfl) (hl:decide ((e::es).length+0+0<30)=true:=by rfl)
  (ox:(iF.endLine == f6.line)=true:=by rfl):QE X (.Call (.Attribute o name iF) (e::es) [] f6) (SN X.K T r to t):=by
 refine⟨Pr pa slot MB hm ho.run ha.run ou ?_ ox (eR (jI ha.ns).1) (il (jI ha.ns).2)⟩;rw[sm ha.ns];exact hl
theorem oE (hN:X.N.Nodup)(hi:X.N[i]? = some x)(hx:Loc X.env.scope x)(hf:X.fn x=true\/X.env.scope.names.lookup x=some .local:=by (first | exact .inl rfl | exact .inr rfl | assumption)):QG X (.Name x pos) (xH i):=⟨HZ hN hi hx hf⟩
theorem IM:Kx X [] O1:=⟨H9⟩
theorem Fl (h1:QG X e tt)(h2:Kx X es u)(hs:(assignEach (e::es) X.env).map (·.2)=assign e X.env::(assignEach es X.env).map (·.2):=by rfl):Kx X (e::es) (Km tt u):=⟨EK h1.run h2.run hs⟩
theorem MU (hc:X.calm=true)(h:Kx X es tt)(hn:(assignEach es X.env).length=n:=by rfl)(u5:(assignEach es X.env).findIdx? (·.1)=none:=by rfl):QG X (.Tuple es k pos) (O2 X.K n tt):=⟨LW hc h.run hn u5⟩
theorem IP (hl:QE X a ta):QI X tg a (EM X.K ta):=⟨Ic hl.run⟩
theorem MV (hl:QE X a ta):QI X tg a (LZ X.K ta):=⟨L1 hl.run⟩
theorem vn (hg:Gl X "range")(hm:X.mg "range" = none)(ha:QA X [a] t):QI X tg (.Call (.Name "range" p) [a] [] pos) (Kn t):=⟨CF hg hm ha.run (eR (jI ha.ns).1)⟩
theorem MW:QK X [] Ku:=⟨IE⟩
theorem Ae (h:QT X c tA):QK X [c] tA:=⟨IF h.run⟩
variable {st:Stmt}{MX body P1:List Stmt}{ts us:TS}{oz:List Expr}{sc:Scope}{N:List Str}{mp:List (Option Nat)}{wi:TI}{g:TG}
theorem BM:vm X [] Kj:=⟨HW⟩
theorem fb (h1:QS X st ts)(h2:vm X MX us):vm X (st::MX) (OW ts us):=⟨EJ h1.run h2.run⟩
theorem IQ (h1:QS X st ts)(h2:vm X MX us):vm X (st::MX) (PV ts us):=⟨IL h1.run h2.run⟩
theorem iA (h1:QS X st ts):vm X [st] ts:=⟨HX h1.run⟩
theorem IS (he:QE X e te)(hs:swapsWith e none pos.line X.env=pure false:=by rfl):QS X (.Expr e pos) (Kk te):=⟨HY he.run hs⟩
theorem nv (he:QE X e te):QS X (.Return (some e) pos) (OX te):=⟨LU he.run⟩
theorem Kz (hc:QT X c tA)(ha:vm X body ts)(hb:vm X P1 us):QS X (.If c body P1 pos) (OY tA ts us):=⟨OZ hc.run ha.run hb.run⟩
theorem iP (hN:X.N.Nodup)(hi:X.N[i]? = some x)(hx:Loc X.env.scope x)(he:QE X e te)(hs:swapsWith e (some (.Name x ij)) pos.line X.env=pure false:=by rfl)
  (hf:X.fn x=true\/X.env.scope.names.lookup x=some .local:=by (first | exact .inl rfl | exact .inr rfl | assumption)):QS X (.Assign [.Name x ij] e pos) (LX te (xH i)):=⟨LY hN hi hx he.run hs hf⟩
theorem Af (hp:PassesOwn (model X.prog X.w) X.A X.env X.xe)(hc:X.calm=true)(hi:QI X tg iter wi)(hg:QG X tg g)(hb:vm X body ts)(hs:∀x,foldedSetIterable iter X.env x=pure x:=by rw[3]) :
  QS X (.For tg iter body [] pos) (O3 wi g ts):=⟨L5 hp hc hi.run hg.run hb.run hs⟩
theorem xU (hp:PassesOwn (model X.prog X.w) X.A X.env X.xe)(hc:QT X c tA)(hb:vm X body ts):QS X (.While c body [] pos) (rZ tA ts):=⟨EL hp hc.run hb.run⟩
theorem wG (hc:X.calm=true)(hi:QI X tg iter wi)(hk:sc.kind=.function)(hm:gH X.N X.env.scope sc N mp=true)
  (hb:∀(cl:List (Str × Addr)) (C:Addr) (s₂:aq) (H₂:Hp) (fp:List Addr),QG (e9 X sc N cl C s₂ H₂ fp) tg g/\QK (e9 X sc N cl C s₂ H₂ fp) oz tA/\QE (e9 X sc N cl C s₂ H₂ fp) pE te)
  (hs:∀x,foldedSetIterable iter X.env x=pure x:=by rw[3]):QE X (.ListComp pE [⟨tg,iter,oz,0⟩] sc pos) (Fc (vj wi mp g tA te)) :=
 ⟨IH hc hi.run hk hm (λcl C s₂ H₂ fp=>⟨(hb cl C s₂ H₂ fp).1.run,(hb cl C s₂ H₂ fp).2.1.run,(hb cl C s₂ H₂ fp).2.2.run⟩) hs⟩
theorem IU (hN:X.N.Nodup)(ML:X.N[i]? = some x)(hx:X.env.scope.names.lookup x=some .local)(hc:X.calm=true)(hi:QI X tg iter wi)(hk:sc.kind=.function)(hm:gH X.N X.env.scope sc N mp=true)
  (hb:∀(cl:List (Str × Addr)) (C:Addr) (s₂:aq) (H₂:Hp) (fp:List Addr),QG (e9 X sc N cl C s₂ H₂ fp) tg g/\QK (e9 X sc N cl C s₂ H₂ fp) oz tA/\QE (e9 X sc N cl C s₂ H₂ fp) pE te)
  (IJ:swapsWith (.ListComp pE [⟨tg,iter,oz,0⟩] sc pos) (some (.Name x py)) spos.line X.env=pure true:=by rfl)
  (hs:∀x,foldedSetIterable iter X.env x=pure x:=by rw[3]):QS X (.Assign [.Name x py] (.ListComp pE [⟨tg,iter,oz,0⟩] sc pos) spos) (Fd i (vj wi mp g tA te)) :=
 ⟨II hN ML hx hc hi.run hk hm (λcl C s₂ H₂ fp=>⟨(hb cl C s₂ H₂ fp).1.run,(hb cl C s₂ H₂ fp).2.1.run,(hb cl C s₂ H₂ fp).2.2.run⟩) IJ hs⟩
end
theorem uD.MY {P:aV}{w:World}{K:W.Frag}{mg:Str->Option af}{base:Heap}{x eK:Str}{st:Stmt}{f:Addr}{fd:bt}{N ps:List Str}{k:Nat}{sp:Sp}(F:uD K x eK st f fd)(S:eO N ps (c8 st))(len:∀vs H Q E,sp vs H Q E->vs.length=ps.length)
  (sg:∀(d8:af) (A:Around) (outer:List Env) (s:aq) (H:Hp) (vs:List V) (Q:VK) (E:XK),fu k (A.deeper (envOfC eK (c8 st) s.heap.objs.size f d8))->sp vs H Q E ->
   ∃t,vm (kF uj P w K mg base N eK (c8 st) f d8 A outer s H E).Et (fc st) t/\t { nx:=λ_ H'=>Q .h8 H',rt:=Q } (start N vs) H):iO P w K mg base uj (k+1) f fd ps sp :=
 F.ok S len λd8 A outer s H vs Q E hr h=>let ⟨t,q,r⟩:=sg d8 A outer s H vs Q E hr h;⟨t,q.run,r⟩
section
variable {X:Cx}(K:W.Frag)
theorem Xa (h:X.K=K:=by rfl):HD X (Pp K):=by subst h;exact Mz
theorem R4 (h:X.K=K:=by rfl):HD X (Po K):=by subst h;exact Iy
theorem VT (h:X.K=K:=by rfl):HC X (Pq K):=by subst h;exact Iz
theorem MZ (h:X.K=K:=by rfl):fL X (.builtin "len") (λxs H Q=>∃p ys,xs=[.ref p]/\(gp K H p ys\/iz K H p ys)/\Q (.int ys.length) H):=by subst h;exact wy
theorem Th (h:X.K=K:=by rfl):fL X (.builtin "isinstance") (λxs H Q=>∃x t c b,xs=[x,.ty c]/\mU K H x (.type t)/\W.kitOne K (.type t) (.type c)=some b/\Q (.bl b) H):=by subst h;exact Ff
theorem KC (h:X.K=K:=by rfl):fL X (.type "list") (λxs H Q=>∃p ys,xs=[.ref p]/\(gp K H p ys\/iz K H p ys)/\∀l,H l=none->Q (.ref l) (d0 H l (.lst ys))):=by subst h;exact wz
theorem Ag (h:X.K=K:=by rfl):fL X (.type "tuple") (λxs H Q=>∃p ys,xs=[.ref p]/\((gp K H p ys/\∀l,H l=none->Q (.ref l) (d0 H l (.tup ys)))\/(iz K H p ys/\Q (.ref p) H))):=by subst h;exact uB
variable {a o e tg:Expr}{es:List Expr}{ta to:TE}{t:TA}{iF f6:Pos}{name:Str}{id T:String}
theorem Fm (hl:QE X a ta)(h:X.K=K:=by rfl):QI X tg a (EM K ta):=by subst h;exact IP hl
theorem IV (hl:QE X a ta)(h:X.K=K:=by rfl):QI X tg a (LZ K ta):=by subst h;exact MV hl
theorem M0 {r:V->List V->Hp->VK->Prop}(pa:PlainAttrs T)(slot:Slot T name id)(MB:typeOf (.builtin id)=pure (.type "method_descriptor"))(hm:RY X id r)(ho:QE X o to)(ha:QA X (e::es) t)(h:X.K=K:=by rfl)
  (ou:attributeBase o name X.env (eval o X.env)=eval o X.env:=by rfl) (hl:decide ((e::es).length+0+0<30)=true:=by rfl)
  (ox:(iF.endLine == f6.line)=true:=by rfl):QE X (.Call (.Attribute o name iF) (e::es) [] f6) (SN K T r to t):=by subst h;exact Ky pa slot MB hm ho ha ou hl ox
end
end L2
namespace HT
open PySem PyProof.Rows
section
theorem mW {t sl:Addr}{items:Array af}{vl vu:af}{lo hi:Option Int}{Q:af->aq->Prop}(ht:IsTup s.heap t items)(hs:s.heap.IsSliceOf sl vl vu .none)(pl:IsPart vl lo)(pu:IsPart vu hi)
  (hw:gj items.size 0 lo=0/\gj items.size items.size hi=items.size) (h:Q (.ref t) s):ay (model prog w) A (getItem (.ref t) (.ref sl)) Q E s:=by
 obtain⟨os,Mx,Og,Pk⟩:=id hs;have SJ:s.TypeIs (.ref sl) "slice" := ⟨os,Mx,Og⟩;unfold getItem;try with_reducible refine wpAny_holding ?_
 first | refine ae (ak ?_) | skip
 refine ae (wpAny_sequenceKey ht.typeIs (!2) ?_)
 refine ae (wpAny_callSpecial?_slot (name:=Str.ofString "__getitem__") ht.typeIs PyProof.Rows.slot_tuple_getitem
  (wpAny_call_entry PyProof.Rows.slot_tuple_getitem ht.typeIs entry_tuple_getitem ?_ (args_tuple_getitem _ _)))
 show ay _ _ (Builtin.Tuple.tupleItemsOf (.ref t) >>= _) _ _ s;refine ae (tupleItemsOf_ ht ?_);refine ae (wpAny_typeOf SJ ?_);rw[if_pos (!2)];refine ae (kc hs pl pu ?_)
 have Ti:((((gj items.size 0 lo:Nat):Int) == 0 && (1:Int) == 1 && (gj items.size items.size hi - gj items.size 0 lo) == items.size)=true):=by
  rw[hw.1,hw.2];simp
 show ay _ _ (if (((gj items.size 0 lo:Nat):Int) == 0 && (1:Int) == 1 && (gj items.size items.size hi - gj items.size 0 lo) == items.size)=true then _ else _) _ _ s;rw[if_pos Ti];refine ae ?_;unfold Builtin.Tuple.tupleIsExact;refine ae (wpAny_typeOf ht.typeIs (ak ?_));show ay _ _ (if (af.type "tuple" == af.type "tuple")=true then _ else _) _ _ s;rw[if_pos (!2)];exact ae (wpAny_rule (ak ⟨_,rfl,ak h⟩))
end
end HT
namespace L2
open PySem PySem.Spec PyProof.Rows
def P4 (K:W.Frag):V->Option Int->Option Int->Hp->VK->Prop:=λx lo hi H Q=>∃a xs,x=.ref a/\iz K H a xs/\(oo xs lo hi=xs->Q (.ref a) H)/\∀p,H p=none->Q (.ref p) (d0 H p (.tup (oo xs lo hi)))
section
variable (K:W.Frag)
theorem Xb (h:X.K=K:=by rfl):HC X (P4 K):=by
 subst h;intro pins s σ H x v vl vu lo hi sl Q I rx hs pl pu h;obtain⟨a,xs,rfl,hx,hw,q⟩:=h;by_cases hc:HT.gj xs.length 0 lo=0/\HT.gj xs.length xs.length hi=xs.length
 .cases rx
  obtain⟨its,r,ht,hz⟩:=I.tuple hx;have eF:its.toArray.size=xs.length:=by rw[aB];exact r.length.symm
  refine⟨"tuple",_,PyProof.Rows.slot_tuple_getitem.lookup,ht.typeIs,?_⟩;refine HT.mW ht hs pl pu (by rw[eF];exact hc) ⟨.ref a,H,I,rfl,hw ?_⟩;unfold oo;rw[hc.1,hc.2];simp
 .exact My pins s σ H (.ref a) v vl vu lo hi sl Q I rx hs pl pu ⟨a,xs,rfl,hx,hc,q⟩
end
def P5 (K:W.Frag):R2:=λx y H Q=>∃a b xs ys,x=.ref a/\y=.ref b/\iz K H a xs/\iz K H b ys/\xs.length+ys.length<=au/\(xs=[]->Q (.ref b) H)/\(ys=[]->Q (.ref a) H)/\∀p,H p=none->Q (.ref p) (d0 H p (.tup (xs++ys)))
theorem Tj (K:W.Frag)(h:X.K=K:=by rfl):jF X (binaryOp .Add) (P5 K):=by
 subst h;intro pins s σ H x y v u Q I rx ry h;obtain⟨a,b,xs,ys,rfl,rfl,ha,hb,hz,q0,q1,q2⟩:=h;by_cases hx:xs=[]
 .cases rx
  cases ry;obtain⟨its,r1,p1,_⟩:=I.tuple ha;obtain⟨EZ,r2,p2,_⟩:=I.tuple hb;have hi:its=[]:=r1.oq.mpr hx;obtain⟨⟨cls,dd,data,sl⟩,ho,hc,n,hd⟩:=id p1;obtain⟨⟨SI,RX,data2,Of⟩,Mt,Mu,n2,Mv⟩:=id p2;simp only at hc hd Mu Mv;subst hc hd Mu Mv
  exact concat_meets ⟨_,ho,rfl⟩ ⟨_,Mt,rfl⟩ noFill_tuple_add seq_tuple_add PySem.F.slot_tuple_add PySem.F.entry_tuple_add (PySem.F.args_tuple_add_2 _ _)
   (tuple_addW0 a b its.toArray EZ.toArray n n2 dd RX sl Of (by simp[hi])) ⟨ho,Mt,⟨.ref b,H,I,rfl,q0 hx⟩⟩
 .exact Iu pins s σ H _ _ v u Q I rx ry ⟨a,b,xs,ys,rfl,rfl,ha,hb,hx,hz,q1,λ_=>q2⟩
end L2
namespace PySem
open Sem (wp)
theorem kf:fillsNumberSlot (.type "tuple") "mul" = pure false :=
 fillsNumberSlot_seq (id := "tuple.__mul__") (r:=some (.builtin "tuple.__rmul__")) F.slot_tuple_mul.lookup (!3) F.slot_tuple_rmul.lookup (!3)
theorem oF:seqRepeat? (.type "tuple")=pure (some (.builtin "tuple.__mul__")):=by
 unfold seqRepeat?;rw[seqSlot_of (T := "tuple") (name := "__mul__") (id := "tuple.__mul__") F.slot_tuple_mul.lookup (!3),seqSlot_of (T := "tuple") (name := "__rmul__") (id := "tuple.__rmul__") F.slot_tuple_rmul.lookup (!3)];rfl
theorem lX (a:Int)(t:Tok)(l:Addr)(items:Array af)(n:Nat)(dd:Option Addr)(sl:Array (Option af)) :
  Meets (Builtin.«int.__rmul__» ⟨[.int a t,.ref l],[]⟩) (λ_ R s=>s.heap.get? l=some { cls:=.type "tuple",dict:=dd,data:=.seq items n,slots:=sl }/\R (.ok (.ret af.notImplemented)) s) :=
 .of_wp λprog w A R s h=>by obtain⟨hp,g,d,tk,os⟩:=s;obtain⟨hl,h⟩:=h;wp_walk;exact⟨_,rfl,h⟩
theorem uH (l:Addr)(items:Array af)(n:Nat)(dd:Option Addr)(sl:Array (Option af))(k:Int)(t:Tok)(gQ:items.isEmpty=false)(h2:2<=k)(hk:k<2 ^ 40)(hz:items.size * k.toNat<=16000000) :
  Meets (Builtin.«tuple.__mul__» ⟨[.ref l,.int k t],[]⟩) (λ_ R s=>s.heap.get? l=some { cls:=.type "tuple",dict:=dd,data:=.seq items n,slots:=sl }/\R (.ok (.ret (af.ref s.heap.objs.size))) { s with heap:=s.heap.push { cls:=af.type "tuple",data:=Data.seq (cS (λx1 x2=>x1++x2) #[] (List.replicate k.toNat items)) },toks:=s.toks }) :=
 .of_wp λprog w A R s h=>by
  obtain⟨hp,g,d,tk,os⟩:=s;obtain⟨hl,h⟩:=h;have f1:=AutoSeq1.idx_int;have c0:¬ (decide (k < -(2 ^ 63)) || decide (k ≥ 2 ^ 63))=true:=by simp;omega
  have c1:¬ (items.isEmpty || k == 1)=true:=by rw[gQ];simp;omega
  have c2:¬ (decide (k<=0) || items.isEmpty)=true:=by rw[gQ];simp;omega
  wp_walk
  have IW:k=((k.toNat:Nat):Int):=by omega
  have hm:(items.size:Int) * k=((items.size * k.toNat:Nat):Int):=by rw[Int.natCast_mul,<- IW]
  have c3:¬ (items.size:Int) * k > (2 ^ 63 - 1) / 8:=by rw[hm];omega
  have c4:¬ Builtin.Tuple.tupleTooMany ((items.size:Int) * k)=true:=by
   rw[hm];unfold Builtin.Tuple.tupleTooMany;rw[decide_eq_true_eq,show au=16777216 by decide];omega
  have P6:PyProof.Rows.IsTup hp l items:=⟨_,hl,rfl,n,rfl⟩
  have hsz:(cS (λx1 x2=>x1++x2) #[] (List.replicate k.toNat items)).size<=au:=by
   have e:=AutoListH.size_joined items k.toNat #[];have e0:(#[]:Array af).size=0:=rfl;rw[e0,Nat.zero_add,Nat.mul_comm] at e;rw[e];exact aT hz (!2)
  rw[if_neg c0];show ay _ _ (Builtin.Tuple.tupleItemsOf (.ref l) >>= _) _ _ _;refine ae (PyProof.Rows.tupleItemsOf_ P6 ?_);dsimp only;rw[if_neg c1,if_neg c2,if_neg c3,if_neg c4]
  first
   | exact ae (m:=Builtin.Tuple.tupleExact _) (aY (ak ⟨_,rfl,h⟩) hsz)
   | exact ae (m:=Builtin.Tuple.tupleExact _) (aY (ae (ak (ak ⟨_,rfl,h⟩))) hsz)
   | exact ae (ae (m:=Builtin.Tuple.tupleExact _) (aY (ak (ak ⟨_,rfl,h⟩)) hsz))
   | exact ae (ae (m:=Builtin.Tuple.tupleExact _) (aY (ak ⟨_,rfl,h⟩) hsz))
end PySem
namespace L2
open PySem PySem.Spec PyProof.Rows
section
theorem QE.weaken (h:QE X e t)(w:∀σ H Q,t' σ H Q->t σ H Q):QE X e t':=⟨λpins s σ H Q I q=>h.run pins s σ H Q I (w σ H Q q)⟩
theorem QA.weaken (h:QA X es t)(w:∀σ H Q,t' σ H Q->t σ H Q):QA X es t':=⟨λpos pins s σ H Q I q=>h.run pos pins s σ H Q I (w σ H Q q),h.ns⟩
end
section
variable {X:Cx}{us ui:List Nat}{a b e:Expr}{es:List Expr}{pos:Pos}
noncomputable def KD (K:W.Frag):R2:=λx y H Q=>∃a k xs,x=.ref a/\y=.int k/\iz K H a xs/\xs≠[]/\2<=k/\k<2 ^ 40/\xs.length * k.toNat<=16000000/\∀p,H p=none->Q (.ref p) (d0 H p (.tup (List.replicate k.toNat xs).flatten))
theorem IY (K:W.Frag)(h:X.K=K:=by rfl):jF X (binaryOp .Mult) (KD K):=by
 subst h;intro pins s σ H x y v u Q I rx ry h;obtain⟨a,k,xs,rfl,rfl,hx,gQ,h2,hk,hz,q⟩:=h;cases rx;obtain⟨t,rfl⟩:=ry;obtain⟨its,r,ht,hl⟩:=I.tuple hx;obtain⟨⟨cls,dd,data,sl⟩,ho,hc,n,hd⟩:=id ht;simp only at hc hd;subst hc hd
 have Tn:its.toArray.isEmpty=false:=by
  cases its with
  | nil=>exact absurd (r.oq.mp rfl) gQ
  | cons _ _=>rfl
 have hsz:its.toArray.size * k.toNat<=16000000:=by rw[aB,<- r.length];exact hz
 refine wpAny_binaryOp_repeat_ref (T := "tuple") (U := "int") (!2) ⟨_,ho,rfl⟩ (λs'=>typeIs_int s' k t) kf F.fills_int_mul F.slot_int_rmul oF F.slot_int_index.lookup
  (call_meets F.slot_int_rmul (typeIs_int s k t) F.entry_int_rmul (F.args_int_rmul_2 _ _) (lX k t a its.toArray n dd sl)
   ⟨ho,rfl,⟨_,ho,rfl⟩,call_meets F.slot_tuple_mul ⟨_,ho,rfl⟩ F.entry_tuple_mul (F.args_tuple_mul_2 _ _) (uH a its.toArray n dd sl k t Tn h2 hk hsz) ⟨ho,?_⟩⟩)
 have xK:cS (λx1 x2=>x1++x2) #[] (List.replicate k.toNat its.toArray)=(List.replicate k.toNat its).flatten.toArray:=by
  have:=foldl_rep its k.toNat [];rw[aw] at this;exact this
 rw[xK]
 have eF:(List.replicate k.toNat xs).flatten.length<=au:=by
  rw[wA,Nat.mul_comm,show au=16777216 by decide];omega
 exact⟨.ref _,_,I.laid (t':=s.toks) (o:=.tup (List.replicate k.toNat xs).flatten) (λb o e=>ag _ e) (al _) ⟨eF,_,r.rep k.toNat,uy.new _ _⟩,rfl,q _ (I.hok.fresh (al _))⟩
theorem dO.at' {xs:List V}{us:List af}{i:Nat}{u:af}(r:dO xs us)(h:us[i]? = some u):∃x,xs[i]? = some x/\RelV x u:=by
 have hi:i<us.length:=(aG.mp h).1;have BH:i<xs.length:=by rw[r.length];exact hi
 have e:xs[i]? = some xs[i]:=by simp[BH]
 obtain⟨w,hw,pD⟩:=r.get e;rw[h] at hw;cases hw;exact⟨_,e,pD⟩
theorem CU (K:W.Frag)(hc:X.calm=true)(hk:X.K=K:=by rfl):fL X (.builtin "all") (λxs H Q=>∃(p:Addr) (bs:List Bool),xs=[.ref p]/\gp K H p (bs.map V.bl)/\Q (.bl (bs.all id)) H):=by
 subst hk;intro pins s σ H xs us Q I r h;obtain⟨p,bs,rfl,hp,q⟩:=h;obtain⟨u,rfl,ru⟩:=vals1 r;cases ru;obtain⟨its,rv,ht,hz⟩:=I.list hp;have hh:=I.ok.hd hc;have m7:p<s.heap.objs.size:=ht.lt;have eF:its.toArray.size=bs.length:=by rw[aB,<- rv.length,ai]
 have key:∀(a:Nat) (v:af),its.toArray[a]? = some v->v=.bool (bs.getD a true):=by
  intro a v e;have e':its[a]? = some v:=by simpa using e
  obtain⟨x,hx,rx⟩:=rv.at' e';rw[az] at hx
  cases hb:bs[a]? with
  | none=>rw[hb] at hx;cases hx
  | some b =>
   rw[hb] at hx;cases hx;rw[ar,hb];exact rx
 refine call_all_walk (wpAny_pyIter_list ht.isList ⟨s.heap.objs.size,_,_,its.toArray.size,_,_,λa=>bs.getD a true,rfl,Walks.list (A:=X.A.in1) hh _ p (aQ m7) its.toArray,⟨⟨_,aA _ rfl,rfl,rfl⟩,ht.isList.at λo e=>ag _ e⟩,?_,?_⟩)
 .intro i v s' Q' E' hP hq
  rw[key i v hP];exact wpAny_truthy_bool hq
 .intro h' tk kp
  have I1:Inv X pins σ H { s with heap:=h',toks:=tk }:=I.kept λb o e=>kp b o (λz=>by
   have e2:b=s.heap.objs.size:=by simpa using z
   rw[e2] at e;exact absurd (ax e) (bh _)) (ag _ e)
  have e:(List.range its.toArray.size).all (λa=>bs.getD a true)=bs.all id:=by
   rw[eF];clear q hp rv eF key hz
   induction bs with
   | nil=>rfl
   | cons b bs ih =>
    rw[aj,List.range_succ_eq_map,cC,List.all_map,cC];have:((λa=>(b::bs).getD a true) ∘ Nat.succ)=λa=>bs.getD a true:=rfl;rw[this,ih];rfl
  rw[e];exact⟨.bl _,H,I1,rfl,q⟩
end
section
variable {κ:Type}[DecidableEq κ]
noncomputable def gR (kvs:List (κ × V))(k:κ):Option V:=(kvs.find? λkv=>decide (kv.1=k)).map (·.2)
noncomputable def jo (kvs:List (κ × V))(k:κ)(v:V):List (κ × V) :=
 if (kvs.any λkv=>decide (kv.1=k))=true then kvs.map (λkv=>if kv.1=k then (kv.1,v) else kv) else kvs++[(k,v)]
theorem fN {p:κ × V}{r:List (κ × V)}{k:κ}(e:p.1=k):gR (p::r) k=some p.2:=by simp[gR,bG,e]
theorem fO {p:κ × V}{r:List (κ × V)}{k:κ}(e:¬ p.1=k):gR (p::r) k=gR r k:=by simp[gR,bG,e]
theorem oG (k:κ):∀kvs:List (κ × V),(kvs.any λkv=>decide (kv.1=k))=(gR kvs k).isSome
 | []=>rfl
 | p::r=>by
  rw[bK];by_cases e:p.1=k
  .simp only[fN e,decide_eq_true e,Bool.true_or,Option.isSome_some]
  .rw[fO e,decide_eq_false e,Bool.false_or];exact oG k r
theorem xV (k j:κ)(y:V):∀kvs:List (κ × V),gR (kvs.map λkv=>if kv.1=k then (kv.1,y) else kv) j=(gR kvs j).map λx=>if j=k then y else x
 | []=>rfl
 | p::r=>by
  have ih:=xV k j y r;rw[ah];by_cases h:p.1=k
  .rw[if_pos h]
   by_cases e:p.1=j
   .rw[fN (p:=(p.1,y)) e,fN e,bg,if_pos (e.symm.trans h)]
   .rw[fO (p:=(p.1,y)) e,fO e,ih]
  .rw[if_neg h]
   by_cases e:p.1=j
   .rw[fN (p:=p) e,fN e,bg,if_neg (λz=>h (e.trans z))]
   .rw[fO (p:=p) e,fO e,ih]
theorem vo (k j:κ)(y:V):∀kvs:List (κ × V),gR kvs k=none->gR (kvs++[(k,y)]) j=if j=k then some y else gR kvs j
 | [],_=>by
  by_cases e:k=j
  .rw[if_pos e.symm];exact fN (p:=(k,y)) e
  .rw[if_neg (λz=>e z.symm)];exact fO (p:=(k,y)) e
 | p::r,hn=>by
  rw[aM];have hk:¬ p.1=k:=λz=>by rw[fN z] at hn;cases hn
  rw[fO hk] at hn;have ih:=vo k j y r hn;by_cases e:p.1=j
  .rw[fN e,fN e,if_neg (λz=>hk (e.trans z))]
  .rw[fO e,fO e,ih]
theorem Fn (kvs:List (κ × V))(k j:κ)(y:V):gR (jo kvs k y) j=if j=k then some y else gR kvs j:=by
 unfold jo;by_cases a:(kvs.any λkv=>decide (kv.1=k))=true
 .rw[if_pos a,xV]
  rw[oG] at a;by_cases e:j=k
  .obtain⟨x,hx⟩:=bJ.mp a
   rw[if_pos e,e,hx,bg,if_pos rfl]
  .rw[if_neg e]
   cases gR kvs j with
   | none=>rfl
   | some x=>rw[bg,if_neg e]
 .rw[if_neg a]
  refine vo k j y kvs ?_;rw[oG] at a
  cases q:gR kvs k with
  | none=>rfl
  | some x=>rw[q] at a;exact (a rfl).elim
theorem lY (kvs:List (κ × V))(k:κ)(v:V):(jo kvs k v).length<=kvs.length+1:=by
 unfold jo;split
 .rw[ai];omega
 .rw[aO,aj,aJ];omega
theorem oh.pO (r:oh o u):o.isSome=u.isSome:=by
 cases o with
 | none=>cases u with
  | none=>rfl
  | some _=>exact (show False from r).elim
 | some _=>cases u with
  | none=>exact (show False from r).elim
  | some _=>rfl
theorem oh.getD (r:oh o u)(rd:RelV d d'):RelV (o.getD d) (u.getD d'):=by
 cases o with
 | none=>cases u with
  | none=>exact rd
  | some _=>exact (show False from r).elim
 | some _=>cases u with
  | none=>exact (show False from r).elim
  | some _=>exact r
theorem KV.val {kvs:List (κ × V)}{vs:List (κ × af)}(r:KV kvs vs)(k:κ):oh (gR kvs k) (valueAt vs k):=by
 unfold KV at r
 induction r with
 | nil=>exact True.intro
 | @cons p q ps qs h t ih =>
  obtain⟨h1,h2⟩:=h;by_cases e:p.1=k
  .have e':q.1=k:=h1.symm.trans e
   have b:valueAt (q::qs) k=some q.2:=by simp[valueAt,bG,e']
   rw[fN e,b];exact h2
  .have e':¬ q.1=k:=λz=>e (h1.trans z)
   have b:valueAt (q::qs) k=valueAt qs k:=by simp[valueAt,bG,e']
   rw[fO e,b];exact ih
theorem KV.any (r:KV kvs vs)(k:κ):(kvs.any λkv=>decide (kv.1=k))=vs.any λkv=>decide (kv.1=k):=by
 unfold KV at r
 induction r with
 | nil=>rfl
 | cons h t ih=>rw[bK,bK,ih,h.1]
theorem KV.M1 (r:KV kvs vs)(k:κ)(ry:RelV y u) :
  KV (kvs.map λkv=>if kv.1=k then (kv.1,y) else kv) (vs.map λkv=>if kv.1=k then (kv.1,u) else kv):=by
 unfold KV at r ⊢
 induction r with
 | nil=>exact .nil
 | @cons p q ps qs h t ih =>
  rw[ah,ah];refine .cons ?_ ih;obtain⟨h1,h2⟩:=h;by_cases e:p.1=k
  .rw[if_pos e,if_pos (h1.symm.trans e)];exact⟨h1,ry⟩
  .rw[if_neg e,if_neg (λz=>e (h1.trans z))];exact⟨h1,h2⟩
theorem KV.put (r:KV kvs vs)(k:κ)(ry:RelV y u):KV (jo kvs k y) (stored vs k u):=by
 unfold jo stored;rw[r.any k];by_cases e:(vs.any λkv=>decide (kv.1=k))=true
 .rw[if_pos e,if_pos e];exact r.M1 k ry
 .rw[if_neg e,if_neg e];exact Paired.snoc r ⟨rfl,ry⟩
theorem KV.keys {kvs:List (κ × V)}{vs:List (κ × af)}(r:KV kvs vs):kvs.map (·.1)=vs.map (·.1):=by
 unfold KV at r
 induction r with
 | nil=>rfl
 | cons h t ih=>rw[ah,ah,ih,h.1]
theorem KV.length (r:KV kvs vs):kvs.length=vs.length:=Paired.length r
end
theorem vp (r:RelV (kV k) u):(eW P w).is k u=true:=by
 cases k with
 | inl i=>obtain⟨t,e⟩:=(show ∃t,u=af.int i t from r);subst e;exact xD P w i t
 | inr x=>obtain⟨t,e⟩:=(show ∃t,u=af.str x t from r);subst e;exact xE P w x t
theorem vq:∀{ks:List Key} {us:List af},dO (ks.map kV) us->ItemsAre (eW P w) ks us
 | [],_,r=>by rw[ba] at r;cases r;exact .nil
 | k::ks,_,r=>by
  rw[ah] at r
  cases r with
  | cons h t=>exact .cons (vp h) (vq t)
abbrev KT (H:Hp):List (List Key × V)->List (List Key × Addr × af)->Prop:=Paired λp q=>p.1=q.1/\H q.2.1=some (.tup (p.1.map kV))/\RelV p.2 q.2.2
theorem KT.val {H:Hp}{kvs:List (List Key × V)}{xs:List (List Key × Addr × af)}(r:KT H kvs xs)(k:List Key):oh (gR kvs k) ((atKey xs k).map (·.2)):=by
 induction r with
 | nil=>exact True.intro
 | @cons p q ps qs h t ih =>
  obtain⟨h1,_,h2⟩:=h;by_cases e:p.1=k
  .have e':q.1=k:=h1.symm.trans e
   have b:atKey (q::qs) k=some q.2:=by simp[atKey,bG,e']
   rw[fN e,b];exact h2
  .have e':¬ q.1=k:=λz=>e (h1.trans z)
   have b:atKey (q::qs) k=atKey qs k:=by simp[atKey,bG,e']
   rw[fO e,b];exact ih
theorem KT.M1 (r:KT H kvs xs)(k:List Key)(ry:RelV y u) :
  KT H (kvs.map λkv=>if kv.1=k then (kv.1,y) else kv) (xs.map (putAt k u)):=by
 induction r with
 | nil=>exact .nil
 | @cons p q ps qs h t ih =>
  rw[ah,ah];refine .cons ?_ ih;obtain⟨h1,h2,h3⟩:=h;unfold putAt;by_cases e:p.1=k
  .rw[if_pos e,if_pos (h1.symm.trans e)];exact⟨h1,h2,ry⟩
  .rw[if_neg e,if_neg (λz=>e (h1.trans z))];exact⟨h1,h2,h3⟩
theorem KT.put (r:KT H kvs xs)(k:List Key)(hb:H b=some (.tup (k.map kV)))(ry:RelV y u) :
  KT H (jo kvs k y) (storedH xs k b u):=by
 have e:(kvs.any λkv=>decide (kv.1=k))=(atKey xs k).isSome:=by
  rw[oG,(r.val k).pO,Option.isSome_map]
 unfold jo storedH;rw[e];by_cases q:(atKey xs k).isSome=true
 .rw[if_pos q,if_pos q];exact r.M1 k ry
 .rw[if_neg q,if_neg q];exact Paired.snoc r ⟨rfl,hb,ry⟩
theorem KT.keeps (r:KT H kvs xs)(ht:∀b ys,H b=some (.tup ys)->H' b=some (.tup ys)):KT H' kvs xs :=
 Paired.LB r λ_ _ z=>⟨z.1,ht _ _ z.2.1,z.2.2⟩
section
theorem KH (ok:ka P w H h)(e:Rd H a u):eQ P w H h a u:=e.ok ok
theorem vt (ok:ka P w H h)(e:Rd H a (.dK kvs)):kvs.length<=au/\(a == sysModules)=false/\∃vs,KV kvs vs/\h.DictOf (eW P w) a vs :=
 show eQ P w H h a (.dK kvs) from KH ok e
theorem KP (ok:ka P w H h)(e:H a=some (.dK kvs)):kvs.length<=au/\(a == sysModules)=false/\∃vs,KV kvs vs/\h.DictOf (eW P w) a vs:=vt ok (.inl e)
theorem sr {ks:List Key}(ok:ka P w H h)(e:H a=some (.tup (ks.map kV))):(tupleKind (eW P w)).is h ks a:=by
 obtain⟨_,its,r,o,h1,h2,n,h3,_⟩:=(show eQ P w H h a (.tup (ks.map kV)) from ok a _ e);exact⟨o,its.toArray,n,h1,h2,h3,by simpa using vq r⟩
theorem vw (ok:ka P w H h)(e:Rd H a (.dT kvs)):kvs.length<=au/\(a == sysModules)=false /\
  ∃xs,KT H kvs xs/\h.DictOfH (tupleKind (eW P w)) a xs:=by
 obtain⟨z,y,xs,r,o,es,ep,h1,h2,h3,h4,h5⟩:=(show eQ P w H h a (.dT kvs) from KH ok e);refine⟨z,y,xs,r,o,es,ep,h1,h2,h3,h4,λx hx=>?_,h5⟩
 have all:∀{l:List (List Key × V)} {m:List (List Key × Addr × af)},KT H l m->∀x∈m,(tupleKind (eW P w)).is h x.1 x.2.1:=by
  intro l m q
  induction q with
  | nil=>intro x hx;exact nomatch hx
  | @cons p q ps qs hq t ih =>
   intro x hx;rcases ap.mp hx with e | hx
   .subst e
    exact sr ok (by rw[<- hq.1];exact hq.2.1)
   .exact ih x hx
 exact all r x hx
theorem P7 (ok:ka P w H h)(e:H a=some (.dT kvs)):kvs.length<=au/\(a == sysModules)=false /\
  ∃xs,KT H kvs xs/\h.DictOfH (tupleKind (eW P w)) a xs:=vw ok (.inl e)
end
noncomputable def i8 (H:Hp)(a:Addr)(y:V)(r:Option V):Prop :=
 (∃kvs k,Rd H a (.dK kvs)/\y=kV k/\r=gR kvs k)\/∃kvs k b,Rd H a (.dT kvs)/\y=.ref b/\H b=some (.tup (k.map kV))/\r=gR kvs k
noncomputable def oH (H:Hp)(a:Addr)(y v:V)(H':Hp):Prop :=
 (∃kvs k,H a=some (.dK kvs)/\y=kV k/\kvs.length<au/\H'=d0 H a (.dK (jo kvs k v))) \/
 ∃kvs k b,H a=some (.dT kvs)/\y=.ref b/\H b=some (.tup (k.map kV))/\kvs.length<au/\H'=d0 H a (.dT (jo kvs k v))
theorem i8.k {H:Hp}{a:Addr}{kvs:List (Key × V)}{k:Key}(e:H a=some (.dK kvs)):i8 H a (kV k) (gR kvs k):=.inl ⟨kvs,k,.inl e,rfl,rfl⟩
theorem i8.t {H:Hp}{a b:Addr}{kvs:List (List Key × V)}{k:List Key}(e:H a=some (.dT kvs))(eb:H b=some (.tup (k.map kV))):i8 H a (.ref b) (gR kvs k):=.inr ⟨kvs,k,b,.inl e,rfl,eb,rfl⟩
theorem oH.k {H:Hp}{a:Addr}{kvs:List (Key × V)}{k:Key}{v:V}(e:H a=some (.dK kvs))(hl:kvs.length<au):oH H a (kV k) v (d0 H a (.dK (jo kvs k v))):=.inl ⟨kvs,k,e,rfl,hl,rfl⟩
theorem oH.t {H:Hp}{a b:Addr}{kvs:List (List Key × V)}{k:List Key}{v:V}(e:H a=some (.dT kvs))(eb:H b=some (.tup (k.map kV)))(hl:kvs.length<au) :
  oH H a (.ref b) v (d0 H a (.dT (jo kvs k v))):=.inr ⟨kvs,k,b,e,rfl,eb,hl,rfl⟩
section
theorem Inv.big (I:Inv X pins σ H s):sysModules<s.heap.objs.size:=by
 have h:aS<s.heap.objs.size:=(I.mod.glob.keeps I.bk).lt;exact cT (!2) h
theorem CV {Q:af->aq->Prop}(hu:A.units+1<cLine)(I:Inv X pins σ H s)(g:i8 H a y (some v))(ry:RelV y u)(h:∀w' s',Inv X pins σ H s'->RelV v w'->Q w' s') :
  ay (model X.prog X.w) A (getItem (.ref a) u) Q E s:=by
 rcases g with⟨kvs,k,e,ey,l⟩ | ⟨kvs,k,b,e,ey,eb,l⟩
 .subst ey
  obtain⟨z,hd,vs,rh,dd⟩:=vt I.hok e;obtain⟨w',hw,pD⟩:=oh.some_of (v:=v) (o:=valueAt vs k) (by rw[l];exact rh.val k);exact wpAny_getItem_of (vp ry) dd.mapOf hw (h w' _ (I.tok _) pD)
 .subst ey
  cases (show u=af.ref b from ry);obtain⟨z,hd,xs,rh,dd⟩:=vw I.hok e;obtain⟨w',hw,pD⟩:=oh.some_of (v:=v) (o:=(atKey xs k).map (·.2)) (by rw[l];exact rh.val k);obtain⟨p,hp,KQ⟩:=ce.mp hw;refine wpAny_getItem_heap (tupleKind_room_in1 hu) (sr I.hok eb) dd hp ?_;rw[KQ];exact h w' _ (I.tok _) pD
theorem To {Q:af->aq->Prop}(hu:A.units+1<cLine)(I:Inv X pins σ H s)(g:i8 H a y o)(ry:RelV y u)(h:∀s',Inv X pins σ H s'->Q (.bool o.isSome) s') :
  ay (model X.prog X.w) A (compareOp .In u (.ref a)) Q E s:=by
 rcases g with⟨kvs,k,e,ey,l⟩ | ⟨kvs,k,b,e,ey,eb,l⟩
 .subst ey
  obtain⟨z,hd,vs,rh,dd⟩:=vt I.hok e;refine wpAny_in_of (vp ry) hd dd.mapOf ?_;rw[<- (rh.val k).pO,<- l];exact h _ (I.tok _)
 .subst ey
  cases (show u=af.ref b from ry);obtain⟨z,hd,xs,rh,dd⟩:=vw I.hok e;refine wpAny_in_heap (tupleKind_room_in1 hu) (sr I.hok eb) hd dd ?_;have q:=(rh.val k).pO;rw[Option.isSome_map] at q;rw[<- q,<- l];exact h _ (I.tok _)
theorem wH {h':Heap}{t':Nat}{ob:HO}(I:Inv X pins σ H s)(mu:OH (H a))(hs:Heap.SameBut a s.heap h')(he:∃q,h'.get? a=some q)(new:eQ X.prog X.w (d0 H a ob) h' a ob) :
  Inv X pins σ (d0 H a ob) { s with heap:=h',toks:=t' } :=
 I.write (x:=a) (e:=a) mu (.inl rfl) (λb q hb z=>(hs.2 b hb).trans z) he new
theorem Fp (z:kvs.length<=au)(hd:(a == sysModules)=false)(rh:KV kvs vs)(dd:h'.DictOf (eW P w) a vs) :
  eQ P w H' h' a (.dK kvs):=⟨z,hd,vs,rh,dd⟩
theorem CW {H':Hp}{Q:Unit->aq->Prop}(hu:A.units+1<cLine)(I:Inv X pins σ H s)(g:oH H a y v H')(ry:RelV y u)(rv:RelV v r)(h:∀s',Inv X pins σ H' s'->Q () s') :
  ay (model X.prog X.w) A (setItem (.ref a) u r) Q E s:=by
 rcases g with⟨kvs,k,e,ey,l,eH⟩ | ⟨kvs,k,b,e,ey,eb,l,eH⟩
 .subst ey eH
  obtain⟨z,hd,vs,rh,dd⟩:=KP I.hok e;have hz:vs.length<=au:=by rw[<- rh.length];exact z
  have hl:(jo kvs k v).length<=au:=by have:=lY kvs k v;omega
  refine wpAny_setItem_pairs (hsz:=hz) (vp ry) dd λh' M3 hs=>h _ ?_;have he:∃q,h'.get? a=some q:=let ⟨q,_,_,hq,_⟩:=M3;⟨q,hq⟩;exact wH I (by rw[e];exact True.intro) hs he (Fp hl hd (rh.put k rv) M3)
 .subst ey eH
  cases (show u=af.ref b from ry);obtain⟨z,hd,xs,rh,dd⟩:=P7 I.hok e;have hz:xs.length<=au:=by rw[<- Paired.length rh];exact z
  have hl:(jo kvs k v).length<=au:=by have:=lY kvs k v;omega
  refine wpAny_setItem_heap (hsz:=hz) (tupleKind_room_in1 hu) (sr I.hok eb) dd λh' M3 hs=>h _ ?_;obtain⟨q,es,ep,hq,h2,h3,h4,_,h5⟩:=M3;refine wH I (by rw[e];exact True.intro) hs ⟨q,hq⟩ ⟨hl,hd,_,(rh.put k eb rv).keeps λc ys ec=>?_,q,es,ep,hq,h2,h3,h4,h5⟩;rw[du (OG ec e (λz=>nomatch z))];exact ec
end
def Fq (i:Expr):Prop:=∀ov iv,subscripted i false ov iv=operate [ov,iv] (getItem ov iv)
theorem IZ {prog:aV}{w:World}{A:Around}{E:af->aq->Prop}{s:aq}{env:Env}{value slice:Expr}{pos:Pos}{T id:String}{Q:af->aq->Prop}
  (hl:typeLookup (.type T) "__getitem__" = pure (some (.builtin id))) (hs:Fq slice)
  (h:ay (model prog w) A (eval value env) (λo s₁=>ay (model prog w) A (eval slice env) (λi s₂=>s₂.TypeIs o T/\ay (model prog w) A (getItem o i) Q E s₂) E s₁) E s) :
  ay (model prog w) A (eval (.Subscript value slice pos) env) Q E s:=by
 refine Subscript_ (bD h (λo s₁ h₁=>bD h₁ (λi s₂ h₂=>?_) λ_ _ x=>x) λ_ _ x=>x);obtain⟨hT,h₂⟩:=h₂;unfold subscriptTail;refine ae ?_;rw[getitemInPython_of_ne hT.not_modules];refine ae (wpAny_specialOf hT hl ?_)
 have gG:ay (model prog w) A (subscripted slice false o i) (λr s₃=>ay (model prog w) A (letTemporaryGo value o r >>= λ_=>pure r) Q E s₃) E s₂:=by
  rw[hs o i];exact wpAny_operating (bD h₂ (λr s₃ h₃=>ae (wpAny_letTemporaryGo (ak h₃))) λ_ _ x=>x)
 first
  | exact ak (ae gG)
  | exact ae (ak (ae gG))
  | exact ae gG
theorem xW (I:Inv X pins σ H s)(g:i8 H a y o):s.TypeIs (.ref a) "dict" := by
 rcases g with⟨kvs,k,e,_,_⟩ | ⟨kvs,k,b,e,_,_,_⟩
 .obtain⟨_,_,vs,_,dd⟩:=vt I.hok e
  exact dd.typeIs
 .obtain⟨_,_,xs,_,dd⟩:=vw I.hok e
  exact dd.typeIs
def KR (td ty:TE):TE:=λσ H Q=>td σ H λx H1=>ty σ H1 λy H2=>∃a v,x=.ref a/\i8 H2 a y (some v)/\Q v H2
def Tp (ty td:TE):TE:=λσ H Q=>ty σ H λy H1=>td σ H1 λx H2=>∃a o,x=.ref a/\i8 H2 a y o/\Q (.bl o.isSome) H2
def KU (td ty tv:TE):TS:=λD σ H=>tv σ H λv H1=>td σ H1 λx H2=>ty σ H2 λy H3=>∃a H4,x=.ref a/\oH H3 a y v H4/\D.nx σ H4
section
theorem I0 (hu:X.A.units+1<cLine)(ho:PE X o td)(hi:PE X i ty)(hs:Fq i):PE X (.Subscript o i pos) (KR td ty):=by
 intro pins s σ H Q I h;refine IZ PySem.F.slot_dict_getitem.lookup hs (fy (ho pins s σ H _ I h) λu s1 ⟨x,H1,I1,rx,q1⟩=>fy (hi pins s1 σ H1 _ I1 q1) λiv s2 ⟨y,H2,I2,ry,a,v,ex,g,q2⟩=>?_);subst ex;obtain rfl:u=af.ref a:=rx;exact⟨xW I2 g,CV hu I2 g ry λw' s3 I3 pD=>⟨v,H2,I3,pD,q2⟩⟩
theorem Fs (hu:X.A.units+1<cLine)(hi:PE X i ty)(ho:PE X o td):PC X .In i o (Tp ty td):=by
 intro pins s σ H Q I h;refine fy (hi pins s σ H _ I h) λiv s1 ⟨y,H1,I1,ry,q1⟩=>fy (ho pins s1 σ H1 _ I1 q1) λu s2 ⟨x,H2,I2,rx,a,ov,ex,g,q2⟩=>?_;subst ex;obtain rfl:u=af.ref a:=rx;exact To hu I2 g ry λs3 I3=>⟨.bl ov.isSome,H2,I3,rfl,q2⟩
theorem I8 (hu:X.A.units+1<cLine)(ho:PE X o td)(hi:PE X i ty)(hv:PE X value tv)(hs:swapsWith value (some (.Subscript o i ij)) pos.line X.env=pure false) :
  PS X (.Assign [.Subscript o i ij] value pos) (KU td ty tv):=by
 intro pins s σ H D I h;refine wpAny_Assign_Subscript (fy (hv pins s σ H _ I h) λr s1 ⟨v,H1,I1,rv,q1⟩=>fy (ho pins s1 σ H1 _ I1 q1) λu s2 ⟨x,H2,I2,rx,q2⟩=>fy (hi pins s2 σ H2 _ I2 q2) λiv s3 ⟨y,H3,I3,ry,a,H4,ex,g,q3⟩=>?_) hs;subst ex;obtain rfl:u=af.ref a:=rx;exact CW hu I3 g ry rv λs4 I4=>⟨σ,H4,I4,q3⟩
end
theorem xX (h:Heap)(hb:sysModules<h.objs.size):eQ P w H (h.push { cls:=.type "dict",data:=.dict #[] }) h.objs.size (.dK []) :=
 ⟨bU _,beq_eq_false_iff_ne.mpr (Ne.symm (aQ hb)),[],.nil,Heap.DictOf.new h⟩
def Ft:TE:=λ_ H Q=>∀p,H p=none->Q (.ref p) (d0 H p (.dK []))
section
theorem Fu:PE X (.Dict [] [] pos) Ft:=λpins s σ H Q I h =>
 wpAny_Dict_empty ⟨.ref s.heap.objs.size,_,I.laid (a:=s.heap.objs.size) (o:=.dK []) (t':=s.toks) (λ_ _ q=>ag _ q) (al _) (xX s.heap I.big),rfl,h _ (I.hok.fresh (al _))⟩
end
noncomputable def Ah:List (TE × TE)->St->Hp->(List (V × V)->Hp->Prop)->Prop
 | [],_,H,Q=>Q [] H
 | (tk,tv)::r,σ,H,Q=>tk σ H λx H1=>tv σ H1 λy H2=>Ah r σ H2 λps H3=>Q ((x,y)::ps) H3
abbrev VV:List (V × V)->List (af × af)->Prop:=Paired λp q=>RelV p.1 q.1/\RelV p.2 q.2
def P8 (X:Cx)(pos:Pos)(keys:List (Option Expr))(values:List Expr)(CY:List (TE × TE)):Prop :=
 ∀(pins:List (Addr × Obj)) (s:aq) (σ:St) (H:Hp) (Q:List (V × V)->Hp->Prop),Inv X pins σ H s->Ah CY σ H Q ->
  ay (model X.prog X.w) X.A (evalPairs (pairTrees keys values X.env pos)) (λvs s'=>∃ps H',Inv X pins σ H' s'/\VV ps vs/\Q ps H') X.xe s
theorem I9:P8 X pos [] [] []:=λpins s σ H Q I h=>pairTrees_nil_walk ⟨[],H,I,.nil,h⟩
theorem Fv (hk:PE X k tk)(hv:PE X v tv)(hr:P8 X pos ks vs CY) :
  P8 X pos (some k::ks) (v::vs) ((tk,tv)::CY):=λpins s σ H Q I h =>
 pairTrees_cons_walk (fy (hk pins s σ H _ I h) λu s1 ⟨x,H1,I1,rx,q1⟩=>fy (hv pins s1 σ H1 _ I1 q1) λw2 s2 ⟨y,H2,I2,ry,q2⟩ =>
  fy (hr pins s2 σ H2 _ I2 q2) λws s3 ⟨ps,H3,I3,rh,q3⟩=>⟨(x,y)::ps,H3,I3,.cons ⟨rx,ry⟩ rh,q3⟩)
noncomputable def su (kvs more:List (Key × V)):List (Key × V):=more.foldl (λacc kv=>jo acc kv.1 kv.2) kvs
theorem KV.merge:∀{more:List (Key × V)} {rs:List (Key × af)} {kvs:List (Key × V)} {vs:List (Key × af)},KV more rs->KV kvs vs->KV (su kvs more) (merged vs rs):=by
 intro more rs kvs vs r;unfold KV at r
 induction r generalizing kvs vs with
 | nil=>intro q;exact q
 | @cons p q ps qs h t ih =>
  intro r0
  have e:KV (jo kvs p.1 p.2) (stored vs q.1 q.2):=by
   have:=r0.put p.1 h.2;rw[<- h.1];exact this
  exact ih e
theorem nc:∀(more kvs:List (Key × V)),(su kvs more).length<=kvs.length+more.length
 | [],kvs=>by show kvs.length<=kvs.length+0;omega
 | p::r,kvs=>by
  have h1:=nc r (jo kvs p.1 p.2);have h2:=lY kvs p.1 p.2;show (su (jo kvs p.1 p.2) r).length<=_;rw[aj];omega
theorem sv:∀{kvs:List (Key × V)} {ws:List (af × af)},VV (kvs.map λkv=>(kV kv.1,kv.2)) ws->∃rs,Carries (eW P w) ws rs/\KV kvs rs
 | [],_,r=>by rw[ba] at r;cases r;exact⟨[],True.intro,.nil⟩
 | p::kvs,_,r=>by
  rw[ah] at r
  cases r with
  | @cons a b as bs h t =>
   obtain⟨rs,c,q⟩:=sv (P:=P) (w:=w) t;obtain⟨b1,b2⟩:=b;exact⟨(p.1,b2)::rs,⟨vp h.1,rfl,c⟩,.cons ⟨rfl,h.2⟩ q⟩
def KY (CY:List (TE × TE)):TE:=λσ H Q=>∀p,H p=none->Ah CY σ (d0 H p (.dK [])) λps H2=>H2 p=some (.dK [])/\∃kvs:List (Key × V),ps=kvs.map (λkv=>(kV kv.1,kv.2))/\kvs.length<=15/\Q (.ref p) (d0 H2 p (.dK (su [] kvs)))
theorem Ja (h:P8 X pos keys values CY)(zZ:keys.all (·.isSome)=true)(hl:keys.length=values.length)(h0:keys≠[])
  (Tq:keys.length<=15):PE X (.Dict keys values pos) (KY CY):=by
 intro pins s σ H Q I q;have hn:=I.hok.fresh (al s.heap.objs.size);have I1:=I.laid (a:=s.heap.objs.size) (o:=.dK []) (h':=s.heap.push { cls:=.type "dict",data:=.dict #[] }) (t':=s.toks) (λ_ _ q=>ag _ q) (al _) (xX s.heap I.big);refine wpAny_Dict_walk (knd:=eW X.prog X.w) zZ hl h0 Tq (fy (h pins _ σ _ _ I1 (q _ hn)) λws s2 ⟨ps,H2,I2,rh,e,kvs,ep,lk,q2⟩=>?_);subst ep;obtain⟨rs,c,rk⟩:=sv (P:=X.prog) (w:=X.w) rh;obtain⟨z,hd,ZW,r0,dd⟩:=KP I2.hok e;cases r0;refine⟨rs,c,dd,λh' M3 hs=>⟨.ref s.heap.objs.size,_,?_,rfl,q2⟩⟩
 have hz:(su [] kvs).length<=au:=by
  have h1:=nc kvs [];rw[aJ] at h1;rw[sizeLine_eq];omega
 have he:∃q,h'.get? s.heap.objs.size=some q:=let ⟨q,_,_,hq,_⟩:=M3;⟨q,hq⟩;exact wH I2 (by rw[e];exact True.intro) hs he (Fp hz hd (rk.merge .nil) M3)
structure M2 (X:Cx) (o:Expr) (m:Str) (iF:Pos) (e f:Expr) (f6:Pos):Prop where
 base:attributeBase o m X.env (eval o X.env)=eval o X.env
 Xd:((backTo f6 (starEach [e,f] X.env)).all (λx=>!x.1) && (backToKw f6 (keywordEach [] X.env)).all (λx=>x.1.isSome)
  && decide (([e,f]:List Expr).length+([]:List Keyword).length+(if ([]:List Keyword).isEmpty then 0 else 1)<30))=true
 line:(iF.endLine == f6.line)=true
 trees:backTo f6 (starEach [e,f] X.env)=[(false,eval e X.env),(false,eval f X.env)]
noncomputable def VU (H:Hp)(a:Addr):Prop:=(∃kvs,Rd H a (.dK kvs))\/∃kvs,Rd H a (.dT kvs)
theorem M4 (I:Inv X pins σ H s)(d:VU H a) :
  s.TypeIs (.ref a) "dict" /\ (∀b,af.ref a=.ref b->∃ob,s.heap.get? b=some ob/\ob.dict=none)/\(a == sysModules)=false:=by
 rcases d with⟨kvs,e⟩ | ⟨kvs,e⟩
 .obtain⟨_,hd,vs,_,dd⟩:=vt I.hok e
  refine⟨dd.typeIs,λb q=>?_,hd⟩;cases q;obtain⟨ob,_,_,h1,h2,_⟩:=dd;exact⟨ob,h1,h2.2.1⟩
 .obtain⟨_,hd,xs,_,dd⟩:=vw I.hok e
  refine⟨dd.typeIs,λb q=>?_,hd⟩;cases q;obtain⟨ob,_,_,h1,h2,_⟩:=dd;exact⟨ob,h1,h2.2.1⟩
section
theorem M5 {Q:af->aq->Prop}(hu:A.units+1<cLine)(I:Inv X pins σ H s)(g:i8 H a y o)(ry:RelV y u)(rd:RelV d r)(h:∀w' s',Inv X pins σ H s'->RelV (o.getD d) w'->Q w' s') :
  ay (model X.prog X.w) A (call (.builtin "dict.get") [.ref a,u,r]) Q E s:=by
 rcases g with⟨kvs,k,e,ey,l⟩ | ⟨kvs,k,b,e,ey,eb,l⟩
 .subst ey
  obtain⟨z,hd,vs,rh,dd⟩:=vt I.hok e;refine call_meetsIn PySem.F.slot_dict_get dd.typeIs PySem.F.entry_dict_get (PySem.F.args_dict_get_3 _ _ _) (meets_dict_get_default (eW X.prog X.w) a (vp ry) hd r) ⟨_,dd.mapOf,h _ _ (I.tok _) ?_⟩;rw[l];exact (rh.val k).getD rd
 .subst ey
  cases (show u=af.ref b from ry);obtain⟨z,hd,xs,rh,dd⟩:=vw I.hok e;refine call_meetsIn PySem.F.slot_dict_get dd.typeIs PySem.F.entry_dict_get (PySem.F.args_dict_get_3 _ _ _) (meetsH_dict_get_default (tupleKind (eW X.prog X.w)) a b hd r) ⟨tupleKind_room_in1 hu,k,xs,sr I.hok eb,dd,h _ _ (I.tok _) ?_⟩;rw[l];exact (rh.val k).getD rd
end
def Fw (td ty tx:TE):TE:=λσ H Q=>td σ H λx H1=>∃a,x=.ref a/\VU H1 a/\ty σ H1 λy H2=>tx σ H2 λz H3=>∃o,i8 H3 a y o/\Q (o.getD z) H3
section
theorem Fy (hu:X.A.units+1<cLine)(ho:PE X o td)(he:PE X e ty)(hf:PE X f tx)(m:M2 X o "get" iF e f f6):PE X (.Call (.Attribute o "get" iF) [e,f] [] f6) (Fw td ty tx):=by
 intro pins s σ H Q I h;refine wpAny_Call_method m.base m.Xd m.line PySem.F.plainAttrs_dict PySem.F.slot_dict_get PySem.F.type_dict_get (fy (ho pins s σ H _ I h) λu s1 ⟨x,H1,I1,rx,a,ex,d,q1⟩=>?_);subst ex;obtain rfl:u=af.ref a:=rx;obtain⟨t1,t2,_⟩:=M4 I1 d;refine⟨t1,t2,?_⟩;rw[m.trees]
 refine Calls.callWith_builtin rfl (Calls.evalArgs_plain (Calls.spliced_cons (fy (he pins s1 σ H1 _ I1 q1) λiv s2 ⟨y,H2,I2,ry,q2⟩ =>
  Calls.spliced_cons (fy (hf pins s2 σ H2 _ I2 q2) λfv s3 ⟨z,H3,I3,rz,ov,g,q3⟩=>Calls.spliced_nil ?_))))
 exact M5 hu I3 g ry rz λw' s4 I4 pD=>⟨_,H3,I4,pD,q3⟩
end
end L2
namespace PySem
open Sem (wp)
open AutoSeq1 (wpAny_loadPart')
end PySem
namespace L2
open PySem PySem.Spec PyProof.Rows
section
variable {X:Cx}{o i e f value:Expr}{td ty tv tx to ti te:TE}{pos ij iF f6:Pos}
theorem sy:QE X (.Dict [] [] pos) Ft:=⟨Fu⟩
theorem fY (hu:X.A.units+1<cLine)(ho:QE X o td)(hi:QE X i ty)(hs:Fq i):QE X (.Subscript o i pos) (KR td ty):=⟨I0 hu ho.run hi.run hs⟩
theorem xY (hu:X.A.units+1<cLine)(ho:QE X o td)(he:QE X e ty)(hf:QE X f tx)(m:M2 X o "get" iF e f f6):QE X (.Call (.Attribute o "get" iF) [e,f] [] f6) (Fw td ty tx):=⟨Fy hu ho.run he.run hf.run m⟩
theorem kH (hu:X.A.units+1<cLine)(ho:QE X o td)(hi:QE X i ty)(hv:QE X value tv)(hs:swapsWith value (some (.Subscript o i ij)) pos.line X.env=pure false:=by rfl):QS X (.Assign [.Subscript o i ij] value pos) (KU td ty tv):=⟨I8 hu ho.run hi.run hv.run hs⟩
theorem IntsAre.oI:∀{ns:List Int} {us:List af},dO (ns.map V.int) us->IntsAre us ns
 | [],us,h=>by cases h;exact .nil
 | n::ns,us,h=>by
  cases h with
  | cons r t =>
   obtain⟨tk,rfl⟩:=r;exact .cons n tk (IntsAre.oI t)
theorem dO.wI:∀{ns:List Int} {us:List af},IntsAre us ns->dO (ns.map V.int) us
 | _,_,.nil=>.nil
 | _,_,.cons n t r=>.cons ⟨t,rfl⟩ (dO.wI r)
theorem iH (ns:List Int):∀j,j<=ns.length->preSum (λa=>ns.getD a 0) j=(ns.take j).sum
 | 0,_=>by simp[preSum]
 | j+1,h=>by
  rw[preSum,iH ns j (!1),cw,List.sum_append];have:ns[j]? = some ns[j]:=by simp
  rw[ar,this];simp
theorem oJ (K:W.Frag)(hk:X.K=K:=by rfl):fL X (.builtin "sorted") (λxs H Q=>∃(p:Addr) (ns:List Int),xs=[.ref p]/\gp K H p (ns.map V.int)/\ns.length<64/\∀(l:Addr) (ms:List Int),ms.Perm ns->ms.Pairwise (·<=·)->H l=none->Q (.ref l) (d0 H l (.lst (ms.map V.int)))):=by
 subst hk;intro pins s σ H xs us Q I r h;obtain⟨p,ns,rfl,hp,R5,q⟩:=h;obtain⟨u,rfl,ru⟩:=vals1 r;cases ru;obtain⟨its,rv,ht,hz⟩:=I.list hp;have hl:=rv.length;rw[ai] at hl;refine sorted_ints ht.isList (IntsAre.oI rv) (!1) λout ms h1 h2 h3=>?_;have hm:=h2.length_eq;have hv:dO (ms.map V.int) out.toList:=dO.wI h1;have hsz:(ms.map V.int).length<=au:=by rw[ai,show au=16777216 by decide];omega
 have kp:∀b o,s.heap.get? b=some o->(sortedAll s.heap its out).get? b=some o:=λb o e=>sortedAll_old e;have nw:=sortedAll_at s.heap its out;obtain⟨n,nw⟩:=nw;refine⟨.ref (s.heap.objs.size+1),_,I.laid (t':=s.toks) (o:=.lst (ms.map V.int)) kp (b9 _) ⟨hsz,out.toList,n,hv,by simpa using nw⟩,rfl,q _ ms h2 h3 (I.hok.fresh (b9 _))⟩
end
noncomputable def P9 (o:Obj)(a:Addr)(kvs:List (Key × V)):It :=
 ⟨λi H=>H a=some (.rV o (.dK kvs))/\i<kvs.length,λi H x H'=>H'=H/\∃k v,kvs[i]? = some (k,v)/\x=kV k,λi H=>H a=some (.rV o (.dK kvs))/\kvs.length<=i⟩
theorem Jb (h:(eW P w).is k u=true):RelV (kV k) u:=by
 rcases fi (show rT k u=true from h) with⟨i,t,rfl,rfl⟩ | ⟨x,t,rfl,rfl⟩
 .exact⟨t,rfl⟩
 .exact⟨t,rfl⟩
theorem Fz (I:Inv X pins σ H s)(h:H a=some (.rV o (.dK kvs)))(hd:o.data=.dict es ep) :
  (a == sysModules)=false/\∃vs,KV kvs vs/\s.heap.DictAt (eW X.prog X.w) a vs ep:=by
 obtain⟨e,z,y,vs,r,ob,jk,RU,e',c,d,k,p,n⟩:=I.hok a _ h;rw[e] at e';cases e';rw[hd] at d;cases d;exact⟨y,vs,r,o,es,e,c,hd,k,p,n⟩
theorem P' {kvs:List (Key × V)}{vs:List (Key × af)}(r:KV kvs vs){i:Nat}{k:Key}{v:V}(h:kvs[i]? = some (k,v)):∃u,vs[i]? = some (k,u):=by
 have hk:=r.keys;have hl:=r.length;have hi:i<kvs.length:=(aG.mp h).1;have BH:i<vs.length:=by omega
 have e1:(kvs.map (·.1))[i]? = some k:=by rw[az,h];rfl
 have e2:vs[i]? = some vs[i]:=by simp[BH]
 rw[hk,az,e2] at e1;have e3:vs[i].1=k:=Option.some.inj e1;refine⟨vs[i].2,?_⟩;rw[e2,<- e3]
theorem CZ {P:aV}{w:World}{K:W.Frag}{tg:Expr}(a it:Addr){o:Obj}{kvs:List (Key × V)}{es:Array DictEntry}{ep:Nat}(hd:o.data=.dict es ep):zM P w K tg (P9 o a kvs) [it] it (λi h=>h.IsKeyIter it a i kvs.length ep) where
 mem:=by simp
 obj:=λi h st b hb=>by
  have e:b=it:=by simpa using hb
  subst e;obtain⟨o,e,c,d⟩:=st;exact⟨o,e,λv z=>by rw[d] at z;cases z⟩
 keep:=λi h h' st k=>st.at λo e=>k it (!4) o e
 item:=by
  intro X hP hw hK hc i pins s σ H E I hf st hg;subst hP hw hK;obtain⟨hg,hi⟩:=hg;obtain⟨_,vs,r,da⟩:=Fz I hg hd;have hx:kvs[i]? = some kvs[i]:=by simp[hi]
  obtain⟨u,hu⟩:=P' r (k:=kvs[i].1) (v:=kvs[i].2) hx;obtain⟨f0,f1,f2,f3,f4,f5⟩:=hf it (!4);have hl:=r.length;rw[hl] at st;refine wpAny_pyNext_dict_item st da hu λkey h' Mj zN sb=>?_;have I1:Inv X pins σ H { s with heap:=h' }:=I.turned (t':=s.toks) (λb o hb e=>(sb.2 b hb).trans e) f0 f1 f3 f4 f5;obtain⟨o',e,c,d⟩:=id zN;exact⟨key,rfl,Bt (s:={ s with heap:=h' }) e c d (!2) ⟨kV kvs[i].1,H,I1,Jb Mj,⟨rfl,_,_,hx,rfl⟩,by rw[hl];exact zN,λb hb=>(hf b hb).1⟩⟩
 done:=by
  intro X hP hw hK hc i pins s σ H E I hf st hg;subst hP hw hK;obtain⟨hg,hi⟩:=hg;obtain⟨_,vs,r,da⟩:=Fz I hg hd;obtain⟨f0,f1,f2,f3,f4,f5⟩:=hf it (!4);have hl:=r.length;rw[hl] at st;exact wpAny_pyNext_dict_end (I.ok.hd hc) st da (by simp;omega) λh' eb=>⟨rfl,I.turned (t':=s.toks) (λb o hb e=>eb b o hb e) f0 f1 f3 f4 f5⟩
 self:=λ_ _ _ _ _ st h=>wpAny_pyIter_keyiter st h
section
variable {X:Cx}{tg:Expr}
theorem Inv.freeze {pins:List (Addr × Obj)}{s:aq}{σ:St}{H:Hp}{a:Addr}{kvs:List (Key × V)}(I:Inv X pins σ H s)(h:H a=some (.dK kvs)) :
  ∃o es ep,o.data=.dict es ep/\Inv X pins σ (d0 H a (.rV o (.dK kvs))) s/\(a == sysModules)=false/\∃vs,KV kvs vs/\s.heap.DictAt (eW X.prog X.w) a vs ep:=by
 obtain⟨z,y,vs,r,o,es,ep,e,c,d,k,p,n⟩:=I.hok a _ h;refine⟨o,es,ep,d,?_,y,vs,r,o,es,e,c,d,k,p,n⟩;have:=I.write (x:=a) (e:=a) (h':=s.heap) (t':=s.toks) (o:=.rV o (.dK kvs)) (by rw[h];exact trivial) (.inl rfl) (λb u _ q=>q) ⟨o,e⟩ ⟨e,z,y,vs,r,o,es,ep,e,c,d,k,p,n⟩;exact this
def Qa (tl:TE):TI:=λσ H R=>tl σ H λx H1=>∃a kvs,x=.ref a/\H1 a=some (.dK kvs)/\∀o,R (P9 o a kvs) (d0 H1 a (.rV o (.dK kvs)))
theorem BN {l:Expr}{tl:TE}(hl:QE X l tl):QI X tg l (Qa tl):=by
 refine⟨λpins s σ H R I h=>?_⟩;refine fy (hl.run pins s σ H _ I h) λv s1 ⟨x,H1,I1,r1,q1⟩=>?_;obtain⟨a,kvs,e,ha,q⟩:=q1;subst e;cases r1;obtain⟨o,es,ep,hd,I2,hy,vs,rh,da⟩:=I1.freeze ha;refine wpAny_pyIter_dict hy da ?_;have eF:=rh.length;refine⟨s1.heap.objs.size,[s1.heap.objs.size],_,_,_,rfl,I2.kept (t':=s1.toks) λb o e=>ag _ e,CZ a _ hd,⟨_,aA _ rfl,rfl,by rw[eF];rfl⟩,λb hb=>?_,q o⟩;have e:b=s1.heap.objs.size:=by simpa using hb
 subst e;exact I2.r6 (al _) (I2.hok.fresh (al _))
theorem vx {mp:List (Option Nat)}{g:TG}{tc:TT}{te:TE}{σ:St}{H:Hp}{R:List V->Hp->Prop}{o:Obj}{a:Addr}{kvs:List (Key × V)}(Pv:Nat->List V->St->Hp->Prop)(h0:Pv 0 [] (lU mp σ) H)
  (hl:∀i ys σ' H',Pv i ys σ' H'->H' a=some (.rV o (.dK kvs)))
  (hs:∀i k v ys σ' H',kvs[i]? = some (k,v)->Pv i ys σ' H'->ys.length<au/\g (kV k) σ' H' λσ2 H2=>tc σ2 H2 λb H3=>if b=true then te σ2 H3 λy H4=>Pv (i+1) (ys++[y]) σ2 H4 else Pv (i+1) ys σ2 H3)
  (hd:∀ys σ' H',Pv kvs.length ys σ' H'->ys.length<=au/\R ys H') :
  ∃W:Nat->Nat->List V->St->Hp->Prop,(∃m,W 0 m [] (lU mp σ) H)/\∀i m ys σ' H',W i m ys σ' H' ->
   ((P9 o a kvs).stop i H'/\ys.length<=au/\R ys H') \/
   ((P9 o a kvs).go i H'/\ys.length<au/\∀x Oj,(P9 o a kvs).HA i H' x Oj->g x σ' Oj λσ2 H2=>tc σ2 H2 λb H3 =>
    if b=true then te σ2 H3 λy H4=>∃m',m' < m/\W (i+1) m' (ys++[y]) σ2 H4 else ∃m',m' < m/\W (i+1) m' ys σ2 H3):=by
 refine⟨λi m ys σ H=>m=kvs.length - i/\i<=kvs.length/\Pv i ys σ H,⟨kvs.length,!4,bU _,h0⟩,?_⟩;rintro i m ys σ' H' ⟨rfl,hi,p⟩;have q0:=hl i ys σ' H' p;by_cases og:i<kvs.length
 .have e:∀ys σ H,(∃m',m' < kvs.length - i/\m'=kvs.length - (i+1)/\i+1<=kvs.length/\Pv (i+1) ys σ H)=Pv (i+1) ys σ H:=λys σ H=>propext ⟨λ⟨_,_,_,_,z⟩=>z,λz=>⟨_,!1,rfl,og,z⟩⟩
  have hx:kvs[i]? = some kvs[i]:=by simp[og]
  refine .inr ⟨⟨q0,og⟩,(hs i kvs[i].1 kvs[i].2 ys σ' H' hx p).1,λx Oj y=>?_⟩;obtain⟨e1,k,v,hk,ex⟩:=y;subst e1 ex;simp only[e];exact (hs i k v ys σ' _ hk p).2
 .have e:i=kvs.length:=by omega
  subst e;obtain⟨HG,q⟩:=hd ys σ' H' p;exact .inl ⟨⟨q0,al _⟩,HG,q⟩
end
end L2
namespace PySem
open Sem (wp)
end PySem
namespace L2
open PySem PySem.Spec PyProof.Rows
end L2
namespace PySem
open Sem (wp)
open AutoSeq1 (wpAny_loadPart')
section
theorem Ai {it t:Addr}{i:Nat}{xs:Array af}{x:af}{Q:af->aq->Prop}(hi:s.heap.IsTupleIter it t i)(ht:s.heap.IsTuple t xs)(hx:xs[i]? = some x)
  (q:∀h',h'.IsTupleIter it t (i+1)->Heap.SameBut it s.heap h'->Q x { s with heap:=h' }):ay (model prog w) A (Builtin.SmallTypes.nextOf (.ref it)) Q E s:=by
 obtain⟨ob,e1,c1,d1⟩:=id hi;obtain⟨ot,e2,_,n2,d2⟩:=ht;have nn:¬ ((af.ref t == af.none)=true):=aR;unfold Builtin.SmallTypes.nextOf;refine ae (wpAny_callSpecial?_slot (name:=Str.ofString "__next__") hi.typeIs F.slot_tuple_iterator_next (wpAny_call_entry F.slot_tuple_iterator_next hi.typeIs F.entry_tuple_iterator_next ?_ (F.args_tuple_iterator_next_1 _)));show ay _ _ (field (.ref it) 0 >>= _) _ _ _;refine ae (wpAny_field e1 d1 (x:=.ref t) rfl ?_);show ay _ _ (if (af.ref t == af.none)=true then _ else _) _ _ _;rw[if_neg nn];show ay _ _ (field (.ref it) 1 >>= _) _ _ _;refine ae (wpAny_field e1 d1 (x:=.int i 0) rfl (ae (wpAny_seqItems e2 d2 ?_)));simp only[aX,hx];refine ae (wpAny_setField e1 d1 (!4) (ak ⟨x,rfl,ak (q _ ?_ (Heap.SameBut.update ..))⟩));refine⟨_,be _ e1 (Obj.isFreed_of_fields (Obj.data_mapFields d1 _)),(Obj.cls_mapFields ..).trans c1,?_⟩;rw[Obj.data_mapFields d1];simp[rawInt]
theorem C1 (hh:A.handled=none)(hi:s.heap.IsTupleIter it t i)(ht:s.heap.IsTuple t xs)(hx:xs[i]? = none)
  (q:∀h' e,Heap.ExtBut it s.heap h'->(∃o,h'.get? e=some o/\o.cls=.type "StopIteration")->E (.ref e) { s with heap:=h' }):ay (model prog w) A (Builtin.SmallTypes.nextOf (.ref it)) Q E s:=by
 obtain⟨ob,e1,c1,d1⟩:=id hi;obtain⟨ot,e2,_,n2,d2⟩:=ht;have nn:¬ ((af.ref t == af.none)=true):=aR;unfold Builtin.SmallTypes.nextOf;refine ae (wpAny_callSpecial?_slot (name:=Str.ofString "__next__") hi.typeIs F.slot_tuple_iterator_next (wpAny_call_entry F.slot_tuple_iterator_next hi.typeIs F.entry_tuple_iterator_next ?_ (F.args_tuple_iterator_next_1 _)));show ay _ _ (field (.ref it) 0 >>= _) _ _ _;refine ae (wpAny_field e1 d1 (x:=.ref t) rfl ?_);show ay _ _ (if (af.ref t == af.none)=true then _ else _) _ _ _;rw[if_neg nn];show ay _ _ (field (.ref it) 1 >>= _) _ _ _;refine ae (wpAny_field e1 d1 (x:=.int i 0) rfl (ae (wpAny_seqItems e2 d2 ?_)));simp only[aX,hx];refine ae (wpAny_rule (ae (wpAny_setField e1 d1 (!4) (ae ?_))));simp only[newExc,newTuple];refine ae (aY (ae (m:=firstArgMember _ _) (wpAny_of_eq (a:=af.none) (by first | rfl | (simp only[firstArgMember];rfl)) (aY ?_ (by size_fits)))) (by size_fits));simp only[raiseNew];refine ae (wpAny_handled ?_);first | rw[show A.in1.handled=none from hh] | rw[hh]
 exact ae (ak (wpAny_throw (q _ _ (((Heap.SameBut.update ..).extBut.push _).push _) ⟨_,aA _ rfl,rfl⟩)))
theorem Aj {e it t:Addr}{i:Nat}{xs:Array af}{x old:af}{Q:af->aq->Prop}(he:IsEnum s.heap e it i old)(hi:s.heap.IsTupleIter it t i)(ht:s.heap.IsTuple t xs)(hx:xs[i]? = some x)(gQ:e≠it)
  (q:∀h',IsEnumOut h' e it ((i:Int)+1) x s.heap.objs.size->h'.IsTupleIter it t (i+1)->h'.get? s.heap.objs.size=some { cls:=.type "tuple",data:=.seq #[.int i s.toks,x] } ->
   (∀b o,b≠e->b≠it->s.heap.get? b=some o->h'.get? b=some o)->Q (.ref s.heap.objs.size) { s with heap:=h',toks:=s.toks+1 }) :
  ay (model prog w) A (Builtin.«enumerate.__next__» ⟨[.ref e],[]⟩) (λgG s'=>∃v,gG=.done (.ret v)/\Q v s') E s:=by
 obtain⟨hp,g,d,tk,os⟩:=s;show ay _ _ (field (.ref e) 2 >>= _) _ _ _;refine ae (wpAny_field he rfl (x:=.ref it) rfl (ae (Ai hi ht hx λk1 i1 (b1:Heap.SameBut it hp k1)=>?_)));have e1:IsEnum k1 e it i old:=(b1.2 e gQ).trans he;refine ae (wpAny_field e1 rfl (x:=rawInt i) rfl (ae (wpAny_field e1 rfl (x:=.none) rfl ?_)));show ay _ _ (mkInt i >>= _) _ _ ⟨k1,g,d,tk,os⟩;refine ae (wpAny_mkInt (ae (wpAny_setField_rec (x:=rawInt ((i:Int)+1)) e1 (!4) λk2 e2 b2=>?_)));replace b2:Heap.SameBut e k1 k2:=b2;replace e2:IsEnum k2 e it ((i:Int)+1) old:=e2;refine ae (wpAny_setField_rec (x:=.none) e2 (!4) λk3 e3 b3=>?_);replace b3:Heap.SameBut e k2 k3:=b3;replace e3:IsEnum k3 e it ((i:Int)+1) old:=e3;show ay _ _ (newTuple [.int i tk,x] >>= _) _ _ ⟨k3,g,d,tk+1,os⟩;refine ae (wpAny_newTuple ?_);have sz:k3.objs.size=hp.objs.size:=by rw[b3.1,b2.1,b1.1]
 have el:hp.objs.size≠e:=b4 (ax he);have e4:IsEnum (k3.push { cls:=.type "tuple",data:=.seq #[.int i tk,x] }) e it ((i:Int)+1) old:=ag _ e3;have t4:(k3.push { cls:=.type "tuple",data:=.seq #[.int i tk,x] }).get? hp.objs.size=some { cls:=.type "tuple",data:=.seq #[.int i tk,x] }:=by rw[<- sz];exact aA _ rfl
 have Qb:∀b o,b≠e->b≠it->hp.get? b=some o->(k3.push { cls:=.type "tuple",data:=.seq #[.int i tk,x] }).get? b=some o:=λb o h1 h2 h3=>ag _ (b3.extBut b o h1 (b2.extBut b o h1 (b1.extBut b o h2 h3)))
 have i4:(k3.push { cls:=.type "tuple",data:=.seq #[.int i tk,x] }).IsTupleIter it t (i+1):=by
  obtain⟨o,ho,r⟩:=i1;exact⟨o,ag _ (b3.extBut it o (Ne.symm gQ) (b2.extBut it o (Ne.symm gQ) ho)),r⟩
 rw[sz];generalize k3.push { cls:=.type "tuple",data:=.seq #[.int i tk,x] }=k4 at e4 t4 Qb i4 ⊢;show ay _ _ (Builtin.SmallTypes.ownedTupleIsFree (.ref e) >>= _) _ _ ⟨k4,g,d,tk+1,os⟩;refine ae ?_;unfold Builtin.SmallTypes.ownedTupleIsFree;refine ae (wpAny_field e4 rfl (x:=.none) rfl (ak ?_));simp only[if_true];refine ae (wpAny_rule (ae (wpAny_field e4 rfl (x:=old) rfl (ae (wpAny_setField_rec (x:=x) e4 (!4) λk5 e5 b5=>?_)))));replace b5:Heap.SameBut e k4 k5:=b5;replace e5:IsEnum k5 e it ((i:Int)+1) x:=e5;show ay _ _ (Builtin.SmallTypes.ownedTupleHandOut (.ref e) (.ref hp.objs.size) >>= _) _ _ ⟨k5,g,d,tk+1,os⟩;refine ae ?_;unfold Builtin.SmallTypes.ownedTupleHandOut;refine ae (wpAny_setField_rec (x:=rawInt (hp.objs.size:Nat)) e5 (!4) λk6 e6 b6=>?_);replace b6:Heap.SameBut e k5 k6:=b6;replace e6:IsEnumOut k6 e it ((i:Int)+1) x hp.objs.size:=e6;refine wpAny_setField_rec e6 (!4) λk7 e7 b7=>?_;replace b7:Heap.SameBut e k6 k7:=b7;have M6:∀b o,b≠e->k4.get? b=some o->k7.get? b=some o:=λb o h1 h2=>b7.extBut b o h1 (b6.extBut b o h1 (b5.extBut b o h1 h2));refine ae (wpAny_letGo (ak ⟨_,rfl,q k7 e7 ?_ (M6 _ _ el t4) λb o h1 h2 h3=>M6 b o h1 (Qb b o h1 h2 h3)⟩));obtain⟨o,ho,r⟩:=i4;exact⟨o,M6 it o (Ne.symm gQ) ho,r⟩
theorem wJ {e it t:Addr}{i:Nat}{xs:Array af}{x old:af}{Q:Option af->aq->Prop}(he:IsEnum s.heap e it i old)(hi:s.heap.IsTupleIter it t i)(ht:s.heap.IsTuple t xs)(hx:xs[i]? = some x)(gQ:e≠it)
  (q:∀h',IsEnumOut h' e it ((i:Int)+1) x s.heap.objs.size->h'.IsTupleIter it t (i+1)->h'.get? s.heap.objs.size=some { cls:=.type "tuple",data:=.seq #[.int i s.toks,x] } ->
   (∀b o,b≠e->b≠it->s.heap.get? b=some o->h'.get? b=some o)->Q (some (.ref s.heap.objs.size)) { s with heap:=h',toks:=s.toks+1 }) :
  ay (model prog w) A (pyNext (.ref e)) Q E s:=by
 have ty:s.TypeIs (.ref e) "enumerate" := ⟨_,he,rfl⟩;unfold pyNext;refine ae (wpAny_attempt (wpAny_callSpecial?_slot (name:=Str.ofString "__next__") ty F.slot_enumerate_next (wpAny_call_entry F.slot_enumerate_next ty F.entry_enumerate_next ?_ (F.args_enumerate_next_1 _))));exact Aj he hi ht hx gQ λh' a b c k=>ak (q h' a b c k)
theorem pP {e it t:Addr}{i:Nat}{xs:Array af}{old:af}{Q:Option af->aq->Prop}(hh:A.handled=none)(he:IsEnum s.heap e it i old)(hi:s.heap.IsTupleIter it t i)(ht:s.heap.IsTuple t xs)(hx:xs[i]? = none)
  (q:∀h',Heap.ExtBut it s.heap h'->Q none { s with heap:=h' }):ay (model prog w) A (pyNext (.ref e)) Q E s:=by
 have ty:s.TypeIs (.ref e) "enumerate" := ⟨_,he,rfl⟩;unfold pyNext;refine ae (wpAny_attempt (wpAny_callSpecial?_slot (name:=Str.ofString "__next__") ty F.slot_enumerate_next (wpAny_call_entry F.slot_enumerate_next ty F.entry_enumerate_next ?_ (F.args_enumerate_next_1 _))));show ay _ _ (field (.ref e) 2 >>= _) _ _ _;refine ae (wpAny_field he rfl (x:=.ref it) rfl (ae (C1 hh hi ht hx λh' x ex ⟨o,ho,hc⟩=>?_)));exact ae (wpAny_isInstance (T := "StopIteration") (b:=true) ⟨o,ho,hc⟩ isSubtype_stop (ak (q _ ex)))
theorem C2 (l:Addr)(items:Array af)(n:Nat)(PQ:Option Addr)(sl:Array (Option af)) :
  Meets (Builtin.«enumerate.__new__» ⟨[.type "enumerate",.ref l],[]⟩) (λ_ R s=>s.heap.get? l=some { cls:=.type "tuple",dict:=PQ,data:=.seq items n,slots:=sl } /\
   R (.ok (.ret (.ref (s.heap.push { cls:=.type "tuple_iterator",data:=.fields #[.ref l,.int 0 0] }).objs.size)))
    { s with heap:=(s.heap.push { cls:=.type "tuple_iterator",data:=.fields #[.ref l,.int 0 0] }).push { cls:=.type "enumerate",data:=.fields #[.none,.bool false,.ref s.heap.objs.size,rawInt 0,.none,.none] } }) :=
 .of_wp λprog w A R s h=>by
  obtain⟨hp,g,d,tk,os⟩:=s;obtain⟨hl,h⟩:=h;have jG:=sub_enumerate;have Jc:Heap.IsTuple (aq.heap ⟨hp,g,d,tk,os⟩) l items:=⟨_,hl,rfl,n,rfl⟩
  wp_walk using wpAny_loadPart' hl
  refine wpAny_stack_any λ_=>ak ?_;split
  .rename_i c _ _ _ _ _
   cases (c == af.type "enumerate")<;>(wp_walk using wpAny_loadPart' hl,wpAny_pyIter_tuple Jc;exact⟨_,rfl,h⟩)
  .wp_walk using wpAny_loadPart' hl,wpAny_pyIter_tuple Jc
   exact⟨_,rfl,h⟩
theorem Ak (ht:s.heap.IsTuple l items)
  (q:∀h',IsEnum h' (s.heap.objs.size+1) s.heap.objs.size 0 .none->h'.IsTupleIter s.heap.objs.size l 0->h'.objs.size=s.heap.objs.size+2->(∀b o,s.heap.get? b=some o->h'.get? b=some o)->Q (.ref (s.heap.objs.size+1)) { s with heap:=h' }) :
  ay (model prog w) A (call (.type "enumerate") [.ref l]) Q E s:=by
 obtain⟨⟨c,PQ,dt,sl⟩,hl,hc,n,hd⟩:=ht;replace hc:c=.type "tuple" := hc;replace hd:dt=.seq items n:=hd;subst hc hd;refine callType_new F.called_enumerate (!2) (F.typeCall_enumerate_1 _) (F.newCall_enumerate_1 _) (λobj=>F.args_object_init_2 obj _) F.entry_enumerate_new (C2 l items n PQ sl) ⟨hl,?_⟩;have z1:(s.heap.push { cls:=.type "tuple_iterator",data:=.fields #[.ref l,.int 0 0] }).objs.size=s.heap.objs.size+1:=bE ..;have g1:=aA (s.heap.push { cls:=.type "tuple_iterator",data:=.fields #[.ref l,.int 0 0] }) (o:={ cls:=.type "enumerate",data:=.fields #[.none,.bool false,.ref s.heap.objs.size,rawInt 0,.none,.none] }) rfl;rw[z1] at g1;show _/\_;rw[z1];exact⟨⟨_,g1,rfl⟩,q _ g1 ⟨_,ag _ (aA _ rfl),rfl,rfl⟩ (by rw[bE,z1]) λb o x=>ag _ (ag _ x)⟩
end
end PySem
namespace L2
open PySem PySem.Spec PyProof.Rows
noncomputable def Qc (K:W.Frag)(a:Addr):It :=
 ⟨λi H=>∃xs x,iz K H a xs/\xs[i]? = some x,λi H x H'=>∃T xi,x=.ref T/\H T=none/\H'=d0 H T (.tup [.int (i:Nat),xi])/\∀xs,iz K H a xs->xs[i]? = some xi,λi H=>∃xs,iz K H a xs/\xs.length<=i⟩
theorem Al {P:aV}{w:World}{K:W.Frag}{xZ:List Expr}{k:Nat}{pos:Pos}(a e it:Addr)(gQ:e≠it):zM P w K (.Tuple xZ k pos) (Qc K a) [e,it] e (λi h=>(∃old,IsEnum h e it (i:Nat) old)/\h.IsTupleIter it a i) where
 mem:=by simp
 obj:=λi h st b hb=>by
  obtain⟨⟨old,he⟩,o,ho,hc,hd⟩:=st;rcases ap.mp hb with z | z
  .subst z
   exact⟨_,he,λv z=>by cases z⟩
  .have z':b=it:=by simpa using z
   subst z';exact⟨o,ho,λv z=>by rw[hd] at z;cases z⟩
 keep:=λi h h' st kp=>by
  obtain⟨⟨old,he⟩,hi⟩:=st;exact⟨⟨old,kp e (!4) _ he⟩,hi.at λo q=>kp it (!4) o q⟩
 item:=by
  intro X hP hw hK hc i pins s σ H E I hf st hg;subst hP hw hK;obtain⟨⟨old,he⟩,hi⟩:=st;obtain⟨xs,x,hq,hx⟩:=hg;obtain⟨its,rv,p,hz⟩:=I.tuple hq;obtain⟨u,hu,ru⟩:=rv.get hx;refine wJ he hi (show s.heap.IsTuple a its.toArray from p) (x:=u) (by simpa using hu) gQ λh1 eo i1 t1 kp=>⟨_,rfl,wpAny_letOwnedTupleGo_enum eo λh2 en sb=>?_⟩;have pE:e<s.heap.objs.size:=ax he;have Tr:it<s.heap.objs.size:=by obtain⟨_,q,_⟩:=hi;exact ax q
  have Qd:∀b o,b≠e->b≠it->s.heap.get? b=some o->h2.get? b=some o:=λb o n1 n2 q=>(sb.2 b n1).trans (kp b o n1 n2 q);have i2:h2.IsTupleIter it a (i+1):=i1.at λo q=>(sb.2 it (Ne.symm gQ)).trans q;have t2:h2.get? s.heap.objs.size=some { cls:=.type "tuple",data:=.seq #[.int i s.toks,u] }:=(sb.2 _ (b4 pE)).trans t1;obtain⟨f0,f1,f2,f3,f4,f5⟩:=hf it (!4);obtain⟨g0,g1,g2,g3,g4,g5⟩:=hf e (!4);obtain⟨oi,Ts,Xe,Tt⟩:=id i2;obtain⟨o0,Tu,_⟩:=id hi;have m1:(s.heap.update it λ_=>oi).get? it=some oi:=be (λ_=>oi) Tu (Obj.isFreed_of_fields Tt);have I1:Inv X pins σ H { s with heap:=s.heap.update it λ_=>oi,toks:=s.toks+1 }:=I.turned (λb o hb q=>(aI _ _ (Ne.symm hb)).trans q) f0 f1 f3 f4 f5
  have Tv:∀b o,b≠e->(s.heap.update it λ_=>oi).get? b=some o->h2.get? b=some o:=λb o hb q=>by
   by_cases KZ:b=it
   .subst KZ
    rw[m1] at q;cases q;exact Ts
   .exact Qd b o hb KZ ((aI _ _ (Ne.symm KZ)).symm.trans q)
  have I2:Inv X pins σ H { s with heap:=h2,toks:=s.toks+1 }:=Inv.turned (s:={ s with heap:=s.heap.update it λ_=>oi,toks:=s.toks+1 }) (h':=h2) (t':=s.toks+1) I1 Tv g0 g1 g3 g4 g5;obtain⟨p0,p1,p2,p3,p4,p5⟩:=I.r6 (al s.heap.objs.size) (I.hok.fresh (al _))
  have I3:Inv X pins σ (d0 H s.heap.objs.size (.tup [.int (i:Nat),x])) { s with heap:=h2,toks:=s.toks+1 } :=
   I2.BF (o:=.tup [.int (i:Nat),x]) t2 p0 p1 p3 p4 p5 ⟨by show 2<=au;decide,[.int i s.toks,u],.cons ⟨_,rfl⟩ (.cons ru .nil),⟨_,t2,rfl,_,rfl,rfl⟩⟩
  refine⟨.ref s.heap.objs.size,_,I3,rfl,⟨_,x,rfl,p0,rfl,λys hy=>by rw[I.u4 hy hq];exact hx⟩,⟨⟨u,by simpa using en⟩,i2⟩,λb hb=>?_⟩
  have Qe:b≠s.heap.objs.size:=by
   rcases ap.mp hb with z | z
   .rw[z];exact aQ pE
   .have z':b=it:=by simpa using z
    rw[z'];exact aQ Tr
  rw[du Qe];exact (hf b hb).1
 done:=by
  intro X hP hw hK hc i pins s σ H E I hf st hg;subst hP hw hK;obtain⟨⟨old,he⟩,hi⟩:=st;obtain⟨xs,hq,hx⟩:=hg;obtain⟨its,rv,p,hz⟩:=I.tuple hq;obtain⟨f0,f1,f2,f3,f4,f5⟩:=hf it (!4);have hl:=rv.length;exact pP (I.ok.hd hc) he hi (show s.heap.IsTuple a its.toArray from p) (by simp;omega) λh' eb=>⟨rfl,I.turned (t':=s.toks) (λb o hb q=>eb b o hb q) f0 f1 f3 f4 f5⟩
 self:=λ_ _ _ _ _ st h=>by
  obtain⟨⟨old,he⟩,_⟩:=st;exact wpAny_pyIter_enum he h
end L2
namespace PySem
namespace SetTable
theorem sA (xs:Array Nat)(j:Nat):∀(f lo hi:Nat),hi - lo<=f->lo<=hi->hi<=xs.size->xs.toList.Pairwise (· < ·)->(∀(k:Nat) (v:Nat),k<lo->xs[k]? = some v->v<j) ->
  (∀(k:Nat) (v:Nat),hi<=k->xs[k]? = some v->j<=v)->below.go xs j f lo hi<=xs.size/\(∀(k:Nat) (v:Nat),k<below.go xs j f lo hi->xs[k]? = some v->v<j)/\(∀(k:Nat) (v:Nat),below.go xs j f lo hi<=k->xs[k]? = some v->j<=v)
 | 0,lo,hi,hf,h1,h2,_,hl,hh=>by
  unfold below.go;have e:lo=hi:=by omega
  subst e;exact⟨h2,hl,hh⟩
 | f+1,lo,hi,hf,h1,h2,hs,hl,hh=>by
  unfold below.go;by_cases c:lo<hi
  .rw[if_pos c]
   dsimp only;have hm:(lo+hi) / 2<xs.size:=by omega
   have eg:xs.getD ((lo+hi) / 2) j=xs[(lo+hi) / 2]:=by simp[Array.getD,hm]
   rw[eg]
   have hr:∀(a b:Nat) (va vb:Nat),a<b->xs[a]? = some va->xs[b]? = some vb->va<vb:=by
    intro a b va vb x8 ea eb
    have la:a<xs.toList.length:=by
     rcases cp a xs.toList.length with q | q
     .exact q
     .rw[bq] at q;rw[cf q] at ea;cases ea
    have lb:b<xs.toList.length:=by
     rcases cp b xs.toList.length with q | q
     .exact q
     .rw[bq] at q;rw[cf q] at eb;cases eb
    have:=cq.mp hs a b la lb x8;rw[<- bp,aL la] at ea;rw[<- bp,aL lb] at eb;cases ea;cases eb;exact this
   have em:xs[(lo+hi) / 2]? = some xs[(lo+hi) / 2]:=by simp[hm]
   by_cases d:xs[(lo+hi) / 2] < j
   .rw[if_pos d]
    refine sA xs j f _ hi (!1) (!1) h2 hs (λk v hk e=>?_) hh;by_cases q:k=(lo+hi) / 2
    .subst q;rw[em] at e;cases e;exact d
    .exact cT (hr k _ v _ (!1) e em) d
   .rw[if_neg d]
    refine sA xs j f lo _ (!1) (!1) (!1) hs hl λk v hk e=>?_;by_cases q:k=(lo+hi) / 2
    .subst q;rw[em] at e;cases e;omega
    .have:=hr _ k _ v (!1) em e
     omega
  .rw[if_neg c]
   have e:lo=hi:=by omega
   subst e;exact⟨h2,hl,hh⟩
theorem ny (j:Nat)(hs:xs.toList.Pairwise (· < ·)):below xs j<=xs.size/\(∀(k:Nat) (v:Nat),k<below xs j->xs[k]? = some v->v<j)/\(∀(k:Nat) (v:Nat),below xs j<=k->xs[k]? = some v->j<=v) :=
 sA xs j xs.size 0 xs.size (!1) (!1) (al _) hs (λk v h=>absurd h (!1)) (λk v h e=>by rw[cf h] at e;cases e)
theorem Am (hs:xs.toList.Pairwise (· < ·)):below xs 0=0:=by
 obtain⟨a,b,c⟩:=ny 0 hs;rcases Nat.eq_zero_or_pos (below xs 0) with h | h
 .exact h
 .have:0<xs.size:=by omega
  exact absurd (b 0 xs[0] h (by simp[this])) (!1)
theorem An (hs:xs.toList.Pairwise (· < ·))(e:xs[i]? = some j):below xs (j+1)=i+1:=by
 obtain⟨a,b,c⟩:=ny (j+1) hs
 have hi:i<xs.size:=by
  rcases cp i xs.size with q | q
  .exact q
  .rw[cf q] at e;cases e
 have h1:i<below xs (j+1):=by
  rcases cp i (below xs (j+1)) with q | q
  .exact q
  .exact absurd (c i j q e) (!1)
 rcases cp (i+1) (below xs (j+1)) with q | q
 .exfalso
  have l2:i+1<xs.size:=by omega
  have e2:xs[i+1]? = some xs[i+1]:=by simp[l2]
  have:=b (i+1) _ q e2;have la:i<xs.toList.length:=by simpa using hi
  have lb:i+1<xs.toList.length:=by simpa using l2
  have hr:=cq.mp hs i (i+1) la lb (!1);rw[<- bp,aL la] at e;cases e;have:xs.toList[i+1]=xs[i+1]:=by simp
  omega
 .omega
theorem uI (hs:xs.toList.Pairwise (· < ·))(hn:xs[below xs j]? ≠ some j):(insertAt xs (below xs j) j).toList.Pairwise (· < ·):=by
 obtain⟨a,b,c⟩:=ny j hs;rw[toList_insertAt]
 have ht:∀v∈xs.toList.take (below xs j),v<j:=by
  intro v hv;obtain⟨k,hk,e⟩:=bT hv;rw[bH] at hk;rw[List.getElem_take] at e;exact b k v (!1) (by rw[<- bp,aL (!1)];rw[e])
 have hd:∀v∈xs.toList.drop (below xs j),j<v:=by
  intro v hv;obtain⟨k,hk,e⟩:=bT hv;rw[cM] at hk;rw[List.getElem_drop] at e;have e':xs[below xs j+k]? = some v:=by rw[<- bp,aL (!1)];rw[e]
  have h1:=c (below xs j+k) v (!1) e';rcases Nat.lt_or_eq_of_le h1 with q | q
  .exact q
  .subst q
   exfalso;rcases Nat.eq_zero_or_pos k with z | z
   .subst z;exact hn e'
   .have l0:below xs j<xs.toList.length:=by omega
    have:=cq.mp hs (below xs j) (below xs j+k) l0 (!1) (!1);rw[e] at this;have h2:=c (below xs j) _ (al _) (by rw[<- bp,aL l0]);omega
 rw[List.pairwise_append];refine⟨hs.sublist (List.take_sublist _ _),bX.mpr ⟨hd,hs.sublist (List.drop_sublist _ _)⟩,λx hx y hy=>?_⟩;rcases ap.mp hy with rfl | hy
 .exact ht x hx
 .exact cT (ht x hx) (hd y hy)
theorem nz (t:SetTable)(f:Nat->Int)(h:Int):∀(n:Nat) (p:Probe) (j:Nat) (d:Option Nat),(∀k,p.dummy=some k->t.place[below t.place k]? ≠ some k) ->
  probe.go t f h n p=some (.empty j d)->t.place[below t.place (d.getD j)]? ≠ some (d.getD j)
 | 0,p,j,d,_,e=>by unfold probe.go at e;cases e
 | n+1,p,j,d,hp,e=>by
  unfold probe.go at e;have VW:∀p:Probe,(t.advance p).dummy=p.dummy:=λp=>by unfold advance;split<;>rfl
  have nl:∀k,(∀i,t.slot k≠.live i)->t.place[below t.place k]? ≠ some k:=λk q z=>q (below t.place k) (by unfold slot;dsimp only;rw[z];simp)
  cases hs:t.slot p.j with
  | empty =>
   rw[hs] at e;cases e
   cases hd:p.dummy with
   | none=>exact nl p.j λi z=>by rw[hs] at z;cases z
   | some k=>exact hp k hd
  | dummy =>
   rw[hs] at e;refine nz t f h n _ j d (λk hk=>?_) e;rw[VW] at hk;cases hk;exact nl _ λi z=>by rw[hs] at z;cases z
  | live i =>
   rw[hs] at e;dsimp only at e;split at e
   .cases e
   .exact nz t f h n _ j d (λk hk=>hp k (by rw[VW] at hk;exact hk)) e
noncomputable def Good (b:Bool)(t:SetTable):Prop:=t.led=b/\(t.plain=true->t.place.toList.Pairwise (· < ·))
theorem Good.BO (g:Good b t)(n:Nat):Good b (t.standIn n):=⟨g.1,λz=>by cases z⟩
theorem Good.or (g:Good b t)(n:Nat):Good b (t.orStandIn n):=by
 unfold orStandIn;split
 .exact g
 .exact g.BO n
theorem Good.off (g:Good b t):Good b { t with plain:=false }:=⟨g.1,λz=>by cases z⟩
end SetTable
open SetTable in
theorem x9 {b:Bool}{t:SetTable}(g:Good b t)(es:Array (Int × af))(h:Int)(x:af):Good b (layNew t es h x).2.1:=by
 unfold layNew
 cases e:t.freeSlot h with
 | none=>exact g.BO _
 | some q =>
  obtain⟨slot,Tw⟩:=q;dsimp only;refine Good.or (t:=(t.put slot).1) ⟨g.1,λz=>?_⟩ _;have hs:=g.2 z;refine uI hs ?_;unfold freeSlot at e;unfold probe at e;split at e
  .rename_i j d hp
   cases e;exact nz t _ h _ _ j d (λk hk=>by cases hk) hp
  .cases e
open SetTable in
theorem uJ {b:Bool}{t:SetTable}(g:Good b t)(es:Array (Int × af))(n:Nat):Good b (relayAll t es n).2.1:=by
 unfold relayAll
 cases e:t.relaid (es.map (·.1)) n with
 | none=>exact g.BO _
 | some q =>
  obtain⟨t',o⟩:=q;dsimp only;split
  .unfold relaid laid at e
   cases hl:layClean (sizeAbove n - 1) (es.map (·.1)) with
   | none=>rw[hl] at e;cases e
   | some ow =>
    rw[hl] at e;simp only[Option.bind_eq_bind,bV,Option.pure_def,Option.some.injEq,Prod.mk.injEq] at e;obtain⟨rfl,_⟩:=e;refine⟨g.1,λ_=>?_⟩;simp only[cy];refine List.Pairwise.filterMap (R:=(· < ·)) _ (λa a' h c hc c' CD=>?_) cU
    cases h1:ow.getD a none with
    | none=>rw[h1] at hc;cases hc
    | some u =>
     rw[h1] at hc
     cases h2:ow.getD a' none with
     | none=>rw[h2] at CD;cases CD
     | some u'=>rw[h2] at CD;cases hc;cases CD;exact h
  .exact g.BO _
theorem qH {α:Type}{l:List α}{i:Nat}(h:i<l.length):([l[i]]++l.eraseIdx i).Perm l:=by
 rw[List.eraseIdx_eq_take_drop_succ];have e:l=l.take i++l[i]::l.drop (i+1):=by simp
 conv=>rhs;rw[e]
 rw[List.singleton_append];exact List.perm_middle.symm
theorem jJ {α:Type}(next:Nat->Nat):∀(f k:Nat) (l:List α) (out:Array α),f=l.length->(pickOrder.go next f k l out).toList.Perm (out.toList++l)
 | 0,k,l,out,e=>by
  have:l=[]:=List.length_eq_zero_iff.mp e.symm;subst this;unfold pickOrder.go;simp
 | f+1,k,l,out,e=>by
  unfold pickOrder.go;have hl:next k % l.length<l.length:=Nat.mod_lt _ (!1)
  rw[aL hl];dsimp only;refine (jJ next f (k+1) _ _ (by rw[List.length_eraseIdx_of_lt hl];omega)).trans ?_;rw[Array.toList_push,bL];refine List.Perm.append_left _ ?_;exact qH hl
theorem sC {α:Type}(next:Nat->Nat)(xs:Array α):(pickOrder next xs).toList.Perm xs.toList:=by
 unfold pickOrder;have:=jJ next xs.size 0 xs.toList #[] (!4)
 simpa using this
end PySem
namespace PySem
open Sem (wp)
open PyProof.Rows
noncomputable def kg (w:World):Bool:=w.params.followText "set-order"
noncomputable def C3 (e:Int × af):Option Int:=match e.2 with | .int k _=>some k | _=>none
noncomputable def wK (es:List (Int × af)):Prop:=∀e∈es,∃k t,e=(hashInt k,af.int k t)
def gS (w:World)(a:Addr)(ns:List Int)(h:Heap):Prop :=
 ∃o es ep t,h.get? a=some o/\o.ExactSet/\o.data=.set es ep t/\wK es.toList/\(es.toList.filterMap C3).Perm ns/\es.size<scanBound/\t.fits es.size=true/\SetTable.Good (!kg w) t
section
variable {prog:aV}{w:World}{A:Around}{E:af->aq->Prop}{s:aq}
theorem wK.elems (h:wK es):ElemsOf (intKind prog w) es:=λe he=>by
 obtain⟨k,t,rfl⟩:=h e he;exact⟨⟨k,intKind_is _ _ _ _,rfl⟩,rfl⟩
theorem wK.perm (h:wK l)(p:l'.Perm l):wK l':=λe he=>h e (p.mem_iff.mp he)
theorem wK.len:wK l->(l.filterMap C3).length=l.length:=by
 induction l with
 | nil=>intro _;rfl
 | cons e l ih =>
  intro h;obtain⟨k,t,rfl⟩:=h e (!4);have:=ih λe he=>h e (by simp[he]);simp[C3] at this ⊢;exact this
theorem wK.has (h:wK l):k∈l.filterMap C3↔∃e∈l,(intKind prog w).is k e.2=true:=by
 rw[cH];constructor
 .rintro⟨e,he,q⟩
  obtain⟨j,t,rfl⟩:=h e he;cases q;exact⟨_,he,intKind_is _ _ _ _⟩
 .rintro⟨e,he,q⟩
  obtain⟨j,t,rfl⟩:=h e he;have:k=j:=(intKind prog w).inj _ _ _ q (intKind_is _ _ j t);subst this;exact⟨_,he,rfl⟩
theorem gS.keep (x:gS w a ns h)(k:∀o,h.get? a=some o->h'.get? a=some o):gS w a ns h':=by
 obtain⟨o,es,ep,t,e,r⟩:=x;exact⟨o,es,ep,t,k o e,r⟩
theorem gS.type (x:gS w a ns s.heap):s.TypeIs (.ref a) "set" := by
 obtain⟨o,es,ep,t,e,c,_⟩:=x;exact⟨o,e,c.1⟩
theorem gS.put {h:Heap}{a:Addr}{o:Obj}{es jk:Array (Int × af)}{ep:Nat}{t t':SetTable}{ns:List Int}(ho:h.get? a=some o)(x:o.ExactSet)(hd:o.data=.set es ep t)(h1:wK jk.toList)
  (h2:(jk.toList.filterMap C3).Perm ns) (h3:jk.size<scanBound) (h4:t'.fits jk.size=true) (h5:SetTable.Good (!kg w) t') :
  (h.update a (Obj.putSet jk t')).get? a=some { o with data:=.set jk (ep+1) t' }/\gS w a ns (h.update a (Obj.putSet jk t')):=by
 have g:=be (Obj.putSet jk t') ho (by rw[putSet_of jk t' hd];rfl);rw[putSet_of jk t' hd] at g;exact⟨g,_,jk,ep+1,t',g,x,rfl,h1,h2,h3,h4,h5⟩
theorem vy {g:Bool->Sem Unit}(hg:∀(b:Bool) (z:aq) (R:Unit->aq->Prop),R () z->ay (model prog w) A (g b) R E z){a:Addr}{o:Obj}{es:Array (Int × af)}{ep:Nat}{t:SetTable}(ho:s.heap.get? a=some o)
  (x:o.ExactSet) (hd:o.data=.set es ep t) {jk:Array (Int × af)} {t':SetTable} {ns:List Int} (h1:wK jk.toList) (h2:(jk.toList.filterMap C3).Perm ns) (h3:jk.size<scanBound) (h4:t'.fits jk.size=true) (h5:SetTable.Good (!kg w) t')
  {Tw:Bool} {R:Option Bool->aq->Prop} (h:∀h',Heap.SameBut a s.heap h'->gS w a ns h'->R (some true) { s with heap:=h' }) :
  ay (model prog w) A (storeSet a jk t' >>= λ_=>if (!Tw && t'.tooFull)=true then (g (relayAll t' jk (SetTable.grown jk.size)).2.2 >>= λ_=>storeSet a (relayAll t' jk (SetTable.grown jk.size)).1 (relayAll t' jk (SetTable.grown jk.size)).2.1 >>= λ_=>pure (some true)) else pure (some true)) R E s:=by
 refine ae (wpAny_storeSet_of ho hd ?_ (fits_of_scanBound h3));obtain⟨p1,p2⟩:=gS.put (w:=w) ho x hd h1 h2 h3 h4 h5;have b1:=Heap.SameBut.update s.heap a (Obj.putSet jk t');split
 .have q1:=relayAll_perm t' jk (SetTable.grown jk.size)
  have q2:=relayAll_fits t' jk (SetTable.grown jk.size);have q3:=uJ h5 jk (SetTable.grown jk.size);generalize relayAll t' jk (SetTable.grown jk.size)=z at q1 q2 q3 ⊢;obtain⟨ez,tz,bz⟩:=z;dsimp only at q1 q2 q3 ⊢;have q4:ez.size=jk.size:=by have:=q1.length_eq;simpa using this
  refine ae (hg _ _ _ ?_);refine ae (wpAny_storeSet_of p1 rfl ?_ (fits_of_scanBound (by rw[q4];exact h3)));obtain⟨_,p4⟩:=gS.put (w:=w) p1 x rfl (h1.perm q1) ((q1.filterMap C3).trans h2) (by rw[q4];exact h3) q2 q3;exact ak (h _ (b1.trans (Heap.SameBut.update _ a _)) p4)
 .exact ak (h _ b1 p2)
noncomputable def uK (ns:List Int)(k:Int):List Int:=if k∈ns then ns else ns++[k]
theorem FA {a:Addr}{ns:List Int}{k:Int}{tk:Tok}{Q:Bool->aq->Prop}(hS:gS w a ns s.heap)(hr:ns.length+1<scanBound)
  (h:∀r h',Heap.SameBut a s.heap h'->gS w a (uK ns k) h'->Q r { s with heap:=h' }):ay (model prog w) A (setAddHashed a (.int k tk) (hashInt k)) Q E s:=by
 obtain⟨o,es,ep,t,ho,x,hd,h1,h2,h3,h4,h5⟩:=hS;have e1:ElemsOf (intKind prog w) es.toList:=h1.elems;have Xf:(intKind prog w).is k (.int k tk)=true:=intKind_is _ _ _ _;unfold setAddHashed setAddHashedIn;refine wpAny_holding (ae (wpAny_setState_of ho hd h4 ?_));dsimp only;rw[byScan_of (knd:=intKind prog w) (x:=.int k tk) rfl h3 e1];simp only[↓reduceIte];unfold setAddByScan;refine ae (ae (wpAny_rule (ae (wpAny_setScan_of (knd:=intKind prog w) Xf ho hd h4 e1 ?_))))
 have eF:es.size=ns.length:=by
  have a1:=h2.length_eq;rw[h1.len,bq] at a1;exact a1
 cases hf:List.findIdx? (λe=>(intKind prog w).is k e.2) es.toList with
 | some j =>
  dsimp only;obtain⟨hj,Xg,_⟩:=List.findIdx?_eq_some_iff_getElem.mp hf;have hk:k∈ns:=h2.mem_iff.mp (h1.has.mpr ⟨_,cc hj,Xg⟩);refine ak (ak ?_);have:=h false s.heap (Heap.SameBut.refl a s.heap) (by unfold uK;rw[if_pos hk];exact⟨o,es,ep,t,ho,x,hd,h1,h2,h3,h4,h5⟩);exact this
 | none =>
  dsimp only
  have hk:¬ k∈ns:=λz=>by
   obtain⟨e,he,q⟩:=(h1.has (prog:=prog) (w:=w)).mp (h2.mem_iff.mpr z);have:=List.findIdx?_eq_none_iff.mp hf e he;rw[q] at this;cases this
  have q1:=layNew_perm t es (hashInt k) (.int k tk);have q2:=layNew_fits t es (hashInt k) (.int k tk);have q3:=x9 h5 es (hashInt k) (.int k tk)
  have Tx:∀(b:Bool) (z:aq) (R:Unit->aq->Prop),R () z->ay (model prog w) A (match b with | true=>rule "set.scan.the-table-gave-way" | false=>pure ()) R E z :=
   λb z R hq=>by cases b<;>first | exact ak hq | exact wpAny_rule hq
  show ay _ _ ((match (layNew t es (hashInt k) (.int k tk)).2.2.2 with | true=>rule "set.scan.the-table-gave-way" | false=>pure ()) >>= _) _ _ _;generalize hz:layNew t es (hashInt k) (.int k tk)=z at q1 q2 q3 ⊢;obtain⟨ez,tz,Tw,Xh⟩:=z;dsimp only at q1 q2 q3 ⊢;have p0:ez.toList.Perm (es.toList++[(hashInt k,af.int k tk)]):=by rw[Array.toList_push] at q1;exact q1
  have p1:wK ez.toList:=wK.perm (λe he=>by
   rcases bc.mp he with he | he
   .exact h1 e he
   .have:e=(hashInt k,af.int k tk):=by simpa using he
    exact⟨k,tk,this⟩) p0
  have p2:(ez.toList.filterMap C3).Perm (uK ns k):=by
   refine (p0.filterMap C3).trans ?_;unfold uK;rw[if_neg hk,List.filterMap_append];exact List.Perm.append_right _ h2
  have p3:ez.size<scanBound:=by
   have:=p0.length_eq;rw[bq,aO,bq] at this;simp at this;omega
  refine ae (Tx _ _ _ ?_);have gG:∀h',Heap.SameBut a s.heap h'->gS w a (uK ns k) h'->Q true { s with heap:=h' }:=λh'=>h true h';split
  .refine ae ?_
   rw[hashByValue_scannable 8 (x:=.int k tk) rfl];refine ak ?_;refine vy (g:=λb=>match b with | true=>rule "set.scan.the-table-gave-way" | false=>pure ()) Tx ho x hd p1 p2 p3 ?_ ?_ ?_
   .split
    .exact q2
    .exact SetTable.fits_plain_off q2
   .split
    .exact q3
    .exact q3.off
   .intro h' a1 a2;dsimp only;exact ak (gG h' a1 a2)
  .refine ae (ak ?_)
   simp only[↓reduceIte];refine vy (g:=λb=>match b with | true=>rule "set.scan.the-table-gave-way" | false=>pure ()) Tx ho x hd p1 p2 p3 q2 q3 ?_;intro h' a1 a2;dsimp only;exact ak (gG h' a1 a2)
end
open PyProof.Rows
section
def ig (val:Nat->Int):Nat->List Int
 | 0=>[]
 | i+1=>uK (ig val i) (val i)
theorem pQ (val:Nat->Int):∀i,(ig val i).length<=i
 | 0=>al _
 | i+1=>by
  have:=pQ val i;unfold ig uK;split
  .omega
  .simp;omega
theorem ya (val:Nat->Int):∀i,(ig val i).Nodup
 | 0=>List.nodup_nil
 | i+1=>by
  have ih:=ya val i;unfold ig uK;split
  .exact ih
  .rename_i h
   rw[bM];refine⟨ih,!4,λa ha b hb=>?_⟩;have e:b=val i:=by simpa using hb
   subst e;exact λz=>h (z ▸ ha)
theorem vz (val:Nat->Int)(k:Int):∀i,k∈ig val i↔∃j,j<i/\val j=k
 | 0=>⟨λh=>absurd h (by simp[ig]),λ⟨j,h,_⟩=>absurd h (!1)⟩
 | i+1=>by
  have ih:=vz val k i
  have key:k∈ig val (i+1)↔k∈ig val i\/k=val i:=by
   show k∈uK (ig val i) (val i)↔_;unfold uK;split
   .rename_i h
    exact⟨.inl,λz=>z.elim id λe=>e ▸ h⟩
   .simp
  rw[key,ih];constructor
  .rintro (⟨j,h,e⟩ | rfl)
   .exact⟨j,!1,e⟩
   .exact⟨i,!1,rfl⟩
  .rintro⟨j,h,e⟩
   by_cases q:j=i
   .subst q;exact .inr e.symm
   .exact .inl ⟨j,!1,e⟩
theorem C4 {I:Addr}{fp wr:List Addr}{G:Array GenState->Array GenState->Prop}{n:Nat}{P:Nat->af->Prop}{St:Nat->aq->Prop}(W:WalksS prog w A.in1 I fp wr G n P St)(S:Addr)(Qf:S ∉ fp)
  (val:Nat->Int) (C5:∀i v,P i v->∃t,v=.int (val i) t) (hb:n+1<scanBound):∀(m i:Nat) (z:aq),n - i=m->i<=n->St i z->gS w S (ig val i) z.heap ->
   (∀z',Moved (S::wr) G z z'->gS w S (ig val n) z'.heap->R (.ok (.ret .none)) z')->codeAny (model prog w) A (.builtin "set.update.loop" ⟨[.ref S,.ref I],[]⟩) R z:=by
 have sw:S ∉ wr:=λq=>Qf (W.sub _ q);have sb:∀b∈wr,b∈S::wr:=λb q=>am _ q;intro m
 induction m with
 | zero =>
  intro i z e1 e2 st x q;have:i=n:=by omega
  subst this;refine codeAny_builtin PyProof.Rows.F.entry_set_update_loop ?_;rw[Around.under_plainId PyProof.Rows.F.plain_set_update_loop _];show ay _ A.in1 (pyNext (.ref I) >>= _) _ _ z;refine ae (W.done z _ _ st λz' mv=>?_);exact ak (q z' (mv.mono sb) (x.keep λo e=>mv.heap S _ sw e))
 | succ m ih =>
  intro i z e1 e2 st x q;refine codeAny_builtin PyProof.Rows.F.entry_set_update_loop ?_;rw[Around.under_plainId PyProof.Rows.F.plain_set_update_loop _];show ay _ A.in1 (pyNext (.ref I) >>= _) _ _ z;refine ae (W.item i z _ _ (!1) st λv z' hv zN mv=>?_);obtain⟨t,rfl⟩:=C5 i v hv;have x':=x.keep (h':=z'.heap) λo e=>mv.heap S _ sw e;show ay _ A.in1 (holding [af.int (val i) t] (setAdd S (.int (val i) t)) >>= _) _ _ z';refine ae (wpAny_holding ?_);unfold setAdd;refine wpAny_holding (ae ((intKind prog w).pyHash (k:=val i) (intKind_is _ _ _ _) ?_));refine FA (s:={ z' with toks:=z'.toks+1 }) x' (by have:=pQ val i;omega) λr h' a1 a2=>?_;refine ak ⟨plainId_quiet PyProof.Rows.F.plain_set_update_loop _,ih (i+1) _ (!1) (!1) (W.frame _ z' _ _ zN (b9 _) λb hb o e=>?_) a2 λXi Xj Xk=>?_⟩
  .rw[a1.2 b λh:b=S=>Qf (h ▸ hb)];exact e
  .refine q Xi (Moved.trans W.gtrans ((mv.mono sb).then_heap (b9 _) λb o hb e=>?_) Xj) Xk
   rw[a1.2 b λh:b=S=>hb (by rw[h];exact ao)];exact e
theorem C6 (a:af)(h:Q (.ref s.heap.objs.size) { s with heap:=s.heap.push { cls:=.type "set",dict:=none,data:=.set #[] 0 (.fresh 0 0 (!kg w)) } }) :
  codeAny (model prog w) A (.call (.builtin "set.__new__") ⟨[.type "set",a],[]⟩) (wants Q E) s:=by
 refine codeAny_of_tree ?_;show ay _ A.in1 (checkBuiltinCall "set.__new__" ⟨[.type "set",a],[]⟩ >>= λ_=>again (.builtin "set.__new__" ⟨[.type "set",a],[]⟩)) _ _ s;refine ae (wpAny_of_eq (F.newCall_set_1 a) (ak ⟨plainId_quiet F.plain_set_new _,codeAny_builtin F.entry_set_new ?_⟩));rw[Around.under_plainId F.plain_set_new _];unfold Builtin.«set.__new__» Builtin.Frozenset.newClass;have q:=sub_set_self;obtain⟨hp,g,d,tk,os⟩:=s;dsimp only
 wp_walk
 refine wpAny_askSetting (ak ?_);dsimp only;simp only[newObj];exact ae (wpAny_alloc (ak (ak h)))
set_option maxHeartbeats 3200000 in
theorem vA {l:Addr}{T:String}{items:Array af}{od:Option Addr}{nl:Nat}{os:Array (Option af)}{ns:List Int}{ob:Obj}{Q:af->aq->Prop}(VX:s.heap.get? l=some { cls:=.type T,dict:=od,data:=.seq items nl,slots:=os })
  (Xl:isSubtype (.type T) (.type "set")=pure false) (Xm:isSubtype (.type T) (.type "frozenset")=pure false) (gQ:(af.type T == af.type "dict")=false) (hi:IntsAre items.toList ns) (hb:items.size+1<scanBound) {St:Nat->Heap->Prop}
  (iter:∀{A':Around} {E':af->aq->Prop} {Q':af->aq->Prop} {z:aq},z.heap.get? l=some { cls:=.type T,dict:=od,data:=.seq items nl,slots:=os }->Q' (.ref z.heap.objs.size) { z with heap:=z.heap.push ob }->ay (model prog w) A' (pyIter (.ref l)) Q' E' z)
  (W:Walks prog w A.in1.in1.in1 (s.heap.objs.size+1) [s.heap.objs.size+1,l] [s.heap.objs.size+1] items.size (λi v=>items[i]? = some v) St)
  (u5:∀z:Heap,z.objs.size=s.heap.objs.size+1->z.get? l=some { cls:=.type T,dict:=od,data:=.seq items nl,slots:=os }->St 0 (z.push ob))
  (h:∀(h':Heap) (tk:Nat),gS w s.heap.objs.size (ig (λi=>ns.getD i 0) items.size) h'->(∀b o,s.heap.get? b=some o->h'.get? b=some o)->Q (.ref s.heap.objs.size) { s with heap:=h',toks:=tk }) :
  ay (model prog w) A (call (.type "set") [.ref l]) Q E s:=by
 obtain⟨c,tl,Xn⟩:=F.called_set.mro;have VY:=F.called_set.made;have jG:=F.called_set.sub;refine wpAny_call (codeAny_of_tree ?_);show ay _ _ (callAny (.type "set") _) _ _ _;refine ak ⟨Code.quiet_builtin _ (!3),codeAny_builtin F.entry_type_call ?_⟩;rw[Around.under_plain (weight_type_call_type "set" [.ref l] []) rfl];have g1:=F.called_set.notType;have g2:=F.called_set.canCreate;have g3:=F.typeCall_set_1 (.ref l);repeat (any_goals (first | assumption | wp_step))
 refine codeAny_mono (C6 (.ref l) (E:=E) (Q:=λx z=>x=.ref s.heap.objs.size/\z={ s with heap:=s.heap.push { cls:=.type "set",dict:=none,data:=.set #[] 0 (.fresh 0 0 (!kg w)) } }) ⟨rfl,rfl⟩) λr z hr=>?_
 cases r with
 | error e=>exact hr
 | ok fl =>
  cases fl with
  | ret x =>
   obtain⟨rfl,rfl⟩:=hr;have kp:∀b o,s.heap.get? b=some o->(s.heap.push { cls:=.type "set",dict:=none,data:=.set #[] 0 (.fresh 0 0 (!kg w)) }).get? b=some o:=λb o e=>ag _ e;have hS:(s.heap.push { cls:=.type "set",dict:=none,data:=.set #[] 0 (.fresh 0 0 (!kg w)) }).get? s.heap.objs.size=some { cls:=.type "set",dict:=none,data:=.set #[] 0 (.fresh 0 0 (!kg w)) }:=aA _ rfl;have hz:(s.heap.push { cls:=.type "set",dict:=none,data:=.set #[] 0 (.fresh 0 0 (!kg w)) }).objs.size=s.heap.objs.size+1:=by rw[bE]
   have M7:=kp l _ VX;have Xo:l<s.heap.objs.size:=ax VX;generalize s.heap.push { cls:=.type "set",dict:=none,data:=.set #[] 0 (.fresh 0 0 (!kg w)) }=h1 at hS kp hz M7 ⊢;have hT:aq.TypeIs { s with heap:=h1 } (.ref s.heap.objs.size) "set" := ⟨_,hS,rfl⟩;have ZX:=F.called_set.init.lookup;have KZ:=F.called_set.init.bind (.ref s.heap.objs.size);repeat (any_goals (first | assumption | wp_step))
   refine codeAny_mono (codeAny_call_builtin (R:=wants (λr z=>r=.none/\∃h' tk,z={ s with heap:=h',toks:=tk }/\gS w s.heap.objs.size (ig (λi=>ns.getD i 0) items.size) h'/\(∀b o,s.heap.get? b=some o->h'.get? b=some o)) E)
    F.called_set.init.plain F.entry_set_init (check_set_init_1 hT ?_)) λr₂ s₂ FC=>?_
   .unfold Builtin.«set.__init__» noKeywords Builtin.Frozenset.updateFrom
    generalize Xq:pyIter=PI
    wp_walk
    subst Xq;refine iter M7 ?_;refine ae (wpAny_runValue ?_);have C5:∀(i:Nat) (v:af),items[i]? = some v->∃t,v=.int ((λi=>ns.getD i 0) i) t:=λi v hv=>IntsAre.int_at hi i v (by rw[bp];exact hv)
    have Xr:s.heap.objs.size ∉ [s.heap.objs.size+1,l]:=λq=>by
     rcases ap.mp q with q | q
     .exact absurd q (aQ (cm _))
     .exact absurd (av.mp q) (b4 Xo)
    show codeAny _ _ (.builtin "set.update.loop" ⟨[.ref s.heap.objs.size,.ref h1.objs.size],[]⟩) _ _;rw[hz];refine C4 (A:=A.in1.in1) W.toS s.heap.objs.size Xr (λi=>ns.getD i 0) C5 hb (items.size - 0) 0 _ (!1) (bU _) (u5 h1 hz M7) ?hS0 ?hR
    case hS0=>exact⟨_,#[],0,_,ag _ hS,⟨rfl,rfl,rfl⟩,rfl,λe he=>by simp at he,by simp[ig],!2,by rfl,rfl,λ_=>by simp[SetTable.fresh]⟩
    case hR =>
     intro z' mv x;obtain⟨h',g',d',Tg,SH⟩:=z';have eg:g'=s.gens:=mv.gens;have ed:d'=s.drawn:=mv.drawn;have eo:SH=s.os:=mv.os;subst eg ed eo;show ay _ _ _ _ _ _;refine ak ?_;show ay _ _ (ret af.none) _ _ _;refine ak ⟨rfl,h',Tg,rfl,x,λb o e=>?_⟩;have R6:=ax e
     have HH:b ∉ s.heap.objs.size::[s.heap.objs.size+1]:=λq=>by
      rcases ap.mp q with q | q
      .exact absurd q (aQ R6)
      .exact absurd (av.mp q) (aQ (cj R6))
     exact mv.heap b o HH (ag _ (kp b o e))
   .cases r₂ with
    | error e=>exact FC
    | ok Qg =>
     cases Qg with
     | ret r =>
      obtain⟨rfl,h',tk,rfl,x,kq⟩:=FC;repeat (any_goals (first | assumption | wp_step))
      exact h _ _ x kq
     | _=>exact FC.elim
  | _=>exact hr.elim
end
open PyProof.Rows
theorem kh:Slot "set_iterator" "__next__" "set_iterator.__next__" :=
 Slot.of (owner := "set_iterator") (n := "__next__") (by rw[typeLookup_type,builtinLookup_eq_fast];kernel_rfl) (!3) (!3)
  (!3) (by first | exact .inl (!3) | exact .inr (!3)) (by rw[isSubtype_type];kernel_rfl)
theorem vB:entryFor table "set_iterator.__next__" = some Builtin.«set_iterator.__next__»:=entryFor_of_tree (by kernel_rfl)
theorem yb (a:af):argsOk "set_iterator.__next__" ⟨[a],[]⟩:=by unfold argsOk;kernel_rfl
theorem yd:entryFor table "set.__iter__" = some Builtin.«frozenset.__iter__»:=entryFor_alias (id' := "frozenset.__iter__") (by kernel_rfl) rfl (!3) (by kernel_rfl)
section
variable {prog:aV}{w:World}{A:Around}{E:af->aq->Prop}{s:aq}
theorem uM (hn:0<n)(h:∀i d,i<n->Q i { s with drawn:=d }):ay M A (choose src n) Q E s:=λΓ p hΓ=>by
 unfold choose;rw[Sem.wp_choose];refine⟨b4 hn,?_⟩;rw[Sem.wp_pure];exact h _ _ (Nat.mod_lt _ hn)
theorem lC {M:Model}{α:Type}:∀(n:Nat) (xs:List α) {s:aq} {Q:List α->aq->Prop},n=xs.length->(∀ys d,ys.Perm xs->Q ys { s with drawn:=d })->ay M A (drawOrder n xs) Q E s
 | 0,[],s,Q,_,h=>by unfold drawOrder;exact ak (h [] s.drawn .nil)
 | 0,_::_,s,Q,e,_=>by cases e
 | n+1,[],s,Q,e,_=>by cases e
 | n+1,x::xs,s,Q,e,h=>by
  unfold drawOrder;refine ae (uM (!4) λi d hi=>?_);rw[aL hi];dsimp only;refine ae (lC n ((x::xs).eraseIdx i) (by rw[List.length_eraseIdx_of_lt hi];omega) λys d' p=>ak ?_);exact h _ _ ((List.Perm.cons _ p).trans (by have:=qH hi;rwa [List.singleton_append] at this))
noncomputable def uN (t:SetTable):Nat->Nat
 | 0=>0
 | i+1=>t.place.getD i 0+1
noncomputable def FD (w:World)(a it pl:Addr)(es:Array (Int × af))(ep:Nat)(t:SetTable)(out:List af)(i:Nat)(first:af)(h:Heap):Prop :=
 (kg w=true/\first=.int 0 0/\out=(pickOrder (w.params.setOrder a ep) es).toList.map (·.2)) \/
 (kg w=false/\(!t.plain && decide (es.size > 1))=false/\t.place.toList.Pairwise (· < ·)/\first=.int (uN t i:Nat) 0/\out=es.toList.map (·.2)) \/
 (kg w=false/\first=.ref pl/\pl≠it/\∃ord:List Nat,h.IsTuple pl (ord.map λi:Nat=>rawInt i).toArray/\ord.Perm (List.range es.size)/\out=ord.map λi=>((es[i]?).map (·.2)).getD .none)
def Ew (w:World)(a it pl:Addr)(o:Obj)(es:Array (Int × af))(ep:Nat)(t:SetTable)(out:List af)(i:Nat)(h:Heap):Prop :=
 h.get? a=some o/\out.length=es.size/\∃first,h.get? it=some { cls:=.type "set_iterator",data:=.fields #[first,.int i 0,.ref a,.int es.size 0,.int ep 0] }/\FD w a it pl es ep t out i first h
structure Ao (w:World) (o:Obj) (es:Array (Int × af)) (ep:Nat) (t:SetTable):Prop where
 ex:o.ExactSet
 dat:o.data=.set es ep t
 fit:t.fits es.size=true
 led:t.led=!kg w
theorem Ew.frame (x:Ew w a it pl o es ep t out i h)(k:∀b∈[it,a,pl],∀o,h.get? b=some o->h'.get? b=some o):Ew w a it pl o es ep t out i h':=by
 obtain⟨x1,x2,f,x3,m⟩:=x;refine⟨k a (!4) _ x1,x2,f,k it (!4) _ x3,?_⟩;rcases m with m | m | ⟨m1,m2,m3,ord,m4,m5⟩
 .exact .inl m
 .exact .inr (.inl m)
 .exact .inr (.inr ⟨m1,m2,m3,ord,m4.at λo e=>k pl (!4) o e,m5⟩)
theorem Ew.type (x:Ew w a it pl o es ep t out i s.heap):s.TypeIs (.ref it) "set_iterator" := by
 obtain⟨_,_,f,e,_⟩:=x;exact⟨_,e,rfl⟩
theorem vC {t:SetTable}{n:Nat}(h:t.fits n=true):t.place.size=n:=by
 simp only[SetTable.fits,aZ,beq_iff_eq] at h;exact h.1
theorem sD (F:Ao w o es ep t)(x:s.heap.get? a=some o)(m:kg w=true)
  (q:Q ((((pickOrder (w.params.setOrder a ep) es).toList.map (·.2))[i]?).map λv=>(v,sl)) s):ay (model prog w) A (setNext a sl i ep) Q E s:=by
 unfold setNext;refine ae (wpAny_setState_of x F.dat F.fit ?_);dsimp only;unfold setsByText;refine ae (ae (wpAny_askSetting (ak ?_)));refine wpAny_ite_split (λ_=>?_) (λz=>absurd m z);rw[if_neg (!4)];unfold setWalk;refine ae (ae (wpAny_setState_of x F.dat F.fit ?_));dsimp only;unfold setsByText;refine ae (ae (wpAny_askSetting (ak ?_)));refine wpAny_ite_split (λ_=>?_) (λz=>absurd m z);refine ae (wpAny_askSetting (ak ?_));refine ak ?_
 have e:((pickOrder (w.params.setOrder a ep) es)[i]?).map (λe:Int × af=>(e.2,sl))=(((pickOrder (w.params.setOrder a ep) es).toList.map (·.2))[i]?).map λv=>(v,sl):=by
  rw[az,bp,Option.map_map];rfl
 rw[<- e] at q;exact q
theorem sE {a:Addr}{o:Obj}{es:Array (Int × af)}{ep i:Nat}{t:SetTable}{Q:Option (af × Nat)->aq->Prop}(F:Ao w o es ep t)(x:s.heap.get? a=some o)(m:kg w=false)(m2:(!t.plain && decide (es.size > 1))=false)
  (m3:t.place.toList.Pairwise (· < ·)) (hi:i<=es.size) (q:Q (((es.toList.map (·.2))[i]?).map λv=>(v,uN t (i+1))) s):ay (model prog w) A (setNext a (uN t i) i ep) Q E s:=by
 have hz:=vC F.fit;unfold setNext;refine ae (wpAny_setState_of x F.dat F.fit ?_);dsimp only;unfold setsByText;refine ae (ae (wpAny_askSetting (ak ?_)));refine wpAny_ite_split (λz=>absurd ((show kg w=true from z).symm.trans m) (!2)) (λ_=>?_);refine wpAny_ite_split (λz=>absurd ((show (!t.plain && decide (es.size > 1))=true from z).symm.trans m2) (!2)) (λ_=>?_);show ay _ _ ((if (!t.led && !es.isEmpty)=true then unsupported "set:maker-not-led" else pure ()) >>= _) _ _ _;rw[F.led,m];rw[if_neg (!4)];refine ae (ak (ak ?_))
 have e:SetTable.below t.place (uN t i)=i:=by
  cases i with
  | zero=>exact SetTable.Am m3
  | succ j =>
   have hj:j<t.place.size:=by omega
   have:uN t (j+1)=t.place[j] + 1:=by unfold uN;simp[hj]
   rw[this];exact SetTable.An m3 (by simp[hj])
 rw[e];rcases cp i es.size with hl | hl
 .have e1:es[i]? = some (es[i].1,es[i].2):=by simp[hl]
  have e2:t.place[i]? = some t.place[i]:=by simp[hz,hl]
  rw[e1,e2];have e3:(es.toList.map (·.2))[i]? = some es[i].2:=by rw[az,bp,e1];rfl
  rw[e3] at q;have e4:uN t (i+1)=t.place[i] + 1:=by unfold uN;simp[hz,hl]
  rw[e4] at q;exact q
 .have e1:es[i]? = none:=by simp[hl]
  have e3:(es.toList.map (·.2))[i]? = none:=by rw[az,bp,e1];rfl
  rw[e3] at q;rw[e1];exact q
theorem wL {h:Heap}{it:Addr}{vs:Array af}(f:Array af->Array af)(ho:h.get? it=some { cls:=.type "set_iterator",data:=.fields vs }):(h.update it (Obj.mapFields f)).get? it=some { cls:=.type "set_iterator",data:=.fields (f vs) }:=by
 have:=be (Obj.mapFields f) ho (Obj.isFreed_of_fields (Obj.data_mapFields rfl _));exact this
theorem Ap {a it pl:Addr}{o:Obj}{es:Array (Int × af)}{ep:Nat}{t:SetTable}{out:List af}{i:Nat}{v:af}{Q:Option af->aq->Prop}(F:Ao w o es ep t)(x:Ew w a it pl o es ep t out i s.heap)(gQ:a≠it)
  (hv:out[i]? = some v) (q:∀h',Ew w a it pl o es ep t out (i+1) h'->Heap.SameBut it s.heap h'->Q (some v) { s with heap:=h' }):ay (model prog w) A (pyNext (.ref it)) Q E s:=by
 have ty:=x.type;obtain⟨x1,x2,first,x3,m⟩:=x
 have hi:i<out.length:=by
  rcases cp i out.length with z | z
  .exact z
  .rw[bi z] at hv;cases hv
 unfold pyNext;refine ae (wpAny_attempt (wpAny_callSpecial?_slot (name:=Str.ofString "__next__") ty kh (wpAny_call_entry kh ty vB ?_ (yb _))));show ay _ _ (fieldsOf (.ref it) >>= _) _ _ s;refine ae (wpAny_fieldsOf x3 rfl ?_);show ay _ _ (setEntries a >>= _) _ _ s;refine ae (wpAny_setEntries_of x1 F.dat F.fit ?_);rw[if_neg (!4)];have ot:∀(f:Obj->Obj) (h:Heap) (b:Addr) (ob:Obj),b≠it->h.get? b=some ob->(h.update it f).get? b=some ob:=λf h b ob hb e=>(aI _ _ (Ne.symm hb)).trans e
 have go:∀(sl nx:Nat),s.heap.get? it=some { cls:=.type "set_iterator",data:=.fields #[.int sl 0,.int i 0,.ref a,.int es.size 0,.int ep 0] }->(∀h',FD w a it pl es ep t out (i+1) (.int nx 0) h') ->
   (∀Q':Option (af × Nat)->aq->Prop,∀E',Q' ((out[i]?).map λv=>(v,nx)) s->ay (model prog w) A.in1 (setNext a sl i ep) Q' E' s) ->
   ∀{E':af->aq->Prop},ay (model prog w) A.in1 (setNext a ((sl:Int).toNat) ((i:Int).toNat) ((ep:Int).toNat) >>= λr=>match r with
    | some (y,next)=>setField (.ref it) 0 (rawInt next) >>= λ_=>setField (.ref it) 1 (rawInt ((i:Int)+1)) >>= λ_=>ret y
    | none=>setField (.ref it) 2 af.none >>= λ_=>newExc (af.type "StopIteration") [] >>= λe=>raiseNew e) (λgG s'=>∃v,gG=.done (.ret v)/\Q (some v) s') E' s:=by
  intro sl nx x3 md Xs E';simp only[aX];refine ae (Xs _ _ ?_);rw[hv];dsimp only [Option.map];refine ae (wpAny_setField x3 rfl (!4) (ae ?_));have y1:=wL (·.setIfInBounds 0 (rawInt nx)) x3;refine wpAny_setField (s:={ s with heap:=s.heap.update it (Obj.mapFields (·.setIfInBounds 0 (rawInt nx))) }) y1 rfl (!4) (ak ⟨v,rfl,?_⟩);have y2:=wL (·.setIfInBounds 1 (rawInt ((i:Int)+1))) y1;exact q _ ⟨ot _ _ a o gQ (ot _ _ a o gQ x1),x2,.int nx 0,by rw[y2];simp[rawInt],md _⟩ ((Heap.SameBut.update ..).trans (Heap.SameBut.update ..))
 rcases m with⟨m1,rfl,m2⟩ | ⟨m1,m2,m3,rfl,m4⟩ | ⟨m1,rfl,m2,ord,⟨Tz,t1,t2,nt,t3⟩,m4,m5⟩
 .exact bD (go 0 0 x3 (λh'=>.inl ⟨m1,rfl,m2⟩) λQ' E' q'=>sD F x1 m1 (by rw[<- m2];exact q')) (λgG s' ⟨v,e,h⟩=>⟨v,e,ak h⟩) λe s' h=>h
 .exact bD (go (uN t i) (uN t (i+1)) x3 (λh'=>.inr (.inl ⟨m1,m2,m3,rfl,m4⟩)) λQ' E' q'=>sE F x1 m1 m2 m3 (!1) (by rw[<- m4];exact q')) (λgG s' ⟨v,e,h⟩=>⟨v,e,ak h⟩) λe s' h=>h
 .show ay _ _ (seqItems? (.ref pl) >>= _) _ _ s
  refine ae (wpAny_seqItems t1 t3 ?_);rw[m5,az] at hv
  cases ho:ord[i]? with
  | none=>rw[ho] at hv;cases hv
  | some j =>
   rw[ho] at hv
   have hj:j<es.size:=by
    have:j∈List.range es.size:=m4.mem_iff.mp (bB ho);exact cG.mp this
   have ej:es[j]? = some (es[j].1,es[j].2):=by simp[hj]
   have ev:v=es[j].2:=by simp only[bg,ej] at hv;cases hv;rfl
   have Ol:((ord.map λi:Nat=>rawInt i).toArray)[(i:Int).toNat]? = some (.int j 0):=by
    rw[List.getElem?_toArray,aX,az,ho];rfl
   dsimp only;rw[Ol];dsimp only;refine ae ?_;unfold setNextDrawn;refine ae (wpAny_setState_of x1 F.dat F.fit ?_);dsimp only;rw[if_neg (!4),aX,ej];dsimp only;refine ak ?_;refine ae (wpAny_setField x3 rfl (!4) (ak ⟨_,rfl,ak ?_⟩));have y2:=wL (·.setIfInBounds 1 (rawInt ((i:Int)+1))) x3;rw[<- ev];exact q _ ⟨ot _ _ a o gQ x1,x2,.ref pl,by rw[y2];simp[rawInt],.inr (.inr ⟨m1,rfl,m2,ord,⟨Tz,ot _ _ pl Tz m2 t1,t2,nt,t3⟩,m4,m5⟩)⟩ (Heap.SameBut.update ..)
theorem sF {a it pl:Addr}{o:Obj}{es:Array (Int × af)}{ep:Nat}{t:SetTable}{out:List af}{Q:Option af->aq->Prop}(hh:A.handled=none)(F:Ao w o es ep t)(x:Ew w a it pl o es ep t out out.length s.heap)
  (q:∀h',Heap.ExtBut it s.heap h'->Q none { s with heap:=h' }):ay (model prog w) A (pyNext (.ref it)) Q E s:=by
 have ty:=x.type;obtain⟨x1,x2,first,x3,m⟩:=x;unfold pyNext;refine ae (wpAny_attempt (wpAny_callSpecial?_slot (name:=Str.ofString "__next__") ty kh (wpAny_call_entry kh ty vB ?_ (yb _))));show ay _ _ (fieldsOf (.ref it) >>= _) _ _ s;refine ae (wpAny_fieldsOf x3 rfl ?_);show ay _ _ (setEntries a >>= _) _ _ s;refine ae (wpAny_setEntries_of x1 F.dat F.fit ?_);rw[if_neg (!4)]
 have gG:∀{α:Type} (h1:Heap) (B:Around) (Q':α->aq->Prop),B.handled=none->Heap.ExtBut it s.heap h1->ay (model prog w) B (newExc (af.type "StopIteration") [] >>= λe=>raiseNew e)
   Q' (λe s'=>ay (model prog w) A (isInstance e (af.type "StopIteration") >>= λb=>if b=true then pure none else throw e) Q E s') { s with heap:=h1 }:=by
  intro α h1 B Q' hB k1;refine ae ?_;simp only[newExc,newTuple];refine ae (aY (ae (m:=firstArgMember _ _) (wpAny_of_eq (a:=af.none) (by first | rfl | (simp only[firstArgMember];rfl)) (aY ?_ (by size_fits)))) (by size_fits));simp only[raiseNew];refine ae (wpAny_handled ?_);rw[hB];refine ae (ak (wpAny_throw ?_));refine ae (wpAny_isInstance (T := "StopIteration") (b:=true) ⟨_,aA _ rfl,rfl⟩ isSubtype_stop (ak ?_));exact q _ ((k1.push _).push _)
 have no:out[out.length]? = none:=by simp
 rcases m with⟨m1,rfl,m2⟩ | ⟨m1,m2,m3,rfl,m4⟩ | ⟨m1,rfl,m2,ord,⟨Tz,t1,t2,nt,t3⟩,m4,m5⟩
 .show ay _ _ (setNext a _ _ _ >>= _) _ _ s
  simp only[aX];refine ae (sD F x1 m1 ?_);rw[<- m2,no];dsimp only [Option.map];exact ae (wpAny_setField x3 rfl (!4) (gG _ _ _ hh (Heap.SameBut.update ..).extBut))
 .show ay _ _ (setNext a _ _ _ >>= _) _ _ s
  simp only[aX];refine ae (sE F x1 m1 m2 m3 (!1) ?_);rw[<- m4,no];dsimp only [Option.map];exact ae (wpAny_setField x3 rfl (!4) (gG _ _ _ hh (Heap.SameBut.update ..).extBut))
 .show ay _ _ (seqItems? (.ref pl) >>= _) _ _ s
  refine ae (wpAny_seqItems t1 t3 ?_);have ol:ord.length=out.length:=by rw[m5,ai]
  have Ol:((ord.map λi:Nat=>rawInt i).toArray)[((out.length:Nat):Int).toNat]? = none:=by
   rw[List.getElem?_toArray,aX,az,bi (!1)];rfl
  dsimp only;rw[Ol];dsimp only;refine ae (wpAny_setField x3 rfl (!4) (ae ?_));have y1:=wL (·.setIfInBounds 0 (rawInt 0)) x3;exact wpAny_setField (s:={ s with heap:=s.heap.update it (Obj.mapFields (·.setIfInBounds 0 (rawInt 0))) }) y1 rfl (!4) (gG _ _ _ hh ((Heap.SameBut.update ..).trans (Heap.SameBut.update ..)).extBut)
end
open PyProof.Rows
theorem vD:Slot "set_iterator" "__iter__" "set_iterator.__iter__" :=
 Slot.of (owner := "set_iterator") (n := "__iter__") (by rw[typeLookup_type,builtinLookup_eq_fast];kernel_rfl) (!3) (!3)
  (!3) (by first | exact .inl (!3) | exact .inr (!3)) (by rw[isSubtype_type];kernel_rfl)
theorem Aq:entryFor table "set_iterator.__iter__" = some Builtin.«dict_keyiterator.__iter__»:=entryFor_alias (id' := "dict_keyiterator.__iter__") (by kernel_rfl) rfl (!3) (by kernel_rfl)
theorem C7 (a:af):argsOk "set_iterator.__iter__" ⟨[a],[]⟩:=by unfold argsOk;kernel_rfl
section
theorem wK.ints:wK l->IntsAre (l.map (·.2)) (l.filterMap C3):=by
 induction l with
 | nil=>intro _;exact .nil
 | cons e l ih =>
  intro h;obtain⟨k,t,rfl⟩:=h e (!4);exact .cons k t (ih λe he=>h e (by simp[he]))
theorem ye (es:Array (Int × af)):∀(l:List Nat),(∀j∈l,j<es.size)->(l.map λi=>((es[i]?).map (·.2)).getD af.none)=(l.filterMap λi=>es[i]?).map (·.2)
 | [],_=>rfl
 | j::l,h=>by
  have hj:=h j (!4);have e:es[j]? = some es[j]:=by simp[hj]
  rw[ah,bO,e,ye es l λi hi=>h i (by simp[hi])];rfl
theorem yf (x:gS w a ns s.heap) (q:∀h' d' it pl o es ep t out ms,Ao w o es ep t->Ew w a it pl o es ep t out 0 h'->(∀b ob,s.heap.get? b=some ob->h'.get? b=some ob) ->
   s.heap.objs.size<=it->s.heap.objs.size<=pl->IntsAre out ms->ms.Perm ns->Q (.ref it) { s with heap:=h',drawn:=d' }):ay (model prog w) A (pyIter (.ref a)) Q E s:=by
 have ty:=x.type;obtain⟨o,es,ep,t,ho,ex,hd,h1,h2,h3,h4,h5,h6⟩:=x;have F:Ao w o es ep t:=⟨ex,hd,h4,h5⟩;have hz:=vC h4;refine wpAny_pyIter_slot ty PySem.F.slot_set_iter (wpAny_call_entry PySem.F.slot_set_iter ty yd ?_ (PySem.F.args_set_iter_1 _));unfold Builtin.«frozenset.__iter__» Builtin.Frozenset.slot0 slotArgs;simp only[List.isEmpty_nil,bS,bR,↓reduceIte,bind_assoc,aJ,bne_self_eq_false];unfold Builtin.Frozenset.addrOf Builtin.Frozenset.sizeOf;refine ae (ak ?_);try dsimp only
 refine ae (ak ?_);refine ae (ae (wpAny_setEntries_of ho hd h4 (ak ?_)));unfold setDrawn;refine ae (ae (wpAny_setState_of ho hd h4 ?_));dsimp only;unfold setsByText;refine ae (ae (wpAny_askSetting (ak (ak ?_))))
 have gG:∀(h':Heap) (d':_) (pl:Addr) (first:af) (out:List af) (ms:List Int),(∀b ob,s.heap.get? b=some ob->h'.get? b=some ob)->s.heap.objs.size<=h'.objs.size->s.heap.objs.size<=pl ->
   FD w a h'.objs.size pl es ep t out 0 first (h'.push { cls:=.type "set_iterator",data:=.fields #[first,.int 0 0,.ref a,.int es.size 0,.int ep 0] })->out.length=es.size->IntsAre out ms->ms.Perm ns ->
   ay (model prog w) A.in1 (setEpoch a >>= λe=>newFields "set_iterator" [first,rawInt 0,.ref a,rawInt es.size,rawInt e] >>= λv=>ret v)
    (λgG s'=>∃v,gG=.done (.ret v)/\∃T' r,s'.TypeIs v T'/\typeLookup (.type T') "__next__" = pure (some r)/\Q v s') E { s with heap:=h',drawn:=d' }:=by
  intro h' d' pl first out ms kp z1 z2 md ol ia pm
  refine ae (wpAny_setEpoch_of (s:={ s with heap:=h',drawn:=d' }) (kp a o ho) hd h4 ?_);unfold newFields;refine ae (aY (ak ⟨_,rfl, "set_iterator",_,⟨_,aA _ rfl,rfl⟩,kh.lookup,?_⟩));have g:(h'.push { cls:=.type "set_iterator",data:=.fields #[first,.int 0 0,.ref a,.int es.size 0,.int ep 0] }).get? h'.objs.size=some { cls:=.type "set_iterator",data:=.fields #[first,.int 0 0,.ref a,.int es.size 0,.int ep 0] }:=aA _ rfl;exact q _ d' h'.objs.size pl o es ep t out ms F ⟨ag _ (kp a o ho),ol,first,g,md⟩ (λb ob e=>ag _ (kp b ob e)) z1 z2 ia pm
 cases hb:kg w with
 | true =>
  refine wpAny_ite_split (λz=>?_) (λ_=>?_)
  .exfalso
   have:(!kg w && (!t.plain && decide (es.size > 1)))=true:=z;rw[hb] at this;cases this
  .refine ae (ak ?_)
   have p1:=sC (w.params.setOrder a ep) es;refine gG s.heap s.drawn s.heap.objs.size (.int 0 0) _ _ (λ_ _ e=>e) (al _) (al _) (.inl ⟨hb,rfl,rfl⟩) ?_ (wK.ints (h1.perm p1)) ((p1.filterMap C3).trans h2);rw[ai,p1.length_eq,bq]
 | false =>
  refine wpAny_ite_split (λz=>?_) (λz=>?_)
  .refine ae (lC es.size (List.range es.size) (!4) λord d' p=>?_)
   refine ae (wpAny_newTuple ?_ ?_)
   .have lt:∀j∈ord,j<es.size:=λj hj=>cG.mp (p.mem_iff.mp hj)
    have p1:(ord.filterMap λi=>es[i]?).Perm es.toList:=(p.filterMap _).trans (by rw[filterMap_getElem?_range]);have g:(s.heap.push { cls:=.type "tuple",data:=.seq (ord.map λi:Nat=>rawInt i).toArray }).get? s.heap.objs.size=some { cls:=.type "tuple",data:=.seq (ord.map λi:Nat=>rawInt i).toArray }:=aA _ rfl;refine gG _ d' s.heap.objs.size (.ref s.heap.objs.size) (ord.map λi=>((es[i]?).map (·.2)).getD .none) ((ord.filterMap λi=>es[i]?).filterMap C3) (λb ob e=>ag _ e) (by rw[bE];exact b9 _) (al _) ?_ ?_ ?_ ((p1.filterMap C3).trans h2)
    .refine .inr (.inr ⟨hb,rfl,by rw[bE];exact aQ (cm _),ord,⟨_,ag _ g,rfl,0,rfl⟩,p,rfl⟩)
    .rw[ai,p.length_eq,cL]
    .rw[ye es ord lt]
     exact wK.ints (h1.perm p1)
   .have:ord.length=es.size:=by rw[p.length_eq,cL]
    have hb:scanBound=4096:=rfl;simp only[ai,this];rw[sizeLine_eq];omega
  .refine ae (ak ?_)
   have z':(!t.plain && decide (es.size > 1))=false:=by
    have:¬ (!kg w && (!t.plain && decide (es.size > 1)))=true:=z;rw[hb] at this;simpa using this
   refine gG s.heap s.drawn s.heap.objs.size (.int 0 0) _ _ (λ_ _ e=>e) (al _) (al _) (.inr (.inl ⟨hb,z',?_,rfl,rfl⟩)) ?_ (wK.ints h1) h2
   .cases hp:t.plain with
    | true=>exact h6 hp
    | false =>
     rw[hp] at z';have:t.place.toList.length<=1:=by rw[bq,hz];simpa using z'
     match t.place.toList,this with
     | [],_=>exact .nil
     | [a],_=>exact List.pairwise_singleton _ _
     | _::_::_,h=>exact absurd h (!4)
   .rw[ai,bq]
theorem Ar (x:Ew w a it pl o es ep t out i s.heap)(q:Q (.ref it) s):ay (model prog w) A (pyIter (.ref it)) Q E s:=by
 have ty:=x.type;refine wpAny_pyIter_slot ty vD (wpAny_call_entry vD ty Aq ?_ (C7 _));show ay _ _ (ret (.ref it)) _ _ s;exact ak ⟨_,rfl, "set_iterator",_,ty,kh.lookup,q⟩
theorem C8 (out:List af)(hh:A.handled=none)(F:Ao w o es ep t)(gQ:a≠it) :
  Walks prog w A it [it,a,pl] [it] out.length (λi v=>out[i]? = some v) (Ew w a it pl o es ep t out) where
 sub:=λb hb=>by simp at hb;simp[hb]
 frame:=λ_ _ _ st k=>st.frame k
 item:=λi s Q E hi st hQ=>by
  have e:out[i]? = some out[i]:=by simp[hi]
  exact Ap F st gQ e λh' zN sb=>hQ _ h' s.toks e zN λb ob hb e=>sb.extBut b ob (λh=>hb (by simp[h])) e
 done:=λs Q E st hQ=>sF hh F st λh' ex=>hQ h' s.toks λb ob hb e=>ex b ob (λh=>hb (by simp[h])) e
 self:=λ_ _ _ _ st hQ=>Ar st hQ
end
open PyProof.Rows
section
theorem FE (x:gS w d ns s.heap)(h:∀b,Q b s):ay (model prog w) A (Builtin.List.listLengthHint (.ref d)) Q E s:=by
 have ty:=x.type;unfold Builtin.List.listLengthHint;refine ae (wpAny_specialOf ty F.slot_set_len.lookup ?_);generalize hj:("set.__len__" : String)=j0
 wp_delta
 rw[show splitId j0=some ("set", "__len__") from by subst hj;decide +kernel];subst hj;refine ae (wpAny_isInstance (T := "set") (b:=true) ty (by rw[isSubtype_type];kernel_rfl) ?_);refine wpAny_ite_split (λz=>absurd z (!2)) (λ_=>?_);refine wpAny_ite_split (λ_=>?_) (λz=>absurd (!3) z);exact ae (wpAny_typeOf ty (ak (h _)))
theorem As (hh:A.handled=none)(x:gS w d ns s.heap)(eF:ns.length<=au)(S:Addr)(res:af)(c₀:Nat)(hS:s.heap.get? S=some { cls:=.type "list",data:=.seq #[] c₀ })
  (hR:∀h' tk d' uG c' ms,(∀b o,b≠S->s.heap.get? b=some o->h'.get? b=some o)->h'.get? S=some { cls:=.type "list",dict:=none,data:=.seq uG c',slots:=#[] }->IntsAre uG.toList ms->ms.Perm ns ->
   R (.ok (.ret res)) { s with heap:=h',toks:=tk,drawn:=d' }) :
  ay (model prog w) A.in1 (Builtin.List.listExtendWith (.ref S) (.ref d) res)
   (λgG s'=>match gG with | .done f=>R (.ok f) s' | .again c'=>c'.quiet=true/\codeAny (model prog w) A c' R s') (λe s'=>R (.error e) s') s:=by
 have ty:=x.type;have Xt:d<s.heap.objs.size:=by obtain⟨o,es,ep,t,e,_⟩:=id x;exact ax e
 have VZ:S<s.heap.objs.size:=ax hS
 have V0:S≠d:=λz=>by
  obtain⟨o,e,c⟩:=ty;rw[<- z,hS] at e;cases e;exact absurd (show af.type "list" = af.type "set" from c) (!2)
 unfold Builtin.List.listExtendWith;refine ae (wpAny_typeOf ty ?_);have n1:Builtin.List.listSameRef (.ref S) (.ref d)=false:=by simp[Builtin.List.listSameRef,V0]
 have n2:(af.type "set" == af.type "list")=false:=by decide
 have n3:(af.type "set" == af.type "tuple")=false:=by decide
 simp only[n1,n2,n3,Bool.or_false,bR,if_false];refine ae (yf x λh1 d1 it pl o es ep t out ms Fx st BP P6 m7 ia pm=>?_);have gQ:d≠it:=aQ (aK Xt P6);have Xu:S≠it:=aQ (aK VZ P6);have Xv:S≠pl:=aQ (aK VZ m7)
 have Qf:S ∉ [it,d,pl]:=λz=>by
  rcases ap.mp z with z | z
  .exact Xu z
  .rcases ap.mp z with z | z
   .exact V0 z
   .exact Xv (av.mp z)
 have W:=(C8 (prog:=prog) (w:=w) (A:=A.in1) (a:=d) (it:=it) (pl:=pl) out hh Fx gQ).toS;have ol:out.length=ns.length:=by rw[<- pm.length_eq];exact IntsAre.length ia
 have run:∀(h:Heap) (c₁ tk:Nat),Ew w d it pl o es ep t out 0 h->(∀b o,b≠S->s.heap.get? b=some o->h.get? b=some o) ->
   h.get? S=some { cls:=.type "list",data:=.seq #[] c₁ }->codeAny (model prog w) A (.builtin "list.extend.loop" ⟨[.ref S,.ref it,res],[]⟩) R { s with heap:=h,toks:=tk,drawn:=d1 }:=by
  intro h c₁ tk Xw hk yg;refine codeAny_extend_loopS W (!1) S Qf res out.length 0 _ #[] c₁ rfl (bU _) Xw yg (ItemsOf.nil _) λs' uG c' mv Xx IG=>?_;have jk:=Moved.eq_with mv
  have TB:uG.toList=out:=by
   refine List.ext_getElem? λj=>?_;rw[bp];rcases cp j uG.size with hj | hj
   .have e:uG[j]? = some uG[j]:=by simp[hj]
    rw[e,IG.2 j _ e]
   .rw[cf hj,bi (by have:=IG.1;omega)]
  rw[jk];refine hR s'.heap s'.toks d1 uG c' ms (λb o hb e=>mv.heap b o (λz=>?_) (hk b o hb e)) Xx (by rw[TB];exact ia) pm;rcases ap.mp z with z | z
  .exact hb z
  .have:b=it:=by simpa using z
   exact absurd (aK (ax e) P6) (by rw[this];exact bh _)
 have yg:=BP S _ hS;refine ae (wpAny_holding (FE (s:={ s with heap:=h1,drawn:=d1 }) (x.keep λo e=>BP _ o e) λb=>?_));refine wpAny_ite_split (λ_=>?_) (λ_=>ak ⟨plainId_quiet F.plain_extend_loop _,run h1 c₀ s.toks st (λb o _ e=>BP b o e) yg⟩);refine ae (wpAny_rule (ae ?_));show ay _ _ (updateSeq S (·.push .none) >>= λ_=>updateSeq S (·.pop)) _ _ { s with heap:=h1,drawn:=d1 };refine ae (wpAny_updateSeq yg rfl ?_);have K0:=be (Obj.mapSeq (·.push af.none)) yg rfl;refine wpAny_updateSeq (hz:=by seq_fits) K0 rfl ?_;have Qh:=be (Obj.mapSeq (·.pop)) K0 rfl
 have K1:∀b o,b≠S->h1.get? b=some o->((h1.update S (Obj.mapSeq (·.push af.none))).update S (Obj.mapSeq (·.pop))).get? b=some o:=λb o hb e =>
  (aI _ _ (Ne.symm hb)).trans ((aI _ _ (Ne.symm hb)).trans e)
 refine ak ⟨plainId_quiet F.plain_extend_loop _,run _ _ s.toks (st.frame λb hb o e=>K1 _ o (λz=>Qf (z ▸ hb)) e) (λb o hb e=>K1 b o hb (BP b o e)) Qh⟩
theorem yh (hh:A.handled=none)(x:gS w d ns s.heap)(eF:ns.length<=au)
  (hQ:∀h' tk d' acc ms,(∀b o,s.heap.get? b=some o->h'.get? b=some o)->IntsAre acc ms->ms.Perm ns->Q acc { s with heap:=h',toks:=tk,drawn:=d' }):ay (model prog w) A (collect (.ref d)) Q E s:=by
 unfold collect;refine ae (wpAny_runValue (codeAny_builtin F.entry_proto_collect ?_));rw[Around.under_plainId F.plain_proto_collect _];show ay _ A.in1 (newList [] >>= λl=>again (.builtin "list.__iadd__" ⟨[l,.ref d],[]⟩)) _ _ s;refine ae (aY (ak ⟨plainId_quiet F.plain_list_iadd _,codeAny_builtin F.entry_list_iadd ?_⟩));rw[Around.under_plainId F.plain_list_iadd _];show ay _ A.in1 (Builtin.List.listExtendWith (.ref s.heap.objs.size) (.ref d) (.ref s.heap.objs.size)) _ _ _;have hS:(s.heap.push { cls:=.type "list",data:=.seq ([]:List af).toArray }).get? s.heap.objs.size=some { cls:=.type "list",data:=.seq #[] 0 }:=aA _ rfl;have k0:∀b o,s.heap.get? b=some o->(s.heap.push { cls:=.type "list",data:=.seq ([]:List af).toArray }).get? b=some o:=λb o e=>ag _ e;generalize s.heap.push { cls:=.type "list",data:=.seq ([]:List af).toArray }=h0 at hS k0 ⊢
 have Fg:∀(h':Heap) (tk:Nat) (d':Drawn) (acc:Array af) (c':Nat) (ms:List Int),(∀b o,b≠s.heap.objs.size->h0.get? b=some o->h'.get? b=some o) ->
   h'.get? s.heap.objs.size=some { cls:=.type "list",dict:=none,data:=.seq acc c',slots:=#[] }->IntsAre acc.toList ms->ms.Perm ns ->
   ay (model prog w) A (match af.ref s.heap.objs.size with
   | af.ref a=>do
    match (<- load a).data with
     | Data.seq xs _=>pure xs.toList
     | _=>unsupported "internal:collect"
   | _=>unsupported "internal:collect") Q E { s with heap:=h',toks:=tk,drawn:=d' }:=λh' tk d' acc c' ms kp e hi pm=>by
  show ay _ A (load s.heap.objs.size >>= _) _ _ _;refine ae (wpAny_load e ?_);exact ak (hQ h' tk d' acc.toList ms (λb o hb=>kp b o (aQ (ax hb)) (k0 b o hb)) hi pm)
 refine bD (As (A:=A) (R:=λr' s'=>r'=.ok (.ret (.ref s.heap.objs.size))/\∃h' tk d' acc c' ms,s'={ s with heap:=h',toks:=tk,drawn:=d' }/\(∀b o,b≠s.heap.objs.size->h0.get? b=some o->h'.get? b=some o) /\
   h'.get? s.heap.objs.size=some { cls:=.type "list",dict:=none,data:=.seq acc c',slots:=#[] }/\IntsAre acc.toList ms/\ms.Perm ns)
  (s:={ s with heap:=h0 }) hh (x.keep λo e=>k0 _ o e) eF s.heap.objs.size (.ref s.heap.objs.size) 0 hS λh' tk d' acc c' ms kp e hi pm=>⟨rfl,h',tk,d',acc,c',ms,rfl,kp,e,hi,pm⟩) (λgG s' h=>?_) (λe s' h=>?_)
 .cases gG with
  | done f =>
   obtain⟨e,h',tk,d',acc,c',ms,rfl,kp,q,hi,pm⟩:=h;cases e;exact Fg h' tk d' acc c' ms kp q hi pm
  | again c'=>exact⟨h.1,codeAny_mono h.2 λr Ms hr=>by obtain⟨rfl,h',tk,d',acc,c',ms,rfl,kp,q,hi,pm⟩:=hr;exact Fg h' tk d' acc c' ms kp q hi pm⟩
 .exact absurd h.1 (!4)
end
end PySem
namespace L2
open PySem PySem.Spec PyProof.Rows
section
variable {X:Cx}
theorem BQ {z:Heap}{n:Nat}{ob:Obj}(h:z.objs.size=n)(hf:ob.isFreed=false):(z.push ob).get? n=some ob:=h ▸ aA _ hf
theorem Inv.drawn (I:Inv X pins σ H s)(d:Drawn):Inv X pins σ H { s with drawn:=d } :=
 { ok:=I.ok,os:=I.os,bare:=I.bare,base:=I.base,loc:=I.loc,cell:=I.cell,free:=I.free,freeC:=I.freeC,pin:=I.pin,hok:=I.hok,len:=I.len }
theorem wM (w:World)(hc:X.calm=true)(hw:X.w=w:=by rfl):fL X (.builtin "sorted") (λxs H Q=>∃(p:Addr) (ns:List Int),xs=[.ref p]/\H p=some (.ext (gS w p ns))/\ns.length<64 /\
  ∀(l:Addr) (ms:List Int),ms.Perm ns->ms.Pairwise (·<=·)->H l=none->Q (.ref l) (d0 H l (.lst (ms.map V.int)))):=by
 subst hw;intro pins s σ H xs us Q I r h;obtain⟨p,ns,rfl,hp,R5,q⟩:=h;obtain⟨u,rfl,ru⟩:=vals1 r;cases ru;obtain⟨x,_,_⟩:=I.hok p _ hp;refine Calls.call_function_entry kind_sorted plain_sorted entry_sorted (args_sorted1 _) ?_;unfold Builtin.«sorted»;refine ae (m:=checkCount "sorted" 1 1 _) (ak ?_);refine ae (yh (A:=X.A.in1) (I.ok.hd hc) x (by rw[show au=16777216 by decide];omega) λh1 tk d1 acc ms Qi hI M8=>?_)
 have TB:acc.length<64:=by
  rw[IntsAre.length hI,M8.length_eq];exact R5
 refine ae (wpAny_newList ?_);have OP:(h1.push (seqObj "list" acc.toArray 0)).get? h1.objs.size=some (seqObj "list" acc.toArray 0):=aA _ rfl;show ay _ _ _ _ _ { s with heap:=h1.push (seqObj "list" acc.toArray 0),toks:=tk,drawn:=d1 };refine ae (wpAny_holding (wpAny_call_entry slot_list_sort ⟨_,OP,rfl⟩ entry_list_sort (list_sort_tree OP hI TB λout R7 a1 a2 a3=>⟨_,rfl,?_⟩) (args_list_sort _)));refine ak ⟨_,rfl,?_⟩;have hm:=a2.length_eq;have BR:=M8.length_eq;have hv:dO (R7.map V.int) out.toList:=dO.wI a1;have hsz:(R7.map V.int).length<=au:=by rw[ai,show au=16777216 by decide];omega
 have I1:Inv X pins σ H { s with heap:=h1,toks:=tk,drawn:=d1 }:=(I.kept (t':=tk) Qi).drawn d1
 have Qd:∀b ob,h1.get? b=some ob->(sortedHeap (h1.push (seqObj "list" acc.toArray 0)) h1.objs.size acc out).get? b=some ob:=by
  intro b ob e;have hb:h1.objs.size≠b:=b4 (ax e);unfold sortedHeap;rw[aI _ _ hb];refine ag _ (ag _ ?_);rw[aI _ _ hb];exact ag _ e
 have nw:∃n,(sortedHeap (h1.push (seqObj "list" acc.toArray 0)) h1.objs.size acc out).get? h1.objs.size=some { cls:=.type "list",data:=.seq out n }:=by
  have g2:=be (Obj.mapSeq λ_=>(#[]:Array af)) OP rfl;have g3:=ag (seqObj "list" #[] 0) (ag (seqObj "tuple" acc.toArray 0) g2);have g4:=be (Obj.mapSeq λ_=>out) g3 rfl;exact⟨_,g4⟩
 obtain⟨n,nw⟩:=nw;exact⟨.ref h1.objs.size,_,I1.laid (t':=tk) (o:=.lst (R7.map V.int)) Qd (al _) ⟨hsz,out.toList,n,hv,by simpa using nw⟩,rfl,q _ R7 (a2.trans M8) a3 (I1.hok.fresh (al _))⟩
theorem vE (K:W.Frag)(w:World)(hc:X.calm=true)(hk:X.K=K:=by rfl)(hw:X.w=w:=by rfl):fL X (.type "set") (λxs H Q=>∃(p:Addr) (ns:List Int),xs=[.ref p]/\(gp K H p (ns.map V.int)\/iz K H p (ns.map V.int))/\ns.length<4000 /\
  ∀(l:Addr) (ms:List Int),ms.Nodup->(∀k,k∈ms↔k∈ns)->ms.length<=ns.length->H l=none->Q (.ref l) (d0 H l (.ext (gS w l ms)))):=by
 subst hk hw;intro pins s σ H xs us Q I r h;obtain⟨p,ns,rfl,hp,og,q⟩:=h;obtain⟨u,rfl,ru⟩:=vals1 r;cases ru
 have mem:∀(n:Nat) (k:Int),n=ns.length->(k∈ig (λi=>ns.getD i 0) n↔k∈ns):=by
  intro n k e;subst e;rw[vz,List.mem_iff_getElem];constructor
  .rintro⟨j,hj,e⟩
   exact⟨j,hj,by rw[<- e];simp[hj]⟩
  .rintro⟨j,hj,e⟩
   exact⟨j,hj,by rw[<- e];simp[hj]⟩
 have gG:∀(n:Nat) (h':Heap) (tk:Nat),n=ns.length->gS X.w s.heap.objs.size (ig (λi=>ns.getD i 0) n) h'->(∀b o,s.heap.get? b=some o->h'.get? b=some o)->EP X pins σ Q (.ref s.heap.objs.size) { s with heap:=h',toks:=tk }:=by
  intro n h' tk e x kp;have ol:=pQ (λi=>ns.getD i 0) n;refine⟨.ref s.heap.objs.size,_,I.laid (t':=tk) (o:=.ext (gS X.w s.heap.objs.size (ig (λi=>ns.getD i 0) n))) kp (al _) ⟨x,?_,λh1 h2 x k=>x.keep k⟩,rfl,q _ _ (ya _ _) (λk=>mem n k e) (!1) (I.hok.fresh (al _))⟩;obtain⟨o,_,_,_,e,_⟩:=x;exact⟨o,e⟩
 have Om:∀B:Around,B.handled=none->B.in1.in1.in1.handled=none:=λB h=>by simp[h]
 rcases hp with hp | hp
 .obtain⟨its,rv,pl,hz⟩:=I.list hp
  obtain⟨o,ho,Jd,n,hd⟩:=pl.isList;obtain⟨oc,Xy,Xz,Bx⟩:=o;simp only at Jd hd;subst Jd hd;have hl:=rv.length;rw[ai] at hl;have m7:p<s.heap.objs.size:=ax ho
  exact vA (s:=s) (ns:=ns) ho PySem.F.sub_list_set PySem.F.sub_list_frozenset (!2) (by simpa using IntsAre.oI rv) (by rw[show scanBound=4096 from rfl,aB];omega)
   (λ{A' E' Q' z} e h=>wpAny_pyIter_list ⟨_,e,rfl,_,rfl⟩ h) (Walks.list (Om _ (I.ok.hd hc)) _ p (aQ (cj m7)) its.toArray)
   (λz hz e=>⟨⟨_,BQ hz rfl,rfl,rfl⟩,⟨_,ag _ e,rfl,_,rfl⟩⟩) λh' tk x kp=>gG _ h' tk (by rw[aB];omega) x kp
 .obtain⟨its,rv,pl,hz⟩:=I.tuple hp
  obtain⟨o,ho,Jd,n,hd⟩:=pl;obtain⟨oc,Xy,Xz,Bx⟩:=o;simp only at Jd hd;subst Jd hd;have hl:=rv.length;rw[ai] at hl;have m7:p<s.heap.objs.size:=ax ho
  exact vA (s:=s) (ns:=ns) ho PySem.F.sub_tuple_set PySem.F.sub_tuple_frozenset (!2) (by simpa using IntsAre.oI rv) (by rw[show scanBound=4096 from rfl,aB];omega)
   (λ{A' E' Q' z} e h=>wpAny_pyIter_tuple ⟨_,e,rfl,_,rfl⟩ h) (Walks.tuple (Om _ (I.ok.hd hc)) _ p (aQ (cj m7)) its.toArray)
   (λz hz e=>⟨⟨_,BQ hz rfl,rfl,rfl⟩,⟨_,ag _ e,rfl,_,rfl⟩⟩) λh' tk x kp=>gG _ h' tk (by rw[aB];omega) x kp
end
noncomputable def Qj (K:W.Frag)(a:Addr):It :=
 ⟨λi H=>∃xs x,gp K H a xs/\xs[i]? = some x,λi H x H'=>∃T xi,x=.ref T/\H T=none/\H'=d0 H T (.tup [.int (i:Nat),xi])/\∀xs,gp K H a xs->xs[i]? = some xi,λi H=>∃xs,gp K H a xs/\xs.length<=i⟩
theorem Au {P:aV}{w:World}{K:W.Frag}{xZ:List Expr}{k:Nat}{pos:Pos}(a e it:Addr)(gQ:e≠it):zM P w K (.Tuple xZ k pos) (Qj K a) [e,it] e (λi h=>(∃old,IsEnum h e it (i:Nat) old)/\h.IsListIter it a i) where
 mem:=by simp
 obj:=λi h st b hb=>by
  obtain⟨⟨old,he⟩,o,ho,hc,hd⟩:=st;rcases ap.mp hb with z | z
  .subst z
   exact⟨_,he,λv z=>by cases z⟩
  .have z':b=it:=by simpa using z
   subst z';exact⟨o,ho,λv z=>by rw[hd] at z;cases z⟩
 keep:=λi h h' st kp=>by
  obtain⟨⟨old,he⟩,hi⟩:=st;exact⟨⟨old,kp e (!4) _ he⟩,hi.at λo q=>kp it (!4) o q⟩
 item:=by
  intro X hP hw hK hc i pins s σ H E I hf st hg;subst hP hw hK;obtain⟨⟨old,he⟩,hi⟩:=st;obtain⟨xs,x,hq,hx⟩:=hg;obtain⟨its,rv,p,hz⟩:=I.list hq;obtain⟨u,hu,ru⟩:=rv.get hx;refine wpAny_pyNext_enum_item he hi p.isList (x:=u) (by simpa using hu) gQ λh1 eo i1 t1 _ kp=>⟨_,rfl,wpAny_letOwnedTupleGo_enum eo λh2 en sb=>?_⟩;have pE:e<s.heap.objs.size:=ax he;have Tr:it<s.heap.objs.size:=by obtain⟨_,q,_⟩:=hi;exact ax q
  have Qd:∀b o,b≠e->b≠it->s.heap.get? b=some o->h2.get? b=some o:=λb o n1 n2 q=>(sb.2 b n1).trans (kp b o n1 n2 q);have i2:h2.IsListIter it a (i+1):=i1.at λo q=>(sb.2 it (Ne.symm gQ)).trans q;have t2:h2.get? s.heap.objs.size=some { cls:=.type "tuple",data:=.seq #[.int i s.toks,u] }:=(sb.2 _ (b4 pE)).trans t1;obtain⟨f0,f1,f2,f3,f4,f5⟩:=hf it (!4);obtain⟨g0,g1,g2,g3,g4,g5⟩:=hf e (!4);obtain⟨oi,Ts,Xe,Tt⟩:=id i2;obtain⟨o0,Tu,_⟩:=id hi;have m1:(s.heap.update it λ_=>oi).get? it=some oi:=be (λ_=>oi) Tu (Obj.isFreed_of_fields Tt);have I1:Inv X pins σ H { s with heap:=s.heap.update it λ_=>oi,toks:=s.toks+1 }:=I.turned (λb o hb q=>(aI _ _ (Ne.symm hb)).trans q) f0 f1 f3 f4 f5
  have Tv:∀b o,b≠e->(s.heap.update it λ_=>oi).get? b=some o->h2.get? b=some o:=λb o hb q=>by
   by_cases KZ:b=it
   .subst KZ
    rw[m1] at q;cases q;exact Ts
   .exact Qd b o hb KZ ((aI _ _ (Ne.symm KZ)).symm.trans q)
  have I2:Inv X pins σ H { s with heap:=h2,toks:=s.toks+1 }:=Inv.turned (s:={ s with heap:=s.heap.update it λ_=>oi,toks:=s.toks+1 }) (h':=h2) (t':=s.toks+1) I1 Tv g0 g1 g3 g4 g5;obtain⟨p0,p1,p2,p3,p4,p5⟩:=I.r6 (al s.heap.objs.size) (I.hok.fresh (al _))
  have I3:Inv X pins σ (d0 H s.heap.objs.size (.tup [.int (i:Nat),x])) { s with heap:=h2,toks:=s.toks+1 } :=
   I2.BF (o:=.tup [.int (i:Nat),x]) t2 p0 p1 p3 p4 p5 ⟨by show 2<=au;decide,[.int i s.toks,u],.cons ⟨_,rfl⟩ (.cons ru .nil),⟨_,t2,rfl,_,rfl,rfl⟩⟩
  refine⟨.ref s.heap.objs.size,_,I3,rfl,⟨_,x,rfl,p0,rfl,λys hy=>by rw[I.xG hy hq];exact hx⟩,⟨⟨u,by simpa using en⟩,i2⟩,λb hb=>?_⟩
  have Qe:b≠s.heap.objs.size:=by
   rcases ap.mp hb with z | z
   .rw[z];exact aQ pE
   .have z':b=it:=by simpa using z
    rw[z'];exact aQ Tr
  rw[du Qe];exact (hf b hb).1
 done:=by
  intro X hP hw hK hc i pins s σ H E I hf st hg;subst hP hw hK;obtain⟨⟨old,he⟩,hi⟩:=st;obtain⟨xs,hq,hx⟩:=hg;obtain⟨its,rv,p,hz⟩:=I.list hq;obtain⟨f0,f1,f2,f3,f4,f5⟩:=hf it (!4);have hl:=rv.length;exact wpAny_pyNext_enum_end (I.ok.hd hc) he hi p.isList (by simp;omega) λh' eb=>⟨rfl,I.turned (t':=s.toks) (λb o hb q=>eb b o hb q) f0 f1 f3 f4 f5⟩
 self:=λ_ _ _ _ _ st h=>by
  obtain⟨⟨old,he⟩,_⟩:=st;exact wpAny_pyIter_enum he h
section
variable {X:Cx}{xZ:List Expr}{k:Nat}{Je:Pos}
def FF (K:W.Frag)(te:TE):TE:=λσ H Q=>te σ H λx H1=>∃(p:Addr) (ns:List Int),x=.ref p/\(gp K H1 p (ns.map V.int)\/iz K H1 p (ns.map V.int))/\ns.length<64 /\
 ∀(l:Addr) (ms:List Int) (H2:Hp),Ext [] H1 H2->H1 l=none->H2 l=some (.lst (ms.map V.int))->ms.Pairwise (· < ·)->(∀k,k∈ms↔k∈ns)->ms.length<=ns.length->Q (.ref l) H2
def Qk (te:TE):TE:=λσ H Q=>∃D:VK,te σ H D/\∀x H1,D x H1->Q x H1
theorem QE.mono (he:QE X e te):QE X e (Qk te):=⟨λpins s σ H Q I ⟨D,h,k⟩=>fy (he.run pins s σ H D I h) λv s1 ⟨x,H1,I1,r1,q1⟩=>⟨x,H1,I1,r1,k x H1 q1⟩⟩
theorem qI {l:List Int}(h:l.Pairwise (·<=·))(d:l.Nodup):l.Pairwise (· < ·):=by
 have:=h.and d;exact this.imp λ{a b} ⟨h1,h2⟩=>by omega
theorem wN (K:W.Frag){e:Expr}{te:TE}{p1 p2 q1 q2:Pos}(hc:X.calm=true)(g1:Gl X "sorted")(m1:X.mg "sorted" = none)(g2:Gl X "set")(m2:X.mg "set" = none)(he:QE X e te)(hk:X.K=K:=by rfl)(hs:d9 e=true:=by rfl) :
  QE X (.Call (.Name "sorted" p1) [.Call (.Name "set" p2) [e] [] q2] [] q1) (FF K te):=by
 have FG:=fk (p:=p2) (pos:=q2) (vE K X.w hc hk rfl) g2 m2 (!3) (gI he.mono d7 hs);have outer:=gU (p:=p1) (pos:=q1) (wM X.w hc rfl) g1 m1 (!3) (gI FG d7);refine outer.weaken λσ H Q h=>?_;refine⟨_,h,λx H1 ⟨p,ns,e1,e2,e3,q⟩=>⟨p,ns,by rw[e1],e2,!1,λl ms nd mm ml hl=>⟨l,ms,rfl,dg,!1,λl2 XA pm ps h2=>?_⟩⟩⟩;refine q l2 XA _ (Ext.trans (.new hl) (.new h2)) ?_ dg (qI ps (pm.nodup_iff.mpr nd)) (λk=>(pm.mem_iff).trans (mm k)) (by rw[pm.length_eq];exact ml)
 cases z:H1 l2 with
 | none=>rfl
 | some o=>exact absurd h2 (by rw[(Ext.new (S:=[]) hl).keep l2 o (!4) z];simp)
end
section
theorem C9 (w:World)(hw:X.w=w:=by rfl):fL X (.builtin "len") (λxs H Q=>∃(l:Addr) (ms:List Int),xs=[.ref l]/\H l=some (.ext (gS w l ms))/\Q (.int ms.length) H):=by
 subst hw;intro pins s σ H xs us Q I r h;obtain⟨l,ms,rfl,hl,q⟩:=h;obtain⟨u,rfl,ru⟩:=vals1 r;obtain rfl:u=af.ref l:=ru;obtain⟨o,es,ep,t,e,ex,hd,ie,pm,sb,ft,g⟩:=(show eQ X.prog X.w H s.heap l (.ext (gS X.w l ms)) from I.hok _ _ hl).1;have hs:es.size=ms.length:=by rw[<- pm.length_eq,ie.len,bq]
 have hb:scanBound=4096:=rfl;refine call_len_set e ex hd ft (!1) ?_;rw[hs];exact⟨.int ms.length,H,I.tok _,⟨_,rfl⟩,q⟩
end
theorem ee:∀{ms ns:List Int},ms.Nodup->(∀k∈ms,k∈ns)->ms.length<=ns.length
 | [],_,_,_=>bU _
 | m::ms,ns,nd,h=>by
  have hm:=h m (ao ..);obtain⟨n1,n2⟩:=bF.mp nd;have ih:=ee (ms:=ms) (ns:=ns.erase m) n2 λk hk=>(List.mem_erase_of_ne (λ(z:k=m)=>n1 (z ▸ hk))).mpr (h k (am _ hk));rw[List.length_erase_of_mem hm] at ih;have:=List.length_pos_of_mem hm;simp only[aj];omega
theorem vF:∀{ns ms:List Int},ms.Nodup->(∀k,k∈ms↔k∈ns)->ms.length=ns.length->ns.Nodup
 | [],_,_,_,_=>List.nodup_nil
 | a::t,ms,nd,h,hl=>by
  have ha:a ∉ t:=λXB=>by
   have:=ee (ns:=t) nd λk hk=>by
    rcases ap.mp ((h k).mp hk) with z | z
    .exact z ▸ XB
    .exact z
   simp only[aj] at hl;omega
  have XD:a∈ms:=(h a).mpr (ao ..);refine bF.mpr ⟨ha,vF (ms:=ms.erase a) (nd.erase a) (λk=>?_) ?_⟩
  .constructor
   .intro hk
    have HI:=(List.Nodup.mem_erase_iff nd).mp hk;exact (ap.mp ((h k).mp HI.2)).resolve_left HI.1
   .intro hk
    exact (List.Nodup.mem_erase_iff nd).mpr ⟨λz=>ha (z ▸ hk),(h k).mpr (am _ hk)⟩
  .rw[List.length_erase_of_mem XD]
   simp only[aj] at hl;omega
theorem sG {ms ns:List Int}(nd:ms.Nodup)(mem:∀k,k∈ms↔k∈ns):(ms.length=ns.length)↔ns.Nodup :=
 ⟨vF nd mem,λh=>Nat.le_antisymm (ee nd λk hk=>(mem k).mp hk) (ee h λk hk=>(mem k).mpr hk)⟩
section
variable {X:Cx}
def Jf:V->List V->Hp->VK->Prop:=λx vs H Q=>∃(l:Addr) (ns:List Int) (k:Int) (j:Nat),x=.ref l/\vs=[.int k]/\H l=some (.lst (ns.map V.int))/\ns[j]? = some k/\(∀i,i<j->ns[i]? ≠ some k)/\Q (.int j) H
theorem C':VF X "list.index" Jf:=by
 intro pins s σ H x vs v us Q I rx rv h;obtain⟨l,ns,k,j,rfl,rfl,hH,hj,SK,q⟩:=h;cases rx;obtain⟨u,rfl,ru⟩:=rv.one;obtain⟨t,rfl⟩:=ru;obtain⟨z,its,n,r',hl,e⟩:=I.E1 hH;have hI:IntsAre its ns:=IntsAre.oI r';have len:=IntsAre.length hI;have M9:j<ns.length:=(aG.mp hj).1
 have at':∀(m:Nat) (hm:m<its.toArray.size),∃t,its.toArray[m]=af.int (ns.getD m 0) t:=by
  intro m hm;rw[aB] at hm;have h2:its[m]? = some its[m]:=by simp[hm]
  obtain⟨t,ht⟩:=IntsAre.int_at hI m _ h2;exact⟨t,by simpa using ht⟩
 have V1:∀m,m<ns.length->ns[m]? = some (ns.getD m 0):=λm hm=>by simp[List.getD,hm]
 have XE:its.length<=au:=by rw[<- hl];exact z
 rw[show au=16777216 by decide] at XE
 refine call_meets F.slot_list_index ⟨_,e,rfl⟩ F.entry_list_index (F.args_list_index_2 _ _)
  (PySem.MeetsSeq.list_index l its.toArray n (.int k t) (λy=>match y with | .int a _=>a == k | _=>false) (λy hy=>?_) j (by rw[aB];omega) (!1) ?_ λm hm XG=>?_) ⟨e,?_⟩
 .obtain⟨m,hm,rfl⟩:=Array.getElem_of_mem hy
  obtain⟨t2,FH⟩:=at' m hm;rw[FH];exact PySem.MeetsSeq.EqGives.int _ _ _ _
 .obtain⟨t2,FH⟩:=at' j (by rw[aB];omega)
  rw[FH];have:=V1 j M9;rw[hj] at this;have e3:=Option.some.inj this;show (ns.getD j 0 == k)=true;rw[<- e3];simp
 .obtain⟨t2,FH⟩:=at' m hm
  rw[FH];have h3:=SK m XG;rw[aB] at hm;rw[V1 m (!1)] at h3;have:ns.getD m 0≠k:=λz=>h3 (by rw[z]);simpa using this
 .exact⟨.int j,H,I.tok _,⟨_,rfl⟩,q⟩
end
end L2
namespace L2
open PySem
mutual
theorem dP.more {S:List Addr}{H:Hp}{p:Addr}(hp:H p=none):∀{d:ad} {v:V},dP S H d v->dP (p::S) H d v
 | .none,_,h=>h
 | .bool _,_,h=>h
 | .int _,_,h=>h
 | .str _,_,h=>h
 | .tuple ds,_,h=>by
  unfold dP at h ⊢;obtain⟨a,xs,e,ha,hr⟩:=h;exact⟨a,xs,e,ha,dm.more hp hr⟩
 | .list ds,_,h=>by
  unfold dP at h ⊢;obtain⟨a,xs,e,ha,hs,hr⟩:=h;refine⟨a,xs,e,ha,λz=>?_,dm.more hp hr⟩;rcases ap.mp z with z | z
  .rw[z,hp] at ha;cases ha
  .exact hs z
 | .dict l,_,h=>by
  unfold dP at h ⊢;obtain⟨a,t,kvs,xs,e,el,ha,hs,hk,hr⟩:=h;refine⟨a,t,kvs,xs,e,el,ha,λz=>?_,hk,fV.more hp hr⟩;rcases ap.mp z with z | z
  .rw[z,hp] at ha;cases ha
  .exact hs z
theorem dm.more {S:List Addr}{H:Hp}{p:Addr}(hp:H p=none):∀{ds:List ad} {vs:List V},dm S H ds vs->dm (p::S) H ds vs
 | [],_,h=>h
 | d::ds,_,h=>by
  unfold dm at h ⊢;obtain⟨y,r,e,h1,h2⟩:=h;exact⟨y,r,e,dP.more hp h1,dm.more hp h2⟩
theorem fV.more {S:List Addr}{H:Hp}{p:Addr}(hp:H p=none):∀{l:List (ad × ad)} {vs:List V},fV S H l vs->fV (p::S) H l vs
 | [],_,h=>h
 | (_,d)::l,_,h=>by
  unfold fV z9 at h ⊢;obtain⟨y,r,e,h1,h2⟩:=h;exact⟨y,r,e,dP.more hp h1,fV.more hp h2⟩
end
end L2
namespace L2
open PySem PySem.Spec PyProof.Rows
section
variable {X:Cx}
def Av (t:TT):TT:=λσ H Q=>∃D:Bool->Hp->Prop,t σ H D/\∀b H1,D b H1->Q b H1
theorem QT.mono (he:QT X e t):QT X e (Av t):=⟨λpins s σ H Q I ⟨D,h,k⟩=>fy (he.run pins s σ H D I h) λb s1 ⟨H1,I1,q1⟩=>⟨H1,I1,k b H1 q1⟩⟩
theorem Dc (hp:PassesOwn (model X.prog X.w) X.A X.env X.xe)(hc:QT X c tA)(hb:vm X body ts):QS X (.While c body [] pos) (rZ (Av tA) ts):=xU hp hc.mono hb
end
theorem Jg (Pv:St->Hp->Prop)(μ:St->Hp->Nat)(h0:Pv σ H)
  (hs:∀σ H,Pv σ H->c σ H λb H1=>if b=true then tb { D with nx:=λσ' H'=>Pv σ' H'/\μ σ' H' < μ σ H,ct:=λσ' H'=>Pv σ' H'/\μ σ' H' < μ σ H,bk:=D.nx } σ H1 else D.nx σ H1):rZ (Av c) tb D σ H :=
 ER Pv μ h0 (λσ H p=>⟨_,hs σ H p,λ_ _ h=>h⟩) (λ_ _ _ _ h ⟨D,a,b⟩=>⟨D,a,λx H1 z=>h _ _ (b _ _ z)⟩)
structure ExcAt (h:Heap) (x:Addr) (cls:af) (od tb:Option Addr):Prop where
 obj:∃oe vs,h.get? x=some oe/\oe.cls=cls/\oe.dict=od/\oe.data=.fields vs/\vs[1]? = some (tb.elim af.none af.ref)
 hd:∀T,tb=some T->T≠x/\∃oT ts,h.get? T=some oT/\oT.data=.fields ts/\ts[3]? = some .none
structure yi (fs:List Addr) (x:Addr) (tb:Option Addr) (h h':Heap):Prop where
 keep:∀b o,h.get? b=some o->b≠x->tb≠some b->b ∉ fs->h'.get? b=some o
 slot:∀b o,h.get? b=some o->b∈fs->∃sl,h'.get? b=some { o with slots:=sl }
 there:∀b o,h.get? b=some o->∃o',h'.get? b=some o'
section
variable {M:Model}{A:Around}{E:af->aq->Prop}{s:aq}
theorem pR {h base:Heap}{l:List Env}(hl:h.FunFrames base l){b:Addr}{o:Obj}{vs:Array af}(ho:h.get? b=some o)(hd:o.data=.fields vs):b ∉ nk l:=λhm=>by
 obtain⟨_,o',Hy,hn⟩:=hl.mem hm;rw[ho] at Hy;cases Hy;exact hn vs hd
theorem oK {base:Heap}{env:Env}{outer:List Env}{L x:Addr}{oe:Obj}{vs:Array af}{head:af}{Ql:Bool}{Q:Unit->aq->Prop}
  (Dd:A.frames=some (env::outer)) (hl:s.heap.FunFrames base (env::outer)) (hf:env.frame=some L) (he:s.heap.get? x=some oe) (hd:oe.data=.fields vs) (hsz:1<vs.size)
  (h:∀h' T,s.heap.objs.size<=T->yi (nk (env::outer)) x none s.heap h'->ExcAt h' x oe.cls oe.dict (some T)->Q () { s with heap:=h' }) :
  ay M A (do setField (.ref x) 1 (<- EntryCells.newEntry head (<- frameOf env) .none (rawInt L) .none (<- entryPlaceOf L Ql))) (λ_ s'=>ay M A (setFlight (.ref x) none) Q E s') E s:=by
 have V2:x ∉ nk (env::outer):=pR hl he hd;refine ae (wpAny_frameOf_fun Dd hl hf λg hg=>ae (wpAny_entryPlaceOf λpl m7=>?_));unfold EntryCells.newEntry newFields;refine ae (aY ?_ (m7.sizeOk5 _ _ _ _ _));have Qm:g.get? x=some oe:=(hg.2.1 x V2).trans he;generalize xK:([head,af.ref L,.none,rawInt L,.none]++(if pl.isEmpty then List.replicate 6 af.none else pl)).toArray=K2
 have h3:3<K2.size:=by
  rw[<- xK];simp only[aB,aO,aj];omega
 have Jh:=ag (h:=g) { cls:=.type "traceback",dict:=none,data:=.fields K2 } Qm;have TF:(g.push { cls:=.type "traceback",dict:=none,data:=.fields K2 }).get? g.objs.size=some { cls:=.type "traceback",dict:=none,data:=.fields K2 }:=aA g rfl;have K3:g.objs.size≠x:=b4 (ax Qm);refine wpAny_setField Jh hd hsz ?_;have Om:=Obj.data_mapFields hd (·.setIfInBounds 1 (af.ref g.objs.size));have R8:=be (Obj.mapFields (·.setIfInBounds 1 (af.ref g.objs.size))) Jh (Obj.isFreed_of_fields Om);have TH:=(aI (g.push { cls:=.type "traceback",dict:=none,data:=.fields K2 }) (Obj.mapFields (·.setIfInBounds 1 (af.ref g.objs.size))) K3.symm).trans TF;have R9:∀b,b≠x->((g.push { cls:=.type "traceback",dict:=none,data:=.fields K2 }).update x (Obj.mapFields (·.setIfInBounds 1 (af.ref g.objs.size)))).get? b=(g.push { cls:=.type "traceback",dict:=none,data:=.fields K2 }).get? b:=λb hb=>aI _ _ (Ne.symm hb);have v1:(vs.setIfInBounds 1 (af.ref g.objs.size))[1]? = some (af.ref g.objs.size):=by simp[hsz]
 have Qn:(Obj.mapFields (·.setIfInBounds 1 (af.ref g.objs.size)) oe).dict=oe.dict:=by
  unfold Obj.mapFields;split<;>rfl
 generalize (g.push { cls:=.type "traceback",dict:=none,data:=.fields K2 }).update x (Obj.mapFields (·.setIfInBounds 1 (af.ref g.objs.size)))=g3 at R8 TH R9 ⊢;unfold setFlight;refine ae (wpAny_field R8 Om (x:=.ref g.objs.size) v1 ?_);rw[if_pos (show (af.ref g.objs.size != af.none)=true by simp)];refine wpAny_setField TH rfl h3 ?_
 have vG:s.heap.get? g.objs.size=none:=by
  rw[hg.1];exact Heap.get?_none_of_le (al _)
 refine h _ g.objs.size (Nat.le_of_eq hg.1.symm) ⟨λb o hb HJ _ HK=>?_,λb o hb HK=>?_,λb o hb=>?_⟩ ⟨⟨_,_,(aI _ _ K3).trans R8,Obj.cls_mapFields _ _,Qn,Om,v1⟩,λT eT=>?_⟩
 .have HL:g.objs.size≠b:=λz=>by rw[<- z,vG] at hb;cases hb
  have:g.get? b=some o:=(hg.2.1 b HK).trans hb;exact (aI _ _ HL).trans ((R9 b HJ).trans (ag _ this))
 .have HL:g.objs.size≠b:=λz=>by rw[<- z,vG] at hb;cases hb
  have HJ:b≠x:=λz=>V2 (z ▸ HK);obtain⟨sl,e⟩:=hg.2.2 b o hb;exact⟨sl,(aI _ _ HL).trans ((R9 b HJ).trans (ag _ e))⟩
 .have HL:g.objs.size≠b:=λz=>by rw[<- z,vG] at hb;cases hb
  obtain⟨sl,e⟩:=hg.2.2 b o hb;by_cases HJ:b=x
  .exact⟨_,(aI _ _ HL).trans (HJ ▸ R8)⟩
  .exact⟨_,(aI _ _ HL).trans ((R9 b HJ).trans (ag _ e))⟩
 .cases eT
  exact⟨K3,_,_,be _ TH (Obj.isFreed_of_fields (Obj.data_mapFields rfl _)),Obj.data_mapFields rfl _,by simp[h3]⟩
theorem qJ {base:Heap}{env:Env}{outer:List Env}{L x:Addr}{cls:af}{od tb:Option Addr}{Q:Unit->aq->Prop}
  (Dd:A.frames=some (env::outer)) (hl:s.heap.FunFrames base (env::outer)) (hf:env.frame=some L) (e:ExcAt s.heap x cls od tb)
  (h:∀h' T,s.heap.objs.size<=T->yi (nk (env::outer)) x tb s.heap h'->ExcAt h' x cls od (some T)->Q () { s with heap:=h' }) :
  ay M A (noteFrame (.ref x) env) (λ_ s'=>ay M A (setFlight (.ref x) none) Q E s') E s:=by
 obtain⟨⟨oe,vs,he,rfl,rfl,hd,h1⟩,ht⟩:=e;have hsz:1<vs.size:=(cI.mp h1).1;unfold noteFrame;simp only[hf];refine ae (wpAny_field he hd h1 ?_)
 cases tb with
 | none =>
  rw[if_neg (show ¬ ((none:Option Addr).elim af.none af.ref != af.none)=true by decide)];exact oK Dd hl hf he hd hsz h
 | some T =>
  obtain⟨K3,oT,ts,hT,HM,h3⟩:=ht T rfl;have R':3<ts.size:=(cI.mp h3).1;rw[if_pos (show ((some T:Option Addr).elim af.none af.ref != af.none)=true by simp)];refine ae (wpAny_field hT HM h3 ?_);rw[if_neg (show ¬ (af.none == rawInt L)=true by simp[rawInt])];refine ae (wpAny_setField hT HM R' ?_);have ot:∀b,b≠T->(s.heap.update T (Obj.mapFields (·.setIfInBounds 3 af.none))).get? b=s.heap.get? b:=λb hb=>aI _ _ (Ne.symm hb);have Qo:=be (Obj.mapFields (·.setIfInBounds 3 af.none)) hT (Obj.isFreed_of_fields (Obj.data_mapFields HM _));have TJ:T ∉ nk (env::outer):=pR hl hT HM;have Qq:(s.heap.update T (Obj.mapFields (·.setIfInBounds 3 af.none))).objs.size=s.heap.objs.size:=Heap.size_after_update ..;generalize hg:s.heap.update T (Obj.mapFields (·.setIfInBounds 3 af.none))=g at ot Qo Qq ⊢;have HG:g.FunFrames base (env::outer):=hl.of_keeps λb o hb hn=>⟨o,(ot b λz=>by rw[z,hT] at hb;cases hb;exact hn ts HM).trans hb,rfl⟩;refine oK (s:={ s with heap:=g }) Dd HG hf ((ot x K3.symm).trans he) hd hsz λh' T' hn nt ea=>h h' T' (Qq ▸ hn) ⟨λb o hb HJ HL HK=>?_,λb o hb HK=>?_,λb o hb=>?_⟩ ea
  .have:b≠T:=λz=>HL (by rw[z])
   exact nt.keep b o ((ot b this).trans hb) HJ (!4) HK
  .have:b≠T:=λz=>TJ (z ▸ HK)
   exact nt.slot b o ((ot b this).trans hb) HK
  .by_cases z:b=T
   .subst z
    exact nt.there b _ Qo
   .exact nt.there b o ((ot b z).trans hb)
end
noncomputable def mY (x:Addr)(cls:af)(od:Option Addr):Heap->Prop:=λh=>∃oe vs,h.get? x=some oe/\oe.cls=cls/\oe.dict=od/\oe.data=.fields vs
theorem ExcAt.TK (e:ExcAt h x cls od tb):mY x cls od h:=let ⟨oe,vs,a,b,c,d,_⟩:=e.obj;⟨oe,vs,a,b,c,d⟩
theorem BS (r:mY x cls od h):eQ P w H h x (.ext (mY x cls od)):=by
 refine⟨r,let ⟨oe,_,e,_⟩:=r;⟨oe,e⟩,λh1 h2 ⟨oe,vs,e,r⟩ k=>⟨oe,vs,k _ e,r⟩⟩
def Ji (P:aV)(w:World):Eu:=λouter H s E e s'=>∃(x:Addr) (cls:af) (od:Option Addr) (T:Addr) (H':Hp),e=.ref x/\s'.os=s.os/\AllBare s'.gens/\Un (nk outer) [] H H' s.heap s'.heap/\ka P w H' s'.heap /\
 H' x=some (.ext (mY x cls od))/\H' T=none/\s.heap.objs.size<=x/\s.heap.objs.size<=T/\ExcAt s'.heap x cls od (some T)/\E cls od H'
noncomputable def XP (X:Cx)(pins:List (Addr × Obj))(σ:St)(E:XK)(e:af)(s':aq):Prop:=∃(x:Addr) (cls:af) (od tb:Option Addr) (H':Hp),e=.ref x/\Inv X pins σ H' s'/\H' x=some (.ext (mY x cls od))/\X.s₀.heap.objs.size<=x/\(∀p∈X.pn++pins,p.1≠x) /\
 (∀T,tb=some T->H' T=none/\X.s₀.heap.objs.size<=T/\∀p∈X.pn++pins,p.1≠T)/\ExcAt s'.heap x cls od tb/\E cls od H'
def sH (X:Cx)(E:XK):Prop:=∀(pins:List (Addr × Obj)) (σ:St) (e:af) (s':aq),XP X pins σ E e s'->X.xe e s'
section
theorem Qr (I:Inv X pins σ H s)(h:Ji X.prog X.w X.stack H s E e s'):XP X pins σ E e s':=by
 obtain⟨x,cls,od,T,H',rfl,os,bare,un,hok,nx,nT,sx,sT,ea,q⟩:=h;have sz:=I.sz;have lt:∀p∈X.pn++pins,p.1<s.heap.objs.size:=λp hp=>ax (I.pin p hp).1;refine⟨x,cls,od,some T,H',rfl,I.Kf os un hok bare (λb z=>absurd z (!4)),nx,aT sz sx,λp hp z=>absurd (z ▸ lt p hp) (cV.mpr sx),λT' eT=>?_,ea,q⟩;cases eT;exact⟨nT,aT sz sT,λp hp z=>absurd (z ▸ lt p hp) (cV.mpr sT)⟩
theorem Jj (hf:env.frame=some L)(h:b∈nk (env::outer)):b=L\/b∈nk outer:=by
 unfold nk at *;rw[bO,hf] at h;exact ap.mp h
theorem Jk (h:b∈nk outer):b∈nk (env::outer):=by
 unfold nk at *;rw[bO];split
 .exact h
 .exact am _ h
theorem ka.yj {P:aV}{w:World}{h h':Heap}{fs:List Addr}{x:Addr}{cls:af}{od tb:Option Addr}(ok:ka P w H h)(nt:yi fs x tb h h')(nx:H x=some (.ext (mY x cls od)))(fl:mY x cls od h')(nT:∀T,tb=some T->H T=none)(nf:∀b∈fs,H b=none):ka P w H h':=λa o e=>by
 have key:∀b (u:HO),b≠x->H b=some u->∀v,h.get? b=some v->h'.get? b=some v:=λb u HJ hb v hv =>
  nt.keep b v hv HJ (λz=>by rw[nT b z] at hb;cases hb) λz=>by rw[nf b z] at hb;cases hb
 by_cases V3:a=x
 .subst V3
  rw[nx] at e;cases e;exact BS fl
 .refine (ok a o e).zL (λb v hb q=>?_) (λb q=>q) λb xs q=>q
  rcases hb with rfl | hb
  .exact key b o V3 e v q
  .exact key b _ (λz=>by rw[z,nx] at hb;cases hb) hb v q
end
theorem De {P:aV}{w:World}{K:W.Frag}{mg:Str->Option af}{base:Heap}{N:List Str}{eK:Str}{scope:Scope}{f:Addr}{cd:af}{A:Around}{outer:List Env}{s:aq}{H:Hp}{E:XK} :
  sH (kF (Ji P w) P w K mg base N eK scope f cd A outer s H E) E:=by
 rintro pins σ e s' ⟨x,cls,od,tb,H',rfl,I,nx,sx,px,hT,ea,q⟩;have frames:=I.ok.frames;have stack:=I.stack;have free:=I.rE;show ay _ _ (leaving _ _) _ _ _;unfold leaving;have bs:Un (nk outer) [] H H' s.heap s'.heap:=I.base;have above:s.heap.objs.size<=s.heap.objs.size:=al _;refine ae (qJ frames stack rfl ea λh' T' hn nt V4=>⟨x,cls,od,T',H',rfl,I.os,I.bare,?_,I.hok.yj nt nx V4.TK (λT e=>(hT T e).1) free,nx,?_,sx,?_,V4,q⟩)
 .have out:∀b (o:Obj),s.heap.get? b=some o->b≠x/\tb≠some b/\b≠s.heap.objs.size:=λb o hb=>by
   have lt:=ax hb;exact⟨λz=>absurd (z ▸ lt) (cV.mpr sx),λz=>absurd lt (cV.mpr (hT b z).2.1),λz=>absurd (z ▸ lt) (bh _)⟩
  refine⟨λb o hb n hf hx=>?_,λb o hb n hf hx=>?_,bs.free,λb o hb hx=>?_,bs.wk,bs.uz,bs.wm⟩
  .obtain⟨o1,o2,o3⟩:=out b o hb
   exact nt.keep b o (bs.keep b o hb n hf hx) o1 o2 λz=>(Jj rfl z).elim o3 hf
  .obtain⟨sl,e1⟩:=bs.slot b o hb n hf hx
   obtain⟨Sv,e2⟩:=nt.slot b _ e1 (Jk hf);exact⟨Sv,e2⟩
  .obtain⟨o',e1⟩:=bs.there b o hb hx
   exact nt.there b o' e1
 .exact I.hok.fresh hn
 .exact aT I.sz hn
section
variable {P:aV}{w:World}{K:W.Frag}{mg:Str->Option af}{base:Heap}
theorem uD.XH {x eK:Str}{st:Stmt}{f:Addr}{fd:bt}{N ps:List Str}{k:Nat}{sp:Sp}(F:uD K x eK st f fd)(S:eO N ps (c8 st))(len:∀vs H Q E,sp vs H Q E->vs.length=ps.length)
  (sg:∀(d8:af) (A:Around) (outer:List Env) (s:aq) (H:Hp) (vs:List V) (Q:VK) (E:XK),fu k (A.deeper (envOfC eK (c8 st) s.heap.objs.size f d8))->sp vs H Q E ->
   ∃t,vm (kF (Ji P w) P w K mg base N eK (c8 st) f d8 A outer s H E) (fc st) t/\t { nx:=λ_ H'=>Q .h8 H',rt:=Q } (start N vs) H):iO P w K mg base (Ji P w) (k+1) f fd ps sp:=by
 obtain⟨oc,od,kV,sf,pm,an,d8,ct,Bx,rfl,lk,jl⟩:=F.ex;refine Kr lk jl S len λA outer s H vs Q E hr xB=>?_;obtain⟨t,h,q⟩:=sg d8 A outer s H vs Q E hr xB;exact⟨t,h.run,q⟩
structure FI (P:aV) (w:World) (K:W.Frag) (mg:Str->Option af) (base:Heap) (k:Nat) (x:Str) (ps:List Str) (sp:Sp):Prop where
 ex:∃(f:Addr) (fd:bt),iO P w K mg base (Ji P w) k f fd ps sp/\mg x=some (.ref f)/\W.keepIn K (.ref f)=true/\Binds K fd ps []
end
def M' (sp:Sp)(E:XK)(t:TA):TE:=λσ H Q=>t σ H λvs H1=>sp vs H1 Q E
structure Df (K:W.Frag) (C:Addr):Prop where
 ga:W.findIn K (.ref C) "__getattribute__" = some (some (.builtin "BaseException.__getattribute__"))
 gh:W.findIn K (.ref C) "__getattr__" = some none
 sa:W.findIn K (.ref C) "__setattr__" = some (some (.builtin "object.__setattr__"))
 hd:W.hasDictIn K C=true
 XI:W.mroIn K C (.type "BaseException")=some true
 iso:W.mroIn K C (.type "object")=some true
section
variable {prog:aV}{w:World}{A:Around}{E:af->aq->Prop}{K:W.Frag}{x C dx:Addr}{o:Obj}{mA:Str->Option af}{name:Str}{v:af}
def lZ:List af->Bool
 | [.type a,.type b,.type c,.type d]=>a == "ValueError" && b == "Exception" && c == "BaseException" && d == "object"
 | .ref _::r=>lZ r
 | _=>false
theorem vH (self:af):∀{l:List af},lZ l=true->refuseLoop self "__setattr__" l=pure ()
 | [.type a,.type b,.type c,.type d],e=>by
  simp only[lZ,aZ,beq_iff_eq] at e;obtain⟨⟨⟨rfl,rfl⟩,rfl⟩,rfl⟩:=e;exact PySem.F.store_ValueError.passes self
 | .ref c::r,e=>by
  rw[refuseLoop_ref];exact vH self (by cases r<;>first | exact e | cases e)
theorem qK (X:K.In s.heap)(c:Df K C)(jl:W.clsIn K C=some cd)(Jl:lZ cd.mro=true)(I:W.InstAt s.heap x o C od)(na:W.findIn K (.ref C) name=some none)
  (q:ay (model prog w) A.in1 (Builtin.ObjectAttr.storeInOwnDict (.ref x) (.ref C) (.str name tk) name v false) (λgG s'=>match gG with | .done f=>R (.ok f) s' | .again c'=>c'.quiet=true/\codeAny (model prog w) A c' R s') (λe s'=>R (.error e) s') s) :
  codeAny (model prog w) A (.call (.builtin "object.__setattr__") ⟨[.ref x,.str name tk,v],[]⟩) R s:=by
 have SF:=PySem.F.store_object;have L0:=I.type (M:=model prog w);have L3:=W.looks_findIn (M:=model prog w) X na;have L4:=W.looks_mroIn (M:=model prog w) X c.iso;have L6:W.Looks (model prog w) s.heap (mroOf (.ref C)) cd.mro:=(W.looks_clsIn X jl).andThen .now;refine codeAny_call_builtin SF.slot.plain SF.entry ?_;refine @W.check_slot (model prog w) _ _ s "object.__setattr__" "object" "__setattr__" (.ref x) [.str name tk,v] [] _ SF.kind SF.split (L0.andThen L4) (SF.args (.ref x) (.str name tk) v) ?_;show ay _ _ (Builtin.«object.__setattr__» ⟨[.ref x,.str name tk,v],[]⟩) _ _ _;rw[W.osa_eq,refuse_eq];refine ae (ae (L0.here (ae (L6.here ?_))));rw[vH _ Jl];refine ak (ae (L0.here (ae (L3.here ?_))));exact ae (ak q)
theorem Aw {s:aq}{Q:Unit->aq->Prop}{cd:ClassData}{vs:Array af}(X:K.In s.heap)(c:Df K C)(jl:W.clsIn K C=some cd)(Jl:lZ cd.mro=true)(hx:s.heap.get? x=some o)(hc:o.cls=.ref C)(hd:o.dict=none)(hf:o.data=.fields vs)(na:W.findIn K (.ref C) name=some none)
  (q:∀h' tk,h'.get? x=some { o with dict:=some s.heap.objs.size }->h'.Ns1 s.heap.objs.size (λy=>if y=name then some v else none)->(∀b u,b≠x->s.heap.get? b=some u->h'.get? b=some u)->Q () { s with heap:=h',toks:=tk }) :
  ay (model prog w) A (setAttr (.ref x) name v) Q E s:=by
 have I:W.InstAt s.heap x o C none:=⟨hx,hc,by unfold W.notCls;rw[hf],by rw[hd];trivial⟩
 have TL:cd.hasDict=true:=by
  obtain⟨XJ,e1,e2⟩:=W.any_some c.hd;rw[jl] at e1;cases e1;exact e2
 have Qs:x≠s.heap.objs.size:=aQ (ax hx);refine W.set_plain X I c.sa (qK (s:={ s with toks:=s.toks+1 }) X c jl Jl I na ?_);unfold Builtin.ObjectAttr.storeInOwnDict;refine ae (ak ?_);show ay _ _ (Builtin.ObjectAttr.ownDictForStores (.ref x) >>= _) _ _ _;refine ae ?_;show ay _ _ (instanceDict x true) _ _ _;unfold instanceDict;refine ae (wpAny_loadPart hx ?_);rw[hc,hd,hf];refine ae (W.Looks.here (s:={ s with toks:=s.toks+1 }) (W.looks_clsIn X jl) ?_);rw[TL];show ay _ _ (alloc { cls:=.type "dict",data:=.dict #[] } >>= _) _ _ _;have Qm:(s.heap.push { cls:=.type "dict",data:=.dict #[] }).get? x=some o:=ag _ hx;have Bs:({ o with dict:=some s.heap.objs.size }:Obj).isFreed=false:=Obj.isFreed_of_fields (vs:=vs) hf;refine ae (wpAny_alloc' ?_);refine ae (wpAny_update' Qm ?_);refine ak ?_;have Na:((s.heap.push { cls:=.type "dict",data:=.dict #[] }).update x (λo=>{ o with dict:=some s.heap.objs.size })).get? s.heap.objs.size=some { cls:=.type "dict",data:=.dict #[] }:=(Heap.get?_update_ne _ _ _ _ Qs.symm).trans (Heap.get?_push_at rfl rfl);have Jh:=be (λo=>{ o with dict:=some s.heap.objs.size }) Qm Bs;have ot:∀b u,b≠x->s.heap.get? b=some u->((s.heap.push { cls:=.type "dict",data:=.dict #[] }).update x (λo=>{ o with dict:=some s.heap.objs.size })).get? b=some u:=λb u hb hu=>(Heap.get?_update_ne _ _ _ _ hb).trans (ag _ hu);generalize (s.heap.push { cls:=.type "dict",data:=.dict #[] }).update x (λo=>{ o with dict:=some s.heap.objs.size })=g at Na Jh ot ⊢;have XM:g.Ns s.heap.objs.size (λ_=>none):=⟨_,#[],_,Na,rfl,λe he=>absurd he (!4),λ_=>rfl⟩;show ay _ _ (Builtin.ObjectAttr.storeInDict s.heap.objs.size (.str name s.toks) name v) _ _ _;unfold Builtin.ObjectAttr.storeInDict Builtin.ObjectAttr.newKeyGuard;refine ae (ak (ae (wpAny_nsSet1 (Heap.Ns1.of_empty XM) λh' CC hs=>?_)));obtain⟨oD,XN,XO,TM,TN,TQ⟩:=CC.count (PySem.Within.cons name v PySem.Within.nil);refine ae (wpAny_lookBehind TM (by rw[TN];exact pastItsLine_dict (aT TQ (by rw[aj,aJ,sizeLine_eq];omega))) ?_);refine ak ?_;exact q h' _ ((hs.2 x Qs).trans Jh) CC λb u hb hu=>(hs.2 b (aQ (ax hu))).trans (ot b u hb hu)
theorem yk {s:aq}{Q:Unit->aq->Prop}{cd:ClassData}{vs:Array af}{ns:List Str}(X:K.In s.heap)(c:Df K C)(jl:W.clsIn K C=some cd)(Jl:lZ cd.mro=true)(hx:s.heap.get? x=some o)(hc:o.cls=.ref C)(hd:o.dict=some dx)(hf:o.data=.fields vs)(hn:s.heap.Ns1 dx mA)(na:W.findIn K (.ref C) name=some none)
  (hw:PySem.Within mA ns) (hz:ns.length<=1000) (q:∀h' tk,h'.Ns1 dx (λy=>if y=name then some v else mA y)->Heap.SameBut dx s.heap h'->Q () { s with heap:=h',toks:=tk }) :
  ay (model prog w) A (setAttr (.ref x) name v) Q E s:=by
 obtain⟨od,Dg,_⟩:=u7 hn;have I:W.InstAt s.heap x o C (some od):=⟨hx,hc,by unfold W.notCls;rw[hf],by rw[hd];exact Dg⟩
 have TL:cd.hasDict=true:=by
  obtain⟨XJ,e1,e2⟩:=W.any_some c.hd;rw[jl] at e1;cases e1;exact e2
 refine W.set_plain X I c.sa (qK (s:={ s with toks:=s.toks+1 }) X c jl Jl I na ?_);unfold Builtin.ObjectAttr.storeInOwnDict;refine ae (ak ?_);show ay _ _ (Builtin.ObjectAttr.ownDictForStores (.ref x) >>= _) _ _ _;refine ae ?_;show ay _ _ (instanceDict x true) _ _ _;unfold instanceDict;refine ae (wpAny_loadPart hx ?_);rw[hc,hd,hf];refine ae (W.Looks.here (s:={ s with toks:=s.toks+1 }) (W.looks_clsIn X jl) ?_);rw[TL];refine ak (a:=some dx) ?_;show ay _ _ (Builtin.ObjectAttr.storeInDict dx (.str name s.toks) name v) _ _ _;unfold Builtin.ObjectAttr.storeInDict Builtin.ObjectAttr.newKeyGuard;refine ae (ak (ae (wpAny_nsSet1 (s:={ s with toks:=s.toks+1 }) hn λh' CC hs=>?_)));obtain⟨oD,XN,XO,TM,TN,TQ⟩:=CC.count (PySem.Within.cons name v hw);refine ae (wpAny_lookBehind TM (by rw[TN];exact pastItsLine_dict (aT TQ (by rw[aj,sizeLine_eq];omega))) ?_);exact ak (q h' _ CC hs)
end
abbrev qL:List af:=[.type "ValueError",.type "Exception",.type "BaseException",.type "object"]
section
abbrev oM (u:Heap)(C:Addr)(us:List af):Heap:=(u.push { cls:=.type "tuple",data:=.seq us.toArray }).push { cls:=.ref C,data:=.fields #[.ref u.objs.size,.none,.none,.none,.bool false,.none] }
theorem kI (h:u.get? b=some o):(oM u C us).get? b=some o:=ag _ (ag _ h)
theorem ym:(oM u C us).get? (u.objs.size+1)=some { cls:=.ref C,data:=.fields #[.ref u.objs.size,.none,.none,.none,.bool false,.none] }:=by heap_get
theorem Ax (hK:u.get? C=some (excClassObj nm qn C N bs bm sI sn sub ab FJ dd k0 k1 k2 k3 k5 "ValueError.__new__"))(tl:OwnTail u qL bm)(LI:W.Looks (model prog w) u (typeLookup (.ref C) "__init__") (some (.ref fI)))(LF:W.Looks (model prog w) u (typeOf (.ref fI)) (.type "function"))(hl:us.length<=au)
  (q:ay (model prog w) A (call (.ref fI) (.ref (u.objs.size+1)::us)) (λr s'=>r=.none/\Q (.done (.ret (.ref (u.objs.size+1)))) s') E ⟨oM u C us,gs,dr,tk,Qt⟩) :
  ay (model prog w) A (Builtin.«type.__call__» ⟨.ref C::us,[]⟩) Q E ⟨u,gs,dr,tk,Qt⟩:=by
 have F:=PySem.F.excBase_ValueError;have XR:(oM u C us).get? C=some (excClassObj nm qn C N bs bm sI sn sub ab FJ dd k0 k1 k2 k3 k5 "ValueError.__new__"):=kI hK;have XS:=LI.keeps (h':=oM u C us) λb o hb=>kI hb;have XT:=LF.keeps (h':=oM u C us) λb o hb=>kI hb;have XU:(af.ref C::bm).contains (.ref C)=true:=by simp
 have hX:=ym (u:=u) (C:=C) (us:=us);repeat (first | (with_reducible refine wpAny_loadPart_at hK ?_) | (with_reducible refine wpAny_madeBy_exc hK ?_) | wp_step)
 refine codeAny_call_builtin_code (Code.quiet_builtin _ F.quiet) ?_;refine wpAny_check_new_subT F tl hK (codeAny_exc_new_subT F tl hK ?_ hl);show ay _ _ _ _ _ ⟨oM u C us,gs,dr,tk,Qt⟩;unfold isInstance;repeat (first | (with_reducible refine wpAny_loadPart_at hX ?_) | ((with_reducible refine wpAny_isSubtype_exc XR ?_);rw[XU]) | wp_step)
 show ay _ _ (typeLookup (.ref C) "__init__") _ _ _;refine XS.at (wpAny_holding (ae ?_));unfold bindSpecial;refine ae (XT.at ?_);rw[if_pos (!2)];refine ak (ae (bD q (λr s' hr=>?_) λ_ _ z=>z));obtain⟨rfl,hQ⟩:=hr
 wp_walk
 exact hQ
theorem Ay (hK:u.get? C=some (excClassObj nm qn C N bs bm sI sn sub ab FJ dd k0 k1 k2 k3 k5 "ValueError.__new__"))(tl:OwnTail u qL bm)(LI:W.Looks (model prog w) u (typeLookup (.ref C) "__init__") (some (.ref fI)))(LF:W.Looks (model prog w) u (typeOf (.ref fI)) (.type "function"))(hl:us.length<=au)
  (q:ay (model prog w) (A.under (.builtin "type.__call__" ⟨.ref C::us,[]⟩)) (call (.ref fI) (.ref (u.objs.size+1)::us)) (λr s'=>r=.none/\Q (.ref (u.objs.size+1)) s') E ⟨oM u C us,gs,dr,tk,Qt⟩) :
  ay (model prog w) A (call (.ref C) us) Q E ⟨u,gs,dr,tk,Qt⟩:=by
 have g1:=tc_lookup;have g2:=tc_bind (.ref C);have ZY:(⟨u,gs,dr,tk,Qt⟩:aq).TypeIs (.ref C) "type" := ⟨_,hK,rfl⟩;refine wpAny_call (codeAny_of_tree ?_);show ay _ _ (callAny (.ref C) _) _ _ _;repeat (any_goals (first | assumption | (with_reducible refine wpAny_loadPart_at hK ?_) | wp_step))
 refine⟨rfl,codeAny_call_builtin_at (Code.quiet_builtin _ (!3)) entry_typeCall ?_⟩;exact wpAny_check_type_call_sub hK (Ax hK tl LI LF hl q)
end
noncomputable def kJ (x C:Addr)(od:Option Addr):Heap->Prop:=λh=>∃(oe:Obj) (t:Addr),h.get? x=some oe/\oe.cls=.ref C/\oe.dict=od/\oe.data=.fields #[.ref t,.none,.none,.none,.bool false,.none]
noncomputable def lD (d:Addr)(fs:List (Str × V)):Heap->Prop:=λh=>∃mA,h.Ns1 d mA/\∀g,oh (fs.lookup g) (mA g)
theorem BU (r:kJ x C od h):eQ P w H h x (.ext (kJ x C od)):=by
 refine⟨r,let ⟨oe,_,e,_⟩:=r;⟨oe,e⟩,λh1 h2 ⟨oe,vs,e,r⟩ k=>⟨oe,vs,k _ e,r⟩⟩
theorem yn (r:lD d fs h):eQ P w H h d (.ext (lD d fs)):=by
 refine⟨r,let ⟨_,⟨o,_,_,e,_⟩,_⟩:=r;⟨o,e⟩,λh1 h2 ⟨mA,⟨o,es,ep,e,c⟩,r⟩ k=>⟨mA,⟨o,es,ep,k _ e,c⟩,r⟩⟩
theorem sL (ok:ka P w H h)(e:H a=some (.ext φ)):φ h:=(show eQ P w H h a (.ext φ) from ok a _ e).1
structure wO (K:W.Frag) (C:Addr):Prop where
 cls:Df K C
 ve:∃cd,W.clsIn K C=some cd/\lZ cd.mro=true
 ty:∃o,K.lookup C=some o/\o.cls=.type "type"
section
theorem FK (I:Inv X pins σ H s)(c:wO X.K C)(na:W.findIn X.K (.ref C) f=some none)(e:H x=some (.ext (kJ x C none)))(r:RelV y v)
  (q:∀d s',H d=none->d≠x->Inv X pins σ (d0 (d0 H x (.ext (kJ x C (some d)))) d (.ext (lD d [(f,y)]))) s'->Q () s'):ay (model X.prog X.w) X.A (setAttr (.ref x) f v) Q X.xe s:=by
 obtain⟨oe,t,hx,hc,hd,hf⟩:=sL I.hok e;obtain⟨cd,jl,Jl⟩:=c.ve;have Qs:s.heap.objs.size≠x:=b4 (ax hx);have Dd:H s.heap.objs.size=none:=I.hok.fresh (al _);refine Aw I.pJ c.cls jl Jl hx hc hd hf na λh' tk R3 CC kp=>q s.heap.objs.size _ Dd Qs ?_;have raw:kJ x C (some s.heap.objs.size) h':=⟨_,t,R3,hc,rfl,hf⟩
 have I1:Inv X pins σ (d0 H x (.ext (kJ x C (some s.heap.objs.size)))) { s with heap:=h',toks:=tk } :=
  I.write (x:=x) (e:=x) (by rw[e];trivial) (.inl rfl) (λb u hb hu=>kp b u hb hu) ⟨_,R3⟩ (BU raw)
 obtain⟨od,es,ep,Dg,rest⟩:=id CC;have sz:=I.sz;refine I1.BF (a:=s.heap.objs.size) Dg ?_ (b4 I.lt) (.inr sz) (λz cl hz e'=>?_) (λp hp e'=>?_) (yn ⟨_,CC,λg=>?_⟩)
 .rw[du Qs]
  exact Dd
 .obtain⟨vv,ob,hb,_⟩:=I.cell z cl hz
  exact absurd (e' ▸ ax hb) (bh _)
 .exact absurd (e' ▸ ax (I.pin p hp).1) (bh _)
 .by_cases hg:g=f
  .subst hg
   simp only[bv,beq_self_eq_true,if_true];exact r
  .have hb:(g == f)=false:=by simpa using hg
   simp only[bv,hb,if_neg hg,List.lookup_nil];trivial
theorem Dh (I:Inv X pins σ H s)(c:wO X.K C)(na:W.findIn X.K (.ref C) f=some none)(e:H x=some (.ext (kJ x C (some dx))))(ed:H dx=some (.ext (lD dx fs)))(hl:fs.length<=900)(r:RelV y v)
  (q:∀s',Inv X pins σ (d0 H dx (.ext (lD dx (CJ f y fs)))) s'->Q () s'):ay (model X.prog X.w) X.A (setAttr (.ref x) f v) Q X.xe s:=by
 obtain⟨oe,t,hx,hc,hd,hf⟩:=sL I.hok e;obtain⟨mA,hn,rm⟩:=sL I.hok ed;obtain⟨cd,jl,Jl⟩:=c.ve
 have hw:PySem.Within mA (fs.map (·.1)):=λg hg=>by
  cases hk:fs.lookup g with
  | none =>
   have:=rm g;rw[hk] at this
   cases hm:mA g with
   | none=>exact absurd hm hg
   | some u=>rw[hm] at this;exact this.elim
  | some z=>exact bb.mpr ⟨(g,z),PySem.mem_of_lookup hk,rfl⟩
 refine yk I.pJ c.cls jl Jl hx hc hd hf hn na hw (by rw[ai];omega) λh' tk CC sb=>q _ ?_;obtain⟨od,es,ep,Dg,rest⟩:=id CC;refine I.write (x:=dx) (e:=dx) (by rw[ed];trivial) (.inl rfl) (λb u hb hu=>(sb.2 b hb).trans hu) ⟨_,Dg⟩ (yn ⟨_,CC,λg=>?_⟩);rw[qF];by_cases hg:g=f
 .rw[if_pos hg,if_pos hg];exact r
 .rw[if_neg hg,if_neg hg];exact rm g
def Qu (K:W.Frag)(C:Addr)(ta tv:TE)(f:Str):TS:=λD σ H=>tv σ H λy H1=>ta σ H1 λu H2=>∃x,u=.ref x/\wO K C/\W.findIn K (.ref C) f=some none /\
 ((H2 x=some (.ext (kJ x C none))/\∀d,H2 d=none->d≠x->D.nx σ (d0 (d0 H2 x (.ext (kJ x C (some d)))) d (.ext (lD d [(f,y)])))) \/
 ∃dx fs,H2 x=some (.ext (kJ x C (some dx)))/\H2 dx=some (.ext (lD dx fs))/\fs.length<=900/\D.nx σ (d0 H2 dx (.ext (lD dx (CJ f y fs)))))
theorem Jm (K:W.Frag)(C:Addr)(ha:QE X oe ta)(hv:QE X value tv)(hs:swapsWith value (some (.Attribute oe f ij)) pos.line X.env=pure false:=by rfl)(hk:X.K=K:=by rfl):QS X (.Assign [.Attribute oe f ij] value pos) (Qu K C ta tv f):=by
 subst hk;refine⟨λpins s σ H D I h=>?_⟩;refine plainObj_wpAny_Assign_Attribute (fy (hv.run pins s σ H _ I h) λu s1 ⟨y,H1,I1,ry,q⟩=>fy (ha.run pins s1 σ H1 _ I1 q) λov s2 ⟨z,H2,I2,rz,x,ez,c,na,way⟩=>?_) hs;subst ez;obtain rfl:ov=af.ref x:=rz;rcases way with⟨e,q2⟩ | ⟨dx,fs,e,ed,hl,q2⟩
 .exact FK I2 c na e ry λd s3 hd Qv I3=>⟨σ,_,I3,q2 d hd Qv⟩
 .exact Dh I2 c na e ed hl ry λs3 I3=>⟨σ,_,I3,q2⟩
end
def FN (C:Addr)(f:Str):Sp:=λvs H Q _=>∃(x:Addr) (a:V),vs=[.ref x,a]/\H x=some (.ext (kJ x C none))/\∀d,H d=none->d≠x->Q .h8 (d0 (d0 H x (.ext (kJ x C (some d)))) d (.ext (lD d [(f,a)])))
structure Nb (K:W.Frag) (J:Addr):Prop where
 ex:∃c0 dd cd sl c1 d1 es n V5,K.lookup J=some ⟨c0,dd,.cls cd,sl⟩/\K.lookup cd.ns=some ⟨c1,d1,.dict es n,V5⟩/\StrKeys es/\nsFind es "__init__" = none
theorem Nb.tail {K:W.Frag}{J:Addr}{h:Heap}(j:Nb K J)(X:K.In h):OwnTail h qL (.ref J::qL):=by
 obtain⟨c0,dd,cd,sl,c1,d1,es,n,V5,e1,e2,e3,e4⟩:=j.ex;exact .own (X _ _ e1) ⟨_,es,n,X _ _ e2,rfl,e3,λ_=>rfl⟩ e4 .base
structure Oo (K:W.Frag) (C fI:Addr):Prop where
 obj:∃J nm qn N bs sI sn sub ab FJ dd k0 k1 k2 k3 k5,K.lookup C=some (excClassObj nm qn C N bs (.ref J::qL) sI sn sub ab FJ dd k0 k1 k2 k3 k5 "ValueError.__new__")/\Nb K J
 init:W.findIn K (.ref C) "__init__" = some (some (.ref fI))
 fn:W.isFn K (.ref fI)=true
 kp:W.keepIn K (.ref C)=true
 cls:Df K C
theorem Oo.ec {K:W.Frag}{C fI:Addr}(m:Oo K C fI):wO K C:=by
 obtain⟨J,nm,qn,N,bs,sI,sn,sub,ab,FJ,dd,k0,k1,k2,k3,k5,e,_⟩:=m.obj;refine⟨m.cls,⟨{ name:=nm,bases:=bs,mro:=.ref C::.ref J::qL,ns:=N,qualname:=qn,hasDict:=sI,slotNames:=sn,subclasses:=sub,abstract:=ab,collection:=FJ,hasDel:=false },?_,by simp[lZ]⟩,_,e,rfl⟩;unfold W.clsIn;rw[e]
section
theorem Inv.Qw (I:Inv X pins σ H s):Inv X pins σ (d0 H (s.heap.objs.size+1) (.ext (kJ (s.heap.objs.size+1) C none))) { s with heap:=oM s.heap C us }:=by
 have sz:(s.heap.push { cls:=.type "tuple",data:=.seq us.toArray }).objs.size=s.heap.objs.size+1:=bE _ _;exact I.laid (a:=s.heap.objs.size+1) (t':=s.toks) (λb u q=>kI q) (b9 _) (BU ⟨_,_,ym,rfl,rfl,rfl⟩)
theorem Di {R:Hp->Prop}{us:List af}{vs:List V}(M:Oo X.K C fI)(F:iO X.prog X.w X.K X.mg X.base uj k fI fd ps sp)(hr:fu (k+1) X.A)(hb:Binds X.K fd ps [])(I:Inv X pins σ H s)(r:dO vs us)(hl:vs.length<=100)
  (hq:sp (.ref (s.heap.objs.size+1)::vs) (d0 H (s.heap.objs.size+1) (.ext (kJ (s.heap.objs.size+1) C none))) (λv H2=>v=.h8/\R H2) E0) :
  ay (model X.prog X.w) X.A (call (.ref C) us) (λu s'=>u=.ref (s.heap.objs.size+1)/\∃H',Inv X pins σ H' s'/\R H') X.xe s:=by
 have I2:=Inv.Qw (C:=C) (us:=us) I;have r2:dO (V.ref (s.heap.objs.size+1)::vs) (af.ref (s.heap.objs.size+1)::us):=.cons rfl r
 have XW:((af.ref (s.heap.objs.size+1)::us)++[]).length=ps.length:=by
  rw[bj,<- r2.length];exact F.len _ _ _ _ hq
 obtain⟨J,nm,qn,N,bs,sI,sn,sub,ab,FJ,dd,k0,k1,k2,k3,k5,e,hj⟩:=M.obj;have X0:=I.pJ;have XX:us.length<=au:=by rw[<- r.length];exact aT hl (!2)
 have Qx:=hb _ (af.ref (s.heap.objs.size+1)::us) I2.pJ XW;rw[bj] at Qx;refine Ay (X0 _ _ e) (hj.tail X0) (W.looks_findIn X0 M.init) (W.looks_typeIn X0 (beq_iff_eq.mp M.fn)) XX ?_;refine wpAny_call (codeAny_mono (F.run _ X.stack _ _ ⟨af.ref (s.heap.objs.size+1)::us,[]⟩ (af.ref (s.heap.objs.size+1)::us) _ (λv H2=>v=.h8/\R H2) E0 (hr.make C us []) (I2.Mo.make C us []) Qx r2 hq) λrr s' FO=>?_)
 cases rr with
 | error e=>exact False.elim FO
 | ok fl =>
  cases fl with
  | ret u =>
   obtain⟨v,H',I3,rv,ev,q3⟩:=I2.after FO;subst ev;exact⟨rv,rfl,_,I3,q3⟩
  | next=>exact False.elim FO
  | brk=>exact False.elim FO
  | cont=>exact False.elim FO
def FP (C:Addr)(sp:Sp)(E:XK)(t:TA):TS:=λ_ σ H=>t σ H λvs H1=>vs.length<=100/\∀x,H1 x=none->sp (.ref x::vs) (d0 H1 x (.ext (kJ x C none))) (λv H2=>v=.h8/\∃od,H2 x=some (.ext (kJ x C od))/\E (.ref C) od (d0 H2 x (.ext (mY x (.ref C) od)))) E0
theorem FQ (E:XK)(M:Oo X.K C fI)(F:iO X.prog X.w X.K X.mg X.base uj k fI fd ps sp)(hr:fu (k+1) X.A)(hm:X.mg x=some (.ref C))(hb:Binds X.K fd ps [])(Oq:sH X E)(hc:X.calm=true)(ha:QA X (e::es) t)(hg:Gl X x:=by rfl)(lK:(x == ("__debug__" : Str))=false:=by decide) :
  QS X (.Raise (some (.Call (.Name x p) (e::es) [] f6)) none pos) (FP C sp E t):=by
 refine⟨λpins s σ H D I h=>?_⟩;rw[arm_exec_Raise];show ay _ _ (standAt pos >>= λ_=>raiseStmt X.env (some (eval (.Call (.Name x p) (e::es) [] f6) X.env >>= λv=>standAt pos >>= λ_=>pure v)) none) _ _ _;refine ae (wpAny_standAt ?_);unfold raiseStmt
 have ev:ay (model X.prog X.w) X.A (eval (.Call (.Name x p) (e::es) [] f6) X.env) (λu s2=>∃(a:Addr) (H2:Hp) (od:Option Addr),u=.ref a/\X.s₀.heap.objs.size<=a/\(∀p∈X.pn++pins,p.1≠a)/\Inv X pins σ H2 s2/\H2 a=some (.ext (kJ a C od))/\E (.ref C) od (d0 H2 a (.ext (mY a (.ref C) od)))) X.xe s:=by
  refine wpAny_Call_Name_kw (rG I hg hm ?_ lK);refine W.callWith_K (h₀:=X.base) I.ok.mod.OJ M.kp (fy (ha.run f6 pins s σ H _ I h) λus s1 ⟨vs,H1,I1,r,hl,q⟩=>⟨I1.pJ,?_⟩) (eR (jI ha.ns).1) (il (jI ha.ns).2);refine fy (Di M F hr hb I1 r hl (q (s1.heap.objs.size+1) (I1.hok.fresh (b9 _)))) λu s2 ⟨eu,H2,I2,od,e2,q2⟩=>⟨_,H2,od,eu,aT I1.sz (b9 _),λp hp z=>?_,I2,e2,q2⟩;exact absurd (z ▸ ax (I1.pin p hp).1) (cV.mpr (b9 _))
 refine ae (ae (fy ev λu s1 ⟨a,H1,od,eu,sa,pa,I1,ex,q⟩=>ae (wpAny_standAt (ak ?_))));subst eu;obtain⟨oe,t,hx,Jd,Dg,V6⟩:=sL I1.hok ex;have L:=W.looks_mroIn (M:=model X.prog X.w) I1.pJ M.cls.XI;obtain⟨oC,XY,XZ⟩:=M.ec.ty;have hC:=I1.pJ _ _ XY;obtain⟨oc,TR,ZZ,Bx⟩:=oe;dsimp only at Jd Dg V6;subst Jd Dg V6
 have gG:X.xe (.ref a) s1:=by
  have I2:Inv X pins σ (d0 H1 a (.ext (mY a (.ref C) TR))) s1 :=
   I1.write (x:=a) (e:=a) (h':=s1.heap) (t':=s1.toks) (o:=.ext (mY a (.ref C) TR)) (by rw[ex];trivial) (.inl rfl) (λb u _ hu=>hu) ⟨_,hx⟩ (BS ⟨_,_,hx,rfl,rfl,rfl⟩)
  exact Oq pins σ _ s1 ⟨a,.ref C,TR,none,_,rfl,I2,dg,sa,pa,(λT e=>nomatch e),⟨⟨_,_,hx,rfl,rfl,rfl,rfl⟩,λT e=>nomatch e⟩,q⟩
 have hh:=I1.ok.hd hc;obtain⟨hp,g,d,tk,os⟩:=s1;repeat (first | (with_reducible refine wpAny_loadPart_at hx ?_) | ((with_reducible refine wpAny_loadPart_at hC ?_);rw[XZ]) | (with_reducible refine L.at ?_) | wp_step)
 exact wpAny_raiseNew_none hh gG
end
structure Qy (K:W.Frag) (C:Addr):Prop where
 cx:Df K C
 ha:W.findIn K (.ref C) "__class__" = some (some (.builtin "object.__class__"))
 hn:W.specialIn K (.builtin "object.__class__") "__get__" = some (some (.builtin "getset_descriptor.__get__"))
 tk:W.takesIn K (.builtin "object.__class__")=some true
structure V7 (X:Cx) (e:Expr) (t:XK->TE):Prop where
 run:∀(E:XK) (pins:List (Addr × Obj)) (s:aq) (σ:St) (H:Hp) (Q:VK),Inv X pins σ H s->t E σ H Q->ay (model X.prog X.w) X.A (eval e X.env) (EP X pins σ Q) (XP X pins σ E) s
section
theorem Jn (F:iO X.prog X.w X.K X.mg X.base (Ji X.prog X.w) k f fd ps sp)(hr:fu k X.A)(hb:Binds X.K fd ps [])(I:Inv X pins σ H s)(r:dO vs us)(h:sp vs H Q E) :
  ay (model X.prog X.w) X.A (call (.ref f) us) (EP X pins σ Q) (XP X pins σ E) s:=by
 have hl:(us++[]).length=ps.length:=by rw[bj,<- r.length];exact F.len _ _ _ _ h
 have Qx:=hb s us I.pJ hl;rw[bj] at Qx;refine wpAny_call (codeAny_mono (F.run X.A X.stack s H ⟨us,[]⟩ us vs Q E hr I.Mo Qx r h) λrr s' hq=>?_)
 cases rr with
 | error e=>exact Qr I hq
 | ok fl =>
  cases fl with
  | ret u=>exact I.after hq
  | next=>exact False.elim hq
  | brk=>exact False.elim hq
  | cont=>exact False.elim hq
theorem Jo (D:FI X.prog X.w X.K X.mg X.base k x ps sp)(hr:fu k X.A)(ha:∀Ex,QA (X.pK Ex) (e::es) t)(hg:Gl X x:=by rfl)(lK:(x == ("__debug__" : Str))=false:=by decide) :
  V7 X (.Call (.Name x p) (e::es) [] pos) (λE=>M' sp E t):=by
 obtain⟨f,fd,F,hm,hk,hb⟩:=D.ex;refine⟨λE pins s σ H Q I h=>wpAny_Call_Name_kw (rG I hg hm ?_ lK)⟩;have hA:=ha (XP X pins σ E);refine W.callWith_K (h₀:=X.base) I.ok.mod.OJ hk (fy (hA.run pos pins s σ H _ (I.pK _) h) λus s1 ⟨vs,H1,I1,r,q⟩=>⟨I1.jU.pJ,?_⟩) (eR (jI hA.ns).1) (il (jI hA.ns).2);exact Jn F hr hb I1.jU r q
theorem BV {x:Addr}{cls:af}{od:Option Addr}(I:Inv X pins σ H s)(f:mY x cls od s.heap):x≠X.env.locals/\∀y c,X.env.cells.lookup y=some c->c≠x:=by
 obtain⟨oe,vs,hx,_,_,hd⟩:=f;refine⟨λz=>?_,λy c hc z=>?_⟩
 .obtain⟨m,⟨o,es,ep,ho,Es,_⟩,_⟩:=I.loc
  rw[<- z,hx] at ho;cases ho;rw[hd] at Es;cases Es
 .obtain⟨v,o,ho,Es⟩:=I.cell y c hc
  rw[z,hx] at ho;cases ho;rw[hd] at Es;cases Es
theorem Inv.yj (I:Inv X pins σ H s)(nt:yi (nk X.stack) x tb s.heap h')(ex:H x=some (.ext (mY x cls od)))(fl:mY x cls od h')(sx:X.s₀.heap.objs.size<=x)(px:∀p∈X.pn++pins,p.1≠x)
  (hT:∀T,tb=some T->H T=none/\X.s₀.heap.objs.size<=T/\∀p∈X.pn++pins,p.1≠T) (tT:∀T,tb=some T->∃oT ts,s.heap.get? T=some oT/\oT.data=.fields ts):Inv X pins σ H { s with heap:=h' }:=by
 have fx:=BV I (sL I.hok ex);refine I.call (g':=s.gens) (t':=s.toks) (d':=s.drawn) (ch:=x::tb.toList) ⟨λb o hb n hf hc=>?_,λb o hb n hf hc=>nt.slot b o hb hf,λb o hb n _=>n,λb o hb _=>nt.there b o hb,λ_ _ e=>e,λ_ _ _ e=>e,λb ps e=>⟨#[],by rw[e];simp⟩⟩ (I.hok.yj nt ex fl (λT e=>(hT T e).1) I.rE) I.bare λb hb=>?_
 .refine nt.keep b o hb (λz=>hc (by rw[z];exact ao ..)) (λz=>hc (am _ (by rw[z];simp))) hf
 .rcases ap.mp hb with rfl | hb
  .exact⟨.inr sx,fx.1,fx.2,px⟩
  .have e:tb=some b:=by
    cases tb with
    | none=>cases hb
    | some T=>simp at hb;rw[hb]
   obtain⟨oT,ts,h1,h2⟩:=tT b e;have fT:=BV (x:=b) (cls:=oT.cls) (od:=oT.dict) I ⟨oT,ts,h1,rfl,rfl,h2⟩;exact⟨.inr (hT b e).2.1,fT.1,fT.2,(hT b e).2.2⟩
end
def wQ (X:Cx)(x:Addr):Cx:={ X with A:=X.A.mark (some (.ref x)),calm:=false,xe:=λ_ _=>False }
theorem Inv.wQ (I:Inv X pins σ H s)(x:Addr):Inv (wQ X x) pins σ H s :=
 ⟨⟨I.ok.mod,I.ok.kind,I.ok.glob,I.ok.blt,I.ok.above,I.ok.inj,I.ok.has,I.ok.Od,λz=>(by cases z),I.ok.frames,I.ok.OK,I.ok.Ss,I.ok.bs,I.ok.HS,I.ok.CB,I.ok.EG,I.ok.pI,I.ok.Kc⟩,I.os,I.bare,I.base,I.loc,I.cell,I.free,I.freeC,I.pin,I.hok,I.len⟩
theorem Inv.wR (ok:X.Ok)(I:Inv (L2.wQ X x) pins σ H s):Inv X pins σ H s :=
 ⟨ok,I.os,I.bare,I.base,I.loc,I.cell,I.free,I.freeC,I.pin,I.hok,I.len⟩
theorem flight_again (hl:s.heap.FunFrames base l)(ea:ExcAt s.heap x cls od (some T))
  (h:∀h',yi (nk l) x (some T) s.heap h'->ExcAt h' x cls od (some T)->Q () { s with heap:=h' }):ay M A (setFlight (.ref x) none) Q Ex s:=by
 obtain⟨⟨oe,vs,he,hc,Dg,hd,h1⟩,ht⟩:=ea;obtain⟨K3,oT,ts,hT,HM,h3⟩:=ht T rfl;have R':3<ts.size:=(cI.mp h3).1;unfold setFlight;refine ae (wpAny_field he hd h1 ?_);rw[if_pos (show ((some T:Option Addr).elim af.none af.ref != af.none)=true by simp)];refine wpAny_setField hT HM R' ?_;have ot:∀b,b≠T->(s.heap.update T (Obj.mapFields (·.setIfInBounds 3 ((none:Option Addr).elim af.none λf=>rawInt f)))).get? b=s.heap.get? b:=λb hb=>aI _ _ (Ne.symm hb);have Qo:=be (Obj.mapFields (·.setIfInBounds 3 ((none:Option Addr).elim af.none λf=>rawInt f))) hT (Obj.isFreed_of_fields (Obj.data_mapFields HM _));have TJ:T ∉ nk l:=pR hl hT HM;refine h _ ⟨λb o hb _ HL _=>?_,λb o hb HK=>?_,λb o hb=>?_⟩ ⟨⟨oe,vs,(ot x K3.symm).trans he,hc,Dg,hd,h1⟩,λT' e=>?_⟩
 .exact (ot b λz=>HL (by rw[z])).trans hb
 .exact⟨o.slots,(ot b λz=>TJ (z ▸ HK)).trans hb⟩
 .by_cases z:b=T
  .subst z
   exact⟨_,Qo⟩
  .exact⟨o,(ot b z).trans hb⟩
 .cases e
  exact⟨K3,_,_,Qo,Obj.data_mapFields HM _,by simp[R']⟩
section
variable {X:Cx}{pins:List (Addr × Obj)}{σ:St}{H:Hp}{s:aq}{D:Ends}{th:TS}{cn n:Str}{C0:Addr}{np Az:Pos}{b0:Stmt}{qM:List Stmt}{j:Nat}{e:af}
noncomputable def oN (K:W.Frag)(C0:Addr)(th:TS)(D:Ends)(σ:St):XK:=λcls od H'=>W.exmOne K cls (.ref C0)=some true/\th D σ H'
theorem Dj (ea:ExcAt h x cls od tb):W.Looks M h (typeOf (.ref x)) cls:=by
 obtain⟨oe,vs,hx,hc,_⟩:=ea.obj;exact hc ▸ (W.Looks.ld hx).andThen .now
theorem Dk (u5:X.stack=X.env::X.outer)(Dd:X.env.frame=some X.env.locals)(hm:X.mg cn=some (.ref C0))(hg:Gl X cn)(lK:(cn == ("__debug__" : Str))=false)(hs:∀x,vm (wQ X x) (b0::qM) th)(h:XP X pins σ (oN X.K C0 th D σ) e s) :
  ay (model X.prog X.w) X.A (noteFrame e X.env) (λ_ s₂=>ay (model X.prog X.w) X.A (setFlight e none) (λ_ s₃=>ay (model X.prog X.w) X.A (handleBy e X.env [.ExceptHandler (some (.Name cn np)) none (b0::qM) Az]) (SP X pins D) X.xe s₃) X.xe s₂) X.xe s:=by
 obtain⟨x,cls,od,tb,H',rfl,I,ex,sx,px,hT,ea,he,q⟩:=h;have frames:=I.ok.frames;have stack:=I.stack;rw[u5] at frames stack;refine qJ frames stack Dd ea λh2 T2 hsz nt Sa=>?_;have I2:Inv X pins σ H' { s with heap:=h2 }:=I.yj (by rw[u5];exact nt) ex Sa.TK sx px hT λT eT=>let ⟨_,oT,ts,a,b,_⟩:=ea.hd T eT;⟨oT,ts,a,b⟩
 have TF:∀T,some T2=some T->H' T=none/\X.s₀.heap.objs.size<=T/\∀p∈X.pn++pins,p.1≠T:=λT eT=>by
  cases eT;exact⟨I.hok.fresh hsz,aT I.sz hsz,λp hp z=>absurd (z ▸ ax (I.pin p hp).1) (cV.mpr hsz)⟩
 refine wpAny_handleBy_cons (codeAny_handlers_test ?_) (by intro z;cases z);refine rG (X:=wQ X x) (I2.wQ x) hg hm ?_ lK;refine (W.exm_one (h:=h2) I2.pJ (Dj Sa) he).here ?_;show codeAny _ _ (.handlers (.ref x) [.ExceptHandler none none (b0::qM) Az] X.env) _ _;refine codeAny_handlers_suite ?_;have Nc:=I2.stack;refine flight_again (T:=T2) Nc Sa λh3 X1 X2=>?_;have I3:Inv X pins σ H' { s with heap:=h3 }:=I2.yj X1 ex X2.TK sx px TF λT eT=>let ⟨_,oT,ts,a,b,_⟩:=Sa.hd T eT;⟨oT,ts,a,b⟩;refine bD ((hs x).run pins _ σ H' D (I3.wQ x) q) (λf s5 xB=>?_) λ_ _ z=>z.elim
 cases f with
 | next=>obtain⟨σ5,H5,I5,q5⟩:=xB;exact⟨σ5,H5,Inv.wR I.ok I5,q5⟩
 | brk=>obtain⟨σ5,H5,I5,q5⟩:=xB;exact⟨σ5,H5,Inv.wR I.ok I5,q5⟩
 | cont=>obtain⟨σ5,H5,I5,q5⟩:=xB;exact⟨σ5,H5,Inv.wR I.ok I5,q5⟩
 | ret u=>obtain⟨v,σ5,H5,I5,r5,q5⟩:=xB;exact⟨v,σ5,H5,Inv.wR I.ok I5,r5,q5⟩
def FR (K:W.Frag)(C0:Addr)(i:Nat)(te:XK->TE)(th:TS):TS:=λD σ H=>te (oN K C0 th D σ) σ H λv H1=>D.nx (σ.set i (some v)) H1
theorem AA (K:W.Frag)(hm:X.mg cn=some (.ref C0))(hN:X.N.Nodup)(hi:X.N[i]? = some x)(hx:Loc X.env.scope x)(he:V7 X ex te)(hs:∀x,vm (wQ X x) (b0::qM) th)
  (u5:X.stack=X.env::X.outer:=by rfl) (Dd:X.env.frame=some X.env.locals:=by rfl) (hg:Gl X cn:=by rfl) (lK:(cn == ("__debug__" : Str))=false:=by decide) (IJ:swapsWith ex (some (.Name x px)) iF.line X.env=pure false:=by rfl) (hf:X.fn x=true\/X.env.scope.names.lookup x=some .local:=by (first | exact .inl rfl | exact .inr rfl | assumption)) (hk:X.K=K:=by rfl) :
  QS X (.Try [.Assign [.Name x px] ex iF] [.ExceptHandler (some (.Name cn np)) none (b0::qM) Az] [] [] pos) (FR K C0 i te th):=by
 subst hk;refine⟨λpins s σ H D I h=>wpAny_Try_except (wpAny_execs_cons (bD (wpAny_Assign_Name (E:=XP X pins σ (oN X.K C0 th D σ)) (fy (he.run _ pins s σ H _ I h) λv s1 ⟨y,H1,I1,r1,q1⟩=>rX I1 hN hi hx r1 (λs2 I2=>?_) hf) IJ) (λf s1 q=>q) λe s1 q=>Dk u5 Dd hm hg lK hs q))⟩;exact wpAny_execs_nil (wpAny_execs_nil ⟨_,H1,I2,q1⟩)
end
structure mH (P:aV) (w:World) (K:W.Frag) (mg:Str->Option af) (base:Heap) (x:Str) (C:Addr) (sp:Sp):Prop where
 ex:∃(fI:Addr) (fd:bt) (ps:List Str),Oo K C fI/\iO P w K mg base uj 1 fI fd ps sp/\mg x=some (.ref C)/\Binds K fd ps []
theorem Dl (E:XK)(R:mH X.prog X.w X.K X.mg X.base x C sp)(hr:fu 2 X.A)(Oq:sH X E)(hc:X.calm=true)(ha:QA X (e::es) t)(hg:Gl X x:=by rfl)(lK:(x == ("__debug__" : Str))=false:=by decide) :
  QS X (.Raise (some (.Call (.Name x p) (e::es) [] f6)) none pos) (FP C sp E t):=by
 obtain⟨fI,fd,ps,M,F,hm,hb⟩:=R.ex;exact FQ E M F hr hm hb Oq hc ha hg lK
def Jp (C:Addr)(f:Str)(a:V)(H:Hp)(E:XK):Prop:=∀d H',H' d=some (.ext (lD d [(f,a)]))->Ext [] H H'->E (.ref C) (some d) H'
theorem Nd (r:Jp C f a H0 E)(x0:Ext [] H0 H)(hx:H x=none):FN C f [.ref x,a] (d0 H x (.ext (kJ x C none))) (λv H2=>v=.h8/\∃od,H2 x=some (.ext (kJ x C od))/\E (.ref C) od (d0 H2 x (.ext (mY x (.ref C) od)))) E0:=by
 refine⟨x,a,rfl,dg,λd hd Qv=>⟨rfl,some d,?_,r d _ ?_ ?_⟩⟩
 .rw[du Qv.symm,dg]
 .rw[du Qv,dg]
 .have Sb:H d=none:=by rw[du Qv] at hd;exact hd
  refine x0.trans ⟨λb o _ hb=>?_,λb xs hb=>?_⟩
  .rw[du (dN hb hx),du (dN hb Sb),du (dN hb hx),du (dN hb hx)]
   exact hb
  .rw[du (dN hb hx),du (dN hb Sb),du (dN hb hx),du (dN hb hx)]
   exact hb
def vI (s:Stmt)(i:Nat):Stmt:=match s with
 | .ClassDef _ _ _ b _ _ _ _ _ _ _=>b.getD i (.Pass ⟨0,0,0,0⟩)
 | _=>.Pass ⟨0,0,0,0⟩
structure Dm (K:W.Frag) (mg:Str->Option af) (x:Str) (D:Addr):Prop where
 nm:mg x=some (.ref D)
 ty:W.typeIn K (.ref D)=some (.type "type")
 cl:(W.clsIn K D).isSome=true
structure uO (K:W.Frag) (C J:Addr):Prop where
 ci:Qy K C
 own:W.mroIn K C (.ref C)=some true
 val:W.mroIn K C (.type "ValueError")=some true
 up:W.mroIn K C (.ref J)=some true
 jx:W.mroIn K J (.type "BaseException")=some true
section
variable {K:W.Frag}{mg:Str->Option af}{x:Str}{C D J:Addr}{b:Bool}
theorem Dm.TU (o:Dm K mg x D):W.kitCls K (.ref C) (.ref D)=W.mroIn K C (.ref D):=by
 show (if ((W.clsIn K D).isSome && W.typeIn K (.ref D) == some (.type "type"))=true then W.subIn K (.ref C) (.ref D) else none)=_;rw[o.cl,o.ty];rw[if_pos (!4)];rfl
theorem uO.TV (e:uO K C J)(o:Dm K mg x J):W.exmOne K (.ref C) (.ref J)=some true:=by
 unfold W.exmOne;have h:W.subIn K (.ref J) (.type "BaseException")=some true:=e.jx;rw[h,if_pos (!4),o.TU];exact e.up
theorem uO.one (e:uO K C J)(o:Dm K mg x D)(h:W.mroIn K C (.ref D)=some b):W.kitOne K (.ref C) (.ref D)=some b:=by
 unfold W.kitOne;by_cases q:C=D
 .subst q
  have:=e.own;rw[h] at this;rw[if_pos (!4),<- this]
 .rw[if_neg (by simpa using q),o.TU]
  exact h
theorem uO.isVal (e:uO K C J):W.kitOne K (.ref C) (.type "ValueError")=some true:=by
 unfold W.kitOne;rw[if_neg (!4)];show (if W.kitMeta "ValueError" = true then W.subIn K (.ref C) (.type "ValueError") else none)=_;rw[if_pos (!3)];exact e.val
end
def yo (es:Array DictEntry):Bool:=es.toList.all λe=>match e.key with | .str _ _=>true | _=>false
theorem AB (h:yo es=true):StrKeys es:=λe he=>by
 have:=cN.mp h e (by simpa using he);revert this;cases e.key<;>simp
theorem FT {K:W.Frag}{h:Heap}{mg:Str->Option af}{x:Str}{D:Addr}{cd:ClassData}(X:K.In h)(G:h.Ns aS mg)(a:W.nsIn K aS x=some (some (.ref D)))(t:W.typeIn K (.ref D)=some (.type "type"))(c:W.clsIn K D=some cd):Dm K mg x D :=
 ⟨W.mg_of X G a,t,by rw[c];rfl⟩
structure RF (K:W.Frag) (C J fI:Addr):Prop where
 obj:∃nm qn N bs sI sn sub ab FJ dd k0 k1 k2 k3 k5,K.lookup C=some (excClassObj nm qn C N bs (.ref J::qL) sI sn sub ab FJ dd k0 k1 k2 k3 k5 "ValueError.__new__")
 init:W.findIn K (.ref C) "__init__" = some (some (.ref fI))
 fn:W.isFn K (.ref fI)=true
 kp:W.keepIn K (.ref C)=true
 ei:uO K C J
theorem RF.mk' {K:W.Frag}{C J fI:Addr}(r:RF K C J fI)(j:Nb K J):Oo K C fI :=
 let ⟨nm,qn,N,bs,sI,sn,sub,ab,FJ,dd,k0,k1,k2,k3,k5,e⟩:=r.obj
 ⟨⟨J,nm,qn,N,bs,sI,sn,sub,ab,FJ,dd,k0,k1,k2,k3,k5,e,j⟩,r.init,r.fn,r.kp,r.ei.ci.cx⟩
section
variable {P:aV}{w:World}{K:W.Frag}{mg:Str->Option af}{base:Heap}{C J fI:Addr}{fd:bt}{x q f g:Str}{st:Stmt}{sp:Sp}{ps:List Str}
theorem FU (r:RF K C J fI)(j:Nb K J)(m:mg x=some (.ref C))(F:iO P w K mg base uj 1 fI fd ps sp)(b:Binds K fd ps []):mH P w K mg base x C sp:=⟨fI,fd,ps,r.mk' j,F,m,b⟩
end
structure Sd (X:Cx) (pos:Pos) (keys:List (Option Expr)) (values:List Expr) (CY:List (TE × TE)):Prop where
 run:P8 X pos keys values CY
section
variable {X:Cx}{pos:Pos}
theorem Jq:Sd X pos [] [] []:=⟨I9⟩
theorem BW (hk:QE X k tk)(hv:QE X v tv)(hr:Sd X pos ks vs CY):Sd X pos (some k::ks) (v::vs) ((tk,tv)::CY):=⟨Fv hk.run hv.run hr.run⟩
theorem Jr (h:Sd X pos keys values CY)(zZ:keys.all (·.isSome)=true)(hl:keys.length=values.length)(h0:keys.isEmpty=false)
  (Tq:keys.length<=15):QE X (.Dict keys values pos) (KY CY):=⟨Ja h.run zZ hl (λz=>by rw[z] at h0;cases h0) Tq⟩
end
end L2
namespace PySem
theorem uP (l:Addr)(items:Array af)(n:Nat)(dd:Option Addr)(sl:Array (Option af))(t:Tok) :
  Meets (Builtin.«tuple.__mul__» ⟨[.ref l,.int 1 t],[]⟩) (λ_ R s=>s.heap.get? l=some { cls:=.type "tuple",dict:=dd,data:=.seq items n,slots:=sl }/\R (.ok (.ret (af.ref l))) s) :=
 .of_wp λprog w A R s h=>by
  obtain⟨hp,g,d,tk,os⟩:=s;obtain⟨hl,h⟩:=h;have f1:=AutoSeq1.idx_int
  wp_walk
  exact⟨_,rfl,h⟩
end PySem
namespace L2
open PySem PySem.Spec PyProof.Rows
variable {X:Cx}
def Nf (K:W.Frag):R2:=λx y H Q=>(∃a xs,x=.ref a/\y=.int 1/\iz K H a xs/\Q (.ref a) H)\/KD K x y H Q
theorem FV (K:W.Frag)(h:X.K=K:=by rfl):jF X (binaryOp .Mult) (Nf K):=by
 subst h;intro pins s σ H x y v u Q I rx ry h;rcases h with h | h
 .obtain⟨a,xs,rfl,rfl,hx,q⟩:=h
  cases rx;obtain⟨t,rfl⟩:=ry;obtain⟨its,r,ht,hl⟩:=I.tuple hx;obtain⟨⟨cls,dd,data,sl⟩,ho,hc,n,hd⟩:=id ht;simp only at hc hd;subst hc hd
  exact wpAny_binaryOp_repeat_ref (T := "tuple") (U := "int") (!2) ⟨_,ho,rfl⟩ (λs'=>typeIs_int s' 1 t) kf F.fills_int_mul F.slot_int_rmul oF F.slot_int_index.lookup
   (call_meets F.slot_int_rmul (typeIs_int s 1 t) F.entry_int_rmul (F.args_int_rmul_2 _ _) (lX 1 t a its.toArray n dd sl)
    ⟨ho,rfl,⟨_,ho,rfl⟩,call_meets F.slot_tuple_mul ⟨_,ho,rfl⟩ F.entry_tuple_mul (F.args_tuple_mul_2 _ _) (uP a its.toArray n dd sl t) ⟨ho,⟨.ref a,H,I,rfl,q⟩⟩⟩)
 .exact IY X.K rfl pins s σ H x y v u Q I rx ry h
inductive sM where
 | s (d:ad)
 | o (ds:List ad)
 | x (c:Str) (as:List ad)
 | d (a:Addr) (t:Bool) (kvs:List (List Int × ad))
structure Xc where
 cl:Str->Addr
 fl:Str->List Str
abbrev eI:=List (Option sM)
structure Fr where
 G:Hp->Int->Prop
 gs:List Addr
 S0:List Addr
 H0:Hp
 fa:V
 fd:List Nat
 xc:Xc
 iQ:∀{S:List Addr} {H H':Hp} {n:Int},G H n->Ext S H H'->(∀a∈S,H0 a=none)->G H' n
 yp:∀{H:Hp} {n:Int},G H n->∀a∈gs,H a≠none
 V8:∀{H:Hp} {n:Int},G H n->∀a∈gs,∀φ,H a≠some (.ext φ)
 Se:∀a∈gs,a∈S0
 yq:∀a∈S0,H0 a≠none
def sN (M:Fr)(S:List Addr)(H:Hp):sM->V->Prop
 | .s d,v=>dP S H d v
 | .o ds,v=>∃a xs,v=.ref a/\H a=some (.lst xs)/\dm S H ds xs/\a∈S/\M.H0 a=none
 | .x c as,v=>∃a dx vs,v=.ref a/\H a=some (.ext (mY a (.ref (M.xc.cl c)) (some dx)))/\H dx=some (.ext (lD dx ((M.xc.fl c).zip vs)))/\dm S H as vs/\a ∉ M.gs/\dx ∉ M.gs
 | .d a t kvs,v=>v=.ref a/\∃xs,H a=some (xC t kvs xs)/\dm S H (kvs.map (·.2)) xs/\(t=false->∀p∈kvs,p.1.length=1)/\a∈S/\M.H0 a=none
structure dz (M:Fr) (env:eI) (pn:List (ad × V)) (σ:St) (S:List Addr) (H:Hp) (n:Int):Prop where
 val:∀(i:Nat) (e:sM),env[i]? = some (some e)->∃v,σ[i]? = some (some v)/\sN M S H e v
 ne:∀(i j:Nat) (ds es:List ad) (a:Addr),env[i]? = some (some (.o ds))->env[j]? = some (some (.o es))->σ[i]? = some (some (.ref a))->σ[j]? = some (some (.ref a))->i=j
 len:env.length=σ.length
 FW:∀i∈M.fd,σ[i]? = some (some M.fa)
 gd:M.G H n
 ext:Ext M.gs M.H0 H
 s0:∀a∈M.S0,a∈S
 sn:∀a∈S,a∈M.S0\/M.H0 a=none
 has:∀a∈S,H a≠none
 pin:∀p∈pn,dP S H p.1 p.2
section
theorem Fr.out (M:Fr)(h:M.H0 a=none):a ∉ M.gs:=λz=>M.yq a (M.Se a z) h
theorem dz.yr (ok:dz M env pn σ S H n):∀a∈M.gs,a∈S:=λa h=>ok.s0 a (M.Se a h)
theorem Ext.some (x:Ext S H H')(ha:a ∉ S)(h:H a≠none):H' a≠none:=by
 cases e:H a with
 | none=>exact absurd e h
 | some o=>rw[x.keep a o ha e];simp
theorem sN.step (hg:∀a∈M.gs,a∈S)(h:sN M S H e v)(x:Ext M.gs H H'):sN M S H' e v:=by
 cases e with
 | s d=>exact dP.ext (x.mono hg) h
 | o ds =>
  obtain⟨a,xs,e,ha,r,hs,h0⟩:=h;exact⟨a,xs,e,x.keep _ _ (M.out h0) ha,r.ext (x.mono hg),hs,h0⟩
 | x c as =>
  obtain⟨a,dx,vs,e,ha,hd,r,g1,g2⟩:=h;exact⟨a,dx,vs,e,x.keep _ _ g1 ha,x.keep _ _ g2 hd,r.ext (x.mono hg),g1,g2⟩
 | d a t kvs =>
  obtain⟨e,xs,ha,r,hk,hs,h0⟩:=h;exact⟨e,xs,x.keep _ _ (M.out h0) ha,r.ext (x.mono hg),hk,hs,h0⟩
theorem dz.step (ok:dz M env pn σ S H n)(x:Ext M.gs H H')(g:M.G H' n'):dz M env pn σ S H' n':=by
 refine⟨λi e he=>?_,ok.ne,ok.len,ok.FW,g,ok.ext.trans x,ok.s0,ok.sn,λa ha=>?_,λp hp=>(ok.pin p hp).ext (x.mono ok.yr)⟩
 .obtain⟨v,hv,r⟩:=ok.val i e he
  exact⟨v,hv,r.step ok.yr x⟩
 .by_cases z:a∈M.gs
  .exact M.yp g a z
  .exact x.some z (ok.has a ha)
theorem dz.fresh (ok:dz M env pn σ S H n)(h:H a=none):a ∉ S:=λz=>ok.has a z h
theorem dz.grow (ok:dz M env pn σ S H n)(x:Ext [] H H'):M.G H' n:=M.iQ ok.gd x (!4)
end
theorem dP.fresh (ha:H a=none)(h:dP S H d v):dP (a::S) H d v:=dP.more ha h
theorem dm.fresh (ha:H a=none)(h:dm S H ds vs):dm (a::S) H ds vs:=dm.more ha h
noncomputable def ki (H:Hp):Prop:=∀a xs,H a=some (.lst xs)\/H a=some (.tup xs)->xs.length<=au
theorem ka.kj (ok:ka P w H h):ki H:=λa xs e=>by
 rcases e with e | e
 .exact (ok a _ e).1
 .exact (ok a _ e).1
noncomputable def eS (gs S:List Addr)(H:Hp)(d:ad)(v:V):Prop:=dP S H d v\/(∃ds a xs,d=.list ds/\v=.ref a/\H a=some (.lst xs)/\dm S H ds xs/\a ∉ gs)\/∃t kvs a xs,d=gT t kvs/\v=.ref a/\H a=some (xC t kvs xs)/\dm S H (kvs.map (·.2)) xs/\(t=false->∀p∈kvs,p.1.length=1)/\a ∉ gs
section
theorem eS.ext (h:eS gs S H d v)(hg:∀a∈gs,a∈S)(x:Ext gs H H'):eS gs S H' d v:=by
 rcases h with h | ⟨ds,a,xs,e1,e2,e3,r,ha⟩ | ⟨t,kvs,a,xs,e1,e2,e3,r,hk,ha⟩
 .exact .inl (h.ext (x.mono hg))
 .exact .inr (.inl ⟨ds,a,xs,e1,e2,x.keep _ _ ha e3,r.ext (x.mono hg),ha⟩)
 .exact .inr (.inr ⟨t,kvs,a,xs,e1,e2,x.keep _ _ ha e3,r.ext (x.mono hg),hk,ha⟩)
theorem eS.eG (h:eS gs S H (.list ds) v):∃a xs,v=.ref a/\H a=some (.lst xs)/\dm S H ds xs:=by
 rcases h with h | ⟨um,a,xs,e1,e2,e3,r,_⟩ | ⟨t,kvs,a,xs,e1,_⟩
 .obtain⟨a,xs,e,ha,_,r⟩:=h.eG
  exact⟨a,xs,e,ha,r⟩
 .cases e1
  exact⟨a,xs,e2,e3,r⟩
 .cases e1
theorem eS.lW (h:eS gs S H (.dict l) v):∃a t kvs xs,v=.ref a/\l=m8 t kvs/\H a=some (xC t kvs xs)/\(t=false->∀p∈kvs,p.1.length=1)/\dm S H (kvs.map (·.2)) xs:=by
 rcases h with h | ⟨um,a,xs,e1,_⟩ | ⟨t,kvs,a,xs,e1,e2,e3,r,hk,_⟩
 .obtain⟨a,t,kvs,xs,e,el,ha,_,hk,r⟩:=h.lW
  exact⟨a,t,kvs,xs,e,el,ha,hk,r⟩
 .cases e1
 .cases e1
  exact⟨a,t,kvs,xs,e2,rfl,e3,hk,r⟩
theorem eS.rep (h:eS gs S H d v)(hd:∀ds,d≠.list ds)(Mv:∀l,d≠.dict l:=by intro _ z;cases z):dP S H d v:=by
 rcases h with h | ⟨ds,a,xs,e1,_⟩ | ⟨t,kvs,a,xs,e1,_⟩
 .exact h
 .exact absurd e1 (hd ds)
 .exact absurd e1 (Mv _)
theorem eS.fm (h:eS gs S H (.tuple ds) v):∃a xs,v=.ref a/\H a=some (.tup xs)/\dm S H ds xs:=(h.rep (by intro _ z;cases z)).fm
theorem eS.dY (h:eS gs S H (.int i) v):v=.int i:=(h.rep (by intro _ z;cases z)).dY
theorem eS.iG (h:eS gs S H (.bool i) v):v=.bl i:=(h.rep (by intro _ z;cases z)).iG
theorem eS.jm (h:eS gs S H (.str i) v):v=.str i:=(h.rep (by intro _ z;cases z)).jm
theorem eS.kG (h:eS gs S H .none v):v=.h8:=(h.rep (by intro _ z;cases z)).kG
end
abbrev UX:=eI->Int->(ad->Int->Prop)->Prop
abbrev UT:=eI->Int->(Bool->Int->Prop)->Prop
abbrev UA:=eI->Int->(List ad->Int->Prop)->Prop
structure BX where
 nx:eI->Int->Prop
 rt:ad->Int->Prop
abbrev US:=BX->eI->Int->Prop
def Qz (M:Fr)(u:UX):TE:=λσ H R=>∃env pn S n Q,dz M env pn σ S H n/\u env n Q/\∀v H' d n',dP S H' d v->Ext M.gs H H'->M.G H' n'->ki H'->Q d n'->R v H'
def FX (M:Fr)(u:UX):TE:=λσ H R=>∃env pn S n Q,dz M env pn σ S H n/\u env n Q/\∀v H' d n',eS M.gs S H' d v->Ext M.gs H H'->M.G H' n'->ki H'->Q d n'->R v H'
def QB (M:Fr)(u:eI->Int->(List ad->Int->Prop)->Prop):TE:=λσ H R=>∃env pn S n Q,dz M env pn σ S H n/\u env n Q /\
 ∀a xs H' ds n',H a=none->H' a=some (.lst xs)->dm (a::S) H' ds xs->Ext M.gs H H'->M.G H' n'->ki H'->Q ds n'->R (.ref a) H'
def liftT (M:Fr)(u:UT):TT:=λσ H R=>∃env pn S n Q,dz M env pn σ S H n/\u env n Q/\∀b H' n',Ext M.gs H H'->M.G H' n'->Q b n'->R b H'
def QC (M:Fr)(k:Nat)(u:UA):TA:=λσ H R=>∃env pn S n Q,dz M env pn σ S H n/\u env n Q/\∀vs H' ds n',vs.length=k->dm S H' ds vs->Ext M.gs H H'->M.G H' n'->ki H'->Q ds n'->R vs H'
noncomputable def l3 (gs S:List Addr)(H:Hp):List ad->List V->Prop
 | [],vs=>vs=[]
 | d::ds,vs=>∃v r,vs=v::r/\eS gs S H d v/\l3 gs S H ds r
def FY (M:Fr)(u:UA):TA:=λσ H R=>∃env pn S n Q,dz M env pn σ S H n/\u env n Q/\∀vs H' ds n',l3 M.gs S H' ds vs->Ext M.gs H H'->M.G H' n'->ki H'->Q ds n'->R vs H'
def BY (M:Fr)(u:US):TS:=λD σ H=>∃env pn S n E,dz M env pn σ S H n/\u E env n/\(∀dJ σ' S' H' n',dz M dJ pn σ' S' H' n'->E.nx dJ n'->D.nx σ' H') /\
 (∀v H' d n',dP M.S0 H' d v->Ext M.gs M.H0 H'->M.G H' n'->E.rt d n'->D.rt v H')
structure KE (X:Cx) (M:Fr) (e:Expr) (u:UX):Prop where run:QE X e (Qz M u)
structure KL (X:Cx) (M:Fr) (e:Expr) (u:UX):Prop where run:QE X e (FX M u)
structure KN (X:Cx) (M:Fr) (e:Expr) (u:eI->Int->(List ad->Int->Prop)->Prop):Prop where run:QE X e (QB M u)
structure KB (X:Cx) (M:Fr) (e:Expr) (u:UT):Prop where run:QT X e (liftT M u)
structure KW (X:Cx) (M:Fr) (e:Expr) (u:UT):Prop where run:QW X e (liftT M u)
structure KA (X:Cx) (M:Fr) (es:List Expr) (u:UA):Prop where run:QA X es (QC M es.length u)
structure Ng (X:Cx) (M:Fr) (es:List Expr) (u:UA):Prop where run:QA X es (FY M u)
structure KS (X:Cx) (M:Fr) (st:Stmt) (u:US):Prop where run:QS X st (BY M u)
structure zG (X:Cx) (M:Fr) (st:List Stmt) (u:US):Prop where run:vm X st (BY M u)
section
variable {X:Cx}{M:Fr}{e:Expr}{es:List Expr}{t:TE}{tT:TT}{ta:TA}{u:UX}
theorem FZ {A B C D E:Type}{P:A->B->C->D->E->Prop}{r:Prop}(h:∃a b c d e,P a b c d e)(k:∀a b c d e,P a b c d e->r):r:=by
 obtain⟨a,b,c,d,e,p⟩:=h;exact k a b c d e p
theorem Sf {A B C D E F:Type}{P:A->B->C->D->E->F->Prop}{r:Prop}(h:∃a b c d e f,P a b c d e f)(k:∀a b c d e f,P a b c d e f->r):r:=by
 obtain⟨a,b,c,d,e,f,p⟩:=h;exact k a b c d e f p
theorem QE.kj (h:QE X e t):QE X e (λσ H R=>t σ H λv H1=>ki H1->R v H1) :=
 ⟨λpins s σ H Q I q=>fy (h.run pins s σ H _ I q) λv s1 ⟨x,H1,I1,r1,q1⟩=>⟨x,H1,I1,r1,q1 I1.hok.kj⟩⟩
theorem QA.kj (h:QA X es ta):QA X es (λσ H R=>ta σ H λv H1=>ki H1->R v H1) :=
 ⟨λpos pins s σ H Q I q=>fy (h.run pos pins s σ H _ I q) λv s1 ⟨x,H1,I1,r1,q1⟩=>⟨x,H1,I1,r1,q1 I1.hok.kj⟩,h.ns⟩
theorem KE.of (h:QE X e t)(k:∀σ H R env pn S n Q,dz M env pn σ S H n->u env n Q->(∀v H' d n',dP S H' d v->Ext M.gs H H'->M.G H' n'->Q d n'->R v H')->t σ H R):KE X M e u :=
 ⟨h.kj.weaken λσ H R h=>FZ h λenv pn S n Q h=>k σ H _ env pn S n Q h.1 h.2.1 λv H' d n' r x g qq sz=>h.2.2 v H' d n' r x g sz qq⟩
theorem KL.of (h:QE X e t)(k:∀σ H R env pn S n Q,dz M env pn σ S H n->u env n Q->(∀v H' d n',eS M.gs S H' d v->Ext M.gs H H'->M.G H' n'->Q d n'->R v H')->t σ H R):KL X M e u :=
 ⟨h.kj.weaken λσ H R h=>FZ h λenv pn S n Q h=>k σ H _ env pn S n Q h.1 h.2.1 λv H' d n' r x g qq sz=>h.2.2 v H' d n' r x g sz qq⟩
theorem KN.of {u:eI->Int->(List ad->Int->Prop)->Prop}(h:QE X e t)(k:∀σ H R env pn S n Q,dz M env pn σ S H n->u env n Q->(∀a xs H' ds n',H a=none->H' a=some (.lst xs)->dm (a::S) H' ds xs->Ext M.gs H H'->M.G H' n'->Q ds n'->R (.ref a) H')->t σ H R):KN X M e u :=
 ⟨h.kj.weaken λσ H R h=>FZ h λenv pn S n Q h=>k σ H _ env pn S n Q h.1 h.2.1 λa xs H' ds n' h0 h1 r x g qq sz=>h.2.2 a xs H' ds n' h0 h1 r x g sz qq⟩
theorem KA.of {u:UA}(h:QA X es ta)(k:∀σ H R env pn S n Q,dz M env pn σ S H n->u env n Q->(∀v H' d n',v.length=es.length->dm S H' d v->Ext M.gs H H'->M.G H' n'->Q d n'->R v H')->ta σ H R):KA X M es u :=
 ⟨h.kj.weaken λσ H R h=>FZ h λenv pn S n Q h=>k σ H _ env pn S n Q h.1 h.2.1 λv H' d n' hl r x g qq sz=>h.2.2 v H' d n' hl r x g sz qq⟩
theorem Ng.of {u:UA}(h:QA X es ta)(k:∀σ H R env pn S n Q,dz M env pn σ S H n->u env n Q->(∀v H' d n',l3 M.gs S H' d v->Ext M.gs H H'->M.G H' n'->Q d n'->R v H')->ta σ H R):Ng X M es u :=
 ⟨h.kj.weaken λσ H R h=>FZ h λenv pn S n Q h=>k σ H _ env pn S n Q h.1 h.2.1 λv H' d n' r x g qq sz=>h.2.2 v H' d n' r x g sz qq⟩
theorem QT.weaken {t t':TT}(h:QT X e t)(w:∀σ H Q,t' σ H Q->t σ H Q):QT X e t':=⟨λpins s σ H Q I q=>h.run pins s σ H Q I (w σ H Q q)⟩
theorem QW.weaken {t t':TT}(h:QW X e t)(w:∀σ H Q,t' σ H Q->t σ H Q):QW X e t':=⟨λwh pins s σ H Q I q=>h.run wh pins s σ H Q I (w σ H Q q)⟩
theorem QS.weaken {st:Stmt}{t t':TS}(h:QS X st t)(w:∀D σ H,t' D σ H->t D σ H):QS X st t':=⟨λpins s σ H D I q=>h.run pins s σ H D I (w D σ H q)⟩
theorem vm.weaken {st:List Stmt}{t t':TS}(h:vm X st t)(w:∀D σ H,t' D σ H->t D σ H):vm X st t':=⟨λpins s σ H D I q=>h.run pins s σ H D I (w D σ H q)⟩
theorem KB.of {u:UT}(h:QT X e tT)(k:∀σ H R env pn S n Q,dz M env pn σ S H n->u env n Q->(∀b H' n',Ext M.gs H H'->M.G H' n'->Q b n'->R b H')->tT σ H R):KB X M e u :=
 ⟨h.weaken λσ H R h=>FZ h λenv pn S n Q h=>k σ H _ env pn S n Q h.1 h.2.1 h.2.2⟩
theorem KW.of {u:UT}(h:QW X e tT)(k:∀σ H R env pn S n Q,dz M env pn σ S H n->u env n Q->(∀b H' n',Ext M.gs H H'->M.G H' n'->Q b n'->R b H')->tT σ H R):KW X M e u :=
 ⟨h.weaken λσ H R h=>FZ h λenv pn S n Q h=>k σ H _ env pn S n Q h.1 h.2.1 h.2.2⟩
theorem KE.loose (h:KE X M e u):KL X M e u:=.of h.run λσ H R env pn S n Q ok hu k=>⟨env,pn,S,n,Q,ok,hu,λv H' d n' r x g _ q=>k v H' d n' (.inl r) x g q⟩
noncomputable def uL (u:eI->Int->(List ad->Int->Prop)->Prop):UX:=λenv n Q=>u env n λds n'=>Q (.list ds) n'
theorem KN.data {u:eI->Int->(List ad->Int->Prop)->Prop}(h:KN X M e u):KE X M e (uL u):=.of h.run λσ H R env pn S n Q ok hu k =>
 ⟨env,pn,S,n,_,ok,hu,λa xs H' ds n' h0 h1 r x g _ q=>k _ H' _ n' (.lst h1 (ok.fresh h0) (r.less λ_ h=>am _ h)) x g q⟩
end
noncomputable def lE {α:Type}(o:Option α)(Q:α->Prop):Prop:=∃d,o=some d/\Q d
@[simp] theorem c7 {α:Type} (d:α) (Q:α->Prop):lE (some d) Q=Q d:=by simp[lE]
@[simp] theorem F0 {α:Type} (Q:α->Prop):lE (none:Option α) Q=False:=by simp[lE]
noncomputable def dq (i:Nat):UX:=λenv n Q=>match env[i]? with | some (some (.s d))=>Q d n | _=>False
noncomputable def c5 (i:Nat):UX:=λenv n Q=>match env[i]? with | some (some (.s d))=>Q d n | some (some (.o ds))=>Q (.list ds) n | some (some (.d _ t kvs))=>Q (gT t kvs) n | _=>False
noncomputable def uC (d:ad):UX:=λ_ n Q=>Q d n
section
theorem fU (i:Nat)(hN:X.N[i]? = some x:=by rfl)(hv:Bq X.env.scope x:=by (first | exact Or.inl rfl | exact Or.inr (Or.inl rfl) | exact Or.inr (Or.inr rfl)))(hd:(x == ("__debug__" : Str))=false:=by decide)
  (jl:(x == ("__classdict__" : Str))=false:=by decide):KE X M (.Name x pos) (dq i):=.of (qv i hN hv hd jl) λσ H R env pn S n Q ok hu k=>by
 unfold dq at hu
 cases e:env[i]? with
 | none=>rw[e] at hu;exact hu.elim
 | some o =>
  cases o with
  | none=>rw[e] at hu;exact hu.elim
  | some en =>
   cases en with
   | o ds=>rw[e] at hu;exact hu.elim
   | x c as=>rw[e] at hu;exact hu.elim
   | d a t kvs=>rw[e] at hu;exact hu.elim
   | s d =>
    rw[e] at hu;obtain⟨v,hv,r⟩:=ok.val i _ e;exact⟨v,hv,k v H d n r (.refl _ _) ok.gd hu⟩
theorem dD (i:Nat)(hN:X.N[i]? = some x:=by rfl)(hv:Bq X.env.scope x:=by (first | exact Or.inl rfl | exact Or.inr (Or.inl rfl) | exact Or.inr (Or.inr rfl)))(hd:(x == ("__debug__" : Str))=false:=by decide)
  (jl:(x == ("__classdict__" : Str))=false:=by decide):KL X M (.Name x pos) (c5 i):=.of (qv i hN hv hd jl) λσ H R env pn S n Q ok hu k=>by
 unfold c5 at hu
 cases e:env[i]? with
 | none=>rw[e] at hu;exact hu.elim
 | some o =>
  cases o with
  | none=>rw[e] at hu;exact hu.elim
  | some en =>
   rw[e] at hu;obtain⟨v,hv,r⟩:=ok.val i _ e
   cases en with
   | o ds =>
    obtain⟨a,xs,rfl,ha,r,hs,h0⟩:=r;exact⟨_,hv,k _ H _ n (.inr (.inl ⟨ds,a,xs,rfl,rfl,ha,r,M.out h0⟩)) (.refl _ _) ok.gd hu⟩
   | s d=>exact⟨v,hv,k v H d n (.inl r) (.refl _ _) ok.gd hu⟩
   | x c as=>exact hu.elim
   | d a t kvs =>
    obtain⟨rfl,xs,ha,r,hk,hs,h0⟩:=r;exact⟨_,hv,k _ H _ n (.inr (.inr ⟨t,kvs,a,xs,rfl,rfl,ha,r,hk,M.out h0⟩)) (.refl _ _) ok.gd hu⟩
theorem Sg (h:QE X e (tC v))(r:∀S H,dP S H d v):KE X M e (uC d):=.of h λσ H R env pn S n Q ok hu k=>k v H d n (r S H) (.refl _ _) ok.gd hu
theorem c9 {i j pos}:KE X M (.Constant (.int i) j pos) (uC (.int i)):=Sg fG λ_ _=>.int i
theorem nA {i j pos}:KE X M (.Constant (.bool i) j pos) (uC (.bool i)):=Sg Fh λ_ _=>.bl i
theorem BZ {j pos}:KE X M (.Constant .none j pos) (uC .none):=Sg MO λ_ _=>.h8
theorem vJ {x j pos}:KE X M (.Constant (.str x) j pos) (uC (.str x)):=Sg fM λ_ _=>.str x
end
noncomputable def dc:UA:=λ_ n Q=>Q [] n
noncomputable def c6 (u:UX)(r:UA):UA:=λenv n Q=>u env n λd n1=>r env n1 λds n2=>Q (d::ds) n2
section
variable {X:Cx}{M:Fr}{e a b:Expr}{es:List Expr}{u ua ub:UX}{ur:UA}{pos:Pos}
theorem df:KA X M [] dc:=.of d7 λσ H R env pn S n Q ok hu k=>k [] H [] n rfl .nil (.refl _ _) ok.gd hu
theorem dv (h:KE X M e u)(hr:KA X M es ur)(hs:d9 e=true:=by rfl):KA X M (e::es) (c6 u ur):=.of (gI h.run hr.run hs) λσ H R env pn S n Q ok hu k =>
 ⟨env,pn,S,n,_,ok,hu,λv H1 d n1 r1 x1 g1 _ q1=>⟨env,pn,S,n1,_,ok.step x1 g1,q1,λvs H2 ds n2 hl r2 x2 g2 _ q2=>k _ H2 _ n2 (by simp[hl]) (.cons (r1.ext (x2.mono ok.yr)) r2) (x1.trans x2) g2 q2⟩⟩
theorem dH:Ng X M [] dc:=.of d7 λσ H R env pn S n Q ok hu k=>k [] H [] n rfl (.refl _ _) ok.gd hu
theorem eB (h:KL X M e u)(hr:Ng X M es ur)(hs:d9 e=true:=by rfl):Ng X M (e::es) (c6 u ur):=.of (gI h.run hr.run hs) λσ H R env pn S n Q ok hu k =>
 ⟨env,pn,S,n,_,ok,hu,λv H1 d n1 r1 x1 g1 _ q1=>⟨env,pn,S,n1,_,ok.step x1 g1,q1,λvs H2 ds n2 r2 x2 g2 _ q2=>k _ H2 (d::ds) n2 ⟨_,_,rfl,r1.ext ok.yr x2,r2⟩ (x1.trans x2) g2 q2⟩⟩
noncomputable def jq (ur:UA):UX:=λenv n Q=>ur env n λds n1=>Q (.tuple ds) n1
theorem kl {x1}(h:KA X M es ur)(hl:es.length<=au:=by decide):KE X M (.Tuple es x1 pos) (jq ur) :=
 .of (MT h.run) λσ H R env pn S n Q ok hu k=>⟨env,pn,S,n,_,ok,hu,λvs H1 ds n1 el r1 x1 g1 sz q1=>⟨by rw[el];exact hl,λp hp =>
  have x2:=Ext.new (S:=[]) (o:=.tup vs) hp
  k _ _ _ n1 (.tup dg (r1.ext (x2.mono (!4)))) (x1.trans (x2.mono (!4))) (M.iQ g1 x2 (!4)) q1⟩⟩
theorem l4 (h:KA X M es ur)(hl:es.length<=au:=by decide):KN X M (.List es pos) ur :=
 .of (Ad h.run) λσ H R env pn S n Q ok hu k=>⟨env,pn,S,n,_,ok,hu,λvs H1 ds n1 el r1 x1 g1 sz q1=>⟨by rw[el];exact hl,λp hp =>
  have x2:=Ext.new (S:=[]) (o:=.lst vs) hp
  have Nh:H p=none:=by
   by_cases z:p∈M.gs
   .exact absurd hp (M.yp g1 p z)
   .exact x1.fresh z hp
  k p vs _ _ n1 Nh dg ((r1.fresh hp).ext (x2.mono (!4))) (x1.trans (x2.mono (!4))) (M.iQ g1 x2 (!4)) q1⟩⟩
end
theorem RelV.one (h:RelV v u)(k:RelV w u):v=w:=by
 cases v<;>cases w<;>simp only[RelV] at h k<;>first | rfl | (obtain⟨t,rfl⟩:=h;obtain⟨t',e⟩:=k;cases e;rfl) | (subst h;cases k;rfl) | (subst h;obtain⟨t',e⟩:=k;cases e) | (obtain⟨t,rfl⟩:=h;obtain⟨t',e⟩:=k;cases e;done) | (obtain⟨t,rfl⟩:=h;cases k;done) | (subst h;cases k;done)
theorem B0:∀{kvs iR:List (List Int × ad)} {xs oO:List V},xs.length=kvs.length->oO.length=iR.length->HE kvs xs=HE iR oO->xs=oO/\kvs.map (λp=>p.1.headD 0)=iR.map (λp=>p.1.headD 0)
 | [],[],[],[],_,_,_=>⟨rfl,rfl⟩
 | [],[],_::_,_,h,_,_=>by simp at h
 | [],[],[],_::_,_,h,_=>by simp at h
 | [],p::_,_,[],_,h,_=>by simp at h
 | [],p::_,[],_::_,_,_,h=>by simp[HE] at h
 | [],p::_,_::_,_::_,h,_,_=>by simp at h
 | p::_,[],[],_,h,_,_=>by simp at h
 | p::_,[],_::_,[],_,_,h=>by simp[HE] at h
 | p::_,[],_::_,_::_,_,h,_=>by simp at h
 | p::_,q::_,[],_,h,_,_=>by simp at h
 | p::_,q::_,_::_,[],_,h,_=>by simp at h
 | p::kvs,q::iR,x::xs,y::ys,h1,h2,h=>by
  rw[HE,HE] at h;injection h with e1 e2;injection e1 with e3 e4;injection e3 with e3;obtain⟨a,b⟩:=B0 (by simpa using h1) (by simpa using h2) e2;rw[e4,a,ah,ah,b];exact⟨rfl,by rw[e3]⟩
theorem B1:∀{a b:List Int},(a.map Sum.inl:List Key)=b.map Sum.inl->a=b
 | [],[],_=>rfl
 | [],_::_,h=>by cases h
 | _::_,[],h=>by cases h
 | x::a,y::b,h=>by
  rw[ah,ah] at h;injection h with h1 h2;injection h1 with h1;rw[h1,B1 h2]
theorem B2:∀{kvs iR:List (List Int × ad)} {xs oO:List V},xs.length=kvs.length->oO.length=iR.length->HF kvs xs=HF iR oO->xs=oO/\kvs.map (λp=>p.1)=iR.map (λp=>p.1)
 | [],[],[],[],_,_,_=>⟨rfl,rfl⟩
 | [],[],_::_,_,h,_,_=>by simp at h
 | [],[],[],_::_,_,h,_=>by simp at h
 | [],p::_,_,[],_,h,_=>by simp at h
 | [],p::_,[],_::_,_,_,h=>by simp[HF] at h
 | [],p::_,_::_,_::_,h,_,_=>by simp at h
 | p::_,[],[],_,h,_,_=>by simp at h
 | p::_,[],_::_,[],_,_,h=>by simp[HF] at h
 | p::_,[],_::_,_::_,_,h,_=>by simp at h
 | p::_,q::_,[],_,h,_,_=>by simp at h
 | p::_,q::_,_::_,[],_,h,_=>by simp at h
 | p::kvs,q::iR,x::xs,y::ys,h1,h2,h=>by
  rw[HF,HF] at h;injection h with e1 e2;injection e1 with e3 e4;obtain⟨a,b⟩:=B2 (by simpa using h1) (by simpa using h2) e2;rw[e4,a,ah,ah,b];exact⟨rfl,by rw[B1 e3]⟩
theorem B3:∀{l l':List (List Int × ad)},l.map (λp=>p.1)=l'.map (λp=>p.1)->l.map (·.2)=l'.map (·.2)->l=l'
 | [],[],_,_=>rfl
 | [],_::_,h,_=>by cases h
 | _::_,[],h,_=>by cases h
 | (a,b)::l,(c,d)::l',h,k=>by
  rw[ah,ah] at h k;injection h with h1 h2;injection k with k1 k2;have h1:a=c:=h1;have k1:b=d:=k1;rw[B3 h2 k2,h1,k1]
theorem vK {l:List (List Int × ad)}(h:∀p∈l,p.1.length=1):l.map (λp=>p.1)=(l.map λp=>p.1.headD 0).map λi=>[i]:=by
 rw[bf];refine ca λp hp=>?_
 match p,h p hp with
 | ([i],_),_=>rfl
theorem Js {t t':Bool}{kvs iR:List (List Int × ad)}{xs oO:List V}(h1:xs.length=kvs.length)(h2:oO.length=iR.length)(k1:t=false->∀p∈kvs,p.1.length=1)(k2:t'=false->∀p∈iR,p.1.length=1)(h:xC t kvs xs=xC t' iR oO):t=t'/\xs=oO/\kvs.map (λp=>p.1)=iR.map (λp=>p.1):=by
 cases t with
 | true=>cases t' with
  | true =>
   injection h with h;exact⟨rfl,B2 h1 h2 h⟩
  | false=>cases h
 | false=>cases t' with
  | true=>cases h
  | false =>
   injection h with h;obtain⟨a,b⟩:=B0 h1 h2 h;exact⟨rfl,a,by rw[vK (k1 rfl),vK (k2 rfl),b]⟩
mutual
theorem dP.one {S:List Addr}{H:Hp}:∀{d d':ad} {v:V},dP S H d v->dP S H d' v->d=d'
 | .none,d',v,h,k=>by cases h.kG;cases d'<;>simp[dP] at k;rfl
 | .bool b,d',v,h,k=>by cases h.iG;cases d'<;>simp[dP] at k;rw[k]
 | .int b,d',v,h,k=>by cases h.dY;cases d'<;>simp[dP] at k;rw[k]
 | .str b,d',v,h,k=>by cases h.jm;cases d'<;>simp[dP] at k;rw[k]
 | .tuple ds,d',v,h,k=>by
  obtain⟨a,xs,rfl,ha,r⟩:=h.fm
  cases d' with
  | tuple es =>
   obtain⟨b,ys,e,hb,r'⟩:=k.fm;cases e;rw[ha] at hb;cases hb;rw[dm.one r r']
  | list es=>obtain⟨b,ys,e,hb,_⟩:=k.eG;cases e;rw[ha] at hb;cases hb
  | dict es=>obtain⟨b,t,kvs,ys,e,_,hb,_⟩:=k.lW;cases e;rw[ha] at hb;exact (BG hb).elim
  | _=>simp[dP] at k
 | .list ds,d',v,h,k=>by
  obtain⟨a,xs,rfl,ha,_,r⟩:=h.eG
  cases d' with
  | list es =>
   obtain⟨b,ys,e,hb,_,r'⟩:=k.eG;cases e;rw[ha] at hb;cases hb;rw[dm.one r r']
  | tuple es=>obtain⟨b,ys,e,hb,_⟩:=k.fm;cases e;rw[ha] at hb;cases hb
  | dict es=>obtain⟨b,t,kvs,ys,e,_,hb,_⟩:=k.lW;cases e;rw[ha] at hb;exact (oA hb).elim
  | _=>simp[dP] at k
 | .dict l,d',v,h,k=>by
  have h':=h;unfold dP at h';obtain⟨a,t,kvs,xs,rfl,rfl,ha,hs,hk,hr⟩:=h';have hl:xs.length=kvs.length:=by have:=(fV.CS.mp hr).length;rw[ik,aj,aj,ai] at this;omega
  cases d' with
  | tuple es=>obtain⟨b,ys,e,hb,_⟩:=k.fm;cases e;rw[ha] at hb;exact (BG hb.symm).elim
  | list es=>obtain⟨b,ys,e,hb,_⟩:=k.eG;cases e;rw[ha] at hb;exact (oA hb.symm).elim
  | dict l' =>
   unfold dP at k;obtain⟨b,t',iR,ys,e,rfl,hb,_,HI,V9⟩:=k;cases e;rw[ha] at hb;have HG:ys.length=iR.length:=by have:=(fV.CS.mp V9).length;rw[ik,aj,aj,ai] at this;omega
   obtain⟨rfl,rfl,QD⟩:=Js hl HG hk HI (Option.some.inj hb);have:=fV.one hr V9;rw[ik,ik] at this;injection this with _ this;rw[B3 QD this]
  | _=>simp[dP] at k
theorem dm.one {S:List Addr}{H:Hp}:∀{ds um:List ad} {vs:List V},dm S H ds vs->dm S H um vs->ds=um
 | [],um,vs,h,k=>by
  cases h.fw
  cases um with
  | nil=>rfl
  | cons d ds=>obtain⟨x,r,e,_⟩:=k.of_cons;cases e
 | d::ds,um,vs,h,k=>by
  obtain⟨x,r,rfl,h1,h2⟩:=h.of_cons
  cases um with
  | nil=>cases k.fw
  | cons d' um =>
   obtain⟨x',r',e,k1,k2⟩:=k.of_cons;cases e;rw[dP.one h1 k1,dm.one h2 k2]
theorem fV.one {S:List Addr}{H:Hp}:∀{l l':List (ad × ad)} {vs:List V},fV S H l vs->fV S H l' vs->l.map (·.2)=l'.map (·.2)
 | [],l',vs,h,k=>by
  unfold fV at h;subst h
  cases l' with
  | nil=>rfl
  | cons p l=>unfold fV at k;obtain⟨x,r,e,_⟩:=k;cases e
 | (_,d)::l,l',vs,h,k=>by
  unfold fV z9 at h;obtain⟨x,r,rfl,h1,h2⟩:=h
  cases l' with
  | nil=>unfold fV at k;cases k
  | cons p l' =>
   unfold fV at k;obtain⟨x',r',e,k1,k2⟩:=k;cases e;have X3:dP S H p.2 x:=by cases p;unfold z9 at k1;exact k1
   rw[ah,ah,fV.one h2 k2];show d::_=p.2::_;rw[dP.one h1 X3]
end
structure uq (X:Cx) (f:af->af->Sem af) (op:ad->ad->Option ad):Prop where
 ex:∃r,jF X f r/\∀gs S H dx dy x y d (R:VK),(∀a∈S,H a≠none)->ki H->eS gs S H dx x->eS gs S H dy y->op dx dy=some d->(∀v H',dP S H' d v->Ext [] H H'->R v H')->r x y H R
noncomputable def di (f:ad->ad->Option ad)(ua ub:UX):UX:=λenv n Q=>ua env n λx n1=>ub env n1 λy n2=>lE (f x y) λd=>Q d n2
noncomputable def Ot (d:ad)(Q:Bool->Prop):Prop:=match d with | .bool b=>Q b | _=>False
@[simp] theorem dw (b:Bool) (Q:Bool->Prop):Ot (.bool b) Q=Q b:=rfl
noncomputable def dB (u:UX):UT:=λenv n Q=>u env n λd n'=>Ot d λb=>Q b n'
section
variable {X:Cx}{M:Fr}{a b c e:Expr}{ua ub uc:UX}{pos:Pos}{f:ad->ad->Option ad}
theorem B4
  (hr:∀gs S H dx dy x y d (R:VK),(∀a∈S,H a≠none)->ki H->eS gs S H dx x->eS gs S H dy y->f dx dy=some d->(∀v H',dP S H' d v->Ext [] H H'->R v H')->r x y H R)
  (ok:dz M env pn σ S H n) (hu:di f ua ub env n Q) (k:∀v H' d n',dP S H' d v->Ext M.gs H H'->M.G H' n'->Q d n'->R v H'):Ig r (FX M ua) (FX M ub) σ H R :=
 ⟨env,pn,S,n,_,ok,hu,λx H1 dx n1 r1 x1 g1 _ q1=>⟨env,pn,S,n1,_,ok.step x1 g1,q1,λy H2 dy n2 r2 x2 g2 sz q2=>by
  obtain⟨d,e,q⟩:=q2;exact hr M.gs S H2 dx dy x y d R ((ok.step x1 g1).step x2 g2).has sz (r1.ext ok.yr x2) r2 e λv H3 r3 x3=>k v H3 d n2 r3 ((x1.trans x2).trans (x3.mono (!4))) (M.iQ g2 x3 (!4)) q⟩⟩
theorem km (ho:uq X (binaryOp op) f)(ha:KL X M a ua)(hb:KL X M b ub):KE X M (.BinOp a op b pos) (di f ua ub):=by
 obtain⟨r,h1,h2⟩:=ho.ex;exact .of (gw h1 ha.run hb.run) λσ H R env pn S n Q ok hu k=>B4 h2 ok hu k
theorem gk (ho:uq X (compareOp op) f)(ha:KL X M a ua)(hb:KL X M b ub)(hm:behindInMarks op b=false:=by first | exact kE _ | rfl):KE X M (.Compare a [op] [b] pos) (di f ua ub):=by
 obtain⟨r,h1,h2⟩:=ho.ex;exact .of (wF h1 ha.run hb.run hm) λσ H R env pn S n Q ok hu k=>B4 h2 ok hu k
theorem eX (ho:uq X (compareOp op) f)(ha:KL X M a ua)(hb:KL X M b ub)(hm:behindInMarks op b=false:=by first | exact kE _ | rfl):KB X M (.Compare a [op] [b] pos) (dB (di f ua ub)):=by
 obtain⟨r,h1,h2⟩:=ho.ex;refine .of (rJ h1 ha.run hb.run hm) λσ H R env pn S n Q ok hu k=>B4 (R:=λx H'=>∃k,x=.bl k/\R k H') h2 ok hu λv H' d n' r x g q=>?_
 cases d with
 | bool b=>exact⟨b,r.iG,k b H' n' x g q⟩
 | _=>exact False.elim q
def TX (f g:ad->ad->Option ad)(ua ub uc:UX):UX:=λenv n Q=>ua env n λx n1=>ub env n1 λy n2=>lE (f x y) λd=>Ot d λb=>if b=true then uc env n2 λz n3=>lE (g y z) λd=>Q d n3 else Q (.bool false) n2
theorem jr (h:KE X M e ua)(he:∀m6,isTrue e X.env m6=(do let v <- m6;standAt e.pos;holding [v] (truthy v)):=by rw[3]):KB X M e (dB ua) :=
 .of (Ab h.run he) λσ H R env pn S n Q ok hu k=>⟨env,pn,S,n,_,ok,hu,λv H' d n' r x g _ q=>by
  cases d with
  | bool b=>exact⟨b,r.iG,k b H' n' x g q⟩
  | _=>exact False.elim q⟩
noncomputable def F1 (u w:UT):UT:=λenv n Q=>u env n λb n1=>if b=true then w env n1 Q else Q false n1
noncomputable def nB (u w:UT):UT:=λenv n Q=>u env n λb n1=>if b=true then Q true n1 else w env n1 Q
noncomputable def iS (u:UT):UT:=λenv n Q=>u env n λb n1=>Q (!b) n1
variable {u w:UT}{rest:List Expr}
theorem F3 (h:KB X M a u):KW X M (.BoolOp .And [a] pos) u:=⟨BI h.run⟩
theorem oP (h:KB X M a u):KW X M (.BoolOp .Or [a] pos) u:=⟨MP h.run⟩
theorem w_and (ha:KB X M a u)(hb:KW X M (.BoolOp .And (b::rest) pos) w):KW X M (.BoolOp .And (a::b::rest) pos) (F1 u w) :=
 .of (Fi ha.run hb.run) λσ H R env pn S n Q ok hu k=>⟨env,pn,S,n,_,ok,hu,λc H1 n1 x1 g1 q=>by
  cases c with
  | true=>exact⟨env,pn,S,n1,Q,ok.step x1 g1,q,λb H2 n2 x2 g2 q2=>k b H2 n2 (x1.trans x2) g2 q2⟩
  | false=>exact k false H1 n1 x1 g1 q⟩
theorem w_or (ha:KB X M a u)(hb:KW X M (.BoolOp .Or (b::rest) pos) w):KW X M (.BoolOp .Or (a::b::rest) pos) (nB u w) :=
 .of (PZ ha.run hb.run) λσ H R env pn S n Q ok hu k=>⟨env,pn,S,n,_,ok,hu,λc H1 n1 x1 g1 q=>by
  cases c with
  | false=>exact⟨env,pn,S,n1,Q,ok.step x1 g1,q,λb H2 n2 x2 g2 q2=>k b H2 n2 (x1.trans x2) g2 q2⟩
  | true=>exact k true H1 n1 x1 g1 q⟩
theorem KW.kb (h:KW X M e u):KB X M e u:=⟨h.run.pt⟩
theorem lF (h:KB X M a u):KB X M (.UnaryOp .Not a pos) (iS u):=.of (MQ h.run) λσ H R env pn S n Q ok hu k=>⟨env,pn,S,n,_,ok,hu,λc H1 n1 x1 g1 q=>k _ H1 n1 x1 g1 q⟩
noncomputable def f9 (ua ub:UX):UX:=λenv n Q=>ua env n λx n1=>Ot x λb=>if b=true then ub env n1 Q else Q (.bool false) n1
noncomputable def Ni (ua ub:UX):UX:=λenv n Q=>ua env n λx n1=>Ot x λb=>if b=true then Q (.bool true) n1 else ub env n1 Q
noncomputable def F4 (ua:UX):UX:=λenv n Q=>ua env n λx n1=>Ot x λb=>Q (.bool (!b)) n1
theorem k_one {op}(h:KE X M a ua):KE X M (.BoolOp op [a] pos) ua:=⟨MR h.run⟩
theorem lG (ha:KE X M a ua)(hb:KE X M (.BoolOp .And (b::rest) pos) ub):KE X M (.BoolOp .And (a::b::rest) pos) (f9 ua ub) :=
 .of (MS ha.run hb.run) λσ H R env pn S n Q ok hu k=>⟨env,pn,S,n,_,ok,hu,λv H1 d n1 r1 x1 g1 _ q=>by
  cases d with
  | bool c =>
   refine⟨c,r1.iG,?_⟩
   cases c with
   | true=>exact⟨env,pn,S,n1,Q,ok.step x1 g1,q,λv H2 d n2 r2 x2 g2 _ q2=>k v H2 d n2 r2 (x1.trans x2) g2 q2⟩
   | false=>exact k _ H1 _ n1 (.bl false) x1 g1 q
  | _=>exact False.elim q⟩
theorem TY (ha:KE X M a ua)(hb:KE X M (.BoolOp .Or (b::rest) pos) ub):KE X M (.BoolOp .Or (a::b::rest) pos) (Ni ua ub) :=
 .of (P0 ha.run hb.run) λσ H R env pn S n Q ok hu k=>⟨env,pn,S,n,_,ok,hu,λv H1 d n1 r1 x1 g1 _ q=>by
  cases d with
  | bool c =>
   refine⟨c,r1.iG,?_⟩
   cases c with
   | false=>exact⟨env,pn,S,n1,Q,ok.step x1 g1,q,λv H2 d n2 r2 x2 g2 _ q2=>k v H2 d n2 r2 (x1.trans x2) g2 q2⟩
   | true=>exact k _ H1 _ n1 (.bl true) x1 g1 q
  | _=>exact False.elim q⟩
theorem k_not (ha:KE X M a ua):KE X M (.UnaryOp .Not a pos) (F4 ua) :=
 .of (Ac ha.run) λσ H R env pn S n Q ok hu k=>⟨env,pn,S,n,_,ok,hu,λv H1 d n1 r1 x1 g1 _ q=>by
  cases d with
  | bool c=>exact⟨c,r1.iG,k _ H1 _ n1 (.bl _) x1 g1 q⟩
  | _=>exact False.elim q⟩
noncomputable def Jt (t:UT)(ua ub:UX):UX:=λenv n Q=>t env n λc n1=>if c=true then ua env n1 Q else ub env n1 Q
theorem Ju (hc:KB X M c u)(ha:KE X M a ua)(hb:KE X M b ub):KE X M (.IfExp c a b pos) (Jt u ua ub) :=
 .of (Fj hc.run ha.run hb.run) λσ H R env pn S n Q ok hu k=>⟨env,pn,S,n,_,ok,hu,λc H1 n1 x1 g1 q=>by
  cases c with
  | true=>exact⟨env,pn,S,n1,Q,ok.step x1 g1,q,λv H2 d n2 r2 x2 g2 _ q2=>k v H2 d n2 r2 (x1.trans x2) g2 q2⟩
  | false=>exact⟨env,pn,S,n1,Q,ok.step x1 g1,q,λv H2 d n2 r2 x2 g2 _ q2=>k v H2 d n2 r2 (x1.trans x2) g2 q2⟩⟩
noncomputable def i9:ad->Option ad | .int i=>some (.int (-i)) | _=>none
noncomputable def zH (f:ad->Option ad)(ua:UX):UX:=λenv n Q=>ua env n λx n1=>lE (f x) λd=>Q d n1
theorem lH (ha:KE X M a ua):KE X M (.UnaryOp .USub a pos) (zH i9 ua) :=
 .of (PY Mh ha.run) λσ H R env pn S n Q ok hu k=>⟨env,pn,S,n,_,ok,hu,λv H1 d n1 r1 x1 g1 _ q=>by
  obtain⟨d',e,q⟩:=q
  cases d with
  | int i=>cases e;exact⟨i,r1.dY,k _ H1 _ n1 (.int _) x1 g1 q⟩
  | _=>cases e⟩
end
noncomputable def lL:ad->ad->Option ad
 | .int i,.int j=>some (.int (i+j))
 | .tuple xs,.tuple ys=>if xs.length+ys.length<=au then some (.tuple (xs++ys)) else none
 | .list xs,.list ys=>if xs.length+ys.length<=au then some (.list (xs++ys)) else none
 | .str x,.str y=>if x.length+y.length<=au then some (.str (x++y)) else none
 | _,_=>none
noncomputable def yt:ad->ad->Option ad | .int i,.int j=>some (.int (i - j)) | _,_=>none
instance (i j:Int):Decidable (zP i j):=by unfold zP;infer_instance
instance (i j:Int):Decidable (ES i j):=by unfold ES;infer_instance
instance (i j:Int):Decidable (Mb i j):=by unfold Mb;infer_instance
noncomputable def AD:ad->ad->Option ad
 | .int i,.int j=>if zP i j then some (.int (i * j)) else none
 | .list xs,.int k=>if -(2 ^ 63)<=k/\k<2 ^ 63/\xs.length * k.toNat<=au then some (.list (List.replicate k.toNat xs).flatten) else none
 | .tuple xs,.int k=>if 1<=k/\k<2 ^ 40/\xs≠[]/\xs.length * k.toNat<=16000000 then some (.tuple (List.replicate k.toNat xs).flatten) else none
 | _,_=>none
noncomputable def yu:ad->ad->Option ad | .int i,.int j=>if 0<j then some (.int (i % j)) else none | _,_=>none
noncomputable def F5:ad->ad->Option ad | .int i,.int j=>if ES i j then some (.int (i * 2 ^ j.toNat)) else none | _,_=>none
noncomputable def AE:ad->ad->Option ad | .int i,.int j=>if 0<=j then some (.int (i / 2 ^ j.toNat)) else none | _,_=>none
noncomputable def Sh:ad->ad->Option ad | .int i,.int j=>some (.bool (decide (i<j))) | _,_=>none
noncomputable def QF:ad->ad->Option ad | .int i,.int j=>some (.bool (decide (i<=j))) | _,_=>none
noncomputable def AF:ad->ad->Option ad | .int i,.int j=>some (.bool (decide (j<i))) | _,_=>none
noncomputable def lR (x y:ad):Option ad:=if x.canLay0=true/\y.canLay0=true/\x.depth<=60 then some (.bool (ad.eqv x y)) else none
noncomputable def uQ (x y:ad):Option ad:=if x.canLay0=true/\y.canLay0=true/\x.depth<=60 then some (.bool (!PyData.eqv x y)) else none
noncomputable def oQ (x:ad):Bool:=match x with | .none=>true | _=>false
noncomputable def Jv (x y:ad):Option ad:=match y with | .none=>some (.bool (!oQ x)) | _=>none
noncomputable def B5 (x:ad)(ds:List ad):Option Bool:=if x.canLay0=true/\ad.canLayAll0 ds=true/\x.depth<=60 then some (ds.any λd=>ad.eqv d x) else none
noncomputable def inD (x y:ad):Option ad:=match y with | .tuple ds=>(B5 x ds).map .bool | .list ds=>(B5 x ds).map .bool | _=>none
noncomputable def ri (x y:ad):Option ad:=match y with | .tuple ds=>(B5 x ds).map λb=>.bool (!b) | .list ds=>(B5 x ds).map λb=>.bool (!b) | _=>none
section
variable {X:Cx}
theorem yv {f:af->af->Sem af}{g:Int->Int->ad}{gv:Int->Int->V}{op:ad->ad->Option ad}(h:jF X f (HB gv))(hg:∀i j S H,dP S H (g i j) (gv i j))(ho:∀x y d,op x y=some d->∃i j,x=.int i/\y=.int j/\d=g i j):uq X f op :=
 ⟨_,h,λgs S H dx dy x y d R _ _ r1 r2 e k=>by
  obtain⟨i,j,rfl,rfl,rfl⟩:=ho _ _ _ e;exact⟨i,j,r1.dY,r2.dY,k _ H (hg i j S H) (.refl _ _)⟩⟩
theorem Nj {f:af->af->Sem af}{C:Int->Int->Prop}{g:Int->Int->ad}{gv:Int->Int->V}{op:ad->ad->Option ad}(h:jF X f (rI C gv))(hg:∀i j S H,dP S H (g i j) (gv i j))(ho:∀x y d,op x y=some d->∃i j,x=.int i/\y=.int j/\C i j/\d=g i j):uq X f op :=
 ⟨_,h,λgs S H dx dy x y d R _ _ r1 r2 e k=>by
  obtain⟨i,j,rfl,rfl,hc,rfl⟩:=ho _ _ _ e;exact⟨i,j,r1.dY,r2.dY,hc,k _ H (hg i j S H) (.refl _ _)⟩⟩
theorem F6:uq X (binaryOp .Sub) yt:=yv (g:=λi j=>.int (i - j)) Mc (λ_ _ _ _=>.int _) λx y d e=>by
 cases x<;>cases y<;>simp[yt] at e;exact⟨_,_,rfl,rfl,e.symm⟩
theorem TZ:uq X (compareOp .Lt) Sh:=yv (g:=λi j=>.bool (decide (i<j))) Ko (λ_ _ _ _=>.bl _) λx y d e=>by
 cases x<;>cases y<;>simp[Sh] at e;exact⟨_,_,rfl,rfl,e.symm⟩
theorem T1:uq X (compareOp .LtE) QF:=yv (g:=λi j=>.bool (decide (i<=j))) Pb (λ_ _ _ _=>.bl _) λx y d e=>by
 cases x<;>cases y<;>simp[QF] at e;exact⟨_,_,rfl,rfl,e.symm⟩
theorem F7:uq X (compareOp .Gt) AF:=yv (g:=λi j=>.bool (decide (j<i))) Kp (λ_ _ _ _=>.bl _) λx y d e=>by
 cases x<;>cases y<;>simp[AF] at e;exact⟨_,_,rfl,rfl,e.symm⟩
theorem yy:uq X (binaryOp .Mod) yu:=Nj (g:=λi j=>.int (i % j)) nq (λ_ _ _ _=>.int _) λx y d e=>by
 cases x<;>cases y<;>simp[yu] at e;exact⟨_,_,rfl,rfl,e.1,e.2.symm⟩
theorem QH:uq X (binaryOp .LShift) F5:=Nj (g:=λi j=>.int (i * 2 ^ j.toNat)) Me (λ_ _ _ _=>.int _) λx y d e=>by
 cases x<;>cases y<;>simp[F5] at e;exact⟨_,_,rfl,rfl,e.1,e.2.symm⟩
theorem QJ:uq X (binaryOp .RShift) AE:=Nj (g:=λi j=>.int (i / 2 ^ j.toNat)) Mf (λ_ _ _ _=>.int _) λx y d e=>by
 cases x<;>cases y<;>simp[AE] at e;exact⟨_,_,rfl,rfl,e.1,e.2.symm⟩
theorem Jw (r:dP S H d v):oQ d=decide (v=.h8):=by
 cases d with
 | none=>cases r.kG;rfl
 | bool b=>cases r.iG;rfl
 | int b=>cases r.dY;rfl
 | str b=>cases r.jm;rfl
 | tuple b=>obtain⟨a,xs,rfl,_⟩:=r.fm;rfl
 | list b=>obtain⟨a,xs,rfl,_⟩:=r.eG;rfl
 | dict b=>obtain⟨a,t,kvs,xs,rfl,_⟩:=r.lW;rfl
theorem eS.X4 (r:eS gs S H d v):oQ d=decide (v=.h8):=by
 rcases r with r | ⟨ds,a,xs,rfl,rfl,_⟩ | ⟨t,kvs,a,xs,rfl,rfl,_⟩
 .exact Jw r
 .rfl
 .rfl
theorem QL:uq X (compareOp .IsNot) Jv:=⟨_,Ii,λgs S H dx dy x y d R _ _ r1 r2 e k=>by
 cases dy with
 | none=>cases e;exact⟨r2.kG,r1.X4 ▸ k _ H (.bl _) (.refl _ _)⟩
 | _=>cases e⟩
theorem eS.reads (r:eS gs S H d v)(c0:d.canLay0=true)(ok:ka P w H h)(rv:RelV v u):∃as,Reads h u d as:=by
 rcases r with r | ⟨ds,a,xs,rfl,rfl,ha,rs,_⟩ | ⟨t,kvs,a,xs,rfl,_⟩
 .exact dP.reads ok c0 r rv
 .cases (show u=af.ref a from rv)
  obtain⟨_,its,n,rv,e⟩:=ok a _ ha;obtain⟨as,ra⟩:=dm.reads ok (by simpa [ad.canLay0] using c0) rs rv;exact⟨_,.list e rfl rfl (by simpa using ra)⟩
 .simp[gT,ad.canLay0] at c0
def QM (neg:Bool):R2:=λx y H Q=>∃gs S dx dy,eS gs S H dx x/\eS gs S H dy y/\dx.canLay0=true/\dy.canLay0=true/\dx.depth<=60/\Q (.bl (if neg then !PyData.eqv dx dy else ad.eqv dx dy)) H
theorem Nk (CT:X.A.units+64<cLine):jF X (compareOp .Eq) (QM false):=by
 intro pins s σ H x y v u Q I rx ry h;obtain⟨gs,S,dx,dy,h1,h2,c1,c2,d1,q⟩:=h;obtain⟨as,ra⟩:=h1.reads c1 I.hok rx;obtain⟨bs,rb⟩:=h2.reads c2 I.hok ry;exact SeqAt.compareEq_reads ra rb c1 c2 (!1) ⟨.bl _,H,I,rfl,q⟩
theorem Nl (CT:X.A.units+64<cLine):jF X (compareOp .NotEq) (QM true):=by
 intro pins s σ H x y v u Q I rx ry h;obtain⟨gs,S,dx,dy,h1,h2,c1,c2,d1,q⟩:=h;obtain⟨as,ra⟩:=h1.reads c1 I.hok rx;obtain⟨bs,rb⟩:=h2.reads c2 I.hok ry;exact SeqAt.compareNe_reads ra rb c1 c2 (!1) ⟨.bl _,H,I,rfl,q⟩
theorem ja (CT:X.A.units+64<cLine):uq X (compareOp .Eq) lR:=⟨_,Nk CT,λgs S H dx dy x y d R _ _ r1 r2 e k=>by
 unfold lR at e;split at e
 .rename_i hc
  cases e;exact⟨gs,S,dx,dy,r1,r2,hc.1,hc.2.1,hc.2.2,k _ H (.bl _) (.refl _ _)⟩
 .cases e⟩
theorem yz (CT:X.A.units+64<cLine):uq X (compareOp .NotEq) uQ:=⟨_,Nl CT,λgs S H dx dy x y d R _ _ r1 r2 e k=>by
 unfold uQ at e;split at e
 .rename_i hc
  cases e;exact⟨gs,S,dx,dy,r1,r2,hc.1,hc.2.1,hc.2.2,k _ H (.bl _) (.refl _ _)⟩
 .cases e⟩
end
section
variable {X:Cx}
theorem eS.HN {K:W.Frag}{gs S:List Addr}{H:Hp}{ds:List ad}{v:V}(h:eS gs S H (.tuple ds) v):∃a xs,v=.ref a/\iz K H a xs/\H a=some (.tup xs)/\dm S H ds xs:=let ⟨a,xs,e,ha,r⟩:=h.fm;⟨a,xs,e,iz.of ha,ha,r⟩
theorem eS.K4 {K:W.Frag}{gs S:List Addr}{H:Hp}{ds:List ad}{v:V}(h:eS gs S H (.list ds) v):∃a xs,v=.ref a/\gp K H a xs/\H a=some (.lst xs)/\dm S H ds xs:=let ⟨a,xs,e,ha,r⟩:=h.eG;⟨a,xs,e,gp.of ha,ha,r⟩
theorem rK {S:List Addr}{H:Hp}{ds:List ad}{xs:List V}{p:Addr}(hp:H p=none)(r:dm S H ds xs):dP S (d0 H p (.tup xs)) (.tuple ds) (.ref p):=.tup dg (r.ext (.new hp))
theorem rL (has:∀a∈S,H a≠none)(hp:H p=none)(r:dm S H ds xs):dP S (d0 H p (.lst xs)) (.list ds) (.ref p):=.lst dg (λz=>has p z hp) (r.ext (.new hp))
theorem dm.flat (r:dm S H ds xs)(k:Nat):dm S H (List.replicate k ds).flatten (List.replicate k xs).flatten:=by
 induction k with
 | zero=>exact .nil
 | succ k ih=>rw[aF,aF,b8,b8];exact r.append ih
theorem qN:uq X (binaryOp .Add) lL:=⟨_,((se.or (Tj X.K)).or E3).or zS,λgs S H dx dy x y d R has sz r1 r2 e k=>by
 cases dx with
 | int i=>cases dy with
  | int j=>cases e;exact .inl (.inl (.inl ⟨i,j,r1.dY,r2.dY,k _ H (.int _) (.refl _ _)⟩))
  | _=>cases e
 | str i=>cases dy with
  | str j =>
   simp only[lL] at e;split at e
   .rename_i hz
    cases e;exact .inr ⟨i,j,r1.jm,r2.jm,hz,k _ H (.str _) (.refl _ _)⟩
   .cases e
  | _=>cases e
 | tuple ds=>cases dy with
  | tuple es =>
   simp only[lL] at e;split at e
   .rename_i hz
    cases e;obtain⟨a,xs,rfl,s1,h1,q1⟩:=r1.HN (K:=X.K);obtain⟨b,ys,rfl,s2,h2,q2⟩:=r2.HN (K:=X.K);refine .inl (.inl (.inr ⟨a,b,xs,ys,rfl,rfl,s1,s2,by rw[q1.length,q2.length];exact hz,λe=>?_,λe=>?_,λp hp=>k _ _ (rK hp (q1.append q2)) (.new hp)⟩))
    .subst e
     cases ds with
     | nil=>exact k _ H (.tup h2 q2) (.refl _ _)
     | cons d ds=>have:=q1.length;simp at this
    .subst e
     cases es with
     | nil=>rw[bj] at k;exact k _ H (.tup h1 q1) (.refl _ _)
     | cons d ds=>have:=q2.length;simp at this
   .cases e
  | _=>cases e
 | list ds=>cases dy with
  | list es =>
   simp only[lL] at e;split at e
   .rename_i hz
    cases e;obtain⟨a,xs,rfl,h1,q1⟩:=r1.eG;obtain⟨b,ys,rfl,h2,q2⟩:=r2.eG;exact .inl (.inr ⟨a,b,xs,ys,rfl,rfl,h1,h2,by rw[q1.length,q2.length];exact hz,λp hp=>k _ _ (rL has hp (q1.append q2)) (.new hp)⟩)
   .cases e
  | _=>cases e
 | _=>cases dy<;>cases e⟩
theorem QN:uq X (binaryOp .Mult) AD:=⟨_,(pL.or E4).or (FV X.K),λgs S H dx dy x y d R has sz r1 r2 e k=>by
 cases dx with
 | int i=>cases dy with
  | int j =>
   simp only[AD] at e;split at e
   .rename_i hz
    cases e;exact .inl (.inl ⟨i,j,r1.dY,r2.dY,hz,k _ H (.int _) (.refl _ _)⟩)
   .cases e
  | _=>cases e
 | list ds=>cases dy with
  | int j =>
   simp only[AD] at e;split at e
   .rename_i hz
    cases e;obtain⟨a,xs,rfl,h1,q1⟩:=r1.eG;exact .inl (.inr ⟨a,j,xs,rfl,r2.dY,h1,hz.1,hz.2.1,by rw[q1.length];exact hz.2.2,λp hp=>k _ _ (rL has hp (q1.flat _)) (.new hp)⟩)
   .cases e
  | _=>cases e
 | tuple ds=>cases dy with
  | int j =>
   simp only[AD] at e;split at e
   .rename_i hz
    cases e;obtain⟨a,xs,rfl,s1,h1,q1⟩:=r1.HN (K:=X.K);by_cases h:j=1
    .subst h
     refine .inr (.inl ⟨a,xs,rfl,r2.dY,s1,k _ H ?_ (.refl _ _)⟩);simpa using dP.tup h1 q1
    .refine .inr (.inr ⟨a,j,xs,rfl,r2.dY,s1,λz=>?_,!1,hz.2.1,by rw[q1.length];exact hz.2.2.2,λp hp=>k _ _ (rK hp (q1.flat _)) (.new hp)⟩)
     subst z;have:=q1.length;exact hz.2.2.1 (by simpa using this.symm)
   .cases e
  | _=>cases e
 | _=>cases dy<;>cases e⟩
def QP (neg:Bool):R2:=λx y H Q=>∃gs S dx ds p xs,eS gs S H dx x/\y=.ref p/\(H p=some (.lst xs)\/H p=some (.tup xs))/\dm S H ds xs/\dx.canLay0=true/\ad.canLayAll0 ds=true/\dx.depth<=60/\Q (.bl (if neg then !(ds.any λd=>ad.eqv d dx) else ds.any λd=>ad.eqv d dx)) H
open Classical in
noncomputable def zI (S:List Addr)(H:Hp)(xs:List V)(dx:ad)(y:af):Bool:=decide (∃v d,RelV v y/\dP S H d v/\ad.eqv d dx=true)
open Classical in
theorem F8 {S:List Addr}{H:Hp}{xs:List V}{dx d:ad}{v:V}{y:af}(h1:RelV v y)(h2:dP S H d v):zI S H xs dx y=ad.eqv d dx:=by
 unfold zI
 cases e:ad.eqv d dx with
 | true=>exact decide_eq_true ⟨v,d,h1,h2,e⟩
 | false =>
  refine decide_eq_false λ⟨v',d',k1,k2,k3⟩=>?_;cases RelV.one h1 k1;cases dP.one h2 k2;rw[e] at k3;cases k3
theorem oR:∀{ds:List ad} {xs:List V} {us:List af},dm S H ds xs->dO xs us->us.any (zI S H zs dx)=ds.any λd=>ad.eqv d dx
 | [],_,_,h,r=>by cases h.fw;cases r;rfl
 | d::ds,_,_,h,r=>by
  obtain⟨x,t,rfl,h1,h2⟩:=h.of_cons
  cases r with
  | cons q1 q2=>rw[bK,bK,oR h2 q2,F8 q1 h1]
theorem sO (ok:ka P w H s.heap)(rx:eS gs S H dx x)(rv:RelV x v)(c1:dx.canLay0=true)(hu:A.units+60<cLine)(hd:dx.depth<=60) :
  ∀{ds:List ad} {xs:List V} {us:List af},ad.canLayAll0 ds=true->dm S H ds xs->dO xs us->∀u∈us,SeqAt.EqAt A s u v (zI S H zs dx u)
 | [],_,_,_,h,r=>by cases h.fw;cases r;intro u hu;cases hu
 | d::ds,_,_,hc,h,r=>by
  obtain⟨y,t,rfl,h1,h2⟩:=h.of_cons;simp only[ad.canLayAll0,aZ] at hc
  cases r with
  | cons q1 q2 =>
   intro u T3;rcases ap.mp T3 with rfl | T3
   .rw[F8 q1 h1]
    obtain⟨as,ra⟩:=dP.reads ok hc.1 h1 q1;obtain⟨bs,rb⟩:=rx.reads c1 ok rv;exact SeqAt.eqAt_reads d dx A s _ v as bs ra rb hc.1 c1 (by have:min d.depth dx.depth<=60:=(!1);omega)
   .exact sO ok rx rv c1 hu hd hc.2 h2 q2 u T3
theorem Nm (CT:X.A.units+64<cLine):jF X (compareOp .In) (QP false):=by
 intro pins s σ H x y v u Q I rx ry h;obtain⟨gs,S,dx,ds,p,xs,r1,rfl,hq,rs,c1,c2,hd,q⟩:=h;cases ry;have AG:X.A.in1.units+60<cLine:=by show X.A.units+1+60<cLine;omega
 rcases hq with hq | hq
 .obtain⟨its,r,pl,hz⟩:=I.list (gp.of (K:=X.K) hq)
  refine SeqAt.in_listAt (zI S H xs dx) pl.isList (λw hw=>sO I.hok r1 rx c1 AG hd c2 rs r w (by simpa using hw)) ⟨.bl _,H,I,rfl,?_⟩;rw[show its.toArray.any (zI S H xs dx)=its.any (zI S H xs dx) by simp,oR rs r];exact q
 .obtain⟨its,r,pl,hz⟩:=I.tuple (iz.of (K:=X.K) hq)
  refine SeqAt.in_tupleAt (zI S H xs dx) pl (λw hw=>sO I.hok r1 rx c1 AG hd c2 rs r w (by simpa using hw)) ⟨.bl _,H,I,rfl,?_⟩;rw[show its.toArray.any (zI S H xs dx)=its.any (zI S H xs dx) by simp,oR rs r];exact q
theorem Jx (CT:X.A.units+64<cLine):jF X (compareOp .NotIn) (QP true):=by
 intro pins s σ H x y v u Q I rx ry h;obtain⟨gs,S,dx,ds,p,xs,r1,rfl,hq,rs,c1,c2,hd,q⟩:=h;cases ry;have AG:X.A.in1.units+60<cLine:=by show X.A.units+1+60<cLine;omega
 rcases hq with hq | hq
 .obtain⟨its,r,pl,hz⟩:=I.list (gp.of (K:=X.K) hq)
  refine SeqAt.notIn_listAt (zI S H xs dx) pl.isList (λw hw=>sO I.hok r1 rx c1 AG hd c2 rs r w (by simpa using hw)) ⟨.bl _,H,I,rfl,?_⟩;rw[show its.toArray.any (zI S H xs dx)=its.any (zI S H xs dx) by simp,oR rs r];exact q
 .obtain⟨its,r,pl,hz⟩:=I.tuple (iz.of (K:=X.K) hq)
  refine SeqAt.notIn_tupleAt (zI S H xs dx) pl (λw hw=>sO I.hok r1 rx c1 AG hd c2 rs r w (by simpa using hw)) ⟨.bl _,H,I,rfl,?_⟩;rw[show its.toArray.any (zI S H xs dx)=its.any (zI S H xs dx) by simp,oR rs r];exact q
theorem wU (h:B5 x ds=some b):x.canLay0=true/\ad.canLayAll0 ds=true/\x.depth<=60/\(ds.any λd=>ad.eqv d x)=b:=by
 unfold B5 at h;split at h
 .rename_i hc
  cases h;exact⟨hc.1,hc.2.1,hc.2.2,rfl⟩
 .cases h
theorem uR (CT:X.A.units+64<cLine):uq X (compareOp .In) inD:=⟨_,Nm CT,λgs S H dx dy x y d R _ _ r1 r2 e k=>by
 cases dy with
 | tuple ds =>
  obtain⟨b,hb,rfl⟩:=ce.mp (show (B5 dx ds).map ad.bool=some d from e);obtain⟨c1,c2,c3,rfl⟩:=wU hb;obtain⟨a,xs,rfl,ha,rs⟩:=r2.fm;exact⟨gs,S,dx,ds,a,xs,r1,rfl,.inr ha,rs,c1,c2,c3,k _ H (.bl _) (.refl _ _)⟩
 | list ds =>
  obtain⟨b,hb,rfl⟩:=ce.mp (show (B5 dx ds).map ad.bool=some d from e);obtain⟨c1,c2,c3,rfl⟩:=wU hb;obtain⟨a,xs,rfl,ha,rs⟩:=r2.eG;exact⟨gs,S,dx,ds,a,xs,r1,rfl,.inl ha,rs,c1,c2,c3,k _ H (.bl _) (.refl _ _)⟩
 | _=>cases e⟩
theorem yB (CT:X.A.units+64<cLine):uq X (compareOp .NotIn) ri:=⟨_,Jx CT,λgs S H dx dy x y d R _ _ r1 r2 e k=>by
 cases dy with
 | tuple ds =>
  obtain⟨b,hb,rfl⟩:=ce.mp (show (B5 dx ds).map (λb=>ad.bool (!b))=some d from e);obtain⟨c1,c2,c3,rfl⟩:=wU hb;obtain⟨a,xs,rfl,ha,rs⟩:=r2.fm;exact⟨gs,S,dx,ds,a,xs,r1,rfl,.inr ha,rs,c1,c2,c3,k _ H (.bl _) (.refl _ _)⟩
 | list ds =>
  obtain⟨b,hb,rfl⟩:=ce.mp (show (B5 dx ds).map (λb=>ad.bool (!b))=some d from e);obtain⟨c1,c2,c3,rfl⟩:=wU hb;obtain⟨a,xs,rfl,ha,rs⟩:=r2.eG;exact⟨gs,S,dx,ds,a,xs,r1,rfl,.inl ha,rs,c1,c2,c3,k _ H (.bl _) (.refl _ _)⟩
 | _=>cases e⟩
end
noncomputable def dZ (x y:ad):Option ad:=match x,y with | .tuple ds,.int i=>lQ ds i | .list ds,.int i=>lQ ds i | _,_=>none
theorem yC (r:dm S H ds xs)(h:lQ ds i=some d):∃v,lQ xs i=some v/\dP S H d v:=by
 unfold lQ at h ⊢;rw[r.length]
 cases e:Iv ds.length i with
 | none=>rw[e] at h;cases h
 | some j =>
  rw[e] at h;obtain⟨x,hx,rx⟩:=r.at (show ds[j]? = some d from h);exact⟨x,hx,rx⟩
section
variable {X:Cx}{M:Fr}{a b e:Expr}{ua ub:UX}{pos p2:Pos}
theorem dA (ha:KL X M a ua)(hb:KL X M b ub)(hs:wu b:=by exact λ_ _=>rfl):KE X M (.Subscript a b pos) (di dZ ua ub) :=
 .of (BJ ((Xa X.K).or (R4 X.K)) ha.run hb.run hs) λσ H R env pn S n Q ok hu k=>B4 (λgs S H dx dy x y d R _ _ r1 r2 e k=>by
  cases dx with
  | tuple ds=>cases dy with
   | int i =>
    obtain⟨a,xs,rfl,sq,_,rs⟩:=r1.HN (K:=X.K);obtain⟨v,hv,rv⟩:=yC rs (show lQ ds i=some d from e);exact .inl ⟨a,xs,i,v,rfl,r2.dY,sq,hv,k v H rv (.refl _ _)⟩
   | _=>cases e
  | list ds=>cases dy with
   | int i =>
    obtain⟨a,xs,rfl,sq,_,rs⟩:=r1.K4 (K:=X.K);obtain⟨v,hv,rv⟩:=yC rs (show lQ ds i=some d from e);exact .inr ⟨a,xs,i,v,rfl,r2.dY,sq,hv,k v H rv (.refl _ _)⟩
   | _=>cases e
  | _=>cases dy<;>cases e) ok hu k
abbrev UO:=eI->Int->(Option Int->Int->Prop)->Prop
structure KO (X:Cx) (M:Fr) (e:Option Expr) (u:UO):Prop where run:∃t,QO X e t/\∀σ H R env pn S n Q,dz M env pn σ S H n->u env n Q->(∀o H' n',Ext M.gs H H'->M.G H' n'->Q o n'->R o H')->t σ H R
noncomputable def B6:UO:=λ_ n Q=>Q none n
noncomputable def B7 (u:UX):UO:=λenv n Q=>u env n λd n1=>match d with | .int i=>Q (some i) n1 | _=>False
theorem mI:KO X M none B6:=⟨_,BK,λσ H R env pn S n Q ok hu k=>k none H n (.refl _ _) ok.gd hu⟩
theorem mJ (h:KE X M e ua):KO X M (some e) (B7 ua):=⟨_,BL h.run,λσ H R env pn S n Q ok hu k=>⟨env,pn,S,n,_,ok,hu,λv H1 d n1 r1 x1 g1 _ q=>by
 cases d with
 | int i=>exact⟨i,r1.dY,k _ H1 n1 x1 g1 q⟩
 | _=>exact False.elim q⟩⟩
noncomputable def oS {α:Type}(xs:List α)(lo hi:Option Int):List α:=(xs.drop (HT.gj xs.length 0 lo)).take (HT.gj xs.length xs.length hi - HT.gj xs.length 0 lo)
noncomputable def K5 (d:ad)(lo hi:Option Int):Option ad:=match d with | .tuple ds=>some (.tuple (oS ds lo hi)) | .list ds=>some (.list (oS ds lo hi)) | _=>none
noncomputable def B8 (u:UX)(ul uh:UO):UX:=λenv n Q=>u env n λd n1=>ul env n1 λlo n2=>uh env n2 λhi n3=>lE (K5 d lo hi) λd=>Q d n3
theorem sP (r:dm S H ds xs)(lo hi:Option Int):dm S H (oS ds lo hi) (oo xs lo hi):=by
 unfold oS oo;rw[r.length];exact (r.drop _).take _
theorem Dn {S:List Addr}{H:Hp}{ds:List ad}{xs:List V}(r:dm S H ds xs){lo hi:Option Int}(h:oo xs lo hi=xs):oS ds lo hi=ds:=by
 have:=sP r lo hi;rw[h] at this;exact dm.one this r
theorem Dp {lo hi:Option Expr}{ul uh:UO}(he:KL X M e ua)(hl:KO X M lo ul)(hu:KO X M hi uh):KE X M (.Subscript e (.Slice lo hi none p2) pos) (B8 ua ul uh):=by
 obtain⟨tl,q1,l1⟩:=hl.run;obtain⟨th,q2,l2⟩:=hu.run;refine .of (xT ((Xb X.K).or (VT X.K)) he.run q1 q2) λσ H R env pn S n Q ok hu k=>⟨env,pn,S,n,_,ok,hu,λv H1 d n1 r1 x1 g1 _ q=>?_⟩;refine l1 σ H1 _ env pn S n1 _ (ok.step x1 g1) q λlo H2 n2 x2 g2 q=>?_;refine l2 σ H2 _ env pn S n2 _ ((ok.step x1 g1).step x2 g2) q λhi H3 n3 x3 g3 q=>?_;obtain⟨d',e,q⟩:=q;have K6:=((ok.step x1 g1).step x2 g2).step x3 g3;have r3:=(r1.ext ok.yr x2).ext ok.yr x3;have Nn:=(x1.trans x2).trans x3
 cases d with
 | tuple ds =>
  cases e;obtain⟨a,xs,rfl,sq,ha,rs⟩:=r3.HN (K:=X.K);refine .inl ⟨a,xs,rfl,sq,λh=>?_,λp hp=>k _ _ _ n3 (rK hp (sP rs lo hi)) (Nn.trans (.new hp)) (M.iQ g3 (.new (S:=[]) hp) (!4)) q⟩;have:=Dn rs h;exact k _ H3 _ n3 (.tup ha (by rw[this];exact rs)) Nn g3 q
 | list ds =>
  cases e;obtain⟨a,xs,rfl,sq,ha,rs⟩:=r3.K4 (K:=X.K);exact .inr ⟨a,xs,rfl,sq,λp hp=>k _ _ _ n3 (rL K6.has hp (sP rs lo hi)) (Nn.trans (.new hp)) (M.iQ g3 (.new (S:=[]) hp) (!4)) q⟩
 | _=>cases e
end
structure ng (X:Cx) (fv:af) (f:List ad->Option ad):Prop where
 ex:∃r,fL X fv r/\∀gs S H ds vs d (R:VK),(∀a∈S,H a≠none)->ki H->l3 gs S H ds vs->f ds=some d->(∀v H',dP S H' d v->Ext [] H H'->R v H')->r vs H R
noncomputable def iB (f:List ad->Option ad)(ua:UA):UX:=λenv n Q=>ua env n λds n1=>lE (f ds) λd=>Q d n1
section
variable {X:Cx}{M:Fr}{e:Expr}{es:List Expr}{ua:UA}{p pos:Pos}{f:List ad->Option ad}{id T:String}{x:Str}
theorem K7 (hr:∀gs S H ds vs d (R:VK),(∀a∈S,H a≠none)->ki H->l3 gs S H ds vs->f ds=some d->(∀v H',dP S H' d v->Ext [] H H'->R v H')->r vs H R)(ok:dz M env pn σ S H n)(hu:iB f ua env n Q)(k:∀v H' d n',dP S H' d v->Ext M.gs H H'->M.G H' n'->Q d n'->R v H'):Pj r (FY M ua) σ H R :=
 ⟨env,pn,S,n,_,ok,hu,λvs H1 ds n1 r1 x1 g1 sz q=>by
  obtain⟨d,e,q⟩:=q;exact hr M.gs S H1 ds vs d R (ok.step x1 g1).has sz r1 e λv H2 r2 x2=>k v H2 d n1 r2 (x1.trans (x2.mono (!4))) (M.iQ g1 x2 (!4)) q⟩
theorem jH (hc:ng X (.builtin id) f)(hm:X.mg x=none)(ha:Ng X M (e::es) ua)(hg:Gl X x:=by rfl)(hv:bootBuiltins x=some (.builtin id):=by decide +kernel)(hn:x ≠ "__name__" := by decide)(lK:(x == ("__debug__" : Str))=false:=by decide) :
  KE X M (.Call (.Name x p) (e::es) [] pos) (iB f ua):=by
 obtain⟨r,h1,h2⟩:=hc.ex;exact .of (gU h1 hg hm hv ha.run hn lK) λσ H R env pn S n Q ok hu k=>K7 h2 ok hu k
theorem rj (hc:ng X (.type T) f)(hm:X.mg x=none)(ha:Ng X M (e::es) ua)(hg:Gl X x:=by rfl)(hv:bootBuiltins x=some (.type T):=by decide +kernel)(hn:x ≠ "__name__" := by decide)(lK:(x == ("__debug__" : Str))=false:=by decide) :
  KE X M (.Call (.Name x p) (e::es) [] pos) (iB f ua):=by
 obtain⟨r,h1,h2⟩:=hc.ex;exact .of (fk h1 hg hm hv ha.run hn lK) λσ H R env pn S n Q ok hu k=>K7 h2 ok hu k
end
theorem l3.one (h:l3 gs S H [d] vs):∃v,vs=[v]/\eS gs S H d v:=let ⟨v,r,e,h1,h2⟩:=h;⟨v,by rw[e,show r=[] from h2],h1⟩
theorem l3.two (h:l3 gs S H [d,e] vs):∃v w,vs=[v,w]/\eS gs S H d v/\eS gs S H e w:=let ⟨v,r,e,h1,h2⟩:=h;let ⟨w,e2,h3⟩:=l3.one h2;⟨v,w,by rw[e,e2],h1,h3⟩
noncomputable def eM:List ad->Option ad | [.tuple ds]=>some (.int ds.length) | [.list ds]=>some (.int ds.length) | _=>none
noncomputable def qO:List ad->Option ad | [.int i,.int j]=>some (.int (if j<i then j else i)) | _=>none
noncomputable def qP:List ad->Option ad | [.int i,.int j]=>some (.int (if j > i then j else i)) | _=>none
noncomputable def intD:List ad->Option ad | [.int i]=>some (.int i) | [.bool b]=>some (.int (if b then 1 else 0)) | _=>none
noncomputable def ff:List ad->Option ad | [.tuple ds]=>some (.tuple ds) | [.list ds]=>some (.tuple ds) | _=>none
section
variable {X:Cx}
theorem i5:ng X (.builtin "len") eM:=⟨_,MZ X.K,λgs S H ds vs d R _ _ rs e k=>by
 rcases ds with _ | ⟨d1,_ | ⟨d2,l⟩⟩
 .cases e
 .obtain⟨v,rfl,r⟩:=rs.one
  cases d1 with
  | tuple ds =>
   cases e;obtain⟨a,xs,rfl,sq,_,rr⟩:=r.HN (K:=X.K);refine⟨a,xs,rfl,.inr sq,?_⟩;rw[rr.length];exact k _ H (.int _) (.refl _ _)
  | list ds =>
   cases e;obtain⟨a,xs,rfl,sq,_,rr⟩:=r.K4 (K:=X.K);refine⟨a,xs,rfl,.inl sq,?_⟩;rw[rr.length];exact k _ H (.int _) (.refl _ _)
  | _=>cases e
 .cases d1<;>cases e⟩
theorem yD {f:List ad->Option ad}(hf:∀ds d,f ds=some d->∃i j,ds=[.int i,.int j]){gs S:List Addr}{H:Hp}{ds:List ad}{vs:List V}{d:ad}(rs:l3 gs S H ds vs)(e:f ds=some d):∃i j,ds=[.int i,.int j]/\vs=[.int i,.int j]:=by
 obtain⟨i,j,rfl⟩:=hf _ _ e;obtain⟨v,w,rfl,r,r2⟩:=rs.two;exact⟨i,j,rfl,by rw[r.dY,r2.dY]⟩
theorem Jy (ds:List ad)(d:ad)(e:qO ds=some d):∃i j,ds=[.int i,.int j]:=by
 unfold qO at e;split at e
 .exact⟨_,_,rfl⟩
 .cases e
theorem Jz (ds:List ad)(d:ad)(e:qP ds=some d):∃i j,ds=[.int i,.int j]:=by
 unfold qP at e;split at e
 .exact⟨_,_,rfl⟩
 .cases e
theorem F' (hc:X.calm=true):ng X (.builtin "min") qO:=⟨_,CI hc,λgs S H ds vs d R _ _ rs e k=>by
 obtain⟨i,j,rfl,rfl⟩:=yD Jy rs e;cases e;exact⟨i,j,rfl,k _ H (.int _) (.refl _ _)⟩⟩
theorem Ga (hc:X.calm=true):ng X (.builtin "max") qP:=⟨_,CH hc,λgs S H ds vs d R _ _ rs e k=>by
 obtain⟨i,j,rfl,rfl⟩:=yD Jz rs e;cases e;exact⟨i,j,rfl,k _ H (.int _) (.refl _ _)⟩⟩
theorem QQ:ng X (.type "int") intD:=⟨_,pM,λgs S H ds vs d R _ _ rs e k=>by
 rcases ds with _ | ⟨d1,_ | ⟨d2,l⟩⟩
 .cases e
 .obtain⟨v,rfl,r⟩:=rs.one
  cases d1 with
  | int i=>cases e;exact .inl ⟨i,by rw[r.dY],k _ H (.int _) (.refl _ _)⟩
  | bool i=>cases e;exact .inr ⟨i,by rw[r.iG],k _ H (.int _) (.refl _ _)⟩
  | _=>cases e
 .cases d1<;>cases e⟩
theorem gV:ng X (.type "tuple") ff:=⟨_,Ag X.K,λgs S H ds vs d R _ _ rs e k=>by
 rcases ds with _ | ⟨d1,_ | ⟨d2,l⟩⟩
 .cases e
 .obtain⟨v,rfl,r⟩:=rs.one
  cases d1 with
  | tuple ds =>
   cases e;obtain⟨a,xs,rfl,sq,ha,rr⟩:=r.HN (K:=X.K);exact⟨a,xs,rfl,.inr ⟨sq,k _ H (.tup ha rr) (.refl _ _)⟩⟩
  | list ds =>
   cases e;obtain⟨a,xs,rfl,sq,_,rr⟩:=r.K4 (K:=X.K);exact⟨a,xs,rfl,.inl ⟨sq,λl hl=>k _ _ (rK hl rr) (.new hl)⟩⟩
  | _=>cases e
 .cases d1<;>cases e⟩
end
section
theorem fg {α:Type}{l:List (Option α)}{i j:Nat}{x:α}{y:Option α}(h:(l.set i y)[j]? = some (some x)):(i=j/\y=some x)\/(i≠j/\l[j]? = some (some x)):=by
 by_cases e:i=j
 .subst e
  by_cases hl:i<l.length
  .rw[cv hl] at h;exact .inl ⟨rfl,Option.some.inj h⟩
  .rw[bi (by rw[bn];omega)] at h;cases h
 .rw[aW e] at h;exact .inr ⟨e,h⟩
theorem mK {α:Type}{l:List (Option α)}{i:Nat}{y:Option α}(h:i<l.length):(l.set i y)[i]? = some y:=cv h
theorem dz.set (ok:dz M env pn σ S H n)(r:dP S H d v)(hi:i ∉ M.fd):dz M (env.set i (some (.s d))) pn (σ.set i (some v)) S H n:=by
 refine⟨λj e he=>?_,λj k ds es a h1 h2 h3 h4=>?_,by rw[bn,bn,ok.len],λj hj=>?_,ok.gd,ok.ext,ok.s0,ok.sn,ok.has,ok.pin⟩
 .have hl:i<env.length->i<σ.length:=λz=>by rw[<- ok.len];exact z
  rcases fg he with⟨rfl,e1⟩ | ⟨ne,e1⟩
  .cases e1
   have:i<env.length:=by
    by_cases z:i<env.length
    .exact z
    .rw[bi (by rw[bn];omega)] at he;cases he
   exact⟨v,mK (hl this),r⟩
  .obtain⟨v',hv,rv⟩:=ok.val j e e1
   exact⟨v',by rw[aW ne];exact hv,rv⟩
 .rcases fg h1 with⟨_,e1⟩ | ⟨n1,e1⟩
  .cases e1
  .rcases fg h2 with⟨_,e2⟩ | ⟨n2,e2⟩
   .cases e2
   .rw[aW n1] at h3
    rw[aW n2] at h4;exact ok.ne j k ds es a e1 e2 h3 h4
 .have:i≠j:=λz=>hi (z ▸ hj)
  rw[aW this];exact ok.FW j hj
theorem dz.anew (ok:dz M env pn σ S H n)(h0:H a=none):M.H0 a=none:=by
 by_cases z:a∈M.gs
 .exact absurd h0 (M.yp ok.gd a z)
 .exact ok.ext.fresh z h0
theorem sN.fresh (h:sN M S H e v)(h0:H a=none):sN M (a::S) H e v:=by
 cases e with
 | s d=>exact dP.fresh h0 h
 | o ds =>
  obtain⟨b,xs,e,hb,r,hs,h1⟩:=h;exact⟨b,xs,e,hb,r.fresh h0,am _ hs,h1⟩
 | x c as =>
  obtain⟨b,dx,vs,e,ha,hd,r,g1,g2⟩:=h;exact⟨b,dx,vs,e,ha,hd,r.fresh h0,g1,g2⟩
 | d b t kvs =>
  obtain⟨e,xs,hb,r,hk,hs,h1⟩:=h;exact⟨e,xs,hb,r.fresh h0,hk,am _ hs,h1⟩
theorem dz.QR (ok:dz M env pn σ S H n)(h0:H a=none)(h1:H' a=some (.lst xs))(r:dm (a::S) H' ds xs)(x:Ext M.gs H H')(g:M.G H' n')(hi:i ∉ M.fd) :
  dz M (env.set i (some (.o ds))) pn (σ.set i (some (.ref a))) (a::S) H' n':=by
 have hg:∀b∈M.gs,b∈a::S:=λb hb=>am _ (ok.yr b hb)
 have V':∀(j:Nat) (es:List ad) (b:Addr),env[j]? = some (some (.o es))->σ[j]? = some (some (.ref b))->b≠a:=λj es b e1 e2 z=>by
  obtain⟨v',hv,rv⟩:=ok.val j _ e1;obtain⟨c,xs,e,hc,_,hs,_⟩:=rv;subst e;rw[e2] at hv;cases hv;rw[z] at hs;exact ok.has _ hs h0
 have pF:=ok.step x g;refine⟨λj e he=>?_,λj k um es b h2 h3 h4 h5=>?_,by rw[bn,bn,ok.len],λj hj=>?_,g,pF.ext,λb hb=>am _ (ok.s0 b hb),λb hb=>?_,λb hb=>?_,λp hp=>?_⟩
 .rcases fg he with⟨rfl,e1⟩ | ⟨ne,e1⟩
  .cases e1
   have:i<env.length:=by
    by_cases z:i<env.length
    .exact z
    .rw[bi (by rw[bn];omega)] at he;cases he
   exact⟨.ref a,mK (by rw[<- ok.len];exact this),a,xs,rfl,h1,r,ao ..,ok.anew h0⟩
  .obtain⟨v',hv,rv⟩:=ok.val j e e1
   exact⟨v',by rw[aW ne];exact hv,(rv.fresh h0).step hg x⟩
 .rcases fg h2 with⟨rfl,e1⟩ | ⟨n1,e1⟩
  .have T4:i<σ.length:=by
    by_cases z:i<σ.length
    .exact z
    .rw[bi (by rw[bn];omega)] at h4;cases h4
   rw[mK T4] at h4;cases h4;rcases fg h3 with⟨e3,_⟩ | ⟨n2,e2⟩
   .exact e3
   .rw[aW n2] at h5
    exact absurd rfl (V' k _ _ e2 h5)
  .rw[aW n1] at h4
   rcases fg h3 with⟨rfl,e2⟩ | ⟨n2,e2⟩
   .have T4:i<σ.length:=by
     by_cases z:i<σ.length
     .exact z
     .rw[bi (by rw[bn];omega)] at h5;cases h5
    rw[mK T4] at h5;cases h5;exact absurd rfl (V' j _ _ e1 h4)
   .rw[aW n2] at h5
    exact ok.ne j k _ _ b e1 e2 h4 h5
 .have:i≠j:=λz=>hi (z ▸ hj)
  rw[aW this];exact ok.FW j hj
 .rcases ap.mp hb with z | z
  .rw[z];exact .inr (ok.anew h0)
  .exact ok.sn b z
 .rcases ap.mp hb with z | z
  .rw[z,h1];simp
  .exact pF.has b z
 .exact ((ok.pin p hp).fresh h0).ext (x.mono hg)
theorem dz.put (ok:dz M env pn σ S H n){ds es:List ad}{a:Addr}{xs ys:List V}(he:env[i]? = some (some (.o ds)))(hv:σ[i]? = some (some (.ref a)))(ha:H a=some (.lst xs))(r:dm S H es ys):dz M (env.set i (some (.o es))) pn σ S (d0 H a (.lst ys)) n:=by
 obtain⟨v',Np,a',oO,e',j8,_,hs,h0⟩:=ok.val i _ he;subst e';rw[hv] at Np;cases Np;have x:Ext [a] H (d0 H a (.lst ys)):=.set (!4) ha;have xS:Ext S H (d0 H a (.lst ys)):=x.mono (by simpa using hs);refine⟨λj e hj=>?_,λj k um jk b h2 h3 h4 h5=>?_,by rw[bn,ok.len],ok.FW,M.iQ ok.gd x (by simpa using h0),ok.ext.Te h0 ha,ok.s0,ok.sn,λb hb=>?_,λp hp=>(ok.pin p hp).ext xS⟩
 .rcases fg hj with⟨rfl,e1⟩ | ⟨ne,e1⟩
  .cases e1
   exact⟨_,hv,a,ys,rfl,dg,r.ext xS,hs,h0⟩
  .obtain⟨w,hw,pD⟩:=ok.val j e e1
   refine⟨w,hw,?_⟩
   cases e with
   | s d=>exact dP.ext xS pD
   | o jk =>
    obtain⟨b,zs,e2,hb,r2,B9,Gb⟩:=pD;subst e2;have:b≠a:=λz=>ne (ok.ne i j _ _ a he e1 hv (z ▸ hw));exact⟨b,zs,rfl,by rw[du this];exact hb,r2.ext xS,B9,Gb⟩
   | x c as =>
    obtain⟨b,dx,vs,e2,hb,hd,r2,g1,g2⟩:=pD;exact⟨b,dx,vs,e2,by rw[du (λz=>by rw[z,ha] at hb;cases hb)];exact hb,by rw[du (λz=>by rw[z,ha] at hd;cases hd)];exact hd,r2.ext xS,g1,g2⟩
   | d b t kvs =>
    obtain⟨e2,zs,hb,r2,IW,B9,Gb⟩:=pD;exact⟨e2,zs,by rw[du (λz=>by rw[z,ha] at hb;exact oA hb)];exact hb,r2.ext xS,IW,B9,Gb⟩
 .have g1:∃l,env[j]? = some (some (.o l)):=by
   rcases fg h2 with⟨rfl,_⟩ | ⟨_,e1⟩
   .exact⟨_,he⟩
   .exact⟨_,e1⟩
  have g2:∃l,env[k]? = some (some (.o l)):=by
   rcases fg h3 with⟨rfl,_⟩ | ⟨_,e1⟩
   .exact⟨_,he⟩
   .exact⟨_,e1⟩
  obtain⟨l1,g1⟩:=g1;obtain⟨l2,g2⟩:=g2;exact ok.ne j k _ _ b g1 g2 h4 h5
 .by_cases z:b=a
  .rw[z,dg];simp
  .rw[du z];exact ok.has b hb
theorem dz.freeze (ok:dz M env pn σ S H n){ds:List ad}(he:env[i]? = some (some (.o ds))):∃a xs S',σ[i]? = some (some (.ref a))/\H a=some (.lst xs)/\dP S' H (.list ds) (.ref a)/\dz M (env.set i (some (.s (.list ds)))) pn σ S' H n:=by
 obtain⟨v',hv,a,xs,rfl,ha,r,hs,h0⟩:=ok.val i _ he;have less:∀b∈S.filter (·≠a),b∈S:=λb hb=>(aE.mp hb).1;have hr:dP (S.filter (·≠a)) H (.list ds) (.ref a):=.lst ha (!4) (r.less less);refine⟨a,xs,S.filter (·≠a),hv,ha,hr,λj e hj=>?_,λj k um jk b h2 h3 h4 h5=>?_,by rw[bn,ok.len],ok.FW,ok.gd,ok.ext,λb hb=>?_,λb hb=>ok.sn b (less b hb),λb hb=>ok.has b (less b hb),λp hp=>(ok.pin p hp).less less⟩
 .rcases fg hj with⟨rfl,e1⟩ | ⟨ne,e1⟩
  .cases e1
   exact⟨_,hv,hr⟩
  .obtain⟨w,hw,pD⟩:=ok.val j e e1
   refine⟨w,hw,?_⟩
   cases e with
   | s d=>exact dP.less less pD
   | o jk =>
    obtain⟨b,zs,e2,hb,r2,B9,Gb⟩:=pD;subst e2;have:b≠a:=λz=>ne (ok.ne i j _ _ a he e1 hv (z ▸ hw));exact⟨b,zs,rfl,hb,r2.less less,aE.mpr ⟨B9,by simpa using this⟩,Gb⟩
   | x c as =>
    obtain⟨b,dx,vs,e2,hb,hd,r2,g1,g2⟩:=pD;exact⟨b,dx,vs,e2,hb,hd,r2.less less,g1,g2⟩
   | d b t kvs =>
    obtain⟨e2,zs,hb,r2,IW,B9,Gb⟩:=pD;have:b≠a:=λz=>by rw[z,ha] at hb;exact oA hb
    exact⟨e2,zs,hb,r2.less less,IW,aE.mpr ⟨B9,by simpa using this⟩,Gb⟩
 .rcases fg h2 with⟨_,e1⟩ | ⟨_,e1⟩
  .cases e1
  .rcases fg h3 with⟨_,e2⟩ | ⟨_,e2⟩
   .cases e2
   .exact ok.ne j k _ _ b e1 e2 h4 h5
 .refine aE.mpr ⟨ok.s0 b hb,?_⟩
  have:b≠a:=λz=>M.yq b hb (z ▸ h0);simpa using this
theorem dz.pins (ok:dz M env pn σ S H n)(h:∀p∈qn,p∈pn):dz M env qn σ S H n:=⟨ok.val,ok.ne,ok.len,ok.FW,ok.gd,ok.ext,ok.s0,ok.sn,ok.has,λp hp=>ok.pin p (h p hp)⟩
theorem dz.Ge (ok:dz M env pn σ S H n)(h:dP S H d v):dz M env ((d,v)::pn) σ S H n:=⟨ok.val,ok.ne,ok.len,ok.FW,ok.gd,ok.ext,ok.s0,ok.sn,ok.has,λp hp=>by
 rcases ap.mp hp with rfl | hp
 .exact h
 .exact ok.pin p hp⟩
end
abbrev UG:=ad->eI->(eI->Prop)->Prop
noncomputable def gC (i:Nat):UG:=λd env Q=>Q (env.set i (some (.s d)))
noncomputable def yE:List UG->List ad->eI->(eI->Prop)->Prop
 | [],[],env,Q=>Q env
 | u::us,d::ds,env,Q=>u d env λdJ=>yE us ds dJ Q
 | _,_,_,_=>False
noncomputable def Ey (us:List UG):UG:=λd env Q=>match d with | .tuple ds=>yE us ds env Q | _=>False
def K8 (M:Fr)(u:UG):TG:=λv σ H R=>∃env pn S n d N,dz M env pn σ S H n/\dP S H d v/\u d env N/\∀dJ σ',dz M dJ pn σ' S H n->N dJ->R σ' H
def Nq (M:Fr)(us:List UG):LV:=λvs σ H R=>∃env pn S n ds N,dz M env pn σ S H n/\dm S H ds vs/\yE us ds env N/\∀dJ σ',dz M dJ pn σ' S H n->N dJ->R σ' H
structure KG (X:Cx) (M:Fr) (e:Expr) (u:UG):Prop where run:QG X e (K8 M u)
structure Si (X:Cx) (M:Fr) (es:List Expr) (us:List UG):Prop where run:Kx X es (Nq M us)
theorem QG.weaken (h:QG X e t)(w:∀v σ H Q,t' v σ H Q->t v σ H Q):QG X e t':=⟨λpins s σ H v u D I r q=>h.run pins s σ H v u D I r (w _ σ H _ q)⟩
theorem Kx.weaken (h:Kx X es t)(w:∀v σ H Q,t' v σ H Q->t v σ H Q):Kx X es t':=⟨λpins s σ H v u D I r q=>h.run pins s σ H v u D I r (w _ σ H _ q)⟩
section
theorem X5 (hN:X.N.Nodup)(hx:Loc X.env.scope x)(hi:X.N[i]? = some x:=by rfl)(hf:X.fn x=true\/X.env.scope.names.lookup x=some .local:=by (first | exact .inl rfl | exact .inr rfl | assumption))(hfd:i ∉ M.fd:=by decide):KG X M (.Name x pos) (gC i) :=
 ⟨(oE hN hi hx hf).weaken λv σ H R h=>Sf h λenv pn S n d N h=>h.2.2.2 _ _ (h.1.set h.2.1 hfd) h.2.2.1⟩
theorem pS:Si X M [] []:=⟨IM.weaken λvs σ H R h=>Sf h λenv pn S n ds N h=>by
 obtain⟨ok,r,hu,k⟩:=h
 cases ds with
 | nil=>exact⟨r.fw,k _ _ ok hu⟩
 | cons d ds=>exact False.elim hu⟩
theorem ro (h:KG X M e u)(hr:Si X M es us)(hs:(assignEach (e::es) X.env).map (·.2)=assign e X.env::(assignEach es X.env).map (·.2):=by rfl):Si X M (e::es) (u::us) :=
 ⟨(Fl h.run hr.run hs).weaken λvs σ H R h=>Sf h λenv pn S n ds N h=>by
  obtain⟨ok,r,hu,k⟩:=h
  cases ds with
  | nil=>exact False.elim hu
  | cons d ds =>
   obtain⟨x,t,rfl,r1,r2⟩:=r.of_cons;exact⟨x,t,rfl,env,pn,S,n,d,_,ok,r1,hu,λdJ σ' pF q=>⟨dJ,pn,S,n,ds,N,pF,r2,q,k⟩⟩⟩
theorem yF:∀{us:List UG} {ds:List ad} {env:eI} {Q:eI->Prop},yE us ds env Q->(∀u∈us,∀d env (Q:eI->Prop),u d env Q->∃dJ,Q dJ)->ds.length=us.length
 | [],[],_,_,_,_=>rfl
 | [],_::_,_,_,h,_=>False.elim h
 | _::_,[],_,_,h,_=>False.elim h
 | u::us,d::ds,env,Q,h,k=>by
  obtain⟨dJ,h'⟩:=k u (ao ..) d env _ h;simp only[aj];rw[yF h' λw hw=>k w (am _ hw)]
theorem QU:∀d env (Q:eI->Prop),gC i d env Q->∃dJ,Q dJ:=λ_ _ _ h=>⟨_,h⟩
theorem Ou (hc:X.calm=true)(h:Si X M es us)(hu:∀u∈us,∀d env (Q:eI->Prop),u d env Q->∃dJ,Q dJ)(hl:us.length=n')(hn:(assignEach es X.env).length=n':=by rfl)(u5:(assignEach es X.env).findIdx? (·.1)=none:=by rfl):KG X M (.Tuple es k pos) (Ey us) :=
 ⟨(MU hc h.run hn u5).weaken λv σ H R h=>Sf h λenv pn S n d N h=>by
  obtain⟨ok,r,hh,k⟩:=h
  cases d with
  | tuple ds =>
   obtain⟨a,xs,rfl,ha,rs⟩:=r.fm;exact⟨a,xs,rfl,iz.of ha,by rw[rs.length,yF hh hu,hl],env,pn,S,n,ds,N,ok,rs,hh,k⟩
  | _=>exact False.elim hh⟩
end
structure zJ (S:List Addr) (J:It) (its:List ad) (H:Hp):Prop where
 go:∀i,i<its.length->J.go i H
 HA:∀i x H',i<its.length->J.HA i H x H'->∃d,its[i]? = some d/\Ext [] H H'/\dP S H' d x
 stop:∀i,its.length<=i->J.stop i H
abbrev UI:=eI->Int->(List ad->eI->Int->Prop)->Prop
abbrev UJ:=eI->Int->(List ad->Int->Prop)->Prop
theorem QI.kj (h:QI X tg iter wi):QI X tg iter (λσ H R=>wi σ H λJ H1=>ki H1->R J H1) :=
 ⟨λpins s σ H R I q=>fy (h.run pins s σ H _ I q) λv s1 q1=>fy q1 λit s2 ⟨a,fp,tn,J,H',e,I2,t,t0,f,r⟩=>⟨a,fp,tn,J,H',e,I2,t,t0,f,r I2.hok.kj⟩⟩
structure KI (X:Cx) (M:Fr) (tg iter:Expr) (u:UI):Prop where
 ex:∃wi,QI X tg iter wi/\∀σ H R env pn S n Q,dz M env pn σ S H n->u env n Q ->
  (∀J H' its dJ S' n' p,dz M dJ (p++pn) σ S' H' n'->(∀S2 H2,(∀q∈p,dP S2 H2 q.1 q.2)->zJ S2 J its H2)->Q its dJ n'->R J H')->wi σ H R
structure KJ (X:Cx) (M:Fr) (tg iter:Expr) (u:UJ):Prop where
 ex:∃wi,QI X tg iter wi/\∀σ H R env pn S n Q,dz M env pn σ S H n->u env n Q ->
  (∀J H' its n',Ext M.gs H H'->M.G H' n'->(∀H2,Ext M.gs H' H2->zJ S J its H2)->its.length<=au->Q its n'->R J H')->wi σ H R
theorem AH {K:W.Frag}{S:List Addr}{H:Hp}{a:Addr}{xs:List V}{ds:List ad}(ha:H a=some (.tup xs))(r:dm S H ds xs):zJ S (Ib K a) ds H :=
 ⟨λi hi=>⟨xs,xs[i]'(by rw[r.length];exact hi),iz.of ha,!4⟩,λi x H' _ ⟨e,y⟩=>by
  subst e;obtain⟨d,hd,rd⟩:=r.get (y xs (iz.of ha));exact⟨d,hd,.refl _ _,rd⟩,λi hi=>⟨xs,iz.of ha,by rw[r.length];exact hi⟩⟩
theorem wV {K:W.Frag}{S:List Addr}{H:Hp}{a:Addr}{xs:List V}{ds:List ad}(ha:H a=some (.lst xs))(r:dm S H ds xs):zJ S (Ia K a) ds H :=
 ⟨λi hi=>⟨xs,xs[i]'(by rw[r.length];exact hi),gp.of ha,!4⟩,λi x H' _ ⟨e,y⟩=>by
  subst e;obtain⟨d,hd,rd⟩:=r.get (y xs (gp.of ha));exact⟨d,hd,.refl _ _,rd⟩,λi hi=>⟨xs,gp.of ha,by rw[r.length];exact hi⟩⟩
noncomputable def gy (ds:List ad):List ad:=ds.zipIdx.map λp=>.tuple [.int (p.2:Nat),p.1]
theorem jf (ds:List ad):(gy ds).length=ds.length:=by simp[gy]
theorem yG {ds:List ad}{i:Nat}{d:ad}(h:ds[i]? = some d):(gy ds)[i]? = some (.tuple [.int (i:Nat),d]):=by
 unfold gy;rw[az,List.getElem?_zipIdx,h];simp
theorem yH {K:W.Frag}{S:List Addr}{H:Hp}{a:Addr}{xs:List V}{ds:List ad}(ha:H a=some (.tup xs))(r:dm S H ds xs):zJ S (Qc K a) (gy ds) H :=
 ⟨λi hi=>⟨xs,xs[i]'(by rw[r.length,<- jf];exact hi),iz.of ha,!4⟩,λi x H' _ ⟨T,xi,e1,hT,e2,T5⟩=>by
  subst e1 e2;obtain⟨d,hd,rd⟩:=r.get (T5 xs (iz.of ha));exact⟨_,yG hd,.new hT,.tup dg (.cons (.int _) (.cons (rd.ext (.new hT)) .nil))⟩,λi hi=>⟨xs,iz.of ha,by rw[r.length,<- jf];exact hi⟩⟩
theorem yI {K:W.Frag}{S:List Addr}{H:Hp}{a:Addr}{xs:List V}{ds:List ad}(ha:H a=some (.lst xs))(r:dm S H ds xs):zJ S (Qj K a) (gy ds) H :=
 ⟨λi hi=>⟨xs,xs[i]'(by rw[r.length,<- jf];exact hi),gp.of ha,!4⟩,λi x H' _ ⟨T,xi,e1,hT,e2,T5⟩=>by
  subst e1 e2;obtain⟨d,hd,rd⟩:=r.get (T5 xs (gp.of ha));exact⟨_,yG hd,.new hT,.tup dg (.cons (.int _) (.cons (rd.ext (.new hT)) .nil))⟩,λi hi=>⟨xs,gp.of ha,by rw[r.length,<- jf];exact hi⟩⟩
noncomputable def lM (lo:Int)(n:Nat):List ad:=(List.range n).map λ(k:Nat)=>.int (lo+k)
theorem Gf {S:List Addr}{H:Hp}{lo:Int}{n:Nat}:zJ S (RV lo n) (lM lo n) H :=
 have hl:(lM lo n).length=n:=by simp[lM]
 ⟨λi hi=>by rw[hl] at hi;exact hi,λi x H' hi ⟨e1,e2⟩=>by
  subst e1 e2;rw[hl] at hi;exact⟨.int (lo+(i:Nat)),by simp[lM,List.getElem?_range hi],.refl _ _,.int _⟩,λi hi=>by rw[hl] at hi;exact hi⟩
noncomputable def Dq (i:Nat):UI:=λenv n Q=>match env[i]? with | some (some (.s (.tuple ds)))=>Q ds env n | some (some (.s (.list ds)))=>Q ds env n | some (some (.o ds))=>Q ds (env.set i (some (.s (.list ds)))) n | _=>False
noncomputable def iI (d:ad):Option (List ad):=match d with | .tuple ds=>some ds | .list ds=>some ds | _=>none
noncomputable def Nr (u:UX):UI:=λenv n Q=>u env n λd n1=>lE (iI d) λds=>Q ds env n1
noncomputable def pT (u:UX):UJ:=λenv n Q=>u env n λd n1=>lE (iI d) λds=>Q ds n1
noncomputable def JA (u:UX):UJ:=λenv n Q=>u env n λd n1=>lE (iI d) λds=>Q (gy ds) n1
noncomputable def QV (u:UX):UI:=λenv n Q=>u env n λd n1=>lE (iI d) λds=>Q (gy ds) env n1
noncomputable def Gg (u:UX):UJ:=λenv n Q=>u env n λd n1=>match d with | .int j=>(-(2 ^ 62)<=j/\j<=16777216)/\Q (lM 0 j.toNat) n1 | _=>False
noncomputable def T6 (u:UX):UI:=λenv n Q=>u env n λd n1=>match d with | .int j=>-(2 ^ 62)<=j/\j<2 ^ 62/\Q (lM 0 j.toNat) env n1 | _=>False
def T7 (u w:UX):UJ:=λenv n Q=>u env n λd n1=>w env n1 λe n2=>match d,e with | .int i,.int j=>(-(2 ^ 62)<=i/\i<2 ^ 62/\-(2 ^ 62)<=j/\j<2 ^ 62)/\j - i<=16777216/\Q (lM i (j - i).toNat) n2 | _,_=>False
def T8 (u w:UX):UI:=λenv n Q=>u env n λd n1=>w env n1 λe n2=>match d,e with | .int i,.int j=>(-(2 ^ 62)<=i/\i<2 ^ 62/\-(2 ^ 62)<=j/\j<2 ^ 62)/\Q (lM i (j - i).toNat) env n2 | _,_=>False
def T9 (K:W.Frag)(te:TE):TI:=λσ H R=>te σ H λx H1=>∃a,x=.ref a/\(((∃xs,gp K H1 a xs)/\R (Ia K a) H1)\/((∃xs,iz K H1 a xs)/\R (Ib K a) H1))
def Ua (K:W.Frag)(ta:TA):TI:=λσ H R=>ta σ H λvs H1=>∃a,vs=[.ref a]/\(((∃xs,gp K H1 a xs)/\R (Qj K a) H1)\/((∃xs,iz K H1 a xs)/\R (Qc K a) H1))
section
variable {X:Cx}{M:Fr}{tg e a b:Expr}{u w:UX}{p pos Je:Pos}{xZ:List Expr}{k:Nat}
theorem AI (h:QE X e te):QI X tg e (T9 X.K te):=by
 refine⟨λpins s σ H R I q=>fy (h.run pins s σ H _ I q) λv s1 ⟨x,H1,I1,r1,q1⟩=>?_⟩;obtain⟨a,e,q1⟩:=q1;subst e;cases r1;rcases q1 with⟨⟨xs,hq⟩,q⟩ | ⟨⟨xs,hq⟩,q⟩
 .obtain⟨its,rv,p,hz⟩:=I1.list hq
  refine wpAny_pyIter_list p.isList ?_;refine⟨s1.heap.objs.size,[s1.heap.objs.size],_,_,H1,rfl,I1.kept (t':=s1.toks) λb o e=>ag _ e,u6 a _,⟨_,aA _ rfl,rfl,rfl⟩,λb hb=>?_,q⟩;have e:b=s1.heap.objs.size:=by simpa using hb
  subst e;exact I1.r6 (al _) (I1.hok.fresh (al _))
 .obtain⟨its,rv,p,hz⟩:=I1.tuple hq
  refine wpAny_pyIter_tuple (show s1.heap.IsTuple a its.toArray from p) ?_;refine⟨s1.heap.objs.size,[s1.heap.objs.size],_,_,H1,rfl,I1.kept (t':=s1.toks) λb o e=>ag _ e,r9 a _,⟨_,aA _ rfl,rfl,rfl⟩,λb hb=>?_,q⟩;have e:b=s1.heap.objs.size:=by simpa using hb
  subst e;exact I1.r6 (al _) (I1.hok.fresh (al _))
theorem Gh (hg:Gl X "enumerate")(hm:X.mg "enumerate" = none)(ha:QA X [a] ta):QI X (.Tuple xZ k Je) (.Call (.Name "enumerate" p) [a] [] pos) (Ua X.K ta):=by
 refine⟨λpins s σ H R I h=>?_⟩;have hs:=eR (env:=X.env) (es:=[]) (jI ha.ns).1;refine Call_ (rY I hg hm (by decide +kernel:bootBuiltins "enumerate" = some (.type "enumerate")) (PyProof.Rows.callWith_type1 (fy (ha.run pos pins s σ H _ I h) λus s1 ⟨vs,H1,I1,r1,q1⟩=>?_) hs rfl));obtain⟨t,e,q1⟩:=q1;subst e
 have Wa:∀b∈[s1.heap.objs.size+1,s1.heap.objs.size],rf X pins H1 b:=λb hb=>by
  have AJ:s1.heap.objs.size<=b:=by
   rcases ap.mp hb with z | z
   .rw[z];exact b9 _
   .have z':b=s1.heap.objs.size:=by simpa using z
    rw[z'];exact al _
  obtain⟨p0,p1,p2,p3,p4,p5⟩:=I1.r6 AJ (I1.hok.fresh AJ);exact⟨p0,p1,p2,p3,p4,p5⟩
 cases r1 with
 | cons r rr =>
  cases rr;cases (show _=af.ref t from r);rcases q1 with⟨⟨xs,hq⟩,q⟩ | ⟨⟨xs,hq⟩,q⟩
  .obtain⟨its,rv,pp,hz⟩:=I1.list hq
   refine call_enumerate_list pp.isList λh' en Ub sz kp=>?_;refine wpAny_pyIter_enum en ?_;have I2:Inv X pins σ H1 { s1 with heap:=h' }:=I1.kept (t':=s1.toks) kp;exact⟨s1.heap.objs.size+1,[s1.heap.objs.size+1,s1.heap.objs.size],_,_,H1,rfl,I2,Au t _ _ (Nat.succ_ne_self _),⟨⟨_,en⟩,Ub⟩,Wa,q⟩
  .obtain⟨its,rv,pp,hz⟩:=I1.tuple hq
   refine Ak (show s1.heap.IsTuple t its.toArray from pp) λh' en Ub sz kp=>?_;refine wpAny_pyIter_enum en ?_;have I2:Inv X pins σ H1 { s1 with heap:=h' }:=I1.kept (t':=s1.toks) kp;exact⟨s1.heap.objs.size+1,[s1.heap.objs.size+1,s1.heap.objs.size],_,_,H1,rfl,I2,Al t _ _ (Nat.succ_ne_self _),⟨⟨_,en⟩,Ub⟩,Wa,q⟩
theorem eS.its {K:W.Frag}{gs S:List Addr}{H:Hp}{d:ad}{v:V}{ds:List ad}(r:eS gs S H d v)(e:iI d=some ds)(hg:∀a∈gs,a∈S):∃a,v=.ref a /\
  (((∃xs,H a=some (.lst xs)/\xs.length=ds.length)/\∀H2,Ext gs H H2->zJ S (Ia K a) ds H2/\zJ S (Qj K a) (gy ds) H2)\/((∃xs,H a=some (.tup xs)/\xs.length=ds.length)/\∀H2,Ext gs H H2->zJ S (Ib K a) ds H2/\zJ S (Qc K a) (gy ds) H2)):=by
 cases d with
 | tuple es =>
  cases e;obtain⟨a,xs,rfl,ha,rs⟩:=r.fm;exact⟨a,rfl,.inr ⟨⟨xs,ha,rs.length⟩,λH2 x=>⟨AH (x.tup _ _ ha) (rs.ext (x.mono hg)),yH (x.tup _ _ ha) (rs.ext (x.mono hg))⟩⟩⟩
 | list es =>
  cases e;have r0:=r;obtain⟨a,xs,rfl,ha,rs⟩:=r.eG;refine⟨a,rfl,.inl ⟨⟨xs,ha,rs.length⟩,λH2 x=>?_⟩⟩;obtain⟨a',oO,e',j8,zK⟩:=(r0.ext hg x).eG;cases e';exact⟨wV j8 zK,yI j8 zK⟩
 | _=>cases e
theorem jK (h:KL X M e u):KJ X M tg e (pT u):=⟨_,(AI h.run).kj,λσ H R env pn S n Q ok hu k=>⟨env,pn,S,n,_,ok,hu,λv H1 d n1 r1 x1 g1 sz q=>by
 obtain⟨ds,e,q⟩:=q;obtain⟨a,rfl,h⟩:=r1.its (K:=X.K) e ok.yr;rcases h with⟨⟨xs,ha,hl⟩,h⟩ | ⟨⟨xs,ha,hl⟩,h⟩
 .exact⟨a,rfl,.inl ⟨⟨xs,gp.of ha⟩,λsz=>k _ H1 ds n1 x1 g1 (λH2 x2=>(h H2 x2).1) (by rw[<- hl];exact sz a xs (.inl ha)) q⟩⟩
 .exact⟨a,rfl,.inr ⟨⟨xs,iz.of ha⟩,λsz=>k _ H1 ds n1 x1 g1 (λH2 x2=>(h H2 x2).1) (by rw[<- hl];exact sz a xs (.inr ha)) q⟩⟩⟩⟩
theorem wW (hm:X.mg "enumerate" = none)(h:KL X M a u)(hs:d9 a=true:=by rfl)(hg:Gl X "enumerate" := by rfl):KJ X M (.Tuple xZ k Je) (.Call (.Name "enumerate" p) [a] [] pos) (JA u) :=
 ⟨_,(Gh hg hm (gI h.run d7 hs)).kj,λσ H R env pn S n Q ok hu k=>⟨env,pn,S,n,_,ok,hu,λv H1 d n1 r1 x1 g1 sz q=>by
  obtain⟨ds,e,q⟩:=q;obtain⟨a,rfl,h⟩:=r1.its (K:=X.K) e ok.yr;rcases h with⟨⟨xs,ha,hl⟩,h⟩ | ⟨⟨xs,ha,hl⟩,h⟩
  .exact⟨a,rfl,.inl ⟨⟨xs,gp.of ha⟩,λsz=>k _ H1 _ n1 x1 g1 (λH2 x2=>(h H2 x2).2) (by rw[jf,<- hl];exact sz a xs (.inl ha)) q⟩⟩
  .exact⟨a,rfl,.inr ⟨⟨xs,iz.of ha⟩,λsz=>k _ H1 _ n1 x1 g1 (λH2 x2=>(h H2 x2).2) (by rw[jf,<- hl];exact sz a xs (.inr ha)) q⟩⟩⟩⟩
theorem Gi (lo:Int)(n:Nat):(lM lo n).length=n:=by simp[lM]
theorem oU (hm:X.mg "range" = none)(h:KE X M a u)(hs:d9 a=true:=by rfl)(hg:Gl X "range" := by rfl):KJ X M tg (.Call (.Name "range" p) [a] [] pos) (Gg u) :=
 ⟨_,vn hg hm (gI h.run d7 hs),λσ H R env pn S n Q ok hu k=>⟨env,pn,S,n,_,ok,hu,λv H1 d n1 r1 x1 g1 sz q=>by
  cases d with
  | int j =>
   have hsz:au=16777216:=by decide
   exact⟨j,by rw[r1.dY],q.1.1,by have:=q.1.2;omega,k _ H1 _ n1 x1 g1 (λH2 _=>Gf) (by rw[Gi,hsz];have:=q.1.2;omega) q.2⟩
  | _=>exact False.elim q⟩⟩
theorem Ca {K:W.Frag}{d:ad}{v:V}{ds:List ad}(e:iI d=some ds){S:List Addr}{H:Hp}(r:dP S H d v):∃a,v=.ref a /\
  (((∃xs,H a=some (.lst xs))/\∀S2 H2,(∀q∈[(d,v)],dP S2 H2 q.1 q.2)->zJ S2 (Ia K a) ds H2/\zJ S2 (Qj K a) (gy ds) H2)\/((∃xs,H a=some (.tup xs))/\∀S2 H2,(∀q∈[(d,v)],dP S2 H2 q.1 q.2)->zJ S2 (Ib K a) ds H2/\zJ S2 (Qc K a) (gy ds) H2)):=by
 cases d with
 | tuple es =>
  cases e;obtain⟨a,xs,rfl,ha,rs⟩:=r.fm;refine⟨a,rfl,.inr ⟨⟨xs,ha⟩,λS2 H2 h=>?_⟩⟩;obtain⟨a',oO,e',j8,zK⟩:=(h _ (av.mpr rfl)).fm;cases e';exact⟨AH j8 zK,yH j8 zK⟩
 | list es =>
  cases e;obtain⟨a,xs,rfl,ha,_,rs⟩:=r.eG;refine⟨a,rfl,.inl ⟨⟨xs,ha⟩,λS2 H2 h=>?_⟩⟩;obtain⟨a',oO,e',j8,_,zK⟩:=(h _ (av.mpr rfl)).eG;cases e';exact⟨wV j8 zK,yI j8 zK⟩
 | _=>cases e
theorem Gj (h:KE X M e u):KI X M tg e (Nr u):=⟨_,AI h.run,λσ H R env pn S n Q ok hu k=>⟨env,pn,S,n,_,ok,hu,λv H1 d n1 r1 x1 g1 sz q=>by
 obtain⟨ds,e,q⟩:=q;have pG:=(ok.step x1 g1).Ge r1;obtain⟨a,rfl,h⟩:=Ca (K:=X.K) e r1;rcases h with⟨⟨xs,ha⟩,h⟩ | ⟨⟨xs,ha⟩,h⟩
 .exact⟨a,rfl,.inl ⟨⟨xs,gp.of ha⟩,k _ H1 ds env S n1 [_] pG (λS2 H2 hh=>(h S2 H2 hh).1) q⟩⟩
 .exact⟨a,rfl,.inr ⟨⟨xs,iz.of ha⟩,k _ H1 ds env S n1 [_] pG (λS2 H2 hh=>(h S2 H2 hh).1) q⟩⟩⟩⟩
theorem Gk (hm:X.mg "enumerate" = none)(h:KE X M a u)(hs:d9 a=true:=by rfl)(hg:Gl X "enumerate" := by rfl):KI X M (.Tuple xZ k Je) (.Call (.Name "enumerate" p) [a] [] pos) (QV u) :=
 ⟨_,Gh hg hm (gI h.run d7 hs),λσ H R env pn S n Q ok hu k=>⟨env,pn,S,n,_,ok,hu,λv H1 d n1 r1 x1 g1 sz q=>by
  obtain⟨ds,e,q⟩:=q;have pG:=(ok.step x1 g1).Ge r1;obtain⟨a,rfl,h⟩:=Ca (K:=X.K) e r1;rcases h with⟨⟨xs,ha⟩,h⟩ | ⟨⟨xs,ha⟩,h⟩
  .exact⟨a,rfl,.inl ⟨⟨xs,gp.of ha⟩,k _ H1 _ env S n1 [_] pG (λS2 H2 hh=>(h S2 H2 hh).2) q⟩⟩
  .exact⟨a,rfl,.inr ⟨⟨xs,iz.of ha⟩,k _ H1 _ env S n1 [_] pG (λS2 H2 hh=>(h S2 H2 hh).2) q⟩⟩⟩⟩
theorem JB (hm:X.mg "range" = none)(h:KE X M a u)(hs:d9 a=true:=by rfl)(hg:Gl X "range" := by rfl):KI X M tg (.Call (.Name "range" p) [a] [] pos) (T6 u) :=
 ⟨_,vn hg hm (gI h.run d7 hs),λσ H R env pn S n Q ok hu k=>⟨env,pn,S,n,_,ok,hu,λv H1 d n1 r1 x1 g1 sz q=>by
  cases d with
  | int j=>exact⟨j,by rw[r1.dY],q.1,q.2.1,k _ H1 _ env S n1 [] (ok.step x1 g1) (λS2 H2 _=>Gf) q.2.2⟩
  | _=>exact False.elim q⟩⟩
theorem K9 (i:Nat)(hN:X.N[i]? = some x:=by rfl)(hv:Bq X.env.scope x:=by (first | exact Or.inl rfl | exact Or.inr (Or.inl rfl) | exact Or.inr (Or.inr rfl)))(hd:(x == ("__debug__" : Str))=false:=by decide)
  (jl:(x == ("__classdict__" : Str))=false:=by decide):KI X M tg (.Name x pos) (Dq i):=⟨_,AI (qv i hN hv hd jl),λσ H R env pn S n Q ok hu k=>by
 unfold Dq at hu;split at hu
 .rename_i ds he
  obtain⟨v,hv,r⟩:=ok.val i _ he;obtain⟨a,xs,rfl,ha,rs⟩:=dP.fm r;refine⟨_,hv,a,rfl,.inr ⟨⟨xs,iz.of ha⟩,k _ H ds env S n [(.tuple ds,.ref a)] (ok.Ge r) (λS2 H2 hh=>?_) hu⟩⟩;obtain⟨a',oO,e',j8,zK⟩:=(hh _ (av.mpr rfl)).fm;cases e';exact AH j8 zK
 .rename_i ds he
  obtain⟨v,hv,r⟩:=ok.val i _ he;obtain⟨a,xs,rfl,ha,_,rs⟩:=dP.eG r;refine⟨_,hv,a,rfl,.inl ⟨⟨xs,gp.of ha⟩,k _ H ds env S n [(.list ds,.ref a)] (ok.Ge r) (λS2 H2 hh=>?_) hu⟩⟩;obtain⟨a',oO,e',j8,_,zK⟩:=(hh _ (av.mpr rfl)).eG;cases e';exact wV j8 zK
 .rename_i ds he
  obtain⟨a,xs,S',hv,ha,r,pF⟩:=ok.freeze he;refine⟨_,hv,a,rfl,.inl ⟨⟨xs,gp.of ha⟩,k _ H ds _ S' n [(.list ds,.ref a)] (pF.Ge r) (λS2 H2 hh=>?_) hu⟩⟩;obtain⟨a',oO,e',j8,_,zK⟩:=(hh _ (av.mpr rfl)).eG;cases e';exact wV j8 zK
 .exact hu.elim⟩
end
noncomputable def de (u w:US):US:=λE env n=>u { E with nx:=w E } env n
noncomputable def eU:US:=λE env n=>E.nx env n
noncomputable def fP (c:UT)(u w:US):US:=λE env n=>c env n λb n1=>if b=true then u E env n1 else w E env n1
noncomputable def dM (u:UX):US:=λE env n=>u env n E.rt
noncomputable def oV (i:Nat):US:=λE env n=>match env[i]? with | some (some (.s d))=>E.rt d n | some (some (.o ds))=>E.rt (.list ds) n | some (some (.d _ t kvs))=>E.rt (gT t kvs) n | _=>False
def QX:US:=λE _ n=>E.rt .none n
noncomputable def dQ (i:Nat)(u:UX):US:=λE env n=>u env n λd n1=>E.nx (env.set i (some (.s d))) n1
noncomputable def sQ (i:Nat)(u:eI->Int->(List ad->Int->Prop)->Prop):US:=λE env n=>u env n λds n1=>E.nx (env.set i (some (.o ds))) n1
def Uc (u:UX)(g:UG):US:=λE env n=>u env n λd n1=>g d env λdJ=>E.nx dJ n1
def QY (u:UX):US:=λE env n=>u env n λ_ n1=>E.nx env n1
section
variable {X:Cx}{M:Fr}{st:Stmt}{MX body P1:List Stmt}{u w:US}{e c tg iter a b:Expr}{ue ua ub:UX}{uc:UT}{pos:Pos}
theorem KS.of (h:QS X st t)(k:∀D σ H env pn S n E,dz M env pn σ S H n->u E env n->(∀dJ σ' S' H' n',dz M dJ pn σ' S' H' n'->E.nx dJ n'->D.nx σ' H')->(∀v H' d n',dP M.S0 H' d v->Ext M.gs M.H0 H'->M.G H' n'->E.rt d n'->D.rt v H')->t D σ H):KS X M st u :=
 ⟨h.weaken λD σ H h=>FZ h λenv pn S n E h=>k D σ H env pn S n E h.1 h.2.1 h.2.2.1 h.2.2.2⟩
theorem fZ:zG X M [] eU:=⟨BM.weaken λD σ H h=>FZ h λenv pn S n E h=>h.2.2.1 _ _ _ _ _ h.1 h.2.1⟩
theorem dj (h:KS X M st u):zG X M [st] u:=⟨iA h.run⟩
theorem dC (h:KS X M st u)(hr:zG X M MX w):zG X M (st::MX) (de u w):=⟨(fb h.run hr.run).weaken λD σ H h=>FZ h λenv pn S n E h =>
 ⟨env,pn,S,n,_,h.1,h.2.1,λdJ σ' S' H' n' pF q=>⟨dJ,pn,S',n',E,pF,q,h.2.2.1,h.2.2.2⟩,h.2.2.2⟩⟩
theorem nC (hc:KB X M c uc)(ha:zG X M body u)(hb:zG X M P1 w):KS X M (.If c body P1 pos) (fP uc u w):=.of (Kz hc.run ha.run hb.run) λD σ H env pn S n E ok hu k1 k2 =>
 ⟨env,pn,S,n,_,ok,hu,λb H1 n1 x1 g1 q=>by
  cases b with
  | true=>exact⟨env,pn,S,n1,E,ok.step x1 g1,q,k1,k2⟩
  | false=>exact⟨env,pn,S,n1,E,ok.step x1 g1,q,k1,k2⟩⟩
theorem dS (h:KE X M e ue):KS X M (.Return (some e) pos) (dM ue):=.of (nv h.run) λD σ H env pn S n E ok hu k1 k2 =>
 ⟨env,pn,S,n,_,ok,hu,λv H1 d n1 r1 x1 g1 _ q=>k2 v H1 d n1 (r1.less ok.s0) (ok.step x1 g1).ext g1 q⟩
theorem Gm (i:Nat)(hN:X.N[i]? = some x:=by rfl)(hv:Bq X.env.scope x:=by (first | exact Or.inl rfl | exact Or.inr (Or.inl rfl) | exact Or.inr (Or.inr rfl)))(hd:(x == ("__debug__" : Str))=false:=by decide)
  (jl:(x == ("__classdict__" : Str))=false:=by decide):KS X M (.Return (some (.Name x ij)) pos) (oV i):=.of (nv (qv i hN hv hd jl)) λD σ H env pn S n E ok hu k1 k2=>by
 unfold oV at hu;split at hu
 .rename_i d he
  obtain⟨v,hv,r⟩:=ok.val i _ he;exact⟨v,hv,k2 v H d n (dP.less ok.s0 r) ok.ext ok.gd hu⟩
 .rename_i ds he
  obtain⟨v,hv,a,xs,rfl,ha,r,hs,h0⟩:=ok.val i _ he;exact⟨_,hv,k2 _ H _ n (.lst ha (λz=>M.yq a z h0) (r.less ok.s0)) ok.ext ok.gd hu⟩
 .rename_i a t kvs he
  obtain⟨v,hv,rfl,xs,ha,r,hk,hs,h0⟩:=ok.val i _ he;exact⟨_,hv,k2 _ H _ n (.PQ ha (λz=>M.yq a z h0) hk (r.less ok.s0)) ok.ext ok.gd hu⟩
 .exact hu.elim
theorem QZ (hN:X.N.Nodup)(hx:Loc X.env.scope x)(h:KE X M e ue)(hi:X.N[i]? = some x:=by rfl)(hs:swapsWith e (some (.Name x ij)) pos.line X.env=pure false:=by rfl)
  (hf:X.fn x=true\/X.env.scope.names.lookup x=some .local:=by (first | exact .inl rfl | exact .inr rfl | assumption)) (hfd:i ∉ M.fd:=by decide):KS X M (.Assign [.Name x ij] e pos) (dQ i ue):=.of (iP hN hi hx h.run hs hf) λD σ H env pn S n E ok hu k1 k2 =>
 ⟨env,pn,S,n,_,ok,hu,λv H1 d n1 r1 x1 g1 _ q=>k1 _ _ _ _ _ ((ok.step x1 g1).set r1 hfd) q⟩
theorem Q0 (hN:X.N.Nodup)(hx:Loc X.env.scope x)(h:KN X M e un)(hi:X.N[i]? = some x:=by rfl)(hs:swapsWith e (some (.Name x ij)) pos.line X.env=pure false:=by rfl)
  (hf:X.fn x=true\/X.env.scope.names.lookup x=some .local:=by (first | exact .inl rfl | exact .inr rfl | assumption)) (hfd:i ∉ M.fd:=by decide):KS X M (.Assign [.Name x ij] e pos) (sQ i un):=.of (iP hN hi hx h.run hs hf) λD σ H env pn S n E ok hu k1 k2 =>
 ⟨env,pn,S,n,_,ok,hu,λa xs H1 ds n1 h0 h1 r1 x1 g1 _ q=>k1 _ _ _ _ _ (ok.QR h0 h1 r1 x1 g1 hfd) q⟩
def Ud (i j:Nat)(ua:UA):US:=λE env n=>ua env n λds n1=>match ds with | [d,e]=>E.nx ((env.set i (some (.s d))).set j (some (.s e))) n1 | _=>False
noncomputable def iK (ug:UG)(ub:US)(E:BX):List ad->eI->Int->Prop
 | [],env,n=>E.nx env n
 | d::ds,env,n=>ug d env λdJ=>ub { nx:=iK ug ub E ds,rt:=E.rt } dJ n
noncomputable def oW (ui:UI)(ug:UG)(ub:US):US:=λE env n=>ui env n λits Gn n1=>iK ug ub E its Gn n1
noncomputable def nD (c:UT)(ub:US):US:=λE env n=>∃W:Nat->eI->Int->Prop,(∃m,W m env n)/\∀m env n,W m env n->c env n λb n1=>if b=true then ub { nx:=λdJ n'=>∃m',m' < m/\W m' dJ n',rt:=E.rt } env n1 else E.nx env n1
theorem qQ (hp:PassesOwn (model X.prog X.w) X.A X.env X.xe)(hc:X.calm=true)(hi:KI X M tg iter ui)(hg:KG X M tg ug)(hb:zG X M body u)(hs:∀x,foldedSetIterable iter X.env x=pure x:=by rw[3]):KS X M (.For tg iter body [] pos) (oW ui ug u):=by
 obtain⟨wi,qi,K'⟩:=hi.ex;refine .of (Af hp hc qi hg.run hb.run hs) λD σ H env pn S n E ok hu k1 k2=>K' σ H _ env pn S n _ ok hu λJ H1 its Gn S1 n1 p pG hJ q=>?_;refine⟨λi m σ' H'=>m=its.length - i/\i<=its.length/\∃dJ S' n',dz M dJ (p++pn) σ' S' H' n'/\iK ug u E (its.drop i) dJ n',⟨its.length,!4,bU _,Gn,S1,n1,pG,q⟩,?_⟩;rintro i m σ' H' ⟨rfl,X6,dJ,S',n',pF,q'⟩;have it:=hJ S' H' λr hr=>pF.pin r (bC _ hr);by_cases og:i<its.length
 .refine .inr ⟨it.go i og,λσ2 H2=>∃AK S2 n2,dz M AK (p++pn) σ2 S2 H2 n2/\iK ug u E (its.drop (i+1)) AK n2,λσ2 H2 h=>⟨its.length - (i+1),!1,rfl,og,h⟩,λx H2 hy=>?_⟩
  obtain⟨d,hd,x2,rd⟩:=it.HA i x H2 og hy
  have e:its.drop i=d::its.drop (i+1):=by
   rw[cK og];congr;exact (aG.mp hd).2
  rw[e] at q';have La:=pF.step (x2.mono (!4)) (M.iQ pF.gd x2 (!4));exact⟨dJ,p++pn,S',n',d,_,La,rd,q',λDr σ3 K6 q3=>⟨Dr,p++pn,S',n',_,K6,q3,λUe σ4 S4 H4 n4 X7 q4=>⟨Ue,S4,n4,X7,q4⟩,k2⟩⟩
 .refine .inl ⟨it.stop i (!1),?_⟩
  rw[cz (!1)] at q';exact k1 _ _ _ _ _ (pF.pins λr hr=>aN _ hr) q'
theorem wX (hp:PassesOwn (model X.prog X.w) X.A X.env X.xe)(hc:KB X M c uc)(hb:zG X M body u):KS X M (.While c body [] pos) (nD uc u) :=
 .of (xU hp hc.run hb.run) λD σ H env pn S n E ok ⟨W,⟨m,hm⟩,hW⟩ k1 k2=>by
  refine⟨λm σ' H'=>∃dJ S' n',dz M dJ pn σ' S' H' n'/\W m dJ n',⟨m,env,S,n,ok,hm⟩,?_⟩;rintro m σ' H' ⟨dJ,S',n',pF,hw⟩;refine⟨dJ,pn,S',n',_,pF,hW m dJ n' hw,λb H1 n1 x1 g1 q=>?_⟩
  cases b with
  | true=>exact⟨λσ2 H2=>∃m',m' < m/\∃AK S2 n2,dz M AK pn σ2 S2 H2 n2/\W m' AK n2,λσ2 H2 h=>h,dJ,pn,S',n1,_,pF.step x1 g1,q,λAK σ2 S2 H2 n2 La ⟨m',R1,X8⟩=>⟨m',R1,AK,S2,n2,La,X8⟩,k2⟩
  | false=>exact k1 _ _ _ _ _ (pF.step x1 g1) q
end
noncomputable def vL (mp:List (Option Nat))(env:eI):eI:=mp.map λo=>match o with | none=>none | some i=>(env[i]?).join
def Fr.sub (M:Fr)(fd:List Nat):Fr:={ M with fd:=fd }
noncomputable def fA (ug:UG)(uc:UT)(ue:UX)(Q:List ad->Int->Prop):List ad->List ad->eI->Int->Prop
 | [],acc,_,n=>Q acc n
 | d::ds,acc,env,n=>ug d env λdJ=>uc dJ n λb n1=>if b=true then ue dJ n1 λy n2=>fA ug uc ue Q ds (acc++[y]) dJ n2 else fA ug uc ue Q ds acc dJ n1
noncomputable def d5 (ui:UJ)(mp:List (Option Nat))(ug:UG)(uc:UT)(ue:UX):eI->Int->(List ad->Int->Prop)->Prop:=λenv n Q=>ui env n λits n1=>fA ug uc ue Q its [] (vL mp env) n1
noncomputable def nE:UT:=λ_ n Q=>Q true n
structure KK (X:Cx) (M:Fr) (oz:List Expr) (u:UT):Prop where run:QK X oz (liftT M u)
section
theorem dz.lU (ok:dz M env pn σ S H n)(hfd:∀j∈fd,∃i∈M.fd,mp[j]? = some (some i))(Ez:(mp.filterMap id).Nodup):dz (M.sub fd) (vL mp env) pn (lU mp σ) S H n:=by
 have at':∀(j:Nat) (e:sM),(vL mp env)[j]? = some (some e)->∃i,mp[j]? = some (some i)/\env[i]? = some (some e):=λj e he=>by
  unfold vL at he;rw[az] at he
  cases hm:mp[j]? with
  | none=>rw[hm] at he;cases he
  | some o =>
   rw[hm] at he
   cases o with
   | none=>cases he
   | some i =>
    refine⟨i,rfl,?_⟩;have JC:(env[i]?).join=some e:=Option.some.inj he
    cases hv:env[i]? with
    | none=>rw[hv] at JC;cases JC
    | some z=>rw[hv] at JC;exact congrArg some (show z=some e from JC)
 have Ug:∀(j i:Nat) (v:V),mp[j]? = some (some i)->σ[i]? = some (some v)->(L2.lU mp σ)[j]? = some (some v):=λj i v h1 h2=>by
  unfold L2.lU;rw[az,h1];simp[h2]
 have Uh:∀(j i:Nat) (v:V),mp[j]? = some (some i)->(L2.lU mp σ)[j]? = some (some v)->σ[i]? = some (some v):=λj i v h1 h2=>by
  unfold L2.lU at h2;rw[az,h1] at h2;have JC:(σ[i]?).join=some v:=Option.some.inj h2
  cases hv:σ[i]? with
  | none=>rw[hv] at JC;cases JC
  | some z=>rw[hv] at JC;exact congrArg some (show z=some v from JC)
 refine⟨λj e he=>?_,λj k ds es a h1 h2 h3 h4=>?_,by simp[vL,L2.lU],λj hj=>?_,ok.gd,ok.ext,ok.s0,ok.sn,ok.has,ok.pin⟩
 .obtain⟨i,hm,hv⟩:=at' j e he
  obtain⟨v,Np,r⟩:=ok.val i e hv;exact⟨v,Ug j i v hm Np,r⟩
 .obtain⟨i,hm,hv⟩:=at' j _ h1
  obtain⟨i2,BR,Nt⟩:=at' k _ h2;have e:=ok.ne i i2 _ _ a hv Nt (Uh _ _ _ hm h3) (Uh _ _ _ BR h4);subst e;have hj:j<mp.length:=(aG.mp hm).1;have hk:k<mp.length:=(aG.mp BR).1;clear h1 h2 h3 h4 at' Ug Uh hfd
  induction mp generalizing j k with
  | nil=>cases hm
  | cons o mp ih =>
   have nd:∀{i:Nat},i∈mp.filterMap id->o≠some i:=λ{i} hi z=>by
    subst z;simp only[bO,id] at Ez;exact (bF.mp Ez).1 hi
   have Ui:(mp.filterMap id).Nodup:=by
    cases o with
    | none=>simpa using Ez
    | some z=>simp only[bO,id] at Ez;exact (bF.mp Ez).2
   have mem:∀{k:Nat},mp[k]? = some (some i)->i∈mp.filterMap id:=λ{k} hk=>cH.mpr ⟨some i,bB hk,rfl⟩
   cases j with
   | zero=>cases k with
    | zero=>rfl
    | succ k =>
     have h1:o=some i:=by simpa using hm
     have h2:mp[k]? = some (some i):=by simpa using BR
     exact absurd h1 (nd (mem h2))
   | succ j=>cases k with
    | zero =>
     have h1:o=some i:=by simpa using BR
     have h2:mp[j]? = some (some i):=by simpa using hm
     exact absurd h1 (nd (mem h2))
    | succ k=>rw[ih Ui j k (by simpa using hm) (by simpa using BR) (by simpa using hj) (by simpa using hk)]
 .obtain⟨i,hi,hm⟩:=hfd j hj
  exact Ug j i _ hm (ok.FW i hi)
theorem kK:KK X M [] nE:=⟨⟨λpins s σ H Q I h=>FZ h λenv pn S n R h=>MW.run pins s σ H Q I (h.2.2 true H n (.refl _ _) h.1.gd h.2.1)⟩⟩
theorem gW (h:KB X M c uc):KK X M [c] uc:=⟨Ae h.run⟩
theorem wY (K':∀σ H R env pn S n Q,dz M env pn σ S H n->ui env n Q ->
  (∀J H' its n',Ext M.gs H H'->M.G H' n'->(∀H2,Ext M.gs H' H2->zJ S J its H2)->its.length<=au->Q its n'->R J H')->wi σ H R)
  (hfd:∀j∈fd,∃i∈M.fd,mp[j]? = some (some i)) (Ez:(mp.filterMap id).Nodup) (ok:dz M env pn σ S H n) (hu:d5 ui mp ug uc ue env n Q)
  (k:∀ys H' ds n',dm S H' ds ys->Ext M.gs H H'->M.G H' n'->Q ds n'->R ys H'):vj wi mp (K8 (M.sub fd) ug) (liftT (M.sub fd) uc) (Qz (M.sub fd) ue) σ H R:=by
 refine K' σ H _ env pn S n _ ok hu λJ H1 its n1 x1 g1 hJ hl q=>?_;have pG:=ok.step x1 g1
 refine⟨λi m ys σ' H'=>m=its.length - i/\i<=its.length/\∃dJ n' acc,dz (M.sub fd) dJ pn σ' S H' n'/\dm S H' acc ys/\acc.length<=i/\Ext M.gs H1 H'/\fA ug uc ue Q (its.drop i) acc dJ n',
  ⟨its.length,!4,bU _,_,n1,[],pG.lU hfd Ez,.nil,al _,.refl _ _,q⟩,?_⟩
 rintro i m ys σ' H' ⟨rfl,X6,dJ,n',acc,pF,ra,ha,x',q'⟩;have it:=hJ H' x';by_cases og:i<its.length
 .refine .inr ⟨it.go i og,by rw[ra.length];omega,λx H2 hy=>?_⟩
  obtain⟨d,hd,x2,rd⟩:=it.HA i x H2 og hy
  have e:its.drop i=d::its.drop (i+1):=by
   rw[cK og];congr;exact (aG.mp hd).2
  rw[e] at q';have La:dz (M.sub fd) dJ pn σ' S H2 n':=pF.step (x2.mono (!4)) (M.iQ pF.gd x2 (!4));refine⟨dJ,pn,S,n',d,_,La,rd,q',λDr σ3 K6 q3=>⟨Dr,pn,S,n',_,K6,q3,λb H4 n4 x4 g4 q4=>?_⟩⟩;have Sj:Ext M.gs H' H4:=(x2.mono (!4)).trans x4
  cases b with
  | true=>exact⟨Dr,pn,S,n4,_,K6.step x4 g4,q4,λy H5 dy n5 r5 x5 g5 _ q5=>⟨its.length - (i+1),!1,rfl,og,Dr,n5,acc++[dy],(K6.step x4 g4).step x5 g5,(ra.ext ((Sj.trans x5).mono ok.yr)).append (.cons r5 .nil),by simp;omega,x'.trans (Sj.trans x5),q5⟩⟩
  | false=>exact⟨its.length - (i+1),!1,rfl,og,Dr,n4,acc,K6.step x4 g4,ra.ext (Sj.mono ok.yr),!1,x'.trans Sj,q4⟩
 .refine .inl ⟨it.stop i (!1),by rw[ra.length];omega,?_⟩
  rw[cz (!1)] at q';exact k ys H' acc n' ra (x1.trans x') pF.gd q'
theorem gm (fd:List Nat)(hc:X.calm=true)(hi:KJ X M tg iter ui)(hk:sc.kind=.function)(hm:gH X.N X.env.scope sc N mp=true)
  (hb:∀(cl:List (Str × Addr)) (C:Addr) (s₂:aq) (H₂:Hp) (fp:List Addr),KG (e9 X sc N cl C s₂ H₂ fp) (M.sub fd) tg ug/\KK (e9 X sc N cl C s₂ H₂ fp) (M.sub fd) oz uc/\KE (e9 X sc N cl C s₂ H₂ fp) (M.sub fd) pE ue)
  (hfd:∀j∈fd,∃i∈M.fd,mp[j]? = some (some i):=by decide) (Ez:(mp.filterMap id).Nodup:=by decide) (hs:∀x,foldedSetIterable iter X.env x=pure x:=by rw[3]):KN X M (.ListComp pE [⟨tg,iter,oz,0⟩] sc pos) (d5 ui mp ug uc ue):=by
 obtain⟨wi,qi,K'⟩:=hi.ex;refine .of (wG hc qi hk hm (λcl C s₂ H₂ fp=>⟨(hb cl C s₂ H₂ fp).1.run,(hb cl C s₂ H₂ fp).2.1.run,(hb cl C s₂ H₂ fp).2.2.run⟩) hs) λσ H R env pn S n Q ok hu k=>?_;refine wY K' hfd Ez ok hu λys H' ds n' r x g q D hD=>?_;have pF:=ok.step x g
 have Uj:H D=none:=by
  by_cases z:D∈M.gs
  .exact absurd hD (M.yp g D z)
  .exact x.fresh z hD
 exact k D ys _ ds n' Uj dg ((r.fresh hD).ext (.new hD)) (x.trans (.new hD)) (M.iQ g (.new (S:=[]) hD) (!4)) q
theorem pU (own:Bool)(fd:List Nat)(hN:X.N.Nodup)(hc:X.calm=true)(hi:KJ X M tg iter ui)(hk:sc.kind=.function)(hm:gH X.N X.env.scope sc N mp=true)
  (hb:∀(cl:List (Str × Addr)) (C:Addr) (s₂:aq) (H₂:Hp) (fp:List Addr),KG (e9 X sc N cl C s₂ H₂ fp) (M.sub fd) tg ug/\KK (e9 X sc N cl C s₂ H₂ fp) (M.sub fd) oz uc/\KE (e9 X sc N cl C s₂ H₂ fp) (M.sub fd) pE ue)
  (ML:X.N[i]? = some x:=by rfl) (hx:X.env.scope.names.lookup x=some .local:=by rfl)
  (hfd:∀j∈fd,∃i∈M.fd,mp[j]? = some (some i):=by decide) (Ez:(mp.filterMap id).Nodup:=by decide) (hfi:i ∉ M.fd:=by decide)
  (IJ:swapsWith (.ListComp pE [⟨tg,iter,oz,0⟩] sc pos) (some (.Name x py)) spos.line X.env=pure true:=by rfl) (hs:∀x,foldedSetIterable iter X.env x=pure x:=by rw[3]) :
  KS X M (.Assign [.Name x py] (.ListComp pE [⟨tg,iter,oz,0⟩] sc pos) spos) (if own then sQ i (d5 ui mp ug uc ue) else dQ i (uL (d5 ui mp ug uc ue))):=by
 obtain⟨wi,qi,K'⟩:=hi.ex;have q:=IU (i:=i) (py:=py) (spos:=spos) (pos:=pos) hN ML hx hc qi hk hm (λcl C s₂ H₂ fp=>⟨(hb cl C s₂ H₂ fp).1.run,(hb cl C s₂ H₂ fp).2.1.run,(hb cl C s₂ H₂ fp).2.2.run⟩) IJ hs
 cases own with
 | true =>
  refine .of q λD σ H env pn S n E ok hu k1 k2=>wY K' hfd Ez ok hu λys H' ds n' r x g q D hD=>?_
  have Uj:H D=none:=by
   by_cases z:D∈M.gs
   .exact absurd hD (M.yp g D z)
   .exact x.fresh z hD
  exact k1 _ _ _ _ _ (ok.QR Uj dg ((r.fresh hD).ext (.new hD)) (x.trans (.new hD)) (M.iQ g (.new (S:=[]) hD) (!4)) hfi) q
 | false =>
  refine .of q λD σ H env pn S n E ok hu k1 k2=>wY K' hfd Ez ok hu λys H' ds n' r x g q D hD=>?_;have pF:=ok.step x g;exact k1 _ _ _ _ _ ((pF.step (.new hD) (M.iQ g (.new (S:=[]) hD) (!4))).set (rL pF.has hD r) hfi) q
end
noncomputable def lI (i:Nat)(f:List ad->List ad->Option (List ad))(ua:UA):US:=λE env n=>match env[i]? with | some (some (.o ds))=>ua env n λas n1=>lE (f ds as) λum=>E.nx (env.set i (some (.o um))) n1 | _=>False
noncomputable def gD (ds as:List ad):Option (List ad):=match as with | [d]=>if ds.length<au then some (ds++[d]) else none | _=>none
structure Wb (X:Cx) (id:String) (f:List ad->List ad->Option (List ad)):Prop where
 ex:∃r,RY X id r/\∀S H a xs ds as vs um (R:VK),H a=some (.lst xs)->dm S H ds xs->dm S H as vs->f ds as=some um->(∀ys v,dm S H um ys->R v (d0 H a (.lst ys)))->r (.ref a) vs H R
section
variable {X:Cx}{M:Fr}{e o:Expr}{es:List Expr}{ua:UA}{pos iF f6:Pos}{name:Str}{id:String}{f:List ad->List ad->Option (List ad)}
theorem kn:Wb X "list.append" gD:=⟨_,CN,λS H a xs ds as vs um R ha r ra e k=>by
 obtain⟨d,rfl⟩:∃d,as=[d]:=by
  unfold gD at e;split at e
  .exact⟨_,rfl⟩
  .cases e
 simp only[gD] at e;split at e
 .rename_i hl
  cases e;obtain⟨v,t,rfl,r1,r2⟩:=ra.of_cons;cases r2.fw;exact⟨a,xs,v,rfl,rfl,ha,by rw[r.length];exact hl,k _ _ (r.append (.cons r1 .nil))⟩
 .cases e⟩
theorem pV (i:Nat)(pa:PlainAttrs "list")(slot:Slot "list" name id)(MB:typeOf (.builtin id)=pure (.type "method_descriptor"))(hm:Wb X id f)(ha:KA X M (e::es) ua)
  (hN:X.N[i]? = some x:=by rfl) (hv:Bq X.env.scope x:=by (first | exact Or.inl rfl | exact Or.inr (Or.inl rfl) | exact Or.inr (Or.inr rfl))) (hd:(x == ("__debug__" : Str))=false:=by decide) (jl:(x == ("__classdict__" : Str))=false:=by decide)
  (ou:attributeBase (.Name x p) name X.env (eval (.Name x p) X.env)=eval (.Name x p) X.env:=by rfl) (hl:decide ((e::es).length+0+0<30)=true:=by rfl) (ox:(iF.endLine == f6.line)=true:=by rfl)
  (hs:swapsWith (.Call (.Attribute (.Name x p) name iF) (e::es) [] f6) none pos.line X.env=pure false:=by rfl):KS X M (.Expr (.Call (.Attribute (.Name x p) name iF) (e::es) [] f6) pos) (lI i f ua):=by
 obtain⟨r,h1,h2⟩:=hm.ex;refine .of (IS (M0 X.K pa slot MB h1 (qv i hN hv hd jl) ha.run rfl ou hl ox) hs) λD σ H env pn S n E ok hu k1 k2=>?_;unfold lI at hu;split at hu
 .rename_i ds he
  obtain⟨v,hv,a,xs,rfl,ha,ra,hs,h0⟩:=ok.val i _ he;refine⟨_,hv,.inl ⟨rfl,xs,gp.of ha⟩,env,pn,S,n,_,ok,hu,λvs H1 as n1 el r1 x1 g1 _ q=>?_⟩;obtain⟨um,e',q⟩:=q;have pG:=ok.step x1 g1;obtain⟨v',Np,a',oO,X9,j8,X',_,_⟩:=pG.val i _ he;subst X9;rw[hv] at Np;cases Np;exact h2 S H1 a oO ds as vs um _ j8 X' r1 e' λys w ry=>k1 _ _ _ _ _ (pG.put he hv j8 ry) q
 .exact hu.elim
def Q1 (i:Nat)(ui ue:UX):US:=λE env n=>match env[i]? with | some (some (.o ds))=>ue env n λd n1=>ui env n1 λk n2=>(match k with | .int k=>lE (Iv ds.length k) λj=>E.nx (env.set i (some (.o (ds.set j d)))) n2 | _=>False) | _=>False
def Q2 (i:Nat)(g:Int->Int->Int)(ui ue:UX):US:=λE env n=>match env[i]? with | some (some (.o ds))=>ui env n λk n1=>(match k with | .int k=>0<=k/\(match ds[k.toNat]? with | some (.int a)=>ue env n1 λd n2=>(match d with | .int b=>E.nx (env.set i (some (.o (ds.set k.toNat (.int (g a b)))))) n2 | _=>False) | _=>False) | _=>False) | _=>False
def Uk (i:Nat)(g:Int->Int->Int)(ue:UX):US:=λE env n=>match env[i]? with | some (some (.s (.int a)))=>ue env n λd n1=>(match d with | .int b=>E.nx (env.set i (some (.s (.int (g a b))))) n1 | _=>False) | _=>False
end
abbrev XQ:=Str->List ad->Prop
abbrev UF:=List ad->Int->(ad->Int->Prop)->XQ->Prop
noncomputable def Lb:XQ:=λ_ _=>False
noncomputable def Rz (C:Xc)(S gs:List Addr)(H:Hp)(E:XK)(c:Str)(as:List ad):Prop:=∀(dx:Addr) (H':Hp) (vs:List V),dm S H' as vs->H' dx=some (.ext (lD dx ((C.fl c).zip vs)))->Ext gs H H'->E (.ref (C.cl c)) (some dx) H'
def ko (C:Xc)(F:UF):Sp:=λvs H Q E=>∃S ds n Qp Xp,dm S H ds vs/\(∀a∈S,H a≠none)/\F ds n Qp Xp/\(∀d v H',dP S H' d v->Ext [] H H'->Qp d n->Q v H')/\∀c as,Xp c as->Rz C S [] H E c as
structure yJ where
 ip:Hp->Addr->Addr->Int->Prop
 ext:∀{S:List Addr} {H H':Hp} {fa sa:Addr} {n:Int},ip H fa sa n->Ext S H H'->fa ∉ S->sa ∉ S->ip H' fa sa n
 fa:∀{H:Hp} {fa sa:Addr} {n:Int},ip H fa sa n->H fa≠none
 sa:∀{H:Hp} {fa sa:Addr} {n:Int},ip H fa sa n->H sa≠none
 nx:∀{H:Hp} {fa sa:Addr} {n:Int},ip H fa sa n->∀φ,H fa≠some (.ext φ)
def yL (Y:yJ)(F:UF):Sp:=λvs H Q E=>∃fa sa us S ds n Qp,vs=.ref fa::us/\Y.ip H fa sa n/\fa∈S/\dm S H ds us/\(∀a∈S,H a≠none)/\F ds n Qp Lb/\(∀d n' v H',dP S H' d v->Y.ip H' fa sa n'->Ext [fa] H H'->Qp d n'->Q v H')
noncomputable def Fr.pure (C:Xc)(n0:Int)(S:List Addr)(H:Hp)(has:∀a∈S,H a≠none):Fr where
 G:=λ_ n=>n=n0
 gs:=[]
 S0:=S
 H0:=H
 fa:=.h8
 fd:=[]
 xc:=C
 iQ:=λh _ _=>h
 yp:=λ_ a h=>by cases h
 V8:=λ_ a h=>by cases h
 Se:=λa h=>by cases h
 yq:=has
def Fr.feed (C:Xc)(Y:yJ)(i:Nat)(fa sa:Addr)(n0:Int)(S:List Addr)(H:Hp)(hf:Y.ip H fa sa n0)(hS:fa∈S)(has:∀a∈S,H a≠none):Fr where
 G:=λH n=>Y.ip H fa sa n
 gs:=[fa]
 S0:=S
 H0:=H
 fa:=.ref fa
 fd:=[i]
 xc:=C
 iQ:=λh x k=>Y.ext h x (λz=>Y.fa hf (k _ z)) (λz=>Y.sa hf (k _ z))
 yp:=λh a ha=>by have e:=av.mp ha;subst e;exact Y.fa h
 V8:=λh a ha=>by have e:=av.mp ha;subst e;exact Y.nx h
 Se:=λa ha=>by have e:=av.mp ha;subst e;exact hS
 yq:=has
noncomputable def envOf (N:Nat)(ds:List ad):eI:=ds.map (λd=>some (.s d))++List.replicate (N - ds.length) none
noncomputable def ib (N np:Nat)(u:XQ->US):UF:=λds n Q Ex=>ds.length=np/\u Ex { nx:=λ_ n'=>Q .none n',rt:=Q } (envOf N ds) n
noncomputable def iT (N np:Nat)(u:XQ->US):UF:=λds n Q Ex=>ds.length+1=np/\u Ex { nx:=λ_ n'=>Q .none n',rt:=Q } (none::envOf (N - 1) ds) n
theorem vM (h0:M.H0=H)(hS:M.S0=S)(r:dm S H ds vs)(hfd:M.fd=[])(g:M.G H n):dz M (envOf N.length ds) [] (start N vs) S H n:=by
 subst h0 hS;have hl:=r.length
 have key:∀(i:Nat) (e:sM),(envOf N.length ds)[i]? = some (some e)->∃d,ds[i]? = some d/\e=.s d:=λi e h=>by
  unfold envOf at h;by_cases hi:i<ds.length
  .rw[bP (by simpa using hi),az] at h
   cases hd:ds[i]? with
   | none=>rw[hd] at h;cases h
   | some d=>rw[hd] at h;exact⟨d,rfl,(Option.some.inj (Option.some.inj h)).symm⟩
  .rw[bW (by simp;omega),cb] at h
   split at h<;>cases h
 refine⟨λi e h=>?_,λi j a b c h1=>?_,?_,(by rw[hfd];intro i hi;cases hi),g,.refl _ _,λa h=>h,λa h=>.inl h,M.yq,λp hp=>by cases hp⟩
 .obtain⟨d,hd,rfl⟩:=key i e h
  obtain⟨v,hv,rv⟩:=r.at hd;refine⟨v,?_,rv⟩;unfold start;rw[bP (by rw[ai];exact (aG.mp hv).1),az,hv];rfl
 .obtain⟨d,_,e⟩:=key _ _ h1
  cases e
 .unfold envOf start
  simp[hl]
theorem AL (h0:M.H0=H)(hS:M.S0=S)(r:dm S H ds vs)(hfd:M.fd=[0])(Gp:M.fa=.ref fa)(hN:1<=N.length)(g:M.G H n):dz M (none::envOf (N.length - 1) ds) [] (start N (.ref fa::vs)) S H n:=by
 subst h0 hS;have hl:=r.length
 have key:∀(i:Nat) (e:sM),(none::envOf (N.length - 1) ds)[i]? = some (some e)->∃j d,i=j+1/\ds[j]? = some d/\e=.s d:=λi e h=>by
  cases i with
  | zero=>cases h
  | succ i =>
   rw[ac] at h;unfold envOf at h;by_cases hi:i<ds.length
   .rw[bP (by simpa using hi),az] at h
    cases hd:ds[i]? with
    | none=>rw[hd] at h;cases h
    | some d=>rw[hd] at h;exact⟨i,d,rfl,hd,(Option.some.inj (Option.some.inj h)).symm⟩
   .rw[bW (by simp;omega),cb] at h
    split at h<;>cases h
 refine⟨λi e h=>?_,λi j a b c h1=>?_,?_,?_,g,.refl _ _,λa h=>h,λa h=>.inl h,M.yq,λp hp=>by cases hp⟩
 .obtain⟨j,d,rfl,hd,rfl⟩:=key i e h
  obtain⟨v,hv,rv⟩:=r.at hd;refine⟨v,?_,rv⟩;unfold start;have M9:j<vs.length:=(aG.mp hv).1;rw[bP (by rw[ai,aj];omega),ah,ac,az,hv];rfl
 .obtain⟨j,d,_,_,e⟩:=key _ _ h1
  cases e
 .unfold envOf start
  simp[hl];omega
 .rw[hfd,Gp]
  intro i hi;have e:=av.mp hi;subst e;unfold start;simp
section
variable {P:aV}{w:World}{K:W.Frag}{mg:Str->Option af}{base:Heap}{f:Addr}{fd:bt}{x:Str}{eK:Str}{st:Stmt}{N ps:List Str}{k:Nat}{C:Xc}{u:XQ->US}{Y:yJ}
theorem Ul (F:uD K x eK st f fd)(hm:mg x=some (.ref f))(sc:eO N ps (c8 st))(hb:Binds K fd ps [])
  (body:∀(d8:af) (A:Around) (outer:List Env) (s:aq) (H:Hp) (E:XK) (n0:Int) (S:List Addr) (has:∀a∈S,H a≠none),fu k (A.deeper (envOfC eK (c8 st) s.heap.objs.size f d8))->zG (kF uj P w K mg base N eK (c8 st) f d8 A outer s H E).Et (Fr.pure C n0 S H has) (fc st) (u Lb)) :
  dF P w K mg base (k+1) x ps (ko C (ib N.length ps.length λ_=>u Lb)):=by
 refine⟨f,fd,F.MY sc (λvs H Q E h=>?_) (λd8 A outer s H vs Q E hr h=>?_),hm,F.kp,hb⟩
 .obtain⟨S,ds,n,Qp,Xp,r,_,hF,_⟩:=h
  rw[r.length];exact hF.1
 .obtain⟨S,ds,n,Qp,Xp,r,has,hF,hq,hx⟩:=h
  refine⟨_,(body d8 A outer s H E n S has hr).run,envOf N.length ds,[],S,n,_,vM rfl rfl r rfl rfl,hF.2,λdJ σ' S' H' n' ok q=>?_,λv H' d n' rv x g q=>?_⟩
  .have e:n'=n:=ok.gd
   subst e;exact hq _ _ H' .h8 ok.ext q
  .have e:n'=n:=g
   subst e;exact hq d v H' rv x q
theorem Um (F:uD K x eK st f fd)(hm:mg x=some (.ref f))(sc:eO N ps (c8 st))(hb:Binds K fd ps [])
  (body:∀(d8:af) (A:Around) (outer:List Env) (s:aq) (H:Hp) (E:XK) (n0:Int) (S:List Addr) (has:∀a∈S,H a≠none) (Ex:XQ),(∀c as,Ex c as->Rz C S [] H E c as)->fu k (A.deeper (envOfC eK (c8 st) s.heap.objs.size f d8)) ->
   zG (kF (Ji P w) P w K mg base N eK (c8 st) f d8 A outer s H E) (Fr.pure C n0 S H has) (fc st) (u Ex)) :
  FI P w K mg base (k+1) x ps (ko C (ib N.length ps.length u)):=by
 refine⟨f,fd,F.XH sc (λvs H Q E h=>?_) (λd8 A outer s H vs Q E hr h=>?_),hm,F.kp,hb⟩
 .obtain⟨S,ds,n,Qp,Xp,r,_,hF,_⟩:=h
  rw[r.length];exact hF.1
 .obtain⟨S,ds,n,Qp,Xp,r,has,hF,hq,hx⟩:=h
  refine⟨_,(body d8 A outer s H E n S has Xp hx hr).run,envOf N.length ds,[],S,n,_,vM rfl rfl r rfl rfl,hF.2,λdJ σ' S' H' n' ok q=>?_,λv H' d n' rv x g q=>?_⟩
  .have e:n'=n:=ok.gd
   subst e;exact hq _ _ H' .h8 ok.ext q
  .have e:n'=n:=g
   subst e;exact hq d v H' rv x q
theorem Uo (F:uD K x eK st f fd)(hm:mg x=some (.ref f))(sc:eO N ps (c8 st))(hb:Binds K fd ps [])(hN:1<=N.length)
  (body:∀(d8:af) (A:Around) (outer:List Env) (s:aq) (H:Hp) (E:XK) (fa sa:Addr) (n0:Int) (S:List Addr) (hf:Y.ip H fa sa n0) (hS:fa∈S) (has:∀a∈S,H a≠none),fu k (A.deeper (envOfC eK (c8 st) s.heap.objs.size f d8)) ->
   zG (kF uj P w K mg base N eK (c8 st) f d8 A outer s H E).Et (Fr.feed C Y 0 fa sa n0 S H hf hS has) (fc st) (u Lb)) :
  dF P w K mg base (k+1) x ps (yL Y (iT N.length ps.length λ_=>u Lb)):=by
 refine⟨f,fd,F.MY sc (λvs H Q E h=>?_) (λd8 A outer s H vs Q E hr h=>?_),hm,F.kp,hb⟩
 .obtain⟨fa,sa,us,S,ds,n,Qp,rfl,_,_,r,_,hF,_⟩:=h
  rw[aj,r.length];exact hF.1
 .obtain⟨fa,sa,us,S,ds,n,Qp,rfl,fe,hS,r,has,hF,hq⟩:=h
  refine⟨_,(body d8 A outer s H E fa sa n S fe hS has hr).run,none::envOf (N.length - 1) ds,[],S,n,_,AL rfl rfl r rfl rfl hN fe,hF.2,λdJ σ' S' H' n' ok q=>?_,λv H' d n' rv x g q=>?_⟩
  .exact hq _ n' _ H' .h8 ok.gd ok.ext q
  .exact hq d n' v H' rv g x q
end
noncomputable def dh (F:UF)(ua:UA):UX:=λenv n Q=>ua env n λds n1=>F ds n1 Q Lb
def Nu (F:UF)(Ex:XQ)(ua:UA):UX:=λenv n Q=>ua env n λds n1=>F ds n1 Q Ex
mutual
def Lc:ad->Bool
 | .list _=>false
 | .tuple ds=>Gr ds
 | .dict _=>false
 | _=>true
def Gr:List ad->Bool
 | []=>true
 | d::ds=>Lc d && Gr ds
end
def Nv (F:UF)(ua:UA):UX:=λenv n Q=>ua env n λds n1=>F ds n1 (λd n'=>Lc d=true/\Q d n') Lb
section
theorem dE (D:dF X.prog X.w X.K X.mg X.base k x ps (ko C F))(hr:fu k X.A)(ha:KA X M (e::es) ua)(hg:Gl X x:=by rfl)(lK:(x == ("__debug__" : Str))=false:=by decide):KE X M (.Call (.Name x p) (e::es) [] pos) (dh F ua) :=
 .of (so D hr ha.run hg lK) λσ H R env pn S n Q ok hu k=>⟨env,pn,S,n,_,ok,hu,λvs H1 ds n1 el r1 x1 g1 _ q=>⟨S,ds,n1,Q,Lb,r1,(ok.step x1 g1).has,q,λd v H2 r2 x2 q2=>k v H2 d n1 r2 (x1.trans (x2.mono (!4))) (M.iQ g1 x2 (!4)) q2,λc as z=>z.elim⟩⟩
theorem gr (i:Nat){y:Str}{p2:Pos}{fa sa:Addr}(D:dF X.prog X.w X.K X.mg X.base k x ps (yL Y F))(hr:fu k X.A)(ha:KA X M es ua)
  (hG:M.G=λH n=>Y.ip H fa sa n:=by rfl) (Gp:M.fa=.ref fa:=by rfl) (Qq:M.gs=[fa]:=by rfl) (hfd:i∈M.fd:=by decide)
  (hN:X.N[i]? = some y:=by rfl) (hv:Bq X.env.scope y:=by (first | exact Or.inl rfl | exact Or.inr (Or.inl rfl) | exact Or.inr (Or.inr rfl))) (hd:(y == ("__debug__" : Str))=false:=by decide) (jl:(y == ("__classdict__" : Str))=false:=by decide)
  (hg:Gl X x:=by rfl) (lK:(x == ("__debug__" : Str))=false:=by decide):KE X M (.Call (.Name x p) (.Name y p2::es) [] pos) (dh F ua) :=
 .of (so D hr (gI (qv i hN hv hd jl) ha.run rfl) hg lK) λσ H R env pn S n Q ok hu k=>⟨_,ok.FW i hfd,env,pn,S,n,_,ok,hu,λvs H1 ds n1 el r1 x1 g1 _ q=>by
  have pG:=ok.step x1 g1;refine⟨fa,sa,vs,S,ds,n1,Q,by rw[Gp],by rw[hG] at g1;exact g1,ok.yr fa (by rw[Qq];simp),r1,pG.has,q,λd n2 v H2 r2 f2 x2 q2=>k v H2 d n2 r2 (x1.trans (by rw[Qq];exact x2)) (by rw[hG];exact f2) q2⟩⟩
noncomputable def sR (Ex:XQ)(c:Str)(ua:UA):US:=λ_ env n=>ua env n λas _=>Ex c as
theorem yM (E:XK)(Ex:XQ)(C:Xc)(R:mH X.prog X.w X.K X.mg X.base x (C.cl x) (FN (C.cl x) f))(hf:C.fl x=[f])(hr:fu 2 X.A)(hl:sH X E)(hc:X.calm=true)(hx:∀c as,Ex c as->Rz C M.S0 M.gs M.H0 E c as)(ha:KA X M [e] ua)(hg:Gl X x:=by rfl)(lK:(x == ("__debug__" : Str))=false:=by decide) :
  KS X M (.Raise (some (.Call (.Name x p) [e] [] f6)) none pos) (sR Ex x ua):=.of (Dl E R hr hl hc ha.run hg lK) λD σ H env pn S n En ok hu k1 k2=>⟨env,pn,S,n,_,ok,hu,λvs H1 as n1 el r1 x1 g1 _ q=>by
 have hv:∃v,vs=[v]:=by
  match vs,el with
  | [v],_=>exact⟨v,rfl⟩
 obtain⟨v,rfl⟩:=hv;refine⟨by show 1<=100;decide,λy hy=>Nd (H0:=H1) (λdx H' hd x'=>?_) (.refl _ _) hy⟩;refine hx x as q dx H' [v] ((r1.ext (x'.mono (!4))).less ok.s0) (by rw[hf];exact hd) ((ok.step x1 g1).ext.trans (x'.mono (!4)))⟩
end
section
theorem Ds (K:W.Frag)(hc:X.calm=true)(hk:X.K=K:=by rfl):fL X (.builtin "sum") (λxs H Q=>∃(p:Addr) (ns:List Int),xs=[.ref p]/\gp K H p (ns.map V.int)/\(∀n∈ns,-500000000000<=n/\n<=500000000000)/\Q (.int ns.sum) H):=by
 subst hk;intro pins s σ H xs us Q I r h;obtain⟨p,ns,rfl,hp,hb,q⟩:=h;obtain⟨u,rfl,ru⟩:=vals1 r;cases ru;obtain⟨its,rv,ht,hz⟩:=I.list hp;have hh:=I.ok.hd hc;have m7:p<s.heap.objs.size:=ht.lt;have eF:its.toArray.size=ns.length:=by rw[aB,<- rv.length,ai]
 rw[ai] at hz;have hsz:au=16777216:=by decide
 have Up:∀l:List Int,(∀n∈l,-500000000000<=n/\n<=500000000000)->-(500000000000 * (l.length:Int))<=l.sum/\l.sum<=500000000000 * l.length:=by
  intro l
  induction l with
  | nil=>intro _;simp
  | cons a l ih =>
   intro hl;have h1:=ih λn hn=>hl n (am _ hn);have h2:=hl a (ao ..);rw[List.sum_cons,aj];omega
 refine call_sum_walk (wpAny_pyIter_list ht.isList ⟨s.heap.objs.size,_,_,its.toArray.size,_,_,λa=>ns.getD a 0,rfl,Walks.list (A:=X.A.in1) hh _ p (aQ m7) its.toArray,⟨⟨_,aA _ rfl,rfl,rfl⟩,ht.isList.at λo e=>ag _ e⟩,?_,?_,?_,?_⟩)
 .intro b AJ
  rw[bE];rcases ap.mp AJ with e | AJ
  .rw[e];exact cm _
  .have e:b=p:=by simpa using AJ
   rw[e];exact cj m7
 .intro a v e
  have e':its[a]? = some v:=by simpa using e
  obtain⟨x,hx,rx⟩:=rv.at' e';rw[az] at hx
  cases hn:ns[a]? with
  | none=>rw[hn] at hx;cases hx
  | some b =>
   rw[hn] at hx;cases hx;obtain⟨t,rfl⟩:=rx;refine⟨t,?_⟩;show af.int b t=af.int (ns.getD a 0) t;rw[ar,hn];rfl
 .intro j hj
  rw[eF] at hj
  have hm:ns.getD j 0∈ns:=by
   have:ns[j]? = some ns[j]:=by simp[hj]
   rw[ar,this];exact cc hj
  have h1:=hb _ hm;have h2:=Up (ns.take (j+1)) λn hn=>hb n (List.mem_of_mem_take hn);rw[bH] at h2;show InLong (ns.getD j 0)/\InLong (preSum (λa=>ns.getD a 0) (j+1));unfold InLong;rw[iH ns (j+1) (!1)];have h3:(min (j+1) ns.length:Nat)<=16777216:=by omega
  constructor<;>constructor<;>omega
 .intro h' tk t' kp
  have I1:Inv X pins σ H { s with heap:=h',toks:=tk }:=I.kept λb o e=>kp b o (λz=>by
   have e2:b=s.heap.objs.size:=by simpa using z
   rw[e2] at e;exact absurd (ax e) (bh _)) (ag _ e)
  have e:preSum (λa=>ns.getD a 0) its.toArray.size=ns.sum:=by rw[eF,iH ns _ (al _),List.take_length]
  rw[e];exact⟨.int _,H,I1,⟨_,rfl⟩,q⟩
end
noncomputable def rq (c:String)(d:ad):Bool:=match c,d with
 | "int",.int _=>true | "int",.bool _=>true | "bool",.bool _=>true | "tuple",.tuple _=>true | "list",.list _=>true | "str",.str _=>true | _,_=>false
noncomputable def mZ (c:String)(u:UX):UX:=λenv n Q=>u env n λd n1=>Q (.bool (rq c d)) n1
theorem Uq {K:W.Frag}{c:String}(hc:c = "int" \/ c = "bool" \/ c = "tuple" \/ c = "list" \/ c = "str")(d:ad):W.kitOne K (.type (Tf d)) (.type c)=some (rq c d):=by
 rcases hc with rfl | rfl | rfl | rfl | rfl<;>cases d<;>rfl
theorem eS.ty {K:W.Frag}{gs S:List Addr}{H:Hp}{d:ad}{v:V}(h:eS gs S H d v):mU K H v (.type (Tf d)):=by
 rcases h with h | ⟨ds,a,xs,rfl,rfl,ha,_⟩ | ⟨t,kvs,a,xs,rfl,rfl,ha,_⟩
 .exact h.ty
 .exact .lst ha
 .cases t with
  | true=>exact .dT ha
  | false=>exact .dK ha
section
variable {X:Cx}{M:Fr}{e a b:Expr}{u w:UX}{p p2 q2 pos:Pos}{c:String}{x:Str}
theorem qR (hm:X.mg "isinstance" = none)(hx:X.mg x=none)(h:KL X M e u)(hc:c = "int" \/ c = "bool" \/ c = "tuple" \/ c = "list" \/ c = "str" := by decide)(hv:bootBuiltins x=some (.type c):=by decide +kernel)(hg:Gl X "isinstance" := by rfl)(Ya:Gl X x:=by rfl)(hs:d9 e=true:=by rfl)(hn:x ≠ "__name__" := by decide)(lK:(x == ("__debug__" : Str))=false:=by decide) :
  KE X M (.Call (.Name "isinstance" p) [e,.Name x p2] [] pos) (mZ c u) :=
 .of (gU (Th X.K) hg hm (!3) (gI h.run (gI (PX c Ya hx hv hn lK) d7 rfl) hs)) λσ H R env pn S n Q ok hu k=>⟨env,pn,S,n,_,ok,hu,λv H1 d n1 r1 x1 g1 _ q=>⟨v,_,c,_,rfl,r1.ty,Uq hc d,k _ H1 _ n1 (.bl _) x1 g1 q⟩⟩
noncomputable def vN (u:UX):eI->Int->(List ad->Int->Prop)->Prop:=λenv n Q=>u env n λd n1=>lE (iI d) λds=>Q ds n1
theorem AM (ok:dz M env pn σ S H n)(x:Ext M.gs H H')(g:M.G H' n')(h:H' l=none):H l=none:=by
 by_cases z:l∈M.gs
 .exact absurd h (M.yp g l z)
 .exact x.fresh z h
theorem Gs (hm:X.mg "list" = none)(h:KL X M e u)(hg:Gl X "list" := by rfl)(hs:d9 e=true:=by rfl):KN X M (.Call (.Name "list" p) [e] [] pos) (vN u) :=
 .of (fk (KC X.K) hg hm (!3) (gI h.run d7 hs)) λσ H R env pn S n Q ok hu k=>⟨env,pn,S,n,_,ok,hu,λv H1 d n1 r1 x1 g1 _ q=>by
  obtain⟨ds,e,q⟩:=q;have gG:∀xs,dm S H1 ds xs->∀l,H1 l=none->R (.ref l) (d0 H1 l (.lst xs)):=λxs rs l hl=>k l xs _ ds n1 (AM ok x1 g1 hl) dg ((rs.fresh hl).ext (.new hl)) (x1.trans (.new hl)) (M.iQ g1 (.new (S:=[]) hl) (!4)) q
  cases d with
  | tuple es =>
   cases e;obtain⟨a,xs,rfl,ha,rs⟩:=r1.fm;exact⟨a,xs,rfl,.inr (iz.of ha),gG xs rs⟩
  | list es =>
   cases e;obtain⟨a,xs,rfl,ha,rs⟩:=r1.eG;exact⟨a,xs,rfl,.inl (gp.of ha),gG xs rs⟩
  | _=>cases e⟩
noncomputable def yN (u:UX):eI->Int->(List ad->Int->Prop)->Prop:=λenv n Q=>u env n λd n1=>match d with | .int j=>(-(2 ^ 62)<=j/\j<=16777216)/\Q (lM 0 j.toNat) n1 | _=>False
theorem yO (j:Int):dm S H (lM 0 j.toNat) (nu 0 j):=by
 unfold lM nu;rw[Int.sub_zero];generalize j.toNat=m
 induction m with
 | zero=>exact .nil
 | succ m ih =>
  rw[List.range_succ,aU,aU];exact ih.append (.cons (.int _) .nil)
theorem JD (hm:X.mg "list" = none)(BR:X.mg "range" = none)(hc:X.calm=true)(h:KE X M e u)(hg:Gl X "list" := by rfl)(Cb:Gl X "range" := by rfl)(hs:d9 e=true:=by rfl):KN X M (.Call (.Name "list" p) [.Call (.Name "range" p2) [e] [] q2] [] pos) (yN u) :=
 .of (fk (uF hc) hg hm (!3) (gI (fk xQ Cb BR (!3) (gI h.run d7 hs)) d7)) λσ H R env pn S n Q ok hu k=>⟨env,pn,S,n,_,ok,hu,λv H1 d n1 r1 x1 g1 _ q=>by
  cases d with
  | int j =>
   refine⟨j,by rw[r1.dY],λr hr=>⟨r,0,j,rfl,dg,⟨!2,!2,q.1.1,by have:=q.1.2;omega⟩,by have:=q.1.2;omega,λl hl=>?_⟩⟩;have x2:Ext [] H1 (d0 H1 r (.EE 0 j)):=.new hr;have x3:Ext [] (d0 H1 r (.EE 0 j)) _:=.new (o:=.lst (nu 0 j)) hl;have Q3:=x2.trans x3;exact k l _ _ _ n1 (AM ok (x1.trans (x2.mono (!4))) (M.iQ g1 x2 (!4)) hl) dg (yO j) (x1.trans (Q3.mono (!4))) (M.iQ g1 Q3 (!4)) q.2
  | _=>exact False.elim q⟩
noncomputable def Gu (u:eI->Int->(List ad->Int->Prop)->Prop):UX:=λenv n Q=>u env n λds n'=>Q (.tuple ds) n'
theorem Nw (hm:X.mg "tuple" = none)(BR:X.mg "range" = none)(hc:X.calm=true)(h:KE X M e u)(hg:Gl X "tuple" := by rfl)(Cb:Gl X "range" := by rfl)(hs:d9 e=true:=by rfl):KE X M (.Call (.Name "tuple" p) [.Call (.Name "range" p2) [e] [] q2] [] pos) (Gu (yN u)) :=
 .of (fk (sk hc) hg hm (!3) (gI (fk xQ Cb BR (!3) (gI h.run d7 hs)) d7)) λσ H R env pn S n Q ok hu k=>⟨env,pn,S,n,_,ok,hu,λv H1 d n1 r1 x1 g1 _ q=>by
  cases d with
  | int j =>
   refine⟨j,by rw[r1.dY],λr hr=>⟨r,0,j,rfl,dg,⟨!2,!2,q.1.1,by have:=q.1.2;omega⟩,by have:=q.1.2;omega,λl hl=>?_⟩⟩;have x2:Ext [] H1 (d0 H1 r (.EE 0 j)):=.new hr;have x3:Ext [] (d0 H1 r (.EE 0 j)) _:=.new (o:=.tup (nu 0 j)) hl;have Q3:=x2.trans x3;exact k _ _ _ n1 (.tup dg (yO j)) (x1.trans (Q3.mono (!4))) (M.iQ g1 Q3 (!4)) q.2
  | _=>exact False.elim q⟩
noncomputable def yQ:ad->Option Int | .int i=>some i | _=>none
noncomputable def fh (ds:List ad):Option (List Int):=ds.mapM yQ
@[simp] theorem fq (ns:List Int):fh (ns.map .int)=some ns:=by
 unfold fh
 induction ns with
 | nil=>rfl
 | cons n ns ih=>rw[ah,cA,ih];rfl
theorem gb:∀{ds:List ad} {ns:List Int},fh ds=some ns->ds=ns.map .int
 | [],ns,h=>by cases h;rfl
 | d::ds,ns,h=>by
  unfold fh at h;rw[cA] at h
  cases d with
  | int i =>
   cases e:ds.mapM yQ with
   | none=>simp[yQ,e] at h
   | some ms =>
    simp[yQ,e] at h;subst h;rw[gb (ds:=ds) e];rfl
  | _=>simp[yQ] at h
theorem fQ:∀{ns:List Int} {xs:List V},dm S H (ns.map .int) xs->xs=ns.map V.int
 | [],_,r=>r.fw
 | n::ns,_,r=>by
  obtain⟨x,t,rfl,r1,r2⟩:=r.of_cons;rw[r1.dY,fQ r2];rfl
noncomputable def AO:List ad->Option ad | [.list ds]=>(fh ds).bind λns=>if ∀n∈ns,-500000000000<=n/\n<=500000000000 then some (.int ns.sum) else none | _=>none
theorem Q4 (hc:X.calm=true):ng X (.builtin "sum") AO:=⟨_,Ds X.K hc,λgs S H ds vs d R _ _ rs e k=>by
 obtain⟨ds,rfl⟩:∃l,ds=[.list l]:=by
  unfold AO at e;split at e
  .exact⟨_,rfl⟩
  .cases e
 obtain⟨v,rfl,r⟩:=rs.one;obtain⟨a,xs,rfl,sq,_,rr⟩:=r.K4 (K:=X.K);simp only[AO] at e
 cases ei:fh ds with
 | none=>rw[ei] at e;cases e
 | some ns =>
  rw[ei] at e;simp only[bV] at e;split at e
  .rename_i hb
   cases e;rw[gb ei] at rr;rw[fQ rr] at sq;exact⟨a,ns,rfl,sq,hb,k _ H (.int _) (.refl _ _)⟩
  .cases e⟩
noncomputable def insI (a:Int):List Int->List Int | []=>[a] | b::l=>if a<=b then a::b::l else b::insI a l
noncomputable def sortI:List Int->List Int | []=>[] | a::l=>insI a (sortI l)
theorem insI_perm (a:Int):∀l,(insI a l).Perm (a::l)
 | []=>.refl _
 | b::l=>by
  unfold insI;split
  .exact .refl _
  .exact ((insI_perm a l).cons b).trans (.swap a b l)
theorem sortI_perm:∀l,(sortI l).Perm l
 | []=>.refl _
 | a::l=>(insI_perm a (sortI l)).trans ((sortI_perm l).cons a)
theorem qS (a:Int):∀l:List Int,l.Pairwise (·<=·)->(insI a l).Pairwise (·<=·)
 | [],_=>by simp[insI]
 | b::l,h=>by
  unfold insI;obtain⟨h1,h2⟩:=bX.mp h;split
  .rename_i x8
   exact bX.mpr ⟨λc hc=>by rcases ap.mp hc with rfl | hc;exact x8;exact Int.le_trans x8 (h1 c hc),h⟩
  .rename_i x8
   refine bX.mpr ⟨λc hc=>?_,qS a l h2⟩;rcases ap.mp ((insI_perm a l).mem_iff.mp hc) with rfl | hc
   .omega
   .exact h1 c hc
theorem oX:∀l,(sortI l).Pairwise (·<=·)
 | []=>.nil
 | a::l=>qS a _ (oX l)
theorem AQ {l m:List Int}(h:l.Perm m)(hl:l.Pairwise (·<=·))(hm:m.Pairwise (·<=·)):l=m:=h.eq_of_pairwise (λa b _ _ h1 h2=>Int.le_antisymm h1 h2) hl hm
noncomputable def i6:List Int->List Int | []=>[] | a::l=>if a∈l then i6 l else a::i6 l
theorem gc:∀{l:List Int},k∈i6 l↔k∈l
 | []=>Iff.rfl
 | a::l=>by
  unfold i6;split
  .rename_i h
   rw[gc,ap];exact⟨.inr,λz=>z.elim (λe=>e ▸ h) id⟩
  .rw[ap,gc,ap]
theorem gn:∀l:List Int,(i6 l).Nodup
 | []=>List.nodup_nil
 | a::l=>by
  unfold i6;split
  .exact gn l
  .rename_i h
   exact bF.mpr ⟨λz=>h (gc.mp z),gn l⟩
noncomputable def kL (l:List Int):List Int:=sortI (i6 l)
theorem js:k∈kL l↔k∈l:=((sortI_perm _).mem_iff).trans gc
theorem pW (l:List Int):(kL l).Pairwise (· < ·):=qI (oX _) ((sortI_perm _).nodup_iff.mpr (gn l))
theorem Nx:∀{l m:List Int},l.Pairwise (· < ·)->m.Pairwise (· < ·)->(∀k,k∈l↔k∈m)->l=m:=λ{l m} hl hm h=>by
 have nl:l.Nodup:=hl.imp λh=>by omega
 have nm:m.Nodup:=hm.imp λh=>by omega
 exact AQ ((bY nl nm).mpr h) (hl.imp λh=>by omega) (hm.imp λh=>by omega)
def Q5 (u:UX):eI->Int->(List ad->Int->Prop)->Prop:=λenv n Q=>u env n λd n1=>lE (iI d) λds=>lE (fh ds) λns=>ns.length<64/\Q ((sortI ns).map .int) n1
noncomputable def wZ (u:UX):eI->Int->(List ad->Int->Prop)->Prop:=λenv n Q=>u env n λd n1=>lE (iI d) λds=>lE (fh ds) λns=>ns.length<64/\Q ((kL ns).map .int) n1
theorem JE (hm:X.mg "sorted" = none)(BR:X.mg "set" = none)(hc:X.calm=true)(h:KL X M e u)(hg:Gl X "sorted" := by rfl)(Cb:Gl X "set" := by rfl)(hs:d9 e=true:=by rfl):KN X M (.Call (.Name "sorted" p) [.Call (.Name "set" p2) [e] [] q2] [] pos) (wZ u) :=
 .of (wN X.K hc hg hm Cb BR h.run rfl hs) λσ H R env pn S n Q ok hu k=>⟨env,pn,S,n,_,ok,hu,λv H1 d n1 r1 x1 g1 _ q=>by
  obtain⟨ds,e,ns,ei,hl,q⟩:=q;have e2:=gb ei;subst e2
  have gG:∀(l:Addr) (ms:List Int) (H2:Hp),Ext [] H1 H2->H1 l=none->H2 l=some (.lst (ms.map V.int))->ms.Pairwise (· < ·)->(∀k,k∈ms↔k∈ns)->ms.length<=ns.length->R (.ref l) H2:=λl ms H2 x2 hl h2 hp hm _=>by
   have em:ms=kL ns:=Nx hp (pW ns) λk=>(hm k).trans js.symm;subst em;exact k l _ H2 _ n1 (AM ok x1 g1 hl) h2 (.ints _) (x1.trans (x2.mono (!4))) (M.iQ g1 x2 (!4)) q
  cases d with
  | tuple es =>
   cases e;obtain⟨a,xs,rfl,sq,_,rs⟩:=r1.HN (K:=X.K);rw[fQ rs] at sq;exact⟨a,ns,rfl,.inr sq,hl,gG⟩
  | list es =>
   cases e;obtain⟨a,xs,rfl,sq,_,rs⟩:=r1.K4 (K:=X.K);rw[fQ rs] at sq;exact⟨a,ns,rfl,.inl sq,hl,gG⟩
  | _=>cases e⟩
noncomputable def vO (u:UX):UX:=λenv n Q=>u env n λd n1=>Good d/\Q (.str d.shown) n1
theorem Gv (hr:fu kk X.A)(hm:X.mg "repr" = none)(h:KE X M e u)(hg:Gl X "repr" := by rfl)(hs:d9 e=true:=by rfl):KE X M (.Call (.Name "repr" p) [e] [] pos) (vO u) :=
 .of (gU (Aa hr) hg hm (!3) (gI h.run d7 hs)) λσ H R env pn S n Q ok hu k=>⟨env,pn,S,n,_,ok,hu,λv H1 d n1 r1 x1 g1 _ q=>⟨S,d,v,rfl,r1,q.1,k _ H1 _ n1 (.str _) x1 g1 q.2⟩⟩
noncomputable def sS:ad->Option Bool | .bool i=>some i | _=>none
noncomputable def mL (ds:List ad):Option (List Bool):=ds.mapM sS
@[simp] theorem yR (ns:List Bool):mL (ns.map .bool)=some ns:=by
 unfold mL
 induction ns with
 | nil=>rfl
 | cons n ns ih=>rw[ah,cA,ih];rfl
theorem sU:∀{ds:List ad} {ns:List Bool},mL ds=some ns->ds=ns.map .bool
 | [],ns,h=>by cases h;rfl
 | d::ds,ns,h=>by
  unfold mL at h;rw[cA] at h
  cases d with
  | bool i =>
   cases e:ds.mapM sS with
   | none=>simp[sS,e] at h
   | some ms =>
    simp[sS,e] at h;subst h;rw[sU (ds:=ds) e];rfl
  | _=>simp[sS] at h
theorem sV:∀{ns:List Bool} {xs:List V},dm S H (ns.map .bool) xs->xs=ns.map V.bl
 | [],_,r=>r.fw
 | n::ns,_,r=>by
  obtain⟨x,t,rfl,r1,r2⟩:=r.of_cons;rw[r1.iG,sV r2];rfl
noncomputable def Dt:List ad->Option ad | [.list ds]=>(mL ds).map λbs=>.bool (bs.all id) | _=>none
theorem Q6 (hc:X.calm=true):ng X (.builtin "all") Dt:=⟨_,CU X.K hc,λgs S H ds vs d R _ _ rs e k=>by
 obtain⟨ds,rfl⟩:∃l,ds=[.list l]:=by
  unfold Dt at e;split at e
  .exact⟨_,rfl⟩
  .cases e
 obtain⟨v,rfl,r⟩:=rs.one;obtain⟨a,xs,rfl,sq,_,rr⟩:=r.K4 (K:=X.K);simp only[Dt] at e
 cases ei:mL ds with
 | none=>rw[ei] at e;cases e
 | some ns =>
  rw[ei] at e;cases e;rw[sU ei] at rr;rw[sV rr] at sq;exact⟨a,ns,rfl,sq,k _ H (.bl _) (.refl _ _)⟩⟩
end
theorem nf (i:Nat)(l:List Nat)(h:l.contains i=false:=by rfl):i ∉ l:=λz=>by
 have:l.contains i=true:=List.contains_iff_mem.mpr z;rw[h] at this;cases this
theorem uu {P:Nat->Prop}:∀j∈([]:List Nat),P j:=λj h=>by cases h
theorem Yb {i j:Nat}{mp:List (Option Nat)}(h:mp[j]? = some (some i)):∀j'∈[j],∃i'∈[i],mp[j']? = some (some i'):=λj' hj=>by
 have e:=av.mp hj;subst e;exact⟨i,av.mpr rfl,h⟩
def Ur (u:UX):eI->Int->(List ad->Int->Prop)->Prop:=λenv n Q=>u env n λd n1=>match d with | .list ds=>lE (fh ds) λns=>ns.length<64/\Q ((sortI ns).map .int) n1 | _=>False
def Us (ua ub:UX):eI->Int->(List ad->Int->Prop)->Prop:=λenv n Q=>ua env n λx n1=>ub env n1 λy n2=>match x,y with | .list xs,.int k=>(-(2 ^ 63)<=k/\k<2 ^ 63/\xs.length * k.toNat<=au)/\Q (List.replicate k.toNat xs).flatten n2 | _,_=>False
def Ut (ua ub:UX):eI->Int->(List ad->Int->Prop)->Prop:=λenv n Q=>ua env n λx n1=>ub env n1 λy n2=>match x,y with | .list xs,.list ys=>xs.length+ys.length<=au/\Q (xs++ys) n2 | _,_=>False
def Uu (u:UX)(ul uh:UO):eI->Int->(List ad->Int->Prop)->Prop:=λenv n Q=>u env n λd n1=>ul env n1 λlo n2=>uh env n2 λhi n3=>match d with | .list ds=>Q (oS ds lo hi) n3 | _=>False
section
variable {X:Cx}{M:Fr}{e a b:Expr}{u ua ub:UX}{p p2 q2 pos:Pos}
noncomputable def oY (u:UX):UX:=λenv n Q=>u env n λd n1=>lE (iI d) λds=>lE (fh ds) λns=>ns.length<4000/\Q (.int (i6 ns).length) n1
theorem Gw {ms ns:List Int}(nd:ms.Nodup)(mem:∀k,k∈ms↔k∈ns):ms.length=(i6 ns).length :=
 Nat.le_antisymm (ee nd λk hk=>gc.mpr ((mem k).mp hk)) (ee (gn ns) λk hk=>(mem k).mpr (gc.mp hk))
theorem yS (hm:X.mg "len" = none)(BR:X.mg "set" = none)(hc:X.calm=true)(h:KL X M e u)(hg:Gl X "len" := by rfl)(Cb:Gl X "set" := by rfl)(hs:d9 e=true:=by rfl):KE X M (.Call (.Name "len" p) [.Call (.Name "set" p2) [e] [] q2] [] pos) (oY u):=by
 have FG:=fk (p:=p2) (pos:=q2) (vE X.K X.w hc rfl rfl) Cb BR (!3) (gI h.run d7 hs);refine .of (gU (C9 X.w rfl) hg hm (!3) (gI FG d7)) λσ H R env pn S n Q ok hu k=>⟨env,pn,S,n,_,ok,hu,λv H1 d n1 r1 x1 g1 _ q=>?_⟩;obtain⟨ds,e,ns,ei,hl,q⟩:=q;have e2:=gb ei;subst e2
 have gG:∀(l:Addr) (ms:List Int),ms.Nodup->(∀k,k∈ms↔k∈ns)->ms.length<=ns.length->H1 l=none->∃(l':Addr) (Wc:List Int),[V.ref l]=[.ref l']/\(d0 H1 l (.ext (gS X.w l ms))) l'=some (.ext (gS X.w l' Wc))/\R (.int Wc.length) (d0 H1 l (.ext (gS X.w l ms))):=λl ms nd mm _ hl=>by
  refine⟨l,ms,rfl,dg,?_⟩;rw[Gw nd mm];exact k _ _ _ n1 (.int _) (x1.trans (.new hl)) (M.iQ g1 (.new (S:=[]) hl) (!4)) q
 cases d with
 | tuple es =>
  cases e;obtain⟨a,xs,rfl,sq,_,rs⟩:=r1.HN (K:=X.K);rw[fQ rs] at sq;exact⟨a,ns,rfl,.inr sq,hl,gG⟩
 | list es =>
  cases e;obtain⟨a,xs,rfl,sq,_,rs⟩:=r1.K4 (K:=X.K);rw[fQ rs] at sq;exact⟨a,ns,rfl,.inl sq,hl,gG⟩
 | _=>cases e
end
structure XF (K:W.Frag) (mg:Str->Option af) (C:Xc) (EA all:List Str):Prop where
 nm:∀c∈all,mg c=some (.ref (C.cl c))
 TV:∀c∈EA,∀h,(h=c\/h = "JoinError")->W.exmOne K (.ref (C.cl c)) (.ref (C.cl h))=some true
 Z0:∀c∈EA,∀h∈all,W.kitOne K (.ref (C.cl c)) (.ref (C.cl h))=some (decide (h=c\/h = "JoinError"))
 val:∀c∈EA,W.kitOne K (.ref (C.cl c)) (.type "ValueError")=some true
 ci:∀c∈EA,Qy K (C.cl c)
 fld:∀c∈EA,∀f∈C.fl c,W.findIn K (.ref (C.cl c)) f=some none
section
variable {X:Cx}{M:Fr}{C:Xc}{EA all:List Str}{e:Expr}{es:List Expr}{ua:UA}{F:UF}{k i j:Nat}{x f cn nm:Str}{ps:List Str}{b0:Stmt}{qM:List Stmt}{uh:US}{p pos iF px np Az f6:Pos}
noncomputable def Gx (i:Nat)(F:UF)(cn:Str)(EA:List Str)(ua:UA)(uh:US):US:=λE env n=>ua env n λds n1=>F ds n1 (λd n'=>E.nx (env.set i (some (.s d))) n') (λc as=>(c∈EA/\(cn=c\/cn = "JoinError"))/\uh E env n1)
theorem Du (hM:M.xc=C)(xf:XF X.K X.mg C EA all)(ok:dz M env pn σ S H n)(x1:Ext M.gs H H1)(g1:M.G H1 n1)
  (k1:∀dJ σ' S' H' n',dz M dJ pn σ' S' H' n'->E.nx dJ n'->D.nx σ' H') (k2:∀v H' d n',dP M.S0 H' d v->Ext M.gs M.H0 H'->M.G H' n'->E.rt d n'->D.rt v H')
  (q:(c∈EA/\(cn=c\/cn = "JoinError"))/\uh E env n1):Rz C S [] H1 (oN X.K (C.cl cn) (BY M uh) D σ) c as:=λdx H' vs rv hd x' =>
 ⟨xf.TV c q.1.1 cn q.1.2,env,pn,S,n1,E,(ok.step x1 g1).step (x'.mono (!4)) (M.iQ g1 x' (!4)),q.2,k1,k2⟩
theorem Ny (hM:M.xc=C)(xf:XF X.K X.mg C EA all)(Yc:cn∈all)(D:FI X.prog X.w X.K X.mg X.base k f ps (ko C F))(hr:fu k X.A)(hN:X.N.Nodup)(hx:Loc X.env.scope x)(ha:∀Ex,KA (X.pK Ex) M (e::es) ua)(hs:∀x,zG (wQ X x) M (b0::qM) uh)
  (hi:X.N[i]? = some x:=by rfl) (hfd:i ∉ M.fd) (u5:X.stack=X.env::X.outer:=by rfl) (Dd:X.env.frame=some X.env.locals:=by rfl) (hg:Gl X cn:=by rfl) (lK:(cn == ("__debug__" : Str))=false:=by decide) (Yd:Gl X f:=by rfl) (ME:(f == ("__debug__" : Str))=false:=by decide)
  (IJ:swapsWith (.Call (.Name f p) (e::es) [] f6) (some (.Name x px)) iF.line X.env=pure false:=by rfl) (hf:X.fn x=true\/X.env.scope.names.lookup x=some .local:=by (first | exact .inl rfl | exact .inr rfl | assumption)) :
  KS X M (.Try [.Assign [.Name x px] (.Call (.Name f p) (e::es) [] f6) iF] [.ExceptHandler (some (.Name cn np)) none (b0::qM) Az] [] [] pos) (Gx i F cn EA ua uh) :=
 .of (AA X.K (xf.nm cn Yc) hN hi hx (Jo D hr (λEx=>(ha Ex).run) Yd ME) (λy=>(hs y).run) u5 Dd hg lK IJ hf) λD σ H env pn S n E ok hu k1 k2=>⟨env,pn,S,n,_,ok,hu,λvs H1 ds n1 el r1 x1 g1 _ q =>
  ⟨S,ds,n1,_,_,r1,(ok.step x1 g1).has,q,λd v H2 r2 x2 q2=>k1 _ _ _ _ _ (((ok.step x1 g1).step (x2.mono (!4)) (M.iQ g1 x2 (!4))).set r2 hfd) q2,λc as z=>Du hM xf ok x1 g1 k1 k2 z⟩⟩
end
noncomputable def oZ:Int:=1099511627776
noncomputable def iU:UF:=λds n Q _=>match ds with | [.int m]=>(0<m/\m<1073741824/\n<oZ)/\∀r:Int,0<=r->r<m->Q (.int r) (n+1) | _=>False
def Cc (Y:yJ):Sp:=λvs H Q _=>∃(fa sa:Addr) (n many:Int),vs=[.ref fa,.int many]/\Y.ip H fa sa n/\0<many/\many<1073741824/\n<oZ/\∀(r:Int) (H':Hp),0<=r->r<many->Y.ip H' fa sa (n+1)->Ext [fa] H H'->Q (.int r) H'
def rM (Y:yJ)(K:W.Frag):Sp:=λvs H Q _=>∃(a:Addr) (ns:List Int),vs=[.ref a]/\gp K H a (ns.map V.int)/\∀(fa sa:Addr) (H':Hp),Y.ip H' fa sa 0->Ext [] H H'->H fa=none->H sa=none->Q (.ref fa) H'
def yT (K:W.Frag):Sp:=λvs H Q _=>∃(a:Addr) (ns:List Int),vs=[.ref a]/\gp K H a (ns.map V.int)/\ns.length<=63/\∀H',Q (.bl true) H'
section
variable {P:aV}{w:World}{K:W.Frag}{mg:Str->Option af}{base:Heap}{f:Addr}{fd:bt}{x:Str}{ps:List Str}{k:Nat}{C:Xc}{u:US}{Y:yJ}{st Wd:Stmt}{rest:List Stmt}{N:List Str}{sn:Str}
theorem dF.imp {sp Pf:Sp}(D:dF P w K mg base k x ps sp)(h:∀vs H Q E,Pf vs H Q E->sp vs H Q E):dF P w K mg base k x ps Pf:=let ⟨f,fd,F,r⟩:=D.ex;⟨f,fd,F.imp h,r⟩
theorem dF.up {sp:Sp}{k':Nat}(D:dF P w K mg base k x ps sp)(h:k<=k'):dF P w K mg base k' x ps sp:=let ⟨f,fd,F,r⟩:=D.ex;⟨f,fd,F.mono h,r⟩
theorem dF.draw (D:dF P w K mg base k x ps (Cc Y)):dF P w K mg base k x ps (yL Y iU):=D.imp λvs H Q E h=>by
 obtain⟨fa,sa,us,S,ds,n,Qp,rfl,fe,hS,r,has,hF,hq⟩:=h;unfold iU at hF;split at hF
 .rename_i m
  obtain⟨⟨h1,h2,h3⟩,h4⟩:=hF;obtain⟨v,t,rfl,r1,r2⟩:=r.of_cons;cases r2.fw;cases r1.dY;exact⟨fa,sa,n,m,rfl,fe,h1,h2,h3,λr H' r0 r1 Ye x=>hq _ _ _ H' (.int r) Ye x (h4 r r0 r1)⟩
 .exact hF.elim
theorem Uv (F:uD K "law" "law" st f fd)(sc:eO N [sn] (c8 st))(hN:2<=N.length)
  (body:∀(d8:af) (A:Around) (outer:List Env) (s:aq) (H:Hp) (E:XK),fu k (A.deeper (envOfC "law" (c8 st) s.heap.objs.size f d8)) ->
   QS (kF uj P w K mg base N "law" (c8 st) f d8 A outer s H E).Et Wd (LX (si (rM Y K) (EU (LG 0) Mk)) (xH 1)) /\
   ∀(fa sa:Addr) (n0:Int) (S:List Addr) (H1:Hp) (hf:Y.ip H1 fa sa n0) (hS:fa∈S) (has:∀a∈S,H1 a≠none),zG (kF uj P w K mg base N "law" (c8 st) f d8 A outer s H E).Et (Fr.feed C Y 1 fa sa n0 S H1 hf hS has) rest u)
  (hb:fc st=Wd::rest) (hu:u { nx:=λ_ _=>False,rt:=λd _=>d=.bool true } (List.replicate N.length none) 0):iO P w K mg base uj (k+1) f fd [sn] (yT K):=by
 refine F.MY sc (λvs H Q E h=>?_) (λd8 A outer s H vs Q E hr h=>?_)
 .obtain⟨a,ns,rfl,_⟩:=h
  rfl
 .obtain⟨a,ns,rfl,hs,_,q⟩:=h
  obtain⟨q0,qr⟩:=body d8 A outer s H E hr
  have Q7:vm (kF uj P w K mg base N "law" (c8 st) f d8 A outer s H E).Et rest (λD σ H'=>∃fa sa n0 S H1 hf hS has,BY (Fr.feed C Y 1 fa sa n0 S H1 hf hS has) u D σ H') :=
   ⟨λpins s σ H D I ⟨fa,sa,n0,S,H1,hf,hS,has,h⟩=>(qr fa sa n0 S H1 hf hS has).run.run pins s σ H D I h⟩
  rw[hb];have u5:start N [V.ref a]=some (.ref a)::List.replicate (N.length - 1) none:=rfl;refine⟨_,fb q0 Q7,_,by rw[u5];rfl,a,ns,rfl,hs,λfa sa H1 fe x1 Gp Z1=>?_⟩;have has:∀b∈[fa],H1 b≠none:=λb hb=>by have e:=av.mp hb;subst e;exact Y.fa fe
  refine⟨fa,sa,0,[fa],H1,fe,av.mpr rfl,has,List.replicate N.length none,[],[fa],0,_,⟨λi e he=>?_,λi j ds es b h1=>?_,?_,?_,fe,.refl _ _,λb hb=>hb,λb hb=>.inl hb,has,λp hp=>by cases hp⟩,hu,λ_ _ _ _ _ _ z=>z.elim,λv H' d n' r _ _ e=>?_⟩
  .rw[cb] at he
   split at he<;>cases he
  .rw[cb] at h1
   split at h1<;>cases h1
  .rw[bn,u5,aj,cB,cB]
   omega
  .intro i hi
   have e:i=1:=av.mp hi;subst e;rw[u5];exact mK (by rw[aj,cB];omega)
  .subst e
   rw[r.iG];exact q H'
end
noncomputable def Gy:ad->ad->Option ad | .int i,.int j=>some (.int (Builtin.bitAnd i j)) | _,_=>none
section
theorem Q8:uq X (binaryOp .BitAnd) Gy:=yv (g:=λi j=>.int (Builtin.bitAnd i j)) Mg (λ_ _ _ _=>.int _) λx y d e=>by
 cases x<;>cases y<;>simp[Gy] at e;exact⟨_,_,rfl,rfl,e.symm⟩
end
theorem uO.Uw {K:W.Frag}{mg:Str->Option af}{x:Str}{C J:Addr}(e:uO K C J)(o:Dm K mg x C)(bx:W.mroIn K C (.type "BaseException")=some true):W.exmOne K (.ref C) (.ref C)=some true:=by
 unfold W.exmOne;have h:W.subIn K (.ref C) (.type "BaseException")=some true:=bx;rw[h,if_pos (!4),o.TU];exact e.own
end L2
namespace L2
open PySem
mutual
def Gd (B:Nat):ad->Prop
 | .none=>True
 | .bool _=>True
 | .int i=>i.natAbs<=B
 | .str x=>(∀c∈x.cps.toList,c<1114112)/\x.cps.size<=60
 | .tuple ds=>Ld B ds
 | .list ds=>Ld B ds
 | .dict _=>False
def Ld (B:Nat):List ad->Prop
 | []=>True
 | d::ds=>Gd B d/\Ld B ds
end
theorem Q9:(10:Nat) ^ 50<2 ^ 1920:=by decide +kernel
mutual
theorem w5:∀d:ad,Gd (10 ^ 50) d->d.canLay0=true/\d.showable=true/\d.leavesShort 60=true
 | .none,_=>⟨rfl,rfl,rfl⟩
 | .bool _,_=>⟨rfl,rfl,rfl⟩
 | .int i,g=>by
  simp only[Gd] at g;refine⟨rfl,?_,?_⟩
  .simp only[ad.showable,decide_eq_true_eq]
   by_cases h:i.natAbs=0
   .rw[h];decide
   .exact (Nat.log2_lt h).mpr (cu g Q9)
  .simp only[ad.leavesShort,decide_eq_true_eq]
   have e:=int_text_length_le10 (k:=51) (!2) (cu g (by decide +kernel:(10:Nat) ^ 50<10 ^ 51));show (Str.ofString (toString i)).length<=60;rw[ofString_length];omega
 | .str x,g=>by
  simp only[Gd] at g;refine⟨?_,rfl,?_⟩
  .show ad.strOk x=true
   unfold ad.strOk;rw[Array.all_eq_true'];intro c hc;exact decide_eq_true (g.1 c (by simpa using hc))
  .simp only[ad.leavesShort,cN,decide_eq_true_eq]
   intro c hc;exact aK (g.1 c hc) (!2)
 | .tuple ds,g=>by simp only[Gd] at g;simpa only [ad.canLay0,ad.showable,ad.leavesShort] using w6 ds g
 | .list ds,g=>by simp only[Gd] at g;simpa only [ad.canLay0,ad.showable,ad.leavesShort] using w6 ds g
 | .dict _,g=>by simp only[Gd] at g
theorem w6:∀ds:List ad,Ld (10 ^ 50) ds->ad.canLayAll0 ds=true/\ad.showableAll ds=true/\ad.leavesShortAll 60 ds=true
 | [],_=>⟨rfl,rfl,rfl⟩
 | d::ds,g=>by
  simp only[Ld] at g;obtain⟨a1,a2,a3⟩:=w5 d g.1;obtain⟨b1,b2,b3⟩:=w6 ds g.2;simp only[ad.canLayAll0,ad.showableAll,ad.leavesShortAll,a1,a2,a3,b1,b2,b3];exact⟨rfl,rfl,rfl⟩
end
theorem JF (g:Gd (10 ^ 50) d)(hd:d.depth<=60)(hw:d.weight<=200000):Good d:=⟨(w5 d g).1,(w5 d g).2.1,(w5 d g).2.2,hd,hw⟩
theorem Ra (h:i.natAbs<2 ^ k):ad.weight (.int i)<=k:=by
 simp only[ad.weight];split
 .omega
 .rename_i gQ
  have:i.natAbs≠0:=λz=>gQ (by simp;omega);have:=(Nat.log2_lt this).mpr h;omega
mutual
def Gq (B L:Nat):ad->Prop
 | .none=>True
 | .bool _=>True
 | .int i=>i.natAbs<=B
 | .str x=>(∀c∈x.cps.toList,c<1114112)/\x.cps.size<=L
 | .tuple ds=>EB B L ds
 | .list ds=>EB B L ds
 | .dict _=>False
def EB (B L:Nat):List ad->Prop
 | []=>True
 | d::ds=>Gq B L d/\EB B L ds
end
mutual
theorem w9 {B L B' L':Nat}(h:B<=B')(k:L<=L'):∀d:ad,Gq B L d->Gq B' L' d
 | .none,_=>by simp[Gq]
 | .bool _,_=>by simp[Gq]
 | .int i,g=>by simp only[Gq] at g ⊢;omega
 | .str x,g=>by simp only[Gq] at g ⊢;exact⟨g.1,!1⟩
 | .tuple ds,g=>by simp only[Gq] at g ⊢;exact o4 h k ds g
 | .list ds,g=>by simp only[Gq] at g ⊢;exact o4 h k ds g
 | .dict _,g=>by simp only[Gq] at g
theorem o4 {B L B' L':Nat}(h:B<=B')(k:L<=L'):∀ds:List ad,EB B L ds->EB B' L' ds
 | [],_=>by simp[EB]
 | d::ds,g=>by simp only[EB] at g ⊢;exact⟨w9 h k d g.1,o4 h k ds g.2⟩
end
mutual
theorem Le:∀d:ad,Gq (10 ^ 50) 60 d->Gd (10 ^ 50) d
 | .none,_=>by simp[Gd]
 | .bool _,_=>by simp[Gd]
 | .int i,g=>by simp only[Gq] at g;simp only[Gd];exact g
 | .str x,g=>by simp only[Gq] at g;simp only[Gd];exact g
 | .tuple ds,g=>by simp only[Gq] at g;simp only[Gd];exact AR ds g
 | .list ds,g=>by simp only[Gq] at g;simp only[Gd];exact AR ds g
 | .dict _,g=>by simp only[Gq] at g
theorem AR:∀ds:List ad,EB (10 ^ 50) 60 ds->Ld (10 ^ 50) ds
 | [],_=>by simp[Ld]
 | d::ds,g=>by simp only[EB] at g;simp only[Ld];exact⟨Le d g.1,AR ds g.2⟩
end
structure Sz (B L w p:Nat) (d:ad):Prop where
 gq:Gq B L d
 wt:d.weight<=w
 dp:d.depth<=p
structure uw (B L w p:Nat) (ds:List ad):Prop where
 gq:EB B L ds
 wt:ad.weightAll ds<=w
 dp:ad.depthAll ds<=p
section
variable {B L B' L' w w' p p':Nat}{d:ad}{ds es:List ad}
theorem Sz.mono (h:Sz B L w p d)(hB:B<=B')(hL:L<=L')(hw:w<=w')(hp:p<=p'):Sz B' L' w' p' d:=⟨w9 hB hL d h.gq,aT h.wt hw,aT h.dp hp⟩
theorem uw.mono (h:uw B L w p ds)(hB:B<=B')(hL:L<=L')(hw:w<=w')(hp:p<=p'):uw B' L' w' p' ds:=⟨o4 hB hL ds h.gq,aT h.wt hw,aT h.dp hp⟩
theorem Sz.gd (h:Sz B L w p d)(hB:B<=10 ^ 50)(hL:L<=60):Gd (10 ^ 50) d:=Le d (w9 hB hL d h.gq)
theorem Sz.good (h:Sz B L w p d)(hB:B<=10 ^ 50)(hL:L<=60)(hw:w<=200000)(hp:p<=60):Good d:=JF (h.gd hB hL) (aT h.dp hp) (aT h.wt hw)
theorem uw.nil:uw B L 0 0 []:=⟨by simp[EB],by simp[ad.weightAll],by simp[ad.depthAll]⟩
theorem uw.cons (h:Sz B L w p d)(t:uw B L w' p' ds):uw B L (w+1+w') (max p p') (d::ds):=by
 refine⟨by simp only[EB];exact⟨h.gq,t.gq⟩,?_,?_⟩
 .simp only[ad.weightAll];have:=h.wt;have:=t.wt;omega
 .simp only[ad.depthAll];have:=h.dp;have:=t.dp;omega
theorem Sz.tup (h:uw B L w p ds):Sz B L w (p+1) (.tuple ds):=⟨by simp only[Gq];exact h.gq,by simp only[ad.weight];exact h.wt,by simp only[ad.depth];have:=h.dp;omega⟩
theorem Sz.small (h:i.natAbs<1024)(hB:1023<=B):Sz B L 10 0 (.int i):=⟨by simp only[Gq];omega,Ra h,by simp[ad.depth]⟩
theorem uw.all:∀{ds:List ad},(∀d∈ds,Sz B L w p d)->uw B L ((w+1) * ds.length) p ds
 | [],_=>uw.nil.mono (al _) (al _) (!4) (bU _)
 | d::ds,h=>by
  have t:=uw.all (ds:=ds) λi hi=>h i (am _ hi);refine (uw.cons (h d (ao ..)) t).mono (al _) (al _) ?_ (!4);rw[aj,Nat.mul_succ];omega
end
section
variable {i j:Int}{ns ms:List Int}{x y:ad}
theorem l5 (ns:List Int):ad.canLayAll0 (ns.map .int)=true:=by
 induction ns with
 | nil=>rfl
 | cons n ns ih=>simpa [ad.canLayAll0,ad.canLay0] using ih
theorem yU (ns:List Int):ad.depthAll (ns.map .int)=0:=by
 induction ns with
 | nil=>rfl
 | cons n ns ih=>simpa [ad.depthAll,ad.depth] using ih
theorem sW:∀ns ms:List Int,ad.eqvAll (ns.map .int) (ms.map .int)=decide (ns=ms)
 | [],[]=>rfl
 | [],m::ms=>rfl
 | n::ns,[]=>rfl
 | n::ns,m::ms=>by
  simp only[ah,ad.eqvAll,ad.eqv,sW ns ms,List.cons.injEq];by_cases h:n=m<;>simp[h]
theorem sX (hx:x.canLay0=true)(hy:y.canLay0=true)(hd:x.depth<=60):lR x y=some (.bool (ad.eqv x y)):=if_pos ⟨hx,hy,hd⟩
theorem AS (hx:x.canLay0=true)(hy:y.canLay0=true)(hd:x.depth<=60):uQ x y=some (.bool (!PyData.eqv x y)):=if_pos ⟨hx,hy,hd⟩
theorem eY:lR (.int i) (.int j)=some (.bool (decide (i=j))):=by
 rw[sX rfl rfl (by simp[ad.depth])];simp only[ad.eqv];congr
theorem Cd:uQ (.int i) (.int j)=some (.bool (!decide (i=j))):=by
 rw[AS rfl rfl (by simp[ad.depth])];simp only[ad.eqv];congr
theorem Gz:lR (.bool a) (.bool b)=some (.bool (a == b)):=by
 rw[sX rfl rfl (by simp[ad.depth])];simp only[ad.eqv]
theorem sY:uQ (.bool a) (.bool b)=some (.bool (!(a == b))):=by
 rw[AS rfl rfl (by simp[ad.depth])];simp only[ad.eqv]
theorem Dv:uQ (.tuple (ns.map .int)) (.tuple (ms.map .int))=some (.bool (!decide (ns=ms))):=by
 rw[AS (show ad.canLay0 (.tuple _)=true from l5 ns) (show ad.canLay0 (.tuple _)=true from l5 ms) (by simp[ad.depth,yU])];simp only[ad.eqv,sW]
theorem JG:ad.eqvAll ds []=ds.isEmpty:=by cases ds<;>rfl
theorem any_ints (i:Int)(ns:List Int):((ns.map ad.int).any λd=>ad.eqv d (.int i))=decide (i∈ns):=by
 induction ns with
 | nil=>rfl
 | cons n ns ih =>
  rw[ah,bK,ih];simp only[ad.eqv,ap];by_cases h:n=i
  .simp[h]
  .have h':¬ i=n:=λz=>h z.symm
   simp[h,h']
theorem o5:B5 (.int i) (ns.map .int)=some (decide (i∈ns)):=by
 unfold B5;rw[if_pos ⟨rfl,l5 ns,by simp[ad.depth]⟩,any_ints]
theorem mM:inD (.int i) (.tuple (ns.map .int))=some (.bool (decide (i∈ns))):=by simp only[inD,o5,bg]
theorem pX:inD (.int i) (.list (ns.map .int))=some (.bool (decide (i∈ns))):=by simp only[inD,o5,bg]
theorem sZ:ri (.int i) (.tuple (ns.map .int))=some (.bool (!decide (i∈ns))):=by simp only[ri,o5,bg]
theorem nF:ri (.int i) (.list (ns.map .int))=some (.bool (!decide (i∈ns))):=by simp only[ri,o5,bg]
theorem yV {a b:Int}:inD (.int i) (.tuple [.int a,.int b])=some (.bool (decide (i=a\/i=b))):=by
 have:=mM (i:=i) (ns:=[a,b]);simpa using this
end
section
variable {α:Type}
theorem nG (h0:0<=i)(h1:i<xs.length):lQ xs i=xs[i.toNat]? := by
 unfold lQ Iv;rw[if_pos h0,if_pos h1];rfl
theorem eJ (a:α)(l:List α):lQ (a::l) 0=some a:=by rw[nG (!2) (by simp only[aj];omega)];rfl
theorem eC (a b:α)(l:List α):lQ (a::b::l) 1=some b:=by rw[nG (!2) (by simp only[aj];omega)];rfl
theorem o6 (a b c:α)(l:List α):lQ (a::b::c::l) 2=some c:=by rw[nG (!2) (by simp only[aj];omega)];rfl
theorem xa (h:xs.getLast? = some x):lQ xs (-1)=some x:=by
 have hl:0<xs.length:=by
  cases xs with
  | nil=>cases h
  | cons a l=>simp
 unfold lQ Iv;rw[if_neg (!2),if_pos (!1)];show xs[(-1+(xs.length:Int)).toNat]? = some x;rw[show (-1+(xs.length:Int)).toNat=xs.length - 1 by omega,<- List.getLast?_eq_getElem?];exact h
theorem yW (xs:List α)(x:α):lQ (xs++[x]) (-1)=some x:=xa (!4)
theorem GA {xs:List α}{i:Int}(h0:0<=i)(h1:i<xs.length):∃x,lQ xs i=some x/\x∈xs:=by
 have:i.toNat<xs.length:=by omega
 exact⟨xs[i.toNat],by rw[nG h0 h1];simp[this],cc _⟩
theorem xb (xs:List α)(k:Int)(h:0<=k):oS xs none (some k)=xs.take k.toNat:=by
 unfold oS;rw[show k=((k.toNat:Nat):Int) by omega,HT.rH,HT.oj];simp only[List.drop_zero,Nat.sub_zero,aX];by_cases hc:k.toNat<=xs.length
 .rw[Nat.min_eq_left hc]
 .rw[Nat.min_eq_right (!1),bN (al _),bN (!1)]
theorem vP (xs:List α)(k:Int)(h:0<=k):oS xs (some k) none=xs.drop k.toNat:=by
 unfold oS;rw[show k=((k.toNat:Nat):Int) by omega,HT.rH,HT.oj];simp only[aX];by_cases hc:k.toNat<=xs.length
 .rw[Nat.min_eq_left hc,bN (by rw[cM];exact al _)]
 .rw[Nat.min_eq_right (!1),cz (al _),cz (!1)]
  simp
end
theorem dR:dZ (.tuple ds) (.int i)=lQ ds i:=rfl
theorem Lf:dZ (.list ds) (.int i)=lQ ds i:=rfl
theorem jL (h0:0<m)(h1:m<1073741824)(h2:n<oZ)(h:∀r:Int,0<=r->r<m->Q (.int r) (n+1)):iU [.int m] n Q X:=⟨⟨h0,h1,h2⟩,h⟩
section
variable {i j:Nat}{ue:UX}{uc:UT}{Q:List ad->Int->Prop}{env:eI}
theorem qT (f:ad->ad)(p:ad->Bool):∀(its acc:List ad) (n:Int) (env:eI),(∀d∈its,∀n Q,ue (env.set i (some (.s d))) n Q=Q (f d) n)->(∀d∈its,∀n Q,uc (env.set i (some (.s d))) n Q=Q (p d) n)->fA (gC i) uc ue Q its acc env n=Q (acc++(its.filter p).map f) n
 | [],acc,n,env,_,_=>by simp[fA]
 | d::ds,acc,n,env,h,k=>by
  have ih:=λacc=>qT f p ds acc n (env.set i (some (.s d))) (λe he n Q=>by rw[List.set_set];exact h e (am _ he) n Q) (λe he n Q=>by rw[List.set_set];exact k e (am _ he) n Q);simp only[fA,gC,k d (ao ..),h d (ao ..),ih]
  cases hp:p d with
  | true=>simp[hp]
  | false=>simp[hp]
end
theorem l6 (Inv:List ad->List ad->eI->Int->Prop) :
  ∀(its pre:List ad) (env:eI) (n:Int),(∀pre d post env n (E':BX),E'.rt=E.rt->Inv pre (d::post) env n->(∀dJ n',Inv (pre++[d]) post dJ n'->E'.nx dJ n')->ug d env λGn=>ub E' Gn n)->Inv pre its env n->(∀pre env n,Inv pre [] env n->E.nx env n)->iK ug ub E its env n
 | [],pre,env,n,_,h0,hd=>hd pre env n h0
 | d::ds,pre,env,n,hb,h0,hd=>hb pre d ds env n { nx:=iK ug ub E ds,rt:=E.rt } rfl h0 λdJ n' h'=>l6 Inv ds (pre++[d]) dJ n' hb h' hd
theorem Ce (h:zP i j):AD (.int i) (.int j)=some (.int (i * j)):=if_pos h
theorem GB:AD (.int c) (.int (if b=true then 1 else 0))=some (.int (if b=true then c else 0)):=by
 cases b with
 | true=>rw[if_pos rfl,if_pos rfl,Ce (.inr ⟨!2,!2⟩),Int.mul_one]
 | false=>rw[if_neg (!2),if_neg (!2),Ce (.inr ⟨!2,!2⟩),Int.mul_zero]
theorem Nz (h:xs.length+ys.length<=16777216):lL (.tuple xs) (.tuple ys)=some (.tuple (xs++ys)):=if_pos (by rw[show au=16777216 by decide];exact h)
theorem NA (h:xs.length+ys.length<=16777216):lL (.list xs) (.list ys)=some (.list (xs++ys)):=if_pos (by rw[show au=16777216 by decide];exact h)
theorem jt (h:ds.length<16777216):gD ds [d]=some (ds++[d]):=if_pos (by rw[show au=16777216 by decide];exact h)
theorem o7 (h:0<j):yu (.int i) (.int j)=some (.int (i % j)):=if_pos h
noncomputable def eA (lo:Int)(n:Nat):List Int:=(List.range n).map λ(k:Nat)=>lo+(k:Int)
theorem kM (lo:Int)(n:Nat):lM lo n=(eA lo n).map .int:=by unfold lM eA;rw[bf];rfl
theorem dU:i∈eA lo n↔lo<=i/\i<lo+n:=by
 unfold eA;rw[bb];constructor
 .rintro⟨k,hk,rfl⟩
  have:=cG.mp hk;omega
 .intro h
  exact⟨(i - lo).toNat,cG.mpr (!1),!1⟩
theorem gz (lo:Int)(n:Nat):(eA lo n).length=n:=by simp[eA]
theorem yX (p:ad->Bool)(ns:List Int):(ns.map ad.int).filter p=(ns.filter λi=>p (.int i)).map .int:=by rw[List.filter_map];rfl
theorem GC (f:ad->ad)(ns:List Int):(ns.map ad.int).map f=ns.map λi=>f (.int i):=by rw[bf];rfl
section
variable {ns:List Int}
theorem yY {i:Int}(h0:0<=i)(h1:i<ns.length):∃k,lQ (ns.map ad.int) i=some (.int k)/\k∈ns/\ns[i.toNat]? = some k:=by
 have hl:i.toNat<ns.length:=by omega
 refine⟨ns[i.toNat],?_,cc _,by simp[hl]⟩;rw[nG h0 (by simpa using h1),az];simp[hl]
end
theorem kr (f:Int->ad)(p:Int->Bool)(ns:List Int)(acc:List ad)(n:Int)(env:eI)(h:∀k∈ns,∀n Q,ue (env.set i (some (.s (.int k)))) n Q=Q (f k) n)(hp:∀k∈ns,∀n Q,uc (env.set i (some (.s (.int k)))) n Q=Q (p k) n) :
  fA (gC i) uc ue Q (ns.map .int) acc env n=Q (acc++(ns.filter p).map f) n:=by
 rw[qT (λd=>match d with | .int k=>f k | _=>.none) (λd=>match d with | .int k=>p k | _=>false) _ _ _ _ (λd hd n Q=>?_) (λd hd n Q=>?_),yX,GC]
 .obtain⟨k,hk,rfl⟩:=bb.mp hd
  exact h k hk n Q
 .obtain⟨k,hk,rfl⟩:=bb.mp hd
  exact hp k hk n Q
noncomputable def GD (x y:ad):Option ad:=match x,y with | .str a,.str b=>some (.bool (!decide (a=b))) | _,_=>none
theorem GF:decide (V.str a=V.str b)=decide (a=b):=by
 rw[decide_eq_decide];exact⟨λh=>by cases h;rfl,λh=>by rw[h]⟩
theorem eS.Cf (r:eS gs S H (.str x) v):v=.str x:=by
 rcases r with r | ⟨ds,a,xs,h,_⟩ | ⟨t,kvs,a,xs,h,_⟩
 .exact r.jm
 .cases h
 .cases h
section
theorem Rb:uq X (compareOp .NotEq) GD:=⟨_,Pa,λgs S H dx dy x y d R _ _ r1 r2 e k=>by
 unfold GD at e;split at e
 .rename_i a b
  cases e;have e1:=r1.Cf;have e2:=r2.Cf;subst e1 e2;refine⟨rfl,?_⟩;rw[GF];exact k _ H (.bl _) (.refl _ _)
 .cases e⟩
end
end L2
namespace L2
open PySem PySem.Spec PyProof.Rows
noncomputable def NB (x y:ad):Option ad:=match x,y with
 | .tuple ds,.int k=>(fh ds).map λns=>.int (ns.count k:Nat)
 | .list ds,.int k=>(fh ds).map λns=>.int (ns.count k:Nat)
 | _,_=>none
noncomputable def GG (x:ad):Prop:=match x with | .tuple _=>True | .list _=>True | _=>False
def Ux (uo ue:UX):UX:=λenv n Q=>uo env n λx n1=>GG x/\ue env n1 λy n2=>lE (NB x y) λd=>Q d n2
noncomputable def JH:ad->Option ad | .list ds=>some (.tuple ds.reverse) | _=>none
def JI (u:UX):UX:=λenv n Q=>u env n λx n1=>lE (JH x) λd=>Q d n1
section
variable {X:Cx}
theorem vQ:∀l:List Int,(∀n∈l,-500000000000<=n/\n<=500000000000)->-(500000000000 * (l.length:Int))<=l.sum/\l.sum<=500000000000 * l.length
 | [],_=>by simp
 | a::l,hl=>by
  have h1:=vQ l λn hn=>hl n (am _ hn);have h2:=hl a (ao ..);rw[List.sum_cons,aj];omega
theorem Dw (K:W.Frag)(hc:X.calm=true)(hk:X.K=K:=by rfl):fL X (.builtin "sum") (λxs H Q=>∃(p:Addr) (ns:List Int),xs=[.ref p]/\iz K H p (ns.map V.int)/\(∀n∈ns,-500000000000<=n/\n<=500000000000)/\Q (.int ns.sum) H):=by
 subst hk;intro pins s σ H xs us Q I r h;obtain⟨p,ns,rfl,hp,hb,q⟩:=h;obtain⟨u,rfl,ru⟩:=vals1 r;cases ru;obtain⟨its,rv,ht,hz⟩:=I.tuple hp;have Jc:s.heap.IsTuple p its.toArray:=ht;have m7:p<s.heap.objs.size:=let ⟨o,e,_⟩:=Jc;ax e;have eF:its.toArray.size=ns.length:=by rw[aB,<- rv.length,ai]
 rw[ai] at hz;have hsz:au=16777216:=by decide
 refine call_sum_walk (wpAny_pyIter_tuple Jc ⟨s.heap.objs.size,_,_,its.toArray.size,_,_,λa=>ns.getD a 0,rfl,Walks.tuple (A:=X.A.in1) (I.ok.hd hc) _ p (aQ m7) its.toArray,⟨⟨_,aA _ rfl,rfl,rfl⟩,Jc.at λo e=>ag _ e⟩,?_,?_,?_,?_⟩)
 .intro b AJ
  rw[bE];rcases ap.mp AJ with e | AJ
  .rw[e];exact cm _
  .rw[show b=p by simpa using AJ];exact cj m7
 .intro a v e
  obtain⟨x,hx,rx⟩:=rv.at' (show its[a]? = some v by simpa using e);rw[az] at hx
  cases hn:ns[a]? with
  | none=>rw[hn] at hx;cases hx
  | some b =>
   rw[hn] at hx;cases hx;obtain⟨t,rfl⟩:=rx;exact⟨t,by show af.int b t=af.int (ns.getD a 0) t;rw[show ns.getD a 0=b by rw[ar,hn];rfl]⟩
 .intro j hj
  rw[eF] at hj;have h1:=hb (ns.getD j 0) (by rw[ar,show ns[j]? = some ns[j] by simp[hj]];exact cc hj);have h2:=vQ (ns.take (j+1)) λn hn=>hb n (List.mem_of_mem_take hn);rw[bH] at h2;show InLong (ns.getD j 0)/\InLong (preSum (λa=>ns.getD a 0) (j+1));unfold InLong;rw[iH ns (j+1) (!1)];have h3:(min (j+1) ns.length:Nat)<=16777216:=by omega
  constructor<;>constructor<;>omega
 .intro h' tk t' kp
  have I1:Inv X pins σ H { s with heap:=h',toks:=tk }:=I.kept λb o e=>kp b o (λz=>by
   rw[show b=s.heap.objs.size by simpa using z] at e;exact absurd (ax e) (bh _)) (ag _ e)
  rw[show preSum (λa=>ns.getD a 0) its.toArray.size=ns.sum by rw[eF,iH ns _ (al _),List.take_length]];exact⟨.int _,H,I1,⟨_,rfl⟩,q⟩
noncomputable def yZ (ds:List ad):Option ad:=match ds with | [.tuple ds]=>AO [.list ds] | ds=>AO ds
theorem NC (hc:X.calm=true):ng X (.builtin "sum") yZ:=by
 obtain⟨r,hr,hd⟩:=(Q4 (X:=X) hc).ex;refine⟨_,(show fL X (.builtin "sum") λxs H Q=>(∃(p:Addr) (ns:List Int),xs=[.ref p]/\iz X.K H p (ns.map V.int)/\(∀n∈ns,-500000000000<=n/\n<=500000000000)/\Q (.int ns.sum) H)\/r xs H Q from λpins s σ H xs us Q I rv h=>h.elim (Dw X.K hc rfl pins s σ H xs us Q I rv) (hr pins s σ H xs us Q I rv)),λgs S H ds vs d R hs hz rs e k=>?_⟩;unfold yZ at e;split at e
 .rename_i ds
  obtain⟨v,rfl,rl⟩:=rs.one;obtain⟨a,xs,rfl,sq,_,rr⟩:=rl.HN (K:=X.K);simp only[AO] at e
  cases ei:fh ds with
  | none=>rw[ei] at e;cases e
  | some ns =>
   rw[ei] at e;simp only[bV] at e;split at e
   .rename_i hb
    cases e;rw[gb ei] at rr;rw[fQ rr] at sq;exact .inl ⟨a,ns,rfl,sq,hb,k _ H (.int _) (.refl _ _)⟩
   .cases e
 .exact .inr (hd gs S H ds vs d R hs hz rs e k)
end
theorem ND {α:Type}{us:List α}{n:Nat}(h:us.length=n+1):∃a r,us=a::r/\r.length=n:=by
 cases us with
 | nil=>cases h
 | cons a r=>exact⟨a,r,rfl,Nat.succ.inj h⟩
theorem Dx {α:Type}{us:List α}(h:us.length=1):∃a,us=[a]:=by
 obtain⟨a,r,rfl,k⟩:=ND (n:=0) h;rw[List.eq_nil_of_length_eq_zero k];exact⟨_,rfl⟩
theorem GH {α:Type}{us:List α}(h:us.length=2):∃a b,us=[a,b]:=by
 obtain⟨a,r,rfl,k⟩:=ND (n:=1) h;obtain⟨b,rfl⟩:=Dx k;exact⟨_,_,rfl⟩
theorem NF {α:Type}{us:List α}(h:us.length=3):∃a b c,us=[a,b,c]:=by
 obtain⟨a,r,rfl,k⟩:=ND (n:=2) h;obtain⟨b,c,rfl⟩:=GH k;exact⟨_,_,_,rfl⟩
def Uy (i:Nat)(u:US):US:=λE env n=>match env[i]? with
 | some (some (.o ds))=>u E (env.set i (some (.s (.list ds)))) n
 | _=>u E env n
noncomputable def xg (x y:ad):Option ad:=match x,y with
 | .list ds,.int k=>(fh ds).bind λns=>if k∈ns then some (.int (ns.idxOf k:Nat)) else none
 | _,_=>none
noncomputable def GI (x:ad):Prop:=match x with | .list _=>True | _=>False
noncomputable def NG (uo ue:UX):UX:=λenv n Q=>uo env n λx n1=>GI x/\ue env n1 λy n2=>lE (xg x y) λd=>Q d n2
section
theorem JJ (ho:KL X M o uo)(he:KE X M e ue)(Yf:d9 e=true:=by rfl)(ou:attributeBase o "index" X.env (eval o X.env)=eval o X.env:=by rfl)(ox:(iF.endLine == f6.line)=true:=by rfl) :
  KE X M (.Call (.Attribute o "index" iF) [e] [] f6) (NG uo ue):=by
 refine .of (Ky PySem.F.plainAttrs_list PySem.F.slot_list_index PySem.F.type_list_index C' ho.run (gI he.run d7 Yf) ou rfl ox) λσ H R env pn S n Q ok hu k =>
  ⟨env,pn,S,n,_,ok,hu,λx H1 dx n1 r1 x1 g1 _ q1=>?_⟩
 obtain⟨Uz,q1⟩:=q1
 cases dx with
 | list ds =>
  obtain⟨a,xs,rfl,ha,rs⟩:=r1.eG;refine⟨.inl ⟨rfl,xs,gp.of ha⟩,env,pn,S,n1,_,ok.step x1 g1,q1,λy H2 dy n2 r2 x2 g2 sz q2=>?_⟩;obtain⟨d,e,q⟩:=q2
  cases dy with
  | int j =>
   simp only[xg] at e
   cases hd:fh ds with
   | none=>rw[hd] at e;cases e
   | some ns =>
    rw[hd] at e;simp only[bV] at e;split at e
    .rename_i hj
     cases e;have e3:=gb hd;subst e3;obtain⟨a',oO,e4,j8,zK⟩:=(r1.ext ok.yr x2).eG;cases e4;have e5:=fQ zK;subst e5;have og:=ck hj
     exact⟨a,ns,j,ns.idxOf j,rfl,by rw[r2.dY],j8,by rw[aL og,List.getElem_idxOf],λi hi z=>by
      have h2:i<ns.length:=by omega
      rw[aL h2] at z;have:=List.not_of_lt_findIdx (p:=(· == j)) (xs:=ns) (i:=i) hi;simp[Option.some.inj z] at this,k _ H2 _ n2 (.int _) (x1.trans x2) g2 q⟩
    .cases e
  | _=>cases e
 | _=>exact Uz.elim
end
def Rc (u:UX):eI->Int->(List ad->Int->Prop)->Prop:=λenv n Q=>u env n λd n1=>lE (iI d) λds=>lE (fh ds) λns=>ns.length<64/\Q ((sortI ns).map .int) n1
theorem RM {d k:Nat}{A:Around}(hr:fu k A)(h:d<=k:=by decide):fu d A:=hr.mono h
theorem nd (N:List Str)(h:N.Nodup:=by decide +kernel):N.Nodup:=h
theorem co (N:List Str)(s:Scope){sc:Scope}{N':List Str}{mp:List (Option Nat)}(h:gH N s sc N' mp=true:=by decide +kernel):gH N s sc N' mp=true:=h
theorem xh {sc:Scope}{env:Env}{x:Str}(h:sc.names.lookup x=some aH.cell):(relabel sc env).names.lookup x=some aH.cell:=by
 show (sc.names.map _).lookup x=_;generalize sc.names=l at h
 induction l with
 | nil=>cases h
 | cons p r ih =>
  obtain⟨n,k⟩:=p;rw[ah];dsimp only;by_cases hc:(k == aH.free && env.scope.kind == .function && env.kindOf n == some .cell)=true
  .rw[if_pos hc,bv]
   cases e:x == n with
   | true=>rfl
   | false =>
    rw[bv,e] at h;exact ih h
  .rw[if_neg hc,bv]
   cases e:x == n with
   | true =>
    rw[bv,e] at h;exact h
   | false =>
    rw[bv,e] at h;exact ih h
theorem Lg {N N':List Str}{s0 sc:Scope}{env:Env}{mp:List (Option Nat)}(h:gH N s0 sc N' mp=true):gH N (relabel s0 env) sc N' mp=true:=by
 unfold gH at h ⊢;simp only[aZ,cN] at h ⊢;obtain⟨⟨⟨⟨⟨h1,h2⟩,h3⟩,h6⟩,h4⟩,h5⟩:=h;refine⟨⟨⟨⟨⟨h1,h2⟩,λp hp=>?_⟩,h6⟩,h4⟩,h5⟩;have:=h3 p hp;rw[Bool.or_eq_true] at this ⊢;refine this.imp id λh=>?_;rw[Bool.or_eq_true,beq_iff_eq,beq_iff_eq] at h ⊢;rcases h with h | h
 .exact .inl (xh h)
 .exact oy h
theorem Ov {N ps:List Str}{s:Scope}(h1:s.kind=.function:=by rfl)(h2:s.isCoroutine=false:=by rfl)(h3:s.isGenerator=false:=by rfl)(h4:N.Nodup:=by decide +kernel)(h5:N.take ps.length=ps:=by rfl)
  (h6:∀x∈ps,s.names.lookup x=some .local\/s.names.lookup x=some .cell:=by decide +kernel) (h7:∀y∈s.names,y.2≠.free:=by decide +kernel):eO N ps s:=⟨h1,h2,h3,h4,h5,h6,h7⟩
theorem Ow {us:List UG}(is:List Nat)(h:us=is.map gC:=by rfl):∀u∈us,∀d env (Q:eI->Prop),u d env Q->∃dJ,Q dJ:=λu hu=>by
 subst h;obtain⟨i,_,rfl⟩:=bb.mp hu;exact QU
section
variable {X:Cx}{M:Fr}{e:Expr}{ue:UX}{pos ij:Pos}{x:Str}
theorem lO (i:Nat)(hN:X.N.Nodup)(hx:Loc X.env.scope x:=by exact Or.inl rfl)(hi:X.N[i]? = some x:=by rfl)(hf:X.fn x=true\/X.env.scope.names.lookup x=some .local:=by (first | exact .inl rfl | exact .inr rfl | assumption))(hfd:i ∉ M.fd:=by exact nf _ _ rfl):KG X M (.Name x pos) (gC i):=X5 hN hx hi hf hfd
theorem ic (i:Nat)(hN:X.N.Nodup)(h:KE X M e ue)(hx:Loc X.env.scope x:=by exact Or.inl rfl)(hi:X.N[i]? = some x:=by rfl)(hs:swapsWith e (some (.Name x ij)) pos.line X.env=pure false:=by rfl)
  (hf:X.fn x=true\/X.env.scope.names.lookup x=some .local:=by (first | exact .inl rfl | exact .inr rfl | assumption)) (hfd:i ∉ M.fd:=by exact nf _ _ rfl):KS X M (.Assign [.Name x ij] e pos) (dQ i ue):=QZ hN hx h hi hs hf hfd
theorem Dy (i:Nat){un:eI->Int->(List ad->Int->Prop)->Prop}(hN:X.N.Nodup)(h:KN X M e un)(hx:Loc X.env.scope x:=by exact Or.inl rfl)(hi:X.N[i]? = some x:=by rfl)(hs:swapsWith e (some (.Name x ij)) pos.line X.env=pure false:=by rfl)
  (hf:X.fn x=true\/X.env.scope.names.lookup x=some .local:=by (first | exact .inl rfl | exact .inr rfl | assumption)) (hfd:i ∉ M.fd:=by exact nf _ _ rfl):KS X M (.Assign [.Name x ij] e pos) (sQ i un):=Q0 hN hx h hi hs hf hfd
end
structure FM (K:W.Frag) (mg:Str->Option af) (x:Str) (st:Stmt):Prop where
 ex:∃f fd,uD K x x st f fd/\mg x=some (.ref f)
structure Lh (K:W.Frag) (x:Str) (st:Stmt):Prop where
 ex:∃f fd,uD K x x st f fd/\W.nsIn K aS x=some (some (.ref f))
theorem Lh.of {K:W.Frag}{x:Str}{st:Stmt}{f:Addr}{oc:af}{od an:Option Addr}{Bx:Array (Option af)}{kV sf pm d8 ct:af}(a:W.nsIn K aS x=some (some (.ref f)))(l:K.lookup f=some ⟨oc,od,.func (W.fnOf x x (i7 st) (fc st) (c8 st) .none kV sf pm an d8 ct),Bx⟩)
  (c:W.codeIn K d8 x=true) (k:W.keepIn K (.ref f)=true):Lh K x st:=⟨f,_,z5 l c k,a⟩
theorem Lh.m {K:W.Frag}{x:Str}{st:Stmt}{h:Heap}{mg:Str->Option af}(a:Lh K x st)(X:K.In h)(G:h.Ns aS mg):FM K mg x st :=
 let ⟨f,fd,F,n⟩:=a.ex;⟨f,fd,F,W.mg_of X G n⟩
def Dz (K:W.Frag)(t:Nat->Stmt):List (Str × Nat)->Prop
 | []=>True
 | (x,i)::r=>Lh K x (t i)/\Dz K t r
theorem y6 {K:W.Frag}{t:Nat->Stmt}:Dz K t []:=trivial
theorem GJ {K:W.Frag}{t:Nat->Stmt}{x:Str}{i:Nat}{r:List (Str × Nat)}(h:Lh K x (t i))(hr:Dz K t r):Dz K t ((x,i)::r):=⟨h,hr⟩
def BD (x:Str)(st:Stmt)(ps:List Str):Prop:=∀(kV sf pm:af) (an:Option Addr) (d8 ct:af) (us:List af),us.length=ps.length->bindArgs (W.fnOf x x (i7 st) (fc st) (c8 st) .none kV sf pm an d8 ct) ⟨us,[]⟩=pure (ps.zip us)
section
variable {P:aV}{w:World}{K:W.Frag}{mg:Str->Option af}{base:Heap}{x:Str}{st:Stmt}{N ps:List Str}{k:Nat}{C:Xc}{Y:yJ}
theorem fj (u:US)(N:List Str)(F:FM K mg x st)
  (body:eO N ps (c8 st)->∀(f:Addr) (d8:af) (A:Around) (outer:List Env) (s:aq) (H:Hp) (E:XK) (n0:Int) (S:List Addr) (has:∀a∈S,H a≠none),fu k (A.deeper (envOfC x (c8 st) s.heap.objs.size f d8))->(A.deeper (envOfC x (c8 st) s.heap.objs.size f d8)).units+64<cLine->zG (kF uj P w K mg base N x (c8 st) f d8 A outer s H E).Et (Fr.pure C n0 S H has) (fc st) u)
  (sc:eO N ps (c8 st):=by exact Ov) (hb:BD x st ps:=by rw[999]) :
  dF P w K mg base (k+1) x ps (ko C (ib N.length ps.length λ_=>u)) :=
 let ⟨f,_,F,hm⟩:=F.ex;Ul (u:=λ_=>u) F hm sc (F.binds hb) λd8 A outer s H E n0 S has hr=>body sc f d8 A outer s H E n0 S has hr hr.units
theorem Rf (u:XQ->US)(N:List Str)(F:FM K mg x st)
  (body:eO N ps (c8 st)->∀(f:Addr) (d8:af) (A:Around) (outer:List Env) (s:aq) (H:Hp) (E:XK) (n0:Int) (S:List Addr) (has:∀a∈S,H a≠none) (Ex:XQ),(∀c as,Ex c as->Rz C S [] H E c as)->fu k (A.deeper (envOfC x (c8 st) s.heap.objs.size f d8))->(A.deeper (envOfC x (c8 st) s.heap.objs.size f d8)).units+64<cLine->sH (kF (Ji P w) P w K mg base N x (c8 st) f d8 A outer s H E) E ->
   zG (kF (Ji P w) P w K mg base N x (c8 st) f d8 A outer s H E) (Fr.pure C n0 S H has) (fc st) (u Ex))
  (sc:eO N ps (c8 st):=by exact Ov) (hb:BD x st ps:=by rw[999]) :
  FI P w K mg base (k+1) x ps (ko C (ib N.length ps.length u)) :=
 let ⟨f,_,F,hm⟩:=F.ex;Um F hm sc (F.binds hb) λd8 A outer s H E n0 S has Ex hx hr=>body sc f d8 A outer s H E n0 S has Ex hx hr hr.units De
theorem GK (u:US)(N:List Str)(F:FM K mg x st)
  (body:eO N ps (c8 st)->∀(f:Addr) (d8:af) (A:Around) (outer:List Env) (s:aq) (H:Hp) (E:XK) (fa sa:Addr) (n0:Int) (S:List Addr) (hf:Y.ip H fa sa n0) (hS:fa∈S) (has:∀a∈S,H a≠none),fu k (A.deeper (envOfC x (c8 st) s.heap.objs.size f d8))->(A.deeper (envOfC x (c8 st) s.heap.objs.size f d8)).units+64<cLine ->
   zG (kF uj P w K mg base N x (c8 st) f d8 A outer s H E).Et (Fr.feed C Y 0 fa sa n0 S H hf hS has) (fc st) u)
  (sc:eO N ps (c8 st):=by exact Ov) (hN:1<=N.length:=by decide) (hb:BD x st ps:=by rw[999]) :
  dF P w K mg base (k+1) x ps (yL Y (iT N.length ps.length λ_=>u)) :=
 let ⟨f,_,F,hm⟩:=F.ex;Uo (u:=λ_=>u) F hm sc (F.binds hb) hN λd8 A outer s H E fa sa n0 S hf hS has hr=>body sc f d8 A outer s H E fa sa n0 S hf hS has hr hr.units
end
section
variable {X:Cx}{M:Fr}{a b e:Expr}{ua ub:UX}{pos p p2:Pos}
noncomputable def xj (x:ad):Bool:=match x with | .bool b=>b | _=>false
noncomputable def vR (x y:ad):Option ad:=match y with | .bool true=>some (.bool (!xj x)) | _=>none
theorem s9 {M:Model}{A:Around}{E:af->aq->Prop}{s:aq}{Q:af->aq->Prop}{v:af}(hv:∀f,v≠.builtin f)(h:Q (.bool (!(v == .bool true))) s):ay M A (compareOp .IsNot v (.bool true)) Q E s:=by
 cases v with
 | builtin f=>exact absurd rfl (hv f)
 | _=>exact ak h
def JK:V->Bool | .h8=>true | .bl _=>true | .int _=>true | .str _=>true | .ref _=>true | _=>false
theorem GL (hx:JK x=true)(r:RelV x v):∀f,v≠.builtin f:=λf=>by
 cases x<;>first
  | (cases hx;done)
  | (cases r;intro z;cases z;done)
  | (obtain⟨t,rfl⟩:=r;intro z;cases z)
theorem JL:jF X (compareOp .IsNot) (λx y H Q=>y=.bl true/\JK x=true/\Q (.bl (!decide (x=.bl true))) H):=by
 intro pins s σ H x y v u Q I rx ry h;obtain⟨rfl,hx,q⟩:=h;cases ry;refine s9 (GL hx rx) (d6 I q ?_)
 cases x<;>first
  | (cases hx;done)
  | (rename_i b;cases rx;cases b<;>rfl)
  | (cases rx;rfl)
  | (obtain⟨t,rfl⟩:=rx;rfl)
theorem GN:∀{d:ad} {v:V},dP S H d v->(xj d=decide (v=.bl true)/\JK v=true)
 | .none,_,h=>by rw[h.kG];exact⟨rfl,rfl⟩
 | .bool b,_,h=>by rw[h.iG];cases b<;>exact⟨rfl,rfl⟩
 | .int i,_,h=>by rw[h.dY];exact⟨rfl,rfl⟩
 | .str i,_,h=>by rw[h.jm];exact⟨rfl,rfl⟩
 | .tuple ds,_,h=>by obtain⟨a,_,rfl,_⟩:=h.fm;exact⟨rfl,rfl⟩
 | .list ds,_,h=>by obtain⟨a,_,rfl,_⟩:=h.eG;exact⟨rfl,rfl⟩
 | .dict _,_,h=>by obtain⟨a,_,_,_,rfl,_⟩:=h.lW;exact⟨rfl,rfl⟩
theorem eS.Jc (r:eS gs S H d v):xj d=decide (v=.bl true)/\JK v=true:=by
 rcases r with r | ⟨ds,a,xs,rfl,rfl,_⟩ | ⟨t,kvs,a,xs,rfl,rfl,_⟩
 .exact GN r
 .exact⟨rfl,rfl⟩
 .exact⟨rfl,rfl⟩
theorem NH:uq X (compareOp .IsNot) vR:=⟨_,JL,λgs S H dx dy x y d R _ _ r1 r2 e k=>by
 unfold vR at e;split at e
 .cases e;exact⟨r2.iG,r1.Jc.2,r1.Jc.1 ▸ k _ H (.bl _) (.refl _ _)⟩
 .cases e⟩
end
end L2
namespace PySem
open Sem (wp)
open PyProof.Rows Builtin Builtin.Frozenset
end PySem
namespace L2
open PySem PySem.Spec PyProof.Rows
open PySem.W (KasT kas_asc kas_desc kas_tail3 kas_descPart kas_count kas_place kas_bin kas_sort kas_rev kas_ask kas_item kat_run kat_snds KatTups KatLex KatGo kat_cons kat_nil kat_go kat_yes kat_no kat_one kat_lt kas_mapM kas_first_eq)
theorem dO.at:∀{xs:List V} {us:List af},dO xs us->∀j,j<us.length->RelV (xs.getD j .h8) (us.getD j af.none)
 | _,[],_,j,hj=>absurd hj (Nat.not_lt_zero _)
 | _,u::us,q,j,hj=>by
  cases q with
  | cons q1 q2 =>
   cases j with
   | zero=>exact q1
   | succ j=>exact dO.at q2 j (Nat.lt_of_succ_lt_succ hj)
abbrev jV:=List (List Int × ad)
noncomputable def DA (t:Bool)(d:ad):Option (List Int):=match t,d with | false,.int i=>some [i] | true,.tuple ds=>fh ds | _,_=>none
noncomputable def ef (kvs:jV)(k:List Int):Option ad:=(kvs.find? λp=>decide (p.1=k)).map (·.2)
noncomputable def jW (kvs:jV)(k:List Int)(d:ad):jV:=if (kvs.any λp=>decide (p.1=k))=true then kvs.map (λp=>if p.1=k then (p.1,d) else p) else kvs++[(k,d)]
section
variable {κ:Type}[DecidableEq κ]{S:List Addr}{H:Hp}{f:List Int->κ}
def nH (f:List Int->κ):jV->List V->List (κ × V)
 | p::kvs,x::xs=>(f p.1,x)::nH f kvs xs
 | _,_=>[]
theorem xk (f:List Int->κ):∀{kvs:jV} {xs:List V},dm S H (kvs.map (·.2)) xs->(nH f kvs xs).length=kvs.length
 | [],_,r=>by cases r.fw;rfl
 | p::kvs,_,r=>by
  obtain⟨x,t,rfl,r1,r2⟩:=r.of_cons;rw[nH,aj,xk f r2,aj]
theorem xl:∀{kvs:jV} {xs:List V},dm S H (kvs.map (·.2)) xs->(∀p∈kvs,f p.1=f k->p.1=k)->(ef kvs k=none/\gR (nH f kvs xs) (f k)=none)\/∃d v,ef kvs k=some d/\gR (nH f kvs xs) (f k)=some v/\dP S H d v
 | [],_,r,_=>by cases r.fw;exact .inl ⟨rfl,rfl⟩
 | p::kvs,_,r,inj=>by
  obtain⟨x,t,rfl,r1,r2⟩:=r.of_cons;by_cases e:p.1=k
  .refine .inr ⟨p.2,x,?_,?_,r1⟩
   .unfold ef;rw[bG,decide_eq_true e];rfl
   .rw[nH,fN (by rw[e])]
  .have e2:¬ f p.1=f k:=λz=>e (inj p (ao ..) z)
   have ih:=xl r2 λq hq=>inj q (am _ hq);have h1:ef (p::kvs) k=ef kvs k:=by unfold ef;rw[bG,decide_eq_false e]
   rw[h1,nH,fO (p:=(f p.1,x)) e2];exact ih
theorem Cg:∀{kvs:jV} {xs:List V},dm S H (kvs.map (·.2)) xs->(∀p∈kvs,f p.1=f k->p.1=k)->((nH f kvs xs).any λkv=>decide (kv.1=f k))=kvs.any λp=>decide (p.1=k)
 | [],_,r,_=>by cases r.fw;rfl
 | p::kvs,_,r,inj=>by
  obtain⟨x,t,rfl,r1,r2⟩:=r.of_cons;rw[nH,bK,bK,Cg r2 λq hq=>inj q (am _ hq)];congr 1;rw[decide_eq_decide];exact⟨inj p (ao ..),λz=>by rw[z]⟩
theorem Ci (rv:dP S H d v):∀{kvs:jV} {xs:List V},dm S H (kvs.map (·.2)) xs->(∀p∈kvs,f p.1=f k->p.1=k) ->
  ∃ys,(nH f kvs xs).map (λkv=>if kv.1=f k then (kv.1,v) else kv)=nH f (kvs.map λp=>if p.1=k then (p.1,d) else p) ys/\dm S H ((kvs.map λp=>if p.1=k then (p.1,d) else p).map (·.2)) ys
 | [],_,r,_=>⟨[],by cases r.fw;rfl,.nil⟩
 | p::kvs,_,r,inj=>by
  obtain⟨x,t,rfl,r1,r2⟩:=r.of_cons;obtain⟨ys,h1,h2⟩:=Ci rv r2 λq hq=>inj q (am _ hq);by_cases e:p.1=k
  .refine⟨v::ys,?_,?_⟩
   .rw[nH,ah,ah,h1,if_pos e,nH,if_pos (by rw[e])]
   .rw[ah,ah,if_pos e]
    exact .cons rv h2
  .have e2:¬ f p.1=f k:=λz=>e (inj p (ao ..) z)
   refine⟨x::ys,?_,?_⟩
   .rw[nH,ah,ah,h1,if_neg e,nH,if_neg e2]
   .rw[ah,ah,if_neg e]
    exact .cons r1 h2
theorem y7:∀{kvs:jV} {xs:List V} (d:ad),dm S H (kvs.map (·.2)) xs->nH f kvs xs++[(f k,v)]=nH f (kvs++[(k,d)]) (xs++[v])
 | [],_,d,r=>by cases r.fw;rfl
 | p::kvs,_,d,r=>by
  obtain⟨x,t,rfl,r1,r2⟩:=r.of_cons;rw[nH,aM,y7 d r2];rfl
theorem Cj (rv:dP S H d v)(r:dm S H (kvs.map (·.2)) xs)(inj:∀p∈kvs,f p.1=f k->p.1=k) :
  ∃ys,jo (nH f kvs xs) (f k) v=nH f (jW kvs k d) ys/\dm S H ((jW kvs k d).map (·.2)) ys:=by
 unfold jo jW;rw[Cg r inj];split
 .exact Ci rv r inj
 .refine⟨xs++[v],y7 d r,?_⟩
  rw[aU];exact r.append (.cons rv .nil)
end
theorem AU:∀(kvs:jV) (xs:List V),HE kvs xs=nH (λk=>(Sum.inl (k.headD 0):Key)) kvs xs
 | [],xs=>by cases xs<;>rfl
 | p::kvs,[]=>rfl
 | p::kvs,x::xs=>by rw[HE,nH,AU kvs xs]
theorem AV:∀(kvs:jV) (xs:List V),HF kvs xs=nH (λk=>(k.map Sum.inl:List Key)) kvs xs
 | [],xs=>by cases xs<;>rfl
 | p::kvs,[]=>rfl
 | p::kvs,x::xs=>by rw[HF,nH,AV kvs xs]
theorem Ck:∀{a b:List Int},(a.map Sum.inl:List Key)=b.map Sum.inl->a=b
 | [],[],_=>rfl
 | [],_::_,h=>by cases h
 | _::_,[],h=>by cases h
 | x::a,y::b,h=>by
  rw[ah,ah] at h;injection h with h1 h2;injection h1 with h1;rw[h1,Ck h2]
theorem one_inj {a b:List Int}(ha:a.length=1)(hb:b.length=1)(h:(Sum.inl (a.headD 0):Key)=Sum.inl (b.headD 0)):a=b:=by
 match a,b,ha,hb with
 | [x],[y],_,_=>injection h with h;simpa using h
theorem o8 {gs S:List Addr}{H:Hp}{t:Bool}{d:ad}{v:V}{k:List Int}(r:eS gs S H d v)(e:DA t d=some k):(t=false->k.length=1) /\
  (∀(a:Addr) (kvs:jV) (xs:List V),H a=some (xC t kvs xs)->dm S H (kvs.map (·.2)) xs->(t=false->∀p∈kvs,p.1.length=1) ->
   ((ef kvs k=none/\i8 H a v none)\/∃d v',ef kvs k=some d/\i8 H a v (some v')/\dP S H d v') /\
   ∀(d':ad) (v':V),dP S H d' v'->kvs.length<au->∃ys,oH H a v v' (d0 H a (xC t (jW kvs k d') ys))/\dm S H ((jW kvs k d').map (·.2)) ys):=by
 cases t with
 | false =>
  obtain⟨i,rfl⟩:∃i,d=.int i:=by
   cases d with
   | int i=>exact⟨i,rfl⟩
   | _=>cases e
  cases e;rw[r.dY];refine⟨λ_=>rfl,λa kvs xs ha rr hk=>?_⟩;have j8:H a=some (.dK (nH (λk=>(Sum.inl (k.headD 0):Key)) kvs xs)):=by rw[<- AU];exact ha
  have inj:∀p∈kvs,(Sum.inl (p.1.headD 0):Key)=Sum.inl (([i]:List Int).headD 0)->p.1=[i]:=λp hp h=>one_inj (hk rfl p hp) rfl h;refine⟨?_,λd' v' rv hl=>?_⟩
  .have hg:i8 H a (.int i) (gR (nH (λk=>(Sum.inl (k.headD 0):Key)) kvs xs) (Sum.inl i)):=i8.k (k:=Sum.inl i) j8
   rcases xl (f:=λk=>(Sum.inl (k.headD 0):Key)) (k:=[i]) rr inj with⟨h1,h2⟩ | ⟨d,v,h1,h2,h3⟩
   .have UB:gR (nH (λk=>(Sum.inl (k.headD 0):Key)) kvs xs) (Sum.inl i)=none:=h2
    rw[UB] at hg;exact .inl ⟨h1,hg⟩
   .have UB:gR (nH (λk=>(Sum.inl (k.headD 0):Key)) kvs xs) (Sum.inl i)=some v:=h2
    rw[UB] at hg;exact .inr ⟨d,v,h1,hg,h3⟩
  .obtain⟨ys,h1,h2⟩:=Cj (f:=λk=>(Sum.inl (k.headD 0):Key)) (k:=[i]) rv rr inj
   refine⟨ys,?_,h2⟩;have hp:=oH.k (k:=Sum.inl i) (v:=v') j8 (by rw[xk _ rr];exact hl);have Yg:jo (nH (λk=>(Sum.inl (k.headD 0):Key)) kvs xs) (Sum.inl i) v'=nH (λk=>(Sum.inl (k.headD 0):Key)) (jW kvs [i] d') ys:=h1;rw[Yg,<- AU] at hp;exact hp
 | true =>
  obtain⟨ds,rfl⟩:∃ds,d=.tuple ds:=by
   cases d with
   | tuple ds=>exact⟨ds,rfl⟩
   | _=>cases e
  have e':ds=k.map .int:=gb e;subst e';obtain⟨b,ys,rfl,hb,rb⟩:=r.fm;rw[fQ rb] at hb;have AJ:H b=some (.tup ((k.map (Sum.inl:Int->Key)).map kV)):=by rw[bf];exact hb
  refine⟨(λz=>by cases z),λa kvs xs ha rr hk=>?_⟩;have j8:H a=some (.dT (nH (λk=>(k.map Sum.inl:List Key)) kvs xs)):=by rw[<- AV];exact ha
  have inj:∀p∈kvs,(p.1.map Sum.inl:List Key)=k.map Sum.inl->p.1=k:=λp _ h=>Ck h;refine⟨?_,λd' v' rv hl=>?_⟩
  .have hg:=i8.t j8 AJ
   rcases xl (f:=λk=>(k.map Sum.inl:List Key)) (k:=k) rr inj with⟨h1,h2⟩ | ⟨d,v,h1,h2,h3⟩
   .rw[h2] at hg
    exact .inl ⟨h1,hg⟩
   .rw[h2] at hg
    exact .inr ⟨d,v,h1,hg,h3⟩
  .obtain⟨ys,h1,h2⟩:=Cj (f:=λk=>(k.map Sum.inl:List Key)) (k:=k) rv rr inj
   refine⟨ys,?_,h2⟩;have hp:=oH.t (v:=v') j8 AJ (by rw[xk _ rr];exact hl);rw[h1,<- AV] at hp;exact hp
theorem Ext.UC (hp:p∈S)(h:H p=Option.some (xC t kvs xs)):Ext S H (d0 H p o) :=
 ⟨λb u hb e=>by rw[du (λ(z:b=p)=>hb (by rw[z];exact hp))];exact e,λb ys e=>by rw[du (λz=>by rw[z,h] at e;cases t<;>cases e)];exact e⟩
theorem Ext.Rg (a:Ext S H0 H)(h0:H0 p=none):Ext S H0 (d0 H p o) :=
 ⟨λb u hb e=>by rw[du (λz=>by rw[z,h0] at e;cases e)];exact a.keep b u hb e,λb ys e=>by rw[du (λz=>by rw[z,h0] at e;cases e)];exact a.tup b ys e⟩
noncomputable def NI (env:eI)(i:Nat)(a:Addr):Prop:=∀j t kvs,j≠i->env[j]? ≠ some (some (.d a t kvs))
section
theorem dz.NJ (ok:dz M env pn σ S H n)(h0:H a=none)(h1:H' a=some (xC t kvs xs))(r:dm (a::S) H' (kvs.map (·.2)) xs)(hk:t=false->∀p∈kvs,p.1.length=1)(x:Ext M.gs H H')(g:M.G H' n')(hi:i ∉ M.fd) :
  dz M (env.set i (some (.d a t kvs))) pn (σ.set i (some (.ref a))) (a::S) H' n':=by
 have hg:∀b∈M.gs,b∈a::S:=λb hb=>am _ (ok.yr b hb);have pF:=ok.step x g;refine⟨λj e he=>?_,λj k ds es b h2 h3 h4 h5=>?_,by rw[bn,bn,ok.len],λj hj=>?_,g,pF.ext,λb hb=>am _ (ok.s0 b hb),λb hb=>?_,λb hb=>?_,λp hp=>?_⟩
 .rcases fg he with⟨rfl,e1⟩ | ⟨ne,e1⟩
  .cases e1
   have:i<env.length:=by
    by_cases z:i<env.length
    .exact z
    .rw[bi (by rw[bn];omega)] at he;cases he
   exact⟨.ref a,mK (by rw[<- ok.len];exact this),rfl,xs,h1,r,hk,ao ..,ok.anew h0⟩
  .obtain⟨v',hv,rv⟩:=ok.val j e e1
   exact⟨v',by rw[aW ne];exact hv,(rv.fresh h0).step hg x⟩
 .rcases fg h2 with⟨_,e1⟩ | ⟨n1,e1⟩
  .cases e1
  .rcases fg h3 with⟨_,e2⟩ | ⟨n2,e2⟩
   .cases e2
   .rw[aW n1] at h4
    rw[aW n2] at h5;exact ok.ne j k ds es b e1 e2 h4 h5
 .have:i≠j:=λz=>hi (z ▸ hj)
  rw[aW this];exact ok.FW j hj
 .rcases ap.mp hb with z | z
  .rw[z];exact .inr (ok.anew h0)
  .exact ok.sn b z
 .rcases ap.mp hb with z | z
  .rw[z,h1];simp
  .exact pF.has b z
 .exact ((ok.pin p hp).fresh h0).ext (x.mono hg)
theorem dz.only (ok:dz M env pn σ S H n)(h0:H a=none)(j:Nat)(t:Bool)(kvs:jV):env[j]? ≠ some (some (.d a t kvs)):=λz=>by
 obtain⟨v,_,_,xs,ha,_,_,hs,_⟩:=ok.val j _ z;exact ok.has a hs h0
theorem dz.putD (ok:dz M env pn σ S H n)(he:env[i]? = some (some (.d a t kvs)))(ho:NI env i a)(r:dm S H (iR.map (·.2)) ys)(hk:t=false->∀p∈iR,p.1.length=1) :
  dz M (env.set i (some (.d a t iR))) pn σ S (d0 H a (xC t iR ys)) n:=by
 obtain⟨v',hv,rfl,xs,ha,_,_,hs,h0⟩:=ok.val i _ he;have x:Ext [a] H (d0 H a (xC t iR ys)):=.UC (!4) ha;have xS:Ext S H (d0 H a (xC t iR ys)):=x.mono (by simpa using hs);refine⟨λj e hj=>?_,λj k um jk b h2 h3 h4 h5=>?_,by rw[bn,ok.len],ok.FW,M.iQ ok.gd x (by simpa using h0),ok.ext.Rg h0,ok.s0,ok.sn,λb hb=>?_,λp hp=>(ok.pin p hp).ext xS⟩
 .rcases fg hj with⟨rfl,e1⟩ | ⟨ne,e1⟩
  .cases e1
   exact⟨_,hv,rfl,ys,dg,r.ext xS,hk,hs,h0⟩
  .obtain⟨w,hw,pD⟩:=ok.val j e e1
   refine⟨w,hw,?_⟩
   cases e with
   | s d=>exact dP.ext xS pD
   | o jk =>
    obtain⟨b,zs,e2,hb,r2,B9,Gb⟩:=pD;subst e2;exact⟨b,zs,rfl,by rw[du (λz=>by rw[z,ha] at hb;exact oA hb.symm)];exact hb,r2.ext xS,B9,Gb⟩
   | x c as =>
    obtain⟨b,dx,vs,e2,hb,hd,r2,g1,g2⟩:=pD;exact⟨b,dx,vs,e2,by rw[du (λz=>by rw[z,ha] at hb;cases t<;>cases hb)];exact hb,by rw[du (λz=>by rw[z,ha] at hd;cases t<;>cases hd)];exact hd,r2.ext xS,g1,g2⟩
   | d b t2 Yh =>
    obtain⟨e2,zs,hb,r2,IW,B9,Gb⟩:=pD;have UD:b≠a:=λz=>ho j t2 Yh (λz2=>ne z2.symm) (z ▸ e1);exact⟨e2,zs,by rw[du UD];exact hb,r2.ext xS,IW,B9,Gb⟩
 .rcases fg h2 with⟨_,e1⟩ | ⟨n1,e1⟩
  .cases e1
  .rcases fg h3 with⟨_,e2⟩ | ⟨n2,e2⟩
   .cases e2
   .exact ok.ne j k um jk b e1 e2 h4 h5
 .by_cases z:b=a
  .rw[z,dg];simp
  .rw[du z];exact ok.has b hb
end
theorem AG {X:Cx}(h:X.A.units+64<cLine):X.A.units+1<cLine:=by omega
noncomputable def GO (i:Nat)(t:Bool):US:=λE env n=>∀a:Addr,(∀(j:Nat) (t':Bool) (kv:jV),env[j]? ≠ some (some (sM.d a t' kv)))->E.nx (env.set i (some (.d a t []))) n
noncomputable def vS (i:Nat)(uk uv:UX):US:=λE env n=>uv env n λd n1=>match env[i]? with | some (some (.d a t kvs))=>uk env n1 λk n2=>lE (DA t k) λkk=>(kvs.length<au/\NI env i a)/\E.nx (env.set i (some (.d a t (jW kvs kk d)))) n2 | _=>False
noncomputable def y8 (i:Nat)(uk:UX):UX:=λenv n Q=>match env[i]? with | some (some (.d a t kvs))=>uk env n λk n1=>lE (DA t k) λkk=>lE (ef kvs kk) λd=>Q d n1 | _=>False
noncomputable def xm (i:Nat)(uk:UX):UX:=λenv n Q=>uk env n λk n1=>match env[i]? with | some (some (.d a t kvs))=>lE (DA t k) λkk=>Q (.bool (ef kvs kk).isSome) n1 | _=>False
theorem JM (hk:t=false->∀p∈kvs,p.1.length=1)(h1:t=false->k.length=1):t=false->∀p∈jW kvs k d,p.1.length=1:=λht p hp=>by
 unfold jW at hp;split at hp
 .obtain⟨q,hq,rfl⟩:=bb.mp hp
  split
  .exact hk ht q hq
  .exact hk ht q hq
 .rcases bc.mp hp with hp | hp
  .exact hk ht p hp
  .rw[av.mp hp];exact h1 ht
section
theorem JN (hN:X.N.Nodup)(hx:Loc X.env.scope x)(hi:X.N[i]? = some x:=by rfl)(hs:swapsWith (.Dict [] [] p) (some (.Name x ij)) pos.line X.env=pure false:=by rfl)
  (hf:X.fn x=true\/X.env.scope.names.lookup x=some .local:=by (first | exact .inl rfl | exact .inr rfl | assumption)) (hfd:i ∉ M.fd:=by decide):KS X M (.Assign [.Name x ij] (.Dict [] [] p) pos) (GO i false):=.of (iP hN hi hx sy hs hf) λD σ H env pn S n E ok hu k1 k2 a ha =>
 k1 _ _ _ _ _ (ok.NJ (t:=false) (kvs:=[]) (xs:=[]) ha dg .nil (!4) (.new ha) (ok.grow (.new ha)) hfd) (hu a λj t kv=>ok.only ha j t kv)
theorem GP (i:Nat)(hu:X.A.units+1<cLine)(hk:KL X M ke uk)(hv:KE X M ve uv)(hN:X.N[i]? = some x:=by rfl)(NK:Bq X.env.scope x:=by (first | exact Or.inl rfl | exact Or.inr (Or.inl rfl) | exact Or.inr (Or.inr rfl)))(hd:(x == ("__debug__" : Str))=false:=by decide)(jl:(x == ("__classdict__" : Str))=false:=by decide)
  (hs:swapsWith ve (some (.Subscript (.Name x p) ke ij)) pos.line X.env=pure false:=by rfl):KS X M (.Assign [.Subscript (.Name x p) ke ij] ve pos) (vS i uk uv):=.of (kH hu (qv i hN NK hd jl) hk.run hv.run hs) λD σ H env pn S n E ok EC k1 k2=>by
 refine⟨env,pn,S,n,_,ok,EC,λv H1 d n1 r1 x1 g1 _ q=>?_⟩;have pG:=ok.step x1 g1;split at q
 .rename_i a t kvs he
  obtain⟨v0,JO,rfl,xs,ha,rr,QD,Yi,h0⟩:=pG.val i _ he;refine⟨_,JO,env,pn,S,n1,_,pG,q,λy H3 kd n2 r2 x2 g2 _ q2=>?_⟩;obtain⟨kk,ek,⟨hl,ho⟩,q2⟩:=q2;have La:=pG.step x2 g2;obtain⟨Yj,UE,e',oO,j8,NL,y9,_,_⟩:=La.val i _ he;obtain⟨h1,h2⟩:=o8 r2 ek;obtain⟨ys,hp,hr⟩:=(h2 a kvs oO j8 NL y9).2 d v (r1.ext (x2.mono pG.yr)) hl;exact⟨a,_,rfl,hp,k1 _ _ _ _ _ (La.putD he ho hr (JM y9 h1)) q2⟩
 .exact q.elim
theorem NM (i:Nat)(hu:X.A.units+1<cLine)(hk:KL X M ke uk)(hN:X.N[i]? = some x:=by rfl)(NK:Bq X.env.scope x:=by (first | exact Or.inl rfl | exact Or.inr (Or.inl rfl) | exact Or.inr (Or.inr rfl)))(hd:(x == ("__debug__" : Str))=false:=by decide)(jl:(x == ("__classdict__" : Str))=false:=by decide)
  (hs:Fq ke:=by exact λ_ _=>rfl):KE X M (.Subscript (.Name x p) ke pos) (y8 i uk):=.of (fY hu (qv i hN NK hd jl) hk.run hs) λσ H R env pn S n Q ok EC k=>by
 unfold y8 at EC;split at EC
 .rename_i a t kvs he
  obtain⟨v0,JO,rfl,xs,ha,rr,QD,Yi,h0⟩:=ok.val i _ he;refine⟨_,JO,env,pn,S,n,_,ok,EC,λy H1 kd n1 r1 x1 g1 _ q=>?_⟩;obtain⟨kk,ek,d,ed,q⟩:=q;have pG:=ok.step x1 g1;obtain⟨Yj,UE,e',oO,j8,NL,y9,_,_⟩:=pG.val i _ he;rcases ((o8 r1 ek).2 a kvs oO j8 NL y9).1 with⟨z,_⟩ | ⟨d',v',z,hg,hr⟩
  .rw[z] at ed;cases ed
  .rw[z] at ed
   cases ed;exact⟨a,v',rfl,hg,k v' H1 _ n1 hr x1 g1 q⟩
 .exact EC.elim
theorem Li (i:Nat)(hu:X.A.units+1<cLine)(hk:KL X M ke uk)(hN:X.N[i]? = some x:=by rfl)(NK:Bq X.env.scope x:=by (first | exact Or.inl rfl | exact Or.inr (Or.inl rfl) | exact Or.inr (Or.inr rfl)))(hd:(x == ("__debug__" : Str))=false:=by decide)(jl:(x == ("__classdict__" : Str))=false:=by decide)
  (hm:behindInMarks .In (.Name x p)=false:=by first | exact kE _ | rfl):KE X M (.Compare ke [.In] [.Name x p] pos) (xm i uk):=.of (⟨LM (Fs hu hk.run.run (qv i hN NK hd jl).run) hm⟩:QE X _ _) λσ H R env pn S n Q ok EC k=>by
 refine⟨env,pn,S,n,_,ok,EC,λy H1 kd n1 r1 x1 g1 _ q=>?_⟩;have pG:=ok.step x1 g1;split at q
 .rename_i a t kvs he
  obtain⟨kk,ek,q⟩:=q;obtain⟨v0,JO,rfl,oO,j8,NL,y9,_,_⟩:=pG.val i _ he;rcases ((o8 r1 ek).2 a kvs oO j8 NL y9).1 with⟨z,hg⟩ | ⟨d',v',z,hg,hr⟩
  .rw[z] at q
   exact⟨_,JO,a,_,rfl,hg,k _ H1 _ n1 (.bl _) x1 g1 q⟩
  .rw[z] at q
   exact⟨_,JO,a,_,rfl,hg,k _ H1 _ n1 (.bl _) x1 g1 q⟩
 .exact q.elim
theorem Rh (i:Nat)(hu:X.A.units+1<cLine)(hk:KL X M ke uk)(hN:X.N[i]? = some x:=by rfl)(NK:Bq X.env.scope x:=by (first | exact Or.inl rfl | exact Or.inr (Or.inl rfl) | exact Or.inr (Or.inr rfl)))(hd:(x == ("__debug__" : Str))=false:=by decide)(jl:(x == ("__classdict__" : Str))=false:=by decide)
  (hm:behindInMarks .In (.Name x p)=false:=by first | exact kE _ | rfl):KB X M (.Compare ke [.In] [.Name x p] pos) (dB (xm i uk)):=.of (⟨LN (Fs hu hk.run.run (qv i hN NK hd jl).run) hm⟩:QT X _ _) λσ H R env pn S n Q ok EC k=>by
 refine⟨env,pn,S,n,_,ok,EC,λy H1 kd n1 r1 x1 g1 _ q=>?_⟩;have pG:=ok.step x1 g1;split at q
 .rename_i a t kvs he
  obtain⟨kk,ek,q⟩:=q;obtain⟨v0,JO,rfl,oO,j8,NL,y9,_,_⟩:=pG.val i _ he;rcases ((o8 r1 ek).2 a kvs oO j8 NL y9).1 with⟨z,hg⟩ | ⟨d',v',z,hg,hr⟩
  .rw[z] at q
   exact⟨_,JO,a,_,rfl,hg,_,rfl,k _ H1 n1 x1 g1 q⟩
  .rw[z] at q
   exact⟨_,JO,a,_,rfl,hg,_,rfl,k _ H1 n1 x1 g1 q⟩
 .exact q.elim
end
noncomputable def o9 (p:ad × ad):Option (List Int × ad):=match p.1 with | .tuple ks=>(fh ks).map λk=>(k,p.2) | _=>none
noncomputable def Ox (d:ad):Option (Bool × jV):=match d with | .dict ((.bool t,.none)::l)=>(l.mapM o9).map λkvs=>(t,kvs) | _=>none
theorem GQ:∀kvs:jV,(kvs.map λp=>(ad.tuple (p.1.map .int),p.2)).mapM o9=some kvs
 | []=>rfl
 | p::kvs=>by
  have e:o9 (ad.tuple (p.1.map .int),p.2)=some p:=by
   unfold o9;simp only[fq];rfl
  rw[ah,cA,GQ kvs,e];rfl
theorem AW (t:Bool)(kvs:jV):Ox (gT t kvs)=some (t,kvs):=by
 unfold gT m8 Ox;simp only[GQ,bg]
theorem y':∀{l:List (ad × ad)} {kvs:jV},l.mapM o9=some kvs->l=kvs.map λp=>(ad.tuple (p.1.map .int),p.2)
 | [],kvs,h=>by cases h;rfl
 | p::l,kvs,h=>by
  rw[cA] at h
  cases hp:o9 p with
  | none=>rw[hp] at h;cases h
  | some q =>
   cases hl:l.mapM o9 with
   | none=>rw[hp,hl] at h;cases h
   | some r =>
    rw[hp,hl] at h;cases h;rw[ah,<- y' hl];congr 1;unfold o9 at hp;split at hp
    .rename_i ks he
     cases ha:fh ks with
     | none=>rw[ha] at hp;cases hp
     | some k =>
      rw[ha] at hp;cases hp;rw[<- gb ha];cases p;simp only at he;rw[he]
    .cases hp
theorem GR (h:Ox d=some (t,kvs)):d=gT t kvs:=by
 unfold Ox at h;split at h
 .rename_i t' l
  cases hl:l.mapM o9 with
  | none=>rw[hl] at h;cases h
  | some r =>
   rw[hl] at h;cases h;rw[gT,m8,<- y' hl]
 .cases h
theorem GS (h:m8 t kvs=m8 t' iR):t=t'/\kvs=iR:=by
 have h1:=AW t kvs;rw[gT,h,<- gT,AW] at h1;cases h1;exact⟨rfl,rfl⟩
theorem eS.Ri (r:eS gs S H d v)(e:Ox d=some (t,kvs)):∃a xs,v=.ref a/\H a=some (xC t kvs xs)/\dm S H (kvs.map (·.2)) xs/\(t=false->∀p∈kvs,p.1.length=1):=by
 rw[GR e] at r;obtain⟨a,t',iR,xs,e1,e2,ha,hk,hr⟩:=eS.lW r;obtain⟨rfl,rfl⟩:=GS e2;exact⟨a,xs,e1,ha,hr,hk⟩
noncomputable def vT (ud uk:UX):UX:=λenv n Q=>ud env n λd n1=>lE (Ox d) λtk=>uk env n1 λk n2=>lE (DA tk.1 k) λkk=>lE (ef tk.2 kk) λx=>Q x n2
section
variable {X:Cx}{M:Fr}{o e ke ve:Expr}{uk uv ud:UX}{pos ij p p2:Pos}
theorem AX (hu:X.A.units+1<cLine)(ho:KL X M o ud)(hk:KL X M ke uk)(hs:Fq ke:=by exact λ_ _=>rfl):KE X M (.Subscript o ke pos) (vT ud uk):=.of (fY hu ho.run hk.run hs) λσ H R env pn S n Q ok EC k=>by
 refine⟨env,pn,S,n,_,ok,EC,λv H1 d n1 r1 x1 g1 _ q=>?_⟩;obtain⟨⟨t,kvs⟩,e,q⟩:=q;have pG:=ok.step x1 g1;refine⟨env,pn,S,n1,_,pG,q,λy H2 kd n2 r2 x2 g2 _ q2=>?_⟩;obtain⟨kk,ek,x,ex,q2⟩:=q2;obtain⟨a,xs,rfl,ha,rr,QD⟩:=(r1.ext pG.yr x2).Ri e;rcases ((o8 r2 ek).2 a kvs xs ha rr QD).1 with⟨z,_⟩ | ⟨d',v',z,hg,hr⟩
 .rw[z] at ex;cases ex
 .rw[z] at ex
  cases ex;exact⟨a,v',rfl,hg,k v' H2 _ n2 hr (x1.trans x2) g2 q2⟩
end
end L2
open PySem
namespace Odj
end Odj
open PySem
namespace Odj
abbrev ux:=List (Int × Bool)
noncomputable def gA (o:ux)(k:Int):Bool:=((o.find? λp=>decide (p.1=k)).map (·.2)).getD false
noncomputable def fB (o:ux)(k:Int):ux:=if o.any (λp=>decide (p.1=k)) then o.map (λp=>if p.1=k then (p.1,!(gA o k)) else p) else o++[(k,!(gA o k))]
noncomputable def dG (row:List Int):ux:=row.foldl fB []
noncomputable def jM (o:ux):List Int:=(o.filter (·.2)).map (·.1)
def eL (o:ux):List Int:=o.map (·.1)
theorem vU (o:ux)(k:Int):eL (fB o k)=if k∈eL o then eL o else eL o++[k]:=by
 unfold fB eL;by_cases h:k∈o.map (·.1)
 .have h':o.any (λp=>decide (p.1=k))=true:=by
   obtain⟨p,hp,e⟩:=bb.mp h;exact cO.mpr ⟨p,hp,decide_eq_true e⟩
  rw[if_pos h',if_pos h,bf];apply ca;intro p _;simp only[Function.comp];split<;>rfl
 .have h':¬ o.any (λp=>decide (p.1=k))=true:=by
   intro z;obtain⟨p,hp,e⟩:=cO.mp z;exact h (bb.mpr ⟨p,hp,of_decide_eq_true e⟩)
  rw[if_neg h',if_neg h,aU];rfl
theorem AY (h:(eL o).Nodup):(eL (fB o k)).Nodup:=by
 rw[vU];split
 .exact h
 .rename_i hk
  rw[bM];refine⟨h,!4,λa ha b hb=>?_⟩;have:b=k:=by simpa using hb
  subst this;intro z;subst z;exact hk ha
theorem GU (o:ux)(k:Int):(fB o k).length<=o.length+1:=by
 unfold fB;split
 .simp
 .simp
theorem GV (h:x∈eL (fB o k)):x=k\/x∈eL o:=by
 rw[vU] at h;split at h
 .exact .inr h
 .rcases bc.mp h with z | z
  .exact .inr z
  .exact .inl (by simpa using z)
theorem GW {o:ux}(h:(eL o).Nodup){i:Nat}{p:Int × Bool}(hp:o[i]? = some p):gA o p.1=p.2:=by
 induction o generalizing i with
 | nil=>cases hp
 | cons q o ih =>
  unfold eL at h;rw[ah,bF] at h
  cases i with
  | zero =>
   have:q=p:=by simpa using hp
   subst this;simp[gA]
  | succ i =>
   have AZ:o[i]? = some p:=by simpa using hp
   have hm:p.1∈o.map (·.1):=bb.mpr ⟨p,bB AZ,rfl⟩;have gQ:¬ q.1=p.1:=λz=>h.1 (z ▸ hm);have:=ih h.2 AZ;unfold gA at this ⊢;rw[bG];simp only[gQ,decide_false];exact this
end Odj
open PySem
namespace Odj
theorem tf:∀{l1 l2:List Int},l1.Pairwise (· < ·)->l2.Pairwise (· < ·)->(∀k,k∈l1↔k∈l2)->l1=l2
 | [],[],_,_,_=>rfl
 | [],b::l2,_,_,h=>absurd ((h b).mpr (ao ..)) (!4)
 | a::l1,[],_,_,h=>absurd ((h a).mp (ao ..)) (!4)
 | a::l1,b::l2,h1,h2,h=>by
  obtain⟨q1,r1⟩:=bX.mp h1;obtain⟨q2,r2⟩:=bX.mp h2
  have e:a=b:=by
   rcases ap.mp ((h a).mp (ao ..)) with z | z
   .exact z
   .rcases ap.mp ((h b).mpr (ao ..)) with y | y
    .exact y.symm
    .have:=q2 a z
     have:=q1 b y;omega
  subst e;rw[tf r1 r2 λk=>?_];constructor
  .intro hk
   rcases ap.mp ((h k).mp (am _ hk)) with z | z
   .have:=q1 k hk
    omega
   .exact z
  .intro hk
   rcases ap.mp ((h k).mpr (am _ hk)) with z | z
   .have:=q2 k hk
    omega
   .exact z
noncomputable def A0 (row ns:List Int):Prop:=ns.Pairwise (· < ·)/\∀k,k∈ns↔row.count k % 2=1
end Odj
namespace Odj
open PySem L2
noncomputable def gJ (row:List Int):List Int:=kL (row.filter λk=>decide (row.count k % 2=1))
noncomputable def iq:UF:=λds n Q _=>match ds with
 | [.list es]=>lE (fh es) λrow=>((i6 row).length<=60/\row.length<=100000)/\Q (.tuple ((gJ row).map .int)) n
 | [.tuple es]=>lE (fh es) λrow=>((i6 row).length<=60/\row.length<=100000)/\Q (.tuple ((gJ row).map .int)) n
 | _=>False
noncomputable def HP:List Str:=["NoWalk"]
def JP:List Str:=["JoinError", "NoWalk"]
def FL (c:Str):List Str:=(([("NoWalk",["number"])]:List (Str × List Str)).lookup c).getD []
abbrev XC (cl:Str->Addr):Xc:=⟨cl,FL⟩
noncomputable def nI:US:=(dM (f9 (mZ "int" (c5 0)) (F4 (mZ "bool" (c5 0)))))
noncomputable def ir:UF:=ib 1 1 (λ_=>nI)
noncomputable def jX:US:=(dM (f9 (mZ "tuple" (c5 0)) (di lR (iB eM (c6 (c5 0) dc)) (c5 1))))
noncomputable def gf:UF:=ib 2 2 (λ_=>jX)
noncomputable def l7:US:=(de (fP (iS (dB (mZ "tuple" (c5 0)))) (dM (uC (.bool false))) eU)
 (de (dQ 1 (zH i9 (uC (.int 1))))
 (de (oW (Dq 0) (gC 2)
 (de (fP (nB (iS (dB (dh ir (c6 (dq 2) dc)))) (dB (di QF (c5 2) (c5 1)))) (dM (uC (.bool false))) eU)
 (dQ 1 (dq 2))))
 (dM (uC (.bool true))))))
noncomputable def jO:UF:=ib 3 1 (λ_=>l7)
noncomputable def gX:US:=(dM (f9 (dh jO (c6 (dq 0) dc)) (Ni (di lR (iB eM (c6 (c5 0) dc)) (uC (.int 0))) (di Sh (di dZ (c5 0) (zH i9 (uC (.int 1)))) (c5 1)))))
noncomputable def fC:UF:=ib 2 2 (λ_=>gX)
noncomputable def kN:US:=(dM (di lR (oY (c5 0)) (iB eM (c6 (c5 0) dc))))
noncomputable def jb:UF:=ib 1 1 (λ_=>kN)
noncomputable def pY:US:=(dM (dh fC (c6 (dq 1) (c6 (di dZ (c5 0) (uC (.int 0))) dc))))
noncomputable def mN:UF:=ib 2 2 (λ_=>pY)
noncomputable def tj:US:=(dM (dh fC (c6 (dq 1) (c6 (iB eM (c6 (di dZ (c5 0) (uC (.int 1))) dc)) dc))))
noncomputable def pb:UF:=ib 2 2 (λ_=>tj)
noncomputable def iV:US:=(dM (dh pb (c6 (dq 0) (c6 (jq (c6 (dq 1) dc)) dc))))
noncomputable def gE:UF:=ib 2 2 (λ_=>iV)
noncomputable def nK:US:=(dM (dh iq (c6 (di lL (c5 0) (c5 1)) dc)))
noncomputable def gK:UF:=ib 2 2 (λ_=>nK)
noncomputable def nL:US:=(dM (Gu (yN (iB eM (c6 (di dZ (c5 0) (uC (.int 1))) dc)))))
noncomputable def ju:UF:=ib 1 1 (λ_=>nL)
noncomputable def nM:US:=(dM (iB yZ (c6 (uL (d5 (pT (c5 1)) [none,some 0] (gC 0) nE (di dZ (di dZ (di dZ (c5 1) (uC (.int 1))) (c5 0)) (uC (.int 2))))) dc)))
noncomputable def jv:UF:=ib 2 2 (λ_=>nM)
noncomputable def tm:US:=(dM (iB ff (c6 (uL (d5 (JA (di dZ (c5 0) (uC (.int 1)))) [none,none,some 1] (Ey [(gC 0),(gC 1)]) (dB (di uQ (di inD (di dZ (c5 1) (uC (.int 0))) (c5 2)) (di inD (di dZ (c5 1) (uC (.int 1))) (c5 2)))) (dq 0))) dc)))
noncomputable def pd:UF:=ib 2 2 (λ_=>tm)
noncomputable def l8:US:=(dM (iB ff (c6 (uL (d5 (JA (c5 0)) [none,none,some 1] (Ey [(gC 1),(gC 0)]) (dB (di lR (c5 0) (c5 2))) (dq 1))) dc)))
noncomputable def iL:UF:=ib 2 2 (λ_=>l8)
noncomputable def nN:US:=(de (dQ 1 (uL (yN (di dZ (c5 0) (uC (.int 0))))))
 (de (oW (Nr (di dZ (c5 0) (uC (.int 1)))) (gC 2)
 (de (dQ 3 (iB qO (c6 (di dZ (c5 1) (di dZ (c5 2) (uC (.int 0)))) (c6 (di dZ (c5 1) (di dZ (c5 2) (uC (.int 1)))) dc))))
 (de (dQ 4 (iB qP (c6 (di dZ (c5 1) (di dZ (c5 2) (uC (.int 0)))) (c6 (di dZ (c5 1) (di dZ (c5 2) (uC (.int 1)))) dc))))
 (dQ 1 (uL (d5 (pT (c5 1)) [none,some 3,some 4] (gC 0) nE (Jt (dB (di lR (c5 0) (c5 2))) (dq 1) (dq 0))))))))
 (dM (iB ff (c6 (uL (d5 (pT (uL (wZ (c5 1)))) [none,some 1] (gC 0) nE (dh iL (c6 (dq 1) (c6 (dq 0) dc))))) dc)))))
noncomputable def kO:UF:=ib 5 1 (λ_=>nN)
noncomputable def l9:US:=(dM (Jt (dB (di lR (di dZ (c5 0) (uC (.int 0))) (c5 1))) (di dZ (c5 0) (uC (.int 1))) (di dZ (c5 0) (uC (.int 0)))))
noncomputable def fW:UF:=ib 2 2 (λ_=>l9)
noncomputable def pZ:US:=(dM (f9 (dh gE (c6 (dq 0) (c6 (dq 2) dc))) (di inD (c5 1) (B8 (di dZ (di dZ (c5 0) (uC (.int 1))) (c5 2)) B6 (B7 (uC (.int 2)))))))
noncomputable def jg:UF:=ib 3 3 (λ_=>pZ)
noncomputable def gF (Ex:XQ):US:=(de (fP (iS (dB (mZ "tuple" (c5 2)))) (sR Ex "NoWalk" (c6 (zH i9 (uC (.int 1))) dc)) eU)
 (de (sQ 3 (c6 (dq 1) dc))
 (de (oW (QV (dq 2)) (Ey [(gC 4),(gC 5)])
 (de (fP (iS (dB (dh jg (c6 (dq 0) (c6 (di dZ (c5 3) (zH i9 (uC (.int 1)))) (c6 (dq 5) dc)))))) (sR Ex "NoWalk" (c6 (dq 4) dc)) eU)
 (lI 3 gD (c6 (dh fW (c6 (di dZ (di dZ (c5 0) (uC (.int 1))) (c5 5)) (c6 (di dZ (c5 3) (zH i9 (uC (.int 1)))) dc))) dc))))
 (oV 3))))
noncomputable def fz:UF:=ib 6 3 (gF)
noncomputable def jw:US:=(de (fP (nB (iS (dB (dh gf (c6 (dq 1) (c6 (uC (.int 2)) dc))))) (iS (dB (dh ir (c6 (di dZ (c5 1) (uC (.int 0))) dc))))) (dM (uC .none)) eU)
 (de (Gx 2 fz "NoWalk" HP (c6 (dq 0) (c6 (di dZ (c5 1) (uC (.int 0))) (c6 (di dZ (c5 1) (uC (.int 1))) dc)))
 (dM (uC .none)))
 (dM (Jt (dB (di lR (di dZ (c5 2) (zH i9 (uC (.int 1)))) (di dZ (c5 2) (uC (.int 0))))) (dq 2) (uC .none)))))
noncomputable def gY:UF:=ib 3 2 (λ_=>jw)
noncomputable def nO:US:=(de (dQ 2 (dh gY (c6 (dq 0) (c6 (dq 1) dc))))
 (dM (f9 (di Jv (c5 2) (uC .none)) (f9 (di AF (iB eM (c6 (c5 2) dc)) (uC (.int 1))) (dh jb (c6 (di dZ (c5 1) (uC (.int 1))) dc))))))
noncomputable def kP:UF:=ib 3 2 (λ_=>nO)
noncomputable def ma:US:=(dM (dh jv (c6 (dq 0) (c6 (dh pd (c6 (dq 0) (c6 (dq 1) dc))) dc))))
noncomputable def jP:UF:=ib 2 2 (λ_=>ma)
noncomputable def p7:US:=(dM (di yt (dh jv (c6 (dq 0) (c6 (dh ju (c6 (dq 0) dc)) dc))) (dh jP (c6 (dq 0) (c6 (dq 1) dc)))))
noncomputable def mO:UF:=ib 2 2 (λ_=>p7)
noncomputable def jY:US:=(de (sQ 2 (c6 (di dZ (di dZ (di dZ (c5 0) (uC (.int 1))) (di dZ (c5 1) (uC (.int 0)))) (uC (.int 0))) dc))
 (de (sQ 3 dc)
 (de (nD (dB (di ri (di dZ (c5 2) (zH i9 (uC (.int 1)))) (B8 (c5 2) B6 (B7 (zH i9 (uC (.int 1)))))))
 (de (dQ 4 (di dZ (uL (d5 (pT (c5 1)) [none,some 3,some 0,some 2] (gC 0) (F1 (dB (di ri (c5 0) (c5 1))) (dB (dh jg (c6 (dq 2) (c6 (di dZ (c5 3) (zH i9 (uC (.int 1)))) (c6 (dq 0) dc)))))) (dq 0))) (uC (.int 0))))
 (de (lI 3 gD (c6 (dq 4) dc))
 (lI 2 gD (c6 (dh fW (c6 (di dZ (di dZ (c5 0) (uC (.int 1))) (c5 4)) (c6 (di dZ (c5 2) (zH i9 (uC (.int 1)))) dc))) dc)))))
 (de (dQ 5 (NG (c5 2) (di dZ (c5 2) (zH i9 (uC (.int 1))))))
 (dM (jq (c6 (di dZ (c5 2) (zH i9 (uC (.int 1)))) (c6 (iB ff (c6 (B8 (c5 3) (B7 (dq 5)) B6) dc)) dc))))))))
noncomputable def iC:UF:=ib 6 2 (λ_=>jY)
noncomputable def nP:US:=(de (sQ 2 dc)
 (de (dQ 3 (uL (vN (c5 1))))
 (de (nD (dB (di AF (iB eM (c6 (c5 3) dc)) (uC (.int 0))))
 (de (dQ 4 (dh iC (c6 (dq 0) (c6 (dq 3) dc))))
 (de (lI 2 gD (c6 (dq 4) dc))
 (dQ 3 (uL (d5 (pT (c5 3)) [none,some 4] (gC 0) (dB (di ri (c5 0) (di dZ (c5 1) (uC (.int 1))))) (dq 0)))))))
 (dM (iB ff (c6 (c5 2) dc))))))
noncomputable def kQ:UF:=ib 5 2 (λ_=>nP)
noncomputable def me:US:=(de (GO 1 false)
 (de (oW (Nr (dh kO (c6 (dq 0) dc))) (gC 2)
 (vS 1 (di dZ (c5 2) (uC (.int 0))) (jq dc)))
 (de (dQ 3 (uC (.bool true)))
 (de (nD (dB (dq 3))
 (de (dQ 3 (uC (.bool false)))
 (oW (QV (di dZ (c5 0) (uC (.int 1)))) (Ey [(gC 4),(gC 5)])
 (fP (dB (di uQ (xm 1 (di dZ (c5 5) (uC (.int 0)))) (xm 1 (di dZ (c5 5) (uC (.int 1)))))) (de (dQ 6 (Jt (dB (xm 1 (di dZ (c5 5) (uC (.int 0))))) (di dZ (c5 5) (uC (.int 0))) (di dZ (c5 5) (uC (.int 1)))))
 (de (vS 1 (dh fW (c6 (dq 5) (c6 (dq 6) dc))) (dh gK (c6 (y8 1 (c5 6)) (c6 (jq (c6 (dq 4) dc)) dc))))
 (dQ 3 (uC (.bool true))))) eU))))
 (oV 1)))))
noncomputable def iM:UF:=ib 7 1 (λ_=>me)
noncomputable def kR:US:=(de (dQ 2 (uL (d5 (JA (di dZ (c5 0) (uC (.int 1)))) [none,none,some 1] (Ey [(gC 0),(gC 1)]) nE (dh gK (c6 (jq (c6 (dq 0) dc)) (c6 (dh gK (c6 (vT (c5 2) (di dZ (c5 1) (uC (.int 0)))) (c6 (vT (c5 2) (di dZ (c5 1) (uC (.int 1)))) dc))) dc))))))
 (dM (uL (d5 (pT (c5 2)) [none] (gC 0) (dB (di uQ (c5 0) (jq dc))) (dq 0)))))
noncomputable def jc:UF:=ib 3 2 (λ_=>kR)
noncomputable def p8:US:=(de (dQ 2 (dh iM (c6 (dq 0) dc)))
 (dM (iB ff (c6 (uL (d5 (Gg (di dZ (c5 0) (uC (.int 0)))) [none,some 2,some 1] (gC 0) (dB (di lR (di yu (iB eM (c6 (uL (d5 (pT (vT (c5 1) (c5 0))) [none,some 2] (gC 0) (dB (di inD (c5 0) (c5 1))) (dq 0))) dc)) (uC (.int 2))) (uC (.int 1)))) (dq 0))) dc))))
noncomputable def mP:UF:=ib 3 2 (λ_=>p8)
noncomputable def gZ:US:=(dM (f9 (dh gf (c6 (dq 2) (c6 (uC (.int 2)) dc))) (f9 (di lR (di dZ (c5 2) (uC (.int 0))) (c5 1)) (dh mN (c6 (dq 0) (c6 (di dZ (c5 2) (uC (.int 1))) dc))))))
noncomputable def fR:UF:=ib 3 3 (λ_=>gZ)
noncomputable def p9:US:=(de (dQ 2 (iB ff (c6 (uL (d5 (Gg (iB eM (c6 (di dZ (c5 0) (uC (.int 1))) dc))) [none,some 1] (gC 0) (dB (di ri (c5 0) (c5 1))) (dq 0))) dc)))
 (dM (jq (c6 (jq (c6 (di dZ (c5 0) (uC (.int 0))) (c6 (iB ff (c6 (uL (d5 (pT (c5 2)) [none,some 0] (gC 0) nE (di dZ (di dZ (c5 1) (uC (.int 1))) (c5 0)))) dc)) dc))) (c6 (dq 2) dc)))))
noncomputable def mQ:UF:=ib 3 2 (λ_=>p9)
noncomputable def jZ:US:=(de (dQ 1 (uL (d5 (JA (di dZ (c5 0) (uC (.int 1)))) [none,none] (Ey [(gC 0),(gC 1)]) (dB (di lR (di dZ (c5 1) (uC (.int 2))) (uC (.int 0)))) (dq 0))))
 (de (dQ 2 (dh mQ (c6 (dq 0) (c6 (dq 1) dc))))
 (de (dQ 3 (uL (d5 (pT (dh jc (c6 (di dZ (c5 2) (uC (.int 0))) (c6 (dh iM (c6 (di dZ (c5 2) (uC (.int 0))) dc)) dc)))) [none] (gC 0) (dB (di lR (di yu (iB eM (c6 (c5 0) dc)) (uC (.int 2))) (uC (.int 1)))) (dq 0))))
 (de (fP (dB (di lR (iB eM (c6 (c5 3) dc)) (uC (.int 0)))) (dM (jq (c6 (uC (.str "halves")) (c6 (dh mP (c6 (di dZ (c5 2) (uC (.int 0))) (c6 (dh ju (c6 (di dZ (c5 2) (uC (.int 0))) dc)) dc))) dc)))) eU)
 (de (dQ 4 (di dZ (dh kQ (c6 (di dZ (c5 2) (uC (.int 0))) (c6 (di dZ (c5 3) (uC (.int 0))) dc))) (uC (.int 0))))
 (dM (jq (c6 (uC (.str "odd")) (c6 (di dZ (c5 4) (uC (.int 0))) (c6 (iB ff (c6 (uL (d5 (pT (di dZ (c5 4) (uC (.int 1)))) [none,some 2] (gC 0) nE (di dZ (di dZ (c5 1) (uC (.int 1))) (c5 0)))) dc)) dc))))))))))
noncomputable def iD:UF:=ib 5 1 (λ_=>jZ)
noncomputable def iE:US:=(de (fP (dB (dh fR (c6 (dq 0) (c6 (uC (.str "halves")) (c6 (dq 1) dc))))) (dM (di lR (dh mO (c6 (dq 0) (c6 (di dZ (c5 1) (uC (.int 1))) dc))) (uC (.int 0)))) eU)
 (de (fP (nB (iS (dB (dh gf (c6 (dq 1) (c6 (uC (.int 3)) dc))))) (nB (dB (di uQ (di dZ (c5 1) (uC (.int 0))) (uC (.str "odd")))) (iS (dB (dh kP (c6 (dq 0) (c6 (B8 (c5 1) (B7 (uC (.int 1))) B6) dc))))))) (dM (uC (.bool false))) eU)
 (dM (f9 (di lR (di yu (iB eM (c6 (di dZ (c5 1) (uC (.int 2))) dc)) (uC (.int 2))) (uC (.int 1))) (iB Dt (c6 (uL (d5 (pT (di dZ (c5 1) (uC (.int 2)))) [none,some 0] (gC 0) nE (di AF (di dZ (di dZ (di dZ (c5 1) (uC (.int 1))) (c5 0)) (uC (.int 2))) (uC (.int 0))))) dc))))))
noncomputable def fH:UF:=ib 2 2 (λ_=>iE)
noncomputable def mf:US:=(dM (di dZ (uL (c6 (uC (.int 0)) (c6 (uC (.int 1)) (c6 (uC (.int 2)) (c6 (uC (.int 3)) (c6 (di lL (uC (.int 1)) (dh iU (c6 (uC (.int 9)) dc))) (c6 (dh iU (c6 (uC (.int 100)) dc)) dc))))))) (dh iU (c6 (uC (.int 6)) dc))))
noncomputable def jQ:UF:=iT 1 1 (λ_=>mf)
noncomputable def qa:US:=(de (dQ 3 (di lL (uC (.int 1)) (dh iU (c6 (dq 1) dc))))
 (de (sQ 4 dc)
 (de (oW (T6 (di AD (dh iU (c6 (di lL (c5 2) (uC (.int 1))) dc)) (iB intD (c6 (di AF (c5 3) (uC (.int 1))) dc)))) (gC 5)
 (de (dQ 6 (dh iU (c6 (dq 3) dc)))
 (de (dQ 7 (di yu (di lL (di lL (c5 6) (uC (.int 1))) (dh iU (c6 (di yt (c5 3) (uC (.int 1))) dc))) (c5 3)))
 (lI 4 gD (c6 (jq (c6 (iB qO (c6 (c5 6) (c6 (c5 7) dc))) (c6 (iB qP (c6 (c5 6) (c6 (c5 7) dc))) (c6 (dh jQ dc) dc)))) dc)))))
 (dM (jq (c6 (dq 3) (c6 (iB ff (c6 (c5 4) dc)) dc)))))))
noncomputable def jh:UF:=iT 8 3 (λ_=>qa)
noncomputable def qb:US:=(de (dQ 2 (uL (d5 (Gg (di dZ (c5 1) (uC (.int 0)))) [none,some 0] (gC 0) (dB (di lR (dh iU (c6 (uC (.int 2)) dc)) (uC (.int 0)))) (dq 0))))
 (de (dQ 3 (uL (d5 (pT (di dZ (c5 1) (uC (.int 1)))) [none,some 2] (gC 0) (nB (dB (di lR (di dZ (c5 0) (uC (.int 2))) (uC (.int 0)))) (dB (di uQ (di inD (di dZ (c5 0) (uC (.int 0))) (c5 1)) (di inD (di dZ (c5 0) (uC (.int 1))) (c5 1))))) (dq 0))))
 (dM (jq (c6 (di dZ (c5 1) (uC (.int 0))) (c6 (iB ff (c6 (c5 3) dc)) dc))))))
noncomputable def mR:UF:=iT 4 2 (λ_=>qb)
noncomputable def kS:US:=(dM (di lR (uL (d5 (pT (di dZ (c5 0) (uC (.int 1)))) [none,some 1] (gC 0) (F1 (dB (di AF (di dZ (c5 0) (uC (.int 2))) (uC (.int 0)))) (dB (di lR (di inD (di dZ (c5 0) (uC (.int 0))) (c5 1)) (di inD (di dZ (c5 0) (uC (.int 1))) (c5 1))))) (dq 0))) (uL dc)))
noncomputable def fD:UF:=ib 2 2 (λ_=>kS)
noncomputable def kT:US:=(de (fP (nB (iS (dB (mZ "tuple" (c5 2)))) (nB (dB (di lR (di yu (iB eM (c6 (c5 2) dc)) (uC (.int 2))) (uC (.int 0)))) (dB (di uQ (oY (c5 2)) (iB eM (c6 (c5 2) dc)))))) (dM (uC (.bool false))) eU)
 (de (dQ 3 (dq 1))
 (de (oW (Dq 2) (gC 4)
 (de (dQ 5 (di dZ (di dZ (c5 0) (uC (.int 1))) (c5 4)))
 (de (fP (nB (dB (di ri (c5 3) (B8 (c5 5) B6 (B7 (uC (.int 2)))))) (dB (di lR (di dZ (c5 5) (uC (.int 2))) (uC (.int 0))))) (dM (uC (.bool false))) eU)
 (dQ 3 (di yt (di lL (di dZ (c5 5) (uC (.int 0))) (di dZ (c5 5) (uC (.int 1)))) (c5 3))))))
 (dM (di lR (c5 3) (c5 1))))))
noncomputable def g6:UF:=ib 6 3 (λ_=>kT)
noncomputable def mh:US:=(de (dQ 1 (dh iD (c6 (dq 0) dc)))
 (de (dQ 2 (uL (d5 (Gg (di F5 (uC (.int 1)) (di dZ (c5 0) (uC (.int 0))))) [none,some 0] (gC 0) nE (uL (d5 (Gg (di dZ (c5 1) (uC (.int 0)))) [none,some 0] (gC 0) (dB (di lR (di Gy (di AE (c5 1) (c5 0)) (uC (.int 1))) (uC (.int 1)))) (dq 0))))))
 (de (fP (nB (iS (dB (mZ "tuple" (c5 1)))) (dB (di vR (dh fH (c6 (dq 0) (c6 (dq 1) dc))) (uC (.bool true))))) (dM (uC (.bool false))) eU)
 (de (fP (dB (di inD (uC (.bool true)) (uL (d5 (pT (c5 2)) [none,some 0] (gC 0) nE (dh fD (c6 (dq 1) (c6 (dq 0) dc))))))) (de (fP (nB (dB (di uQ (di dZ (c5 1) (uC (.int 0))) (uC (.str "halves")))) (nB (dB (di uQ (iB eM (c6 (c5 1) dc)) (uC (.int 2)))) (iS (dB (mZ "tuple" (di dZ (c5 1) (uC (.int 1)))))))) (dM (uC (.bool false))) eU)
 (dM (f9 (di inD (uL (vN (di dZ (c5 1) (uC (.int 1))))) (c5 2)) (dh fD (c6 (dq 0) (c6 (di dZ (c5 1) (uC (.int 1))) dc)))))) eU)
 (dM (f9 (di lR (di dZ (c5 1) (uC (.int 0))) (uC (.str "odd"))) (f9 (di lR (iB eM (c6 (c5 1) dc)) (uC (.int 3))) (dh g6 (c6 (dq 0) (c6 (di dZ (c5 1) (uC (.int 1))) (c6 (di dZ (c5 1) (uC (.int 2))) dc)))))))))))
noncomputable def jR:UF:=ib 3 1 (λ_=>mh)
def za:US:=(de (sQ 2 (c6 (dh jh (c6 (uC (.int 9)) (c6 (uC (.int 16)) dc))) (c6 (dh jh (c6 (uC (.int 4)) (c6 (uC (.int 9)) dc))) dc)))
 (de (lI 2 gD (c6 (dh mR (c6 (dh jh (c6 (uC (.int 7)) (c6 (uC (.int 16)) dc))) dc)) dc))
 (de (oW (Nr (di lL (c5 2) (B8 (c5 2) B6 (B7 (uC (.int 1)))))) (gC 3)
 (de (dQ 4 (vO (dq 3)))
 (fP (nB (iS (dB (dh jR (c6 (dq 3) dc)))) (dB (di GD (vO (dq 3)) (c5 4)))) (dM (uC (.bool false))) eU)))
 (dM (uC (.bool true))))))
def top (i:Nat):Stmt:=PySem.Challenge.pw_oddjoins_k85_halves_told.main.body.getD i (.Pass ⟨0,0,0,0⟩)
structure j9 (mg:Str->Option af):Prop where
 all:mg "all" = none
 bool:mg "bool" = none
 enumerate:mg "enumerate" = none
 int:mg "int" = none
 isinstance:mg "isinstance" = none
 len:mg "len" = none
 list:mg "list" = none
 max:mg "max" = none
 min:mg "min" = none
 range:mg "range" = none
 repr:mg "repr" = none
 set:mg "set" = none
 sorted:mg "sorted" = none
 sum:mg "sum" = none
 tuple:mg "tuple" = none
abbrev N0:List Str:=["thing"]
abbrev N1:List Str:=["thing", "count"]
abbrev N2:List Str:=["thing", "ahead", "number"]
abbrev N3:List Str:=["thing", "bound"]
abbrev N4:List Str:=["numbers"]
abbrev N7:List Str:=["web", "thing"]
abbrev N8:List Str:=["one", "other"]
abbrev N9:List Str:=["web"]
abbrev Oy:List Str:=["number", "web"]
abbrev We:List Str:=["web", "some"]
abbrev UH:List Str:=["number", "tie", "side"]
abbrev Sk:List Str:=["web", "side"]
abbrev Wf:List Str:=["least", "leasts"]
abbrev UK:List Str:=["web", "leasts", "tie", "low", "high"]
abbrev Wg:List Str:=["least", "low", "high"]
abbrev UL:List Str:=["own", "place", "least"]
abbrev Wh:List Str:=["leasts", "least"]
abbrev Yk:List Str:=["tie", "place"]
abbrev Yl:List Str:=["web", "place", "thing"]
abbrev Ym:List Str:=["web", "start", "row", "places", "index", "thing"]
abbrev Wi:List Str:=["web", "thing", "places"]
abbrev Wj:List Str:=["number", "ring"]
abbrev Wk:List Str:=["web", "even", "rings", "left", "ring"]
abbrev Wl:List Str:=["number", "row", "web", "places"]
abbrev Wm:List Str:=["web", "left", "places", "row", "step", "begin"]
abbrev Yn:List Str:=["web", "ways", "part", "grown", "number", "tie", "near"]
abbrev Sl:List Str:=["even"]
abbrev UM:List Str:=["web", "ways", "evens"]
abbrev UN:List Str:=["number", "tie", "ways"]
abbrev UP:List Str:=["place", "ways", "some"]
abbrev Wn:List Str:=["tie", "some"]
abbrev Wo:List Str:=["web", "some", "ways"]
abbrev Yo:List Str:=["web", "word", "thing"]
abbrev UQ:List Str:=["web", "some", "numbers"]
abbrev Wq:List Str:=["number", "some"]
abbrev Wr:List Str:=["number", "left"]
abbrev Sm:List Str:=["web", "noughts", "left", "odd", "ring"]
abbrev UR:List Str:=["number", "tie"]
abbrev Yp:List Str:=["_law_feed_here"]
abbrev Yq:List Str:=["_law_feed_here", "_law_places", "_law_most", "_law_many", "_law_ties", "_law_k", "_law_one", "_law_other"]
abbrev Sn:List Str:=["_law_tie", "_law_side"]
abbrev UU:List Str:=["_law_feed_here", "_law_web_here", "_law_side", "_law_ties"]
abbrev Ws:List Str:=["_law_place", "_law_feed_here"]
abbrev Wt:List Str:=["_law_web_here", "_law_side"]
abbrev Yr:List Str:=["_law_web_here", "_law_start", "_law_row", "_law_here", "_law_number", "_law_tie"]
abbrev Wu:List Str:=["_law_side", "_law_web_here"]
abbrev UW:List Str:=["_law_web_here", "_law_found", "_law_sides"]
abbrev UY:List Str:=["_law_number", "_law_web_here"]
abbrev Wv:List Str:=["_law_place", "_law_number"]
abbrev Ys:List Str:=["_law_script", "_law_feed_here", "_law_webs", "_law_web_here", "_law_kept"]
section
variable (P:aV)(w:World)(K:W.Frag)(mg:Str->Option af)(base:Heap)(cl:Str->Addr)(Y:yJ)
abbrev kU:Prop:=dF P w K mg base 1 "is_whole" ["thing"] (ko (XC cl) ir)
abbrev gB:Prop:=dF P w K mg base 1 "is_tuple_of" ["thing", "count"] (ko (XC cl) gf)
abbrev mi:Prop:=dF P w K mg base 2 "is_rising" ["thing"] (ko (XC cl) jO)
abbrev gi:Prop:=dF P w K mg base 3 "is_rising_below" ["thing", "bound"] (ko (XC cl) fC)
abbrev kW:Prop:=dF P w K mg base 1 "are_unlike" ["numbers"] (ko (XC cl) jb)
abbrev tp:Prop:=dF P w K mg base 1 "odd_ones" ["row"] (ko (XC cl) iq)
abbrev qc:Prop:=dF P w K mg base 4 "is_side" ["web", "thing"] (ko (XC cl) mN)
abbrev tq:Prop:=dF P w K mg base 4 "is_set" ["web", "thing"] (ko (XC cl) pb)
abbrev iW:Prop:=dF P w K mg base 5 "is_tie_number" ["web", "thing"] (ko (XC cl) gE)
abbrev kX:Prop:=dF P w K mg base 2 "by_turns" ["one", "other"] (ko (XC cl) gK)
abbrev kY:Prop:=dF P w K mg base 1 "all_ties" ["web"] (ko (XC cl) ju)
abbrev kZ:Prop:=dF P w K mg base 1 "price_of" ["web", "some"] (ko (XC cl) jv)
abbrev tu:Prop:=dF P w K mg base 1 "cut_of" ["web", "side"] (ko (XC cl) pd)
abbrev nQ:Prop:=dF P w K mg base 2 "parts_of" ["web"] (ko (XC cl) kO)
abbrev mj:Prop:=dF P w K mg base 1 "places_of" ["leasts", "least"] (ko (XC cl) iL)
abbrev iN:Prop:=dF P w K mg base 1 "other_end" ["tie", "place"] (ko (XC cl) fW)
abbrev mS:Prop:=dF P w K mg base 6 "is_step" ["web", "place", "thing"] (ko (XC cl) jg)
abbrev iX:Prop:=FI P w K mg base 7 "places_walked" ["web", "start", "row"] (ko (XC cl) fz)
abbrev jy:Prop:=dF P w K mg base 8 "places_round" ["web", "thing"] (ko (XC cl) gY)
abbrev nR:Prop:=dF P w K mg base 9 "is_round" ["web", "thing"] (ko (XC cl) kP)
abbrev mn:Prop:=dF P w K mg base 2 "weight_of" ["web", "side"] (ko (XC cl) jP)
abbrev qd:Prop:=dF P w K mg base 3 "lack_of" ["web", "side"] (ko (XC cl) mO)
abbrev nS:Prop:=dF P w K mg base 8 "rings_of" ["web", "even"] (ko (XC cl) kQ)
abbrev j2:Prop:=dF P w K mg base 7 "ring_within" ["web", "left"] (ko (XC cl) iC)
abbrev jS:Prop:=dF P w K mg base 3 "ways_home" ["web"] (ko (XC cl) iM)
abbrev k8:Prop:=dF P w K mg base 3 "base_rings" ["web", "ways"] (ko (XC cl) jc)
abbrev qf:Prop:=dF P w K mg base 4 "side_by" ["web", "some"] (ko (XC cl) mP)
abbrev jz:Prop:=dF P w K mg base 5 "is_side_kind" ["web", "word", "thing"] (ko (XC cl) fR)
abbrev qg:Prop:=dF P w K mg base 1 "rest_of" ["web", "some"] (ko (XC cl) mQ)
abbrev j3:Prop:=dF P w K mg base 9 "halves_told" ["web"] (ko (XC cl) iD)
abbrev j4:Prop:=dF P w K mg base 10 "lets_halves" ["web", "thing"] (ko (XC cl) fH)
abbrev k9:Prop:=dF P w K mg base 1 "_law_draw" ["_law_feed_here", "_law_many"] (yL Y iU)
abbrev mq:Prop:=dF P w K mg base 2 "_law_price" ["_law_feed_here"] (yL Y jQ)
abbrev qh:Prop:=dF P w K mg base 3 "_law_web" ["_law_feed_here", "_law_places", "_law_most"] (yL Y jh)
abbrev qj:Prop:=dF P w K mg base 2 "_law_two" ["_law_feed_here", "_law_web_here"] (yL Y mR)
abbrev lg:Prop:=dF P w K mg base 1 "_law_leaves" ["_law_web_here", "_law_side"] (ko (XC cl) fD)
abbrev lh:Prop:=dF P w K mg base 1 "_law_is_odd" ["_law_web_here", "_law_start", "_law_row"] (ko (XC cl) g6)
abbrev mr:Prop:=dF P w K mg base 11 "_law_right" ["_law_web_here"] (ko (XC cl) jR)
end
end Odj
namespace L2
open PySem PySem.Spec PyProof.Rows
theorem i8.f {H:Hp}{a:Addr}{kvs:List (Key × V)}{k:Str}{v:V}(e:H a=Option.some (.dK kvs))(h:gR kvs (.inr k)=some v):i8 H a (.str k) (some v):=.inl ⟨kvs,.inr k,.inl e,rfl,h.symm⟩
theorem Ext.NJ {S:List Addr}{H:Hp}{p:Addr}{o:HO}{kvs:List (Key × V)}(hp:p∈S)(h:H p=Option.some (.dK kvs)):Ext S H (d0 H p o) :=
 ⟨λb u hb e=>by rw[du (λ(z:b=p)=>hb (by rw[z];exact hp))];exact e,λb xs e=>by rw[du (λz=>by rw[z,h] at e;cases e)];exact e⟩
theorem Ext.Rj {S:List Addr}{H0 H:Hp}{p:Addr}{o:HO}{kvs:List (Key × V)}(a:Ext S H0 H)(h0:H0 p=none)(h:H p=Option.some (.dK kvs)):Ext S H0 (d0 H p o) :=
 ⟨λb u hb e=>by rw[du (λz=>by rw[z,h0] at e;cases e)];exact a.keep b u hb e,λb ys e=>by rw[du (λz=>by rw[z,h0] at e;cases e)];exact a.tup b ys e⟩
theorem gp.new {K:W.Frag}{H:Hp}{a p:Addr}{xs:List V}{o:HO}(h:gp K H a xs)(hp:H p=none):gp K (d0 H p o) a xs:=by
 rcases h with h | h
 .refine .inl ?_
  rcases h with h | ⟨u,h⟩
  .exact .inl (by rw[du (dN h hp)];exact h)
  .exact .inr ⟨u,by rw[du (dN h hp)];exact h⟩
 .exact .inr h
def UZ (K:W.Frag):R2:=λx y H Q=>∃(a b:Addr) (ns:List Int),x=.ref a/\y=.ref b/\gp K H a (ns.map V.int)/\H b=some (.lst [])/\ad.canLayAll0 (ns.map ad.int)=true/\(ad.list (ns.map ad.int)).depth<=60/\Q (.bl (ad.eqv (.list (ns.map .int)) (.list []))) H
theorem NN {X:Cx}{k:Nat}(K:W.Frag)(hr:fu k X.A)(hk:X.K=K:=by rfl):jF X (compareOp .Eq) (UZ K):=by
 subst hk;intro pins s σ H x y v u Q I rx ry h;obtain⟨a,b,ns,rfl,rfl,ha,hb,c1,d1,q⟩:=h;cases rx;obtain⟨its,rv,⟨o,n,e,hc,_,hd⟩,_⟩:=I.list ha;obtain⟨as,ra⟩:=dm.reads (S:=[]) I.hok c1 (.ints ns) rv;obtain⟨bs,rb⟩:=dP.reads (S:=[]) I.hok (d:=.list []) rfl (dP.lst hb (!4) .nil) ry;have CT:=hr.units;exact SeqAt.compareEq_reads (.list e hc hd (by simpa using ra)) rb c1 rfl (!1) ⟨.bl _,H,I,rfl,q⟩
end L2
namespace Odj
open PySem L2
theorem zb (ns:List Int):ad.canLayAll0 (ns.map ad.int)=true:=by
 induction ns with
 | nil=>rfl
 | cons n ns ih=>simpa [ad.canLayAll0,ad.canLay0] using ih
theorem A1 (ns:List Int):ad.depthAll (ns.map ad.int)=0:=by
 induction ns with
 | nil=>rfl
 | cons n ns ih=>simpa [ad.depthAll,ad.depth] using ih
def gg (sa:Addr)(i c n:Int):List (Key × V):=[(.inr "cells",.ref sa),(.inr "at",.int i),(.inr "left",.int c),(.inr "turn",.int n)]
section
variable {H:Hp}{fa sa:Addr}{i c n m:Int}
theorem GX (e:H fa=some (.dK (gg sa i c n))):i8 H fa (.str "cells") (some (.ref sa)):=.f e rfl
theorem Cm (e:H fa=some (.dK (gg sa i c n))):i8 H fa (.str "at") (some (.int i)):=.f e rfl
theorem rN (e:H fa=some (.dK (gg sa i c n))):i8 H fa (.str "left") (some (.int c)):=.f e rfl
theorem Cn (e:H fa=some (.dK (gg sa i c n))):i8 H fa (.str "turn") (some (.int n)):=.f e rfl
theorem Rk (e:H fa=some (.dK (gg sa i c n))):oH H fa (.str "at") (.int m) (d0 H fa (.dK (gg sa m c n))):=.inl ⟨_,.inr "at",e,rfl,by show 4<au;decide,rfl⟩
theorem Co (e:H fa=some (.dK (gg sa i c n))):oH H fa (.str "left") (.int m) (d0 H fa (.dK (gg sa i m n))):=.inl ⟨_,.inr "left",e,rfl,by show 4<au;decide,rfl⟩
theorem JQ (e:H fa=some (.dK (gg sa i c n))):oH H fa (.str "turn") (.int m) (d0 H fa (.dK (gg sa i c m))):=.inl ⟨_,.inr "turn",e,rfl,by show 4<au;decide,rfl⟩
end
structure ip (H:Hp) (fa sa:Addr) (n:Int):Prop where
 ex:∃(k:Int) (ns:List Int) (i c:Int),H fa=some (.dK (gg sa i c n))/\H sa=some (.lst ((k::ns).map V.int))/\0<=i
 ne:sa≠fa
 lo:0<=n
theorem ip.ext {S:List Addr}{H H':Hp}{fa sa:Addr}{n:Int}(f:ip H fa sa n)(x:Ext S H H')(h1:fa ∉ S)(h2:sa ∉ S):ip H' fa sa n:=by
 obtain⟨k,ns,i,c,e1,e2,e3⟩:=f.ex;exact⟨⟨k,ns,i,c,x.keep _ _ h1 e1,x.keep _ _ h2 e2,e3⟩,f.ne,f.lo⟩
theorem ip.put {H:Hp}{fa sa:Addr}{n:Int}(f:ip H fa sa n)(i c n':Int)(h:0<=n')(h0:0<=i):ip (d0 H fa (.dK (gg sa i c n'))) fa sa n'/\Ext [fa] H (d0 H fa (.dK (gg sa i c n'))):=by
 obtain⟨k,ns,i0,c0,e1,e2,_⟩:=f.ex;exact⟨⟨⟨k,ns,i,c,dg,by rw[du f.ne];exact e2,h0⟩,f.ne,h⟩,.NJ (!4) e1⟩
def A2:yJ where
 ip:=ip
 ext:=λf x h1 h2=>f.ext x h1 h2
 fa:=λf=>let ⟨_,_,_,_,e,_⟩:=f.ex;by rw[e];simp
 sa:=λf=>let ⟨_,_,_,_,_,e,_⟩:=f.ex;by rw[e];simp
 nx:=λf φ=>let ⟨_,_,_,_,e,_⟩:=f.ex;by rw[e];simp
abbrev NO (K:W.Frag):Sp:=rM A2 K
abbrev NP:Sp:=Cc A2
theorem Cp (k:Int)(ns:List Int){i:Int}(h0:0<=i)(h1:i<(((k::ns).map V.int).length:Nat)):∃z:Int,lQ ((k::ns).map V.int) i=some (V.int z):=by
 obtain⟨v,hv,Nt⟩:=MN (xs:=(k::ns).map V.int) h0 h1;rw[az] at Nt
 cases e:(k::ns)[i.toNat]? with
 | none=>rw[e] at Nt;cases Nt
 | some z=>rw[e] at Nt;exact⟨z,by rw[hv];exact congrArg some (Option.some.inj Nt).symm⟩
section
variable {P:aV}{w:World}{K:W.Frag}{mg:Str->Option af}{base:Heap}{f:Addr}{fd:bt}
theorem NQ (F:uD K "_law_feed" "_law_feed" (top 45) f fd)(hm:mg "_law_feed" = some (.ref f))(B:j9 mg):dF P w K mg base 1 "_law_feed" ["_law_script"] (NO K):=by
 refine⟨f,fd,?_,hm,F.kp,F.binds λ_ _ _ _ _ _ us hl=>by obtain⟨_,rfl⟩:=Dx hl;rfl⟩;have sc:eO ["_law_script"] ["_law_script"] (c8 (top 45)):=Ov;refine F.MY sc (λvs H Q E h=>?_) (λd8 A outer s H vs Q E hr h=>?_)
 .obtain⟨a,ns,rfl,_⟩:=h
  rfl
 .obtain⟨a,ns,rfl,Yt,q⟩:=h
  refine⟨_,(iA (nv (Jr (BW fM (gw E3 (fk (KC K) (by rfl) B.list (!3) (gI (xT (VT K) (qv 0) BK (BL fG)) d7)) (gw E4 (Ad (gI fG d7)) (fk pM (by rfl) B.int (!3) (gI (wF (NN K hr) (qv 0) (Ad d7) (kE _)) d7)))) (BW fM fG (BW fM fG (BW fM fG Jq)))) rfl rfl rfl (!2)))),?_⟩;intro fa Gp;have hs:gp K (d0 H fa (.dK [])) a (ns.map V.int):=Yt.new Gp;have y0:Ext [] H (d0 H fa (.dK [])):=.new Gp;have Ww:(d0 H fa (.dK [])) fa=some (.dK []):=dg;generalize d0 H fa (.dK [])=H0 at hs y0 Ww ⊢;refine⟨_,rfl,63,rfl,a,_,rfl,hs,λp hp=>⟨p,_,rfl,.inl (gp.of dg),λl hl=>⟨by show 1<=au;decide,λp1 Rl=>⟨_,rfl,bU _,λp2 KQ=>⟨a,p2,ns,rfl,rfl,(((hs.new hp).new hl).new Rl).new KQ,dg,zb ns,by simp[ad.depth,A1],.inr ⟨_,rfl,?_⟩⟩⟩⟩⟩⟩
  obtain⟨cs,Og,Jd,Yu⟩:∃cs:List Int,oo (ns.map V.int) none (some 63)=cs.map V.int/\cs.length<=63/\(cs=[]->ns=[]):=by
   refine⟨(ns.drop (HT.gj (ns.map V.int).length 0 none)).take (HT.gj (ns.map V.int).length (ns.map V.int).length (some 63) - HT.gj (ns.map V.int).length 0 none),?_,?_,?_⟩
   .unfold oo
    rw[List.map_take,cD]
   .rw[HT.oj,show (63:Int)=((63:Nat):Int) from rfl,HT.rH]
    simp only[bH];omega
   .rw[HT.oj,show (63:Int)=((63:Nat):Int) from rfl,HT.rH]
    cases ns with
    | nil=>intro _;rfl
    | cons z zs=>intro h;simp at h
  rw[Og] at hl Rl KQ ⊢;have y1:Ext [] H0 (d0 H0 p (.lst (cs.map V.int))):=.new hp;generalize d0 H0 p (.lst (cs.map V.int))=Ha at y1 hl Rl KQ ⊢;have Wx:Ext [] Ha (d0 Ha l (.lst (cs.map V.int))):=.new hl;have ep:(d0 Ha l (.lst (cs.map V.int))) l=some (.lst (cs.map V.int)):=dg;generalize d0 Ha l (.lst (cs.map V.int))=H1 at Wx ep Rl KQ ⊢;have y2:Ext [] H1 (d0 H1 p1 (.lst [.int 0])):=.new Rl;have Ol:(d0 H1 p1 (.lst [.int 0])) p1=some (.lst [.int 0]):=dg;generalize d0 H1 p1 (.lst [.int 0])=H2 at y2 Ol KQ ⊢;have y3:Ext [] H2 (d0 H2 p2 (.lst [])):=.new KQ;generalize d0 H2 p2 (.lst [])=H3 at y3 ⊢;have z1:=y3.keep _ _ (!4) Ol;have z0:=y3.keep _ _ (!4) (y2.keep _ _ (!4) ep);have Yv:=((y1.trans Wx).trans y2).trans y3;generalize hb:ad.eqv (.list (ns.map .int)) (.list [])=b;have Qe:ns=[]->b=true:=λz=>by rw[<- hb,z];rfl
  refine⟨p1,_,_,rfl,rfl,z1,by cases b<;>decide,by cases b<;>decide,by cases b<;>decide,λp3 Yw=>?_⟩;have y4:Ext [] H3 (d0 H3 p3 (.lst (List.replicate (if b=true then (1:Int) else 0).toNat [V.int 0]).flatten)):=.new Yw;have z3:(d0 H3 p3 (.lst (List.replicate (if b=true then (1:Int) else 0).toNat [V.int 0]).flatten)) p3=some (.lst (List.replicate (if b=true then (1:Int) else 0).toNat [V.int 0]).flatten):=dg;generalize d0 H3 p3 (.lst (List.replicate (if b=true then (1:Int) else 0).toNat [V.int 0]).flatten)=H4 at y4 z3 ⊢;have Z2:au=16777216:=by decide
  refine⟨l,p3,_,_,rfl,rfl,y4.keep _ _ (!4) z0,z3,by rw[wA,ai];cases b<;>simp<;>omega,λp4 Wy=>?_⟩
  obtain⟨k,ks,hk⟩:∃(k:Int) (ks:List Int),cs.map V.int++(List.replicate (if b=true then (1:Int) else 0).toNat [V.int 0]).flatten=(k::ks).map V.int:=by
   cases cs with
   | nil=>rw[Qe (Yu rfl)];exact⟨0,[],rfl⟩
   | cons z zs =>
    cases b with
    | true=>exact⟨z,zs++[0],!4⟩
    | false=>exact⟨z,zs,!4⟩
  rw[hk];have y5:Ext [] H4 (d0 H4 p4 (.lst ((k::ks).map V.int))):=.new Wy;have z4:(d0 H4 p4 (.lst ((k::ks).map V.int))) p4=some (.lst ((k::ks).map V.int)):=dg;have Wz:=Yv.trans y4;have U0:H p4=none:=(y0.trans Wz).fresh (!4) Wy;generalize d0 H4 p4 (.lst ((k::ks).map V.int))=H5 at y5 z4 ⊢;have WA:=Wz.trans y5;have NR:=WA.keep _ _ (!4) Ww;have gQ:p4≠fa:=λz=>by rw[z,NR] at z4;cases z4
  refine⟨NR,gg p4 0 0 0,rfl,by show 4<=15;decide,?_⟩;have x:Ext [] H (d0 H5 fa (.dK (gg p4 0 0 0))):=(y0.trans WA).Rj Gp NR;exact q fa p4 _ ⟨⟨k,ks,0,0,dg,by rw[du gQ];exact z4,!2⟩,gQ,!2⟩ x Gp U0
theorem NS (F:uD K "_law_draw" "_law_draw" (top 46) f fd)(hm:mg "_law_draw" = some (.ref f))(B:j9 mg):dF P w K mg base 1 "_law_draw" ["_law_feed_here", "_law_many"] NP:=by
 refine⟨f,fd,?_,hm,F.kp,F.binds λ_ _ _ _ _ _ us hl=>by obtain⟨_,_,rfl⟩:=GH hl;rfl⟩;have sc:eO ["_law_feed_here", "_law_many", "_law_cells", "_law_found", "_law_turn", "_law_cell", "_law_mixed"] ["_law_feed_here", "_law_many"] (c8 (top 46)):=Ov;refine F.MY sc (λvs H Q E h=>?_) (λd8 A outer s H vs Q E hr h=>?_)
 .obtain⟨fa,sa,n,many,rfl,_⟩:=h
  rfl
 .obtain⟨fa,sa,n,many,rfl,fe,m0,m1,nm,q⟩:=h
  have hu:=cu (Nat.add_le_add_left (by decide:1<=64) _) hr.units
  refine⟨_,(fb (kH hu (qv 0) fM (gw se (fY hu (qv 0) fM (λ_ _=>rfl)) fG))
   (fb (iP (i:=2) sc.nd rfl (Or.inl rfl) (fY hu (qv 0) fM (λ_ _=>rfl)))
   (IQ (Dc PassesOwn.never (QW.pt (Fi (rJ O' (fY hu (qv 0) fM (λ_ _=>rfl)) fG (kE _)) (BI (rJ Ko (fY hu (qv 0) fM (λ_ _=>rfl)) (gU (MZ K) (by rfl) B.len (!3) (gI (qv 2) d7)) (kE _))))) (fb (kH hu (qv 0) fM (gw pL (BJ (R4 K) (qv 2) (fY hu (qv 0) fM (λ_ _=>rfl)) (λ_ _=>rfl)) (fk pM (by rfl) B.int (!3) (gI (wF Pc (BJ (R4 K) (qv 2) (fY hu (qv 0) fM (λ_ _=>rfl)) (λ_ _=>rfl)) (gw Md fG fG) (kE _)) d7))))
   (iA (kH hu (qv 0) fM (gw se (fY hu (qv 0) fM (λ_ _=>rfl)) fG)))))
   (fb (Kz (rJ Kp (fY hu (qv 0) fM (λ_ _=>rfl)) fG (kE _)) (fb (iP (i:=3) sc.nd rfl (Or.inl rfl) (gw nq (fY hu (qv 0) fM (λ_ _=>rfl)) (qv 1)))
   (fb (kH hu (qv 0) fM (gw wq (fY hu (qv 0) fM (λ_ _=>rfl)) (qv 1)))
   (iA (nv (qv 3))))) BM)
   (fb (iP (i:=4) sc.nd rfl (Or.inl rfl) (fY hu (qv 0) fM (λ_ _=>rfl)))
   (fb (iP (i:=5) sc.nd rfl (Or.inl rfl) (gw nq (BJ (R4 K) (qv 2) (gw nq (qv 4) (gU (MZ K) (by rfl) B.len (!3) (gI (qv 2) d7))) (λ_ _=>rfl)) fG))
   (fb (iP (i:=6) sc.nd rfl (Or.inl rfl) (gw nq (gw pL (gw se (qv 5) (gw pL fG (qv 4))) fG) fG))
   (fb (iP (i:=6) sc.nd rfl (Or.inl rfl) (gw nq (gw pL (gw se (gw wq (qv 6) fG) (gw pL fG (qv 4))) fG) fG))
   (iA (nv (gw nq (gw wq (qv 6) fG) (qv 1)))))))))))),?_⟩
  obtain⟨k,ns,i,c,e1,e2,i0⟩:=fe.ex;have n0:=fe.lo;obtain⟨f1,x1⟩:=fe.put i c (n+1) (!1) i0;refine⟨_,rfl,fa,_,rfl,Cn e1,n,1,rfl,rfl,_,rfl,fa,_,rfl,JQ e1,?_⟩;refine⟨_,rfl,fa,_,rfl,GX dg,?_⟩;have Oh:(d0 H fa (.dK (gg sa i c (n+1)))) sa=some (.lst ((k::ns).map V.int)):=by rw[du fe.ne];exact e2
  refine⟨λσ' H'=>σ'=[some (.ref fa),some (.int many),some (.ref sa),none,none,none,none]/\∃i c,0<=i/\H' fa=some (.dK (gg sa i c (n+1)))/\H' sa=some (.lst ((k::ns).map V.int))/\ip H' fa sa (n+1)/\Ext [fa] H H',?_,?_⟩
  .refine Jg (λσ' H'=>σ'=[some (.ref fa),some (.int many),some (.ref sa),none,none,none,none]/\∃i c,0<=i/\H' fa=some (.dK (gg sa i c (n+1)))/\H' sa=some (.lst ((k::ns).map V.int))/\ip H' fa sa (n+1)/\Ext [fa] H H') (λσ' H'=>match H' fa with | some (.dK [_,(_,.int i),_,_])=>((ns.length:Int)+1 - i).toNat | _=>0) ⟨rfl,i,c,i0,dg,Oh,f1,x1⟩ ?_
   rintro σ' H' ⟨rfl,i,c,i0,g1,g2,f2,x2⟩;refine⟨_,rfl,fa,_,rfl,rN g1,rfl,_,rfl,MI (λhc=>?_) (λhc=>MH ⟨rfl,i,c,i0,g1,g2,f2,x2⟩)⟩;refine⟨_,rfl,fa,_,rfl,Cm g1,_,rfl,sa,_,rfl,.inl (gp.of g2),_,_,rfl,rfl,_,rfl,MI (λhd=>?_) (λhd=>⟨rfl,i,c,i0,g1,g2,f2,x2⟩)⟩;have Es:i<(((k::ns).map V.int).length:Nat):=of_decide_eq_true hd;obtain⟨z,hz⟩:=Cp k ns i0 Es;refine⟨_,rfl,_,rfl,fa,_,rfl,Cm g1,sa,_,_,_,rfl,rfl,gp.of g2,hz,_,rfl,_,rfl,fa,_,rfl,Cm g1,sa,_,_,_,rfl,rfl,gp.of g2,hz,10,18,rfl,rfl,⟨!2,!2,!2⟩,_,_,rfl,rfl,.inr ⟨_,rfl,?_⟩⟩;generalize hb:decide ((10:Int) ^ (18:Int).toNat<=z)=b;refine⟨z,_,rfl,rfl,.inr (by cases b<;>exact⟨!2,!2⟩),_,rfl,fa,_,rfl,Co g1,?_⟩;refine⟨_,rfl,fa,_,rfl,Cm dg,i,1,rfl,rfl,_,rfl,fa,_,rfl,Rk dg,?_⟩;obtain⟨f3,x3⟩:=f2.put i (z * if b=true then 1 else 0) (n+1) (!1) i0;obtain⟨f4,x4⟩:=f3.put (i+1) (z * if b=true then 1 else 0) (n+1) (!1) (!1);refine⟨⟨rfl,i+1,_,!1,dg,by rw[du fe.ne,du fe.ne];exact g2,f4,(x2.trans x3).trans x4⟩,?_⟩;rw[dg,g1];simp only[ai,aj] at Es;show ((ns.length:Int)+1 - (i+1)).toNat<((ns.length:Int)+1 - i).toNat;omega
  .rintro σ' H' ⟨rfl,i,c,i0,g1,g2,f2,x2⟩
   refine⟨_,rfl,fa,_,rfl,rN g1,c,0,rfl,rfl,_,rfl,MI (λhc=>?_) (λhc=>?_)⟩
   .refine⟨_,rfl,fa,_,rfl,rN g1,_,rfl,c,many,rfl,rfl,m0,?_⟩
    refine⟨_,rfl,fa,_,rfl,rN g1,_,rfl,c,many,rfl,rfl,⟨m0,m1⟩,_,rfl,fa,_,rfl,Co g1,?_⟩;obtain⟨f3,x3⟩:=f2.put i (c / many) (n+1) (!1) i0;exact⟨_,rfl,q _ _ (cY _ (!1)) (cJ _ m0) f3 (x2.trans x3)⟩
   .have hl:(0:Int)<(((k::ns).map V.int).length:Nat):=by simp
    obtain⟨z,hz⟩:=Cp k ns (cY (n+1) (!1)) (cJ (n+1) hl);refine⟨_,rfl,fa,_,rfl,Cn g1,?_⟩;refine⟨_,rfl,_,rfl,_,rfl,sa,_,rfl,.inl (gp.of g2),_,_,rfl,rfl,hl,sa,_,_,_,rfl,rfl,gp.of g2,hz,_,_,rfl,rfl,(by show (0:Int)<2147483629;decide),?_⟩;refine⟨_,rfl,_,rfl,_,_,rfl,rfl,.inl ⟨!2,!2⟩,_,_,rfl,rfl,_,_,rfl,rfl,.inr ⟨!2,!2⟩,_,_,rfl,rfl,(by show (0:Int)<2147483647;decide),?_⟩;refine⟨_,rfl,_,_,rfl,rfl,⟨!2,!2⟩,_,rfl,_,_,rfl,rfl,.inl ⟨!2,!2⟩,_,_,rfl,rfl,_,_,rfl,rfl,.inr ⟨!2,!2⟩,_,_,rfl,rfl,(by show (0:Int)<2147483587;decide),?_⟩;exact⟨_,rfl,_,_,rfl,rfl,⟨!2,!2⟩,_,rfl,_,_,rfl,rfl,m0,q _ _ (cY _ (!1)) (cJ _ m0) f2 x2⟩
end
end Odj
namespace L2
open PySem
theorem Ext.put {S:List Addr}{H0 H:Hp}{p:Addr}{o:HO}(a:Ext S H0 H)(h0:H0 p=none):Ext S H0 (d0 H p o) :=
 ⟨λb u hb e=>by rw[du (λz=>by rw[z,h0] at e;cases e)];exact a.keep b u hb e,λb ys e=>by rw[du (λz=>by rw[z,h0] at e;cases e)];exact a.tup b ys e⟩
end L2
namespace Odj
open PySem L2
def fJ (o:ux):List (Key × V):=o.map λp=>((Sum.inl p.1:Key),V.bl p.2)
theorem vV (o:ux)(k:Int):gR (fJ o) (Sum.inl k)=((o.find? λp=>decide (p.1=k)).map (·.2)).map V.bl:=by
 induction o with
 | nil=>rfl
 | cons p o ih =>
  have e:fJ (p::o)=((Sum.inl p.1:Key),V.bl p.2)::fJ o:=rfl;by_cases h:p.1=k
  .rw[e,fN (by rw[h]),bG]
   simp[h]
  .rw[e,fO (λz=>h (Sum.inl.inj z)),ih,bG]
   simp[h]
theorem pf (o:ux)(k:Int):(gR (fJ o) (Sum.inl k)).getD (.bl false)=.bl (gA o k):=by
 rw[vV];unfold gA;cases (o.find? λp=>decide (p.1=k))<;>rfl
theorem Cq {o:ux}(h:(eL o).Nodup){i:Nat}{p:Int × Bool}(hp:o[i]? = some p):gR (fJ o) (Sum.inl p.1)=some (.bl p.2):=by
 have e:=GW h hp;rw[vV];unfold gA at e
 cases hf:(o.find? λq=>decide (q.1=p.1)) with
 | none =>
  have:=List.find?_eq_none.mp hf p (bB hp);simp at this
 | some q =>
  rw[hf] at e;have e':q.2=p.2:=e;simp[e']
theorem tw (o:ux)(k:Int):jo (fJ o) (Sum.inl k) (.bl (!gA o k))=fJ (fB o k):=by
 have ha:((fJ o).any λkv=>decide (kv.1=Sum.inl k))=o.any λp=>decide (p.1=k):=by
  unfold fJ;rw[List.any_map];congr 1;funext p;show decide ((Sum.inl p.1:Key)=Sum.inl k)=decide (p.1=k);by_cases h:p.1=k
  .simp[h]
  .have:¬ (Sum.inl p.1:Key)=Sum.inl k:=λz=>h (Sum.inl.inj z)
   simp[h]
 unfold jo fB;rw[ha];split
 .unfold fJ
  rw[bf,bf];apply ca;intro p _;simp only[Function.comp];by_cases h:p.1=k
  .simp[h]
  .have:¬ (Sum.inl p.1:Key)=Sum.inl k:=λz=>h (Sum.inl.inj z)
   simp[h]
 .unfold fJ
  rw[aU];rfl
theorem ph (o:ux):(fJ o).length=o.length:=by unfold fJ;rw[ai]
theorem vW (row:List Int)(k:Int):dG (row++[k])=fB (dG row) k:=by
 unfold dG;rw[List.foldl_append];rfl
def JR (row ns:List Int):Prop:=ns.Perm (jM (dG row))/\ns.Pairwise (·<=·)
theorem A3 (o:ux)(k j:Int):gA (fB o k) j=if j=k then !gA o k else gA o j:=by
 have e:=pf (fB o k) j;rw[<- tw,Fn] at e;by_cases h:j=k
 .subst h
  rw[if_pos rfl] at e;rw[if_pos rfl];exact (V.bl.inj e).symm
 .rw[if_neg (λz=>h (Sum.inl.inj z)),pf] at e
  rw[if_neg h];exact (V.bl.inj e).symm
theorem tD (k:Int):∀(row:List Int) (o:ux),gA (row.foldl fB o) k=(gA o k != decide (row.count k % 2=1))
 | [],o=>by simp
 | x::row,o=>by
  rw[cF,tD k row,A3,cr];by_cases h:k=x
  .subst h
   rw[if_pos rfl];have h2:=Nat.mod_two_eq_zero_or_one (row.count k);rcases h2 with z | z
   .have e1:(row.count k+if (k == k)=true then 1 else 0) % 2=1:=by simp;omega
    simp only[e1,z];cases gA o k<;>rfl
   .have e1:(row.count k+if (k == k)=true then 1 else 0) % 2=0:=by simp;omega
    simp only[e1,z];cases gA o k<;>rfl
  .rw[if_neg h]
   have e1:(x == k)=false:=by
    rw[beq_eq_false_iff_ne];exact λz=>h z.symm
   simp[e1]
theorem qU (row:List Int)(k:Int):gA (dG row) k=decide (row.count k % 2=1):=by
 unfold dG;rw[tD];have:gA [] k=false:=rfl;rw[this];cases decide (row.count k % 2=1)<;>rfl
theorem tE:∀(row:List Int) (o:ux),(eL o).Nodup->(eL (row.foldl fB o)).Nodup
 | [],o,h=>h
 | x::row,o,h=>tE row _ (AY h)
theorem lj (row:List Int):(eL (dG row)).Nodup:=tE row [] (by simp[eL])
theorem tF:∀(row:List Int) (o:ux),(row.foldl fB o).length<=o.length+row.length
 | [],o=>by simp
 | x::row,o=>by
  rw[cF,aj];have:=tF row (fB o x);have:=GU o x;omega
theorem nU (row:List Int):(dG row).length<=row.length:=by
 have:=tF row [];unfold dG;simpa using this
theorem JS {o:ux}{k:Int}(h:gA o k=true):k∈eL o:=by
 unfold gA at h
 cases hf:(o.find? λp=>decide (p.1=k)) with
 | none=>rw[hf] at h;cases h
 | some p=>exact bb.mpr ⟨p,List.mem_of_find?_eq_some hf,by simpa using List.find?_some hf⟩
theorem GY {o:ux}(hn:(eL o).Nodup):jM o=(eL o).filter (gA o):=by
 unfold jM eL;rw[List.filter_map];congr 1;apply List.filter_congr;intro p hp;obtain⟨i,hi⟩:=List.getElem?_of_mem hp;exact (GW hn hi).symm
theorem rO {row ns:List Int}(h:JR row ns):A0 row ns/\ns.length<=row.length:=by
 have hn:=lj row;have ht:=GY hn;have Cr:ns.Nodup:=h.1.symm.nodup (by rw[ht];exact hn.filter _);refine⟨⟨?_,λk=>?_⟩,?_⟩
 .have:=h.2.and Cr
  exact this.imp λz=>by
   have h1:=z.1;have h2:=z.2;omega
 .rw[h.1.mem_iff,ht,aE,qU]
  constructor
  .intro z;exact of_decide_eq_true z.2
  .intro z
   exact⟨JS (by rw[qU];exact decide_eq_true z),decide_eq_true z⟩
 .rw[h.1.length_eq]
  unfold jM;rw[ai];exact aT (bQ _ _) (nU row)
def DB:Sp:=λvs H Q _=>∃(a:Addr) (row:List Int),vs=[.ref a]/\(H a=some (.lst (row.map V.int))\/H a=some (.tup (row.map V.int)))/\(dG row).length<=60/\row.length<=100000 /\
 ∀(ns:List Int) (p:Addr) (H':Hp),A0 row ns->ns.length<=row.length->H' p=some (.tup (ns.map V.int))->Ext [] H H'->Q (.ref p) H'
section
variable {P:aV}{w:World}{K:W.Frag}{mg:Str->Option af}{base:Heap}{f:Addr}{fd:bt}
theorem zc (F:uD K "odd_ones" "odd_ones" (top 9) f fd)(hm:mg "odd_ones" = some (.ref f))(B:j9 mg):dF P w K mg base 1 "odd_ones" ["row"] DB:=by
 refine⟨f,fd,?_,hm,F.kp,F.binds λ_ _ _ _ _ _ us hl=>by obtain⟨_,rfl⟩:=Dx hl;rfl⟩;have sc:eO ["row", "odd", "number"] ["row"] (c8 (top 9)):=⟨rfl,rfl,rfl,!3,rfl,!3,!3⟩;refine F.MY sc (λvs H Q E h=>?_) (λd8 A outer s H vs Q E hr h=>?_)
 .obtain⟨a,row,rfl,_⟩:=h
  rfl
 .obtain⟨a,row,rfl,ha,hb,So,q⟩:=h
  have hsz:au=16777216:=by decide
  have hu:=PD hr;rcases ha with ha | ha
  .skip
   refine⟨_,(fb (iP (i:=1) sc.nd rfl (Or.inr rfl) sy)
   (fb (Af PassesOwn.never rfl (Fm K (qv 0)) (oE (i:=2) sc.nd rfl (Or.inl rfl)) (iA (kH hu (qv 1) (qv 2) (Ac (xY hu (qv 1) (qv 2) Fh ⟨rfl,rfl,rfl,rfl⟩)))))
   (iA (nv (fk (Ag K) (by rfl) B.tuple (!3) (gI (gU (oJ K) (by rfl) B.sorted (!3) (gI (wG (N:=["number", "odd"]) (mp:=[none,some 1]) rfl (BN (qv 1)) rfl (by show gH ["row", "odd", "number"] (c8 (top 9)) _ _ _=true;decide +kernel) λ_ _ _ _ _=>⟨(oE (i:=0) (by show List.Nodup [("number" : Str),("odd" : Str)];decide +kernel) rfl (Or.inl rfl)),(Ae (Ab (fY hu (qv 1) (qv 0) (λ_ _=>rfl)))),(qv 0)⟩) d7)) d7)))))),?_⟩
   intro d hd;have Ql:a≠d:=dN ha hd
   refine⟨_,rfl,a,rfl,⟨_,gp.of (by rw[du Ql];exact ha)⟩,EO (xs:=row.map V.int) (λi σ' H'=>(∃y,σ'=[some (.ref a),some (.ref d),y])/\H' d=some (.dK (fJ (dG (row.take i))))/\Ext [] H H')
    ⟨⟨none,rfl⟩,dg,.new hd⟩ (λi σ' H' _ h=>gp.of (h.2.2.keep _ _ (!4) ha)) ?_ ?_⟩
   .rintro i x σ' H' hx ⟨⟨y,rfl⟩,hD,x1⟩
    rw[az] at hx
    cases hk:row[i]? with
    | none=>rw[hk] at hx;cases hx
    | some k =>
     rw[hk] at hx;cases hx;have ol:=nU (row.take i);rw[bH] at ol;refine⟨_,rfl,d,rfl,.inl ⟨_,.inl hD⟩,_,rfl,_,i8.k (k:=Sum.inl k) hD,_,pf _ _,_,rfl,_,rfl,d,_,rfl,oH.k (k:=Sum.inl k) hD (by rw[ph];omega),⟨_,rfl⟩,?_,x1.put hd⟩;rw[dg,tw,cw,hk];show _=some (HO.dK (fJ (dG (row.take i++[k]))));rw[vW]
   .rintro σ' H' ⟨⟨y,rfl⟩,hD,x1⟩
    rw[bN (by rw[ai];exact al _)] at hD;have ol:(dG row).length<=60/\(eL (dG row)).Nodup:=⟨hb,lj row⟩
    refine⟨_,rfl,d,_,rfl,hD,λo=>vx (λi ys σ' H2=>(∃y,σ'=[y,some (.ref d)])/\H2=d0 H' d (.rV o (.dK (fJ (dG row))))/\ys=(((dG row).take i).filter (·.2)).map λp=>V.int p.1) ⟨⟨none,rfl⟩,rfl,rfl⟩
     (λi ys σ' H2 h=>by rw[h.2.1];exact dg) ?_ ?_⟩
    .rintro i k v ys σ' H2 DC ⟨⟨y,rfl⟩,rfl,rfl⟩
     unfold fJ at DC;rw[az] at DC
     cases hp:(dG row)[i]? with
     | none=>rw[hp] at DC;cases DC
     | some p =>
      rw[hp] at DC;cases DC
      have hl:((((dG row).take i).filter (·.2)).map λp=>V.int p.1).length<au:=by
       rw[ai];have:=bQ (·.2) ((dG row).take i);rw[bH] at this;omega
      refine⟨hl,_,rfl,_,rfl,d,.bl p.2,rfl,.inl ⟨_,Sum.inl p.1,.inr ⟨o,dg⟩,rfl,(Cq ol.2 hp).symm⟩,_,rfl,?_⟩;have et:(dG row).take (i+1)=(dG row).take i++[p]:=by rw[cw,hp];rfl
      cases GZ:p.2 with
      | true=>exact PF ⟨_,rfl,⟨_,rfl⟩,rfl,by rw[et,bZ,aU];simp[cP,GZ];rfl⟩
      | false=>exact MH ⟨⟨_,rfl⟩,rfl,by rw[et,bZ,aU];simp[cP,GZ]⟩
    .rintro ys σ' H2 ⟨⟨y,rfl⟩,rfl,rfl⟩
     rw[bN (by rw[ph];exact al _)];have e:((dG row).filter (·.2)).map (λp=>V.int p.1)=(jM (dG row)).map V.int:=by unfold jM;rw[bf];rfl
     rw[e]
     have hl:(jM (dG row)).length<=60:=by
      unfold jM;rw[ai];have:=bQ (·.2) (dG row);omega
     refine⟨by rw[ai];omega,λD U1=>⟨D,jM (dG row),rfl,gp.of dg,!1,λl ms p1 p2 Pu=>⟨l,_,rfl,.inl ⟨gp.of dg,λt ht=>q ms t _ (rO ⟨p1,p2⟩).1 (rO ⟨p1,p2⟩).2 dg ?_⟩⟩⟩⟩;exact (((x1.put hd).trans (.new U1)).trans (.new Pu)).trans (.new ht)
  .skip
   refine⟨_,(fb (iP (i:=1) sc.nd rfl (Or.inr rfl) sy)
   (fb (Af PassesOwn.never rfl (IV K (qv 0)) (oE (i:=2) sc.nd rfl (Or.inl rfl)) (iA (kH hu (qv 1) (qv 2) (Ac (xY hu (qv 1) (qv 2) Fh ⟨rfl,rfl,rfl,rfl⟩)))))
   (iA (nv (fk (Ag K) (by rfl) B.tuple (!3) (gI (gU (oJ K) (by rfl) B.sorted (!3) (gI (wG (N:=["number", "odd"]) (mp:=[none,some 1]) rfl (BN (qv 1)) rfl (by show gH ["row", "odd", "number"] (c8 (top 9)) _ _ _=true;decide +kernel) λ_ _ _ _ _=>⟨(oE (i:=0) (by show List.Nodup [("number" : Str),("odd" : Str)];decide +kernel) rfl (Or.inl rfl)),(Ae (Ab (fY hu (qv 1) (qv 0) (λ_ _=>rfl)))),(qv 0)⟩) d7)) d7)))))),?_⟩
   intro d hd;have Ql:a≠d:=dN ha hd
   refine⟨_,rfl,a,rfl,⟨_,iz.of (by rw[du Ql];exact ha)⟩,Ie (K:=K) (a:=a) (xs:=row.map V.int) (λi σ' H'=>(∃y,σ'=[some (.ref a),some (.ref d),y])/\H' d=some (.dK (fJ (dG (row.take i))))/\Ext [] H H')
    ⟨⟨none,rfl⟩,dg,.new hd⟩ (λi σ' H' _ h=>iz.of (h.2.2.tup _ _ ha)) ?_ ?_⟩
   .rintro i x σ' H' hx ⟨⟨y,rfl⟩,hD,x1⟩
    rw[az] at hx
    cases hk:row[i]? with
    | none=>rw[hk] at hx;cases hx
    | some k =>
     rw[hk] at hx;cases hx;have ol:=nU (row.take i);rw[bH] at ol;refine⟨_,rfl,d,rfl,.inl ⟨_,.inl hD⟩,_,rfl,_,i8.k (k:=Sum.inl k) hD,_,pf _ _,_,rfl,_,rfl,d,_,rfl,oH.k (k:=Sum.inl k) hD (by rw[ph];omega),⟨_,rfl⟩,?_,x1.put hd⟩;rw[dg,tw,cw,hk];show _=some (HO.dK (fJ (dG (row.take i++[k]))));rw[vW]
   .rintro σ' H' ⟨⟨y,rfl⟩,hD,x1⟩
    rw[bN (by rw[ai];exact al _)] at hD;have ol:(dG row).length<=60/\(eL (dG row)).Nodup:=⟨hb,lj row⟩
    refine⟨_,rfl,d,_,rfl,hD,λo=>vx (λi ys σ' H2=>(∃y,σ'=[y,some (.ref d)])/\H2=d0 H' d (.rV o (.dK (fJ (dG row))))/\ys=(((dG row).take i).filter (·.2)).map λp=>V.int p.1) ⟨⟨none,rfl⟩,rfl,rfl⟩
     (λi ys σ' H2 h=>by rw[h.2.1];exact dg) ?_ ?_⟩
    .rintro i k v ys σ' H2 DC ⟨⟨y,rfl⟩,rfl,rfl⟩
     unfold fJ at DC;rw[az] at DC
     cases hp:(dG row)[i]? with
     | none=>rw[hp] at DC;cases DC
     | some p =>
      rw[hp] at DC;cases DC
      have hl:((((dG row).take i).filter (·.2)).map λp=>V.int p.1).length<au:=by
       rw[ai];have:=bQ (·.2) ((dG row).take i);rw[bH] at this;omega
      refine⟨hl,_,rfl,_,rfl,d,.bl p.2,rfl,.inl ⟨_,Sum.inl p.1,.inr ⟨o,dg⟩,rfl,(Cq ol.2 hp).symm⟩,_,rfl,?_⟩;have et:(dG row).take (i+1)=(dG row).take i++[p]:=by rw[cw,hp];rfl
      cases GZ:p.2 with
      | true=>exact PF ⟨_,rfl,⟨_,rfl⟩,rfl,by rw[et,bZ,aU];simp[cP,GZ];rfl⟩
      | false=>exact MH ⟨⟨_,rfl⟩,rfl,by rw[et,bZ,aU];simp[cP,GZ]⟩
    .rintro ys σ' H2 ⟨⟨y,rfl⟩,rfl,rfl⟩
     rw[bN (by rw[ph];exact al _)];have e:((dG row).filter (·.2)).map (λp=>V.int p.1)=(jM (dG row)).map V.int:=by unfold jM;rw[bf];rfl
     rw[e]
     have hl:(jM (dG row)).length<=60:=by
      unfold jM;rw[ai];have:=bQ (·.2) (dG row);omega
     refine⟨by rw[ai];omega,λD U1=>⟨D,jM (dG row),rfl,gp.of dg,!1,λl ms p1 p2 Pu=>⟨l,_,rfl,.inl ⟨gp.of dg,λt ht=>q ms t _ (rO ⟨p1,p2⟩).1 (rO ⟨p1,p2⟩).2 dg ?_⟩⟩⟩⟩;exact (((x1.put hd).trans (.new U1)).trans (.new Pu)).trans (.new ht)
theorem vX:∀(row:List Int) (o:ux) (k:Int),k∈eL (row.foldl fB o)->k∈eL o\/k∈row
 | [],o,k,h=>.inl h
 | x::row,o,k,h=>by
  rcases vX row _ k h with h | h
  .rcases GV h with h | h
   .exact .inr (by rw[h];exact ao ..)
   .exact .inl h
  .exact .inr (am _ h)
theorem DD (row:List Int)(k:Int)(h:k∈eL (dG row)):k∈row:=by
 rcases vX row [] k h with h | h
 .simp[eL] at h
 .exact h
theorem ll {S:List Addr}{H:Hp}:∀ns:List Int,dm S H (ns.map .int) (ns.map V.int)
 | []=>.nil
 | n::ns=>.cons (.int n) (ll ns)
theorem G0 {row ns:List Int}(h:A0 row ns):ns=gJ row:=by
 refine tf h.1 (pW _) λk=>?_;unfold gJ;rw[h.2,js,aE];constructor
 .intro z
  exact⟨cg.mp (!1),decide_eq_true z⟩
 .intro z
  exact of_decide_eq_true z.2
theorem vY (row:List Int):(dG row).length<=(i6 row).length:=by
 have h:=ee (lj row) (ns:=i6 row) λk hk=>gc.mpr ?_
 .unfold eL at h
  rwa [ai] at h
 .exact DD row k hk
theorem A4 (F:uD K "odd_ones" "odd_ones" (top 9) f fd)(hm:mg "odd_ones" = some (.ref f))(B:j9 mg){C:Xc}:dF P w K mg base 1 "odd_ones" ["row"] (ko C iq) :=
 (zc F hm B).imp λvs H Q E ⟨S,ds,n,Qp,Xp,r,has,hF,hq,_⟩=>by
  unfold iq at hF;split at hF
  .rename_i es
   obtain⟨row,e,⟨h1,h2⟩,q⟩:=hF;obtain⟨v,t,rfl,rv,rn⟩:=r.of_cons;cases rn.fw;obtain⟨a,xs,rfl,ha,_,rs⟩:=rv.eG;rw[gb e] at rs;rw[fQ rs] at ha;refine⟨a,row,rfl,.inl ha,aT (vY row) h1,h2,λns p H' ho _ hp x=>hq _ _ H' (.tup hp (ll _)) x ?_⟩;rw[G0 ho];exact q
  .rename_i es
   obtain⟨row,e,⟨h1,h2⟩,q⟩:=hF;obtain⟨v,t,rfl,rv,rn⟩:=r.of_cons;cases rn.fw;obtain⟨a,xs,rfl,ha,rs⟩:=rv.fm;rw[gb e] at rs;rw[fQ rs] at ha;refine⟨a,row,rfl,.inr ha,aT (vY row) h1,h2,λns p H' ho _ hp x=>hq _ _ H' (.tup hp (ll _)) x ?_⟩;rw[G0 ho];exact q
  .exact hF.elim
end
end Odj
namespace Odj
open PySem PySem.Spec L2
section
variable {P:aV}{w:World}{K:W.Frag}{mg:Str->Option af}{base:Heap}{f:Addr}{fd:bt}{cl:Str->Addr}{Y:yJ}
theorem G1 {C J:Addr}(F:uD K "__init__" "NoWalk.__init__" (vI (top 2) 0) f fd)(r:RF K C J f)(j:Nb K J)(m:mg "NoWalk" = some (.ref C))(n0:W.findIn K (.ref C) "number" = some none):mH P w K mg base "NoWalk" C (FN C "number"):=by
 have sc:eO ["self", "number"] ["self", "number"] (c8 (vI (top 2) 0)):=⟨rfl,rfl,rfl,!3,rfl,!3,!3⟩;refine FU r j m (ps:=["self", "number"]) (F.MY (k:=0) sc (λvs H Q E h=>?_) (λd8 A outer s H vs Q E hr h=>?_)) (F.binds λ_ _ _ _ _ _ us hl=>match us,hl with | [_,_],_=>rfl)
 .obtain⟨x,a,rfl,_⟩:=h
  rfl
 .obtain⟨x,a,rfl,hx,q⟩:=h
  exact⟨_,(iA (Jm K C (qv 0) (qv 1))),_,rfl,_,rfl,x,rfl,(r.mk' j).ec,n0,.inl ⟨hx,q⟩⟩
end
section
variable {P:aV}{w:World}{K:W.Frag}{mg:Str->Option af}{base:Heap}{f:Addr}{fd:bt}{cl:Str->Addr}{Y:yJ}
theorem A5 (F:FM K mg "is_whole" (top 4))(B:j9 mg) :
  kU P w K mg base cl :=
 fj nI N0 F λsc f d8 A outer s H E n0 S has hr hu =>
 (dj (dS (lG (qR B.isinstance B.int (dD 0)) (k_one (k_not (qR B.isinstance B.bool (dD 0)))))))
theorem uS (F:FM K mg "is_tuple_of" (top 5))(B:j9 mg) :
  gB P w K mg base cl :=
 fj jX N1 F λsc f d8 A outer s H E n0 S has hr hu =>
 (dj (dS (lG (qR B.isinstance B.tuple (dD 0)) (k_one (gk (ja hu) (KE.loose (jH i5 B.len (eB (dD 0) dH))) (dD 1))))))
theorem zd (F:FM K mg "is_rising" (top 6))(B:j9 mg)(iu:kU P w K mg base cl) :
  mi P w K mg base cl :=
 fj l7 N2 F λsc f d8 A outer s H E n0 S has hr hu =>
 (dC (nC (lF (jr (qR B.isinstance B.tuple (dD 0)))) (dj (dS nA)) fZ)
 (dC (ic 1 sc.nd (lH c9))
 (dC (qQ PassesOwn.never rfl (K9 0) (lO 2 sc.nd)
 (dC (nC (KW.kb (w_or (lF (jr (dE iu (RM hr) (dv (fU 2) df)))) (oP (eX T1 (dD 2) (dD 1))))) (dj (dS nA)) fZ)
 (dj (ic 1 sc.nd (fU 2)))))
 (dj (dS nA)))))
theorem pj (F:FM K mg "is_rising_below" (top 7))(B:j9 mg)(mw:mi P w K mg base cl) :
  gi P w K mg base cl :=
 fj gX N3 F λsc f d8 A outer s H E n0 S has hr hu =>
 (dj (dS (lG (dE mw (RM hr) (dv (fU 0) df)) (k_one (TY (gk (ja hu) (KE.loose (jH i5 B.len (eB (dD 0) dH))) (KE.loose c9)) (k_one (gk TZ (KE.loose (dA (dD 0) (KE.loose (lH c9)))) (dD 1))))))))
theorem xn (F:FM K mg "are_unlike" (top 8))(B:j9 mg) :
  kW P w K mg base cl :=
 fj kN N4 F λsc f d8 A outer s H E n0 S has hr hu =>
 (dj (dS (gk (ja hu) (KE.loose (yS B.len B.set rfl (dD 0))) (KE.loose (jH i5 B.len (eB (dD 0) dH))))))
theorem DE (F:FM K mg "is_side" (top 11))(B:j9 mg)(eZ:gi P w K mg base cl) :
  qc P w K mg base cl :=
 fj pY N7 F λsc f d8 A outer s H E n0 S has hr hu =>
 (dj (dS (dE eZ (RM hr) (dv (fU 1) (dv (dA (dD 0) (KE.loose c9)) df)))))
end
section
variable {P:aV}{w:World}{K:W.Frag}{mg:Str->Option af}{base:Heap}{f:Addr}{fd:bt}{cl:Str->Addr}{Y:yJ}
theorem G2 (F:FM K mg "is_set" (top 12))(B:j9 mg)(eZ:gi P w K mg base cl) :
  tq P w K mg base cl :=
 fj tj N7 F λsc f d8 A outer s H E n0 S has hr hu =>
 (dj (dS (dE eZ (RM hr) (dv (fU 1) (dv (jH i5 B.len (eB (KE.loose (dA (dD 0) (KE.loose c9))) dH)) df)))))
theorem rA (F:FM K mg "is_tie_number" (top 13))(B:j9 mg)(tG:tq P w K mg base cl) :
  iW P w K mg base cl :=
 fj iV N7 F λsc f d8 A outer s H E n0 S has hr hu =>
 (dj (dS (dE tG (RM hr) (dv (fU 0) (dv (kl (dv (fU 1) df)) df)))))
theorem A6 (F:FM K mg "by_turns" (top 14))(B:j9 mg)(nV:tp P w K mg base cl) :
  kX P w K mg base cl :=
 fj nK N8 F λsc f d8 A outer s H E n0 S has hr hu =>
 (dj (dS (dE nV (RM hr) (dv (km qN (dD 0) (dD 1)) df))))
theorem A7 (F:FM K mg "all_ties" (top 15))(B:j9 mg) :
  kY P w K mg base cl :=
 fj nL N9 F λsc f d8 A outer s H E n0 S has hr hu =>
 (dj (dS (Nw B.tuple B.range rfl (jH i5 B.len (eB (KE.loose (dA (dD 0) (KE.loose c9))) dH)))))
theorem A8 (F:FM K mg "price_of" (top 16))(B:j9 mg) :
  kZ P w K mg base cl :=
 fj nM We F λsc f d8 A outer s H E n0 S has hr hu =>
 (dj (dS (jH (NC rfl) B.sum (eB (KE.loose (KN.data (gm [] (N:=Oy) (mp:=[none,some 0]) rfl (jK (dD 1)) rfl (co We (c8 (top 16))) (λ_ _ _ _ _=>⟨(lO 0 (nd Oy)),kK,(dA (KE.loose (dA (KE.loose (dA (dD 1) (KE.loose c9))) (dD 0))) (KE.loose c9))⟩) (hfd:=uu)))) dH))))
theorem G3 (F:FM K mg "cut_of" (top 17))(B:j9 mg) :
  tu P w K mg base cl :=
 fj tm Sk F λsc f d8 A outer s H E n0 S has hr hu =>
 (dj (dS (rj gV B.tuple (eB (KE.loose (KN.data (gm [] (N:=UH) (mp:=[none,none,some 1]) rfl (wW B.enumerate (KE.loose (dA (dD 0) (KE.loose c9)))) rfl (co Sk (c8 (top 17))) (λ_ _ _ _ _=>⟨(Ou (n':=2) rfl (ro (lO 0 (nd UH)) (ro (lO 1 (nd UH)) pS)) (Ow [0,1]) rfl),(gW (eX (yz hu) (KE.loose (gk (uR hu) (KE.loose (dA (dD 1) (KE.loose c9))) (dD 2))) (KE.loose (gk (uR hu) (KE.loose (dA (dD 1) (KE.loose c9))) (dD 2))))),(fU 0)⟩) (hfd:=uu)))) dH))))
end
section
variable {P:aV}{w:World}{K:W.Frag}{mg:Str->Option af}{base:Heap}{f:Addr}{fd:bt}{cl:Str->Addr}{Y:yJ}
theorem A9 (F:FM K mg "parts_of" (top 18))(B:j9 mg)(mx:mj P w K mg base cl) :
  nQ P w K mg base cl :=
 fj nN UK F λsc f d8 A outer s H E n0 S has hr hu =>
 (dC (ic 1 sc.nd (KN.data (JD B.list B.range rfl (dA (dD 0) (KE.loose c9)))) (Or.inr rfl))
 (dC (qQ PassesOwn.never rfl (Gj (dA (dD 0) (KE.loose c9))) (lO 2 sc.nd)
 (dC (ic 3 sc.nd (jH (F' rfl) B.min (eB (KE.loose (dA (dD 1) (KE.loose (dA (dD 2) (KE.loose c9))))) (eB (KE.loose (dA (dD 1) (KE.loose (dA (dD 2) (KE.loose c9))))) dH))) (Or.inr rfl))
 (dC (ic 4 sc.nd (jH (Ga rfl) B.max (eB (KE.loose (dA (dD 1) (KE.loose (dA (dD 2) (KE.loose c9))))) (eB (KE.loose (dA (dD 1) (KE.loose (dA (dD 2) (KE.loose c9))))) dH))) (Or.inr rfl))
 (dj (ic 1 sc.nd (KN.data (gm [] (N:=Wg) (mp:=[none,some 3,some 4]) rfl (jK (dD 1)) rfl (co UK (c8 (top 18))) (λ_ _ _ _ _=>⟨(lO 0 (nd Wg)),kK,(Ju (eX (ja hu) (dD 0) (dD 2)) (fU 1) (fU 0))⟩) (hfd:=uu))) (Or.inr rfl))))))
 (dj (dS (rj gV B.tuple (eB (KE.loose (KN.data (gm [] (N:=Wf) (mp:=[none,some 1]) rfl (jK (KE.loose (KN.data (JE B.sorted B.set rfl (dD 1))))) rfl (co UK (c8 (top 18))) (λ_ _ _ _ _=>⟨(lO 0 (nd Wf)),kK,(dE mx (RM hr) (dv (fU 1) (dv (fU 0) df)))⟩) (hfd:=uu)))) dH))))))
theorem ze (F:FM K mg "places_of" (top 19))(B:j9 mg) :
  mj P w K mg base cl :=
 fj l8 Wh F λsc f d8 A outer s H E n0 S has hr hu =>
 (dj (dS (rj gV B.tuple (eB (KE.loose (KN.data (gm [] (N:=UL) (mp:=[none,none,some 1]) rfl (wW B.enumerate (dD 0)) rfl (co Wh (c8 (top 19))) (λ_ _ _ _ _=>⟨(Ou (n':=2) rfl (ro (lO 1 (nd UL)) (ro (lO 0 (nd UL)) pS)) (Ow [1,0]) rfl),(gW (eX (ja hu) (dD 0) (dD 2))),(fU 1)⟩) (hfd:=uu)))) dH))))
theorem zf (F:FM K mg "other_end" (top 21))(B:j9 mg) :
  iN P w K mg base cl :=
 fj l9 Yk F λsc f d8 A outer s H E n0 S has hr hu =>
 (dj (dS (Ju (eX (ja hu) (KE.loose (dA (dD 0) (KE.loose c9))) (dD 1)) (dA (dD 0) (KE.loose c9)) (dA (dD 0) (KE.loose c9)))))
theorem DF (F:FM K mg "is_step" (top 22))(B:j9 mg)(iY:iW P w K mg base cl) :
  mS P w K mg base cl :=
 fj pZ Yl F λsc f d8 A outer s H E n0 S has hr hu =>
 (dj (dS (lG (dE iY (RM hr) (dv (fU 0) (dv (fU 2) df))) (k_one (gk (uR hu) (dD 1) (KE.loose (Dp (KE.loose (dA (KE.loose (dA (dD 0) (KE.loose c9))) (dD 2))) mI (mJ c9))))))))
theorem rB (F:FM K mg "places_walked" (top 23))(B:j9 mg)(fE:iN P w K mg base cl)(ji:mS P w K mg base cl)(pk:mH P w K mg base "NoWalk" (cl "NoWalk") (FN (cl "NoWalk") "number")) :
  iX P w K mg base cl :=
 Rf gF Ym F λsc f d8 A outer s H E n0 S has Ex hx hr hu Oq =>
 (dC (nC (lF (jr (qR B.isinstance B.tuple (dD 2)))) (dj (yM E Ex (XC cl) pk (show FL "NoWalk" = (["number"]:List Str) by decide +kernel) (RM hr) Oq rfl hx (dv (lH c9) df))) fZ)
 (dC (Dy 3 sc.nd (l4 (dv (fU 1) df)))
 (dC (qQ PassesOwn.leaving rfl (Gk B.enumerate (fU 2)) (Ou (n':=2) rfl (ro (lO 4 sc.nd) (ro (lO 5 sc.nd) pS)) (Ow [4,5]) rfl)
 (dC (nC (lF (jr (dE ji (RM hr) (dv (fU 0) (dv (dA (dD 3) (KE.loose (lH c9))) (dv (fU 5) df)))))) (dj (yM E Ex (XC cl) pk (show FL "NoWalk" = (["number"]:List Str) by decide +kernel) (RM hr) Oq rfl hx (dv (fU 4) df))) fZ)
 (dj (pV 3 PySem.F.plainAttrs_list PySem.F.slot_list_append PySem.F.type_list_append (kn) (dv (dE fE (RM hr) (dv (dA (KE.loose (dA (dD 0) (KE.loose c9))) (dD 5)) (dv (dA (dD 3) (KE.loose (lH c9))) df))) df)))))
 (dj (Gm 3)))))
theorem tH (F:FM K mg "places_round" (top 24))(B:j9 mg)(iZ:iX P w K mg base cl)(iu:kU P w K mg base cl)(eP:gB P w K mg base cl)(xf:XF K mg (XC cl) HP JP) :
  jy P w K mg base cl :=
 fj jw Wi F λsc f d8 A outer s H E n0 S has hr hu =>
 (dC (nC (KW.kb (w_or (lF (jr (dE eP (RM hr) (dv (fU 1) (dv c9 df))))) (oP (lF (jr (dE iu (RM hr) (dv (dA (dD 1) (KE.loose c9)) df))))))) (dj (dS BZ)) fZ)
 (dC (Ny (i:=2) rfl xf (!3) iZ (RM hr) sc.nd (Or.inl rfl) (λ_=>(dv (fU 0) (dv (dA (dD 1) (KE.loose c9)) (dv (dA (dD 1) (KE.loose c9)) df)))) (λ_=>(dj (dS BZ))) (hfd:=(nf 2 [])))
 (dj (dS (Ju (eX (ja hu) (KE.loose (dA (dD 2) (KE.loose (lH c9)))) (KE.loose (dA (dD 2) (KE.loose c9)))) (fU 2) BZ)))))
end
section
variable {P:aV}{w:World}{K:W.Frag}{mg:Str->Option af}{base:Heap}{f:Addr}{fd:bt}{cl:Str->Addr}{Y:yJ}
theorem Ba (F:FM K mg "is_round" (top 26))(B:j9 mg)(lp:kW P w K mg base cl)(jA:jy P w K mg base cl) :
  nR P w K mg base cl :=
 fj nO Wi F λsc f d8 A outer s H E n0 S has hr hu =>
 (dC (ic 2 sc.nd (dE jA (RM hr) (dv (fU 0) (dv (fU 1) df))))
 (dj (dS (lG (gk QL (dD 2) (KE.loose BZ)) (lG (gk F7 (KE.loose (jH i5 B.len (eB (dD 2) dH))) (KE.loose c9)) (k_one (dE lp (RM hr) (dv (dA (dD 1) (KE.loose c9)) df))))))))
theorem zg (F:FM K mg "weight_of" (top 28))(B:j9 mg)(iw:kZ P w K mg base cl)(tI:tu P w K mg base cl) :
  mn P w K mg base cl :=
 fj ma Sk F λsc f d8 A outer s H E n0 S has hr hu =>
 (dj (dS (dE iw (RM hr) (dv (fU 0) (dv (dE tI (RM hr) (dv (fU 0) (dv (fU 1) df))) df)))))
theorem DG (F:FM K mg "lack_of" (top 29))(B:j9 mg)(iw:kZ P w K mg base cl)(ix:kY P w K mg base cl)(my:mn P w K mg base cl) :
  qd P w K mg base cl :=
 fj p7 Sk F λsc f d8 A outer s H E n0 S has hr hu =>
 (dj (dS (km F6 (KE.loose (dE iw (RM hr) (dv (fU 0) (dv (dE ix (RM hr) (dv (fU 0) df)) df)))) (KE.loose (dE my (RM hr) (dv (fU 0) (dv (fU 1) df)))))))
theorem Bb (F:FM K mg "rings_of" (top 31))(B:j9 mg)(j5:j2 P w K mg base cl) :
  nS P w K mg base cl :=
 fj nP Wk F λsc f d8 A outer s H E n0 S has hr hu =>
 (dC (Dy 2 sc.nd (l4 df))
 (dC (ic 3 sc.nd (KN.data (Gs B.list (dD 1))))
 (dC (wX PassesOwn.never (eX F7 (KE.loose (jH i5 B.len (eB (dD 3) dH))) (KE.loose c9))
 (dC (ic 4 sc.nd (dE j5 (RM hr) (dv (fU 0) (dv (fU 3) df))) (Or.inr rfl))
 (dC (pV 2 PySem.F.plainAttrs_list PySem.F.slot_list_append PySem.F.type_list_append (kn) (dv (fU 4) df))
 (dj (pU (i:=3) false [] sc.nd (N:=Wj) (mp:=[none,some 4]) rfl (jK (dD 3)) rfl (co Wk (c8 (top 31))) (λ_ _ _ _ _=>⟨(lO 0 (nd Wj)),(gW (eX (yB hu) (dD 0) (KE.loose (dA (dD 1) (KE.loose c9))))),(fU 0)⟩) (hfd:=uu) (hfi:=(nf 3 [])))))))
 (dj (dS (rj gV B.tuple (eB (dD 2) dH)))))))
theorem uT (F:FM K mg "ring_within" (top 32))(B:j9 mg)(fE:iN P w K mg base cl)(ji:mS P w K mg base cl) :
  j2 P w K mg base cl :=
 fj jY Wm F λsc f d8 A outer s H E n0 S has hr hu =>
 (dC (Dy 2 sc.nd (l4 (dv (dA (KE.loose (dA (KE.loose (dA (dD 0) (KE.loose c9))) (KE.loose (dA (dD 1) (KE.loose c9))))) (KE.loose c9)) df)) (Or.inr rfl))
 (dC (Dy 3 sc.nd (l4 df) (Or.inr rfl))
 (dC (wX PassesOwn.never (eX (yB hu) (KE.loose (dA (dD 2) (KE.loose (lH c9)))) (KE.loose (Dp (dD 2) mI (mJ (lH c9)))))
 (dC (ic 4 sc.nd (dA (KE.loose (KN.data (gm [] (N:=Wl) (mp:=[none,some 3,some 0,some 2]) rfl (jK (dD 1)) rfl (co Wm (c8 (top 32))) (λ_ _ _ _ _=>⟨(lO 0 (nd Wl)),(gW (KW.kb (w_and (eX (yB hu) (dD 0) (dD 1)) (F3 (jr (dE ji (RM hr) (dv (fU 2) (dv (dA (dD 3) (KE.loose (lH c9))) (dv (fU 0) df))))))))),(fU 0)⟩) (hfd:=uu)))) (KE.loose c9)))
 (dC (pV 3 PySem.F.plainAttrs_list PySem.F.slot_list_append PySem.F.type_list_append (kn) (dv (fU 4) df))
 (dj (pV 2 PySem.F.plainAttrs_list PySem.F.slot_list_append PySem.F.type_list_append (kn) (dv (dE fE (RM hr) (dv (dA (KE.loose (dA (dD 0) (KE.loose c9))) (dD 4)) (dv (dA (dD 2) (KE.loose (lH c9))) df))) df))))))
 (dC (ic 5 sc.nd (JJ (dD 2) (dA (dD 2) (KE.loose (lH c9)))))
 (dj (dS (kl (dv (dA (dD 2) (KE.loose (lH c9))) (dv (rj gV B.tuple (eB (KE.loose (Dp (dD 3) (mJ (fU 5)) mI)) dH)) df)))))))))
theorem zh (F:FM K mg "ways_home" (top 33))(B:j9 mg)(fE:iN P w K mg base cl)(gL:kX P w K mg base cl)(nW:nQ P w K mg base cl) :
  jS P w K mg base cl :=
 fj me Yn F λsc f d8 A outer s H E n0 S has hr hu =>
 (dC (JN (i:=1) sc.nd (Or.inl rfl) (hfd:=(nf 1 [])))
 (dC (qQ PassesOwn.never rfl (Gj (dE nW (RM hr) (dv (fU 0) df))) (lO 2 sc.nd)
 (dj (GP 1 (AG hu) (KE.loose (dA (dD 2) (KE.loose c9))) (kl df))))
 (dC (ic 3 sc.nd nA)
 (dC (wX PassesOwn.never (jr (fU 3))
 (dC (ic 3 sc.nd nA)
 (dj (qQ PassesOwn.never rfl (Gk B.enumerate (dA (dD 0) (KE.loose c9))) (Ou (n':=2) rfl (ro (lO 4 sc.nd) (ro (lO 5 sc.nd) pS)) (Ow [4,5]) rfl)
 (dj (nC (eX (yz hu) (KE.loose (Li 1 (AG hu) (KE.loose (dA (dD 5) (KE.loose c9))))) (KE.loose (Li 1 (AG hu) (KE.loose (dA (dD 5) (KE.loose c9)))))) (dC (ic 6 sc.nd (Ju (Rh 1 (AG hu) (KE.loose (dA (dD 5) (KE.loose c9)))) (dA (dD 5) (KE.loose c9)) (dA (dD 5) (KE.loose c9))))
 (dC (GP 1 (AG hu) (KE.loose (dE fE (RM hr) (dv (fU 5) (dv (fU 6) df)))) (dE gL (RM hr) (dv (NM 1 (AG hu) (dD 6)) (dv (kl (dv (fU 4) df)) df))))
 (dj (ic 3 sc.nd nA)))) fZ))))))
 (dj (Gm 1))))))
end
section
variable {P:aV}{w:World}{K:W.Frag}{mg:Str->Option af}{base:Heap}{f:Addr}{fd:bt}{cl:Str->Addr}{Y:yJ}
theorem xo (F:FM K mg "base_rings" (top 34))(B:j9 mg)(gL:kX P w K mg base cl) :
  k8 P w K mg base cl :=
 fj kR UM F λsc f d8 A outer s H E n0 S has hr hu =>
 (dC (pU (i:=2) false [] sc.nd (N:=UN) (mp:=[none,none,some 1]) rfl (wW B.enumerate (KE.loose (dA (dD 0) (KE.loose c9)))) rfl (co UM (c8 (top 34))) (λ_ _ _ _ _=>⟨(Ou (n':=2) rfl (ro (lO 0 (nd UN)) (ro (lO 1 (nd UN)) pS)) (Ow [0,1]) rfl),kK,(dE gL (RM hr) (dv (kl (dv (fU 0) df)) (dv (dE gL (RM hr) (dv (AX (AG hu) (dD 2) (KE.loose (dA (dD 1) (KE.loose c9)))) (dv (AX (AG hu) (dD 2) (KE.loose (dA (dD 1) (KE.loose c9)))) df))) df)))⟩) (hfd:=uu) (hfi:=(nf 2 [])))
 (dj (dS (KN.data (gm [] (N:=Sl) (mp:=[none]) rfl (jK (dD 2)) rfl (co UM (c8 (top 34))) (λ_ _ _ _ _=>⟨(lO 0 (nd Sl)),(gW (eX (yz hu) (dD 0) (KE.loose (kl df)))),(fU 0)⟩) (hfd:=uu))))))
theorem DH (F:FM K mg "side_by" (top 36))(B:j9 mg)(gO:jS P w K mg base cl) :
  qf P w K mg base cl :=
 fj p8 Wo F λsc f d8 A outer s H E n0 S has hr hu =>
 (dC (ic 2 sc.nd (dE gO (RM hr) (dv (fU 0) df)) (Or.inr rfl))
 (dj (dS (rj gV B.tuple (eB (KE.loose (KN.data (gm [] (N:=UP) (mp:=[none,some 2,some 1]) rfl (oU B.range (dA (dD 0) (KE.loose c9))) rfl (co Wo (c8 (top 36))) (λ_ _ _ _ _=>⟨(lO 0 (nd UP)),(gW (eX (ja hu) (KE.loose (km yy (KE.loose (jH i5 B.len (eB (KE.loose (KN.data (gm [] (N:=Wn) (mp:=[none,some 2]) rfl (jK (KE.loose (AX (AG hu) (dD 1) (dD 0)))) rfl (Lg (co UP _)) (λ_ _ _ _ _=>⟨(lO 0 (nd Wn)),(gW (eX (uR hu) (dD 0) (dD 1))),(fU 0)⟩) (hfd:=uu)))) dH))) (KE.loose c9))) (KE.loose c9))),(fU 0)⟩) (hfd:=uu)))) dH)))))
theorem tJ (F:FM K mg "is_side_kind" (top 38))(B:j9 mg)(qk:qc P w K mg base cl)(eP:gB P w K mg base cl) :
  jz P w K mg base cl :=
 fj gZ Yo F λsc f d8 A outer s H E n0 S has hr hu =>
 (dj (dS (lG (dE eP (RM hr) (dv (fU 2) (dv c9 df))) (lG (gk (ja hu) (KE.loose (dA (dD 2) (KE.loose c9))) (dD 1)) (k_one (dE qk (RM hr) (dv (fU 0) (dv (dA (dD 2) (KE.loose c9)) df))))))))
theorem DI (F:FM K mg "rest_of" (top 40))(B:j9 mg) :
  qg P w K mg base cl :=
 fj p9 UQ F λsc f d8 A outer s H E n0 S has hr hu =>
 (dC (ic 2 sc.nd (rj gV B.tuple (eB (KE.loose (KN.data (gm [] (N:=Wq) (mp:=[none,some 1]) rfl (oU B.range (jH i5 B.len (eB (KE.loose (dA (dD 0) (KE.loose c9))) dH))) rfl (co UQ (c8 (top 40))) (λ_ _ _ _ _=>⟨(lO 0 (nd Wq)),(gW (eX (yB hu) (dD 0) (dD 1))),(fU 0)⟩) (hfd:=uu)))) dH)))
 (dj (dS (kl (dv (kl (dv (dA (dD 0) (KE.loose c9)) (dv (rj gV B.tuple (eB (KE.loose (KN.data (gm [] (N:=Oy) (mp:=[none,some 0]) rfl (jK (dD 2)) rfl (co UQ (c8 (top 40))) (λ_ _ _ _ _=>⟨(lO 0 (nd Oy)),kK,(dA (KE.loose (dA (dD 1) (KE.loose c9))) (dD 0))⟩) (hfd:=uu)))) dH)) df))) (dv (fU 2) df))))))
theorem uU (F:FM K mg "halves_told" (top 42))(B:j9 mg)(nX:nS P w K mg base cl)(ql:qf P w K mg base cl)(ix:kY P w K mg base cl)(lq:k8 P w K mg base cl)(gO:jS P w K mg base cl)(qm:qg P w K mg base cl) :
  j3 P w K mg base cl :=
 fj jZ Sm F λsc f d8 A outer s H E n0 S has hr hu =>
 (dC (pU (i:=1) false [] sc.nd (N:=UR) (mp:=[none,none]) rfl (wW B.enumerate (KE.loose (dA (dD 0) (KE.loose c9)))) rfl (co Sm (c8 (top 42))) (λ_ _ _ _ _=>⟨(Ou (n':=2) rfl (ro (lO 0 (nd UR)) (ro (lO 1 (nd UR)) pS)) (Ow [0,1]) rfl),(gW (eX (ja hu) (KE.loose (dA (dD 1) (KE.loose c9))) (KE.loose c9))),(fU 0)⟩) (hfd:=uu) (hfi:=(nf 1 [])))
 (dC (ic 2 sc.nd (dE qm (RM hr) (dv (fU 0) (dv (fU 1) df))) (Or.inr rfl))
 (dC (pU (i:=3) false [] sc.nd (N:=Sl) (mp:=[none]) rfl (jK (KE.loose (dE lq (RM hr) (dv (dA (dD 2) (KE.loose c9)) (dv (dE gO (RM hr) (dv (dA (dD 2) (KE.loose c9)) df)) df))))) rfl (co Sm (c8 (top 42))) (λ_ _ _ _ _=>⟨(lO 0 (nd Sl)),(gW (eX (ja hu) (KE.loose (km yy (KE.loose (jH i5 B.len (eB (dD 0) dH))) (KE.loose c9))) (KE.loose c9))),(fU 0)⟩) (hfd:=uu) (hfi:=(nf 3 [])))
 (dC (nC (eX (ja hu) (KE.loose (jH i5 B.len (eB (dD 3) dH))) (KE.loose c9)) (dj (dS (kl (dv vJ (dv (dE ql (RM hr) (dv (dA (dD 2) (KE.loose c9)) (dv (dE ix (RM hr) (dv (dA (dD 2) (KE.loose c9)) df)) df))) df))))) fZ)
 (dC (ic 4 sc.nd (dA (KE.loose (dE nX (RM hr) (dv (dA (dD 2) (KE.loose c9)) (dv (dA (dD 3) (KE.loose c9)) df)))) (KE.loose c9)))
 (dj (dS (kl (dv vJ (dv (dA (dD 4) (KE.loose c9)) (dv (rj gV B.tuple (eB (KE.loose (KN.data (gm [] (N:=Wr) (mp:=[none,some 2]) rfl (jK (KE.loose (dA (dD 4) (KE.loose c9)))) rfl (co Sm (c8 (top 42))) (λ_ _ _ _ _=>⟨(lO 0 (nd Wr)),kK,(dA (KE.loose (dA (dD 1) (KE.loose c9))) (dD 0))⟩) (hfd:=uu)))) dH)) df)))))))))))
theorem uV (F:FM K mg "lets_halves" (top 43))(B:j9 mg)(nY:nR P w K mg base cl)(eP:gB P w K mg base cl)(jB:jz P w K mg base cl)(qo:qd P w K mg base cl) :
  j4 P w K mg base cl :=
 fj iE N7 F λsc f d8 A outer s H E n0 S has hr hu =>
 (dC (nC (jr (dE jB (RM hr) (dv (fU 0) (dv vJ (dv (fU 1) df))))) (dj (dS (gk (ja hu) (KE.loose (dE qo (RM hr) (dv (fU 0) (dv (dA (dD 1) (KE.loose c9)) df)))) (KE.loose c9)))) fZ)
 (dC (nC (KW.kb (w_or (lF (jr (dE eP (RM hr) (dv (fU 1) (dv c9 df))))) (w_or (eX (yz hu) (KE.loose (dA (dD 1) (KE.loose c9))) (KE.loose vJ)) (oP (lF (jr (dE nY (RM hr) (dv (fU 0) (dv (Dp (dD 1) (mJ c9) mI) df))))))))) (dj (dS nA)) fZ)
 (dj (dS (lG (gk (ja hu) (KE.loose (km yy (KE.loose (jH i5 B.len (eB (KE.loose (dA (dD 1) (KE.loose c9))) dH))) (KE.loose c9))) (KE.loose c9)) (k_one (jH (Q6 rfl) B.all (eB (KE.loose (KN.data (gm [] (N:=Oy) (mp:=[none,some 0]) rfl (jK (KE.loose (dA (dD 1) (KE.loose c9)))) rfl (co N7 (c8 (top 43))) (λ_ _ _ _ _=>⟨(lO 0 (nd Oy)),kK,(gk F7 (KE.loose (dA (KE.loose (dA (KE.loose (dA (dD 1) (KE.loose c9))) (dD 0))) (KE.loose c9))) (KE.loose c9))⟩) (hfd:=uu)))) dH))))))))
end
section
variable {P:aV}{w:World}{K:W.Frag}{mg:Str->Option af}{base:Heap}{f:Addr}{fd:bt}{cl:Str->Addr}{Y:yJ}
theorem zi (F:FM K mg "_law_price" (top 47))(B:j9 mg)(eh:k9 P w K mg base Y) :
  mq P w K mg base Y :=
 GK (C:=XC λ_=>0) mf Yp F λsc f d8 A outer s H E fa sa n0 S hf hS has hr hu =>
 (dj (dS (dA (KE.loose (KN.data (l4 (dv c9 (dv c9 (dv c9 (dv c9 (dv (km qN (KE.loose c9) (KE.loose (gr 0 eh (RM hr) (dv c9 df) (hfd:=(by decide:0∈[0]))))) (dv (gr 0 eh (RM hr) (dv c9 df) (hfd:=(by decide:0∈[0]))) df))))))))) (KE.loose (gr 0 eh (RM hr) (dv c9 df) (hfd:=(by decide:0∈[0])))))))
theorem DJ (F:FM K mg "_law_web" (top 48))(B:j9 mg)(eh:k9 P w K mg base Y)(mz:mq P w K mg base Y) :
  qh P w K mg base Y :=
 GK (C:=XC λ_=>0) qa Yq F λsc f d8 A outer s H E fa sa n0 S hf hS has hr hu =>
 (dC (ic 3 sc.nd (km qN (KE.loose c9) (KE.loose (gr 0 eh (RM hr) (dv (fU 1) df) (hfd:=(by decide:0∈[0]))))))
 (dC (Dy 4 sc.nd (l4 df))
 (dC (qQ PassesOwn.never rfl (JB B.range (km QN (KE.loose (gr 0 eh (RM hr) (dv (km qN (dD 2) (KE.loose c9)) df) (hfd:=(by decide:0∈[0])))) (KE.loose (rj QQ B.int (eB (KE.loose (gk F7 (dD 3) (KE.loose c9))) dH))))) (lO 5 sc.nd)
 (dC (ic 6 sc.nd (gr 0 eh (RM hr) (dv (fU 3) df) (hfd:=(by decide:0∈[0]))))
 (dC (ic 7 sc.nd (km yy (KE.loose (km qN (KE.loose (km qN (dD 6) (KE.loose c9))) (KE.loose (gr 0 eh (RM hr) (dv (km F6 (dD 3) (KE.loose c9)) df) (hfd:=(by decide:0∈[0])))))) (dD 3)))
 (dj (pV 4 PySem.F.plainAttrs_list PySem.F.slot_list_append PySem.F.type_list_append (kn) (dv (kl (dv (jH (F' rfl) B.min (eB (dD 6) (eB (dD 7) dH))) (dv (jH (Ga rfl) B.max (eB (dD 6) (eB (dD 7) dH))) (dv (gr 0 mz (RM hr) df (hfd:=(by decide:0∈[0]))) df)))) df))))))
 (dj (dS (kl (dv (fU 3) (dv (rj gV B.tuple (eB (dD 4) dH)) df))))))))
theorem DK (F:FM K mg "_law_two" (top 49))(B:j9 mg)(eh:k9 P w K mg base Y) :
  qj P w K mg base Y :=
 GK (C:=XC λ_=>0) qb UU F λsc f d8 A outer s H E fa sa n0 S hf hS has hr hu =>
 (dC (ic 2 sc.nd (KN.data (gm [1] (N:=Ws) (mp:=[none,some 0]) rfl (oU B.range (dA (dD 1) (KE.loose c9))) rfl (co UU (c8 (top 49))) (λ_ _ _ _ _=>⟨(lO 0 (nd Ws)),(gW (eX (ja hu) (KE.loose (gr 1 eh (RM hr) (dv c9 df) (hfd:=(by decide:1∈[1])))) (KE.loose c9))),(fU 0)⟩) (hfd:=(Yb (i:=0) rfl)))) (Or.inr rfl))
 (dC (pU (i:=3) false [] sc.nd (N:=Sn) (mp:=[none,some 2]) rfl (jK (KE.loose (dA (dD 1) (KE.loose c9)))) rfl (co UU (c8 (top 49))) (λ_ _ _ _ _=>⟨(lO 0 (nd Sn)),(gW (KW.kb (w_or (eX (ja hu) (KE.loose (dA (dD 0) (KE.loose c9))) (KE.loose c9)) (oP (eX (yz hu) (KE.loose (gk (uR hu) (KE.loose (dA (dD 0) (KE.loose c9))) (dD 1))) (KE.loose (gk (uR hu) (KE.loose (dA (dD 0) (KE.loose c9))) (dD 1)))))))),(fU 0)⟩) (hfd:=uu) (hfi:=(nf 3 [0])))
 (dj (dS (kl (dv (dA (dD 1) (KE.loose c9)) (dv (rj gV B.tuple (eB (dD 3) dH)) df)))))))
theorem xp (F:FM K mg "_law_leaves" (top 50))(B:j9 mg) :
  lg P w K mg base cl :=
 fj kS Wt F λsc f d8 A outer s H E n0 S has hr hu =>
 (dj (dS (gk (ja hu) (KE.loose (KN.data (gm [] (N:=Sn) (mp:=[none,some 1]) rfl (jK (KE.loose (dA (dD 0) (KE.loose c9)))) rfl (co Wt (c8 (top 50))) (λ_ _ _ _ _=>⟨(lO 0 (nd Sn)),(gW (KW.kb (w_and (eX F7 (KE.loose (dA (dD 0) (KE.loose c9))) (KE.loose c9)) (F3 (eX (ja hu) (KE.loose (gk (uR hu) (KE.loose (dA (dD 0) (KE.loose c9))) (dD 1))) (KE.loose (gk (uR hu) (KE.loose (dA (dD 0) (KE.loose c9))) (dD 1)))))))),(fU 0)⟩) (hfd:=uu)))) (KE.loose (KN.data (l4 df))))))
theorem xq (F:FM K mg "_law_is_odd" (top 51))(B:j9 mg) :
  lh P w K mg base cl :=
 fj kT Yr F λsc f d8 A outer s H E n0 S has hr hu =>
 (dC (nC (KW.kb (w_or (lF (jr (qR B.isinstance B.tuple (dD 2)))) (w_or (eX (ja hu) (KE.loose (km yy (KE.loose (jH i5 B.len (eB (dD 2) dH))) (KE.loose c9))) (KE.loose c9)) (oP (eX (yz hu) (KE.loose (yS B.len B.set rfl (dD 2))) (KE.loose (jH i5 B.len (eB (dD 2) dH)))))))) (dj (dS nA)) fZ)
 (dC (ic 3 sc.nd (fU 1))
 (dC (qQ PassesOwn.never rfl (K9 2) (lO 4 sc.nd)
 (dC (ic 5 sc.nd (dA (KE.loose (dA (dD 0) (KE.loose c9))) (dD 4)))
 (dC (nC (KW.kb (w_or (eX (yB hu) (dD 3) (KE.loose (Dp (dD 5) mI (mJ c9)))) (oP (eX (ja hu) (KE.loose (dA (dD 5) (KE.loose c9))) (KE.loose c9))))) (dj (dS nA)) fZ)
 (dj (ic 3 sc.nd (km F6 (KE.loose (km qN (KE.loose (dA (dD 5) (KE.loose c9))) (KE.loose (dA (dD 5) (KE.loose c9))))) (dD 3)))))))
 (dj (dS (gk (ja hu) (dD 3) (dD 1)))))))
theorem zj (F:FM K mg "_law_right" (top 52))(B:j9 mg)(lr:lh P w K mg base cl)(jd:lg P w K mg base cl)(j6:j4 P w K mg base cl)(j7:j3 P w K mg base cl) :
  mr P w K mg base cl :=
 fj mh UW F λsc f d8 A outer s H E n0 S has hr hu =>
 (dC (ic 1 sc.nd (dE j7 (RM hr) (dv (fU 0) df)))
 (dC (pU (i:=2) false [] sc.nd (N:=UY) (mp:=[none,some 0]) rfl (oU B.range (km QH (KE.loose c9) (KE.loose (dA (dD 0) (KE.loose c9))))) rfl (co UW (c8 (top 52))) (λ_ _ _ _ _=>⟨(lO 0 (nd UY) (Or.inr rfl)),kK,(KN.data (gm [] (N:=Wv) (mp:=[none,some 0]) rfl (oU B.range (dA (dD 1) (KE.loose c9))) rfl (Lg (co UY _)) (λ_ _ _ _ _=>⟨(lO 0 (nd Wv)),(gW (eX (ja hu) (KE.loose (km Q8 (KE.loose (km QJ (dD 1) (dD 0))) (KE.loose c9))) (KE.loose c9))),(fU 0)⟩) (hfd:=uu)))⟩) (hfd:=uu) (hfi:=(nf 2 [])))
 (dC (nC (KW.kb (w_or (lF (jr (qR B.isinstance B.tuple (dD 1)))) (oP (eX NH (KE.loose (dE j6 (RM hr) (dv (fU 0) (dv (fU 1) df)))) (KE.loose nA))))) (dj (dS nA)) fZ)
 (dC (nC (eX (uR hu) (KE.loose nA) (KE.loose (KN.data (gm [] (N:=Wu) (mp:=[none,some 0]) rfl (jK (dD 2)) rfl (co UW (c8 (top 52))) (λ_ _ _ _ _=>⟨(lO 0 (nd Wu)),kK,(dE jd (RM hr) (dv (fU 1) (dv (fU 0) df)))⟩) (hfd:=uu))))) (dC (nC (KW.kb (w_or (eX (yz hu) (KE.loose (dA (dD 1) (KE.loose c9))) (KE.loose vJ)) (w_or (eX (yz hu) (KE.loose (jH i5 B.len (eB (dD 1) dH))) (KE.loose c9)) (oP (lF (jr (qR B.isinstance B.tuple (KE.loose (dA (dD 1) (KE.loose c9)))))))))) (dj (dS nA)) fZ)
 (dj (dS (lG (gk (uR hu) (KE.loose (KN.data (Gs B.list (KE.loose (dA (dD 1) (KE.loose c9)))))) (dD 2)) (k_one (dE jd (RM hr) (dv (fU 0) (dv (dA (dD 1) (KE.loose c9)) df)))))))) fZ)
 (dj (dS (lG (gk (ja hu) (KE.loose (dA (dD 1) (KE.loose c9))) (KE.loose vJ)) (lG (gk (ja hu) (KE.loose (jH i5 B.len (eB (dD 1) dH))) (KE.loose c9)) (k_one (dE lr (RM hr) (dv (fU 0) (dv (dA (dD 1) (KE.loose c9)) (dv (dA (dD 1) (KE.loose c9)) df)))))))))))))
end
section
variable {P:aV}{w:World}{K:W.Frag}{mg:Str->Option af}{base:Heap}{f:Addr}{fd:bt}{cl:Str->Addr}{Y:yJ}
theorem Rm (F:uD K "law" "law" (top 53) f fd)(B:j9 mg)(nZ:dF P w K mg base 1 "_law_feed" ["_law_script"] (rM Y K))(mB:mr P w K mg base cl)(qp:qj P w K mg base Y)(ku:qh P w K mg base Y)(Yx:za { nx:=λ_ _=>False,rt:=λd _=>d=.bool true } (List.replicate 5 none) 0) :
  iO P w K mg base uj 20 f fd ["_law_script"] (yT K):=by
 have sc:eO Ys ["_law_script"] (c8 (top 53)):=Ov;refine Uv (C:=XC cl) (Y:=Y) (k:=19) (u:=za) F sc (!2) (λd8 A outer s H E hr=>⟨iP (i:=1) sc.nd rfl (Or.inl rfl) (so nZ (RM hr) (gI (qv 0) d7)),λfa sa n0 S H1 hf hS has=>?_⟩) rfl Yx;have hu:=hr.units;unfold za;exact (dC (Dy 2 sc.nd (l4 (dv (gr 1 ku (RM hr) (dv c9 (dv c9 df)) (hfd:=(by decide:1∈[1]))) (dv (gr 1 ku (RM hr) (dv c9 (dv c9 df)) (hfd:=(by decide:1∈[1]))) df))))
 (dC (pV 2 PySem.F.plainAttrs_list PySem.F.slot_list_append PySem.F.type_list_append (kn) (dv (gr 1 qp (RM hr) (dv (gr 1 ku (RM hr) (dv c9 (dv c9 df)) (hfd:=(by decide:1∈[1]))) df) (hfd:=(by decide:1∈[1]))) df))
 (dC (qQ PassesOwn.never rfl (Gj (km qN (dD 2) (KE.loose (Dp (dD 2) mI (mJ c9))))) (lO 3 sc.nd)
 (dC (ic 4 sc.nd (Gv hr B.repr (fU 3)))
 (dj (nC (KW.kb (w_or (lF (jr (dE mB (RM hr) (dv (fU 3) df)))) (oP (eX Rb (KE.loose (Gv hr B.repr (fU 3))) (dD 4))))) (dj (dS nA)) fZ))))
 (dj (dS nA)))))
end
end Odj
namespace Odj
open PySem L2
local macro_rules | `(tactic| simp! [$ls,*]) => do let ex <- ("ib iT envOf List.length_cons List.length_nil List.map_cons List.map_nil List.cons_append List.nil_append List.append_nil List.replicate_succ List.replicate_zero Nat.reduceSub Nat.reduceAdd true_and and_true de eU fP dM oV dQ sQ dq c5 uC dc c6 jq uL Gu di dB dw F1 nB iS f9 Ni F4 Jt zH iB mZ dh sR lI oW Dq Nr QV T6 d5 pT JA Gg nE B8 B6 B7 vN yN wZ GG vO oY gC Ey yE vL c7 F0 iI dR Lf List.getElem?_cons_zero List.getElem?_cons_succ List.set_cons_zero List.set_cons_succ Option.join_some Option.join_none if_true if_false Bool.not_true Bool.not_false Bool.true_eq_false Bool.false_eq_true reduceIte".splitOn " ").toArray.mapM λs => `(Lean.Parser.Tactic.simpLemma| $(Lean.mkIdent s.toName):ident);`(tactic| simp only[$ls,*, $ex,*])
abbrev d3:=Int × Int × Int
noncomputable def d4 (t:d3):ad:=.tuple [.int t.1,.int t.2.1,.int t.2.2]
def dI (many:Int)(ts:List d3):ad:=.tuple [.int many,.tuple (ts.map d4)]
noncomputable def dk (ns:List Int):ad:=.tuple (ns.map .int)
theorem vZ:∀ts:List d3,ad.canLayAll0 (ts.map d4)=true
 | []=>rfl
 | t::ts=>by simp only[ah,ad.canLayAll0,d4,ad.canLay0,vZ ts];rfl
theorem G4 (ts:List d3):(ad.list (ts.map d4)).canLay0=true:=vZ ts
theorem v3:∀ts:List d3,ad.depthAll (ts.map d4)<=1
 | []=>by simp[ad.depthAll]
 | t::ts=>by have:=v3 ts;simp only[ah,ad.depthAll,d4,ad.depth];omega
theorem G5 (ts:List d3):(ad.list (ts.map d4)).depth<=60:=by have:=v3 ts;simp only[ad.depth];omega
theorem G6 (i j:Int):yt (.int i) (.int j)=some (.int (i - j)):=by simp only[yt]
theorem zk (i j:Int):lL (.int i) (.int j)=some (.int (i+j)):=by simp only[lL]
def lu (d:ad):Bool:=match d with | .int _=>true | _=>false
section
variable {n:Int}{Q:ad->Int->Prop}{X:XQ}
theorem qV (d:ad):ir [d] n Q X=Q (.bool (lu d)) n:=by
 simp! [ir,nI];cases d<;>simp[rq,lu]
def mD (k:Int)(d:ad):Bool:=match d with | .tuple ds=>decide ((ds.length:Int)=k) | _=>false
theorem g7 (d:ad)(k:Int):gf [d,.int k] n Q X=Q (.bool (mD k d)) n:=by
 simp! [gf,jX];cases d<;>simp[rq,eM,eY,mD]
noncomputable def rising:Int->List ad->Bool
 | _,[]=>true
 | a,.int i::ds=>decide (a<i) && rising i ds
 | _,_::_=>false
def pq (d:ad):Bool:=match d with | .tuple ds=>rising (-1) ds | _=>false
theorem xr (d:ad):jO [d] n Q X=Q (.bool (pq d)) n:=by
 simp! [jO,l7]
 cases d with
 | tuple ds =>
  simp! [rq,pq,bS,bR,if_false,if_true,i9]
  have key:∀(ds:List ad) (a:Int) (t:ad) (x:Option sM),iK (gC 2) (de (fP (nB (iS (dB (dh ir (c6 (dq 2) dc)))) (dB (di QF (c5 2) (c5 1)))) (dM (uC (.bool false))) eU) (dQ 1 (dq 2)))
    { nx:=λ_ n=>Q (.bool true) n,rt:=Q } ds [some (.s t),some (.s (.int a)),x] n=Q (.bool (rising a ds)) n:=by
   intro ds
   induction ds with
   | nil=>intro a t x;simp[iK,rising]
   | cons d ds ih =>
    intro a t x;simp! [iK,qV]
    cases d with
    | int i =>
     simp! [lu,QF,rising,ih];by_cases h:a<i
     .have h':¬ i<=a:=by omega
      simp[h,h']
     .have h':i<=a:=by omega
      simp[h,h']
    | _=>simp[lu,rising]
  exact key ds (-1) _ _
 | _=>simp[rq,pq]
noncomputable def jC (b:Int)(ds:List ad):Bool:=match ds.getLast? with | some (.int i)=>decide (i<b) | some _=>false | none=>true
def g8 (b:Int)(d:ad):Bool:=match d with | .tuple ds=>rising (-1) ds && jC b ds | _=>false
theorem tK:∀{ds:List ad} {a:Int},rising a ds=true->∀d∈ds,∃i,d=.int i/\a<i
 | [],_,_,d,hd=>by cases hd
 | .int i::ds,a,h,d,hd=>by
  simp only[rising,aZ,decide_eq_true_eq] at h;rcases ap.mp hd with rfl | hd
  .exact⟨i,rfl,h.1⟩
  .obtain⟨j,e,hj⟩:=tK h.2 d hd
   exact⟨j,e,!1⟩
 | .none::_,_,h,_,_=>by simp[rising] at h
 | .bool _::_,_,h,_,_=>by simp[rising] at h
 | .str _::_,_,h,_,_=>by simp[rising] at h
 | .list _::_,_,h,_,_=>by simp[rising] at h
 | .tuple _::_,_,h,_,_=>by simp[rising] at h
 | .dict _::_,_,h,_,_=>by simp[rising] at h
theorem jD (d:ad)(b:Int):fC [d,.int b] n Q X=Q (.bool (g8 b d)) n:=by
 simp! [fC,gX,xr]
 cases d with
 | tuple ds =>
  simp only[pq,g8];by_cases hr:rising (-1) ds=true
  .simp! [hr,eM,eY,i9,Bool.true_and]
   cases hl:ds.getLast? with
   | none =>
    have:ds=[]:=by simpa using hl
    subst this;simp[jC]
   | some e =>
    obtain⟨i,rfl,_⟩:=tK hr e (List.mem_of_getLast? hl);have gQ:ds≠[]:=λz=>by subst z;cases hl
    have h0:¬ ((ds.length:Int)=0):=by
     have:0<ds.length:=List.length_pos_iff.mpr gQ;omega
    simp[gQ,xa hl,Sh,jC,hl]
  .have:rising (-1) ds=false:=by simpa using hr
   simp[this]
 | _=>simp[pq,g8]
theorem DL (many:Int)(ts:List d3)(d:ad):pb [dI many ts,d] n Q X=Q (.bool (g8 ts.length d)) n:=by
 simp! [pb,tj,dI,eC,eM,jD,ai]
theorem Bc (many:Int)(ts:List d3)(d:ad):mN [dI many ts,d] n Q X=Q (.bool (g8 many d)) n:=by
 simp! [mN,pY,dI,eJ,jD]
def tL (m:Nat)(d:ad):Bool:=match d with | .int i=>decide (0<=i/\i<(m:Int)) | _=>false
theorem DM (b:Nat)(d:ad):g8 b (.tuple [d])=tL b d:=by
 cases d with
 | int i =>
  simp only[g8,rising,jC,tL,List.getLast?_singleton];by_cases h:0<=i
  .have:-1<i:=by omega
   simp[h,this]
  .have:¬ -1<i:=by omega
   simp[h,this]
 | _=>simp[g8,rising,tL]
theorem qt (many:Int)(ts:List d3)(d:ad):gE [dI many ts,d] n Q X=Q (.bool (tL ts.length d)) n:=by
 simp! [gE,iV,DL,DM]
noncomputable def e8 (t:d3)(x:Int):Int:=if t.1=x then t.2.1 else t.1
theorem lx (t:d3)(x:Int):fW [d4 t,.int x] n Q X=Q (.int (e8 t x)) n:=by
 simp! [fW,l9,d4,eJ,eC,eY,e8];by_cases h:t.1=x<;>simp[h]
noncomputable def gP (ts:List d3)(x:Int)(d:ad):Option Int:=match d with
 | .int i=>if 0<=i then (match ts[i.toNat]? with | some t=>if x=t.1\/x=t.2.1 then some (e8 t x) else none | none=>none) else none
 | _=>none
theorem ly {ts:List d3}{i:Int}(h0:0<=i)(h1:i<(ts.length:Int)):∃t,ts[i.toNat]? = some t/\t∈ts/\lQ (ts.map d4) i=some (d4 t):=by
 have hl:i.toNat<ts.length:=by omega
 refine⟨ts[i.toNat],by simp[hl],cc _,?_⟩;rw[nG h0 (by simpa using h1),az];simp[hl]
theorem tM (many:Int)(ts:List d3)(x:Int)(d:ad):jg [dI many ts,.int x,d] n Q X=Q (.bool (gP ts x d).isSome) n:=by
 simp! [jg,pZ,qt]
 cases d with
 | int i =>
  by_cases h:0<=i/\i<(ts.length:Int)
  .obtain⟨t,ht,_,Yy⟩:=ly h.1 h.2
   simp! [tL,h,dI,eC,Yy,ht,gP,d4,K5,xb _ 2 (!2),yV,decide_true];have e:Int.toNat 2=2:=rfl;simp! [e,List.take_succ_cons,List.take_zero,yV];by_cases hx:x=t.1\/x=t.2.1<;>simp[hx]
  .have:gP ts x (.int i)=none:=by
    unfold gP;by_cases h0:0<=i
    .have:ts[i.toNat]? = none:=bi (!1)
     simp[h0,this]
    .simp[h0]
   simp[tL,h,this]
 | _=>simp[tL,gP]
end
noncomputable def jT (ts:List d3):Int->Nat->List ad->Nat ⊕ List Int
 | _,_,[]=>.inr []
 | x,k,d::ds=>match gP ts x d with
  | some y=>(match jT ts y (k+1) ds with | .inr ys=>.inr (y::ys) | .inl j=>.inl j)
  | none=>.inl k
section
variable {n:Int}{Q:ad->Int->Prop}{X:XQ}
theorem DN (d:ad)(ds:List ad)(k:Nat):((d::ds).zipIdx k).map (λp=>ad.tuple [.int (p.2:Nat),p.1])=.tuple [.int (k:Nat),d]::(ds.zipIdx (k+1)).map (λp=>ad.tuple [.int (p.2:Nat),p.1]):=rfl
theorem qu {ts:List d3}{x y:Int}{d:ad}(h:gP ts x d=some y):∃i t,d=.int i/\0<=i/\i<(ts.length:Int)/\ts[i.toNat]? = some t/\(x=t.1\/x=t.2.1)/\y=e8 t x/\lQ (ts.map d4) i=some (d4 t):=by
 cases d with
 | int i =>
  dsimp only [gP] at h;by_cases h0:0<=i
  .rw[if_pos h0] at h
   cases ht:ts[i.toNat]? with
   | none=>rw[ht] at h;cases h
   | some t =>
    rw[ht] at h;by_cases hx:x=t.1\/x=t.2.1
    .simp only[if_pos hx] at h
     cases h;have hl:i.toNat<ts.length:=(aG.mp ht).1;obtain⟨t',h1,_,h2⟩:=ly h0 (by omega:i<(ts.length:Int));rw[ht] at h1;cases h1;exact⟨i,t,rfl,h0,!1,ht,hx,rfl,h2⟩
    .simp only[if_neg hx] at h
     cases h
  .rw[if_neg h0] at h
   cases h
 | _=>simp[gP] at h
theorem qw (many:Int)(ts:List d3)(x:Int)(ds:List ad)(hl:ds.length<1000000):fz [dI many ts,.int x,.tuple ds] n Q X=(match jT ts x 0 ds with | .inr ys=>Q (.list ((x::ys).map .int)) n | .inl k=>X "NoWalk" [.int (k:Nat)]):=by
 simp! [fz,gF,rq];have hsz:au=16777216:=by decide
 have key:∀(ds:List ad) (k:Nat) (pre:List Int) (x:Int) (a b c:ad) (e f:Option sM),pre.length+ds.length<1000002->iK (Ey [gC 4,gC 5]) (de (fP (iS (dB (dh jg (c6 (dq 0) (c6 (di dZ (c5 3) (zH i9 (uC (.int 1)))) (c6 (dq 5) dc)))))) (sR X "NoWalk" (c6 (dq 4) dc)) eU)
   (lI 3 gD (c6 (dh fW (c6 (di dZ (di dZ (c5 0) (uC (.int 1))) (c5 5)) (c6 (di dZ (c5 3) (zH i9 (uC (.int 1)))) dc))) dc)))
   { nx:=oV 3 { nx:=λ_ n'=>Q .none n',rt:=Q },rt:=Q } ((ds.zipIdx k).map (λp=>ad.tuple [.int (p.2:Nat),p.1])) [some (.s (dI many ts)),some (.s b),some (.s c),some (.o ((pre++[x]).map .int)),e,f] n=(match jT ts x k ds with | .inr ys=>Q (.list ((pre++x::ys).map .int)) n | .inl k=>X "NoWalk" [.int (k:Nat)]):=by
  intro ds
  induction ds with
  | nil=>intro k pre x a b c e f _;simp[iK,jT,oV]
  | cons d ds ih =>
   intro k pre x a b c e f hp;have qW:lQ ((pre++[x]).map ad.int) (-1)=some (.int x):=by rw[aU];exact yW _ _
   simp! [DN,iK,i9,qW,tM,jT]
   cases hs:gP ts x d with
   | none=>simp
   | some y =>
    obtain⟨i,t,rfl,h0,h1,ht,hx,rfl,ha⟩:=qu hs;simp only[aj] at hp;have eF:((pre++[x]).map ad.int).length<au:=by rw[ai,aO,hsz];simp only[aj,aJ];omega
    have e2:((pre++[x]).map ad.int)++[.int (e8 t x)]=((pre++[x])++[e8 t x]).map ad.int:=by simp
    have:=ih (k+1) (pre++[x]) (e8 t x) a b c (some (.s (.int (k:Nat)))) (some (.s (.int i))) (by simp only[aO,aj,aJ];omega);revert this;simp! [dI,eC,ha,lx,gD,if_pos eF,e2,Option.isSome_some];intro this;simp only[this]
    cases jT ts (e8 t x) (k+1) ds with
    | inl j=>rfl
    | inr ys=>simp
 have:=key ds 0 [] x .none (.int x) (.tuple ds) none none (by simp;omega);simpa [gy] using this
theorem qx (many:Int)(ts:List d3)(x:Int)(d:ad)(h:∀ds,d≠.tuple ds):fz [dI many ts,.int x,d] n Q X=X "NoWalk" [.int (-1)]:=by
 cases d with
 | tuple ds=>exact absurd rfl (h ds)
 | _=>simp[fz,gF,rq,i9,ib,iT,envOf,aj,aJ,ah,ba,aM,aw,bj,aF,aP,Nat.reduceSub,Nat.reduceAdd,true_and,and_true,de,eU,fP,dM,oV,QX,dQ,sQ,Uc,QY,Ud,dq,c5,uC,dc,c6,jq,uL,Gu,di,dB,dw,F1,nB,iS,f9,Ni,F4,Jt,zH,iB,mZ,dh,Nu,Nv,TX,sR,lI,Q1,Q2,Uk,oW,Dq,Nr,QV,T6,T8,d5,pT,JA,Gg,T7,nE,B8,B6,B7,Uu,Ut,Us,vN,yN,Q5,wZ,Ur,Rc,Uy,JI,Ux,GG,vO,oY,gC,Ey,yE,vL,c7,F0,iI,dR,Lf,aa,ac,aC,aD,Option.join_some,Option.join_none,if_true,if_false,bS,Bool.not_false,Bool.true_eq_false,bR,reduceIte]
theorem qy {ts:List d3}:∀{ds:List ad} {x:Int} {k:Nat} {ys:List Int},jT ts x k ds=.inr ys->ys.length=ds.length/\∃ns:List Int,ds=ns.map .int/\∀i∈ns,0<=i/\i<(ts.length:Int)
 | [],x,k,ys,h=>by cases h;exact⟨rfl,[],rfl,!4⟩
 | d::ds,x,k,ys,h=>by
  simp only[jT] at h
  cases hs:gP ts x d with
  | none=>rw[hs] at h;cases h
  | some y =>
   rw[hs] at h;dsimp only at h
   cases hw:jT ts y (k+1) ds with
   | inl j=>rw[hw] at h;cases h
   | inr zs =>
    rw[hw] at h;cases h;obtain⟨i,t,rfl,h0,h1,_⟩:=qu hs;obtain⟨hl,ns,rfl,hn⟩:=qy hw;exact⟨by simp[hl],i::ns,rfl,λj hj=>by rcases ap.mp hj with rfl | hj;exact⟨h0,h1⟩;exact hn j hj⟩
theorem uW (ns:List Int)(hl:ns.length<4000):jb [dk ns] n Q X=Q (.bool (decide (ns.Nodup))) n:=by
 simp! [jb,kN,dk,fq,eM,eY,hl,ai];congr 2;rw[decide_eq_decide];have:=sG (gn ns) (λk=>gc (l:=ns));exact⟨λh=>this.mp (!1),λh=>by have:=this.mpr h;omega⟩
def iy (ts:List d3)(d:ad):Option (Int × List Int × List Int):=match d with
 | .tuple [.int x,.tuple ds]=>(match jT ts x 0 ds,fh ds with | .inr ys,some ns=>if (x::ys).getLast? = some x then some (x,ns,ys) else none | _,_=>none)
 | _=>none
def G7 (d:ad):Prop:=match d with | .tuple [_,.tuple ds]=>ds.length<4000 | _=>True
theorem rC (many:Int)(ts:List d3)(d:ad)(hl:G7 d):gY [dI many ts,d] n Q X=(match iy ts d with | some (x,_,ys)=>Q (.list ((x::ys).map .int)) n | none=>Q .none n):=by
 simp! [gY,jw,Gx,g7]
 cases d with
 | tuple l =>
  match l,hl with
  | [],_=>simp[mD,iy]
  | [a],_=>simp[mD,iy]
  | a::b::c::l,_ =>
   have:¬ ((((a::b::c::l).length:Nat):Int)=2):=by simp only[aj];omega
   have ht:mD 2 (.tuple (a::b::c::l))=false:=decide_eq_false this;simp[ht,iy]
  | [a,b],hl =>
   simp! [mD,eJ,eC,qV,aj,aJ]
   cases a with
   | int x =>
    cases b with
    | tuple ds =>
     have HG:ds.length<4000:=hl;simp! [lu,qw _ _ _ _ (by omega:ds.length<1000000),iy]
     cases hw:jT ts x 0 ds with
     | inl k=>simp[HP]
     | inr ys =>
      obtain⟨_,ns,rfl,_⟩:=qy hw
      have qW:∃z,(x::ys).getLast? = some z:=by
       cases h:(x::ys).getLast? with
       | none=>simp at h
       | some z=>exact⟨z,rfl⟩
      obtain⟨z,hz⟩:=qW;have e1:lQ ((x::ys).map ad.int) (-1)=some (.int z):=xa (by rw[List.getLast?_map,hz];rfl);have e0:lQ ((x::ys).map ad.int) 0=some (.int x):=eJ _ _;simp only[ah] at e1 e0;simp! [fq,i9,e1,e0,eY,ah,hz];by_cases h:z=x<;>simp[h]
    | _=>simp[lu,qx,iy,HP]
   | _=>simp[lu,iy]
 | _=>simp[mD,iy]
theorem zl (many:Int)(ts:List d3)(d:ad)(hl:G7 d):kP [dI many ts,d] n Q X=Q (.bool (match iy ts d with | some (_,ns,ys)=>decide (ys≠[]) && decide (ns.Nodup) | none=>false)) n:=by
 simp! [kP,nO,rC _ _ _ hl]
 cases hr:iy ts d with
 | none=>simp[Jv,oQ]
 | some p =>
  obtain⟨x,ns,ys⟩:=p
  have hd:∃ds:List ad,d=.tuple [.int x,.tuple (ns.map .int)]:=by
   unfold iy at hr;split at hr
   .rename_i x' ds
    cases hw:jT ts x' 0 ds with
    | inl k=>rw[hw] at hr;cases hr
    | inr zs =>
     rw[hw] at hr;obtain⟨_,ms,rfl,_⟩:=qy hw;rw[fq] at hr;dsimp only at hr;split at hr
     .cases hr;exact⟨[],rfl⟩
     .cases hr
   .cases hr
  obtain⟨_,rfl⟩:=hd;have HG:ns.length<4000:=by simpa [G7] using hl
  have e:ad.tuple (ns.map .int)=dk ns:=rfl;simp! [Jv,oQ,AF,eM,eC,e,uW ns HG,aj,ai,ah]
  cases ys with
  | nil=>simp
  | cons y ys =>
   have h1:decide ((1:Int)<((ys.length+1+1:Nat):Int))=true:=decide_eq_true (!1);simp! [aj,h1];simp
end
noncomputable def kx (ts:List d3)(k:Int):List Int:=[(ts.getD k.toNat (0,0,0)).1,(ts.getD k.toNat (0,0,0)).2.1]
noncomputable def fX (ts:List d3)(ks:List Int):List Int:=(ks.map (kx ts)).flatten
abbrev mE (ts:List d3)(ks:List Int):Prop:=∀k∈ks,0<=k/\k<(ts.length:Int)
theorem gM (ts:List d3)(k:Int)(ks:List Int):fX ts (k::ks)=kx ts k++fX ts ks:=rfl
theorem pv (ts:List d3)(a b:List Int):fX ts (a++b)=fX ts a++fX ts b:=by
 unfold fX;rw[aU,List.flatten_append]
theorem lz {ts:List d3}{a b:List Int}(h:a.Perm b):(fX ts a).Perm (fX ts b):=(h.map _).flatten
def ky (ts:List d3)(ks:List Int):Prop:=∀v,(fX ts ks).count v % 2=0
theorem tN:∀{l r:List Int},l.Nodup->r.Nodup->(∀k∈r,k∈l)->l.Perm (r++l.filter (λk=>!decide (k∈r))):=λ{l r} hl hr h=>by
 refine (bY hl ?_).mpr λk=>?_
 .refine bM.mpr ⟨hr,hl.filter _,λa ha b hb e=>?_⟩
  subst e;have:=(aE.mp hb).2;simp[ha] at this
 .rw[bc,aE]
  by_cases hk:k∈r
  .simp[hk,h k hk]
  .simp[hk]
theorem qz {ts:List d3}{l r:List Int}(hl:l.Nodup)(hr:r.Nodup)(h:∀k∈r,k∈l)(v:Int):(fX ts l).count v=(fX ts r).count v+(fX ts (l.filter λk=>!decide (k∈r))).count v:=by
 rw[(lz (tN hl hr h)).count_eq,pv,bo]
noncomputable def NT (ts:List d3)(x k q:Int):Prop:=∃t,0<=k/\ts[k.toNat]? = some t/\((t.1=x/\t.2.1=q)\/(t.2.1=x/\t.1=q))
def xt (ts:List d3):Int->List (Int × Int)->Int->Prop
 | x,[],y=>x=y
 | x,s::ss,y=>NT ts x s.1 s.2/\xt ts s.2 ss y
theorem zm {ts:List d3}:∀{ss:List (Int × Int)} {x y:Int} {s:Int × Int},xt ts x ss y->NT ts y s.1 s.2->xt ts x (ss++[s]) s.2
 | [],x,y,s,h,h1=>by
  have:x=y:=h;subst this;exact⟨h1,rfl⟩
 | r::ss,x,y,s,⟨a,b⟩,h1=>⟨a,zm b h1⟩
theorem DO {ts:List d3}{x k q:Int}(h:NT ts x k q)(v:Int):(kx ts k).count v=(if v=x then 1 else 0)+(if v=q then 1 else 0):=by
 obtain⟨t,_,ht,hh⟩:=h
 have e:kx ts k=[t.1,t.2.1]:=by
  unfold kx;rw[ar,ht];rfl
 have b1:∀a:Int,(if (a == v)=true then 1 else 0)=(if v=a then 1 else (0:Nat)):=λa=>by
  by_cases h:v=a
  .subst h
   simp
  .rw[if_neg h,if_neg (by simpa using λz=>h z.symm)]
 have c1:∀a b:Int,[a,b].count v=(if v=a then 1 else 0)+(if v=b then 1 else 0):=λa b=>by
  rw[cr,cr,List.count_nil,b1,b1];omega
 rw[e,c1];rcases hh with⟨rfl,rfl⟩ | ⟨rfl,rfl⟩
 .rfl
 .exact Nat.add_comm _ _
theorem G8 {a b c x:Nat}(h:c % 2=(a+b) % 2):(x+a+c) % 2=(x+b) % 2:=by omega
theorem rP {ts:List d3}(v:Int):∀{ss:List (Int × Int)} {x y:Int},xt ts x ss y->(fX ts (ss.map (·.1))).count v % 2=((if v=x then 1 else 0)+(if v=y then 1 else 0)) % 2
 | [],x,y,h=>by
  have:x=y:=h;subst this;show 0 % 2=_;omega
 | s::ss,x,y,⟨a,b⟩=>by
  have ih:=rP v b;rw[ah,gM,bo,DO a];exact G8 ih
def mT (x:Int)(ss:List (Int × Int)):List Int:=x::ss.map (·.2)
theorem zo {ts:List d3}:∀{ss:List (Int × Int)} {x y:Int} (i:Nat),xt ts x ss y->∀p,(mT x ss)[i]? = some p->xt ts p (ss.drop i) y
 | ss,x,y,0,h,p,hp=>by
  simp only[mT,aa,Option.some.injEq] at hp;subst hp;exact h
 | [],x,y,i+1,h,p,hp=>by simp[mT] at hp
 | s::ss,x,y,i+1,⟨_,b⟩,p,hp=>zo i b p (by simpa [mT] using hp)
theorem tO {ts:List d3}:∀{ss:List (Int × Int)} {x y:Int},xt ts x ss y->(mT x ss).getLast? = some y
 | [],x,y,h=>by
  have:x=y:=h;subst this;rfl
 | s::ss,x,y,⟨_,b⟩=>by
  have:=tO b;simp only[mT,ah] at this ⊢;rw[List.getLast?_cons_cons];exact this
theorem DP {ts:List d3}{left:List Int}{ss:List (Int × Int)}{x y:Int}(ev:ky ts left)(hn:left.Nodup)(ok:mE ts left)(h:xt ts x ss y)(hr:(ss.map (·.1)).Nodup)(hs:∀k∈ss.map (·.1),k∈left)
  (Bd:ss≠[]->x≠y) (h0:ss=[]->∃k∈left,y∈kx ts k):∃k∈left,k ∉ ss.map (·.1)/\y∈kx ts k:=by
 by_cases he:ss=[]
 .obtain⟨k,hk,hy⟩:=h0 he
  exact⟨k,hk,by simp[he],hy⟩
 .have h1:=qz (ts:=ts) hn hr hs y
  have h2:=ev y;have h3:=rP y h;rw[if_neg (λz=>Bd he z.symm),if_pos rfl] at h3;have h4:0<(fX ts (left.filter λk=>!decide (k∈ss.map (·.1)))).count y:=by omega
  obtain⟨l,hl,hy⟩:=List.mem_flatten.mp (cg.mp h4);obtain⟨k,hk,rfl⟩:=bb.mp hl;obtain⟨Rn,IW⟩:=aE.mp hk;exact⟨k,Rn,by simpa using IW,hy⟩
theorem DQ {ts:List d3}{left:List Int}{ss:List (Int × Int)}{x:Int}(ev:ky ts left)(hn:left.Nodup)(h:xt ts x ss x)(hr:(ss.map (·.1)).Nodup)(hs:∀k∈ss.map (·.1),k∈left):ky ts (left.filter λk=>!decide (k∈ss.map (·.1))):=λv=>by
 have h1:=qz (ts:=ts) hn hr hs v;have h2:=ev v;have h3:=rP v h;omega
theorem JT {α:Type}(xs:List α)(y:α):oS (xs++[y]) none (some (-1))=xs:=by
 have e1:HT.gj (xs++[y]).length (xs++[y]).length (some (-1))=xs.length:=by
  rw[aO,bu];simp only[HT.gj];split<;>omega
 have e0:HT.gj (xs++[y]).length 0 none=0:=rfl;unfold oS;rw[e1,e0];simp
theorem G9 {ts:List d3}{k y:Int}(h0:0<=k)(h1:k<(ts.length:Int)):(gP ts y (.int k)).isSome=true↔y∈kx ts k:=by
 obtain⟨t,ht,_,_⟩:=ly h0 h1;unfold kx;rw[ar,ht];simp only[gP,ht,if_pos h0,Option.getD_some,ap,br,or_false];by_cases h:y=t.1\/y=t.2.1<;>simp[h]
theorem G' {ts:List d3}{k y z:Int}(h:gP ts y (.int k)=some z):NT ts y k z/\∃t,ts[k.toNat]? = some t/\lQ (ts.map d4) k=some (d4 t)/\z=e8 t y:=by
 obtain⟨i,t,e,h0,h1,ht,hx,rfl,ha⟩:=qu h;cases e;refine⟨⟨t,h0,ht,?_⟩,t,ht,ha,rfl⟩;unfold e8;by_cases hh:t.1=y
 .rw[if_pos hh];exact .inl ⟨hh,rfl⟩
 .rw[if_neg hh];exact .inr ⟨(hx.resolve_left λz=>hh z.symm).symm,rfl⟩
section
variable {n:Int}{X:XQ}{Q:ad->Int->Prop}
theorem tP {many:Int}{ts:List d3}{left:List Int}(ev:ky ts left)(hn:left.Nodup)(ok:mE ts left)(gQ:left≠[])(hl:left.length<=100)
  (h:∀(x:Int) (ss:List (Int × Int)),xt ts x ss x->ss≠[]->(ss.map (·.1)).Nodup->(∀k∈ss.map (·.1),k∈left)->(ss.map (·.2)).Nodup->Q (.tuple [.int x,dk (ss.map (·.1))]) n) :
  iC [dI many ts,.list (left.map .int)] n Q X:=by
 have hsz:au=16777216:=by decide
 obtain⟨k0,rest,Lj⟩:∃k0 rest,left=k0::rest:=by
  cases left with
  | nil=>exact absurd rfl gQ
  | cons a r=>exact⟨a,r,rfl⟩
 have U2:k0∈left:=by rw[Lj];exact ao ..
 obtain⟨t0,Yz,_,YA⟩:=ly (ok k0 U2).1 (ok k0 U2).2;have YB:lQ (left.map ad.int) 0=some (.int k0):=by rw[Lj];exact eJ _ _
 have e0:dI many ts=.tuple [.int many,.tuple (ts.map d4)]:=rfl
 have WB:∀{ss:List (Int × Int)},(ss.map (·.1)).Nodup->(∀k∈ss.map (·.1),k∈left)->ss.length<=left.length:=λ{ss} h1 h2=>by
  have:=ee h1 h2;rwa [ai] at this
 unfold iC jY;simp only[ib,iT,envOf,ah,ba,aj,aJ,Nat.reduceSub,Nat.reduceAdd,aF,aP,aM,aw];generalize YC:de (dQ 5 _) _=te;generalize NU:de (dQ 4 _) _=bd;rw[e0];simp! [eC,YB,YA,d4,eJ];rw[<- e0];unfold nD;refine⟨λm dJ n'=>n'=n/\∃(ss:List (Int × Int)) (y:Int) (x4:Option sM),dJ=[some (.s (dI many ts)),some (.s (.list (left.map .int))),some (.o ((mT t0.1 ss).map .int)),some (.o ((ss.map (·.1)).map .int)),x4,none]/\xt ts t0.1 ss y/\(ss.map (·.1)).Nodup/\(∀k∈ss.map (·.1),k∈left)/\(mT t0.1 ss).dropLast.Nodup/\m=left.length - ss.length,⟨_,rfl,[],t0.1,none,rfl,rfl,!4,!4,by simp[mT],rfl⟩,?_⟩;rintro m dJ n' ⟨rfl,ss,y,x4,rfl,hw,Cr,jG,Ro,rfl⟩;have eF:=WB Cr jG
 obtain⟨P,hP⟩:∃P,mT t0.1 ss=P++[y]:=by
  have h1:=tO hw;rcases List.eq_nil_or_concat (mT t0.1 ss) with z | ⟨P,z,e⟩
  .rw[z] at h1;cases h1
  .rw[List.concat_eq_append] at e
   rw[e,List.getLast?_append] at h1;simp only[List.getLast?_singleton,Option.some_or,Option.some.injEq] at h1;subst h1;exact⟨P,e⟩
 rw[hP,List.dropLast_concat] at Ro
 have U3:P.length=ss.length:=by
  have:=congrArg List.length hP;simp[mT] at this;omega
 have qW:lQ ((mT t0.1 ss).map ad.int) (-1)=some (.int y):=by rw[hP,aU];exact yW _ _
 have U4:oS ((mT t0.1 ss).map ad.int) none (some (-1))=P.map .int:=by rw[hP,aU];exact JT _ _
 simp! [i9,qW,K5,U4,nF];by_cases hy:y∈P
 .simp! [hy,decide_true]
  subst YC;have Be:y∈mT t0.1 ss:=by rw[hP];exact bC _ hy
  have Rp:xg (.list ((mT t0.1 ss).map .int)) (.int y)=some (.int ((mT t0.1 ss).idxOf y:Nat)):=by
   simp only[xg,fq,bV];rw[if_pos Be]
  have hb:(mT t0.1 ss).idxOf y<ss.length:=by
   rw[hP,List.idxOf_append,if_pos hy,<- U3];exact ck hy
  have U5:(mT t0.1 ss)[(mT t0.1 ss).idxOf y]? = some y:=by
   have:=ck Be;rw[aL this,List.getElem_idxOf]
  have WC:=zo _ hw y U5
  have m7:((ss.drop ((mT t0.1 ss).idxOf y)).map (·.2)).Nodup:=by
   have e:(ss.drop ((mT t0.1 ss).idxOf y)).map (·.2)=(mT t0.1 ss).drop ((mT t0.1 ss).idxOf y+1):=by rw[cD];rfl
   have Oz:=ck hy;rw[e,hP,List.idxOf_append,if_pos hy,List.drop_append_of_le_length (!1)];refine bM.mpr ⟨Ro.sublist (List.drop_sublist _ _),!4,λa j8 b hb=>?_⟩;rw[av.mp hb];rintro rfl
   have h2:P=P.take (P.idxOf a)++a::P.drop (P.idxOf a+1):=by
    conv=>lhs;rw[<- List.take_append_drop (P.idxOf a) P]
    rw[cK Oz,List.getElem_idxOf]
   rw[h2] at Ro;exact (bF.mp (bM.mp Ro).2.1).1 j8
  generalize (mT t0.1 ss).idxOf y=b at Rp hb WC m7
  have YD:oS ((ss.map (·.1)).map ad.int) (some (b:Int)) none=((ss.drop b).map (·.1)).map .int:=by
   rw[vP _ _ (!1),aX,cD,cD]
  simp! [NG,GI,i9,qW,Rp,K5,YD,ff];refine h y (ss.drop b) WC (λz=>?_) ?_ (λk hk=>?_) m7
  .have:=congrArg List.length z
   simp at this;omega
  .rw[cD]
   exact Cr.sublist (List.drop_sublist _ _)
  .rw[cD] at hk
   exact jG k (List.mem_of_mem_drop hk)
 .simp! [hy,decide_false]
  subst NU
  obtain⟨k1,Rn,U6,U7⟩:=DP ev hn ok hw Cr jG (λgQ Bd=>hy (by
   have:mT t0.1 ss=t0.1::ss.map (·.2):=rfl;rw[hP] at this
   cases P with
   | nil =>
    simp at U3;exact absurd (List.eq_nil_of_length_eq_zero U3.symm) gQ
   | cons a P =>
    simp only[aM,List.cons.injEq] at this;rw[this.1,Bd]
    exact ao ..)) (λhe=>⟨k0,U2,by
   subst he;have:t0.1=y:=hw;subst this;unfold kx;rw[ar,Yz];exact ao ..⟩)
  generalize U8:de (lI 3 _ _) _=tl;simp! [de]
  rw[kr (λk=>.int k) (λk=>!decide (k∈ss.map (·.1)) && (gP ts y (.int k)).isSome) _ _ _ _ (λk _ n Q=>by simp! [de]) (λk _ n Q=>by
   simp! [nF,i9,qW,tM];by_cases hk:k∈ss.map (·.1)<;>simp[hk])]
  have U9:k1∈left.filter (λk=>!decide (k∈ss.map (·.1)) && (gP ts y (.int k)).isSome):=aE.mpr ⟨Rn,by
   rw[(G9 (ok k1 Rn).1 (ok k1 Rn).2).mpr U7];simpa using U6⟩
  cases hf:left.filter (λk=>!decide (k∈ss.map (·.1)) && (gP ts y (.int k)).isSome) with
  | nil=>rw[hf] at U9;cases U9
  | cons k on =>
   have YE:k∈left.filter (λk=>!decide (k∈ss.map (·.1)) && (gP ts y (.int k)).isSome):=by rw[hf];exact ao ..
   obtain⟨YF,Qi⟩:=aE.mp YE;rw[aZ] at Qi;obtain⟨z,hz⟩:=bJ.mp Qi.2;have OA:k ∉ ss.map (·.1):=by simpa using Qi.1
   obtain⟨u5,t,ht,ha,YG⟩:=G' hz
   have Rq:((ss++[(k,z)]).map (·.1)).Nodup:=by
    rw[aU]
    exact bM.mpr ⟨Cr,!4,λa j8 b hb=>by
     have e:=av.mp hb;subst e;exact λw=>OA (w ▸ j8)⟩
   have Lk:∀j∈(ss++[(k,z)]).map (·.1),j∈left:=λj hj=>by
    rw[aU] at hj;rcases bc.mp hj with hj | hj
    .exact jG j hj
    .rw[av.mp hj];exact YF
   have Rr:=WB Rq Lk;rw[aO,bu] at Rr;have e1:(ss.map (·.1)).map ad.int++[.int k]=((ss++[(k,z)]).map (·.1)).map .int:=by simp
   have e2:(mT t0.1 ss).map ad.int++[.int z]=(mT t0.1 (ss++[(k,z)])).map .int:=by simp[mT]
   have a1:=jt (ds:=(ss.map (·.1)).map ad.int) (d:=.int k) (by rw[ai,ai];omega);have a2:=jt (ds:=(mT t0.1 ss).map ad.int) (d:=.int z) (by rw[ai];simp[mT];omega);rw[e1] at a1;rw[e2] at a2;subst U8;rw[e0];simp! [ah,aw,eJ,a1,eC,ha,i9,qW,lx,<- YG,a2];rw[<- e0]
   exact⟨left.length - (ss++[(k,z)]).length,by rw[aO,bu];omega,ss++[(k,z)],z,_,rfl,zm hw u5,Rq,Lk,by
    rw[show mT t0.1 (ss++[(k,z)])=mT t0.1 ss++[z] by simp[mT],List.dropLast_concat,hP];exact bM.mpr ⟨Ro,!4,λa j8 b hb=>by rw[av.mp hb];exact λw=>hy (w ▸ j8)⟩,rfl⟩
end
def nh (r:Int × List Int):ad:=.tuple [.int r.1,dk r.2]
structure Ll (ts:List d3) (r:Int × List Int):Prop where
 ex:∃ss:List (Int × Int),xt ts r.1 ss r.1/\ss≠[]/\r.2=ss.map (·.1)/\(ss.map (·.2)).Nodup
 nd:r.2.Nodup
section
variable {n:Int}{X:XQ}{Q:ad->Int->Prop}
theorem zp {many:Int}{ts:List d3}{D:List Int}(ev:ky ts D)(hn:D.Nodup)(ok:mE ts D)(hl:D.length<=100)
  (h:∀rs:List (Int × List Int),(∀r∈rs,Ll ts r)->((rs.map (·.2)).flatten).Perm D->rs.length<=D.length->Q (.tuple (rs.map nh)) n) :
  kQ [dI many ts,dk D] n Q X:=by
 have hsz:au=16777216:=by decide
 have eD:dk D=.tuple (D.map .int):=rfl;unfold kQ nP;simp only[ib,iT,envOf,ah,ba,aj,aJ,Nat.reduceSub,Nat.reduceAdd,aF,aP,aM,aw];generalize NU:de (dQ 4 _) _=bd;rw[eD];simp! [de];unfold nD;refine⟨λm dJ n'=>n'=n/\∃(rs:List (Int × List Int)) (left:List Int) (x4:Option sM),dJ=[some (.s (dI many ts)),some (.s (.tuple (D.map .int))),some (.o (rs.map nh)),some (.s (.list (left.map .int))),x4]/\(∀r∈rs,Ll ts r)/\((rs.map (·.2)).flatten++left).Perm D/\ky ts left/\left.Nodup/\mE ts left/\rs.length+left.length<=D.length/\m=left.length,⟨_,rfl,[],D,none,rfl,!4,!4,ev,hn,ok,!4,rfl⟩,?_⟩;rintro m dJ n' ⟨rfl,rs,left,x4,rfl,Rt,M8,HQ,Cr,hok,eF,rfl⟩
 cases left with
 | nil =>
  have Ru:AF (.int ((0:Nat):Int)) (.int 0)=some (.bool false):=by simp[AF]
  simp! [eM,ba,aJ,Ru,ff];rw[bj] at M8;exact h rs Rt M8 (by simpa using eF)
 | cons k0 rest =>
  have Ru:AF (.int (((k0::rest).map ad.int).length:Int)) (.int 0)=some (.bool true):=by
   simp only[AF,ai,aj];rw[decide_eq_true (!1)]
  have gQ:k0::rest≠[]:=by simp
  have YH:(k0::rest).length<=100:=by omega
  generalize k0::rest=left at *;simp! [eM,Ru];subst NU;simp! [de];refine tP HQ Cr hok gQ YH λx ss hw JU U' jG m7=>?_;have Pu:rs.length<16777216:=by omega
  have er:ad.tuple [.int x,dk (ss.map (·.1))]=nh (x,ss.map (·.1)):=rfl;have a1:=jt (ds:=rs.map nh) (d:=nh (x,ss.map (·.1))) (by rw[ai];omega);have e1:rs.map nh++[nh (x,ss.map (·.1))]=(rs++[(x,ss.map (·.1))]).map nh:=by simp
  rw[e1] at a1;rw[er];simp! [a1]
  rw[kr (λk=>.int k) (λk=>!decide (k∈ss.map (·.1))) _ _ _ _ (λk _ n Q=>by simp! [de]) (λk _ n Q=>by
   rw[nh,dk];simp! [eC,sZ])]
  have xB:=tN Cr U' jG;have Va:=xB.length_eq;rw[aO,ai] at Va;have WD:0<ss.length:=List.length_pos_iff.mpr JU;rw[aw];refine⟨(left.filter λk=>!decide (k∈ss.map (·.1))).length,!1,rfl,rs++[(x,ss.map (·.1))],left.filter λk=>!decide (k∈ss.map (·.1)),_,rfl,λr hr=>?_,?_,DQ HQ Cr hw U' jG,Cr.filter _,λk hk=>hok k (aE.mp hk).1,by rw[aO,bu];omega,rfl⟩
  .rcases bc.mp hr with hr | hr
   .exact Rt r hr
   .rw[av.mp hr]
    exact⟨⟨ss,hw,JU,rfl,m7⟩,U'⟩
  .rw[aU,List.flatten_append]
   simp only[ah,ba,b8,List.flatten_nil,bj,bL];exact (List.Perm.append_left _ xB.symm).trans M8
end
noncomputable def DR (ts:List d3)(k:Int):Int:=(ts.getD k.toNat (0,0,0)).2.2
noncomputable def lP (ts:List d3)(ks:List Int):Int:=(ks.map (DR ts)).sum
theorem Bf (ts:List d3)(p:Int->Bool)(a:List Int):lP ts a=lP ts (a.filter p)+lP ts (a.filter λk=>!p k):=by
 induction a with
 | nil=>rfl
 | cons k a ih =>
  have e:∀l,lP ts (k::l)=DR ts k+lP ts l:=λl=>rfl
  cases hp:p k with
  | true=>rw[bw hp,bA (by simp[hp]),e,e,ih];omega
  | false=>rw[bA (by simp[hp]),bw (by simp[hp]),e,e,ih];omega
theorem tQ {l:List Int}(h:l.Nodup)(k:Int):l.count k=if k∈l then 1 else 0:=List.Nodup.count h
theorem kz {row:List Int}{v:Int}:v∈gJ row↔row.count v % 2=1:=by
 unfold gJ;rw[js,aE];constructor
 .intro z
  exact of_decide_eq_true z.2
 .intro z
  exact⟨cg.mp (!1),decide_eq_true z⟩
theorem xu (row:List Int):(gJ row).Pairwise (· < ·):=pW _
theorem ni {l:List Int}(h:l.Pairwise (· < ·)):l.Nodup:=h.imp λh z=>by omega
theorem pw (row:List Int):(gJ row).Nodup:=ni (xu row)
theorem DS {a b:List Int}(ha:a.Nodup)(hb:b.Nodup){k:Int}:k∈gJ (a++b)↔¬ (k∈a↔k∈b):=by
 rw[kz,bo,tQ ha,tQ hb];by_cases h1:k∈a<;>by_cases h2:k∈b<;>simp[h1,h2]
theorem tR {a s:List Int}(ha:a.Nodup)(hs:s.Nodup):(gJ (a++s)).Perm ((a.filter λk=>!decide (k∈s))++(s.filter λk=>!decide (k∈a))):=by
 refine (bY (pw _) (bM.mpr ⟨ha.filter _,hs.filter _,λx hx y hy e=>?_⟩)).mpr λk=>?_
 .subst e
  have h1:=(aE.mp hx).1;have h2:=(aE.mp hy).2;simp[h1] at h2
 .rw[DS ha hs,bc,aE,aE]
  by_cases h1:k∈a<;>by_cases h2:k∈s<;>simp[h1,h2]
theorem v5 {a s:List Int}(ha:a.Nodup)(hs:s.Nodup):(a.filter λk=>decide (k∈s)).Perm (s.filter λk=>decide (k∈a)):=by
 refine (bY (ha.filter _) (hs.filter _)).mpr λk=>?_;rw[aE,aE];simp[and_comm]
theorem fK {α:Type}(l:List α):l.filter (λ_=>true)=l:=by simp
abbrev DT (ts:List d3):Prop:=∀t∈ts,t.2.2.natAbs<=99
theorem rQ {ts:List d3}{k:Int}(h:0<=k/\k<(ts.length:Int)):lQ (ts.map d4) k=some (d4 (ts.getD k.toNat (0,0,0))):=by
 obtain⟨t,h1,_,h2⟩:=ly h.1 h.2;rw[h2,ar,h1];rfl
theorem NV {ts:List d3}(hp:DT ts){k:Int}(h:0<=k/\k<(ts.length:Int)):(DR ts k).natAbs<=99:=by
 obtain⟨t,h1,h3,_⟩:=ly h.1 h.2;unfold DR;rw[ar,h1];exact hp t h3
theorem DU {ts:List d3}{ks:List Int}(hp:DT ts)(hk:mE ts ks):yZ [.list ((ks.map (DR ts)).map .int)]=some (.int (lP ts ks)):=by
 simp only[yZ,AO,fq,bV]
 rw[if_pos λn hn=>by
  obtain⟨k,HI,rfl⟩:=bb.mp hn;have:=NV hp (hk k HI);omega]
 rfl
theorem JV (row:List Int):(i6 row).length<=row.length:=ee (gn row) λk hk=>gc.mp hk
section
variable {n:Int}{X:XQ}{Q:ad->Int->Prop}
theorem qX {many:Int}{ts:List d3}{ks:List Int}(hp:DT ts)(hk:mE ts ks):jv [dI many ts,dk ks] n Q X=Q (.int (lP ts ks)) n:=by
 rw[dk];simp! [jv,nM]
 rw[kr (λk=>.int (DR ts k)) (λ_=>true) _ _ _ _ (λk HI n Q=>by
  rw[dI];simp! [eC,rQ (hk k HI),d4,o6,DR]) (λk _ n Q=>by simp! [de])]
 have e:([]++(ks.filter λ_=>true).map λk=>ad.int (DR ts k))=(ks.map (DR ts)).map .int:=by rw[fK,aw,bf];rfl
 rw[e];simp! [DU hp hk]
theorem Bg {row:List Int}(h1:(i6 row).length<=60)(h2:row.length<=100000):iq [.tuple (row.map .int)] n Q X=Q (dk (gJ row)) n:=by
 simp only[iq,fq,c7,h1,h2,true_and,dk,and_self]
theorem mF {a b:List Int}(h:a.length+b.length<=60):gK [dk a,dk b] n Q X=Q (dk (gJ (a++b))) n:=by
 have e:lL (.tuple (a.map .int)) (.tuple (b.map .int))=some (.tuple ((a++b).map .int)):=by rw[Nz (by rw[ai,ai];omega),aU]
 have hl:(a++b).length<=60:=by rw[aO];exact h
 simp! [gK,nK];rw[dk,dk];simp! [e,Bg (aT (JV (a++b)) hl) (!1)]
end
theorem zq (k:List Int):ef [] k=none:=rfl
theorem jj (p:List Int × ad)(kvs:jV)(k:List Int):ef (p::kvs) k=if p.1=k then some p.2 else ef kvs k:=by
 unfold ef;rw[bG];by_cases h:p.1=k
 .rw[decide_eq_true h,if_pos h];rfl
 .rw[decide_eq_false h,if_neg h]
theorem v7 (k j:List Int)(d:ad):∀kvs:jV,(kvs.any λp=>decide (p.1=k))=false->ef (kvs++[(k,d)]) j=if j=k then some d else ef kvs j
 | [],_=>by
  rw[aw,jj,zq];by_cases h:j=k
  .rw[if_pos h.symm,if_pos h]
  .rw[if_neg (λz=>h z.symm),if_neg h]
 | p::kvs,ha=>by
  rw[bK,Bool.or_eq_false_iff] at ha;have hp:¬ p.1=k:=of_decide_eq_false ha.1;rw[aM,jj,v7 k j d kvs ha.2,jj];by_cases h:p.1=j
  .rw[if_pos h,if_pos h,if_neg (λz=>hp (h.trans z))]
  .rw[if_neg h,if_neg h]
theorem zr (k j:List Int)(d:ad):∀kvs:jV,ef (kvs.map λp=>if p.1=k then (p.1,d) else p) j=(ef kvs j).map λx=>if j=k then d else x
 | []=>rfl
 | p::kvs=>by
  rw[ah,jj,jj,zr k j d kvs];by_cases h:p.1=k
  .rw[if_pos h]
   by_cases h2:p.1=j
   .rw[if_pos h2,if_pos h2,bg,if_pos (h2.symm.trans h)]
   .rw[if_neg h2,if_neg h2]
  .rw[if_neg h]
   by_cases h2:p.1=j
   .rw[if_pos h2,if_pos h2,bg,if_neg (λz=>h (h2.trans z))]
   .rw[if_neg h2,if_neg h2]
theorem pz (k:List Int):∀kvs:jV,(kvs.any λp=>decide (p.1=k))=(ef kvs k).isSome
 | []=>rfl
 | p::kvs=>by
  rw[bK,jj,pz k kvs];by_cases h:p.1=k
  .rw[if_pos h,decide_eq_true h];rfl
  .rw[if_neg h,decide_eq_false h];rfl
theorem kA (kvs:jV)(k j:List Int)(d:ad):ef (jW kvs k d) j=if j=k then some d else ef kvs j:=by
 unfold jW;split
 .rename_i h
  rw[pz] at h;rw[zr];by_cases hj:j=k
  .subst hj
   obtain⟨x,hx⟩:=bJ.mp h;rw[hx,if_pos rfl,bg,if_pos rfl]
  .rw[if_neg hj]
   cases ef kvs j with
   | none=>rfl
   | some x=>rw[bg,if_neg hj]
 .rename_i h
  exact v7 k j d kvs (Bool.eq_false_iff.mpr h)
def gx (kvs:jV):List (List Int):=kvs.map (·.1)
theorem zt (kvs:jV)(k:List Int)(d:ad):gx (jW kvs k d)=if k∈gx kvs then gx kvs else gx kvs++[k]:=by
 have ha:((kvs.any λp=>decide (p.1=k))=true)↔k∈gx kvs:=by
  rw[cO,gx,bb];constructor
  .rintro⟨p,hp,h⟩;exact⟨p,hp,of_decide_eq_true h⟩
  .rintro⟨p,hp,h⟩;exact⟨p,hp,decide_eq_true h⟩
 unfold jW;by_cases h:(kvs.any λp=>decide (p.1=k))=true
 .rw[if_pos h,if_pos (ha.mp h),gx,gx,bf]
  refine ca λp _=>?_;show (if p.1=k then (p.1,d) else p).1=p.1;split<;>rfl
 .rw[if_neg h,if_neg (λz=>h (ha.mpr z)),gx,gx,aU]
  rfl
theorem zu (row:List Int)(v:Int):(gJ row).count v % 2=row.count v % 2:=by
 rw[tQ (pw row)];by_cases h:v∈gJ row
 .rw[if_pos h,kz.mp h]
 .rw[if_neg h]
  have:¬ row.count v % 2=1:=λz=>h (kz.mpr z);omega
noncomputable def g9 (ls:List Int)(t:d3):List Int:=match ls[t.1.toNat]?,ls[t.2.1.toNat]? with
 | some a,some b=>ls.map λl=>if l=(if a<b then b else a) then (if b<a then b else a) else l
 | _,_=>ls
structure Kl (many:Nat) (ts:List d3) (ls:List Int):Prop where
 len:ls.length=many
 join:∀t∈ts,ls[t.1.toNat]? = ls[t.2.1.toNat]?
 DV:∀C:Nat->Prop,(∀t∈ts,(C t.1.toNat↔C t.2.1.toNat))->∀p q l,ls[p]? = some l->ls[q]? = some l->(C p↔C q)
theorem Kl.begin (many:Nat):Kl many [] (eA 0 many):=by
 refine⟨by rw[gz],!4,λC _ p q l h1 h2=>?_⟩
 have e:∀(p:Nat) (l:Int),(eA 0 many)[p]? = some l->l=(p:Int):=λp l h=>by
  unfold eA at h;rw[az] at h
  cases hr:(List.range many)[p]? with
  | none=>rw[hr] at h;cases h
  | some x =>
   rw[hr] at h;have:=aG.mp hr;obtain⟨hl,hx⟩:=this;rw[List.getElem_range] at hx;cases h;show 0+(x:Int)=p;omega
 have a:=e p l h1;have b:=e q l h2;have:p=q:=by omega
 rw[this]
theorem DW {x y M m:Int}(gQ:¬ x=y)(h:(if x=M then m else x)=(if y=M then m else y)):(x=M/\y=m)\/(x=m/\y=M):=by
 by_cases h1:x=M
 .by_cases h2:y=M
  .exact absurd (h1.trans h2.symm) gQ
  .rw[if_pos h1,if_neg h2] at h
   exact .inl ⟨h1,h.symm⟩
 .by_cases h2:y=M
  .rw[if_neg h1,if_pos h2] at h
   exact .inr ⟨h,h2⟩
  .rw[if_neg h1,if_neg h2] at h
   exact absurd h gQ
theorem Kl.step {many:Nat}{ts:List d3}{ls:List Int}(k:Kl many ts ls){t:d3}(h1:t.1.toNat<many)(h2:t.2.1.toNat<many):Kl many (ts++[t]) (g9 ls t):=by
 have l1:t.1.toNat<ls.length:=by rw[k.len];exact h1
 have l2:t.2.1.toNat<ls.length:=by rw[k.len];exact h2
 obtain⟨a,ha⟩:∃a,ls[t.1.toNat]? = some a:=⟨ls[t.1.toNat],by simp[l1]⟩;obtain⟨b,hb⟩:∃b,ls[t.2.1.toNat]? = some b:=⟨ls[t.2.1.toNat],by simp[l2]⟩
 have e:g9 ls t=ls.map λl=>if l=(if a<b then b else a) then (if b<a then b else a) else l:=by
  unfold g9;rw[ha,hb]
 rw[e];refine⟨by rw[ai];exact k.len,λu hu=>?_,λC hC p q l hp hq=>?_⟩
 .rw[az,az]
  rcases bc.mp hu with hu | hu
  .rw[k.join u hu]
  .have eu:=av.mp hu
   subst eu;rw[ha,hb];simp only[bg,Option.some.injEq];by_cases x8:a<b
   .have:¬ b<a:=by omega
    simp only[x8,this,if_true,if_false];by_cases h:a=b<;>simp[h]
   .simp only[x8,if_false,if_true]
    by_cases h:b<a
    .have:b≠a:=by omega
     simp[h,this]
    .have:a=b:=by omega
     simp[this]
 .rw[az] at hp hq
  have Rv:∀u∈ts,(C u.1.toNat↔C u.2.1.toNat):=λu hu=>hC u (bC _ hu);have x8:=hC t (aN _ (av.mpr rfl))
  cases AZ:ls[p]? with
  | none=>rw[AZ] at hp;cases hp
  | some x =>
   cases FO:ls[q]? with
   | none=>rw[FO] at hq;cases hq
   | some y =>
    rw[AZ] at hp;rw[FO] at hq;simp only[bg,Option.some.injEq] at hp hq;by_cases Bd:x=y
    .subst Bd
     exact k.DV C Rv p q x AZ FO
    .have hM:(if a<b then b else a)=a\/(if a<b then b else a)=b:=by
      split
      .exact .inr rfl
      .exact .inl rfl
     have hm:(if b<a then b else a)=a\/(if b<a then b else a)=b:=by
      split
      .exact .inr rfl
      .exact .inl rfl
     have Rw:=DW Bd (hp.trans hq.symm)
     have hx:x=a\/x=b:=by
      rcases Rw with⟨z,_⟩ | ⟨z,_⟩
      .rw[z];exact hM
      .rw[z];exact hm
     have hy:y=a\/y=b:=by
      rcases Rw with⟨_,z⟩ | ⟨_,z⟩
      .rw[z];exact hm
      .rw[z];exact hM
     have px:C p↔C t.1.toNat:=by
      rcases hx with rfl | rfl
      .exact k.DV C Rv p _ x AZ ha
      .exact (k.DV C Rv p _ x AZ hb).trans x8.symm
     have py:C q↔C t.1.toNat:=by
      rcases hy with rfl | rfl
      .exact k.DV C Rv q _ y FO ha
      .exact (k.DV C Rv q _ y FO hb).trans x8.symm
     exact px.trans py.symm
theorem Kl.fold {many:Nat}:∀{us ts:List d3} {ls:List Int},Kl many ts ls->(∀t∈us,t.1.toNat<many/\t.2.1.toNat<many)->Kl many (ts++us) (us.foldl g9 ls)
 | [],ts,ls,k,_=>by simpa using k
 | t::us,ts,ls,k,h=>by
  have:=Kl.fold (us:=us) (k.step (h t (ao ..)).1 (h t (ao ..)).2) λu hu=>h u (am _ hu);rw[bL] at this;exact this
noncomputable def gN (p:Int->Bool):Nat->List Int->List Int
 | _,[]=>[]
 | k,x::xs=>if p x=true then (k:Int)::gN p (k+1) xs else gN p (k+1) xs
theorem tS {p:Int->Bool}{i:Int}:∀{xs:List Int} {k:Nat},i∈gN p k xs↔∃j x,i=((k+j:Nat):Int)/\xs[j]? = some x/\p x=true
 | [],k=>by simp[gN]
 | x::xs,k=>by
  have ih:=tS (p:=p) (i:=i) (xs:=xs) (k:=k+1)
  have key:(∃j y,i=((k+1+j:Nat):Int)/\xs[j]? = some y/\p y=true)↔∃j y,i=((k+(j+1):Nat):Int)/\(x::xs)[j+1]? = some y/\p y=true:=by
   constructor
   .rintro⟨j,y,e,h⟩
    exact⟨j,y,!1,h⟩
   .rintro⟨j,y,e,h⟩
    exact⟨j,y,!1,h⟩
  unfold gN;constructor
  .intro h
   split at h
   .rename_i hp
    rcases ap.mp h with rfl | h
    .exact⟨0,x,rfl,rfl,hp⟩
    .obtain⟨j,y,h⟩:=key.mp (ih.mp h)
     exact⟨j+1,y,h⟩
   .obtain⟨j,y,h⟩:=key.mp (ih.mp h)
    exact⟨j+1,y,h⟩
  .rintro⟨j,y,e,h1,h2⟩
   cases j with
   | zero =>
    simp only[aa,Option.some.injEq] at h1;subst h1;rw[if_pos h2];exact ap.mpr (.inl e)
   | succ j =>
    have:=ih.mpr (key.mpr ⟨j,y,e,h1,h2⟩);split
    .exact am _ this
    .exact this
section
variable {n:Int}{X:XQ}
theorem zv {p:Int->Bool}{uc:UT}{Q:List ad->Int->Prop}{rest:eI}:∀(xs:List Int) (k:Nat) (acc:List ad) (x y:Option sM),(∀a∈xs,∀(b:Int) n Q,uc (some (.s (.int a))::some (.s (.int b))::rest) n Q=Q (p a) n) ->
  fA (Ey [gC 1,gC 0]) uc (dq 1) Q (((xs.map ad.int).zipIdx k).map λq=>ad.tuple [.int (q.2:Nat),q.1]) acc (x::y::rest) n=Q (acc++(gN p k xs).map .int) n
 | [],k,acc,x,y,_=>by simp[fA,gN]
 | a::xs,k,acc,x,y,h=>by
  have ih:=λacc x y=>zv (Q:=Q) xs (k+1) acc x y λb hb=>h b (am _ hb);simp only[ah,List.zipIdx_cons,fA,Ey,yE,gC,aC,aD,h a (ao ..)];unfold gN;by_cases hp:p a=true
  .simp! [hp,if_true]
   rw[ih];simp
  .have AZ:p a=false:=by simpa using hp
   simp only[AZ,bR,if_false];rw[ih]
variable {Q:ad->Int->Prop}
theorem xv (ls:List Int)(l:Int):iL [.list (ls.map .int),.int l] n Q X=Q (dk (gN (λa=>decide (a=l)) 0 ls)) n:=by
 simp! [iL,l8,gy];rw[zv (p:=λa=>decide (a=l)) _ _ _ _ _ λa _ b n Q=>by simp! [eY]];simp! [ff,dk]
def dn (many:Int)(ts:List d3):List Int:=ts.foldl g9 (eA 0 many.toNat)
theorem tU (ls:List Int)(t:d3):(g9 ls t).length=ls.length:=by
 unfold g9;split<;>simp
theorem zw {many:Int}{ts:List d3}(h0:0<=many)(h1:many<60)(ok:∀t∈ts,0<=t.1/\t.1<many/\0<=t.2.1/\t.2.1<many) :
  kO [dI many ts] n Q X=Q (.tuple ((kL (dn many ts)).map λl=>dk (gN (λa=>decide (a=l)) 0 (dn many ts)))) n:=by
 simp! [kO,nN,dI,eJ,eC];have hd:(-(2 ^ 62)<=many/\many<=16777216):=⟨!1,!1⟩;simp only[hd,true_and]
 have key:∀(us:List d3) (ls:List Int) (w:ad) (x2 x3 x4:Option sM),ls.length=many.toNat->(∀t∈us,t∈ts)->iK (gC 2) (de (dQ 3 (iB qO (c6 (di dZ (c5 1) (di dZ (c5 2) (uC (ad.int 0)))) (c6 (di dZ (c5 1) (di dZ (c5 2) (uC (ad.int 1)))) dc))))
   (de (dQ 4 (iB qP (c6 (di dZ (c5 1) (di dZ (c5 2) (uC (ad.int 0)))) (c6 (di dZ (c5 1) (di dZ (c5 2) (uC (ad.int 1)))) dc))))
    (dQ 1 (uL (d5 (pT (c5 1)) [none,some 3,some 4] (gC 0) nE (Jt (dB (di lR (c5 0) (c5 2))) (dq 1) (dq 0)))))))
   { nx:=dM (iB ff (c6 (uL (d5 (pT (uL (wZ (c5 1)))) [none,some 1] (gC 0) nE (dh iL (c6 (dq 1) (c6 (dq 0) dc))))) dc)) { nx:=λx n'=>Q ad.none n',rt:=Q },rt:=Q }
   (us.map d4) [some (.s w),some (.s (.list (ls.map .int))),x2,x3,x4] n=Q (.tuple ((kL (us.foldl g9 ls)).map λl=>dk (gN (λa=>decide (a=l)) 0 (us.foldl g9 ls)))) n:=by
  intro us
  induction us with
  | nil =>
   intro ls w x2 x3 x4 hl _;have R5:ls.length<64:=by omega
   simp! [iK,ba,fq,R5];rw[kr (λl=>dk (gN (λa=>decide (a=l)) 0 ls)) (λ_=>true) _ _ _ _ (λk _ n Q=>by simp! [xv]) (λk _ n Q=>by simp! [de])];simp! [ff,fK,List.foldl_nil]
  | cons t us ih =>
   intro ls w x2 x3 x4 hl OB;have ht:=ok t (OB t (ao ..));obtain⟨a,ha,_,j8⟩:=yY (ns:=ls) (i:=t.1) ht.1 (!1);obtain⟨b,hb,_,AJ⟩:=yY (ns:=ls) (i:=t.2.1) ht.2.2.1 (!1)
   have e:g9 ls t=ls.map λl=>if l=(if a<b then b else a) then (if b<a then b else a) else l:=by
    unfold g9;rw[j8,AJ]
   simp! [iK,d4,eJ,eC,ha,hb,qO,qP]
   rw[kr (λl=>.int (if l=(if a<b then b else a) then (if b<a then b else a) else l)) (λ_=>true) _ _ _ _ (λk _ n Q=>by
    simp! [eY,gt_iff_lt];by_cases hk:k=(if a<b then b else a)<;>simp[hk]) (λk _ n Q=>by simp! [de])]
   have e2:(ls.map λl=>ad.int (if l=(if a<b then b else a) then (if b<a then b else a) else l))=(g9 ls t).map .int:=by rw[e,bf];rfl
   simp! [fK,e2];rw[cF];exact ih (g9 ls t) _ _ _ _ (by rw[tU];exact hl) λu hu=>OB u (am _ hu)
 rw[kM];exact key ts _ _ _ _ _ (gz _ _) (λ_ h=>h)
end
theorem tV (ts:List d3)(p:Int->Bool)(u:Int):∀l:List Int,(fX ts l).count u=(fX ts (l.filter p)).count u+(fX ts (l.filter λk=>!p k)).count u
 | []=>rfl
 | k::l=>by
  have ih:=tV ts p u l
  cases hp:p k with
  | true =>
   rw[bw hp,bA (by simp[hp]),gM,gM,bo,bo];omega
  | false =>
   rw[bA (by simp[hp]),bw (by simp[hp]),gM,gM,bo,bo];omega
theorem tW (p:Int->Bool):∀l:List Int,l.length=(l.filter p).length+(l.filter λk=>!p k).length
 | []=>rfl
 | k::l=>by
  have ih:=tW p l
  cases hp:p k with
  | true =>
   rw[bw hp,bA (by simp[hp]),aj,aj];omega
  | false =>
   rw[bA (by simp[hp]),bw (by simp[hp]),aj,aj];omega
theorem n6 {ts:List d3}{a s:List Int}(ha:a.Nodup)(hs:s.Nodup)(u:Int):(fX ts (gJ (a++s))).count u % 2=((fX ts a).count u+(fX ts s).count u) % 2:=by
 have h1:=(lz (ts:=ts) (tR ha hs)).count_eq u;rw[pv,bo] at h1;have h2:=tV ts (λk=>decide (k∈s)) u a;have h3:=tV ts (λk=>decide (k∈a)) u s;have h4:=(lz (ts:=ts) (v5 ha hs)).count_eq u;omega
theorem v8 {a s:List Int}(ha:a.Nodup)(hs:s.Nodup):(gJ (a++s)).length % 2=(a.length+s.length) % 2:=by
 have h1:=(tR ha hs).length_eq;rw[aO] at h1;have h2:=tW (λk=>decide (k∈s)) a;have h3:=tW (λk=>decide (k∈a)) s;have h4:=(v5 ha hs).length_eq;omega
theorem Hb {l:List Int}(h:∀v,l.count v % 2=0):gJ l=[]:=List.eq_nil_iff_forall_not_mem.mpr λk hk=>by
 have:=kz.mp hk;have:=h k;omega
def pH (ls:List Int)(v:Int):Int:=(gN (λa=>decide (a=ls.getD v.toNat 0)) 0 ls).headD 0
theorem getD_at {ls:List Int}{i:Nat}(h:i<ls.length):ls[i]? = some (ls.getD i 0):=by
 rw[ar,aL h];rfl
theorem Hc {ls:List Int}{v:Int}(h0:0<=v)(h1:v<(ls.length:Int)):pH ls v∈gN (λa=>decide (a=ls.getD v.toNat 0)) 0 ls:=by
 have hm:v∈gN (λa=>decide (a=ls.getD v.toNat 0)) 0 ls:=tS.mpr ⟨v.toNat,ls.getD v.toNat 0,!1,getD_at (!1),!4⟩;unfold pH
 cases h:gN (λa=>decide (a=ls.getD v.toNat 0)) 0 ls with
 | nil=>rw[h] at hm;cases hm
 | cons a r=>exact ao ..
theorem Lm {ls:List Int}{v:Int}(h0:0<=v)(h1:v<(ls.length:Int)):0<=pH ls v/\pH ls v<(ls.length:Int)/\ls.getD (pH ls v).toNat 0=ls.getD v.toNat 0:=by
 obtain⟨j,x,e,hx,hp⟩:=tS.mp (Hc h0 h1);have hj:=(aG.mp hx).1;rw[e];refine⟨!1,!1,?_⟩;rw[show ((0+j:Nat):Int).toNat=j by omega,ar,hx];exact of_decide_eq_true hp
theorem Cs {ls:List Int}{u v:Int}(h:ls.getD u.toNat 0=ls.getD v.toNat 0):pH ls u=pH ls v:=by
 unfold pH;rw[h]
abbrev eV (ts:List d3)(k:Int):d3:=ts.getD k.toNat (0,0,0)
abbrev n8 (many:Int)(ts:List d3):Prop:=∀t∈ts,0<=t.1/\t.1<t.2.1/\t.2.1<many
theorem jE {ts:List d3}{k:Int}(h:0<=k/\k<(ts.length:Int)):eV ts k∈ts:=by
 obtain⟨t,h1,h2,_⟩:=ly (ts:=ts) h.1 h.2;unfold eV;rw[ar,h1];exact h2
theorem JW (kvs:jV)(k:List Int):(ef kvs k).isSome=true↔k∈gx kvs:=by
 rw[<- pz,cO,gx,bb];constructor
 .rintro⟨p,hp,h⟩;exact⟨p,hp,of_decide_eq_true h⟩
 .rintro⟨p,hp,h⟩;exact⟨p,hp,decide_eq_true h⟩
abbrev bI (p:Prop)[Decidable p]:Nat:=if p then 1 else 0
structure Fo (many:Int) (ts:List d3) (rt:Int->Int) (kvs:jV) (tr:List Int):Prop where
 val:∀v d,ef kvs [v]=some d->0<=v/\v<many/\∃w:List Int,d=dk w/\w.Pairwise (· < ·)/\(∀k∈w,k∈tr)/\∀u,(fX ts w).count u % 2=(bI (u=v)+bI (u=rt v)) % 2
 key:∀l∈gx kvs,∃v,l=[v]
 nd:(gx kvs).Nodup
 num:mE ts tr
 WE:∀k∈tr,∃wa wb,ef kvs [(eV ts k).1]=some (dk wa)/\ef kvs [(eV ts k).2.1]=some (dk wb)/\gJ ([k]++gJ (wa++wb))=[]
 free:∀S:List Int,S.Nodup->(∀k∈S,k∈tr)->ky ts S->S=[]
theorem Fo.nil (many:Int)(ts:List d3)(rt:Int->Int):Fo many ts rt [] []:=⟨λv d h=>(by rw[zq] at h;cases h),λl h=>(by simp[gx] at h),by simp[gx],λk hk=>(by cases hk),λk hk=>(by cases hk),λS _ h _=>List.eq_nil_iff_forall_not_mem.mpr λk hk=>(by cases h k hk)⟩
section
variable {many:Int}{ts:List d3}{rt:Int->Int}{kvs:jV}{tr:List Int}
theorem Ct {y:Int}{d:ad}(h:∀l∈gx kvs,∃v,l=[v]):∀l∈gx (jW kvs [y] d),∃v,l=[v]:=λl hl=>by
 rw[zt] at hl;split at hl
 .exact h l hl
 .rcases bc.mp hl with hl | hl
  .exact h l hl
  .exact⟨y,av.mp hl⟩
theorem Hd {y:Int}{d:ad}(h:(gx kvs).Nodup):(gx (jW kvs [y] d)).Nodup:=by
 rw[zt];split
 .exact h
 .rename_i hm
  rw[bM];exact⟨h,!4,λa ha b hb=>by rw[av.mp hb];exact λz=>hm (z ▸ ha)⟩
theorem Fo.root (F:Fo many ts rt kvs []){p:Int}(h0:0<=p)(h1:p<many)(hr:rt p=p):Fo many ts rt (jW kvs [p] (dk [])) []:=by
 refine⟨λv d h=>?_,Ct F.key,Hd F.nd,F.num,λk hk=>(by cases hk),F.free⟩;rw[kA] at h;by_cases hv:v=p
 .subst hv
  rw[if_pos rfl] at h;cases h;refine⟨h0,h1,[],rfl,List.Pairwise.nil,!4,λu=>?_⟩;rw[hr];show 0 % 2=(bI (u=v)+bI (u=v)) % 2;omega
 .rw[if_neg (by simpa using hv)] at h
  exact F.val v d h
theorem tX {ts:List d3}{k x y:Int}(h:(eV ts k).1=x/\(eV ts k).2.1=y\/(eV ts k).2.1=x/\(eV ts k).1=y)(u:Int):(kx ts k).count u=bI (u=x)+bI (u=y):=by
 have c1:∀a b:Int,[a,b].count u=bI (u=a)+bI (u=b):=λa b=>by
  have e:∀a:Int,(if (a == u)=true then 1 else 0)=bI (u=a):=λa=>by
   by_cases h:u=a
   .subst h;simp[bI]
   .rw[bI,if_neg h,if_neg (by simpa using λz=>h z.symm)]
  rw[cr,cr,List.count_nil,e,e];omega
 show [(eV ts k).1,(eV ts k).2.1].count u=_;rw[c1];rcases h with⟨rfl,rfl⟩ | ⟨rfl,rfl⟩
 .rfl
 .exact Nat.add_comm _ _
theorem Fo.grow (F:Fo many ts rt kvs tr){k x y:Int}{w:List Int}(hk:0<=k/\k<(ts.length:Int))(Bd:(eV ts k).1=x/\(eV ts k).2.1=y\/(eV ts k).2.1=x/\(eV ts k).1=y)(gQ:x≠y)(y0:0<=y)(y1:y<many)
  (hx:ef kvs [x]=some (dk w)) (hy:ef kvs [y]=none) (hr:rt y=rt x):Fo many ts rt (jW kvs [y] (dk (gJ (w++[k])))) (tr++[k]):=by
 obtain⟨_,_,w',ew,hw,YI,YJ⟩:=F.val x _ hx
 have e:w'=w:=by
  have:w'.map ad.int=w.map ad.int:=by injection ew.symm
  exact List.map_inj_right (λa b h=>by injection h) |>.mp this
 subst e;have NW:∀v d,ef kvs [v]=some d->v≠y:=λv d h z=>by rw[z,hy] at h;cases h
 have YK:∀u,(fX ts [k]).count u=bI (u=x)+bI (u=y):=λu=>by
  show (kx ts k++[]).count u=_;rw[bj];exact tX Bd u
 have keep:∀{v:Int} {d:ad},ef kvs [v]=some d->ef (jW kvs [y] (dk (gJ (w'++[k])))) [v]=some d:=λ{v d} h=>by
  rw[kA,if_neg (by simpa using NW v d h)];exact h
 have xK:ef (jW kvs [y] (dk (gJ (w'++[k])))) [y]=some (dk (gJ (w'++[k]))):=by rw[kA,if_pos rfl]
 refine⟨λv d h=>?_,Ct F.key,Hd F.nd,λj hj=>?_,λj hj=>?_,λS hS jG HQ=>?_⟩
 .rw[kA] at h
  by_cases hv:v=y
  .subst hv
   rw[if_pos rfl] at h;cases h;refine⟨y0,y1,_,rfl,xu _,λj hj=>?_,λu=>?_⟩
   .have hj:j∈w'++[k]:=cg.mp (by have:=kz.mp hj;omega)
    rcases bc.mp hj with hj | hj
    .exact bC _ (YI j hj)
    .exact aN _ hj
   .have h1:=n6 (ts:=ts) (ni hw) (by simp:[k].Nodup) u
    have h2:=YJ u;have h3:=YK u;rw[hr];generalize bI (u=x)=A at h2 h3;generalize bI (u=v)=B at h3 ⊢;generalize bI (u=rt x)=C at h2 ⊢;omega
  .rw[if_neg (by simpa using hv)] at h
   obtain⟨a,b,w2,e2,h2,h3,h4⟩:=F.val v d h;exact⟨a,b,w2,e2,h2,λj hj=>bC _ (h3 j hj),h4⟩
 .rcases bc.mp hj with hj | hj
  .exact F.num j hj
  .rw[av.mp hj];exact hk
 .rcases bc.mp hj with hj | hj
  .obtain⟨wa,wb,h1,h2,h3⟩:=F.WE j hj
   exact⟨wa,wb,keep h1,keep h2,h3⟩
  .rw[av.mp hj]
   have ev:∀a b:List Int,(∀v,(a++b).count v=(w'++gJ (w'++[k])).count v)->gJ ([k]++gJ (a++b))=[]:=λa b x8=>Hb λv=>by
    have h1:=zu (a++b) v;have h2:=zu (w'++[k]) v;have h3:=x8 v;rw[bo] at h2 h3 ⊢;rw[bo] at h3;rw[bo] at h1;omega
   rcases Bd with⟨e1,e2⟩ | ⟨e1,e2⟩
   .rw[e1,e2]
    exact⟨w',_,keep hx,xK,ev _ _ λv=>rfl⟩
   .rw[e1,e2]
    exact⟨_,w',xK,keep hx,ev _ _ λv=>by rw[bo,bo];omega⟩
 .by_cases Rx:k∈S
  .exfalso
   have hp:=List.perm_cons_erase Rx;have hc:=(lz (ts:=ts) hp).count_eq y;rw[gM,bo,tX Bd y] at hc
   have h0:(fX ts (S.erase k)).count y=0:=List.count_eq_zero.mpr λhm=>by
    obtain⟨l,hl,Oz⟩:=List.mem_flatten.mp hm;obtain⟨j,hj,rfl⟩:=bb.mp hl
    have YL:j≠k:=λz=>by
     subst z;exact (bF.mp (hp.nodup_iff.mp hS)).1 hj
    have YM:j∈tr:=by
     rcases bc.mp (jG j (List.mem_of_mem_erase hj)) with h | h
     .exact h
     .exact absurd (av.mp h) YL
    obtain⟨wa,wb,h1,h2,_⟩:=F.WE j YM;have Oz:y∈[(eV ts j).1,(eV ts j).2.1]:=Oz;simp only[ap,br,or_false] at Oz;rcases Oz with e | e
    .exact NW _ _ h1 e.symm
    .exact NW _ _ h2 e.symm
   have h2:=HQ y;rw[show bI (y=x)=0 from if_neg (λz=>gQ z.symm),show bI (y=y)=1 from if_pos rfl,h0] at hc;omega
  .exact F.free S hS (λj hj=>by
    rcases bc.mp (jG j hj) with h | h
    .exact h
    .exact absurd (av.mp h ▸ hj) Rx) HQ
end
structure qA (many:Int) (ts:List d3) (kvs:jV) (tr:List Int):Prop where
 fo:Fo many ts (pH (dn many ts)) kvs tr
 all:∀v,0<=v->v<many->(ef kvs [v]).isSome=true
theorem tY (many:Int)(ts:List d3):(dn many ts).length=many.toNat:=by
 have:∀(us:List d3) (ls:List Int),(us.foldl g9 ls).length=ls.length:=by
  intro us
  induction us with
  | nil=>intro ls;rfl
  | cons t us ih=>intro ls;rw[cF,ih,tU]
 unfold dn;rw[this,gz]
theorem v9 {many:Int}{ts:List d3}(ok:n8 many ts):Kl many.toNat ts (dn many ts):=by
 have:=Kl.fold (us:=ts) (Kl.begin many.toNat) λt ht=>by
  have:=ok t ht;omega
 rwa [aw] at this
theorem He {many:Int}{ts:List d3}(ok:n8 many ts){t:d3}(ht:t∈ts):pH (dn many ts) t.1=pH (dn many ts) t.2.1:=by
 refine Cs ?_;have:=(v9 ok).join t ht;rw[ar,ar,this]
theorem NY {many:Int}{ts:List d3}(ok:n8 many ts){C:Int->Prop}(hC:∀t∈ts,(C t.1↔C t.2.1)){v:Int}(h0:0<=v)(h1:v<many):C v↔C (pH (dn many ts) v):=by
 have hl:=tY many ts;obtain⟨r0,r1,hr⟩:=Lm (ls:=dn many ts) (v:=v) h0 (!1)
 have hm:=(v9 ok).DV (λi=>C (i:Int)) (λt ht=>by
  have:=ok t ht;rw[show ((t.1.toNat:Nat):Int)=t.1 by omega,show ((t.2.1.toNat:Nat):Int)=t.2.1 by omega];exact hC t ht) v.toNat (pH (dn many ts) v).toNat _ (getD_at (!1)) (by rw[<- hr];exact getD_at (!1))
 rwa [show ((v.toNat:Nat):Int)=v by omega,show (((pH (dn many ts) v).toNat:Nat):Int)=pH (dn many ts) v by omega] at hm
theorem Ln (i:Int):DA false (.int i)=some [i]:=rfl
abbrev Pl (x:Option sM):Prop:=∀a t kvs,x≠some (.d a t kvs)
theorem zx (d:ad):Pl (some (.s d)):=λ_ _ _ z=>by cases z
theorem Hf:Pl none:=λ_ _ _ z=>by cases z
theorem Cu {e:Option sM}{a:Addr}:∀(pre post:List (Option sM)),(∀x∈pre++post,Pl x)->NI (pre++e::post) pre.length a
 | pre,post,h=>λj t kvs hj z=>by
  by_cases h1:j<pre.length
  .rw[bP h1] at z
   exact h _ (bC _ (bB z)) a t kvs rfl
  .rw[bW (!1)] at z
   obtain⟨i,hi⟩:∃i,j - pre.length=i+1:=⟨j - pre.length - 1,!1⟩;rw[hi,ac] at z;exact h _ (aN _ (bB z)) a t kvs rfl
theorem Fo.len {many:Int}{ts:List d3}{rt:Int->Int}{kvs:jV}{tr:List Int}(F:Fo many ts rt kvs tr):kvs.length<=many.toNat:=by
 have h1:((gx kvs).map λl=>l.headD 0).Nodup:=by
  refine cy.mpr (List.Pairwise.imp_of_mem ?_ F.nd);intro a b ha hb x8 z;obtain⟨x,rfl⟩:=F.key a ha;obtain⟨y,rfl⟩:=F.key b hb;exact x8 (by simpa using z)
 have h2:=ee (ns:=eA 0 many.toNat) h1 λv hv=>by
  obtain⟨l,hl,rfl⟩:=bb.mp hv;obtain⟨x,rfl⟩:=F.key l hl;obtain⟨d,hd⟩:=bJ.mp ((JW kvs [x]).mpr hl);have:=F.val x d hd;exact dU.mpr ⟨this.1,by have:=this.2.1;simp;omega⟩
 rw[ai,gx,ai,gz] at h2;exact h2
theorem rR {ts:List d3}{w tr:List Int}(h1:w.Pairwise (· < ·))(h2:∀k∈w,k∈tr)(h3:mE ts tr):w.length<=ts.length:=by
 have:=ee (ns:=eA 0 ts.length) (ni h1) λk hk=>dU.mpr (by have:=h3 k (h2 k hk);omega);rwa [gz] at this
theorem JX {kvs:jV}{k:List Int}{d:ad}(h:ef kvs k=none):(jW kvs k d).length=kvs.length+1:=by
 unfold jW;have:(kvs.any λp=>decide (p.1=k))=false:=by rw[pz,h];rfl
 rw[if_neg (by simp[this]),aO,bu]
theorem NZ {ts:List d3}{pre post:List ad}{d:ad}(h:pre++d::post=gy (ts.map d4)):pre.length<ts.length/\d=.tuple [.int (pre.length:Nat),d4 (eV ts (pre.length:Nat))]:=by
 unfold gy at h;have h1:=congrArg (λl=>l[pre.length]?) h;simp only[bW (al _),Nat.sub_self,aa,az,List.getElem?_zipIdx] at h1;have h2:=congrArg List.length h;rw[aO,aj,ai,List.length_zipIdx,ai] at h2;have hl:pre.length<ts.length:=by omega
 refine⟨hl,?_⟩;rw[aL hl] at h1;simp only[bg,Option.some.injEq,Nat.zero_add] at h1;rw[h1];simp[eV,ar,hl]
section
variable {n:Int}{X:XQ}{Q:ad->Int->Prop}
theorem pA {many:Int}{ts:List d3}(m0:1<=many)(m1:many<60)(ok:n8 many ts)(hl:ts.length<=30)(hq:∀kvs tr,qA many ts kvs tr->Q (gT false kvs) n):iM [dI many ts] n Q X:=by
 have hsz:au=16777216:=by decide
 have e0:dI many ts=.tuple [.int many,.tuple (ts.map d4)]:=rfl;have Va:=tY many ts;unfold iM me;simp only[ib,iT,envOf,ah,ba,aj,aJ,Nat.reduceSub,Nat.reduceAdd,aF,aP,aM,aw];with_reducible generalize YN:de (dQ 3 (uC (.bool true))) _=wh
 rw[true_and,de,GO];intro a ha;simp only[aD,aC];rw[de,oW,Nr,dh,c6,dq];simp only[aa,ac];rw[dc,zw (!1) m1 (λt ht=>by have:=ok t ht;omega)];simp only[iI,c7]
 refine l6 (λpre post env n'=>n'=n/\pre++post=((kL (dn many ts)).map λl=>dk (gN (λa=>decide (a=l)) 0 (dn many ts)))/\∃(kvs:jV) (x2:Option sM),env=[some (.s (dI many ts)),some (.d a false kvs),x2,none,none,none,none]/\Pl x2/\Fo many ts (pH (dn many ts)) kvs [] /\
  ∀l∈dn many ts,dk (gN (λa=>decide (a=l)) 0 (dn many ts))∈pre->(ef kvs [(gN (λa=>decide (a=l)) 0 (dn many ts)).headD 0]).isSome=true) _ [] _ _ ?_ ⟨rfl,rfl,[],none,rfl,Hf,Fo.nil _ _ _,!4⟩ ?_
 .rintro pre d post env n' E' hE ⟨rfl,hp,kvs,x2,rfl,Jh,F,Cv⟩ Lo
  obtain⟨l,YO,rfl⟩:∃l∈kL (dn many ts),dk (gN (λa=>decide (a=l)) 0 (dn many ts))=d:=bb.mp (hp ▸ aN pre (ao ..));have WG:l∈dn many ts:=js.mp YO;obtain⟨j,hj,M9⟩:=bT WG
  have Vb:(dn many ts).getD ((j:Int)).toNat 0=l:=by
   rw[ar,aX,aL hj,M9];rfl
  have So:(gN (λa=>decide (a=l)) 0 (dn many ts)).headD 0=pH (dn many ts) (j:Int):=by unfold pH;rw[Vb]
  have Be:=Hc (ls:=dn many ts) (v:=(j:Int)) (!1) (!1);have OC:=Lm (ls:=dn many ts) (v:=(j:Int)) (!1) (!1);rw[Vb] at Be OC;rw[<- So] at OC Be
  have Ry:pH (dn many ts) ((gN (λa=>decide (a=l)) 0 (dn many ts)).headD 0)=(gN (λa=>decide (a=l)) 0 (dn many ts)).headD 0:=by
   conv=>rhs;rw[So]
   exact Cs (by rw[OC.2.2,Vb])
  obtain⟨p,r,RA⟩:∃p r,gN (λa=>decide (a=l)) 0 (dn many ts)=p::r:=by
   cases h:gN (λa=>decide (a=l)) 0 (dn many ts) with
   | nil=>rw[h] at Be;cases Be
   | cons p r=>exact⟨p,r,rfl⟩
  have eF:=F.len;rw[gC];simp only[aD,aC];rw[vS,jq,dc];simp only[aa,ac];rw[di,c5];simp only[aa,ac]
  have ML:dZ (dk (gN (λa=>decide (a=l)) 0 (dn many ts))) (.int 0)=some (.int ((gN (λa=>decide (a=l)) 0 (dn many ts)).headD 0)):=by
   rw[RA];show dZ (.tuple (.int p::r.map .int)) (.int 0)=_;rw[dR,eJ];rfl
  rw[uC,ML,c7,Ln,c7]
  refine⟨⟨!1,Cu [_] [_,_,_,_,_] (by
   intro x hx;simp only[aM,aw,ap,br,or_false] at hx;rcases hx with rfl | rfl | rfl | rfl | rfl | rfl<;>first | exact zx _ | exact Hf)⟩,?_⟩
  simp only[aD,aC];refine Lo _ _ ⟨rfl,by rw[bL];exact hp,_,_,rfl,zx _,F.root OC.1 (!1) Ry,λl' HG hm=>?_⟩;rw[kA];split
  .rfl
  .rename_i gQ
   rcases bc.mp hm with hm | hm
   .exact Cv l' HG hm
   .exfalso
    have e:=av.mp hm
    have:gN (λa=>decide (a=l')) 0 (dn many ts)=gN (λa=>decide (a=l)) 0 (dn many ts):=by
     have:(gN (λa=>decide (a=l')) 0 (dn many ts)).map ad.int=(gN (λa=>decide (a=l)) 0 (dn many ts)).map ad.int:=by injection e
     exact List.map_inj_right (λa b h=>by injection h) |>.mp this
    rw[this] at gQ;exact gQ rfl
 .rintro pre env n' ⟨rfl,hp,kvs,x2,rfl,Jh,F,Cv⟩
  rw[bj] at hp
  have lA:∀v,0<=v->v<many->(ef kvs [pH (dn many ts) v]).isSome=true:=λv v0 v1=>by
   have hm:(dn many ts).getD v.toNat 0∈dn many ts:=bB (getD_at (!1));exact Cv _ hm (hp ▸ bb.mpr ⟨_,js.mpr hm,rfl⟩)
  clear Cv hp;show wh _ _ _;subst YN;with_reducible generalize NU:fP _ _ _=bd
  rw[de,dQ,uC];simp only[aD,aC];rw[de];unfold nD
  refine⟨λm env n2=>n2=n'/\∃(kvs:jV) (tr:List Int) (g:Bool) (x2 x4 x5 x6:Option sM),env=[some (.s (dI many ts)),some (.d a false kvs),x2,some (.s (.bool g)),x4,x5,x6]/\(Pl x2/\Pl x4/\Pl x5/\Pl x6)/\Fo many ts (pH (dn many ts)) kvs tr/\(∀v,0<=v->v<many->(ef kvs [pH (dn many ts) v]).isSome=true) /\
   (g=false->∀t∈ts,(ef kvs [t.1]).isSome=(ef kvs [t.2.1]).isSome)/\m=(if g=true then 1 else 0)+(many.toNat - kvs.length),⟨_,rfl,kvs,[],true,x2,none,none,none,rfl,⟨Jh,Hf,Hf,Hf⟩,F,lA,λz=>(by cases z),rfl⟩,?_⟩
  clear lA F Jh;rintro m env n' ⟨rfl,kvs,tr,g,x2,x4,x5,x6,rfl,⟨p2,p4,p5,p6⟩,F,lA,hg,rfl⟩;rw[dB,dq];simp only[aa,ac];rw[dw]
  cases g with
  | false =>
   rw[if_neg (!2)];show oV 1 _ _ _;rw[oV];simp only[aa,ac];refine hq kvs tr ⟨F,λv v0 v1=>?_⟩;refine (NY ok (C:=λv=>(ef kvs [v]).isSome=true) (λt ht=>by rw[hg rfl t ht]) v0 v1).mpr (lA v v0 v1)
  | true =>
   rw[if_pos rfl,de,dQ,uC];simp only[aD,aC];rw[oW,QV,di,c5];simp only[aa,ac];rw[uC,e0,dR,eC,c7];simp only[iI,c7];rw[<- e0]
   refine l6 (λpre post env RB=>RB=n'/\pre++post=gy (ts.map d4)/\∃(kv:jV) (tr:List Int) (g:Bool) (x2 x4 x5 x6:Option sM),env=[some (.s (dI many ts)),some (.d a false kv),x2,some (.s (.bool g)),x4,x5,x6]/\(Pl x2/\Pl x4/\Pl x5/\Pl x6)/\Fo many ts (pH (dn many ts)) kv tr/\(∀v,0<=v->v<many->(ef kv [pH (dn many ts) v]).isSome=true) /\
    (g=true->kvs.length<kv.length)/\(g=false->kv.length=kvs.length/\∀i:Nat,i<pre.length->(ef kv [(eV ts i).1]).isSome=(ef kv [(eV ts i).2.1]).isSome)) _ [] _ _ ?_ ⟨rfl,rfl,kvs,tr,false,x2,x4,x5,x6,rfl,⟨p2,p4,p5,p6⟩,F,lA,λz=>(by cases z),λ_=>⟨rfl,λi hi=>(by cases hi)⟩⟩ ?_
   .clear p2 p4 p5 p6 F lA hg
    rintro pre d post env RB E' hE ⟨rfl,hp,kv,tr,g,x2,x4,x5,x6,rfl,⟨p2,p4,p5,p6⟩,F,lA,Na,Cb⟩ Lo;obtain⟨m7,rfl⟩:=NZ hp;obtain⟨k,hk⟩:∃k:Int,k=(pre.length:Nat):=⟨_,rfl⟩;rw[<- hk];have OA:0<=k/\k<(ts.length:Int):=by omega
    have OD:=jE OA;have YQ:=ok _ OD;have Vc:=He ok OD;generalize ht:eV ts k=t at OD YQ Vc ⊢
    have AZ:(pre++[ad.tuple [.int (pre.length:Nat),d4 (eV ts (pre.length:Nat))]])++post=gy (ts.map d4):=by
     rw[bL];exact hp
    subst NU;rw[Ey,yE];simp only[yE,gC,aD,aC];rw[fP,dB,di,xm,di,c5];simp only[aa,ac];rw[uC,d4,dR,eJ,c7,Ln,c7,xm,di,c5];simp only[aa,ac];rw[uC,dR,eC,c7,Ln,c7,sY,c7,dw]
    have Lp:∀(g':Bool),g'=g->(ef kv [t.1]).isSome=(ef kv [t.2.1]).isSome->E'.nx [some (.s (dI many ts)),some (.d a false kv),x2,some (.s (.bool g)),some (.s (.int k)),some (.s (.tuple [.int t.1,.int t.2.1,.int t.2.2])),x6] RB:=λg' _ hs=>by
     refine Lo _ _ ⟨rfl,AZ,kv,tr,g,_,_,_,_,rfl,⟨p2,zx _,zx _,p6⟩,F,lA,Na,λz=>⟨(Cb z).1,λi hi=>?_⟩⟩;rw[aO,bu] at hi;by_cases h:i<pre.length
     .exact (Cb z).2 i h
     .have:(i:Int)=k:=by omega
      rw[this,ht];exact hs
    have Lq:∀x y w,(t.1=x/\t.2.1=y\/t.2.1=x/\t.1=y)->e8 t x=y->ef kv [x]=some (dk w)->ef kv [y]=none->de (vS 1 (dh fW (c6 (dq 5) (c6 (dq 6) dc))) (dh gK (c6 (y8 1 (c5 6)) (c6 (jq (c6 (dq 4) dc)) dc))))
      (dQ 3 (uC (.bool true))) E' [some (.s (dI many ts)),some (.d a false kv),x2,some (.s (.bool g)),some (.s (.int k)),some (.s (.tuple [.int t.1,.int t.2.1,.int t.2.2])),some (.s (.int x))] RB:=λx y w Bd YR hx hy=>by
     have YS:=F.val x _ hx;have gQ:x≠y:=by rcases Bd with⟨rfl,rfl⟩ | ⟨rfl,rfl⟩<;>omega
     have WH:0<=y/\y<many:=by rcases Bd with⟨rfl,rfl⟩ | ⟨rfl,rfl⟩<;>omega
     have Vd:pH (dn many ts) y=pH (dn many ts) x:=by rcases Bd with⟨rfl,rfl⟩ | ⟨rfl,rfl⟩<;>first | exact Vc | exact Vc.symm
     obtain⟨_,_,w2,ew,YT,YU,_⟩:=YS
     have e:w2=w:=by
      have:w2.map ad.int=w.map ad.int:=by injection ew.symm
      exact List.map_inj_right (λa b h=>by injection h) |>.mp this
     subst e;have RZ:=rR YT YU F.num;have F2:=F.grow (k:=k) (x:=x) (y:=y) (w:=w2) OA (by rw[ht];exact Bd) gQ WH.1 WH.2 hx hy Vd;have YV:=JX (d:=dk (gJ (w2++[k]))) hy;have eF:=F.len;rw[de,vS,dh,c6,y8];simp only[aa,ac];rw[c5];simp only[aa,ac];rw[Ln,c7,hx,c7,c6,jq,c6,dq];simp only[aa,ac];rw[dc,dc];rw[show ad.tuple [.int k]=dk [k] from rfl,mF (by simp;omega)];try simp only[aa,ac]
     rw[dh,c6,dq];simp only[aa,ac];rw[c6,dq];simp only[aa,ac];rw[dc,show ad.tuple [.int t.1,.int t.2.1,.int t.2.2]=d4 t from rfl,lx,YR,Ln,c7]
     refine⟨⟨!1,Cu [_] [_,_,_,_,_] (by
      intro z hz;simp only[aM,aw,ap,br,or_false] at hz;rcases hz with rfl | rfl | rfl | rfl | rfl | rfl<;>first | exact zx _ | exact p2)⟩,?_⟩
     simp only[aD,aC];rw[dQ,uC];simp only[aD,aC];refine Lo _ _ ⟨rfl,AZ,_,tr++[k],true,_,_,_,_,rfl,⟨p2,zx _,zx _,zx _⟩,F2,λv v0 v1=>?_,λ_=>?_,λz=>(by cases z)⟩
     .rw[kA]
      split
      .rfl
      .exact lA v v0 v1
     .rw[YV]
      cases g with
      | true=>have:=Na rfl;omega
      | false=>have:=(Cb rfl).1;omega
    have C5:∀v,(ef kv [v]).isSome=true->∃w,ef kv [v]=some (dk w):=λv hv=>by
     obtain⟨d,hd⟩:=bJ.mp hv;obtain⟨_,_,w,rfl,_⟩:=F.val v d hd;exact⟨w,hd⟩
    have vG:∀v,(ef kv [v]).isSome=false->ef kv [v]=none:=λv hv=>by simpa using hv
    have Ve:e8 t t.1=t.2.1:=if_pos rfl;have Vf:e8 t t.2.1=t.1:=if_neg (!1)
    cases HH:(ef kv [t.1]).isSome with
    | true =>
     cases GZ:(ef kv [t.2.1]).isSome with
     | true =>
      rw[if_neg (!2),eU];exact Lp g rfl (by rw[HH,GZ])
     | false =>
      obtain⟨w,hw⟩:=C5 _ HH;rw[if_pos (!2),de,dQ,Jt,dB,xm,di,c5];simp only[aa,ac];rw[uC,dR,eJ,c7,Ln,c7,HH,dw,if_pos rfl,di,c5];simp only[aa,ac];rw[uC,dR,eJ,c7];simp only[aD,aC];exact Lq t.1 t.2.1 w (.inl ⟨rfl,rfl⟩) Ve hw (vG _ GZ)
    | false =>
     cases GZ:(ef kv [t.2.1]).isSome with
     | true =>
      obtain⟨w,hw⟩:=C5 _ GZ;rw[if_pos (!2),de,dQ,Jt,dB,xm,di,c5];simp only[aa,ac];rw[uC,dR,eJ,c7,Ln,c7,HH,dw,if_neg (!2),di,c5];simp only[aa,ac];rw[uC,dR,eC,c7];simp only[aD,aC];exact Lq t.2.1 t.1 w (.inr ⟨rfl,rfl⟩) Vf hw (vG _ HH)
     | false =>
      rw[if_neg (!2),eU];exact Lp g rfl (by rw[HH,GZ])
   .rintro pre env RB ⟨rfl,hp,kv,tr,g,x2,x4,x5,x6,rfl,ps,F2,JY,Na,Cb⟩
    rw[bj] at hp;have m7:pre.length=ts.length:=by rw[hp];simp[gy]
    have eF:=F2.len;have WI:=F.len;refine⟨_,?_,rfl,kv,tr,g,x2,x4,x5,x6,rfl,ps,F2,JY,λz t ht=>?_,rfl⟩
    .cases g with
     | true=>have:=Na rfl;simp only[if_true];omega
     | false=>have:=(Cb rfl).1;simp only[if_true,bR,if_false];omega
    .obtain⟨i,hi,rfl⟩:=bT ht
     have:=(Cb z).2 i (!1);rwa [show eV ts (i:Int)=ts[i] by simp[eV,ar,hi]] at this
end
noncomputable def je (kvs:jV)(v:Int):List Int:=match ef kvs [v] with
 | some (.tuple ds)=>(fh ds).getD []
 | _=>[]
theorem JZ {kvs:jV}{v:Int}{w:List Int}(h:ef kvs [v]=some (dk w)):je kvs v=w:=by
 unfold je;rw[h];show (fh (w.map .int)).getD []=w;rw[fq];rfl
def f' (ts:List d3)(kvs:jV)(k:Int):List Int:=gJ ([k]++gJ (je kvs (eV ts k).1++je kvs (eV ts k).2.1))
section
variable {many:Int}{ts:List d3}{kvs:jV}{tr:List Int}
theorem qA.way (h:qA many ts kvs tr){v:Int}(h0:0<=v)(h1:v<many):ef kvs [v]=some (dk (je kvs v))/\(je kvs v).Pairwise (· < ·)/\(∀k∈je kvs v,k∈tr)/\∀u,(fX ts (je kvs v)).count u % 2=(bI (u=v)+bI (u=pH (dn many ts) v)) % 2:=by
 obtain⟨d,hd⟩:=bJ.mp (h.all v h0 h1);obtain⟨_,_,w,rfl,hw⟩:=h.fo.val v d hd;rw[JZ hd];exact⟨hd,hw⟩
theorem qA.RC (h:qA many ts kvs tr){v:Int}(h0:0<=v)(h1:v<many):(je kvs v).length<=ts.length:=rR (h.way h0 h1).2.1 (h.way h0 h1).2.2.1 h.fo.num
theorem tZ {l:List Int}{k:Int}(h:k∈gJ l):k∈l:=cg.mp (by have:=kz.mp h;omega)
theorem zy (h:qA many ts kvs tr)(ok:n8 many ts){k:Int}(hk:0<=k/\k<(ts.length:Int)):∀j∈f' ts kvs k,j=k\/j∈tr:=λj hj=>by
 have ht:=ok _ (jE hk);rcases bc.mp (tZ hj) with h1 | h1
 .exact .inl (av.mp h1)
 .rcases bc.mp (tZ h1) with h1 | h1
  .exact .inr ((h.way ht.1 (!1)).2.2.1 j h1)
  .exact .inr ((h.way (!1) ht.2.2).2.2.1 j h1)
theorem t9 (h:qA many ts kvs tr)(ok:n8 many ts){k:Int}(hk:0<=k/\k<(ts.length:Int)):mE ts (f' ts kvs k):=λj hj=>by
 rcases zy h ok hk j hj with rfl | h1
 .exact hk
 .exact h.fo.num j h1
theorem rS (ts:List d3)(kvs:jV)(k:Int):(f' ts kvs k).Pairwise (· < ·):=xu _
theorem qB (h:qA many ts kvs tr)(ok:n8 many ts){k:Int}(hk:0<=k/\k<(ts.length:Int)):ky ts (f' ts kvs k):=λu=>by
 have OD:=jE hk;have ht:=ok _ OD;obtain⟨_,a1,_,a2⟩:=h.way ht.1 (!1);obtain⟨_,c1,_,c2⟩:=h.way (show 0<=(eV ts k).2.1 by omega) ht.2.2;have h1:=n6 (ts:=ts) (ni a1) (ni c1) u;have h2:=n6 (ts:=ts) (by simp:[k].Nodup) (pw (je kvs (eV ts k).1++je kvs (eV ts k).2.1)) u
 have h3:(fX ts [k]).count u=bI (u=(eV ts k).1)+bI (u=(eV ts k).2.1):=by
  show (kx ts k++[]).count u=_;rw[bj];exact tX (.inl ⟨rfl,rfl⟩) u
 have h4:=a2 u;have h5:=c2 u;rw[He ok OD] at h4;unfold f';generalize bI (u=(eV ts k).1)=A at h3 h4;generalize bI (u=(eV ts k).2.1)=B at h3 h5;generalize bI (u=pH (dn many ts) (eV ts k).2.1)=C at h4 h5;omega
theorem Bh (h:qA many ts kvs tr)(ok:n8 many ts){k:Int}(hk:0<=k/\k<(ts.length:Int)){S:List Int}(hS:S.Nodup)(jG:∀j∈S,j∈f' ts kvs k)(HQ:ky ts S)(gQ:S≠[]):S.Perm (f' ts kvs k):=by
 have RD:=ni (rS ts kvs k);have hT:∀(U:List Int),U.Nodup->(∀j∈U,j∈f' ts kvs k/\j≠k)->ky ts U->U=[]:=λU hU hs he=>h.fo.free U hU (λj hj=>(zy h ok hk j (hs j hj).1).resolve_left (hs j hj).2) he;by_cases Rx:k∈S
 .have Lr:ky ts ((f' ts kvs k).filter λj=>!decide (j∈S)):=λv=>by
   have h1:=qz (ts:=ts) RD hS jG v;have h2:=HQ v;have h3:=qB h ok hk v;omega
  have h0:=hT _ (RD.filter _) (λj hj=>⟨(aE.mp hj).1,λz=>by
   have:=(aE.mp hj).2;rw[z] at this;simp[Rx] at this⟩) Lr
  refine (bY hS RD).mpr λj=>⟨jG j,λhj=>?_⟩;by_cases WJ:j∈S
  .exact WJ
  .have:j∈(f' ts kvs k).filter λj=>!decide (j∈S):=aE.mpr ⟨hj,by simp[WJ]⟩
   rw[h0] at this;cases this
 .exact absurd (hT S hS (λj hj=>⟨jG j hj,λz=>Rx (z ▸ hj)⟩) HQ) gQ
theorem Hg (h:qA many ts kvs tr)(ok:n8 many ts){k:Int}(hk:0<=k/\k<(ts.length:Int)):(f' ts kvs k).length % 2=(1+(je kvs (eV ts k).1).length+(je kvs (eV ts k).2.1).length) % 2:=by
 have ht:=ok _ (jE hk);have a1:=ni (h.way ht.1 (!1)).2.1;have c1:=ni (h.way (show 0<=(eV ts k).2.1 by omega) ht.2.2).2.1;have h1:=v8 a1 c1;have h2:=v8 (by simp:[k].Nodup) (pw (je kvs (eV ts k).1++je kvs (eV ts k).2.1));unfold f';rw[bu] at h2;omega
end
section
variable {n:Int}{X:XQ}{Q:ad->Int->Prop}
theorem qC (ts:List d3):gy (ts.map d4)=(eA 0 ts.length).map λk=>.tuple [.int k,d4 (eV ts k)]:=by
 refine List.ext_getElem? λi=>?_;unfold gy eA;rw[az,List.getElem?_zipIdx,az,az,az];by_cases hi:i<ts.length
 .rw[aL hi,aL (by simpa using hi)]
  simp[eV,ar,hi]
 .rw[bi (!1),bi (by simp;omega)]
  rfl
theorem fF {α:Type}(I:eI->Prop)(g f:α->ad)(p:α->Bool){ug:UG}{uc:UT}{ue:UX}{Q:List ad->Int->Prop}{n:Int}:∀(xs:List α) (acc:List ad) (env:eI),(∀k∈xs,∀env,I env->∃dJ,I dJ/\(∀K,ug (g k) env K=K dJ)/\(∀n Q,uc dJ n Q=Q (p k) n)/\(∀n Q,ue dJ n Q=Q (f k) n))->I env ->
  fA ug uc ue Q (xs.map g) acc env n=Q (acc++(xs.filter p).map f) n
 | [],acc,env,_,_=>by simp[fA]
 | a::xs,acc,env,h,hi=>by
  obtain⟨dJ,BH,h1,h2,h3⟩:=h a (ao ..) env hi;have ih:=λacc=>fF I g f p (ug:=ug) (uc:=uc) (ue:=ue) (Q:=Q) (n:=n) xs acc dJ (λk hk=>h k (am _ hk)) BH;rw[ah,fA,h1,h2]
  cases hp:p a with
  | true =>
   rw[if_pos rfl,h3,ih,bw hp,ah,bL];rfl
  | false=>rw[if_neg (!2),ih,bA (by simp[hp])]
theorem Hh {env:eI}{n:Int}{Q:ad->Int->Prop}{uk ud:UX}{v:Int}{kvs:jV}{d:ad}(h1:∀n Q,uk env n Q=Q (.int v) n)(h2:∀n Q,ud env n Q=Q (gT false kvs) n)(h3:ef kvs [v]=some d):vT ud uk env n Q=Q d n:=by
 rw[vT,h2,AW,c7];simp only[h1,Ln,c7,h3]
theorem J1 (w:List Int):uQ (dk w) (.tuple [])=some (.bool (!decide (w=[]))):=by
 rw[show ad.tuple []=.tuple (([]:List Int).map .int) from rfl,dk,Dv]
theorem uX {many:Int}{ts:List d3}{kvs:jV}{tr:List Int}(h:qA many ts kvs tr)(ok:n8 many ts)(hl:ts.length<=28):jc [dI many ts,gT false kvs] n Q X=Q (.list ((((eA 0 ts.length).map (f' ts kvs)).filter λw=>!decide (w=[])).map dk)) n:=by
 have e0:dI many ts=.tuple [.int many,.tuple (ts.map d4)]:=rfl;rw[e0];simp! [jc,kR,eC,JA,qC]
 rw[fF (λenv=>∃x y,env=[x,y,some (.s (gT false kvs))]) _ (λk=>dk (f' ts kvs k)) (λ_=>true) _ _ _ (λk hk env ⟨x,y,he⟩=>by
  subst he;have hk:=dU.mp hk;have OA:0<=k/\k<(ts.length:Int):=by omega
  have ht:=ok _ (jE OA);have w1:=h.way ht.1 (show (eV ts k).1<many by omega);have w2:=h.way (show 0<=(eV ts k).2.1 by omega) ht.2.2;have l1:=h.RC ht.1 (show (eV ts k).1<many by omega);have l2:=h.RC (show 0<=(eV ts k).2.1 by omega) ht.2.2;refine⟨[some (.s (.int k)),some (.s (d4 (eV ts k))),some (.s (gT false kvs))],⟨_,_,rfl⟩,λK=>by simp! [de],λn Q=>by simp! [de],λn Q=>?_⟩;rw[dh,c6,jq,c6,dq];simp only[aa,ac];rw[dc,c6,dh,c6];rw[Hh (v:=(eV ts k).1) (kvs:=kvs) (d:=dk (je kvs (eV ts k).1)) (λn Q=>by rw[d4];simp! [eJ]) (λn Q=>by simp! [de]) w1.1,c6]
  rw[Hh (v:=(eV ts k).2.1) (kvs:=kvs) (d:=dk (je kvs (eV ts k).2.1)) (λn Q=>by rw[d4];simp! [eC]) (λn Q=>by simp! [de]) w2.1,dc,mF (!1),dc,show ad.tuple [.int k]=dk [k] from rfl,mF (by
   have h1:=ee (ms:=gJ (je kvs (eV ts k).1++je kvs (eV ts k).2.1)) (ns:=je kvs (eV ts k).1++je kvs (eV ts k).2.1) (pw _) λj hj=>tZ hj;rw[aO] at h1;rw[bu];omega)]
  rfl) ⟨_,_,rfl⟩]
 rw[fK,aw];simp! [de];rw[show ((eA 0 ts.length).map λk=>dk (f' ts kvs k))=((eA 0 ts.length).map (f' ts kvs)).map dk by rw[bf];rfl]
 rw[fF (λenv=>∃x,env=[x]) dk dk (λw=>!decide (w=[])) _ _ _ (λw hw env ⟨x,he⟩=>by
  subst he;obtain⟨k,hk,rfl⟩:=bb.mp hw;have hk:=dU.mp hk;have eF:=rR (rS ts kvs k) (λj hj=>hj) (t9 h ok (by omega:0<=k/\k<(ts.length:Int)))
  exact⟨[some (.s (dk (f' ts kvs k)))],⟨_,rfl⟩,λK=>by simp! [de],λn Q=>by
   rw[dB,di,c5];simp only[aa];rw[jq,dc,J1,c7,dw],λn Q=>by simp! [de]⟩) ⟨_,rfl⟩]
 rw[aw]
end
theorem wc (p:Int->Bool):∀(m:Nat) (l:List Int),l.length<=m->(∀v,l.count v % 2=0)->(l.countP p) % 2=0
 | _,[],_,_=>rfl
 | 0,a::r,h,_=>by simp at h
 | m+1,a::r,h,he=>by
  have h1:=he a;rw[List.count_cons_self] at h1;have hm:a∈r:=cg.mp (!1);have hp:=List.perm_cons_erase hm;have hl:=hp.length_eq;rw[aj] at h hl
  have ih:=wc p m (r.erase a) (!1) λv=>by
   have h2:=he v;have h3:=hp.count_eq v;rw[cr] at h2 h3;omega
  rw[cQ,hp.countP_eq,cQ];omega
theorem Cw {ts:List d3}{side:List Int}:∀{S:List Int},(∀k∈S,¬ ((eV ts k).1∈side↔(eV ts k).2.1∈side))->(fX ts S).countP (λv=>decide (v∈side))=S.length
 | [],_=>rfl
 | k::S,h=>by
  have ih:=Cw (S:=S) λj hj=>h j (am _ hj);have hk:=h k (ao ..);rw[gM,List.countP_append,ih,aj];show [(eV ts k).1,(eV ts k).2.1].countP _+_=_;rw[cQ,cQ,List.countP_nil];generalize eV ts k=t at hk;by_cases h1:t.1∈side<;>by_cases h2:t.2.1∈side
  .exact absurd ⟨λ_=>h2,λ_=>h1⟩ hk
  .simp[h1,h2];omega
  .simp[h1,h2];omega
  .exact absurd ⟨λz=>absurd z h1,λz=>absurd z h2⟩ hk
theorem zz {ts:List d3}{side S:List Int}(h:∀k∈S,¬ ((eV ts k).1∈side↔(eV ts k).2.1∈side))(ev:ky ts S):S.length % 2=0:=by
 rw[<- Cw h];exact wc _ _ _ (al _) ev
theorem zA {ts:List d3}{x:Int}{ss:List (Int × Int)}(h:xt ts x ss x):ky ts (ss.map (·.1)):=λv=>by
 have:=rP v h;omega
noncomputable def fS (ts:List d3):List Int:=(eA 0 ts.length).filter λk=>!decide ((eV ts k).2.2=0)
def eN (ts:List d3):List d3:=(fS ts).map (eV ts)
theorem gu {ts:List d3}{k:Int}:k∈fS ts↔(0<=k/\k<(ts.length:Int))/\(eV ts k).2.2≠0:=by
 unfold fS;rw[aE,dU];simp
theorem wd {ts:List d3}{t:d3}:t∈eN ts↔t∈ts/\t.2.2≠0:=by
 unfold eN;rw[bb];constructor
 .rintro⟨k,hk,rfl⟩
  have:=gu.mp hk;exact⟨jE this.1,this.2⟩
 .rintro⟨h1,h2⟩
  obtain⟨i,hi,rfl⟩:=bT h1;have e:eV ts (i:Int)=ts[i]:=by simp[eV,ar,hi]
  exact⟨(i:Int),gu.mpr ⟨!1,by rw[e];exact h2⟩,e⟩
theorem J2 (ts:List d3):(fS ts).Nodup:=by
 have:(eA 0 ts.length).Pairwise (· < ·):=by
  unfold eA;rw[cy];exact cU.imp λh=>by omega
 exact (ni this).filter _
theorem DX (ts:List d3):(eN ts).length<=ts.length:=by
 unfold eN fS;rw[ai];have:=bQ (λk=>!decide ((eV ts k).2.2=0)) (eA 0 ts.length);rwa [gz] at this
abbrev numAt (ts:List d3)(j:Int):Int:=(fS ts).getD j.toNat 0
theorem Hi {ts:List d3}{j:Int}(h0:0<=j)(h1:j<((eN ts).length:Int)):numAt ts j∈fS ts/\eV (eN ts) j=eV ts (numAt ts j):=by
 have hl:j.toNat<(fS ts).length:=by unfold eN at h1;rw[ai] at h1;omega
 have e:numAt ts j=(fS ts)[j.toNat]:=by simp[numAt,ar,hl]
 refine⟨by rw[e];exact cc _,?_⟩;rw[e];simp[eV,eN,ar,hl]
theorem Hj {ts:List d3}{x j q:Int}(h:NT (eN ts) x j q):NT ts x (numAt ts j) q/\numAt ts j∈fS ts:=by
 obtain⟨t,h0,ht,hh⟩:=h;have hl:=(aG.mp ht).1;obtain⟨h1,h2⟩:=Hi (ts:=ts) h0 (!1);have h3:=gu.mp h1;refine⟨⟨t,h3.1.1,?_,hh⟩,h1⟩;have e1:eV (eN ts) j=t:=by simp only[eV,ar,ht];rfl
 have h4:(numAt ts j).toNat<ts.length:=by have:=h3.1;omega
 rw[<- e1,h2];generalize numAt ts j=m at h4;simp only[eV,ar];rw[aL h4];rfl
theorem zB {ts:List d3}:∀{ss:List (Int × Int)} {x y:Int},xt (eN ts) x ss y->xt ts x (ss.map λs=>(numAt ts s.1,s.2)) y/\∀s∈ss,numAt ts s.1∈fS ts
 | [],x,y,h=>⟨h,!4⟩
 | s::ss,x,y,⟨a,b⟩=>by
  obtain⟨h1,h2⟩:=Hj a;obtain⟨h3,h4⟩:=zB b;refine⟨⟨h1,h3⟩,λr hr=>?_⟩;rcases ap.mp hr with rfl | hr
  .exact h2
  .exact h4 r hr
theorem DY {ts:List d3}{i j:Int}(i0:0<=i)(i1:i<((eN ts).length:Int))(j0:0<=j)(j1:j<((eN ts).length:Int))(h:numAt ts i=numAt ts j):i=j:=by
 unfold eN at i1 j1;rw[ai] at i1 j1;have hi:i.toNat<(fS ts).length:=by omega
 have hj:j.toNat<(fS ts).length:=by omega
 have e:∀(m:Nat) (h:m<(fS ts).length),(fS ts).getD m 0=(fS ts)[m]:=λm h=>by simp[ar,h]
 rw[numAt,numAt,e _ hi,e _ hj] at h;have hp:=cq.mp (J2 ts);rcases Nat.lt_trichotomy i.toNat j.toNat with og | heq | Ru
 .exact absurd h (hp _ _ hi hj og)
 .omega
 .exact absurd h.symm (hp _ _ hj hi Ru)
def DZ (ts:List d3)(side:List Int):Prop:=∀t∈ts,t.2.2≠0->¬ (t.1∈side↔t.2.1∈side)
structure Hk (many:Int) (ts:List d3) (x:Int) (row:List Int):Prop where
 ex:∃ss:List (Int × Int),xt ts x ss x/\row=ss.map (·.1)/\ss≠[]
 nd:row.Nodup
 odd:row.length % 2=1
 num:∀k∈row,k∈fS ts
 x0:0<=x
 x1:x<many
theorem Hk.no {many:Int}{ts:List d3}{x:Int}{row:List Int}(h:Hk many ts x row)(side:List Int):¬ DZ ts side:=λhc=>by
 obtain⟨ss,hw,hr,_⟩:=h.ex;have h1:=h.odd
 have h2:=zz (ts:=ts) (side:=side) (S:=row) (λk hk=>by
  have:=gu.mp (h.num k hk);exact hc _ (jE this.1) this.2) (by rw[hr];exact zA hw)
 omega
def hV (many:Int)(kvs:jV):List Int:=(eA 0 many.toNat).filter λp=>decide ((je kvs p).length % 2=1)
theorem pB {many:Int}{us:List d3}{kvs:jV}{tr:List Int}(h:qA many us kvs tr)(ok:n8 many us)(he:∀k,0<=k->k<(us.length:Int)->(f' us kvs k).length % 2=0):∀k,0<=k->k<(us.length:Int)->¬ ((eV us k).1∈hV many kvs↔(eV us k).2.1∈hV many kvs):=λk k0 k1=>by
 have ht:=ok _ (jE ⟨k0,k1⟩);have h1:=he k k0 k1;have h2:=Hg h ok ⟨k0,k1⟩;unfold hV;rw[aE,aE,dU,dU,decide_eq_true_eq,decide_eq_true_eq];have a:(0<=(eV us k).1/\(eV us k).1<0+(many.toNat:Int)):=by omega
 have b:(0<=(eV us k).2.1/\(eV us k).2.1<0+(many.toNat:Int)):=by omega
 simp only[a,b,true_and];omega
section
variable {n:Int}{X:XQ}{Q:ad->Int->Prop}
theorem qY (many:Int)(ts:List d3)(hl:ts.length<=1000):ju [dI many ts] n Q X=Q (dk (eA 0 ts.length)) n:=by
 rw[dI];simp! [ju,nL,eC,eM,ai];rw[show lM 0 ((ts.length:Int)).toNat=(eA 0 ts.length).map .int by rw[kM,aX]];have:(-(2 ^ 62)<=(ts.length:Int)/\(ts.length:Int)<=16777216):=⟨!1,!1⟩;simp only[this,true_and];rfl
theorem Bi {many:Int}{ts:List d3}(hl:ts.length<=1000):mQ [dI many ts,.list (((eA 0 ts.length).filter λk=>decide ((eV ts k).2.2=0)).map .int)] n Q X=Q (.tuple [dI many (eN ts),dk (fS ts)]) n:=by
 have e0:dI many ts=.tuple [.int many,.tuple (ts.map d4)]:=rfl
 have hf:((eA 0 ts.length).filter λk=>!decide (k∈(eA 0 ts.length).filter λk=>decide ((eV ts k).2.2=0)))=fS ts:=by
  unfold fS;refine List.filter_congr λk hk=>?_;congr 1;rw[decide_eq_decide,aE,decide_eq_true_eq];exact⟨λh=>h.2,λh=>⟨hk,h⟩⟩
 generalize ((eA 0 ts.length).filter λk=>decide ((eV ts k).2.2=0))=no at hf ⊢;unfold mQ p9;simp only[ib,iT,envOf,ah,ba,aj,aJ,Nat.reduceSub,Nat.reduceAdd,aF,aP,aM,aw];rw[e0];simp! [eC,eM,ai];have hr:(-(2 ^ 62)<=(ts.length:Int)/\(ts.length:Int)<=16777216):=⟨!1,!1⟩;simp only[hr,true_and];rw[show lM 0 ((ts.length:Int)).toNat=(eA 0 ts.length).map .int by rw[kM,aX]]
 rw[fF (λenv=>∃x,env=[x,some (.s (.list (no.map .int)))]) ad.int ad.int (λk=>!decide (k∈no)) _ _ _ (λk hk env ⟨x,he⟩=>by
  subst he;exact⟨[some (.s (.int k)),some (.s (.list (no.map .int)))],⟨_,rfl⟩,λK=>by simp! [de],λn Q=>by simp! [nF],λn Q=>by simp! [de]⟩) ⟨_,rfl⟩]
 rw[aw,hf];simp! [ff,eJ]
 rw[fF (λenv=>∃x,env=[x,some (.s (.tuple [.int many,.tuple (ts.map d4)]))]) ad.int (λk=>d4 (eV ts k)) (λ_=>true) _ _ _ (λk hk env ⟨x,he⟩=>by
  subst he;exact⟨[some (.s (.int k)),some (.s (.tuple [.int many,.tuple (ts.map d4)]))],⟨_,rfl⟩,λK=>by simp! [de],λn Q=>by simp! [de],λn Q=>by simp! [eC,rQ (gu.mp hk).1]⟩) ⟨_,rfl⟩]
 rw[fK,aw,show ((fS ts).map λk=>d4 (eV ts k))=(eN ts).map d4 by unfold eN;rw[bf];rfl];simp! [ff];rfl
theorem Bj {many:Int}{us:List d3}(m0:1<=many)(m1:many<60)(ok:n8 many us)(hl:us.length<=28)(hq:∀kvs tr,qA many us kvs tr->Q (dk (hV many kvs)) n):mP [dI many us,dk (eA 0 us.length)] n Q X:=by
 unfold mP p8;simp only[ib,iT,envOf,ah,ba,aj,aJ,Nat.reduceSub,Nat.reduceAdd,aF,aP,aM,aw];with_reducible generalize U8:dM _=tl
 rw[true_and,de,dQ,dh,c6,dq];simp only[aa,ac];rw[dc];refine pA m0 m1 ok (!1) λkvs tr hH=>?_;simp only[aD,aC];subst U8;have e0:dI many us=.tuple [.int many,.tuple (us.map d4)]:=rfl;rw[dM,iB,c6,uL,d5,Gg,di,c5];simp only[aa,ac];rw[uC,e0,dR,eJ,c7];rw[<- e0];have hr:(-(2 ^ 62)<=many/\many<=16777216):=⟨!1,!1⟩;simp only[hr,true_and];rw[kM]
 rw[fF (λenv=>∃x,env=[x,some (.s (gT false kvs)),some (.s (dk (eA 0 us.length)))]) ad.int ad.int (λp=>decide ((je kvs p).length % 2=1)) _ _ _ (λk hk env ⟨x,he⟩=>by
  subst he;have hk:=dU.mp hk;obtain⟨w1,w2,w3,_⟩:=hH.way (v:=k) (!1) (!1);refine⟨[some (.s (.int k)),some (.s (gT false kvs)),some (.s (dk (eA 0 us.length)))],⟨_,rfl⟩,λK=>by simp! [de],λn Q=>?_,λn Q=>by simp! [de]⟩;rw[dB,di,di,iB,c6,uL,d5,pT];rw[Hh (v:=k) (kvs:=kvs) (d:=dk (je kvs k)) (λn Q=>by simp! [de]) (λn Q=>by simp! [de]) w1];rw[dk];simp only[iI,c7]
  rw[fF (λenv=>∃x,env=[x,some (.s (dk (eA 0 us.length)))]) ad.int ad.int (λ_=>true) _ _ _ (λj hj env ⟨x,he⟩=>by
   subst he;have hj:=hH.fo.num j (w3 j hj);have hm:j∈eA 0 us.length:=dU.mpr (!1);exact⟨[some (.s (.int j)),some (.s (dk (eA 0 us.length)))],⟨_,rfl⟩,λK=>by simp! [de],λn Q=>by rw[dk];simp! [mM,hm,decide_true],λn Q=>by simp! [de]⟩) ⟨_,by simp! [de];rfl⟩]
  rw[fK,aw,dc];simp! [eM,ai,o7 (show (0:Int)<2 by decide),eY];congr 1;rw[decide_eq_decide];omega) ⟨_,by simp! [de];rfl⟩]
 rw[aw,dc];simp! [ff];exact hq kvs tr hH
theorem uf {many:Int}{ts:List d3}(m0:1<=many)(m1:many<60)(ok:n8 many ts)(hl:ts.length<=28)
  (hA:∀kvs,DZ ts (hV many kvs)->Q (.tuple [.str "halves",dk (hV many kvs)]) n)
  (hB:∀x row,Hk many ts x row->Q (.tuple [.str "odd",.int x,dk row]) n):iD [dI many ts] n Q X:=by
 have e0:dI many ts=.tuple [.int many,.tuple (ts.map d4)]:=rfl;have So:=DX ts;have Hl:n8 many (eN ts):=λt ht=>ok t (wd.mp ht).1;unfold iD jZ;simp only[ib,iT,envOf,ah,ba,aj,aJ,Nat.reduceSub,Nat.reduceAdd,aF,aP,aM,aw];with_reducible generalize FH:de (dQ 2 _) _=t2
 rw[true_and,de,dQ,uL,d5,JA,di,c5];simp only[aa,ac];rw[uC,e0,dR,eC,c7];simp only[iI,c7]
 rw[qC,fF (λenv=>∃x y,env=[x,y]) (λk=>.tuple [.int k,d4 (eV ts k)]) ad.int (λk=>decide ((eV ts k).2.2=0)) _ _ _ (λk hk env ⟨x,y,he⟩=>by
  subst he;exact⟨[some (.s (.int k)),some (.s (d4 (eV ts k)))],⟨_,_,rfl⟩,λK=>by simp! [de],λn Q=>by rw[d4];simp! [o6,eY],λn Q=>by simp! [de]⟩) ⟨_,_,by simp! [de];rfl⟩]
 rw[aw,<- e0];simp only[aD,aC];subst FH;with_reducible generalize Vg:de (dQ 3 _) _=t3
 rw[de,dQ,dh,c6,dq];simp only[aa,ac];rw[c6,dq];simp only[aa,ac];rw[dc,Bi (!1)];simp only[aD,aC];subst Vg;with_reducible generalize YW:de (fP _ _ _) _=t4
 rw[de,dQ,uL,d5,pT,dh,c6,di,c5];simp only[aa,ac];rw[uC,dR,eJ,c7,c6,dh,c6,di,c5];simp only[aa,ac];rw[uC,dR,eJ,c7,dc];refine pA m0 m1 Hl (!1) λkvs tr hH=>?_;rw[dc,uX hH Hl (!1)];simp only[iI,c7]
 rw[fF (λenv=>∃x,env=[x]) dk dk (λw=>decide (w.length % 2=1)) _ _ _ (λw hw env ⟨x,he⟩=>by
  subst he
  exact⟨[some (.s (dk w))],⟨_,rfl⟩,λK=>by simp! [de],λn Q=>by
   rw[dk];simp! [eM,ai,o7 (show (0:Int)<2 by decide),eY];congr 1;rw[decide_eq_decide];omega,λn Q=>by simp! [de]⟩) ⟨_,by simp! [de];rfl⟩]
 rw[aw];simp only[aD,aC];subst YW;generalize ho:((((eA 0 (eN ts).length).map (f' (eN ts) kvs)).filter λw=>!decide (w=[])).filter λw=>decide (w.length % 2=1))=od
 have Dg:∀w,w∈od↔(∃k,(0<=k/\k<((eN ts).length:Int))/\w=f' (eN ts) kvs k)/\w.length % 2=1:=λw=>by
  rw[<- ho,aE,aE,bb,decide_eq_true_eq];constructor
  .rintro⟨⟨⟨k,hk,rfl⟩,_⟩,h2⟩
   exact⟨⟨k,by have:=dU.mp hk;omega,rfl⟩,h2⟩
  .rintro⟨⟨k,hk,rfl⟩,h2⟩
   refine⟨⟨⟨k,dU.mpr (!1),rfl⟩,?_⟩,h2⟩
   cases h:f' (eN ts) kvs k with
   | nil=>rw[h] at h2;simp at h2
   | cons a r=>rfl
 with_reducible generalize YX:de (dQ 4 _) _=t5
 rw[de,fP,dB,di,iB,c6,c5];simp only[aa,ac];rw[dc];simp only[eM,ai,c7];rw[uC,eY,c7,dw]
 cases od with
 | nil =>
  rw[if_pos (!2),dM,jq,c6,uC,c6,dh,c6,di,c5];simp only[aa,ac];rw[uC,dR,eJ,c7,c6,dh,c6,di,c5];simp only[aa,ac];rw[uC,dR,eJ,c7,dc,qY _ _ (!1),dc]
  have HQ:∀k,0<=k->k<((eN ts).length:Int)->(f' (eN ts) kvs k).length % 2=0:=λk k0 k1=>by
   have:=(Dg (f' (eN ts) kvs k));by_cases h:(f' (eN ts) kvs k).length % 2=1
   .have:=this.mpr ⟨⟨k,⟨k0,k1⟩,rfl⟩,h⟩
    cases this
   .omega
  have YY:=pB hH Hl HQ;refine Bj m0 m1 Hl (!1) λVh Z3 Vi=>?_;rw[dc];refine hA Vh λt ht hp=>?_
  have Mu:=pB Vi Hl λk k0 k1=>zz (side:=hV many kvs) (λj hj=>by
   have:=t9 Vi Hl ⟨k0,k1⟩ j hj;exact YY j this.1 this.2) (qB Vi Hl ⟨k0,k1⟩)
  obtain⟨i,hi,rfl⟩:=bT (wd.mpr ⟨ht,hp⟩);have e:eV (eN ts) (i:Int)=(eN ts)[i]:=by simp[eV,ar,hi]
  have:=Mu (i:Int) (!1) (!1);rwa [e] at this
 | cons w od =>
  obtain⟨⟨k,hk,rfl⟩,Vj⟩:=(Dg w).mp (ao ..);rw[if_neg (by simp[aj];omega),eU];show t5 _ _ _;subst YX;with_reducible generalize YZ:dM _=t6
  have RD:=ni (rS (eN ts) kvs k);have Hm:=t9 hH Hl hk;have eF:=rR (rS (eN ts) kvs k) (λj hj=>hj) Hm;rw[de,dQ,di,dh,c6,di,c5];simp only[aa,ac];rw[uC,dR,eJ,c7,c6,di,c5];simp only[aa,ac];rw[uC,ah,Lf,eJ,c7,dc];refine zp (qB hH Hl hk) RD Hm (!1) λrs Rt Ls _=>?_
  cases rs with
  | nil =>
   exfalso;have:=Ls.length_eq;simp at this;omega
  | cons r rs =>
   obtain⟨ss,hw,JU,OE,m7⟩:=(Rt r (ao ..)).ex;have Cr:=(Rt r (ao ..)).nd;have jG:∀j∈r.2,j∈f' (eN ts) kvs k:=λj hj=>Ls.mem_iff.mp (List.mem_flatten.mpr ⟨r.2,ao ..,hj⟩);have zZ:=Bh hH Hl hk Cr jG (by rw[OE];exact zA hw) (by rw[OE];simpa using JU);have Va:=zZ.length_eq;rw[uC,ah,dR,eJ,c7];simp only[aD,aC];subst YZ;rw[dM,jq,c6,uC,c6,di,c5];simp only[aa,ac];rw[uC,nh,dR,eJ,c7,c6,iB,c6,uL,d5,pT,di,c5];simp only[aa,ac];rw[uC,dR,eC,c7,dk];simp only[iI,c7];have RE:=zB hw
   rw[fF (λenv=>∃x,env=[x,some (.s (.tuple [dI many (eN ts),dk (fS ts)]))]) ad.int (λj=>.int (numAt ts j)) (λ_=>true) _ _ _ (λj hj env ⟨x,he⟩=>by
    subst he;have VI:=Hm j (jG j hj)
    have M9:j.toNat<(fS ts).length:=by
     have:(eN ts).length=(fS ts).length:=by unfold eN;rw[ai]
     omega
    have ha:lQ ((fS ts).map ad.int) j=some (.int (numAt ts j)):=by
     rw[nG VI.1 (by rw[ai];omega),az,aL M9];simp[numAt,ar,M9]
    exact⟨[some (.s (.int j)),some (.s (.tuple [dI many (eN ts),dk (fS ts)]))],⟨_,rfl⟩,λK=>by simp! [de],λn Q=>by simp! [de],λn Q=>by
     rw[dk];simp! [eC,ha]⟩) ⟨_,by simp! [de];rfl⟩]
   rw[fK,aw,dc];simp only[ff,c7];rw[dc,show (r.2.map λj=>ad.int (numAt ts j))=(r.2.map (numAt ts)).map .int by rw[bf];rfl];refine hB r.1 (r.2.map (numAt ts)) ⟨⟨ss.map λs=>(numAt ts s.1,s.2),RE.1,by rw[OE,bf,bf];rfl,by simpa using JU⟩,?_,by rw[ai];omega,λj hj=>?_,?_,?_⟩
   .refine cy.mpr (List.Pairwise.imp_of_mem ?_ Cr)
    intro a b ha hb x8 z;have h1:=Hm a (jG a ha);have h2:=Hm b (jG b hb);exact x8 (DY h1.1 h1.2 h2.1 h2.2 z)
   .rw[OE,bf] at hj
    obtain⟨s,hs,rfl⟩:=bb.mp hj;exact RE.2 s hs
   all_goals
    cases ss with
    | nil=>exact absurd rfl JU
    | cons s ss =>
     obtain⟨t,_,ht,hh⟩:=hw.1;have:=Hl t (bB ht);omega
end
abbrev RG (many:Int)(t:d3):Prop:=(0<=t.1/\t.1<t.2.1/\t.2.1<many)/\0<=t.2.2/\t.2.2<=99
structure Bk (p m many:Int) (ts:List d3):Prop where
 m0:1<=many
 m1:many<=9
 mp:many<=p
 len:ts.length<=16
 lm:(ts.length:Int)<=m
 ok:∀t∈ts,RG many t
theorem Bk.sz {p m many:Int}{ts:List d3}(w:Bk p m many ts):Sz 10000 11 2000 3 (dI many ts):=by
 have m0:=w.m0;have m1:=w.m1;have hl:=w.len
 have ht:∀d∈ts.map d4,Sz 10000 11 40 1 d:=λd hd=>by
  obtain⟨t,ht,rfl⟩:=bb.mp hd;have a:=w.ok t ht;exact (Sz.tup (uw.cons (Sz.small (B:=10000) (L:=11) (i:=t.1) (!1) (!2)) (uw.cons (Sz.small (i:=t.2.1) (!1) (!2)) (uw.cons (Sz.small (i:=t.2.2) (!1) (!2)) uw.nil)))).mono (al _) (al _) (!2) (!2)
 have h2:=uw.all ht;rw[ai] at h2;exact (Sz.tup (uw.cons (Sz.small (B:=10000) (L:=11) (i:=many) (!1) (!2)) (uw.cons (Sz.tup h2) uw.nil))).mono (al _) (al _) (!1) (!2)
section
variable {n:Int}{X:XQ}{Q:ad->Int->Prop}
theorem xw (hn:n+3<=oZ)(h:∀p:Int,0<=p->p<=99->Q (.int p) (n+3)):jQ [] n Q X:=by
 unfold jQ mf;simp only[ib,iT,envOf,ah,ba,aj,aJ,Nat.reduceSub,Nat.reduceAdd,aF,aP,aM,aw];simp! [de];refine jL (!2) (!2) (!1) λa a0 a1=>?_;simp! [zk];refine jL (!2) (!2) (!1) λb b0 b1=>?_;refine jL (!2) (!2) (!1) λc c0 c1=>?_;obtain⟨x,hx,hm⟩:=GA (xs:=[ad.int 0,.int 1,.int 2,.int 3,.int (1+a),.int b]) c0 (by simpa using c1);simp! [hx];simp only[ap,br,or_false] at hm;rw[show n+1+1+1=n+3 by omega];rcases hm with rfl | rfl | rfl | rfl | rfl | rfl<;>exact h _ (!1) (!1)
theorem n9 {p m:Int}(hp:1<=p)(Z4:p<=9)(hm:0<=m)(Y0:m<=16)(hn:n+100<=oZ)(h:∀(many:Int) (ts:List d3) (n':Int),Bk p m many ts->n<=n'->n'<=n+100->Q (dI many ts) n'):jh [.int p,.int m] n Q X:=by
 unfold jh qa;simp only[ib,iT,envOf,ah,ba,aj,aJ,Nat.reduceSub,Nat.reduceAdd,aF,aP,aM,aw];with_reducible generalize NU:de (dQ 6 _) _=bd
 simp! [de];refine jL (!1) (!1) (!1) λr r0 r1=>?_;simp! [zk];obtain⟨many,em,k0,k1⟩:∃many:Int,1+r=many/\1<=many/\many<=p:=⟨_,rfl,!1,!1⟩;rw[em];refine jL (!1) (!1) (!1) λc c0 c1=>?_;simp! [AF,intD,GB];have hj:0<=(if decide (1<many)=true then c else 0)/\(if decide (1<many)=true then c else 0)<=m:=by split<;>omega
 have S5:0<(if decide (1<many)=true then c else 0)->1<many:=by
  split
  .rename_i hh;intro _;exact of_decide_eq_true hh
  .intro z;omega
 generalize (if decide (1<many)=true then c else 0)=j at hj S5 ⊢;refine⟨!1,!1,?_⟩;refine l6 (λpre post env n'=>∃(ts:List d3) (x5 x6 x7:Option sM),env=[none,some (.s (.int p)),some (.s (.int m)),some (.s (.int many)),some (.o (ts.map d4)),x5,x6,x7]/\(∀t∈ts,RG many t)/\ts.length=pre.length/\n'=n+2+5 * pre.length/\pre.length+post.length=j.toNat) _ [] _ _ ?_ ⟨[],none,none,none,rfl,!4,rfl,by simp;omega,by simp[lM]⟩ ?_
 .rintro pre d post env n' E' hE ⟨ts,x5,x6,x7,rfl,OB,hl,rfl,hp⟩ Lo
  rw[aj] at hp;have U9:1<many:=S5 (!1);rw[gC];simp only[aD,aC];subst NU;simp! [de];refine jL (!1) (!1) (!1) λa a0 a1=>?_;simp! [zk,G6];refine jL (!1) (!1) (!1) λb b0 b1=>?_;simp! [zk,o7 (show 0<many by omega),qO,qP];have R6:=cY (a+1+b) (show many≠0 by omega);have HH:=cJ (a+1+b) (show 0<many by omega)
  have UD:(a+1+b) % many≠a:=by
   by_cases og:a+1+b<many
   .rw[Int.emod_eq_of_lt (!1) og]
    omega
   .rw[show a+1+b=(a+1+b - many)+many by omega,Int.add_emod_right,Int.emod_eq_of_lt (!1) (!1)]
    omega
  generalize (a+1+b) % many=o at R6 HH UD ⊢;refine xw (!1) λq hq Y1=>?_;rw[jt (by rw[ai];omega)];simp! [de];refine Lo _ _ ⟨ts++[(if o<a then o else a,if o > a then o else a,q)],_,_,_,(by rw[aU];rfl),λt ht=>?_,by simp[hl],by simp;omega,by simp;omega⟩;rcases bc.mp ht with ht | ht
  .exact OB t ht
  .rw[av.mp ht]
   refine⟨?_,hq,Y1⟩;show 0<=(if o<a then o else a)/\(if o<a then o else a)<(if o > a then o else a)/\(if o > a then o else a)<many;by_cases h1:o<a
   .have h2:¬ o > a:=by omega
    rw[if_pos h1,if_neg h2];omega
   .have h2:o > a:=by omega
    rw[if_neg h1,if_pos h2];omega
 .rintro pre env n' ⟨ts,x5,x6,x7,rfl,OB,hl,rfl,hp⟩
  rw[aJ] at hp;simp! [ff];exact h many ts _ ⟨k0,!1,k1,!1,!1,OB⟩ (!1) (!1)
end
theorem RH {α:Type}{a b c d:List α}(h1:a=b)(h2:c=d):a++c=b++d:=by rw[h1,h2]
def i3:Nat->List (List Int)
 | 0=>[[]]
 | k+1=>i3 k++(i3 k).map (·++[(k:Int)])
def uY (m:Nat)(r:Int):List Int:=(eA 0 m).filter λk=>decide (r / 2 ^ k.toNat % 2=1)
theorem kB (lo:Int)(m:Nat):eA lo (m+1)=eA lo m++[lo+m]:=by
 unfold eA;rw[List.range_succ,aU];rfl
theorem Hn (m k:Nat):eA 0 (m+k)=eA 0 m++(eA 0 k).map ((m:Int) + ·):=by
 induction k with
 | zero=>simp[eA]
 | succ k ih =>
  rw[<- Nat.add_assoc,kB,ih,kB,aU,bL];simp
theorem N5 {m:Nat}{r:Int}(h0:0<=r)(h1:r<2 ^ m):uY (m+1) r=uY m r:=by
 unfold uY;rw[kB,bZ]
 have:¬ (r / 2 ^ (0+(m:Int)).toNat % 2=1):=by
  rw[Int.zero_add,aX,Int.ediv_eq_zero_of_lt h0 h1];decide
 rw[bA (by simpa using this),cZ,bj]
theorem N6 {m:Nat}{r:Int}(h0:0<=r)(h1:r<2 ^ m):uY (m+1) (2 ^ m+r)=uY m r++[(m:Int)]:=by
 unfold uY;have hp:(0:Int)<2 ^ m:=Int.pow_pos (!2);rw[kB,bZ]
 have h2:(2 ^ m+r) / 2 ^ (0+(m:Int)).toNat % 2=1:=by
  rw[Int.zero_add,aX];have:=Int.add_mul_ediv_left r 1 (Int.ne_of_gt hp);rw[Int.mul_one,Int.add_comm,Int.ediv_eq_zero_of_lt h0 h1] at this;rw[this];decide
 rw[bw (by simpa using h2),cZ];refine RH (List.filter_congr λk hk=>?_) (!4);have hk:=dU.mp hk;have AZ:(0:Int)<2 ^ k.toNat:=Int.pow_pos (!2)
 have e:(2:Int) ^ m=2 ^ k.toNat * (2 * 2 ^ (m - k.toNat - 1)):=by
  rw[<- Int.pow_succ',<- Int.pow_add];congr 1;omega
 have:(2 ^ m+r) / 2 ^ k.toNat=r / 2 ^ k.toNat+2 * 2 ^ (m - k.toNat - 1):=by
  rw[e,Int.add_comm,Int.add_mul_ediv_left _ _ (Int.ne_of_gt AZ)]
 rw[this,Int.add_mul_emod_self_left]
theorem zC:∀m:Nat,i3 m=(eA 0 (2 ^ m)).map (uY m)
 | 0=>rfl
 | m+1=>by
  rw[i3,zC m,Nat.pow_succ,Nat.mul_two,Hn,aU,bf,bf];have hc:((2 ^ m:Nat):Int)=2 ^ m:=by simp
  refine RH (ca λr hr=>?_) (ca λr hr=>?_)
  .have hr:=dU.mp hr
   exact (N5 hr.1 (!1)).symm
  .have hr:=dU.mp hr
   show uY m r++[(m:Int)]=uY (m+1) (((2 ^ m:Nat):Int)+r);rw[hc,N6 hr.1 (!1)]
theorem qZ (p:Int->Bool):∀m:Nat,(eA 0 m).filter p∈i3 m
 | 0=>av.mpr rfl
 | m+1=>by
  rw[kB,bZ,i3];have ih:=qZ p m
  cases hp:p (0+(m:Int)) with
  | true =>
   refine aN _ (bb.mpr ⟨_,ih,?_⟩);rw[bw hp,cZ,Int.zero_add]
  | false =>
   refine bC _ ?_;rw[bA (by rw[hp];decide),cZ,bj];exact ih
theorem J' {i:Int}(i0:0<=i)(i1:i<512):Builtin.bitAnd i 1=i % 2:=by
 have:∀x:Fin 512,Builtin.bitAnd (x.val:Int) 1=(x.val:Int) % 2:=by decide +kernel
 have:=this ⟨i.toNat,!1⟩;rwa [show (((⟨i.toNat,!1⟩:Fin 512).val:Nat):Int)=i by show ((i.toNat:Nat):Int)=i;omega] at this
theorem Vk {m:Int}(h0:0<=m)(h1:m<=16):F5 (.int 1) (.int m)=some (.int ((2 ^ m.toNat:Nat):Int)):=by
 have Vl:(1:Int) * 2 ^ m.toNat=((2 ^ m.toNat:Nat):Int):=by simp
 simp only[F5];rw[if_pos ⟨!1,!1,!1⟩,Vl]
theorem Vm {m:Nat}(h:m<=9):2 ^ m<=512:=Nat.pow_le_pow_right (n:=2) (!2) h
theorem Ho {r k:Int}(r0:0<=r)(r1:r<512)(k0:0<=k):(AE (.int r) (.int k)).bind (λd=>Gy d (.int 1))=some (.int (r / 2 ^ k.toNat % 2)):=by
 have Sb:(0:Int)<=r / 2 ^ k.toNat:=Int.ediv_nonneg r0 (Int.le_of_lt (Int.pow_pos (!2)));have Y2:r / 2 ^ k.toNat<512:=Int.lt_of_le_of_lt (Int.ediv_le_self _ r0) r1;simp only[AE,k0,if_true,bV,Gy,J' Sb Y2]
theorem q8:∀{l:List Int} {a:Int},l.Pairwise (· < ·)->(∀k∈l,a<k)->rising a (l.map .int)=true
 | [],_,_,_=>rfl
 | k::l,a,h,ha=>by
  obtain⟨h1,h2⟩:=bX.mp h;rw[ah,rising,q8 h2 h1,Bool.and_true];exact decide_eq_true (ha k (ao ..))
theorem Bl {l:List Int}{b:Int}(h:l.Pairwise (· < ·))(h0:∀k∈l,0<=k/\k<b):g8 b (dk l)=true:=by
 rw[dk,g8,q8 h λk hk=>by have:=h0 k hk;omega,Bool.true_and,jC,List.getLast?_map]
 cases e:l.getLast? with
 | none=>rfl
 | some k =>
  have:=h0 k (List.mem_of_getLast? e);exact decide_eq_true this.2
theorem Ka (m:Nat):(eA 0 m).Pairwise (· < ·):=by
 unfold eA;rw[cy];exact cU.imp λh=>by omega
noncomputable def Hq (ts:List d3)(side:List Int):List Int:=(eA 0 ts.length).filter λk=>!(decide ((eV ts k).1∈side) == decide ((eV ts k).2.1∈side))
def zD (ts:List d3)(side:List Int):Int:=lP ts (eA 0 ts.length) - lP ts (Hq ts side)
theorem we {ts:List d3}:∀{l:List Int},(∀k∈l,0<=DR ts k)->(0<=lP ts l/\(lP ts l=0↔∀k∈l,DR ts k=0))
 | [],_=>⟨Int.le_refl _,by simp[lP]⟩
 | k::l,h=>by
  obtain⟨h1,h2⟩:=we (l:=l) λj hj=>h j (am _ hj);have h0:=h k (ao ..);have e:lP ts (k::l)=DR ts k+lP ts l:=rfl;rw[e];refine⟨!1,λhz j hj=>?_,λhz=>?_⟩
  .rcases ap.mp hj with rfl | hj
   .omega
   .exact h2.mp (!1) j hj
  .have a:=hz k (ao ..)
   have b:=h2.mpr λj hj=>hz j (am _ hj);omega
theorem D0 {ts:List d3}{side:List Int}(hp:∀t∈ts,0<=t.2.2):zD ts side=0↔DZ ts side:=by
 have h1:=Bf ts (λk=>!(decide ((eV ts k).1∈side) == decide ((eV ts k).2.1∈side))) (eA 0 ts.length)
 have h2:=we (ts:=ts) (l:=(eA 0 ts.length).filter λk=>!!(decide ((eV ts k).1∈side) == decide ((eV ts k).2.1∈side))) λk hk=>by
  have hk:=dU.mp (aE.mp hk).1;exact hp _ (jE (!1))
 unfold zD Hq;rw[show lP ts (eA 0 ts.length) - lP ts ((eA 0 ts.length).filter λk=>!(decide ((eV ts k).1∈side) == decide ((eV ts k).2.1∈side)))=lP ts ((eA 0 ts.length).filter λk=>!!(decide ((eV ts k).1∈side) == decide ((eV ts k).2.1∈side))) by omega,h2.2];constructor
 .intro h t ht gQ Vn
  obtain⟨i,hi,rfl⟩:=bT ht;have e:eV ts (i:Int)=ts[i]:=by simp[eV,ar,hi]
  refine gQ ?_;have:=h (i:Int) (aE.mpr ⟨dU.mpr (!1),by rw[e];simp[Vn]⟩);unfold DR at this;rwa [show ts.getD ((i:Int)).toNat (0,0,0)=ts[i] from e] at this
 .intro h k hk
  obtain⟨h3,h4⟩:=aE.mp hk;have hk:=dU.mp h3;refine Classical.byContradiction λgQ=>h _ (jE (!1)) gQ ?_;simpa using h4
section
variable {n:Int}{X:XQ}{Q:ad->Int->Prop}
theorem D1 {many:Int}{ts:List d3}{side:List Int}:pd [dI many ts,dk side] n Q X=Q (dk (Hq ts side)) n:=by
 rw[dI];simp! [pd,tm,eC,JA,qC]
 rw[fF (λenv=>∃x y,env=[x,y,some (.s (dk side))]) _ (λk=>.int k) (λk=>!(decide ((eV ts k).1∈side) == decide ((eV ts k).2.1∈side))) _ _ _ (λk hk env ⟨x,y,he⟩=>by
  subst he;exact⟨[some (.s (.int k)),some (.s (d4 (eV ts k))),some (.s (dk side))],⟨_,_,rfl⟩,λK=>by simp! [de],λn Q=>by rw[d4,dk];simp! [eJ,eC,mM,sY],λn Q=>by simp! [de]⟩) ⟨_,_,rfl⟩]
 simp! [ff];rfl
theorem Bm {many:Int}{ts:List d3}{side:List Int}(hp:DT ts)(hl:ts.length<=1000):mO [dI many ts,dk side] n Q X=Q (.int (zD ts side)) n:=by
 have h1:mE ts (eA 0 ts.length):=λk hk=>by have:=dU.mp hk;omega
 have h2:mE ts (Hq ts side):=λk hk=>h1 k (aE.mp hk).1
 have hw:∀n Q X,jP [dI many ts,dk side] n Q X=Q (.int (lP ts (Hq ts side))) n:=λn Q X=>by
  unfold jP ma;simp only[ib,iT,envOf,ah,ba,aj,aJ,Nat.reduceSub,Nat.reduceAdd,aF,aP,aM,aw];rw[true_and,dM,dh,c6,dq];simp only[aa,ac];rw[c6,dh,c6,dq];simp only[aa,ac];rw[c6,dq];simp only[aa,ac];rw[dc,D1,dc,qX hp h2]
 unfold mO p7;simp only[ib,iT,envOf,ah,ba,aj,aJ,Nat.reduceSub,Nat.reduceAdd,aF,aP,aM,aw];rw[true_and,dM,di,dh,c6,dq];simp only[aa,ac];rw[c6,dh,c6,dq];simp only[aa,ac];rw[dc,qY _ _ hl,dc,qX hp h1,dh,c6,dq];simp only[aa,ac];rw[c6,dq];simp only[aa,ac];rw[dc,hw,G6,c7];rfl
theorem Kb {x:Str}(h:(ad.str x).canLay0=true):lR (.str x) (.str x)=some (.bool true):=by
 rw[sX h h (by simp[ad.depth])];simp[ad.eqv]
theorem uZ {many:Int}{ts:List d3}{w:Str}{a d:ad}{b:Bool}(he:lR a (.str w)=some (.bool b)):fR [dI many ts,.str w,.tuple [a,d]] n Q X=Q (.bool (b && g8 many d)) n:=by
 have FH:mD 2 (.tuple [a,d])=true:=rfl;unfold fR gZ;simp only[ib,iT,envOf,ah,ba,aj,aJ,Nat.reduceSub,Nat.reduceAdd,aF,aP,aM,aw];rw[true_and,dM,f9,dh,c6,dq];simp only[aa,ac];rw[c6,uC,dc,g7,FH,dw,if_pos rfl,f9,di,di,c5];simp only[aa,ac];rw[uC,dR,eJ,c7,c5];simp only[aa,ac];rw[he,c7,dw]
 cases b with
 | false=>rw[if_neg (!2),Bool.false_and]
 | true =>
  rw[if_pos rfl,dh,c6,dq];simp only[aa,ac];rw[c6,di,c5];simp only[aa,ac];rw[uC,dR,eC,c7,dc,Bc,Bool.true_and]
theorem xx {many:Int}{ts:List d3}{w:Str}{d:ad}(he:mD 2 d=false):fR [dI many ts,.str w,d] n Q X=Q (.bool false) n:=by
 unfold fR gZ;simp only[ib,iT,envOf,ah,ba,aj,aJ,Nat.reduceSub,Nat.reduceAdd,aF,aP,aM,aw];rw[true_and,dM,f9,dh,c6,dq];simp only[aa,ac];rw[c6,uC,dc,g7,he,dw,if_neg (!2)]
theorem qD {many:Int}{ts:List d3}{side:List Int}(hp:DT ts)(hl:ts.length<=1000)(h1:side.Pairwise (· < ·))(h2:∀k∈side,0<=k/\k<many):fH [dI many ts,.tuple [.str "halves",dk side]] n Q X=Q (.bool (decide (zD ts side=0))) n:=by
 unfold fH iE;simp only[ib,iT,envOf,ah,ba,aj,aJ,Nat.reduceSub,Nat.reduceAdd,aF,aP,aM,aw];with_reducible generalize ht:de (fP _ _ _) (dM _)=t
 rw[true_and,de,fP,dB,dh,c6,dq];simp only[aa,ac];rw[c6,uC,c6,dq];simp only[aa,ac];rw[dc];rw[uZ (Kb (x := "halves") (!3)),Bl h1 h2,Bool.and_self,dw,if_pos rfl,dM,di,dh,c6,dq];simp only[aa,ac];rw[c6,di,c5];simp only[aa,ac];rw[uC,dR,eC,c7,dc,Bm hp hl,uC,eY,c7]
theorem Hr {ts:List d3}{x k q:Int}(h:NT ts x k q):gP ts x (.int k)=some q:=by
 obtain⟨t,h0,ht,hh⟩:=h;unfold gP;simp only[h0,if_true,ht]
 have hx:x=t.1\/x=t.2.1:=by
  rcases hh with⟨a,_⟩ | ⟨a,_⟩
  .exact .inl a.symm
  .exact .inr a.symm
 rw[if_pos hx];unfold e8;rcases hh with⟨a,b⟩ | ⟨a,b⟩
 .rw[if_pos a,b]
 .by_cases h1:t.1=x
  .rw[if_pos h1,a,<- h1,b]
  .rw[if_neg h1,b]
theorem zE {ts:List d3}:∀{ss:List (Int × Int)} {x y:Int} (j:Nat),xt ts x ss y->jT ts x j ((ss.map (·.1)).map .int)=.inr (ss.map (·.2))
 | [],x,y,j,h=>rfl
 | s::ss,x,y,j,⟨a,b⟩=>by
  rw[ah,ah,jT,Hr a];dsimp only;rw[zE (j+1) b];rfl
theorem Hs {ts:List d3}{ss:List (Int × Int)}{x:Int}(h:xt ts x ss x):iy ts (.tuple [.int x,dk (ss.map (·.1))])=some (x,ss.map (·.1),ss.map (·.2)):=by
 unfold iy dk;dsimp only;rw[zE 0 h,fq];dsimp only;rw[if_pos];exact tO h
theorem rD {many:Int}{ts:List d3}{x:Int}{row:List Int}(hp:∀t∈ts,0<=t.2.2)(hl:ts.length<=1000)(h:Hk many ts x row):fH [dI many ts,.tuple [.str "odd",.int x,dk row]] n Q X=Q (.bool true) n:=by
 obtain⟨ss,hw,hr,JU⟩:=h.ex
 have eF:row.length<=ts.length:=by
  have:=ee (ns:=eA 0 ts.length) h.nd λk hk=>dU.mpr (by have:=(gu.mp (h.num k hk)).1;omega);rwa [gz] at this
 unfold fH iE;simp only[ib,iT,envOf,ah,ba,aj,aJ,Nat.reduceSub,Nat.reduceAdd,aF,aP,aM,aw];with_reducible generalize ht:de (fP _ _ _) (dM _)=t
 rw[true_and,de,fP,dB,dh,c6,dq];simp only[aa,ac];rw[c6,uC,c6,dq];simp only[aa,ac];rw[dc];rw[xx (show mD 2 (.tuple [.str "odd",.int x,dk row])=false from rfl),dw,if_neg (!2),eU];show t _ _ _=_;subst ht;with_reducible generalize ht:dM (f9 _ _)=t
 rw[de,fP,nB,iS,dB,dh,c6,dq];simp only[aa,ac];rw[c6,uC,dc,g7];have h3:mD 3 (.tuple [.str "odd",.int x,dk row])=true:=rfl;rw[h3,dw,bS,if_neg (!2),nB,dB,di,di,c5];simp only[aa,ac];rw[uC,dR,eJ,c7,uC]
 have gQ:uQ (.str "odd") (.str "odd")=some (.bool false):=by
  unfold uQ;rw[if_pos ⟨!3,!3,by simp[ad.depth]⟩];simp[ad.eqv]
 rw[gQ,c7,dw,if_neg (!2),iS,dB,dh,c6,dq];simp only[aa,ac];rw[c6]
 have RI:∀n Q,B8 (c5 1) (B7 (uC (.int 1))) B6 [some (.s (dI many ts)),some (.s (.tuple [.str "odd",.int x,dk row]))] n Q=Q (.tuple [.int x,dk row]) n:=λn Q=>by
  simp! [K5,vP _ 1 (!2)];rfl
 rw[RI,dc,zl _ _ _ (by show (row.map ad.int).length<4000;rw[ai];omega),hr,Hs hw]
 have hc:(decide (ss.map (·.2)≠[]) && decide ((ss.map (·.1)).Nodup))=true:=by
  rw[aZ,decide_eq_true_eq,decide_eq_true_eq];exact⟨by simpa using JU,hr ▸ h.nd⟩
 dsimp only;rw[hc,dw,bS,if_neg (!2),eU];show t _ _ _=_;subst ht;rw[<- hr,dM,f9,di,di,iB,c6,di,c5];simp only[aa,ac];rw[uC,dR,o6,c7,dc,dk];simp only[eM,c7,ai];rw[uC,o7 (!2),c7,uC,eY,c7,dw,if_pos (decide_eq_true (by have:=h.odd;omega)),iB,c6,uL,d5,pT,di,c5];simp only[aa,ac];rw[uC,dR,o6,c7];simp only[iI,c7]
 rw[fF (λenv=>∃x,env=[x,some (.s (dI many ts))]) ad.int (λ_=>.bool true) (λ_=>true) _ _ _ (λk hk env ⟨y,he⟩=>by
  subst he;have hm:=gu.mp (h.num k hk);have Az:0<(eV ts k).2.2:=by have:=hp _ (jE hm.1);have:=hm.2;omega
  exact⟨[some (.s (.int k)),some (.s (dI many ts))],⟨_,rfl⟩,λK=>by simp! [de],λn Q=>by simp! [de],λn Q=>by
   rw[dI];simp! [eC,rQ hm.1];rw[d4];simp! [o6,AF,show (0:Int)<(ts.getD k.toNat (0,0,0)).2.2 from Az,decide_true]⟩) ⟨_,by simp! [de];rfl⟩]
 rw[fK,aw,dc]
 have ha:∀l:List Int,Dt [.list (l.map λ_=>ad.bool true)]=some (.bool true):=λl=>by
  rw[show (l.map λ_=>ad.bool true)=(l.map λ_=>true).map .bool by rw[bf];rfl];simp only[Dt,yR,bg];simp
 rw[ha,c7]
end
theorem wg (b:Bool)(bs:List Bool):inD (.bool b) (.list (bs.map .bool))=some (.bool (decide (b∈bs))):=by
 have hl:ad.canLayAll0 (bs.map .bool)=true:=by
  induction bs with
  | nil=>rfl
  | cons a bs ih=>simp only[ah,ad.canLayAll0,ad.canLay0,ih];rfl
 have he:((bs.map ad.bool).any λd=>ad.eqv d (.bool b))=decide (b∈bs):=by
  induction bs with
  | nil=>simp
  | cons a bs ih =>
   rw[ah,bK,ih (by simp only[ah,ad.canLayAll0,aZ] at hl;exact hl.2)];cases a<;>cases b<;>simp[ad.eqv]
 simp only[inD,B5];rw[if_pos ⟨rfl,hl,by simp[ad.depth]⟩,he];rfl
theorem Of (t:d3):K5 (d4 t) none (some 2)=some (.tuple [.int t.1,.int t.2.1]):=by
 simp only[d4,K5,xb _ 2 (!2)];rfl
theorem D2 (s:List Int)(ss:List (List Int)):inD (.list (s.map .int)) (.list (ss.map λs=>.list (s.map .int)))=some (.bool (decide (s∈ss))):=by
 have hl:ad.canLayAll0 (ss.map λs=>ad.list (s.map .int))=true:=by
  induction ss with
  | nil=>rfl
  | cons a ss ih=>simp only[ah,ad.canLayAll0,ad.canLay0,l5,ih];rfl
 have he:((ss.map λs=>ad.list (s.map .int)).any λd=>ad.eqv d (.list (s.map .int)))=decide (s∈ss):=by
  induction ss with
  | nil=>simp
  | cons a ss ih =>
   rw[ah,bK,ih (by rw[ah] at hl;simp only[ad.canLayAll0,aZ] at hl;exact hl.2)]
   have:ad.eqv (.list (a.map .int)) (.list (s.map .int))=decide (a=s):=by
    rw[ad.eqv,sW]
   rw[this];by_cases h:a=s
   .subst h;simp
   .have h':¬ s=a:=λz=>h z.symm
    simp[h,h']
 have h0:(ad.list (s.map .int)).canLay0=true:=by simp only[ad.canLay0,l5]
 have hd:(ad.list (s.map .int)).depth<=60:=by simp only[ad.depth,yU];omega
 simp only[inD,B5];rw[if_pos ⟨h0,hl,hd⟩,he];rfl
def lB (ts:List d3)(side:List Int):Bool:=(ts.filter λt=>decide (0<t.2.2) && (decide (t.1∈side) == decide (t.2.1∈side))).isEmpty
theorem oa {ts:List d3}{side:List Int}(hp:∀t∈ts,0<=t.2.2):lB ts side=true↔DZ ts side:=by
 unfold lB DZ;rw[List.isEmpty_iff,List.filter_eq_nil_iff];refine forall_congr' λt=>forall_congr' λht=>?_;have:=hp t ht;simp only[aZ,decide_eq_true_eq,beq_iff_eq,decide_eq_decide];constructor
 .intro h gQ hi
  exact h ⟨!1,hi⟩
 .rintro h ⟨h1,h2⟩
  exact h (!1) h2
section
variable {n:Int}{X:XQ}{Q:ad->Int->Prop}
theorem nj {many:Int}{ts:List d3}{side:List Int}{S:ad}(hS:∀i:Int,inD (.int i) S=some (.bool (decide (i∈side)))):fD [dI many ts,S] n Q X=Q (.bool (lB ts side)) n:=by
 rw[dI];unfold fD kS;simp only[ib,iT,envOf,ah,ba,aj,aJ,Nat.reduceSub,Nat.reduceAdd,aF,aP,aM,aw];rw[true_and,dM,di,uL,d5,pT,di,c5];simp only[aa,ac];rw[uC,dR,eC,c7];simp only[iI,c7]
 rw[fF (λenv=>∃x,env=[x,some (.s S)]) d4 d4 (λt=>decide (0<t.2.2) && (decide (t.1∈side) == decide (t.2.1∈side))) ts _ _ (λt _ env ⟨x,he⟩=>by
  subst he;refine⟨[some (.s (d4 t)),some (.s S)],⟨_,rfl⟩,λK=>by simp! [de],λn Q=>?_,λn Q=>by simp! [de]⟩;rw[F1,dB,di,di,c5];simp only[aa,ac];rw[uC,d4,dR,o6,c7,uC];simp only[AF,c7,dw];by_cases h0:0<t.2.2
  .rw[if_pos (decide_eq_true h0),decide_eq_true h0,Bool.true_and,dB,di,di,di,c5]
   simp only[aa,ac];rw[uC,dR,eJ,c7,c5];simp only[aa,ac];rw[hS,c7,di,di,c5];simp only[aa,ac];rw[uC,dR,eC,c7,c5];simp only[aa,ac];rw[hS,c7,Gz,c7,dw]
  .rw[if_neg (by simpa using h0),decide_eq_false h0,Bool.false_and]) ⟨_,by simp! [de];rfl⟩]
 rw[aw,uL,dc,sX (G4 _) rfl (G5 _),c7];unfold lB;rw[ad.eqv,JG];cases ts.filter λt=>decide (0<t.2.2) && (decide (t.1∈side) == decide (t.2.1∈side))<;>rfl
theorem q9 {E:BX}{many:Int}{ts:List d3}{a b:ad}(hE:∀x4 x5 y,E.nx [some (.s (dI many ts)),some (.s a),some (.s b),some (.s (.int y)),x4,x5] n=E.nx [some (.s (dI many ts)),some (.s a),some (.s b),some (.s (.int y)),none,none] n):∀(ss:List (Int × Int)) (x y:Int) (x4 x5:Option sM),xt ts x ss y->(∀k∈ss.map (·.1),k∈fS ts) ->
  iK (gC 4) (de (dQ 5 (di dZ (di dZ (c5 0) (uC (.int 1))) (c5 4)))
   (de (fP (nB (dB (di ri (c5 3) (B8 (c5 5) B6 (B7 (uC (.int 2)))))) (dB (di lR (di dZ (c5 5) (uC (.int 2))) (uC (.int 0))))) (dM (uC (.bool false))) eU)
    (dQ 3 (di yt (di lL (di dZ (c5 5) (uC (.int 0))) (di dZ (c5 5) (uC (.int 1)))) (c5 3)))))
   E ((ss.map (·.1)).map .int) [some (.s (dI many ts)),some (.s a),some (.s b),some (.s (.int x)),x4,x5] n=E.nx [some (.s (dI many ts)),some (.s a),some (.s b),some (.s (.int y)),none,none] n
 | [],x,y,x4,x5,h,_=>by
  have:x=y:=h;subst this;exact hE _ _ _
 | s::ss,x,y,x4,x5,⟨h1,h2⟩,hk=>by
  have hm:=gu.mp (hk s.1 (ao ..));obtain⟨t,h0,ht,hh⟩:=h1;have e1:ts.getD s.1.toNat (0,0,0)=t:=by rw[ar,ht];rfl
  have RA:t.2.2≠0:=by have:=hm.2;rwa [show eV ts s.1=t from e1] at this
  have hq:t.1+t.2.1 - x=s.2:=by rcases hh with⟨a,b⟩ | ⟨a,b⟩<;>omega
  have hx:x∈[t.1,t.2.1]:=by rcases hh with⟨a,_⟩ | ⟨a,_⟩<;>simp[a]
  have OC:ri (.int x) (.tuple [.int t.1,.int t.2.1])=some (.bool false):=by
   rw[show ad.tuple [.int t.1,.int t.2.1]=.tuple ([t.1,t.2.1].map .int) from rfl,sZ,decide_eq_true hx];rfl
  rw[ah,ah,iK,gC];simp only[aD,aC];rw[de,dQ,di,di,c5];simp only[aa,ac];rw[uC,dI,dR,eC,c7,c5];simp only[aa,ac];rw[dR,rQ hm.1,e1,c7];simp only[aD,aC];rw[de,fP,nB,dB,di,c5];simp only[aa,ac]
  have RI:∀(e:eI) n Q,e[5]? = some (some (.s (d4 t)))->B8 (c5 5) B6 (B7 (uC (.int 2))) e n Q=Q (.tuple [.int t.1,.int t.2.1]) n:=λe n Q he=>by
   simp! [B8,c5,he,B6,B7,uC,Of]
  rw[RI _ _ _ rfl,OC,c7,dw,if_neg (!2),dB,di,di,c5];simp only[aa,ac];rw[uC,d4,dR,o6,c7,uC,eY,c7,dw,if_neg (by simpa using RA),eU];dsimp only;rw[dQ,di,di,di,c5];simp only[aa,ac];rw[uC,dR,eJ,c7,di,c5];simp only[aa,ac];rw[uC,dR,eC,c7,zk,c7,c5];simp only[aa,ac];rw[G6,c7,hq];simp only[aD,aC];exact q9 hE ss s.2 y _ _ h2 λk HI=>hk k (am _ HI)
theorem u0 {many:Int}{ts:List d3}{x:Int}{row:List Int}(hl:ts.length<=1000)(h:Hk many ts x row):g6 [dI many ts,.int x,dk row] n Q X=Q (.bool true) n:=by
 obtain⟨ss,hw,hr,JU⟩:=h.ex
 have eF:row.length<=ts.length:=by
  have:=ee (ns:=eA 0 ts.length) h.nd λk hk=>dU.mpr (by have:=(gu.mp (h.num k hk)).1;omega);rwa [gz] at this
 have RJ:(i6 row).length=row.length:=(sG (gn row) (λk=>gc (l:=row))).mpr h.nd;have Vj:=h.odd;unfold g6 kT;simp only[ib,iT,envOf,ah,ba,aj,aJ,Nat.reduceSub,Nat.reduceAdd,aF,aP,aM,aw];with_reducible generalize Vg:de (dQ 3 _) _=t3
 rw[true_and,de,fP,nB,iS,dB,mZ,c5];simp only[aa,ac];have Vo:rq "tuple" (dk row)=true:=rfl;rw[Vo,dw,bS,if_neg (!2),nB,dB,di,di,iB,c6,c5];simp only[aa,ac];rw[dc,dk];simp only[eM,c7,ai];rw[uC,o7 (!2),c7,uC,eY,c7,dw,if_neg (by rw[decide_eq_true_eq];omega),dB,di,oY,c5];simp only[aa,ac];simp only[iI,c7,fq];rw[iB,c6,c5];simp only[aa,ac];rw[dc];simp only[eM,c7,ai,Cd,RJ];simp only[show row.length<4000 by omega,true_and,dw,decide_true,bS,bR,if_false];rw[eU];show t3 _ _ _=_;subst Vg;rw[de,dQ,dq];simp only[aa,ac,aD,aC];rw[de,oW,Dq];simp only[aa,ac,iI,c7];rw[hr,q9 (λx4 x5 y=>by simp only[dM,di,c5,aa,ac]) ss x x _ _ hw (hr ▸ h.num)];dsimp only;rw[dM,di,c5];simp only[aa,ac];rw[c5];simp only[aa,ac];rw[eY,c7,decide_eq_true rfl]
end
theorem D3 (x:Str):GD (.str x) (.str x)=some (.bool false):=by simp[GD]
theorem Ht {x y:Str}(b:Bool)(h:(ad.str x).canLay0=true/\(ad.str y).canLay0=true/\ad.eqv (.str x) (.str y)=b):uQ (.str x) (.str y)=some (.bool (!b)):=by
 unfold uQ;rw[if_pos ⟨h.1,h.2.1,by simp[ad.depth]⟩,h.2.2]
theorem Hu {x y:Str}(b:Bool)(h:(ad.str x).canLay0=true/\(ad.str y).canLay0=true/\ad.eqv (.str x) (.str y)=b):lR (.str x) (.str y)=some (.bool b):=by
 rw[sX h.1 h.2.1 (by simp[ad.depth]),h.2.2]
section
variable {n:Int}{X:XQ}{Q:ad->Int->Prop}
theorem xy {p m many:Int}{ts:List d3}(w:Bk p m many ts)(hq:Q (.bool true) n):jR [dI many ts] n Q X:=by
 have e0:dI many ts=.tuple [.int many,.tuple (ts.map d4)]:=rfl;have m0:=w.m0;have m1:=w.m1;have eF:=w.len;have ok:n8 many ts:=λt ht=>(w.ok t ht).1;have Nh:∀t∈ts,0<=t.2.2:=λt ht=>(w.ok t ht).2.1;have RA:DT ts:=λt ht=>by have:=w.ok t ht;omega
 have h9:=Vm (m:=many.toNat) (!1);unfold jR mh;simp only[ib,iT,envOf,ah,ba,aj,aJ,Nat.reduceSub,Nat.reduceAdd,aF,aP,aM,aw];with_reducible generalize FH:de (dQ 2 _) _=t2
 rw[true_and,de,dQ,dh,c6,dq];simp only[aa,ac];rw[dc]
 have RE:∀(d:ad) (n:Int),t2 { nx:=λx n'=>Q ad.none n',rt:=Q } [some (.s (dI many ts)),some (.s d),none] n=de (fP (nB (iS (dB (mZ "tuple" (c5 1)))) (dB (di vR (dh fH (c6 (dq 0) (c6 (dq 1) dc))) (uC (.bool true))))) (dM (uC (.bool false))) eU)
   (de (fP (dB (di inD (uC (.bool true)) (uL (d5 (pT (c5 2)) [none,some 0] (gC 0) nE (dh fD (c6 (dq 1) (c6 (dq 0) dc))))))) (de (fP (nB (dB (di uQ (di dZ (c5 1) (uC (.int 0))) (uC (.str "halves")))) (nB (dB (di uQ (iB eM (c6 (c5 1) dc)) (uC (.int 2)))) (iS (dB (mZ "tuple" (di dZ (c5 1) (uC (.int 1)))))))) (dM (uC (.bool false))) eU)
    (dM (f9 (di inD (uL (vN (di dZ (c5 1) (uC (.int 1))))) (c5 2)) (dh fD (c6 (dq 0) (c6 (di dZ (c5 1) (uC (.int 1))) dc)))))) eU)
   (dM (f9 (di lR (di dZ (c5 1) (uC (.int 0))) (uC (.str "odd"))) (f9 (di lR (iB eM (c6 (c5 1) dc)) (uC (.int 3))) (dh g6 (c6 (dq 0) (c6 (di dZ (c5 1) (uC (.int 1))) (c6 (di dZ (c5 1) (uC (.int 2))) dc))))))))
   { nx:=λx n'=>Q ad.none n',rt:=Q } [some (.s (dI many ts)),some (.s d),some (.s (.list ((i3 many.toNat).map λs=>.list (s.map .int))))] n:=λd n=>by
  subst FH;with_reducible generalize Lr:de (fP (nB _ _) _ _) _=rest
  rw[de,dQ,uL,d5,Gg,di,uC,di,c5];simp only[aa,ac];rw[uC,e0,dR,eJ,c7,Vk (!1) (!1),c7,<- e0]
  have hr:(-(2 ^ 62)<=((2 ^ many.toNat:Nat):Int)/\((2 ^ many.toNat:Nat):Int)<=16777216):=by
   generalize (2 ^ many.toNat:Nat)=N at h9 ⊢;omega
  simp only[hr,true_and];rw[kM,aX]
  rw[fF (λenv=>∃x,env=[x,some (.s (dI many ts))]) ad.int (λr=>.list ((uY many.toNat r).map .int)) (λ_=>true) _ _ _ (λr hr env ⟨x,he⟩=>by
   subst he;have hr:=dU.mp hr
   have Y3:r<512:=by
    generalize (2 ^ many.toNat:Nat)=N at h9 hr;omega
   refine⟨[some (.s (.int r)),some (.s (dI many ts))],⟨_,rfl⟩,λK=>by simp! [de],λn Q=>by simp! [de],λn Q=>?_⟩;rw[uL,d5,Gg,di,c5];simp only[aa,ac];rw[uC,e0,dR,eJ,c7];have OE:(-(2 ^ 62)<=many/\many<=16777216):=⟨!1,!1⟩;simp only[OE,true_and];rw[kM]
   rw[fF (λenv=>∃x,env=[x,some (.s (.int r))]) ad.int ad.int (λk=>decide (r / 2 ^ k.toNat % 2=1)) _ _ _ (λk hk env ⟨x,he⟩=>by
    subst he;have hk:=dU.mp hk;have hb:=Ho hr.1 Y3 hk.1;refine⟨[some (.s (.int k)),some (.s (.int r))],⟨_,rfl⟩,λK=>by simp! [de],λn Q=>?_,λn Q=>by simp! [de]⟩;rw[dB,di,di,di,c5];simp only[aa,ac];rw[c5];simp only[aa,ac];simp only[AE,hk.1,if_true,bV] at hb;simp only[AE,hk.1,if_true,c7];rw[uC,hb,c7,uC,eY,c7,dw]) ⟨_,by simp! [de];rfl⟩]
   rw[aw];rfl) ⟨_,by simp! [de];rfl⟩]
  rw[fK,aw];simp only[aD,aC];rw[zC,bf];rfl
 have Lu:∀(d:ad) n Q,uL (d5 (pT (c5 2)) [none,some 0] (gC 0) nE (dh fD (c6 (dq 1) (c6 (dq 0) dc)))) [some (.s (dI many ts)),some (.s d),some (.s (.list ((i3 many.toNat).map λs=>.list (s.map .int))))] n Q=Q (.list (((i3 many.toNat).map (lB ts)).map .bool)) n:=λd n Q=>by
  rw[uL,d5,pT,c5];simp only[aa,ac,iI,c7]
  rw[fF (λenv=>∃x,env=[x,some (.s (dI many ts))]) (λs:List Int=>ad.list (s.map .int)) (λs=>.bool (lB ts s)) (λ_=>true) _ _ _ (λs _ env ⟨x,he⟩=>by
   subst he;refine⟨[some (.s (.list (s.map .int))),some (.s (dI many ts))],⟨_,rfl⟩,λK=>by simp! [de],λn Q=>by simp! [de],λn Q=>?_⟩;rw[dh,c6,dq];simp only[aa,ac];rw[c6,dq];simp only[aa,ac];rw[dc,nj (side:=s) λi=>pX]) ⟨_,by simp! [de];rfl⟩]
  rw[fK,aw,bf];rfl
 have RK:decide (true∈(i3 many.toNat).map (lB ts))=true↔∃s∈i3 many.toNat,DZ ts s:=by
  rw[decide_eq_true_eq,bb];exact⟨λ⟨s,h1,h2⟩=>⟨s,h1,(oa Nh).mp h2⟩,λ⟨s,h1,h2⟩=>⟨s,h1,(oa Nh).mpr h2⟩⟩
 refine uf m0 (!1) ok (!1) (λkvs hc=>?_) λx row ho=>?_
 .simp only[aD,aC]
  rw[RE];have Hv:hV many kvs∈i3 many.toNat:=qZ _ _;have WK:(hV many kvs).Pairwise (· < ·):=(Ka _).filter _;have B9:∀k∈hV many kvs,0<=k/\k<many:=λk hk=>by have:=dU.mp (aE.mp hk).1;omega
  generalize hV many kvs=side at hc Hv WK B9 ⊢;have hz:decide (zD ts side=0)=true:=decide_eq_true ((D0 Nh).mpr hc);have i1:rq "tuple" (.tuple [.str "halves",dk side])=true:=rfl;have i2:rq "tuple" (dk side)=true:=rfl;have it:vR (.bool true) (.bool true)=some (.bool false):=rfl;have n1:=Ht (x := "halves") (y := "halves") true ⟨!3,!3,!3⟩;rw[de,fP,nB,iS,dB,mZ,c5];simp only[aa,ac];rw[i1,dw,bS,if_neg (!2),dB,di,dh,c6,dq];simp only[aa,ac];rw[c6,dq];simp only[aa,ac];rw[dc,qD RA (!1) WK B9,hz,uC,it,c7,dw,if_neg (!2),eU];dsimp only;rw[de,fP,dB,di,uC,Lu,wg,c7,dw,if_pos (RK.mpr ⟨side,Hv,hc⟩),de,fP,nB,dB,di,di,c5];simp only[aa,ac];rw[uC,dR,eJ,c7,uC,n1,c7,dw,if_neg (!2),nB,dB,di,iB,c6,c5];simp only[aa,ac];rw[dc];simp only[eM,aj,aJ,c7];rw[uC,Cd,c7,dw,if_neg (!2),iS,dB,mZ,di,c5];simp only[aa,ac];rw[uC,dR,eC,c7,i2,dw,bS,if_neg (!2),eU];dsimp only;rw[dM,f9,di,uL,vN,di,c5];simp only[aa,ac];rw[uC,dR,eC,c7];have Uz:iI (dk side)=some (side.map .int):=rfl;rw[Uz,c7,c5];simp only[aa,ac];rw[D2,decide_eq_true Hv,c7,dw,if_pos rfl,dh,c6,dq];simp only[aa,ac];rw[c6,di,c5];simp only[aa,ac];rw[uC,dR,eC,c7,dc,nj (S:=dk side) (side:=side) (λi=>mM),(oa Nh).mpr hc];exact hq
 .simp only[aD,aC]
  rw[RE];have i1:rq "tuple" (.tuple [.str "odd",.int x,dk row])=true:=rfl;have it:vR (.bool true) (.bool true)=some (.bool false):=rfl;have n1:=Hu (x := "odd") (y := "odd") true ⟨!3,!3,!3⟩;rw[de,fP,nB,iS,dB,mZ,c5];simp only[aa,ac];rw[i1,dw,bS,if_neg (!2),dB,di,dh,c6,dq];simp only[aa,ac];rw[c6,dq];simp only[aa,ac];rw[dc,rD Nh (!1) ho,uC,it,c7,dw,if_neg (!2),eU];dsimp only
  rw[de,fP,dB,di,uC,Lu,wg,c7,dw,if_neg (λz=>by
   obtain⟨s,_,hs⟩:=RK.mp z;exact ho.no s hs),eU]
  dsimp only;rw[dM,f9,di,di,c5];simp only[aa,ac];rw[uC,dR,eJ,c7,uC,n1,c7,dw,if_pos rfl,f9,di,iB,c6,c5];simp only[aa,ac];rw[dc];simp only[eM,aj,aJ,c7];rw[uC,eY,c7,dw,if_pos (!2),dh,c6,dq];simp only[aa,ac];rw[c6,di,c5];simp only[aa,ac];rw[uC,dR,eC,c7,c6,di,c5];simp only[aa,ac];rw[uC,dR,o6,c7,dc,u0 (!1) ho];exact hq
theorem qE {uc:UT}{Q:List ad->Int->Prop}(hc:∀(d:ad) (n:Int) (Q:Bool->Int->Prop),n+1<=oZ->(∀b,Q b (n+1))->uc [some (.s d),none] n Q):∀(xs acc:List Int) (x:Option sM) (n:Int),n+xs.length<=oZ->(∀sub:List Int,sub.Sublist xs->Q ((acc++sub).map .int) (n+xs.length))->fA (gC 0) uc (dq 0) Q (xs.map .int) (acc.map .int) [x,none] n
 | [],acc,x,n,hn,h=>by
  have:=h [] (List.Sublist.refl _);rw[bj] at this;simpa [fA] using this
 | k::xs,acc,x,n,hn,h=>by
  rw[aj] at hn;simp only[ah,fA,gC,aC];refine hc _ _ _ (!1) λb=>?_;have e1:n+1+(xs.length:Int)=n+((xs.length+1:Nat):Int):=by omega
  cases b with
  | true =>
   simp only[if_true,dq,aa];have e2:acc.map ad.int++[.int k]=(acc++[k]).map .int:=by rw[aU];rfl
   rw[e2];refine qE hc xs (acc++[k]) _ (n+1) (!1) λsub hs=>?_;have:=h (k::sub) (hs.cons_cons k);rw[bL,e1];exact this
  | false =>
   simp only[bR,if_false];refine qE hc xs acc _ (n+1) (!1) λsub hs=>?_;have:=h sub (hs.cons k);rw[e1];exact this
theorem Bn {p m many:Int}{ts:List d3}(w:Bk p m many ts)(hn:n+9<=oZ)(h:∀us n',Bk p m many us->n<=n'->n'<=n+9->Q (dI many us) n'):mR [dI many ts] n Q X:=by
 have e0:dI many ts=.tuple [.int many,.tuple (ts.map d4)]:=rfl;have m0:=w.m0;have m1:=w.m1;unfold mR qb;simp only[ib,iT,envOf,ah,ba,aj,aJ,Nat.reduceSub,Nat.reduceAdd,aF,aP,aM,aw];with_reducible generalize ht:de (dQ 3 _) _=t
 rw[de,dQ,uL,d5,Gg,di,c5];simp only[aa,ac];rw[uC,e0,dR,eJ,c7,<- e0];have hr:(-(2 ^ 62)<=many/\many<=16777216):=⟨!1,!1⟩;simp only[hr,true_and];rw[kM];refine qE (λd n Q hn hq=>?_) _ [] _ _ (by rw[gz];omega) λsub hs=>?_
 .rw[dB,di,dh,c6,uC,dc]
  refine jL (!2) (!2) (!1) λr r0 r1=>?_;rw[uC,eY,c7,dw];exact hq _
 rw[gz,aw];simp only[aD,aC];subst ht;with_reducible generalize ht:dM _=t
 rw[de,dQ,uL,d5,pT,di,c5];simp only[aa,ac];rw[uC,e0,dR,eC,c7,<- e0];simp only[iI,c7]
 rw[fF (λenv=>∃x,env=[x,some (.s (.list (sub.map .int)))]) d4 d4 (λt=>decide (t.2.2=0) || !(decide (t.1∈sub) == decide (t.2.1∈sub))) ts _ _ (λt _ env ⟨x,he⟩=>by
  subst he;refine⟨[some (.s (d4 t)),some (.s (.list (sub.map .int)))],⟨_,rfl⟩,λK=>by simp! [de],λn Q=>?_,λn Q=>by simp! [de]⟩;rw[nB,dB,di,di,c5];simp only[aa,ac];rw[uC,d4,dR,o6,c7,uC,eY,c7,dw];by_cases h0:t.2.2=0
  .rw[if_pos (decide_eq_true h0),decide_eq_true h0,Bool.true_or]
  .rw[if_neg (by simpa using h0),decide_eq_false h0,Bool.false_or,dB,di,di,di,c5]
   simp only[aa,ac];rw[uC,dR,eJ,c7,c5];simp only[aa,ac];rw[pX,c7,di,di,c5];simp only[aa,ac];rw[uC,dR,eC,c7,c5];simp only[aa,ac];rw[pX,c7,sY,c7,dw]) ⟨_,by simp! [de];rfl⟩]
 rw[aw];simp only[aD,aC];subst ht;rw[dM,jq,c6,di,c5];simp only[aa,ac];rw[uC,e0,dR,eJ,c7,c6,iB,c6,c5];simp only[aa,ac];rw[dc];simp only[ff,c7];rw[dc];generalize WL:(ts.filter λt=>decide (t.2.2=0) || !(decide (t.1∈sub) == decide (t.2.1∈sub)))=us;have hl:us.length<=ts.length:=by rw[<- WL];exact bQ _ _
 have WG:=w.lm;have Y4:=w.len;exact h us _ ⟨w.m0,w.m1,w.mp,!1,!1,λt ht=>w.ok t (by rw[<- WL] at ht;exact (aE.mp ht).1)⟩ (!1) (!1)
theorem Hw:za { nx:=λ_ _=>False,rt:=λd _=>d=.bool true } (List.replicate 5 none) 0:=by
 have WM:oZ=1099511627776:=by decide
 unfold za;simp only[ib,iT,envOf,ah,ba,aj,aJ,Nat.reduceSub,Nat.reduceAdd,aF,aP,aM,aw];with_reducible generalize hb:de (dQ 4 _) _=b
 with_reducible generalize Y5:dM (uC (.bool true))=tr
 rw[de,sQ,c6,dh,c6,uC,c6,uC,dc];refine n9 (!2) (!2) (!2) (!2) (!1) λa1 t1 n1 w1 p1 q1=>?_;rw[c6,dh,c6,uC,c6,uC,dc];refine n9 (!2) (!2) (!2) (!2) (!1) λa2 t2 n2 w2 p2 q2=>?_;rw[dc];simp only[aD,aC];rw[de,lI];simp only[aa,ac];rw[c6,dh,c6,dh,c6,uC,c6,uC,dc];refine n9 (!2) (!2) (!2) (!2) (!1) λa3 t3 n3 w3 p3 q3=>?_;rw[dc];refine Bn w3 (!1) λu3 n4 w4 p4 q4=>?_;rw[dc];rw[jt (!4),c7];simp only[aD,aC];rw[de,oW,Nr,di,c5];simp only[aa,ac]
 have RI:∀(e:eI) n Q,e[2]? = some (some (.o [dI a1 t1,dI a2 t2,dI a3 u3]))->B8 (c5 2) B6 (B7 (uC (.int 1))) e n Q=Q (.list [dI a1 t1]) n:=λe n Q he=>by
  simp only[B8,c5,he,B6,B7,uC,K5,xb _ 1 (!2),c7];rfl
 rw[RI _ _ _ rfl,NA (!4),c7];simp only[iI,c7];refine l6 (λpre post env n'=>n'=n4/\∃x3 x4:Option sM,env=[none,none,some (.o [dI a1 t1,dI a2 t2,dI a3 u3]),x3,x4]/\∀d∈post,∃p m many ts,d=dI many ts/\Bk p m many ts) _ [] _ _ ?_ ⟨rfl,none,none,rfl,λd hd=>?_⟩ ?_
 .rintro pre d post env n' E' hE ⟨rfl,x3,x4,rfl,hp⟩ Lo
  obtain⟨p,m,many,ts,rfl,w⟩:=hp d (ao ..);have hg:Good (dI many ts):=w.sz.good (!3) (!2) (!2) (!2);rw[gC];simp only[aD,aC];subst hb;rw[de,dQ,vO,dq];simp only[aa,ac];refine⟨hg,?_⟩;simp only[aD,aC];rw[fP,nB,iS,dB,dh,c6,dq];simp only[aa,ac];rw[dc];refine xy w ?_;rw[dw,bS,if_neg (!2),dB,di,vO,dq];simp only[aa,ac];refine⟨hg,?_⟩;rw[c5];simp only[aa,ac];rw[D3,c7,dw,if_neg (!2),eU];exact Lo _ _ ⟨rfl,_,_,rfl,λe he=>hp e (am _ he)⟩
 .simp only[aM,aw,ap,br,or_false] at hd
  rcases hd with rfl | rfl | rfl | rfl
  .exact⟨_,_,_,_,rfl,w1⟩
  .exact⟨_,_,_,_,rfl,w2⟩
  .exact⟨_,_,_,_,rfl,w4⟩
  .exact⟨_,_,_,_,rfl,w1⟩
 .rintro pre env n' ⟨rfl,x3,x4,rfl,_⟩
  show tr _ _ _;subst Y5;rw[dM,uC]
end
theorem all_mk {l:W.OpenLaw}{w:World}{K:W.Frag}{h:Heap}{mg:Str->Option af}{fa:Addr}{Vp:Addr}{Vq RL:Option Addr}{Vr:Array (Option af)}{Vs RN RO RP Oa RQ:af}{eE:Addr}{xA:ClassData}{dW:Addr}{D4:ClassData}{Y6 Y7:af}{Y8 Y9:Option Addr}{WN:ClassData}{Y' Vt:Array (Option af)}{jN:Addr}{Vu:Array DictEntry}{jn:Nat}{D5 D6:Str}{Hx kC:Addr}{D7 Bo:List af}{D8 D9:Bool}{D':List Str}{Bp:Option Bool}{Ea Eb Ec:Option Addr}{Ed Ee Ef Eg Eh:Option af}{Ei Ej Ek El wj Em:af}{Eo:Array (Option af)}(X:K.In h)(G:h.Ns aS mg)(Gp:mg "law" = some (.ref fa))
  (a53:W.nsIn K aS "law" = some (some (.ref Vp)))
  (l53:K.lookup Vp=some ⟨Vs,Vq,.func (W.fnOf "law" "law" (i7 (top 53)) (fc (top 53)) (c8 (top 53)) .none RN RO RP RL Oa RQ),Vr⟩)
  (c53:W.codeIn K Oa "law" = true)
  (k53:W.keepIn K (.ref Vp)=true)
  (AF0:Dz K top [("is_whole",4),("is_tuple_of",5),("is_rising",6),("is_rising_below",7),("are_unlike",8),("odd_ones",9),("is_side",11),("is_set",12),("is_tie_number",13),("by_turns",14),("all_ties",15),("price_of",16),("cut_of",17),("parts_of",18),("places_of",19),("other_end",21),("is_step",22),("places_walked",23),("places_round",24),("is_round",26),("weight_of",28),("lack_of",29),("rings_of",31),("ring_within",32),("ways_home",33),("base_rings",34),("side_by",36),("is_side_kind",38),("rest_of",40),("halves_told",42)])
  (AF1:Dz K top [("lets_halves",43),("_law_feed",45),("_law_draw",46),("_law_price",47),("_law_web",48),("_law_two",49),("_law_leaves",50),("_law_is_odd",51),("_law_right",52)])
  (z_all:W.nsIn K aS "all" = some none)
  (z_bool:W.nsIn K aS "bool" = some none)
  (z_enumerate:W.nsIn K aS "enumerate" = some none)
  (z_int:W.nsIn K aS "int" = some none)
  (z_isinstance:W.nsIn K aS "isinstance" = some none)
  (z_len:W.nsIn K aS "len" = some none)
  (z_list:W.nsIn K aS "list" = some none)
  (z_max:W.nsIn K aS "max" = some none)
  (z_min:W.nsIn K aS "min" = some none)
  (z_range:W.nsIn K aS "range" = some none)
  (z_repr:W.nsIn K aS "repr" = some none)
  (z_set:W.nsIn K aS "set" = some none)
  (z_sorted:W.nsIn K aS "sorted" = some none)
  (z_sum:W.nsIn K aS "sum" = some none)
  (z_tuple:W.nsIn K aS "tuple" = some none)
  (na_JoinError:W.nsIn K aS "JoinError" = some (some (.ref eE)))
  (ty_JoinError:W.typeIn K (.ref eE)=some (.type "type"))
  (cl_JoinError:W.clsIn K eE=some xA)
  (na_NoWalk:W.nsIn K aS "NoWalk" = some (some (.ref dW)))
  (ty_NoWalk:W.typeIn K (.ref dW)=some (.type "type"))
  (cl_NoWalk:W.clsIn K dW=some D4)
  (lJ:K.lookup eE=some ⟨Y6,Y8,.cls WN,Y'⟩)
  (nJ:WN.ns=jN)
  (lN:K.lookup jN=some ⟨Y7,Y9,.dict Vu jn,Vt⟩)
  (sJ:yo Vu=true)
  (iJ:nsFind Vu "__init__" = none)
  (xJ:W.mroIn K eE (.type "BaseException")=some true)
  (o_NoWalk:K.lookup dW=some (PySem.excClassObj D5 D6 dW Hx D7 (.ref eE::L2.qL) D8 D' Bo D9 Bp Ea Ed Ee Ef Eg Eh "ValueError.__new__"))
  (fiNoWalk:W.findIn K (.ref dW) "__init__" = some (some (.ref kC)))
  (fnNoWalk:W.isFn K (.ref kC)=true)
  (kpNoWalk:W.keepIn K (.ref dW)=true)
  (gaNoWalk:W.findIn K (.ref dW) "__getattribute__" = some (some (.builtin "BaseException.__getattribute__")))
  (ghNoWalk:W.findIn K (.ref dW) "__getattr__" = some none)
  (saNoWalk:W.findIn K (.ref dW) "__setattr__" = some (some (.builtin "object.__setattr__")))
  (hdNoWalk:W.hasDictIn K dW=true)
  (bxNoWalk:W.mroIn K dW (.type "BaseException")=some true)
  (obNoWalk:W.mroIn K dW (.type "object")=some true)
  (hcNoWalk:W.findIn K (.ref dW) "__class__" = some (some (.builtin "object.__class__")))
  (hgNoWalk:W.specialIn K (.builtin "object.__class__") "__get__" = some (some (.builtin "getset_descriptor.__get__")))
  (tkNoWalk:W.takesIn K (.builtin "object.__class__")=some true)
  (owNoWalk:W.mroIn K dW (.ref dW)=some true)
  (veNoWalk:W.mroIn K dW (.type "ValueError")=some true)
  (upNoWalk:W.mroIn K dW (.ref eE)=some true)
  (lINoWalk:K.lookup kC=some ⟨Ei,Eb,.func (W.fnOf "__init__" "NoWalk.__init__" (i7 (vI (top 2) 0)) (fc (vI (top 2) 0)) (c8 (vI (top 2) 0)) .none Ej Ek El Ec wj Em),Eo⟩)
  (cINoWalk:W.codeIn K wj "NoWalk.__init__" = true)
  (kINoWalk:W.keepIn K (.ref kC)=true)
  (fd_NoWalk_number:W.findIn K (.ref dW) "number" = some none) :
  ∃fd:bt,(∀(s:aq) (v:af),BindsTo s fd ⟨[v],[]⟩ [("_law_script",v)])/\∀base:Heap,K.In base->base.Ns aS mg->iO l.prog w K mg base uj 20 fa fd ["_law_script"] (yT K):=by
 have e:=Gp.symm.trans (W.mg_of X G a53);cases e;have Za:=z5 (st:=top 53) l53 c53 k53;obtain⟨a4,a5,a6,a7,a8,a9,Zb,Zc,Zd,Ze,Zf,Zg,Zh,Zi,Zj,Zk,Zl,Zm,Zn,Zo,Zp,Zq,Zr,Zs,Zt,Zu,Zv,Zw,Zx,Zy,_⟩:=AF0;obtain⟨Zz,ZA,ZC,ZD,ZE,ZF,ZG,ZH,ZI,_⟩:=AF1;refine⟨W.fnOf "law" "law" (i7 (top 53)) (fc (top 53)) (c8 (top 53)) .none RN RO RP RL Oa RQ,λs v=>.of_eq rfl,λbase _ _=>?_⟩;have mG:=FT X G na_JoinError ty_JoinError cl_JoinError;have pC:=FT X G na_NoWalk ty_NoWalk cl_NoWalk;subst nJ;have ZJ:Nb K eE:=⟨_,_,_,_,_,_,_,_,_,lJ,lN,AB sJ,iJ⟩;have hZ:uO K dW eE:=⟨⟨⟨gaNoWalk,ghNoWalk,saNoWalk,hdNoWalk,bxNoWalk,obNoWalk⟩,hcNoWalk,hgNoWalk,tkNoWalk⟩,owNoWalk,veNoWalk,upNoWalk,xJ⟩;have Ep:RF K dW eE kC:=⟨⟨_,_,_,_,_,_,_,_,_,_,_,_,_,_,_,o_NoWalk⟩,fiNoWalk,fnNoWalk,kpNoWalk,hZ⟩;have Er:=z5 (st:=vI (top 2) 0) lINoWalk cINoWalk kINoWalk;let cl:Str->Addr:=λc=>(([("JoinError",eE),("NoWalk",dW)]:List (Str × Addr)).lookup c).getD 0;have Lv:cl "JoinError" = eE:=rfl;have RR:cl "NoWalk" = dW:=rfl
 have xf:XF K mg (XC cl) HP JP:=by
  refine⟨λc hc=>?_,λc hc h hh=>?_,λc hc h hh=>?_,λc hc=>?_,λc hc=>?_,λc hc f hf=>?_⟩
  .have hq:=hc
   simp only[JP,ap,br,or_false] at hq;rcases hq with rfl | rfl
   .exact mG.nm
   .exact pC.nm
  .have hq:=hc
   simp only[HP,ap,br,or_false] at hq;subst hq;rcases hh with rfl | rfl
   .exact hZ.Uw pC bxNoWalk
   .exact hZ.TV mG
  .have hq:=hc
   simp only[HP,ap,br,or_false] at hq;subst hq;have hq:=hh;simp only[JP,ap,br,or_false] at hq;rcases hq with rfl | rfl
   .exact hZ.one mG hZ.up
   .exact hZ.one pC hZ.own
  .have hq:=hc
   simp only[HP,ap,br,or_false] at hq;subst hq;exact hZ.isVal
  .have hq:=hc
   simp only[HP,ap,br,or_false] at hq;subst hq;exact hZ.ci
  .have hq:=hc
   simp only[HP,ap,br,or_false] at hq;subst hq;have ZK:f∈(["number"]:List Str):=hf;have hq:=ZK;simp only[ap,br,or_false] at hq;subst hq;exact fd_NoWalk_number
 have pk:mH l.prog w K mg base "NoWalk" (cl "NoWalk") (FN (cl "NoWalk") "number"):=G1 Er Ep ZJ pC.nm fd_NoWalk_number;have B:j9 mg:=⟨W.mg_none_of X G z_all,W.mg_none_of X G z_bool,W.mg_none_of X G z_enumerate,W.mg_none_of X G z_int,W.mg_none_of X G z_isinstance,W.mg_none_of X G z_len,W.mg_none_of X G z_list,W.mg_none_of X G z_max,W.mg_none_of X G z_min,W.mg_none_of X G z_range,W.mg_none_of X G z_repr,W.mg_none_of X G z_set,W.mg_none_of X G z_sorted,W.mg_none_of X G z_sum,W.mg_none_of X G z_tuple⟩;obtain⟨_,_,ZL,ZM⟩:=(ZA.m X G).ex;have nZ:dF l.prog w K mg base 1 "_law_feed" ["_law_script"] (rM A2 K):=NQ ZL ZM B;obtain⟨_,_,ZN,ZO⟩:=(ZC.m X G).ex;have eh:k9 l.prog w K mg base A2:=(NS ZN ZO B).draw.up (!2);have lr:lh l.prog w K mg base cl:=xq (ZH.m X G) B;have jd:lg l.prog w K mg base cl:=xp (ZG.m X G) B;have mz:mq l.prog w K mg base A2:=zi (ZD.m X G) B eh;have lp:kW l.prog w K mg base cl:=xn (a8.m X G) B;have fE:iN l.prog w K mg base cl:=zf (Zk.m X G) B;have iu:kU l.prog w K mg base cl:=A5 (a4.m X G) B;have mw:mi l.prog w K mg base cl:=zd (a6.m X G) B iu;have eZ:gi l.prog w K mg base cl:=pj (a7.m X G) B mw;have tG:tq l.prog w K mg base cl:=G2 (Zc.m X G) B eZ;have iY:iW l.prog w K mg base cl:=rA (Zd.m X G) B tG;have ji:mS l.prog w K mg base cl:=DF (Zl.m X G) B iY;have iZ:iX l.prog w K mg base cl:=rB (Zm.m X G) B fE ji pk;have eP:gB l.prog w K mg base cl:=uS (a5.m X G) B;have jA:jy l.prog w K mg base cl:=tH (Zn.m X G) B iZ iu eP xf;have nY:nR l.prog w K mg base cl:=Ba (Zo.m X G) B lp jA;have qk:qc l.prog w K mg base cl:=DE (Zb.m X G) B eZ;have jB:jz l.prog w K mg base cl:=tJ (Zw.m X G) B qk eP;have iw:kZ l.prog w K mg base cl:=A8 (Zg.m X G) B;have ix:kY l.prog w K mg base cl:=A7 (Zf.m X G) B;have tI:tu l.prog w K mg base cl:=G3 (Zh.m X G) B;have my:mn l.prog w K mg base cl:=zg (Zp.m X G) B iw tI;have qo:qd l.prog w K mg base cl:=DG (Zq.m X G) B iw ix my;have j6:j4 l.prog w K mg base cl:=uV (Zz.m X G) B nY eP jB qo;have j5:j2 l.prog w K mg base cl:=uT (Zs.m X G) B fE ji;have nX:nS l.prog w K mg base cl:=Bb (Zr.m X G) B j5;obtain⟨_,_,F9,m9⟩:=(a9.m X G).ex;have nV:tp l.prog w K mg base cl:=A4 F9 m9 B;have gL:kX l.prog w K mg base cl:=A6 (Ze.m X G) B nV;have mx:mj l.prog w K mg base cl:=ze (Zj.m X G) B;have nW:nQ l.prog w K mg base cl:=A9 (Zi.m X G) B mx;have gO:jS l.prog w K mg base cl:=zh (Zt.m X G) B fE gL nW;have ql:qf l.prog w K mg base cl:=DH (Zv.m X G) B gO;have lq:k8 l.prog w K mg base cl:=xo (Zu.m X G) B gL;have qm:qg l.prog w K mg base cl:=DI (Zx.m X G) B;have j7:j3 l.prog w K mg base cl:=uU (Zy.m X G) B nX ql ix lq gO qm;have mB:mr l.prog w K mg base cl:=zj (ZI.m X G) B lr jd j6 j7;have qp:qj l.prog w K mg base A2:=DK (ZF.m X G) B eh;have ku:qh l.prog w K mg base A2:=DJ (ZE.m X G) B eh mz;exact Rm Za B nZ mB qp ku Hw
theorem walk {l:W.OpenLaw}{q:aV}{loose:List Str}{XP:(Str->Option af)->Heap->Prop}{YP:World->Heap->Prop}{d:DefRec}{K:Params->W.Frag}(hn:l.most=some 63)(ME:d.params.defaults=[])
  (hY:∀(w:World) (h:Heap),YP w h->(K w.params).In h)
  (F:∀(w:World) (mg:Str->Option af) (fa:Addr) (h:Heap),(K w.params).In h->h.Ns aS mg->mg d.name=some (.ref fa) ->
   ∃fd:bt,(∀(s:aq) (u:af),BindsTo s fd ⟨[u],[]⟩ [("_law_script",u)])/\∀base:Heap,(K w.params).In base->base.Ns aS mg->iO l.prog w (K w.params) mg base uj 20 fa fd ["_law_script"] (yT (K w.params))) :
  W.WalkO q loose XP YP l.row.toRowW d [] (λf vs=>PySem.call f vs) :=
 L2.IC (n:=63) (k:=20) (x := "_law_script") (CX:=λ_=>uj) (sp:=λw=>yT (K w.params)) hn (!2) ME ⟨rfl,!2,!2,rfl⟩ hY F (λ_ _ a ns hl _ hS=>⟨a,ns,rfl,hS,hl,λ_=>rfl⟩) λ_ _ _ _ _ z=>z
end Odj
theorem PySem.W.Fast.tw11652491127272554213:True:=⟨⟩
theorem PySem.W.Fast.tw1799961809513871616:True:=⟨⟩
theorem PySem.W.Fast.tw16251827027044826497:True:=⟨⟩
theorem PySem.W.Fast.tw8091394708162849113:True:=⟨⟩
theorem PySem.W.Fast.tw9440099013417767956:True:=⟨⟩
theorem PySem.W.Fast.tw15939329071607770259:True:=⟨⟩
theorem PySem.W.Fast.tw16381845682461818828:True:=⟨⟩
theorem PySem.W.Fast.tw10986441548908961768:True:=⟨⟩
theorem PySem.W.Fast.tw17375686665872885566:True:=⟨⟩
theorem PySem.W.Fast.tw17793233808506278096:True:=⟨⟩
theorem PySem.W.Fast.tw7172253382834919432:True:=⟨⟩
theorem PySem.W.Fast.tw652049437740735872:True:=⟨⟩
theorem PySem.W.Fast.tw365762737471039892:True:=⟨⟩
theorem PySem.W.Fast.tw9334491264384500131:True:=⟨⟩
theorem PySem.W.Fast.tw2178921027700544686:True:=⟨⟩
theorem PySem.W.Fast.tw12478533507094113378:True:=⟨⟩
theorem PySem.W.Fast.tw16235372314196245616:True:=⟨⟩
theorem PySem.W.Fast.tw13943598479643164055:True:=⟨⟩
theorem PySem.W.Fast.tw11639157730107267733:True:=⟨⟩
theorem PySem.W.Fast.tw3954423746153085998:True:=⟨⟩
theorem PySem.W.Fast.tw1654582515812683647:True:=⟨⟩
theorem PySem.W.Fast.tw6758708611865288724:True:=⟨⟩
theorem PySem.W.Fast.tw9175992213440664494:True:=⟨⟩
theorem PySem.W.Fast.tw16859817358510763421:True:=⟨⟩
theorem PySem.W.Fast.tw3724448111356149909:True:=⟨⟩
theorem PySem.W.Fast.tw16736614612735687807:True:=⟨⟩
theorem PySem.W.Fast.tw4593436371206962035:True:=⟨⟩
theorem PySem.W.Fast.tw14091137777694053728:True:=⟨⟩
theorem PySem.W.Fast.tw5097513966466311038:True:=⟨⟩
theorem PySem.W.Fast.tw8594045001995871411:True:=⟨⟩
theorem PySem.W.Fast.tw44529087270356857:True:=⟨⟩
theorem PySem.W.Fast.tw7582045061323106149:True:=⟨⟩
theorem PySem.W.Fast.tw8102081699776093843:True:=⟨⟩
theorem PySem.W.Fast.tw4301360547653977291:True:=⟨⟩
theorem PySem.W.Fast.tw1134839089898278138:True:=⟨⟩
theorem PySem.W.Fast.tw845671591955485523:True:=⟨⟩
theorem PySem.W.Fast.tw1325487202032346583:True:=⟨⟩
theorem PySem.W.Fast.tw1660293571378390881:True:=⟨⟩
theorem PySem.W.Fast.tw3280667074014734350:True:=⟨⟩
theorem PySem.W.Fast.tw8662255444365057514:True:=⟨⟩
theorem PySem.W.Fast.tw396214802123791631:True:=⟨⟩
theorem PySem.W.Fast.tw17364618829943590459:True:=⟨⟩
theorem PySem.W.Fast.tw9477716986783061551:True:=⟨⟩
theorem PySem.W.Fast.tw15175800002502822355:True:=⟨⟩
theorem PySem.W.Fast.tw460240355980629571:True:=⟨⟩
theorem PySem.W.Fast.tw8975569370990076376:True:=⟨⟩
theorem PySem.W.Fast.tw1721751464035472148:True:=⟨⟩
theorem PySem.W.Fast.tw6724505032440827064:True:=⟨⟩
theorem PySem.W.Fast.tw16523919598376814546:True:=⟨⟩
theorem PySem.W.Fast.tw10146436111333431925:True:=⟨⟩
theorem PySem.W.Fast.tw18201434664097536130:True:=⟨⟩
theorem PySem.W.Fast.tw7187787786252526624:True:=⟨⟩
theorem PySem.W.Fast.tw407863601169746296:True:=⟨⟩
theorem PySem.W.Fast.tw7234855874970115165:True:=⟨⟩
theorem PySem.W.Fast.tw6974459226913790366:True:=⟨⟩
theorem PySem.W.Fast.tw1506275366432979201:True:=⟨⟩
theorem PySem.W.Fast.tw10662413116638323968:True:=⟨⟩
theorem PySem.W.Fast.tw2684237030411499112:True:=⟨⟩
theorem PySem.W.Fast.tw9136469459468355851:True:=⟨⟩
theorem PySem.W.Fast.tw7892414844966729841:True:=⟨⟩
theorem PySem.W.Fast.tw6035539463315591889:True:=⟨⟩
theorem PySem.W.Fast.tw17946975509906775974:True:=⟨⟩
theorem PySem.W.Fast.tw7682986050462012574:True:=⟨⟩
theorem PySem.W.Fast.tw12945034501434663016:True:=⟨⟩
theorem PySem.W.Fast.tw8215714144060068117:True:=⟨⟩
theorem PySem.W.Fast.tw5422458803825259473:True:=⟨⟩
theorem PySem.W.Fast.tw16766193289587725754:True:=⟨⟩
theorem PySem.W.Fast.tw3119083306733292787:True:=⟨⟩
theorem PySem.W.Fast.tw3305742315372621175:True:=⟨⟩
theorem PySem.W.Fast.tw16365729860687266789:True:=⟨⟩
theorem PySem.W.Fast.tw9513116116066063493:True:=⟨⟩
theorem PySem.W.Fast.tw15409730862205175339:True:=⟨⟩
theorem PySem.W.Fast.tw5679077545251866509:True:=⟨⟩
theorem PySem.W.Fast.tw11871670693148291048:True:=⟨⟩
theorem PySem.W.Fast.tw15067126191495583033:True:=⟨⟩
theorem PySem.W.Fast.tw4249237092574661165:True:=⟨⟩
theorem PySem.W.Fast.tw5860766920902174021:True:=⟨⟩
theorem PySem.W.Fast.tw2686091015989954759:True:=⟨⟩
theorem PySem.W.Fast.tw9701865707954490729:True:=⟨⟩
theorem PySem.W.Fast.tw15606431670183033226:True:=⟨⟩
theorem PySem.W.Fast.tw13370417252417594654:True:=⟨⟩
theorem PySem.W.Fast.tw9348674102261739362:True:=⟨⟩
theorem PySem.W.Fast.tw6617057121838180736:True:=⟨⟩
theorem PySem.W.Fast.tw5204014759489958046:True:=⟨⟩
theorem PySem.W.Fast.tw7508386270829908366:True:=⟨⟩
theorem PySem.W.Fast.tw11182914019585951520:True:=⟨⟩
theorem PySem.W.Fast.tw4544787758891593909:True:=⟨⟩
theorem PySem.W.Fast.tw7050736102551607185:True:=⟨⟩
theorem PySem.W.Fast.tw378636265353954250:True:=⟨⟩
theorem PySem.W.Fast.tw61902809871439561:True:=⟨⟩
theorem PySem.W.Fast.tw9074383701776093998:True:=⟨⟩
theorem PySem.W.Fast.tw1363528444142104192:True:=⟨⟩
theorem PySem.W.Fast.tw6533261107642067925:True:=⟨⟩
theorem PySem.W.Fast.tw1369036888794537209:True:=⟨⟩
theorem PySem.W.Fast.tw15484405057500640019:True:=⟨⟩
theorem PySem.W.Fast.tw4897221428118628489:True:=⟨⟩
theorem PySem.W.Fast.tw16288805575339686359:True:=⟨⟩
theorem PySem.W.Fast.tw6627572955074409100:True:=⟨⟩
theorem PySem.W.Fast.tw14143601265582863063:True:=⟨⟩
theorem PySem.W.Fast.tw13250174228076123468:True:=⟨⟩
theorem PySem.W.Fast.tw2289862700183203525:True:=⟨⟩
theorem PySem.W.Fast.tw17415292487793663465:True:=⟨⟩
theorem PySem.W.Fast.tw18421060956188650867:True:=⟨⟩
theorem PySem.W.Fast.tw6386130039974106474:True:=⟨⟩
theorem PySem.W.Fast.tw15446260300457108648:True:=⟨⟩
theorem PySem.W.Fast.tw17874567368807835622:True:=⟨⟩
theorem PySem.W.Fast.tw4445243497999771190:True:=⟨⟩
theorem PySem.W.Fast.tw434902738232323902:True:=⟨⟩
theorem PySem.W.Fast.tw2257228537352854635:True:=⟨⟩
theorem PySem.W.Fast.tw4280827830730656338:True:=⟨⟩
theorem PySem.W.Fast.tw13154690845959387670:True:=⟨⟩
theorem PySem.W.Fast.tw2793719836541850589:True:=⟨⟩
open PySem PySem.W PyProof.Rows
set_option maxRecDepth 100000 in
set_option maxHeartbeats 0 in
theorem PySem.Challenge.cw_oddjoins_k85_halves_told_holds : PySem.Challenge.rw_oddjoins_k85_halves_told.Holds := by
 w_on; o_law; k_head; (case hw=>w_witness2)
 k_fill
 refine Odj.walk (l:=PySem.Challenge.rw_oddjoins_k85_halves_told) rfl rfl (fun w h Y=>W.kIn_of Y) ?F
 case F =>
  intro w mg fa h KX G Px
  refine' Odj.all_mk KX G Px ?a53 ?l53 ?c53 ?k53 ?AF0 ?AF1 ?z_all ?z_bool ?z_enumerate ?z_int ?z_isinstance ?z_len ?z_list ?z_max ?z_min ?z_range ?z_repr ?z_set ?z_sorted ?z_sum ?z_tuple ?na_JoinError ?ty_JoinError ?cl_JoinError ?na_NoWalk ?ty_NoWalk ?cl_NoWalk ?lJ ?nJ ?lN ?sJ ?iJ ?xJ ?o_NoWalk ?fiNoWalk ?fnNoWalk ?kpNoWalk ?gaNoWalk ?ghNoWalk ?saNoWalk ?hdNoWalk ?bxNoWalk ?obNoWalk ?hcNoWalk ?hgNoWalk ?tkNoWalk ?owNoWalk ?veNoWalk ?upNoWalk ?lINoWalk ?cINoWalk ?kINoWalk ?fd_NoWalk_number
  (case a53=>k_is); (case l53=>k_is); (case c53=>k_is); (case k53=>k_is)
  (case AF0=>repeat' first | exact L2.y6 | (refine L2.GJ ?_ ?_) | (apply L2.Lh.of <;> k_is)); (case AF1=>repeat' first | exact L2.y6 | (refine L2.GJ ?_ ?_) | (apply L2.Lh.of <;> k_is)); (case z_all=>k_is); (case z_bool=>k_is)
  (case z_enumerate=>k_is); (case z_int=>k_is); (case z_isinstance=>k_is); (case z_len=>k_is)
  (case z_list=>k_is); (case z_max=>k_is); (case z_min=>k_is); (case z_range=>k_is)
  (case z_repr=>k_is); (case z_set=>k_is); (case z_sorted=>k_is); (case z_sum=>k_is)
  (case z_tuple=>k_is); (case na_JoinError=>k_is); (case ty_JoinError=>k_is); (case cl_JoinError=>k_is)
  (case na_NoWalk=>k_is); (case ty_NoWalk=>k_is); (case cl_NoWalk=>k_is); (case lJ=>k_is)
  (case nJ=>rfl); (case lN=>k_is); (case sJ=>rfl); (case iJ=>rfl)
  (case xJ=>k_is); (case o_NoWalk=>k_is); (case fiNoWalk=>k_is); (case fnNoWalk=>k_is)
  (case kpNoWalk=>k_is); (case gaNoWalk=>k_is); (case ghNoWalk=>k_is); (case saNoWalk=>k_is)
  (case hdNoWalk=>k_is); (case bxNoWalk=>k_is); (case obNoWalk=>k_is); (case hcNoWalk=>k_is)
  (case hgNoWalk=>k_is); (case tkNoWalk=>k_is); (case owNoWalk=>k_is); (case veNoWalk=>k_is)
  (case upNoWalk=>k_is); (case lINoWalk=>k_is); (case cINoWalk=>k_is); (case kINoWalk=>k_is)
  (case fd_NoWalk_number=>k_is)
